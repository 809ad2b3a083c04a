import PyProof.Rows.All
import Wide.All
import OpenK.AllK
import Wide.FinOn
import Lean
import PyProof.EqAt
import PyProof.EqKinds
import PyProof.TupleCall
import PyProof.NeKinds
import KE.KLam
import KE.KMinKey
import KE.KSortTup
import PyProof.AutoListH
import PyProof.MeetsStr
import PyProof.StrLawsJoin
import PyProof.FitsReplace
import PyProof.Rows.TupDisplay
import PyProof.ListRange
import PyProof.ZipIter
import PyProof.ListNew
import KE.KSortKey
import PyProof.StationsW
import PyProof.ExcClass2
import PyProof.ExcInit
import PyProof.ExcBaseAll.ValueError
import PyProof.RulesAs
import PyProof.NsDelKeeps
import PyProof.ExcAttrAll.ValueError
import PyProof.IsiBase
import KE.KIsAll
import PyProof.InstStoreFacts
import PySem.Challenge.RW_cutyard_k02_up_and_lowest
set_option Elab.async false
set_option linter.all false
set_option maxRecDepth 100000
namespace L2
open PySem PySem.Spec PyProof.Rows
abbrev Key:=Sum Int Str
def qij:Key→Value→Bool
  | .inl k,v=>Value.isInt k v
  | .inr x,v=>Value.isStrOf x v
def qlq (w:World):Key→Int
  | .inl k=>hashInt k
  | .inr x=>hashStr w x
theorem qaw:∀ {k:Key} {v:Value},qij k v=true→(∃ i t,k=Sum.inl i∧v=Value.int i t)∨(∃ x t,k=Sum.inr x∧v=Value.str x t)
  | .inl i,v,h=>by
    obtain ⟨t,e⟩:=Value.isInt_shape (k:=i) (v:=v) h
    exact .inl ⟨i,t,rfl,e⟩
  | .inr x,v,h=>by
    obtain ⟨t,e⟩:=Value.isStrOf_shape (x:=x) (v:=v) h
    exact .inr ⟨x,t,rfl,e⟩
theorem qiz (a b:Int):decide ((Sum.inl a:Key)=Sum.inl b)=(a == b):=by
  by_cases e:a=b
  · subst e;simp
  · have h:¬ (Sum.inl a:Key)=Sum.inl b:=fun q=>e (Sum.inl.inj q)
    rw [decide_eq_false h]
    exact (beq_eq_false_iff_ne.mpr e).symm
theorem qi8 (a b:Str):decide ((Sum.inr a:Key)=Sum.inr b)=decide (a=b):=by
  by_cases e:a=b
  · subst e;simp
  · have h:¬ (Sum.inr a:Key)=Sum.inr b:=fun q=>e (Sum.inr.inj q)
    rw [decide_eq_false h,decide_eq_false e]
theorem qis (a:Int) (b:Str):decide ((Sum.inl a:Key)=Sum.inr b)=false:=decide_eq_false (fun q=>nomatch q)
theorem qjd (a:Str) (b:Int):decide ((Sum.inr a:Key)=Sum.inl b)=false:=decide_eq_false (fun q=>nomatch q)
def qdV (prog:Program) (w:World):PySem.KeyKind prog w Key where
  is:=qij
  hash:=qlq w
  inj:=fun v a b ha hb=>by
    rcases qaw ha with ⟨i,t,rfl,rfl⟩ | ⟨x,t,rfl,rfl⟩
    · rcases qaw hb with ⟨j,u,rfl,e⟩ | ⟨y,u,rfl,e⟩
      · injection e with e1 _;rw [e1]
      · exact nomatch e
    · rcases qaw hb with ⟨j,u,rfl,e⟩ | ⟨y,u,rfl,e⟩
      · exact nomatch e
      · injection e with e1 _;rw [e1]
  byValue:=fun k v h=>by
    rcases qaw h with ⟨i,t,rfl,rfl⟩ | ⟨x,t,rfl,rfl⟩ <;> rfl
  pyHash:=fun hv h=>by
    rcases qaw hv with ⟨i,t,rfl,rfl⟩ | ⟨x,t,rfl,rfl⟩
    · exact wpAny_pyHash_int h
    · exact wpAny_pyHash_str h
  eqBool:=fun hu hv h=>by
    rcases qaw hu with ⟨i,t,rfl,rfl⟩ | ⟨x,t,rfl,rfl⟩
    · rcases qaw hv with ⟨j,u,rfl,rfl⟩ | ⟨y,u,rfl,rfl⟩
      · rw [qiz] at h;exact wpAny_eqBool_int h
      · rw [qis] at h;exact SeqAt.EqAt.int_str i t y u _ _ _ _ h
    · rcases qaw hv with ⟨j,u,rfl,rfl⟩ | ⟨y,u,rfl,rfl⟩
      · rw [qjd] at h;exact SeqAt.EqAt.str_int x t j u _ _ _ _ h
      · rw [qi8] at h;exact wpAny_eqBool_str h
  «strs»:=fun k x t v h=>by
    rcases qaw h with ⟨i,u,rfl,e⟩ | ⟨y,u,rfl,e⟩
    · exact nomatch e
    · injection e with e1 _
      subst e1
      cases v <;> rfl
inductive V where
  | non | bl (b:Bool) | int (i:Int) | str (x:Str) | byt (b:Array UInt8) | flt (b:UInt64) | ref (a:Addr) | ty (n:String)
  deriving DecidableEq
def RelV:V→Value→Prop
  | .non,u=>u=Value.none
  | .bl b,u=>u=Value.bool b
  | .int i,u=>∃ t,u=Value.int i t
  | .str x,u=>∃ t,u=Value.str x t
  | .byt b,u=>∃ t,u=Value.bytes b t
  | .flt b,u=>∃ t,u=Value.float b t
  | .ref a,u=>u=Value.ref a
  | .ty n,u=>u=Value.type n
abbrev Vals:List V→List Value→Prop:=Paired RelV
theorem Vals.length {xs:List V} {us:List Value} (r:Vals xs us):xs.length=us.length:=Paired.length r
theorem Vals.get:∀ {xs:List V} {us:List Value} {i:Nat} {x:V},Vals xs us→xs[i]?=some x→∃ u,us[i]?=some u∧RelV x u
  | _,_,_,_,.nil,e=>by simp at e
  | _,_,0,_,.cons r _,e=>by simp at e;subst e;exact ⟨_,rfl,r⟩
  | _,_,i+1,x,.cons _ t,e=>by
    obtain ⟨u,h1,h2⟩:=Vals.get (i:=i) (x:=x) t (by simpa using e)
    exact ⟨u,by simpa using h1,h2⟩
theorem Vals.append:∀ {xs ys:List V} {us ws:List Value},Vals xs us→Vals ys ws→Vals (xs++ys) (us++ws)
  | _,_,_,_,.nil,s=>s
  | _,_,_,_,.cons r t,s=>.cons r (Vals.append t s)
def qjD:Option V→Option Value→Prop
  | some v,some u=>RelV v u
  | none,none=>True
  | _,_=>False
def KV {κ:Type}:List (κ × V)→List (κ × Value)→Prop:=Paired fun (p:κ × V) (q:κ × Value)=>p.1=q.1∧RelV p.2 q.2
def kV:Key→V
  | .inl i=>.int i
  | .inr x=>.str x
inductive HO where
    | lst (xs:List V)
    | tup (xs:List V)
    | dK (kvs:List (Key × V)) | dT (kvs:List (List Key × V))
    | set (S:Int→Bool) (n:Nat)
    | ins (C dx:Addr) (fs:List (Str × V))
    | own (x:Addr)
    | xd (fs:List (Str × V))
    | met (f x:Addr)
    | rng (lo hi:Int)
    | frz (o:Obj) (u:HO)
    | tbl (ps:Array Value)
    | ext (φ:Heap→Prop)
abbrev Hp:=Addr→Option HO
def upd (H:Hp) (a:Addr) (o:HO):Hp:=fun b=>if b=a then some o else H b
theorem qae {H:Hp} {a:Addr} {o:HO}:upd H a o a=some o:=by unfold upd;rw [if_pos rfl]
theorem qad {H:Hp} {a b:Addr} {o:HO} (h:b≠a):upd H a o b=H b:=by unfold upd;rw [if_neg h]
theorem qaj {H:Hp} {a b:Addr} {o:HO} (h:H a=some o) (h':H b=none):a≠b:=by
  intro e;subst e;rw [h] at h';cases h'
def IsTupD (h:Heap) (a:Addr) (items:Array Value):Prop:=∃ o,h.get? a=some o∧(o.cls=.type "tuple"∧o.dict=none)∧∃ n,o.data=.seq items n
theorem IsTupD.tup {h:Heap} {a:Addr} {items:Array Value} (x:IsTupD h a items):IsTup h a items:=let ⟨o,e,c,d⟩:=x;⟨o,e,c.1,d⟩
theorem IsTupD.lt {h:Heap} {a:Addr} {items:Array Value} (x:IsTupD h a items):a<h.objs.size:=x.tup.lt
theorem IsTupD.new (h:Heap) (items:Array Value):IsTupD (h.push { cls:=.type "tuple",data:=.seq items }) h.objs.size items:=⟨_,Heap.get?_push_size _ rfl,⟨rfl,rfl⟩,_,rfl⟩
section
variable (P : Program) (w : World)
def ObjOk (H:Hp) (h:Heap) (a:Addr):HO→Prop
  | .lst xs=>xs.length≤sizeLine∧∃ (its:List Value) (n:Nat),Vals xs its∧h.get? a=some { cls:=.type "list",data:=.seq its.toArray n }
  | .tup xs=>xs.length≤sizeLine∧∃ its:List Value,Vals xs its∧IsTupD h a its.toArray
  | .dK kvs=>kvs.length≤sizeLine∧(a == sysModules)=false∧∃ vs,KV kvs vs∧h.DictOf (qdV P w) a vs
  | .dT kvs=>kvs.length≤sizeLine∧(a == sysModules)=false∧∃ xs:List (List Key × Addr × Value),
      Paired (fun (p:List Key × V) (q:List Key × Addr × Value)=>p.1=q.1∧H q.2.1=some (.tup (p.1.map kV))∧RelV p.2 q.2.2) kvs xs ∧
      ∃ o es ep,h.get? a=some o∧o.ExactDict∧o.data=.dict es ep∧es.toList=xs.map (entryOfKey (tupleKind (qdV P w)))∧(xs.map (·.1)).Nodup
  | .set S n=>h.SetOf (intKind P w) a S n
  | .ins C dx fs=>H dx=some (.own a)∧fs.length≤1000∧dx≠a∧h.get? a=some (PySem.W.instObj C dx) ∧
      ∃ mA,h.Ns1 dx mA∧(∀ f,qjD (fs.lookup f) (mA f))∧PySem.Within mA (fs.map (·.1))
  | .own _=>∃ o,h.get? a=some o
  | .xd fs=>∃ mA,h.Ns1 a mA∧∀ f,qjD (fs.lookup f) (mA f)
  | .rng lo hi=>∃ t u v,h.get? a=some { cls:=.type "range",data:=.fields #[.int lo t,.int hi u,.int 1 v] }
  | .frz o u=>h.get? a=some o∧ObjOk H h a u
  | .tbl ps=>h.get? a=some { cls:=.none,data:=.fields #[] }∨∃ (c:Addr) (o:Obj) (vs:Array Value) (x y:Value) (q:Str) (t t':Tok),ps=#[x,y,.str q t]∧H c=some (.frz o (.own a)) ∧
      h.get? a=some { cls:=.none,data:=.fields #[x,y,.ref c] }∧o.data=.fields vs∧vs[1]?=some (.str q t')
  | .met f x=>h.get? a=some (PySem.W.methodObj (.ref f) (.ref x))
  | .ext φ=>φ h∧(∃ o,h.get? a=some o)∧∀ h1 h2:Heap,φ h1→(∀ o,h1.get? a=some o→h2.get? a=some o)→φ h2
def HOk (H:Hp) (h:Heap):Prop:=∀ a o,H a=some o→ObjOk P w H h a o
end
section
variable {P : Program} {w : World} {H H' : Hp} {h h' : Heap} {a : Addr} {o : HO}
theorem ObjOk.lt (x:ObjOk P w H h a o):a<h.objs.size:=by
  cases o with
  | lst xs=>obtain ⟨_,_,_,_,e⟩:=x;exact Heap.lt_size e
  | tup xs=>obtain ⟨_,_,_,p⟩:=x;exact p.lt
  | dK kvs=>obtain ⟨_,_,_,_,o,_,_,e,_⟩:=x;exact Heap.lt_size e
  | dT kvs=>obtain ⟨_,_,_,_,o,_,_,e,_⟩:=x;exact Heap.lt_size e
  | set S n=>obtain ⟨o,_,_,_,e,_⟩:=x;exact Heap.lt_size e
  | ins C dx fs=>obtain ⟨_,_,_,e,_⟩:=x;exact Heap.lt_size e
  | own y=>obtain ⟨_,e⟩:=x;exact Heap.lt_size e
  | xd fs=>obtain ⟨_,⟨_,_,_,e,_⟩,_⟩:=x;exact Heap.lt_size e
  | rng lo hi=>obtain ⟨_,_,_,e⟩:=x;exact Heap.lt_size e
  | frz ob u=>obtain ⟨e,_⟩:=x;exact Heap.lt_size e
  | tbl ps=>rcases x with x | ⟨_,_,_,_,_,_,_,_,_,_,x,_⟩ <;> exact Heap.lt_size x
  | met f y=>exact Heap.lt_size (show h.get? a=some _ from x)
  | ext φ=>obtain ⟨_,⟨_,e⟩,_⟩:=x;exact Heap.lt_size e
theorem Paired.mapP {α β:Type} {F G:α→β→Prop}:∀ {l₁:List α} {l₂:List β},Paired F l₁ l₂→(∀ a b,F a b→G a b)→Paired G l₁ l₂
  | _,_,.nil,_=>.nil
  | _,_,.cons r t,f=>.cons (f _ _ r) (Paired.mapP t f)
theorem ObjOk.stay (x:ObjOk P w H h a o) (k:∀ b u,(b=a∨H b=some (.own a))→h.get? b=some u→h'.get? b=some u)
    (ho:∀ b,H b=some (.own a)→H' b=some (.own a)) (ht:∀ b xs,H b=some (.tup xs)→H' b=some (.tup xs)) (hf:∀ b o u,H b=some (.frz o u)→H' b=some (.frz o u)):ObjOk P w H' h' a o:=by
  induction o with
  | lst xs=>obtain ⟨z,its,n,r,e⟩:=x;exact ⟨z,its,n,r,k _ _ (.inl rfl) e⟩
  | tup xs=>obtain ⟨z,its,r,ob,e,c⟩:=x;exact ⟨z,its,r,ob,k _ _ (.inl rfl) e,c⟩
  | dK kvs=>obtain ⟨z,y,vs,r,ob,es,ep,e,c⟩:=x;exact ⟨z,y,vs,r,ob,es,ep,k _ _ (.inl rfl) e,c⟩
  | dT kvs =>
    obtain ⟨z,y,xs,r,ob,es,ep,e,c⟩:=x
    exact ⟨z,y,xs,Paired.mapP r fun p q z=>⟨z.1,ht _ _ z.2.1,z.2.2⟩,ob,es,ep,k _ _ (.inl rfl) e,c⟩
  | set S n=>obtain ⟨ob,es,ep,t,e,c⟩:=x;exact ⟨ob,es,ep,t,k _ _ (.inl rfl) e,c⟩
  | ins C dx fs =>
    obtain ⟨d,z,ne,e,mA,⟨od,es,ep,e2,c⟩,r⟩:=x
    exact ⟨ho _ d,z,ne,k _ _ (.inl rfl) e,mA,⟨od,es,ep,k _ _ (.inr d) e2,c⟩,r⟩
  | own y=>obtain ⟨ob,e⟩:=x;exact ⟨ob,k _ _ (.inl rfl) e⟩
  | xd fs=>obtain ⟨mA,⟨od,es,ep,e,c⟩,r⟩:=x;exact ⟨mA,⟨od,es,ep,k _ _ (.inl rfl) e,c⟩,r⟩
  | rng lo hi=>obtain ⟨t,u,v,e⟩:=x;exact ⟨t,u,v,k _ _ (.inl rfl) e⟩
  | frz ob u ih=>obtain ⟨e,q⟩:=x;exact ⟨k _ _ (.inl rfl) e,ih q⟩
  | tbl ps =>
    rcases x with x | ⟨c,o,vs,y,z,q,t,t',e1,e2,e3,e4⟩
    · exact .inl (k a _ (.inl rfl) x)
    · exact .inr ⟨c,o,vs,y,z,q,t,t',e1,hf _ _ _ e2,k a _ (.inl rfl) e3,e4⟩
  | met f y =>
    have e:h.get? a=some (PySem.W.methodObj (.ref f) (.ref y)):=x
    show h'.get? a=some (PySem.W.methodObj (.ref f) (.ref y))
    exact k a _ (.inl rfl) e
  | ext φ=>obtain ⟨p,⟨o,e⟩,st⟩:=x;exact ⟨st _ _ p fun o q=>k _ _ (.inl rfl) q,⟨o,k _ _ (.inl rfl) e⟩,st⟩
theorem HOk.lt (x:HOk P w H h) (e:H a=some o):a<h.objs.size:=(x a o e).lt
theorem HOk.fresh (x:HOk P w H h) (e:h.objs.size≤a):H a=none:=by
  cases q:H a with
  | none=>rfl
  | some u=>exact absurd (Nat.lt_of_lt_of_le (x.lt q) e) (Nat.lt_irrefl _)
theorem HOk.kept (x:HOk P w H h) (k:∀ b u,h.get? b=some u→h'.get? b=some u):HOk P w H h':=fun a o e =>
  (x a o e).stay (fun b u _ q=>k b u q) (fun _ q=>q) (fun _ _ q=>q) fun _ _ _ q=>q
theorem HOk.laid (x:HOk P w H h) (k:∀ b u,h.get? b=some u→h'.get? b=some u) (hp:h.objs.size≤a) (new:ObjOk P w (upd H a o) h' a o):HOk P w (upd H a o) h':=fun b u e=>by
  have hn:=x.fresh hp
  by_cases hb:b=a
  · subst hb;rw [qae] at e;cases e;exact new
  · rw [qad hb] at e
    exact (x b u e).stay (fun c v _ q=>k c v q) (fun c q=>by rw [qad (qaj q hn)];exact q) (fun c xs q=>by rw [qad (qaj q hn)];exact q) fun c ob w' q=>by rw [qad (qaj q hn)];exact q
end
def Rd (H:Hp) (a:Addr) (u:HO):Prop:=H a=some u∨∃ o,H a=some (.frz o u)
theorem Rd.ok {P:Program} {w:World} {H:Hp} {h:Heap} {a:Addr} {u:HO} (r:Rd H a u) (x:HOk P w H h):ObjOk P w H h a u:=by
  rcases r with r | ⟨o,r⟩
  · exact x a u r
  · obtain ⟨_,q⟩:=x a _ r
    exact q
def Mut:Option HO→Prop
  | some (.lst _)=>True
  | some (.dK _)=>True
  | some (.dT _)=>True
  | some (.set _ _)=>True
  | some (.ins _ _ _)=>True
  | some (.ext _)=>True
  | _=>False
section
variable {P : Program} {w : World} {H : Hp} {h h' : Heap} {x e : Addr} {o' : HO}
theorem HOk.write (ok:HOk P w H h) (mu:Mut (H x)) (he:e=x∨H e=some (.own x)) (k:∀ b u,b≠e→h.get? b=some u→h'.get? b=some u) (heo:∃ u,h'.get? e=some u)
    (new:ObjOk P w (upd H x o') h' x o'):HOk P w (upd H x o') h':=fun b u q=>by
  have nown:∀ c y,H c=some (.own y)→c≠x:=fun c y r z=>by subst z;rw [r] at mu;exact mu
  have ntup:∀ c xs,H c=some (.tup xs)→c≠x:=fun c xs r z=>by subst z;rw [r] at mu;exact mu
  have nfrz:∀ c ob w',H c=some (.frz ob w')→c≠x:=fun c ob w' r z=>by subst z;rw [r] at mu;exact mu
  by_cases hb:b=x
  · subst hb;rw [qae] at q;cases q;exact new
  · rw [qad hb] at q
    by_cases hbe:b=e
    · have q':H b=some (.own x):=by
        rcases he with z | z
        · exact absurd (hbe.trans z) hb
        · rw [hbe];exact z
      rw [q] at q';cases q'
      obtain ⟨v,hv⟩:=heo
      exact ⟨v,by rw [hbe];exact hv⟩
    · refine (ok b u q).stay (fun c v hc r=>k c v ?_ r) (fun c r=>by rw [qad (nown c b r)];exact r) (fun c xs r=>by rw [qad (ntup c xs r)];exact r) fun c ob w' r=>by rw [qad (nfrz c ob w' r)];exact r
      rcases hc with rfl | hc
      · exact hbe
      · rintro rfl
        rcases he with z | z
        · exact nown c b hc z
        · rw [hc] at z;cases z;exact hb rfl
end
structure Un (fs ex:List Addr) (H H':Hp) (h h':Heap):Prop where
  keep:∀ b o,h.get? b=some o→H b=none→b∉fs→b∉ex→h'.get? b=some o
  slot:∀ b o,h.get? b=some o→H b=none→b∈fs→b∉ex→∃ sl,h'.get? b=some { o with slots:=sl }
  free:∀ b o,h.get? b=some o→H b=none→b∉ex→H' b=none
  there:∀ b o,h.get? b=some o→b∉ex→∃ o',h'.get? b=some o'
  tups:∀ b xs,H b=some (.tup xs)→H' b=some (.tup xs)
  frzs:∀ b o u,H b=some (.frz o u)→H' b=some (.frz o u)
  tbls:∀ b ps,H b=some (.tbl ps)→H' b=some (.tbl ps)
section
variable {fs fs' ex ex' : List Addr} {H H1 H2 : Hp} {h h1 h2 h' : Heap} {a x e : Addr} {o : HO}
theorem Un.any (u:Un fs ex H H1 h h1) {b:Addr} {ob:Obj} (q:h.get? b=some ob) (n:H b=none) (hx:b∉ex):∃ sl,h1.get? b=some { ob with slots:=sl }:=by
  by_cases hb:b∈fs
  · exact u.slot b ob q n hb hx
  · exact ⟨ob.slots,u.keep b ob q n hb hx⟩
theorem Un.kept (k:∀ b u,h.get? b=some u→h'.get? b=some u):Un fs ex H H h h' :=
  ⟨fun b ob q _ _ _=>k b ob q,fun b ob q _ _ _=>⟨ob.slots,k b ob q⟩,fun _ _ _ n _=>n,fun b ob q _=>⟨ob,k b ob q⟩,fun _ _ q=>q,fun _ _ _ q=>q,fun _ _ q=>q⟩
theorem Un.refl:Un fs ex H H h h:=Un.kept fun _ _ q=>q
theorem Un.laid (k:∀ b u,h.get? b=some u→h'.get? b=some u) (hp:h.objs.size≤a) (hn:H a=none):Un fs ex H (upd H a o) h h' where
  keep:=fun b u q _ _ _=>k b u q
  slot:=fun b u q _ _ _=>⟨u.slots,k b u q⟩
  free:=fun b u q n _=>by rw [qad (Nat.ne_of_lt (Nat.lt_of_lt_of_le (Heap.lt_size q) hp))];exact n
  there:=fun b u q _=>⟨u,k b u q⟩
  tups:=fun b xs q=>by rw [qad (qaj q hn)];exact q
  frzs:=fun b u xs q=>by rw [qad (qaj q hn)];exact q
  tbls:=fun b ps q=>by rw [qad (qaj q hn)];exact q
theorem Un.write (mu:Mut (H x)) (he:e=x∨H e=some (.own x)) (k:∀ b u,b≠e→h.get? b=some u→h'.get? b=some u) (heo:∃ u,h'.get? e=some u):Un fs ex H (upd H x o) h h':=by
  have hx:∀ b,H b=none→b≠x:=fun b n z=>by subst z;rw [n] at mu;exact mu
  have hb:∀ b,H b=none→b≠e:=fun b n z=>by
    subst z
    rcases he with r | r
    · exact hx b n r
    · rw [n] at r;cases r
  have hm:∀ b u,H b=some u→¬ Mut (some u)→b≠x:=fun b u q nm z=>by subst z;rw [q] at mu;exact nm mu
  refine ⟨fun b u q n _ _=>k b u (hb b n) q,fun b u q n _ _=>⟨u.slots,k b u (hb b n) q⟩,fun b u q n _=>by rw [qad (hx b n)];exact n,fun b u q _=>?_,
    fun b xs q=>by rw [qad (hm b _ q fun z=>z)];exact q,fun b u xs q=>by rw [qad (hm b _ q fun z=>z)];exact q,fun b ps q=>by rw [qad (hm b _ q fun z=>z)];exact q⟩
  by_cases hbe:b=e
  · subst hbe;exact heo
  · exact ⟨u,k b u hbe q⟩
end
def trk (h:Heap) (H:Hp):List Addr:=(List.range h.objs.size).filter fun a=>(H a).isSome
def qgn (h:Heap) (H:Hp):Heap:=PySem.W.hideAll h (trk h H)
theorem qfV (h:Heap) (H:Hp):(qgn h H).objs.size=h.objs.size:=PySem.W.hideAll_size _ _
theorem qgD {h:Heap} {H:Hp} {b:Addr} {o:Obj} (e:h.get? b=some o) (n:H b=none):(qgn h H).get? b=some o :=
  PySem.W.hideAll_get _ e fun hm=>by
    have q:(H b).isSome=true:=(List.mem_filter.mp hm).2
    rw [n] at q;simp at q
theorem qhF {h:Heap} {H:Hp} {b:Addr} {o:Obj} (e:(qgn h H).get? b=some o):h.get? b=some o∧H b=none:=by
  have e':h.get? b=some o:=PySem.W.of_hideAll (trk h H) e
  refine ⟨e',?_⟩
  cases q:H b with
  | none=>rfl
  | some x =>
    have hm:b∈trk h H:=List.mem_filter.mpr ⟨List.mem_range.mpr (Heap.lt_size e'),by simp [q]⟩
    have z:(qgn h H).get? b=none:=PySem.W.hideAll_none (trk h H) hm
    rw [z] at e;cases e
structure Mod (K:PySem.W.Frag) (mg:Str→Option Value) (base:Heap):Prop where
  kin:K.In base
  glob:base.Ns mainGlobals mg
  blt:∃ mb,base.Ns builtinsNs mb∧∀ x:Str,x≠"__name__"→mb x=bootBuiltins x
  nolimit:base.NoLimit
  bmod:∃ bm ob,mg "__builtins__"=some (.ref bm)∧bm≠builtinsNs∧base.get? bm=some ob∧ob.cls=.type "module"∧ob.dict=some builtinsNs∧ob.data=.plain
  seer:base.NoSeer
  dig:∃ mc,base.Ns cStatics mc∧mc "sys.int_max_str_digits"=none
structure Cx where
  prog:Program
  w:World
  K:PySem.W.Frag
  mg:Str→Option Value
  base:Heap
  A:Around
  N:List Str
  s₀:Shared
  H₀:Hp
  env:Env
  outer:List Env
  stack:List Env
  ex:List Addr
  fn:Str→Bool
  calm:Bool
  pn:List (Addr × Obj)
  xe:Value→Shared→Prop
def frs (l:List Env):List Addr:=l.filterMap (·.frame)
abbrev Cx.fs (X:Cx):List Addr:=frs X.outer
def Vis (sc:Scope) (x:Str):Prop:=sc.names.lookup x=some .local∨sc.names.lookup x=some .cell∨sc.names.lookup x=some .free
def Loc (sc:Scope) (x:Str):Prop:=sc.names.lookup x=some .local∨sc.names.lookup x=some .cell
def qld (env:Env) (h:Heap) (m:Str→Option Value) (x:Str) (u:Value):Prop :=
  (env.kindOf x=some .local∧m x=some u)∨((env.kindOf x=some .cell∨env.kindOf x=some .free)∧∃ c,env.cells.lookup x=some c∧h.IsCell c (some u))
structure Cx.Ok (X:Cx):Prop where
  mod:Mod X.K X.mg X.base
  kind:X.env.scope.kind=.function
  glob:X.env.globals=mainGlobals
  blt:X.env.builtins=builtinsNs
  above:X.s₀.heap.objs.size≤X.env.locals
  inj:∀ x y c,X.env.cells.lookup x=some c→X.env.cells.lookup y=some c→x=y
  has:∀ x,(X.env.kindOf x=some .cell∨X.env.kindOf x=some .free)→∃ c,X.env.cells.lookup x=some c
  cab:∀ x c,X.fn x=true→X.env.cells.lookup x=some c→X.s₀.heap.objs.size≤c
  hd:X.calm=true→X.A.handled=none
  frames:X.A.frames=some X.stack
  stk:X.stack=X.outer∨(X.stack=X.env::X.outer∧X.env.frame=some X.env.locals)
  exf:∀ b∈X.ex,b≠X.env.locals∧∀ x c,X.env.cells.lookup x=some c→c≠b
  bs:∀ b o,X.base.get? b=some o→X.s₀.heap.get? b=some o∧X.H₀ b=none
  bsz:X.base.objs.size≤X.s₀.heap.objs.size
  noex:∀ b o,X.base.get? b=some o→b∉X.ex
  exfs:∀ b∈X.ex,b∉X.fs
  funs:X.s₀.heap.FunFrames X.base X.outer
  frf:∀ b∈X.fs,X.H₀ b=none
structure Inv (X:Cx) (pins:List (Addr × Obj)) (σ:List (Option V)) (H:Hp) (s:Shared):Prop where
  ok:X.Ok
  os:s.os=X.s₀.os
  bare:AllBare s.gens
  base:Un X.fs X.ex X.H₀ H X.s₀.heap s.heap
  loc:∃ m,s.heap.Ns X.env.locals m∧∀ (i:Nat) (x:Str) (v:V),X.N[i]?=some x→σ[i]?=some (some v)→Vis X.env.scope x→∃ u,RelV v u∧qld X.env s.heap m x u
  cell:∀ x c,X.env.cells.lookup x=some c→∃ v,s.heap.IsCell c v
  free:H X.env.locals=none
  freeC:∀ x c,X.env.cells.lookup x=some c→H c=none
  pin:∀ p∈X.pn++pins,s.heap.get? p.1=some p.2∧H p.1=none∧p.1≠X.env.locals∧p.1∉X.fs∧∀ v,p.2.data≠.cell v
  hok:HOk X.prog X.w H s.heap
  len:σ.length=X.N.length
section
variable {X : Cx} {pins : List (Addr × Obj)} {σ : List (Option V)} {H H' : Hp} {s : Shared} {h' : Heap}
theorem Cx.Ok.nofr (ok:X.Ok) {b:Addr} {o:Obj} (e:X.base.get? b=some o):b∉X.fs:=fun hb=>by
  have:=(ok.funs.mem hb).1
  rw [e] at this;cases this
theorem Inv.bs (I:Inv X pins σ H s):∀ b o,X.base.get? b=some o→s.heap.get? b=some o∧H b=none:=fun b o e =>
  ⟨I.base.keep b o (I.ok.bs b o e).1 (I.ok.bs b o e).2 (I.ok.nofr e) (I.ok.noex b o e),I.base.free b o (I.ok.bs b o e).1 (I.ok.bs b o e).2 (I.ok.noex b o e)⟩
theorem Inv.bk (I:Inv X pins σ H s):∀ b o,X.base.get? b=some o→s.heap.get? b=some o:=fun b o e=>(I.bs b o e).1
theorem Inv.mod (I:Inv X pins σ H s):Mod X.K X.mg X.base:=I.ok.mod
theorem Inv.kIn (I:Inv X pins σ H s):X.K.In s.heap:=I.ok.mod.kin.keeps I.bk
theorem Inv.lt (I:Inv X pins σ H s):X.env.locals<s.heap.objs.size:=let ⟨_,hn,_⟩:=I.loc;hn.lt
theorem Inv.sz (I:Inv X pins σ H s):X.s₀.heap.objs.size≤s.heap.objs.size:=Nat.le_trans I.ok.above (Nat.le_of_lt I.lt)
theorem Inv.nofs (I:Inv X pins σ H s) {a:Addr} (h:s.heap.objs.size≤a):a∉X.fs:=fun hb=>by
  obtain ⟨_,o,ho,_⟩:=I.ok.funs.mem hb
  exact absurd (Nat.lt_of_lt_of_le (Heap.lt_size ho) (Nat.le_trans I.sz h)) (Nat.lt_irrefl _)
theorem Inv.cne (I:Inv X pins σ H s):∀ x c,X.env.cells.lookup x=some c→c≠X.env.locals:=fun x c e z=>by
  obtain ⟨v,o,ho,hd⟩:=I.cell x c e
  obtain ⟨m,⟨o',es,ep,ho',hd',_⟩,_⟩:=I.loc
  rw [z,ho'] at ho;cases ho;rw [hd'] at hd;cases hd
theorem Inv.funs (I:Inv X pins σ H s):s.heap.FunFrames X.base X.outer:=by
  have all:∀ (l:List Env),(∀ b∈frs l,b∈X.fs)→X.s₀.heap.FunFrames X.base l→s.heap.FunFrames X.base l:=by
    intro l
    induction l with
    | nil=>intro _ _;trivial
    | cons env r ih =>
      intro hs hl
      obtain ⟨hk,⟨L,o,hf,hn,ho,hd⟩,hr⟩:=hl
      have hL:L∈X.fs:=hs L (by unfold frs;rw [List.filterMap_cons,hf];exact List.mem_cons_self)
      obtain ⟨sl,e⟩:=I.base.slot L o ho (I.ok.frf L hL) hL fun z=>I.ok.exfs L z hL
      exact ⟨hk,⟨L,_,hf,hn,e,hd⟩,ih (fun b hb=>hs b (by unfold frs;rw [List.filterMap_cons,hf];exact List.mem_cons_of_mem _ hb)) hr⟩
  exact all X.outer (fun _ hb=>hb) I.ok.funs
theorem Inv.stack (I:Inv X pins σ H s):s.heap.FunFrames X.base X.stack:=by
  rcases I.ok.stk with e | ⟨e,hf⟩
  · rw [e];exact I.funs
  · rw [e]
    obtain ⟨m,hn,_⟩:=I.loc
    refine .cons (by rw [I.ok.kind];decide) hf hn ?_ I.funs
    exact Heap.get?_none_of_le (Nat.le_trans I.ok.bsz I.ok.above)
theorem Inv.stkSub (I:Inv X pins σ H s):∀ b∈frs X.stack,b∈X.env.locals::X.fs:=fun b hb=>by
  rcases I.ok.stk with e | ⟨e,hf⟩
  · rw [e] at hb;exact List.mem_cons_of_mem _ hb
  · rw [e] at hb
    unfold frs at hb
    rw [List.filterMap_cons,hf] at hb
    exact hb
theorem Inv.stkFree (I:Inv X pins σ H s):∀ b∈frs X.stack,H b=none:=fun b hb=>by
  rcases List.mem_cons.mp (I.stkSub b hb) with e | hb
  · rw [e];exact I.free
  · obtain ⟨_,o,ho,_⟩:=I.ok.funs.mem hb
    exact I.base.free b o ho (I.ok.frf b hb) fun z=>I.ok.exfs b z hb
theorem Inv.step {g':Array GenState} {t':Nat} {d':Drawn} {ch:List Addr} (I:Inv X pins σ H s)
    (hch:∀ b∈ch,(b∈X.ex∨X.s₀.heap.objs.size≤b)∧b≠X.env.locals∧(∀ x c,X.env.cells.lookup x=some c→c≠b)∧∀ p∈X.pn++pins,p.1≠b)
    (keep:∀ b o,b≠X.env.locals→b∉X.fs→b∉ch→s.heap.get? b=some o→H b=none→h'.get? b=some o)
    (slot:∀ b o,b≠X.env.locals→b∈X.fs→b∉ch→s.heap.get? b=some o→H b=none→∃ sl,h'.get? b=some { o with slots:=sl }) (free:∀ b o,b∉ch→s.heap.get? b=some o→H b=none→H' b=none)
    (there:∀ b o,b∉ch→s.heap.get? b=some o→∃ o',h'.get? b=some o')
    (tups:∀ b xs,H b=some (.tup xs)→H' b=some (.tup xs)) (frzs:∀ b o u,H b=some (.frz o u)→H' b=some (.frz o u)) (tbls:∀ b ps,H b=some (.tbl ps)→H' b=some (.tbl ps))
    (ns:∀ m,s.heap.Ns X.env.locals m→h'.Ns X.env.locals m) (hok:HOk X.prog X.w H' h') (hg:AllBare g') :
    Inv X pins σ H' { s with heap:=h',gens:=g',drawn:=d',toks:=t' }:=by
  have neL:∀ b o,X.s₀.heap.get? b=some o→b≠X.env.locals:=fun b o e=>Nat.ne_of_lt (Nat.lt_of_lt_of_le (Heap.lt_size e) I.ok.above)
  have neC:∀ b o,X.s₀.heap.get? b=some o→b∉X.ex→b∉ch:=fun b o e hx hb=>by
    rcases (hch b hb).1 with z | z
    · exact hx z
    · exact absurd (Nat.lt_of_lt_of_le (Heap.lt_size e) z) (Nat.lt_irrefl _)
  have cellK:∀ x c,X.env.cells.lookup x=some c→∀ v,s.heap.IsCell c v→h'.IsCell c v:=fun x c e v hq0=>by
    obtain ⟨o,ho,hd⟩:=hq0
    have nch:c∉ch:=fun z=>(hch c z).2.2.1 x c e rfl
    by_cases hc:c∈X.fs
    · obtain ⟨sl,q⟩:=slot c o (I.cne x c e) hc nch ho (I.freeC x c e)
      exact ⟨_,q,hd⟩
    · exact ⟨o,keep c o (I.cne x c e) hc nch ho (I.freeC x c e),hd⟩
  refine ⟨I.ok,I.os,hg,⟨fun b o e n hb hx=>?_,fun b o e n hb hx=>?_,fun b o e n hx=>?_,fun b o e hx=>?_,fun b xs e=>tups b xs (I.base.tups b xs e),fun b o xs e=>frzs b o xs (I.base.frzs b o xs e),fun b ps e=>tbls b ps (I.base.tbls b ps e)⟩,?_,fun x c e=>?_,?_,fun x c e=>?_,fun p hp=>?_,hok,I.len⟩
  · exact keep b o (neL b o e) hb (neC b o e hx) (I.base.keep b o e n hb hx) (I.base.free b o e n hx)
  · obtain ⟨sl,e1⟩:=I.base.slot b o e n hb hx
    obtain ⟨sl',e2⟩:=slot b _ (neL b o e) hb (neC b o e hx) e1 (I.base.free b o e n hx)
    exact ⟨sl',e2⟩
  · obtain ⟨o',e1⟩:=I.base.there b o e hx
    exact free b o' (neC b o e hx) e1 (I.base.free b o e n hx)
  · obtain ⟨o',e1⟩:=I.base.there b o e hx
    exact there b o' (neC b o e hx) e1
  · obtain ⟨m,hn,hl⟩:=I.loc
    refine ⟨m,ns m hn,fun i x v e1 e2 e3=>?_⟩
    obtain ⟨u,r,l⟩:=hl i x v e1 e2 e3
    refine ⟨u,r,?_⟩
    rcases l with l | ⟨k,c,e,z⟩
    · exact .inl l
    · exact .inr ⟨k,c,e,cellK x c e _ z⟩
  · obtain ⟨v,z⟩:=I.cell x c e
    exact ⟨v,cellK x c e v z⟩
  · obtain ⟨m,⟨o,_,_,ho,_⟩,_⟩:=I.loc
    exact free _ o (fun z=>(hch _ z).2.1 rfl) ho I.free
  · obtain ⟨v,o,ho,hd⟩:=I.cell x c e
    exact free c o (fun z=>(hch c z).2.2.1 x c e rfl) ho (I.freeC x c e)
  · obtain ⟨e,n,ne,nf,d⟩:=I.pin p hp
    have nch:p.1∉ch:=fun z=>(hch p.1 z).2.2.2 p hp rfl
    exact ⟨keep p.1 p.2 ne nf nch e n,free p.1 p.2 nch e n,ne,nf,d⟩
theorem Inv.un {t':Nat} (I:Inv X pins σ H s) (u:Un X.fs [] H H' s.heap h') (hok:HOk X.prog X.w H' h'):Inv X pins σ H' { s with heap:=h',toks:=t' }:=by
  obtain ⟨m,⟨o,es,ep,ho,r⟩,_⟩:=id I.loc
  obtain ⟨sl,hL⟩:=u.any ho I.free (by simp)
  exact I.step (g':=s.gens) (d':=s.drawn) (ch:=[]) (fun _ z=>nomatch z) (fun b o _ hb _ e n=>u.keep b o e n hb (by simp)) (fun b o _ hb _ e n=>u.slot b o e n hb (by simp)) (fun b o _ e n=>u.free b o e n (by simp)) (fun b o _ e=>u.there b o e (by simp)) u.tups u.frzs u.tbls (fun m' hm=>by
    obtain ⟨o',es',ep',ho',r'⟩:=hm
    rw [ho] at ho';cases ho'
    exact ⟨_,es',ep',hL,r'⟩) hok I.bare
theorem Inv.call {g':Array GenState} {t':Nat} {d':Drawn} {ch:List Addr} (I:Inv X pins σ H s) (u:Un (frs X.stack) ch H H' s.heap h') (hok:HOk X.prog X.w H' h') (hg:AllBare g')
    (hch:∀ b∈ch,(b∈X.ex∨X.s₀.heap.objs.size≤b)∧b≠X.env.locals∧(∀ x c,X.env.cells.lookup x=some c→c≠b)∧∀ p∈X.pn++pins,p.1≠b) :
    Inv X pins σ H' { s with heap:=h',gens:=g',drawn:=d',toks:=t' }:=by
  obtain ⟨m,⟨o,es,ep,ho,r⟩,_⟩:=id I.loc
  obtain ⟨sl,hL⟩:=u.any ho I.free fun z=>(hch _ z).2.1 rfl
  exact I.step (ch:=ch) hch (fun b o hL hb hc e n=>u.keep b o e n (fun z=>(List.mem_cons.mp (I.stkSub b z)).elim hL hb) hc) (fun b o _ _ hc e n=>u.any e n hc) (fun b o hc e n=>u.free b o e n hc) (fun b o hc e=>u.there b o e hc) u.tups u.frzs u.tbls (fun m' hm=>by
    obtain ⟨o',es',ep',ho',r'⟩:=hm
    rw [ho] at ho';cases ho'
    exact ⟨_,es',ep',hL,r'⟩) hok hg
theorem Inv.turned {t':Nat} {it:Addr} (I:Inv X pins σ H s) (k:∀ b o,b≠it→s.heap.get? b=some o→h'.get? b=some o) (hn:H it=none) (hL:it≠X.env.locals)
    (h1:it∈X.ex∨X.s₀.heap.objs.size≤it) (h2:∀ x c,X.env.cells.lookup x=some c→c≠it) (h3:∀ p∈X.pn++pins,p.1≠it):Inv X pins σ H { s with heap:=h',toks:=t' }:=by
  have nit:∀ b u,H b=some u→b≠it:=fun b u e z=>by rw [z,hn] at e;cases e
  refine I.step (g':=s.gens) (d':=s.drawn) (ch:=[it]) (fun b hb=>?_) (fun b o _ _ hc e _=>k b o (fun z=>hc (by simp [z])) e) (fun b o _ _ hc e _=>⟨o.slots,k b o (fun z=>hc (by simp [z])) e⟩) (fun _ _ _ _ n=>n)
    (fun b o hc e=>⟨o,k b o (fun z=>hc (by simp [z])) e⟩) (fun _ _ e=>e) (fun _ _ _ e=>e) (fun b ps e=>e) (fun m hm=>?_) (fun b u e=>?_) I.bare
  · have e:b=it:=by simpa using hb
    subst e
    exact ⟨h1,hL,h2,h3⟩
  · obtain ⟨o,es,ep,ho,r⟩:=hm
    exact ⟨o,es,ep,k _ o (Ne.symm hL) ho,r⟩
  · refine (I.hok b u e).stay (fun c v hc q=>k c v ?_ q) (fun _ q=>q) (fun _ _ q=>q) fun _ _ _ q=>q
    rcases hc with z | z
    · rw [z];exact nit b u e
    · exact nit c _ z
theorem Inv.tok (I:Inv X pins σ H s) (t:Nat):Inv X pins σ H { s with toks:=t }:=I.un (h':=s.heap) (t':=t) Un.refl I.hok
theorem Inv.kept {t':Nat} (I:Inv X pins σ H s) (k:∀ b u,s.heap.get? b=some u→h'.get? b=some u):Inv X pins σ H { s with heap:=h',toks:=t' }:=I.un (Un.kept k) (I.hok.kept k)
theorem Inv.laid {a:Addr} {o:HO} {t':Nat} (I:Inv X pins σ H s) (k:∀ b u,s.heap.get? b=some u→h'.get? b=some u) (hp:s.heap.objs.size≤a) (new:ObjOk X.prog X.w (upd H a o) h' a o) :
    Inv X pins σ (upd H a o) { s with heap:=h',toks:=t' }:=I.un (Un.laid k hp (I.hok.fresh hp)) (I.hok.laid k hp new)
theorem Inv.write {x e:Addr} {o:HO} {t':Nat} (I:Inv X pins σ H s) (mu:Mut (H x)) (he:e=x∨H e=some (.own x)) (k:∀ b u,b≠e→s.heap.get? b=some u→h'.get? b=some u) (heo:∃ u,h'.get? e=some u)
    (new:ObjOk X.prog X.w (upd H x o) h' x o):Inv X pins σ (upd H x o) { s with heap:=h',toks:=t' }:=I.un (Un.write mu he k heo) (I.hok.write mu he k heo new)
theorem Inv.pins_of {pins':List (Addr × Obj)} (I:Inv X pins σ H s) (h:∀ p∈pins',s.heap.get? p.1=some p.2∧H p.1=none∧p.1≠X.env.locals∧p.1∉X.fs∧∀ v,p.2.data≠.cell v):Inv X pins' σ H s :=
  ⟨I.ok,I.os,I.bare,I.base,I.loc,I.cell,I.free,I.freeC,fun p hp=>(List.mem_append.mp hp).elim (fun z=>I.pin p (List.mem_append_left _ z)) (h p),I.hok,I.len⟩
theorem qeg {N:List Str} (hN:N.Nodup) {i j:Nat} {x:Str} (a:N[i]?=some x) (b:N[j]?=some x):i=j:=by
  obtain ⟨h1,e1⟩:=List.getElem?_eq_some_iff.mp a
  obtain ⟨h2,e2⟩:=List.getElem?_eq_some_iff.mp b
  exact (List.getElem_inj hN).mp (e1.trans e2.symm)
theorem qci {M:Model} {A:Around} {E:Value→Shared→Prop} {i:Nat} {x:Str} {v:V} {u:Value} {Q:Unit→Shared→Prop} (I:Inv X pins σ H s) (hN:X.N.Nodup) (hi:X.N[i]?=some x) (hx:Loc X.env.scope x) (r:RelV v u)
    (h:∀ s',Inv X pins (σ.set i (some v)) H s'→(∃ a,Heap.SameBut a s.heap s'.heap∧(a=X.env.locals∨X.env.cells.lookup x=some a))→Q () s') (hf:X.fn x=true∨X.env.scope.names.lookup x=some .local:=by first | exact .inl rfl | exact .inr rfl | assumption):wpAny M A (storeName X.env x u) Q E s:=by
  obtain ⟨m,hn,hl⟩:=id I.loc
  have hcls:(X.env.scope.kind == .class || (X.env.scope.kind == .module && X.env.locals != X.env.globals))=false:=by rw [I.ok.kind];rfl
  have hiσ:i<σ.length:=by rw [I.len];exact (List.getElem?_eq_some_iff.mp hi).1
  have cne:=I.cne
  have tracked:∀ {a:Addr} {h':Heap},(∃ o,s.heap.get? a=some o∧H a=none)→Heap.SameBut a s.heap h'→HOk X.prog X.w H h':=fun {a h'} ha hs b ob e=>by
    obtain ⟨_,_,hfree⟩:=ha
    refine (I.hok b ob e).stay (fun c w' hc q=>(hs.2 c ?_).trans q) (fun _ q=>q) (fun _ _ q=>q) fun _ _ _ q=>q
    rintro rfl
    rcases hc with rfl | hc
    · rw [hfree] at e;cases e
    · rw [hfree] at hc;cases hc
  rcases hx with hk | hk
  · refine wpAny_storeName_local hk hn (fun h' hn' hs=>?_) hcls
    obtain ⟨oL,_,_,hoL,_⟩:=id hn
    refine h _ ⟨I.ok,I.os,I.bare,⟨fun b o e n hb hx=>?_,fun b o e n hb hx=>?_,I.base.free,fun b o e hx=>?_,I.base.tups,I.base.frzs,I.base.tbls⟩,⟨_,hn',fun j y v' e1 e2 e3=>?_⟩,fun y c e=>?_,I.free,I.freeC,fun p hp=>?_,tracked ⟨oL,hoL,I.free⟩ hs,by simpa using I.len⟩ ⟨_,hs,.inl rfl⟩
    · exact (hs.2 b (Nat.ne_of_lt (Nat.lt_of_lt_of_le (Heap.lt_size e) I.ok.above))).trans (I.base.keep b o e n hb hx)
    · obtain ⟨sl,e1⟩:=I.base.slot b o e n hb hx
      exact ⟨sl,(hs.2 b (Nat.ne_of_lt (Nat.lt_of_lt_of_le (Heap.lt_size e) I.ok.above))).trans e1⟩
    · obtain ⟨o',e1⟩:=I.base.there b o e hx
      exact ⟨o',(hs.2 b (Nat.ne_of_lt (Nat.lt_of_lt_of_le (Heap.lt_size e) I.ok.above))).trans e1⟩
    · by_cases hj:j=i
      · subst hj
        rw [hi] at e1;cases e1
        rw [List.getElem?_set_self hiσ] at e2
        cases e2
        exact ⟨u,r,.inl ⟨hk,by simp⟩⟩
      · rw [List.getElem?_set_ne (Ne.symm hj)] at e2
        obtain ⟨u',r',q⟩:=hl j y v' e1 e2 e3
        refine ⟨u',r',?_⟩
        rcases q with ⟨k,e⟩ | ⟨k,c,e,z⟩
        · refine .inl ⟨k,?_⟩
          have:y≠x:=fun e=>hj (qeg hN e1 (e ▸ hi))
          simp [this,e]
        · exact .inr ⟨k,c,e,z.sameBut hs (cne y c e)⟩
    · obtain ⟨w',z⟩:=I.cell y c e
      exact ⟨w',z.sameBut hs (cne y c e)⟩
    · obtain ⟨e,n,ne,nf,d⟩:=I.pin p hp
      exact ⟨(hs.2 p.1 ne).trans e,n,ne,nf,d⟩
  · have hfn:X.fn x=true:=by
      rcases hf with z | z
      · exact z
      · rw [z] at hk;cases hk
    obtain ⟨c,hc⟩:=I.ok.has x (.inl hk)
    obtain ⟨w',z⟩:=I.cell x c hc
    refine wpAny_storeName_cell I.ok.kind hk hc z (fun h' hc' hs=>?_)
    obtain ⟨oc,hoc,hocd⟩:=id z
    refine h { s with heap:=h' } ⟨I.ok,I.os,I.bare,⟨fun b o e n hb hx=>?_,fun b o e n hb hx=>?_,I.base.free,fun b o e hx=>?_,I.base.tups,I.base.frzs,I.base.tbls⟩,⟨m,hn.sameBut hs (Ne.symm (cne x c hc)),fun j y v' e1 e2 e3=>?_⟩,fun y c' e=>?_,I.free,I.freeC,fun p hp=>?_,tracked ⟨oc,hoc,I.freeC x c hc⟩ hs,by simpa using I.len⟩ ⟨c,hs,.inr hc⟩
    · exact (hs.2 b (Nat.ne_of_lt (Nat.lt_of_lt_of_le (Heap.lt_size e) (I.ok.cab x c hfn hc)))).trans (I.base.keep b o e n hb hx)
    · obtain ⟨sl,e1⟩:=I.base.slot b o e n hb hx
      exact ⟨sl,(hs.2 b (Nat.ne_of_lt (Nat.lt_of_lt_of_le (Heap.lt_size e) (I.ok.cab x c hfn hc)))).trans e1⟩
    · obtain ⟨o',e1⟩:=I.base.there b o e hx
      exact ⟨o',(hs.2 b (Nat.ne_of_lt (Nat.lt_of_lt_of_le (Heap.lt_size e) (I.ok.cab x c hfn hc)))).trans e1⟩
    · by_cases hj:j=i
      · subst hj
        rw [hi] at e1;cases e1
        rw [List.getElem?_set_self hiσ] at e2
        cases e2
        exact ⟨u,r,.inr ⟨.inl hk,c,hc,hc'⟩⟩
      · rw [List.getElem?_set_ne (Ne.symm hj)] at e2
        obtain ⟨u',r',q⟩:=hl j y v' e1 e2 e3
        refine ⟨u',r',?_⟩
        rcases q with q | ⟨k,c',e,z'⟩
        · exact .inl q
        · refine .inr ⟨k,c',e,z'.sameBut hs ?_⟩
          rintro rfl
          exact hj (qeg hN e1 (I.ok.inj _ _ _ e hc ▸ hi))
    · by_cases hcc:c'=c
      · subst hcc;exact ⟨_,hc'⟩
      · obtain ⟨w2,z2⟩:=I.cell y c' e
        exact ⟨w2,z2.sameBut hs hcc⟩
    · obtain ⟨e,n,ne,nf,d⟩:=I.pin p hp
      refine ⟨(hs.2 p.1 ?_).trans e,n,ne,nf,d⟩
      intro q
      rw [q,hoc] at e
      have q':oc=p.2:=Option.some.inj e
      exact d w' (by rw [← q'];exact hocd)
theorem qc4 {M:Model} {A:Around} {E:Value→Shared→Prop} {i:Nat} {x:Str} {v:V} {u:Value} {Q:Unit→Shared→Prop} (I:Inv X pins σ H s) (hN:X.N.Nodup) (hi:X.N[i]?=some x) (hx:Loc X.env.scope x) (r:RelV v u)
    (h:∀ s',Inv X pins (σ.set i (some v)) H s'→Q () s') (hf:X.fn x=true∨X.env.scope.names.lookup x=some .local:=by first | exact .inl rfl | exact .inr rfl | assumption):wpAny M A (storeName X.env x u) Q E s :=
  qci I hN hi hx r (fun s' I' _=>h s' I') hf
theorem Inv.call' {s':Shared} {ch:List Addr} (I:Inv X pins σ H s) (ho:s'.os=s.os) (u:Un (frs X.stack) ch H H' s.heap s'.heap) (hok:HOk X.prog X.w H' s'.heap) (hg:AllBare s'.gens)
    (hch:∀ b∈ch,(b∈X.ex∨X.s₀.heap.objs.size≤b)∧b≠X.env.locals∧(∀ x c,X.env.cells.lookup x=some c→c≠b)∧∀ p∈X.pn++pins,p.1≠b):Inv X pins σ H' s':=by
  obtain ⟨h',g',d',t',o'⟩:=s'
  have e:o'=s.os:=ho
  subst e
  exact I.call (g':=g') (t':=t') (d':=d') u hok hg hch
end
abbrev XK:=Value→Option Addr→Hp→Prop
abbrev St:=List (Option V)
abbrev VK:=V→Hp→Prop
abbrev TE:=St→Hp→VK→Prop
abbrev TT:=St→Hp→(Bool→Hp→Prop)→Prop
abbrev TA:=St→Hp→(List V→Hp→Prop)→Prop
structure Ends where
  nx:St→Hp→Prop
  rt:VK
  bk:St→Hp→Prop:=fun _ _=>False
  ct:St→Hp→Prop:=fun _ _=>False
abbrev TS:=Ends→St→Hp→Prop
def EP (X:Cx) (pins:List (Addr × Obj)) (σ:St) (Q:VK) (u:Value) (s':Shared):Prop:=∃ v H',Inv X pins σ H' s'∧RelV v u∧Q v H'
def TP (X:Cx) (pins:List (Addr × Obj)) (σ:St) (Q:Bool→Hp→Prop) (b:Bool) (s':Shared):Prop:=∃ H',Inv X pins σ H' s'∧Q b H'
def AP (X:Cx) (pins:List (Addr × Obj)) (σ:St) (Q:List V→Hp→Prop) (us:List Value) (s':Shared):Prop:=∃ vs H',Inv X pins σ H' s'∧Vals vs us∧Q vs H'
def SP (X:Cx) (pins:List (Addr × Obj)) (D:Ends) (f:Flow) (s':Shared):Prop :=
  match f with
  | .next=>∃ σ' H',Inv X pins σ' H' s'∧D.nx σ' H'
  | .brk=>∃ σ' H',Inv X pins σ' H' s'∧D.bk σ' H'
  | .cont=>∃ σ' H',Inv X pins σ' H' s'∧D.ct σ' H'
  | .ret u=>∃ v σ' H',Inv X pins σ' H' s'∧RelV v u∧D.rt v H'
def PE (X:Cx) (e:Expr) (t:TE):Prop :=
  ∀ (pins:List (Addr × Obj)) (s:Shared) (σ:St) (H:Hp) (Q:VK),Inv X pins σ H s→t σ H Q→wpAny (model X.prog X.w) X.A (eval e X.env) (EP X pins σ Q) X.xe s
def PT (X:Cx) (e:Expr) (t:TT):Prop :=
  ∀ (pins:List (Addr × Obj)) (s:Shared) (σ:St) (H:Hp) (Q:Bool→Hp→Prop),Inv X pins σ H s→t σ H Q→wpAny (model X.prog X.w) X.A (isTrue e X.env (eval e X.env)) (TP X pins σ Q) X.xe s
def PW (X:Cx) (e:Expr) (t:TT):Prop :=
  ∀ (whole:Sem Value) (pins:List (Addr × Obj)) (s:Shared) (σ:St) (H:Hp) (Q:Bool→Hp→Prop),Inv X pins σ H s→t σ H Q→wpAny (model X.prog X.w) X.A (isTrue e X.env whole) (TP X pins σ Q) X.xe s
theorem PW.pt {X:Cx} {e:Expr} {t:TT} (h:PW X e t):PT X e t:=h _
def PA (X:Cx) (es:List Expr) (t:TA):Prop :=
  ∀ (pos:Pos) (pins:List (Addr × Obj)) (s:Shared) (σ:St) (H:Hp) (Q:List V→Hp→Prop),Inv X pins σ H s→t σ H Q→wpAny (model X.prog X.w) X.A (spliced (backTo pos (starEach es X.env))) (AP X pins σ Q) X.xe s
def PS (X:Cx) (st:Stmt) (t:TS):Prop :=
  ∀ (pins:List (Addr × Obj)) (s:Shared) (σ:St) (H:Hp) (D:Ends),Inv X pins σ H s→t D σ H→wpAny (model X.prog X.w) X.A (exec st X.env) (SP X pins D) X.xe s
def PSs (X:Cx) (st:List Stmt) (t:TS):Prop :=
  ∀ (pins:List (Addr × Obj)) (s:Shared) (σ:St) (H:Hp) (D:Ends),Inv X pins σ H s→t D σ H→wpAny (model X.prog X.w) X.A (execs st X.env) (SP X pins D) X.xe s
theorem thn {α:Type} {t:Sem α} {Q Q':α→Shared→Prop} {M:Model} {A:Around} {E:Value→Shared→Prop} {s:Shared} (h:wpAny M A t Q E s) (hQ:∀ a s,Q a s→Q' a s):wpAny M A t Q' E s:=wpAny_mono h hQ fun _ _ x=>x
section
variable {X : Cx}
def qjB (i:Nat):TE:=fun σ H Q=>∃ v,σ[i]?=some (some v)∧Q v H
def tC (v:V):TE:=fun _ H Q=>Q v H
theorem qfk {i:Nat} {x:Str} {pos:Pos} (hN:X.N[i]?=some x) (hv:Vis X.env.scope x) (hd:(x == ("__debug__":Str))=false:=by decide) (hcd:(x == ("__classdict__":Str))=false:=by decide):PE X (.Name x pos) (qjB i):=by
  intro pins s σ H Q I h
  obtain ⟨v,e,h⟩:=h
  obtain ⟨m,hn,hl⟩:=I.loc
  obtain ⟨u,r,l⟩:=hl i x v hN e hv
  have fin:EP X pins σ Q u s:=⟨v,H,I,r,h⟩
  rcases l with ⟨hk,hm⟩ | ⟨hk,c,hc,hcell⟩
  · exact wpAny_Name (wpAny_loadName_local I.ok.kind hk hn hm fin) hd
  · rcases hk with hk | hk
    · exact wpAny_Name (wpAny_loadName_cell I.ok.kind hk hc hcell fin) hd
    · exact wpAny_Name (wpAny_loadName_free I.ok.kind hk hc hcell fin hcd) hd
theorem qiL {i j pos}:PE X (.Constant (.int i) j pos) (tC (.int i)):=fun _ _ _ H _ I h=>wpAny_Constant_int ⟨.int i,H,I.tok _,⟨_,rfl⟩,h⟩
theorem qj0 {b j pos}:PE X (.Constant (.bool b) j pos) (tC (.bl b)):=fun _ _ _ H _ I h=>Constant_bool ⟨.bl b,H,I,rfl,h⟩
theorem qiv {j pos}:PE X (.Constant .none j pos) (tC .non):=fun _ _ _ H _ I h=>Constant_none ⟨.non,H,I,rfl,h⟩
def Gl (X:Cx) (x:Str):Prop:=X.env.kindOf x=some .globalImplicit
theorem qbb {E:Value→Shared→Prop} {pins:List (Addr × Obj)} {s:Shared} {σ:St} {H:Hp} {x:Str} {u:Value} {pos:Pos} {Q:Value→Shared→Prop} (I:Inv X pins σ H s) (hg:Gl X x) (hm:X.mg x=some u) (h:Q u s)
    (hd:(x == ("__debug__":Str))=false:=by decide):wpAny (model X.prog X.w) X.A (eval (.Name x pos) X.env) Q E s :=
  Calls.Name_function_global I.ok.kind hg (Calls.loadGlobal_global (by rw [I.ok.glob];exact I.mod.glob.keeps I.bk) hm h) hd
theorem qcF {E:Value→Shared→Prop} {pins:List (Addr × Obj)} {s:Shared} {σ:St} {H:Hp} {x:Str} {u:Value} {pos:Pos} {Q:Value→Shared→Prop} (I:Inv X pins σ H s) (hg:Gl X x) (hm:X.mg x=none) (hv:bootBuiltins x=some u) (h:Q u s)
    (hn:x≠"__name__":=by decide) (hd:(x == ("__debug__":Str))=false:=by decide):wpAny (model X.prog X.w) X.A (eval (.Name x pos) X.env) Q E s:=by
  obtain ⟨mb,h1,h2⟩:=I.mod.blt
  exact Calls.Name_function_global I.ok.kind hg (Calls.loadGlobal_builtin (by rw [I.ok.glob];exact I.mod.glob.keeps I.bk) hm (by rw [I.ok.blt];exact h1.keeps I.bk) ((h2 x hn).trans hv) h) hd
theorem qhr {x:Str} {v:V} {u:Value} {pos:Pos} (hg:Gl X x) (hm:X.mg x=some u) (r:RelV v u) (hd:(x == ("__debug__":Str))=false:=by decide):PE X (.Name x pos) (tC v) :=
  fun _ _ _ H _ I h=>qbb I hg hm ⟨v,H,I,r,h⟩ hd
theorem qcg {x:Str} {v:V} {u:Value} {pos:Pos} (hg:Gl X x) (hm:X.mg x=none) (hv:bootBuiltins x=some u) (r:RelV v u) (hn:x≠"__name__":=by decide) (hd:(x == ("__debug__":Str))=false:=by decide):PE X (.Name x pos) (tC v) :=
  fun _ _ _ H _ I h=>qcF I hg hm hv ⟨v,H,I,r,h⟩ hn hd
variable {a b : Expr} {ta tb : TE} {pos : Pos}
variable {tA tB' : TT} {rest : List Expr}
def tOr (t u:TT):TT:=fun σ H Q=>t σ H fun c H1=>if c=true then Q true H1 else u σ H1 Q
def qkI (t:TT):TT:=fun σ H Q=>t σ H fun c H1=>Q (!c) H1
theorem qh6 (ha:PT X a tA):PW X (.BoolOp .Or [a] pos) tA:=by
  intro wh pins s σ H Q I h
  refine isTrue_or (thn (ha pins s σ H Q I h) fun c s1 e=>?_)
  cases c with
  | false=>exact isTrue_or_nil e
  | true=>exact e
theorem qjY (ha:PT X a tA) (hb:PW X (.BoolOp .Or (b::rest) pos) tB'):PW X (.BoolOp .Or (a::b::rest) pos) (tOr tA tB'):=by
  intro wh pins s σ H Q I h
  refine isTrue_or (thn (ha pins s σ H _ I h) fun c s1 hq0=>?_)
  obtain ⟨H1,I1,q1⟩:=hq0
  cases c with
  | true=>exact ⟨H1,I1,q1⟩
  | false=>exact hb wh pins s1 σ H1 Q I1 q1
theorem qiR (ha:PT X a tA):PT X (.UnaryOp .Not a pos) (qkI tA):=by
  intro pins s σ H Q I h
  exact isTrue_not (ha pins s σ H (fun c H1=>Q (!c) H1) I h)
def qjL (ta tb:TE):TE:=fun σ H Q=>ta σ H fun x H1=>∃ c,x=.bl c∧if c=true then tb σ H1 Q else Q (.bl false) H1
def qlk (ta tb:TE):TE:=fun σ H Q=>ta σ H fun x H1=>∃ c,x=.bl c∧if c=true then Q (.bl true) H1 else tb σ H1 Q
def qj6 (ta:TE):TE:=fun σ H Q=>ta σ H fun x H1=>∃ c,x=.bl c∧Q (.bl (!c)) H1
theorem qiI {op} {t:TE} (h:PE X a t):PE X (.BoolOp op [a] pos) t:=fun pins s σ H Q I hw=>BoolOp_one (h pins s σ H Q I hw)
theorem qjq (ha:PE X a ta) (hb:PE X (.BoolOp .And (b::rest) pos) tb):PE X (.BoolOp .And (a::b::rest) pos) (qjL ta tb):=by
  intro pins s σ H Q I h
  refine BoolOp_and (thn (ha pins s σ H _ I h) fun v s1 hq0=>?_)
  obtain ⟨x,H1,I1,r1,q1⟩:=hq0
  obtain ⟨c,rfl,q1⟩:=q1
  cases r1
  refine wpAny_truthy_bool ?_
  cases c with
  | true=>exact hb pins s1 σ H1 Q I1 q1
  | false=>exact ⟨.bl false,H1,I1,rfl,q1⟩
theorem qj7 (ha:PE X a ta) (hb:PE X (.BoolOp .Or (b::rest) pos) tb):PE X (.BoolOp .Or (a::b::rest) pos) (qlk ta tb):=by
  intro pins s σ H Q I h
  refine BoolOp_or (thn (ha pins s σ H _ I h) fun v s1 hq0=>?_)
  obtain ⟨x,H1,I1,r1,q1⟩:=hq0
  obtain ⟨c,rfl,q1⟩:=q1
  cases r1
  refine wpAny_truthy_bool ?_
  cases c with
  | false=>exact hb pins s1 σ H1 Q I1 q1
  | true=>exact ⟨.bl true,H1,I1,rfl,q1⟩
theorem qiB (ha:PE X a ta):PE X (.UnaryOp .Not a pos) (qj6 ta):=by
  intro pins s σ H Q I h
  refine UnaryOp_ (thn (ha pins s σ H _ I h) fun v s1 hq0=>?_)
  obtain ⟨x,H1,I1,r1,q1⟩:=hq0
  obtain ⟨c,rfl,q1⟩:=q1
  cases r1
  exact not_of (wpAny_truthy_bool ⟨.bl (!c),H1,I1,rfl,q1⟩)
end
def SqL (K:PySem.W.Frag) (H:Hp) (a:Addr) (xs:List V):Prop :=
  Rd H a (.lst xs) ∨
    ∃ (o:Obj) (its:Array Value) (n:Nat),K.lookup a=some o∧o.cls=.type "list"∧o.dict=none∧o.data=.seq its n∧its.size≤sizeLine∧Vals xs its.toList
def SqT (K:PySem.W.Frag) (H:Hp) (a:Addr) (xs:List V):Prop :=
  Rd H a (.tup xs) ∨
    ∃ (o:Obj) (its:Array Value) (n:Nat),K.lookup a=some o∧o.cls=.type "tuple"∧o.data=.seq its n∧its.size≤sizeLine∧Vals xs its.toList
def qk2:Value→Option V
  | .none=>some .non
  | .bool b=>some (.bl b)
  | .int i _=>some (.int i)
  | .str x _=>some (.str x)
  | .bytes b _=>some (.byt b)
  | .float b _=>some (.flt b)
  | .ref a=>some (.ref a)
  | .type n=>some (.ty n)
  | _=>none
theorem RelV.abs {x:V} {u:Value} (r:RelV x u):qk2 u=some x:=by
  cases x with
  | non=>cases r;rfl
  | bl _=>cases r;rfl
  | int _=>obtain ⟨t,rfl⟩:=r;rfl
  | str _=>obtain ⟨t,rfl⟩:=r;rfl
  | byt _=>obtain ⟨t,rfl⟩:=r;rfl
  | flt _=>obtain ⟨t,rfl⟩:=r;rfl
  | ref _=>cases r;rfl
  | ty _=>cases r;rfl
theorem RelV.inj {x y:V} {u:Value} (r:RelV x u) (q:RelV y u):x=y:=Option.some.inj (r.abs.symm.trans q.abs)
theorem Vals.inj:∀ {xs ys:List V} {us:List Value},Vals xs us→Vals ys us→xs=ys
  | _,_,_,.nil,.nil=>rfl
  | _,_,_,.cons r t,.cons r' t'=>by rw [r.inj r',Vals.inj t t']
section
variable {X : Cx} {pins : List (Addr × Obj)} {σ : St} {H : Hp} {s : Shared} {a : Addr} {xs ys : List V}
theorem SqL.of {K:PySem.W.Frag} (h:H a=some (.lst xs)):SqL K H a xs:=.inl (.inl h)
theorem SqT.of {K:PySem.W.Frag} (h:H a=some (.tup xs)):SqT K H a xs:=.inl (.inl h)
theorem Inv.list (I:Inv X pins σ H s) (h:SqL X.K H a xs):∃ its:List Value,Vals xs its∧PlainL s.heap a its.toArray∧xs.length≤sizeLine:=by
  rcases h with h | ⟨o,its,n,hk,hc,hd,hs,hz,r⟩
  · obtain ⟨z,its,n,r,e⟩:=h.ok I.hok
    exact ⟨its,r,⟨_,n,e,rfl,rfl,rfl⟩,z⟩
  · refine ⟨its.toList,r,⟨o,n,I.kIn a o hk,hc,hd,by simpa using hs⟩,?_⟩
    have e:=r.length
    simp only [Array.length_toList] at e
    omega
theorem Inv.tuple (I:Inv X pins σ H s) (h:SqT X.K H a xs):∃ its:List Value,Vals xs its∧IsTup s.heap a its.toArray∧xs.length≤sizeLine:=by
  rcases h with h | ⟨o,its,n,hk,hc,hs,hz,r⟩
  · obtain ⟨z,its,r,p⟩:=h.ok I.hok
    exact ⟨its,r,p.tup,z⟩
  · refine ⟨its.toList,r,⟨o,I.kIn a o hk,hc,n,by simpa using hs⟩,?_⟩
    have e:=r.length
    simp only [Array.length_toList] at e
    omega
theorem Inv.list_inj (I:Inv X pins σ H s) (h:SqL X.K H a xs) (h':SqL X.K H a ys):xs=ys:=by
  obtain ⟨its,r,⟨o,n,e,_,_,d⟩,_⟩:=I.list h
  obtain ⟨its',r',⟨o',n',e',_,_,d'⟩,_⟩:=I.list h'
  rw [e] at e';cases e'
  rw [d] at d'
  injection d' with d1 _
  have:its=its':=by simpa using congrArg Array.toList d1
  subst this
  exact r.inj r'
theorem Inv.tuple_inj (I:Inv X pins σ H s) (h:SqT X.K H a xs) (h':SqT X.K H a ys):xs=ys:=by
  obtain ⟨its,r,⟨o,e,_,n,d⟩,_⟩:=I.tuple h
  obtain ⟨its',r',⟨o',e',_,n',d'⟩,_⟩:=I.tuple h'
  rw [e] at e';cases e'
  rw [d] at d'
  injection d' with d1 _
  have:its=its':=by simpa using congrArg Array.toList d1
  subst this
  exact r.inj r'
end
abbrev Cx.wish (X:Cx) (E:Value→Shared→Prop):Cx:={ X with xe:=E }
abbrev Cx.nox (X:Cx):Cx:=X.wish fun _ _=>False
theorem Cx.Ok.wish {X:Cx} (ok:X.Ok) (E:Value→Shared→Prop):(X.wish E).Ok :=
  ⟨ok.mod,ok.kind,ok.glob,ok.blt,ok.above,ok.inj,ok.has,ok.cab,ok.hd,ok.frames,ok.stk,ok.exf,ok.bs,ok.bsz,ok.noex,ok.exfs,ok.funs,ok.frf⟩
theorem Cx.Ok.unwish {X:Cx} {E:Value→Shared→Prop} (ok:(X.wish E).Ok):X.Ok :=
  ⟨ok.mod,ok.kind,ok.glob,ok.blt,ok.above,ok.inj,ok.has,ok.cab,ok.hd,ok.frames,ok.stk,ok.exf,ok.bs,ok.bsz,ok.noex,ok.exfs,ok.funs,ok.frf⟩
section
variable {X : Cx} {pins : List (Addr × Obj)} {σ : St} {H : Hp} {s : Shared} {E : Value → Shared → Prop}
theorem Inv.wish (I:Inv X pins σ H s) (E:Value→Shared→Prop):Inv (X.wish E) pins σ H s:=⟨I.ok.wish E,I.os,I.bare,I.base,I.loc,I.cell,I.free,I.freeC,I.pin,I.hok,I.len⟩
theorem Inv.unwish (I:Inv (X.wish E) pins σ H s):Inv X pins σ H s:=⟨I.ok.unwish,I.os,I.bare,I.base,I.loc,I.cell,I.free,I.freeC,I.pin,I.hok,I.len⟩
theorem SP.unwish {D:Ends} {f:Flow} {s':Shared} (h:SP (X.wish E) pins D f s'):SP X pins D f s':=by
  cases f with
  | next=>obtain ⟨σ',H',I,q⟩:=h;exact ⟨σ',H',I.unwish,q⟩
  | brk=>obtain ⟨σ',H',I,q⟩:=h;exact ⟨σ',H',I.unwish,q⟩
  | cont=>obtain ⟨σ',H',I,q⟩:=h;exact ⟨σ',H',I.unwish,q⟩
  | ret u=>obtain ⟨v,σ',H',I,r,q⟩:=h;exact ⟨v,σ',H',I.unwish,r,q⟩
theorem PSs.nox {st:List Stmt} {t:TS} (h:PSs X.nox st t):PSs X st t:=fun pins s σ H D I hw =>
  wpAny_mono (h pins s σ H D (I.wish _) hw) (fun _ _ q=>q.unwish) fun _ _ z=>False.elim z
end
section
variable {X : Cx} {st : Stmt} {rest : List Stmt} {t u : TS} {e : Expr} {te : TE} {pos : Pos}
def qj9:TS:=fun D σ H=>D.nx σ H
def qlp (t u:TS):TS:=fun D σ H=>t { D with nx:=u D } σ H
theorem pss_nil:PSs X [] qj9:=fun _ _ σ H _ I h=>wpAny_execs_nil ⟨σ,H,I,h⟩
theorem qb4 (h1:PS X st t) (h2:PSs X rest u):PSs X (st::rest) (qlp t u):=by
  intro pins s σ H D I h
  refine wpAny_execs_cons (thn (h1 pins s σ H { D with nx:=u D } I h) fun f s1 q=>?_)
  cases f with
  | next =>
    obtain ⟨σ',H',I',q⟩:=q
    exact h2 pins s1 σ' H' D I' q
  | ret v=>exact q
  | brk=>exact q
  | cont=>exact q
theorem qd5 (h1:PS X st t):PSs X [st] t:=by
  intro pins s σ H D I h
  refine wpAny_execs_cons (thn (h1 pins s σ H D I h) fun f s1 q=>?_)
  cases f with
  | next=>exact wpAny_execs_nil q
  | ret v=>exact q
  | brk=>exact q
  | cont=>exact q
theorem Inv.quiet {pins:List (Addr × Obj)} {σ:St} {H:Hp} {s:Shared} (I:Inv X pins σ H s):interactive X.env=false:=by simp [interactive,I.ok.kind]
def qjG (te:TE):TS:=fun D σ H=>te σ H fun _ H1=>D.nx σ H1
theorem qfc (he:PE X e te) (hs:swapsWith e none pos.line X.env=pure false:=by rfl):PS X (.Expr e pos) (qjG te):=by
  intro pins s σ H D I h
  exact wpAny_Expr_any (thn (he pins s σ H _ I h) fun v s1 hq0=>by obtain ⟨x,H1,I1,r1,q1⟩:=hq0;exact ⟨σ,H1,I1,q1⟩) I.quiet hs
def qkH (te:TE):TS:=fun D σ H=>te σ H D.rt
theorem qgV (he:PE X e te):PS X (.Return (some e) pos) (qkH te):=by
  intro pins s σ H D I h
  exact wpAny_Return_some (thn (he pins s σ H _ I h) fun v s1 hq0=>by obtain ⟨x,H1,I1,r1,q1⟩:=hq0;exact ⟨x,σ,H1,I1,r1,q1⟩)
def qkL (c:TT) (t u:TS):TS:=fun D σ H=>c σ H fun b H1=>if b=true then t D σ H1 else u D σ H1
theorem qh4 {c:Expr} {a b:List Stmt} {tc:TT} (hc:PT X c tc) (ha:PSs X a t) (hb:PSs X b u):PS X (.If c a b pos) (qkL tc t u):=by
  intro pins s σ H D I h
  refine wpAny_If (thn (hc pins s σ H _ I h) fun d s1 hq0=>?_)
  obtain ⟨H1,I1,q1⟩:=hq0
  cases d with
  | true=>exact ha pins s1 σ H1 D I1 q1
  | false=>exact hb pins s1 σ H1 D I1 q1
def qiM:TS:=fun _ _ _=>False
theorem ps_never:PS X st qiM:=fun _ _ _ _ _ _ h=>h.elim
end
abbrev TG:=V→St→Hp→(St→Hp→Prop)→Prop
abbrev TGs:=List V→St→Hp→(St→Hp→Prop)→Prop
def PG (X:Cx) (target:Expr) (t:TG):Prop :=
  ∀ (pins:List (Addr × Obj)) (s:Shared) (σ:St) (H:Hp) (v:V) (u:Value) (Q:St→Hp→Prop),Inv X pins σ H s→RelV v u→t v σ H Q →
    wpAny (model X.prog X.w) X.A (assign target X.env u) (fun _ s'=>∃ σ' H',Inv X pins σ' H' s'∧Q σ' H') X.xe s
def PGs (X:Cx) (ts:List Expr) (t:TGs):Prop :=
  ∀ (pins:List (Addr × Obj)) (s:Shared) (σ:St) (H:Hp) (vs:List V) (us:List Value) (Q:St→Hp→Prop),Inv X pins σ H s→Vals vs us→t vs σ H Q →
    wpAny (model X.prog X.w) X.A (assignInOrder ((assignEach ts X.env).map (·.2)) us) (fun _ s'=>∃ σ' H',Inv X pins σ' H' s'∧Q σ' H') X.xe s
section
variable {X : Cx} {pos : Pos}
def qd7 (i:Nat):TG:=fun v σ H Q=>Q (σ.set i (some v)) H
theorem qhk {i:Nat} {x:Str} (hN:X.N.Nodup) (hi:X.N[i]?=some x) (hx:Loc X.env.scope x) (hf:X.fn x=true∨X.env.scope.names.lookup x=some .local:=by first | exact .inl rfl | exact .inr rfl | assumption):PG X (.Name x pos) (qd7 i):=by
  intro pins s σ H v u Q I r h
  exact wpAny_assign_Name (qc4 I hN hi hx r (fun s' I'=>⟨_,H,I',h⟩) hf)
def qkM:TGs:=fun vs σ H Q=>vs=[]∧Q σ H
def qjH (t:TG) (u:TGs):TGs:=fun vs σ H Q=>∃ v r,vs=v::r∧t v σ H fun σ' H'=>u r σ' H' Q
theorem pgs_nil:PGs X [] qkM:=by
  intro pins s σ H vs us Q I r h
  obtain ⟨e,h⟩:=h
  subst e
  cases r
  exact assignInOrder_nil ⟨σ,H,I,h⟩
theorem qgL {e:Expr} {es:List Expr} {t:TG} {u:TGs} (h1:PG X e t) (h2:PGs X es u)
    (hs:(assignEach (e::es) X.env).map (·.2)=assign e X.env::(assignEach es X.env).map (·.2):=by rfl):PGs X (e::es) (qjH t u):=by
  intro pins s σ H vs us Q I r h
  obtain ⟨v,vr,e1,h⟩:=h
  subst e1
  cases r with
  | cons r rr =>
    rw [hs]
    refine assignInOrder_cons (thn (h1 pins s σ H _ _ _ I r h) fun _ s1 hq0=>?_)
    obtain ⟨σ1,H1,I1,q1⟩:=hq0
    exact h2 pins s1 σ1 H1 _ _ Q I1 rr q1
def qkw (K:PySem.W.Frag) (n:Nat) (t:TGs):TG:=fun v σ H Q=>∃ a xs,v=.ref a∧SqT K H a xs∧xs.length=n∧t xs σ H Q
theorem qiV {es:List Expr} {k:Nat} {t:TGs} {n:Nat} (hc:X.calm=true) (h:PGs X es t)
    (hn:(assignEach es X.env).length=n:=by rfl) (hst:(assignEach es X.env).findIdx? (·.1)=none:=by rfl):PG X (.Tuple es k pos) (qkw X.K n t):=by
  intro pins s σ H v u Q I r hw
  obtain ⟨a,xs,e1,hq,hl,hw⟩:=hw
  subst e1
  cases r
  obtain ⟨its,rv,ht,hz⟩:=I.tuple hq
  refine assign_Tuple_tuple (I.ok.hd hc) ht (by simp [hn,← hl,rv.length]) hst fun h' hx=>?_
  have I1:Inv X pins σ H { s with heap:=h' }:=I.kept (t':=s.toks) fun b o e=>hx b o (Nat.ne_of_lt (Heap.lt_size e)) e
  exact h pins _ σ H xs _ Q I1 (by simpa using rv) hw
def qhZ (te:TE) (g:TG):TS:=fun D σ H=>te σ H fun x H1=>g x σ H1 D.nx
theorem qi5 {tg e:Expr} {te:TE} {g:TG} (he:PE X e te) (hg:PG X tg g) (hs:swapsWithSole [tg] e pos.line X.env=pure false:=by rfl) (hw:swappedStores [tg] e X.env=pure none:=by rfl)
    (h1:(assignEach [tg] X.env).map (·.2)=[assign tg X.env]:=by rfl):PS X (.Assign [tg] e pos) (qhZ te g):=by
  intro pins s σ H D I h
  refine wpAny_Assign_stores (thn (he pins s σ H _ I h) fun v s1 hq0=>?_) hs hw
  obtain ⟨x,H1,I1,r1,q1⟩:=hq0
  rw [h1]
  exact thn (hg pins s1 σ H1 x v _ I1 r1 q1) fun _ s2 q=>q
theorem qfC {i:Nat} {x:Str} {e:Expr} {te:TE} {pos':Pos} (hN:X.N.Nodup) (hi:X.N[i]?=some x) (hx:Loc X.env.scope x) (he:PE X e te) (hs:swapsWith e (some (.Name x pos')) pos.line X.env=pure false:=by rfl) (hf:X.fn x=true∨X.env.scope.names.lookup x=some .local:=by first | exact .inl rfl | exact .inr rfl | assumption) :
    PS X (.Assign [.Name x pos'] e pos) (qhZ te (qd7 i)):=by
  intro pins s σ H D I h
  refine wpAny_Assign_Name (thn (he pins s σ H _ I h) fun v s1 hq0=>?_) hs
  obtain ⟨y,H1,I1,r1,q1⟩:=hq0
  exact qc4 I1 hN hi hx r1 (fun s2 I2=>⟨_,H1,I2,q1⟩) hf
end
section
variable {X : Cx} {pos : Pos}
def qii (c:TT) (tb:TS):TS:=fun D σ H=>∃ W:Nat→St→Hp→Prop,(∃ m,W m σ H)∧∀ m σ H,W m σ H →
  c σ H fun b H1=>if b=true then ∃ N:St→Hp→Prop,(∀ σ' H',N σ' H'→∃ m',m'<m∧W m' σ' H')∧tb { D with nx:=N,ct:=N,bk:=D.nx } σ H1 else D.nx σ H1
theorem qgJ {c:Expr} {body:List Stmt} {tc:TT} {tb:TS} (hp:PassesOwn (model X.prog X.w) X.A X.env X.xe) (hc:PT X c tc) (hb:PSs X body tb):PS X (.While c body [] pos) (qii tc tb):=by
  intro pins s σ H D I h
  obtain ⟨W,⟨m0,w0⟩,turn⟩:=h
  refine wpAny_While (codeAny_whileLoop (fun n s'=>∃ σ' H',Inv X pins σ' H' s'∧W n σ' H') ?_ m0 ⟨σ,H,I,w0⟩)
  rintro n s1 ⟨σ1,H1,I1,w1⟩
  refine wpAny_passesOwn hp (thn (hc pins s1 σ1 H1 _ I1 (turn n σ1 H1 w1)) fun b s2 hq0=>?_)
  obtain ⟨H2,I2,q2⟩:=hq0
  cases b with
  | true =>
    obtain ⟨N,hN,q2⟩:=q2
    rw [if_pos rfl]
    refine wpAny_passesOwn hp (thn (hb pins s2 σ1 H2 _ I2 q2) fun f s3 q3=>?_)
    cases f with
    | next =>
      obtain ⟨σ3,H3,I3,n3⟩:=q3
      obtain ⟨m',hm,w3⟩:=hN σ3 H3 n3
      exact ⟨m',hm,σ3,H3,I3,w3⟩
    | cont =>
      obtain ⟨σ3,H3,I3,n3⟩:=q3
      obtain ⟨m',hm,w3⟩:=hN σ3 H3 n3
      exact ⟨m',hm,σ3,H3,I3,w3⟩
    | brk=>exact q3
    | ret v=>exact q3
  | false =>
    rw [if_neg Bool.false_ne_true]
    exact wpAny_execs_nil ⟨σ1,H2,I2,q2⟩
end
structure It where
  go:Nat→Hp→Prop
  yld:Nat→Hp→V→Hp→Prop
  stop:Nat→Hp→Prop
def qdi (X:Cx) (pins:List (Addr × Obj)) (H:Hp) (b:Addr):Prop :=
  H b=none∧b≠X.env.locals∧b∉X.fs∧(b∈X.ex∨X.s₀.heap.objs.size≤b)∧(∀ x c,X.env.cells.lookup x=some c→c≠b)∧∀ p∈X.pn++pins,p.1≠b
theorem Inv.fpOk {X:Cx} {pins:List (Addr × Obj)} {σ:St} {H H':Hp} {s:Shared} {b:Addr} (I:Inv X pins σ H s) (hb:s.heap.objs.size≤b) (hn:H' b=none):qdi X pins H' b:=by
  refine ⟨hn,Nat.ne_of_gt (Nat.lt_of_lt_of_le I.lt hb),I.nofs hb,.inr (Nat.le_trans I.sz hb),fun x c e z=>?_,fun p hp z=>?_⟩
  · obtain ⟨v,q⟩:=I.cell x c e
    exact absurd (Nat.lt_of_lt_of_le q.lt (by rw [z];exact hb)) (Nat.lt_irrefl _)
  · exact absurd (Nat.lt_of_lt_of_le (Heap.lt_size (I.pin p hp).1) (by rw [z];exact hb)) (Nat.lt_irrefl _)
structure Turn (P:Program) (w:World) (K:PySem.W.Frag) (tg:Expr) (J:It) (fp:List Addr) (it:Addr) (tn:Nat→Heap→Prop):Prop where
  mem:it∈fp
  obj:∀ i h,tn i h→∀ b∈fp,∃ o,h.get? b=some o∧∀ v,o.data≠.cell v
  keep:∀ i h h',tn i h→(∀ b∈fp,∀ o,h.get? b=some o→h'.get? b=some o)→tn i h'
  item:∀ (X:Cx),X.prog=P→X.w=w→X.K=K→X.calm=true→∀ (i:Nat) (pins:List (Addr × Obj)) (s:Shared) (σ:St) (H:Hp) (E:Value→Shared→Prop),Inv X pins σ H s→(∀ b∈fp,qdi X pins H b)→tn i s.heap→J.go i H →
    wpAny (model P w) X.A (pyNext (.ref it)) (fun r s1=>∃ u,r=some u ∧
      wpAny (model P w) X.A (letOwnedTupleGo tg (.ref it) u) (fun _ s2=>∃ x H',Inv X pins σ H' s2∧RelV x u∧J.yld i H x H'∧tn (i+1) s2.heap∧∀ b∈fp,H' b=none) E s1) E s
  done:∀ (X:Cx),X.prog=P→X.w=w→X.K=K→X.calm=true→∀ (i:Nat) (pins:List (Addr × Obj)) (s:Shared) (σ:St) (H:Hp) (E:Value→Shared→Prop),Inv X pins σ H s→(∀ b∈fp,qdi X pins H b)→tn i s.heap→J.stop i H →
    wpAny (model P w) X.A (pyNext (.ref it)) (fun r s1=>r=none∧Inv X pins σ H s1) E s
  self:∀ (A:Around) (i:Nat) (s:Shared) (Q:Value→Shared→Prop) (E:Value→Shared→Prop),tn i s.heap→Q (.ref it) s→wpAny (model P w) A (pyIter (.ref it)) Q E s
abbrev TI:=St→Hp→(It→Hp→Prop)→Prop
def PIE (X:Cx) (pins:List (Addr × Obj)) (σ:St) (tg:Expr) (R:It→Hp→Prop) (itv:Value) (s2:Shared):Prop :=
  ∃ (it:Addr) (fp:List Addr) (tn:Nat→Heap→Prop) (J:It) (H':Hp),itv=.ref it∧Inv X pins σ H' s2∧Turn X.prog X.w X.K tg J fp it tn∧tn 0 s2.heap∧(∀ b∈fp,qdi X pins H' b)∧R J H'
def PI (X:Cx) (tg iter:Expr) (wi:TI):Prop :=
  ∀ (pins:List (Addr × Obj)) (s:Shared) (σ:St) (H:Hp) (R:It→Hp→Prop),Inv X pins σ H s→wi σ H R →
    wpAny (model X.prog X.w) X.A (eval iter X.env) (fun v s1=>wpAny (model X.prog X.w) X.A (pyIter v) (PIE X pins σ tg R) X.xe s1) X.xe s
theorem qhe {M:Model} {A:Around} {E:Value→Shared→Prop} {s:Shared} {tg:Expr} {it:Addr} {u:Value} {o:Obj} {n:String} {vs:Array Value} {Q:Unit→Shared→Prop} (ho:s.heap.get? it=some o) (hc:o.cls=.type n) (hd:o.data=.fields vs)
    (hn:["enumerate","zip","dict_itemiterator","dict_reverseitemiterator","odict_iterator","itertools.zip_longest","itertools.pairwise"].contains n=false) (hQ:Q () s):wpAny M A (letOwnedTupleGo tg (.ref it) u) Q E s:=by
  unfold letOwnedTupleGo
  cases tg <;> first
    | exact wpAny_pure hQ
    | (cases u <;> first
        | exact wpAny_pure hQ
        | (refine wpAny_bind (wpAny_load ho ?_)
           rw [hc,hd]
           show wpAny M A (if (["enumerate","zip","dict_itemiterator","dict_reverseitemiterator","odict_iterator","itertools.zip_longest","itertools.pairwise"].contains n && vs[0]? == some (rawInt _))=true then _ else _) Q E s
           rw [if_neg (by intro h;rw [hn,Bool.false_and] at h;cases h)]
           exact wpAny_pure hQ))
def Itl (K:PySem.W.Frag) (a:Addr):It :=
  ⟨fun i H=>∃ xs x,SqL K H a xs∧xs[i]?=some x,fun i H x H'=>H'=H∧∀ xs,SqL K H a xs→xs[i]?=some x,fun i H=>∃ xs,SqL K H a xs∧xs.length≤i⟩
def Itt (K:PySem.W.Frag) (a:Addr):It :=
  ⟨fun i H=>∃ xs x,SqT K H a xs∧xs[i]?=some x,fun i H x H'=>H'=H∧∀ xs,SqT K H a xs→xs[i]?=some x,fun i H=>∃ xs,SqT K H a xs∧xs.length≤i⟩
def Itr (lo:Int) (n:Nat):It:=⟨fun i _=>i<n,fun i H x H'=>H'=H∧x=.int (lo+i),fun i _=>n≤i⟩
theorem qfe {P:Program} {w:World} {K:PySem.W.Frag} {tg:Expr} (a it:Addr):Turn P w K tg (Itl K a) [it] it (fun i h=>h.IsListIter it a i) where
  mem:=by simp
  obj:=fun i h st b hb=>by
    have e:b=it:=by simpa using hb
    subst e
    obtain ⟨o,e,c,d⟩:=st
    exact ⟨o,e,fun v z=>by rw [d] at z;cases z⟩
  keep:=fun i h h' st k=>st.at fun o e=>k it (by simp) o e
  item:=by
    intro X hP hw hK hc i pins s σ H E I hf st hg
    subst hP hw hK
    obtain ⟨xs,x,hq,hx⟩:=hg
    obtain ⟨its,rv,p,hz⟩:=I.list hq
    obtain ⟨u,hu,ru⟩:=rv.get hx
    obtain ⟨f0,f1,f2,f3,f4,f5⟩:=hf it (by simp)
    refine wpAny_pyNext_list_item st p.isList (x:=u) (by simpa using hu) fun h' st' sb=>?_
    have I1:Inv X pins σ H { s with heap:=h' }:=I.turned (t':=s.toks) (fun b o hb e=>(sb.2 b hb).trans e) f0 f1 f3 f4 f5
    obtain ⟨o,e,c,d⟩:=id st'
    exact ⟨u,rfl,qhe (s:={ s with heap:=h' }) e c d (by decide) ⟨x,H,I1,ru,⟨rfl,fun ys hy=>by rw [I.list_inj hy hq];exact hx⟩,st',fun b hb=>(hf b hb).1⟩⟩
  done:=by
    intro X hP hw hK hc i pins s σ H E I hf st hg
    subst hP hw hK
    obtain ⟨xs,hq,hx⟩:=hg
    obtain ⟨its,rv,p,hz⟩:=I.list hq
    obtain ⟨f0,f1,f2,f3,f4,f5⟩:=hf it (by simp)
    have hl:=rv.length
    exact wpAny_pyNext_list_end (I.ok.hd hc) st p.isList (by simp;omega) fun h' eb=>⟨rfl,I.turned (t':=s.toks) (fun b o hb e=>eb b o hb e) f0 f1 f3 f4 f5⟩
  self:=fun _ _ _ _ _ st h=>wpAny_pyIter_listiter st h
theorem qeI {P:Program} {w:World} {K:PySem.W.Frag} {tg:Expr} (a it:Addr):Turn P w K tg (Itt K a) [it] it (fun i h=>h.IsTupleIter it a i) where
  mem:=by simp
  obj:=fun i h st b hb=>by
    have e:b=it:=by simpa using hb
    subst e
    obtain ⟨o,e,c,d⟩:=st
    exact ⟨o,e,fun v z=>by rw [d] at z;cases z⟩
  keep:=fun i h h' st k=>st.at fun o e=>k it (by simp) o e
  item:=by
    intro X hP hw hK hc i pins s σ H E I hf st hg
    subst hP hw hK
    obtain ⟨xs,x,hq,hx⟩:=hg
    obtain ⟨its,rv,p,hz⟩:=I.tuple hq
    obtain ⟨u,hu,ru⟩:=rv.get hx
    obtain ⟨f0,f1,f2,f3,f4,f5⟩:=hf it (by simp)
    refine wpAny_pyNext_tuple_item st (show s.heap.IsTuple a its.toArray from p) (x:=u) (by simpa using hu) fun h' st' sb=>?_
    have I1:Inv X pins σ H { s with heap:=h' }:=I.turned (t':=s.toks) (fun b o hb e=>(sb.2 b hb).trans e) f0 f1 f3 f4 f5
    obtain ⟨o,e,c,d⟩:=id st'
    exact ⟨u,rfl,qhe (s:={ s with heap:=h' }) e c d (by decide) ⟨x,H,I1,ru,⟨rfl,fun ys hy=>by rw [I.tuple_inj hy hq];exact hx⟩,st',fun b hb=>(hf b hb).1⟩⟩
  done:=by
    intro X hP hw hK hc i pins s σ H E I hf st hg
    subst hP hw hK
    obtain ⟨xs,hq,hx⟩:=hg
    obtain ⟨its,rv,p,hz⟩:=I.tuple hq
    obtain ⟨f0,f1,f2,f3,f4,f5⟩:=hf it (by simp)
    have hl:=rv.length
    exact wpAny_pyNext_tuple_end (I.ok.hd hc) st (show s.heap.IsTuple a its.toArray from p) (by simp;omega) fun h' eb=>⟨rfl,I.turned (t':=s.toks) (fun b o hb e=>eb b o hb e) f0 f1 f3 f4 f5⟩
  self:=fun _ _ _ _ _ st h=>wpAny_pyIter_tupleiter st h
theorem qeO {P:Program} {w:World} {K:PySem.W.Frag} {tg:Expr} (it:Addr) (lo:Int) (n:Nat):Turn P w K tg (Itr lo n) [it] it (fun i h=>IsRangeIter h it (lo+(i:Nat)*1) ((n:Int) - (i:Nat)) 1) where
  mem:=by simp
  obj:=fun i h st b hb=>by
    have e:b=it:=by simpa using hb
    subst e
    exact ⟨_,st,fun v z=>by
      have z':Data.fields _=Data.cell v:=z
      cases z'⟩
  keep:=fun i h h' st k=>k it (by simp) _ st
  item:=by
    intro X hP hw hK hc i pins s σ H E I hf st hg
    subst hP hw hK
    obtain ⟨f0,f1,f2,f3,f4,f5⟩:=hf it (by simp)
    have W:=Walks.range (prog:=X.prog) (w:=X.w) (I.ok.hd hc) it lo 1 n
    refine W.item i s _ _ hg st fun v h' tk hv st' kk=>?_
    obtain ⟨t,rfl⟩:=hv
    have I1:Inv X pins σ H { s with heap:=h',toks:=tk }:=I.turned (fun b o hb e=>kk b o (by simpa using hb) e) f0 f1 f3 f4 f5
    refine ⟨_,rfl,qhe (s:={ s with heap:=h',toks:=tk }) (n:="range_iterator") st' rfl rfl (by decide) ⟨.int (lo+i),H,I1,⟨t,?_⟩,⟨rfl,rfl⟩,st',fun b hb=>(hf b hb).1⟩⟩
    rw [Int.mul_one]
  done:=by
    intro X hP hw hK hc i pins s σ H E I hf st hg
    subst hP hw hK
    obtain ⟨f0,f1,f2,f3,f4,f5⟩:=hf it (by simp)
    exact wpAny_pyNext_range_end (I.ok.hd hc) st (by have:n≤i:=hg;omega) fun h' eb=>⟨rfl,I.turned (t':=s.toks) (fun b o hb e=>eb b o hb e) f0 f1 f3 f4 f5⟩
  self:=fun _ _ _ _ _ st h=>wpAny_pyIter_rangeiter st h
section
variable {X : Cx} {tg : Expr}
theorem qfY {pins:List (Addr × Obj)} {σ:St} {H:Hp} {s:Shared} {R:It→Hp→Prop} {E:Value→Shared→Prop} {lo hi:Int} {t u v:Tok} {tk:Nat} (I:Inv X pins σ H s) (h1:-(2 ^ 62)≤lo) (h2:lo<2 ^ 62) (h3:-(2 ^ 62)≤hi) (h4:hi<2 ^ 62)
    (q:R (Itr lo (hi - lo).toNat) H):wpAny (model X.prog X.w) X.A (pyIter (.ref s.heap.objs.size)) (PIE X pins σ tg R) E { s with heap:=s.heap.push { cls:=.type "range",data:=.fields #[.int lo t,.int hi u,.int 1 v] },toks:=tk }:=by
  refine wpAny_pyIter_range (IsRange.new ..) (small_one h1 h2 h3 h4) ?_
  have I1:Inv X pins σ H { s with heap:=s.heap.push { cls:=.type "range",data:=.fields #[.int lo t,.int hi u,.int 1 v] },toks:=tk }:=I.kept fun b o e=>Heap.get?_push_of_some _ e
  refine ⟨(s.heap.push { cls:=.type "range",data:=.fields #[.int lo t,.int hi u,.int 1 v] }).objs.size,[(s.heap.push { cls:=.type "range",data:=.fields #[.int lo t,.int hi u,.int 1 v] }).objs.size],_,_,H,rfl,
    I1.kept (t':=tk) fun b o e=>Heap.get?_push_of_some _ e,qeO _ lo (hi - lo).toNat,?_,fun b hb=>?_,q⟩
  · have e1:lo+((0:Nat):Int)*1=lo:=by simp
    have e2:(((hi - lo).toNat:Nat):Int) - ((0:Nat):Int)=Builtin.Range.rangeSize lo hi 1:=by rw [rangeSize_one];split <;> omega
    show IsRangeIter _ _ (lo+((0:Nat):Int)*1) ((((hi - lo).toNat:Nat):Int) - ((0:Nat):Int)) 1
    rw [e1,e2]
    exact Heap.get?_push_size _ rfl
  · have e:b=(s.heap.push { cls:=.type "range",data:=.fields #[.int lo t,.int hi u,.int 1 v] }).objs.size:=by simpa using hb
    subst e
    exact I1.fpOk (Nat.le_refl _) (I1.hok.fresh (Nat.le_refl _))
def qka (ta:TA):TI:=fun σ H R=>ta σ H fun vs H1=>∃ j:Int,vs=[.int j]∧-(2 ^ 62)≤j∧j<2 ^ 62∧R (Itr 0 j.toNat) H1
theorem qfw {a:Expr} {ta:TA} {p pos:Pos} (hg:Gl X "range") (hm:X.mg "range"=none) (ha:PA X [a] ta) (hs:starEach [a] X.env=[(false,eval a X.env)]:=by rfl):PI X tg (.Call (.Name "range" p) [a] [] pos) (qka ta):=by
  intro pins s σ H R I h
  refine Call_ (qcF I hg hm boot_range (PyProof.Rows.callWith_type1 (thn (ha pos pins s σ H _ I h) fun us s1 hq0=>?_) hs rfl))
  obtain ⟨vs,H1,I1,r1,q1⟩:=hq0
  obtain ⟨j,e,q1,q2,q⟩:=q1
  subst e
  cases r1 with
  | cons r rr =>
    cases rr
    obtain ⟨t,rfl⟩:=r
    exact call_range_1 (qfY I1 (by omega) (by omega) q1 q2 (by simpa using q))
def qlc (wi:TI) (g:TG) (tb:TS):TS:=fun D σ H=>wi σ H fun J H1=>∃ W:Nat→Nat→St→Hp→Prop,(∃ m,W 0 m σ H1)∧∀ i m σ H,W i m σ H →
  (J.stop i H∧D.nx σ H)∨(J.go i H∧∃ N:St→Hp→Prop,(∀ σ' H',N σ' H'→∃ m',m'<m∧W (i+1) m' σ' H')∧∀ x H',J.yld i H x H'→g x σ H' fun σ2 H2=>tb { D with nx:=N,ct:=N,bk:=D.nx } σ2 H2)
def qdb (fp:List Addr) (h:Heap):List (Addr × Obj):=fp.filterMap fun b=>(h.get? b).map fun o=>(b,o)
theorem qbs {fp:List Addr} {h:Heap} {b:Addr} {o:Obj} (hb:b∈fp) (e:h.get? b=some o):(b,o)∈qdb fp h:=List.mem_filterMap.mpr ⟨b,hb,by rw [e];rfl⟩
theorem qe5 {fp:List Addr} {h:Heap} {p:Addr × Obj} (hp:p∈qdb fp h):p.1∈fp∧h.get? p.1=some p.2:=by
  obtain ⟨b,hb,e⟩:=List.mem_filterMap.mp hp
  cases q:h.get? b with
  | none=>rw [q] at e;cases e
  | some o =>
    rw [q] at e
    have e':(b,o)=p:=Option.some.inj e
    subst e'
    exact ⟨hb,q⟩
theorem Inv.pinned {pins:List (Addr × Obj)} {σ:St} {H:Hp} {s:Shared} {fp:List Addr} (I:Inv X pins σ H s) (hf:∀ b∈fp,qdi X pins H b) (ho:∀ b∈fp,∃ o,s.heap.get? b=some o∧∀ v,o.data≠.cell v):Inv X (pins++qdb fp s.heap) σ H s :=
  I.pins_of fun p hp=>(List.mem_append.mp hp).elim (fun z=>I.pin p (List.mem_append_right _ z)) fun z=>by
    obtain ⟨hb,e⟩:=qe5 z
    obtain ⟨f0,f1,f2,_⟩:=hf p.1 hb
    obtain ⟨o,e',d⟩:=ho p.1 hb
    rw [e] at e';cases e'
    exact ⟨e,f0,f1,f2,d⟩
theorem Inv.unpinned {pins pl:List (Addr × Obj)} {σ:St} {H:Hp} {s:Shared} (I:Inv X (pins++pl) σ H s):Inv X pins σ H s:=I.pins_of fun p hp=>I.pin p (List.mem_append_right _ (List.mem_append_left _ hp))
theorem qiN {iter:Expr} {body:List Stmt} {wi:TI} {g:TG} {tb:TS} {pos:Pos} (hp:PassesOwn (model X.prog X.w) X.A X.env X.xe) (hc:X.calm=true) (hi:PI X tg iter wi) (hg:PG X tg g) (hb:PSs X body tb)
    (hs:∀ x,foldedSetIterable iter X.env x=pure x:=by intro _;rfl):PS X (.For tg iter body [] pos) (qlc wi g tb):=by
  intro pins s σ H D I h
  refine wpAny_For (thn (hi pins s σ H _ I h) fun v s1 h1=>thn h1 fun itv s2 h2=>?_) hs
  obtain ⟨it,fp,tn,J,H2,e,I2,T,st2,f2,W,⟨m0,w0⟩,turn⟩:=h2
  subst e
  have stat:∀ {H':Hp},(∀ b∈fp,H' b=none)→∀ b∈fp,qdi X pins H' b:=fun hn b hb=>⟨hn b hb,(f2 b hb).2⟩
  refine codeAny_forLoop_any (fun n s'=>∃ i σ' H',Inv X pins σ' H' s'∧tn i s'.heap∧(∀ b∈fp,H' b=none)∧W i n σ' H') ?_ m0 ⟨0,σ,H2,I2,st2,fun b hb=>(f2 b hb).1,w0⟩
  rintro n s3 ⟨i,σ3,H3,I3,st3,fr3,w3⟩
  rcases turn i n σ3 H3 w3 with ⟨stop,qn⟩ | ⟨go,N,hN,step⟩
  · refine wpAny_passesOwn hp (thn (T.done X rfl rfl rfl hc i pins s3 σ3 H3 X.xe I3 (stat fr3) st3 stop) fun r s4 hq0=>?_)
    obtain ⟨hr,I4⟩:=hq0
    subst hr
    exact wpAny_execs_nil ⟨σ3,H3,I4,qn⟩
  · refine wpAny_passesOwn hp (thn (T.item X rfl rfl rfl hc i pins s3 σ3 H3 X.xe I3 (stat fr3) st3 go) fun r s4 hq1=>?_)
    obtain ⟨u,hr,h4⟩:=hq1
    subst hr
    refine wpAny_passesOwn hp (thn h4 fun _ s5 hq2=>?_)
    obtain ⟨x,H5,I5,r5,y5,st5,fr5⟩:=hq2
    have I5':=I5.pinned (stat fr5) (T.obj _ _ st5)
    refine wpAny_passesOwn hp (thn (hg _ s5 σ3 H5 x u _ I5' r5 (step x H5 y5)) fun _ s6 hq3=>?_)
    obtain ⟨σ6,H6,I6,q6⟩:=hq3
    refine wpAny_passesOwn hp (thn (hb _ s6 σ6 H6 _ I6 q6) fun f s7 q7=>?_)
    have again:∀ {σ7:St} {H7:Hp},Inv X (pins++qdb fp s5.heap) σ7 H7 s7→N σ7 H7→∃ m,m<n∧∃ i σ' H',Inv X pins σ' H' s7∧tn i s7.heap∧(∀ b∈fp,H' b=none)∧W i m σ' H':=fun {σ7 H7} I7 n7=>by
      obtain ⟨m',hm,w7⟩:=hN σ7 H7 n7
      refine ⟨m',hm,i+1,σ7,H7,I7.unpinned,T.keep _ _ _ st5 fun b hb o e=>(I7.pin (b,o) (List.mem_append_right _ (List.mem_append_right _ (qbs hb e)))).1,fun b hb=>?_,w7⟩
      obtain ⟨o,e,d⟩:=T.obj _ _ st5 b hb
      exact (I7.pin (b,o) (List.mem_append_right _ (List.mem_append_right _ (qbs hb e)))).2.1
    cases f with
    | next=>obtain ⟨σ7,H7,I7,n7⟩:=q7;exact again I7 n7
    | cont=>obtain ⟨σ7,H7,I7,n7⟩:=q7;exact again I7 n7
    | brk=>obtain ⟨σ7,H7,I7,q7⟩:=q7;exact ⟨σ7,H7,I7.unpinned,q7⟩
    | ret v=>obtain ⟨x7,σ7,H7,I7,r7,q7⟩:=q7;exact ⟨x7,σ7,H7,I7.unpinned,r7,q7⟩
end
abbrev R2:=V→V→Hp→VK→Prop
def OpR (X:Cx) (f:Value→Value→Sem Value) (r:R2):Prop :=
  ∀ (pins:List (Addr × Obj)) (s:Shared) (σ:St) (H:Hp) (x y:V) (v u:Value) (Q:VK),Inv X pins σ H s→RelV x v→RelV y u→r x y H Q →
    wpAny (model X.prog X.w) X.A (f v u) (EP X pins σ Q) X.xe s
def UnR (X:Cx) (f:Value→Sem Value) (r:V→Hp→VK→Prop):Prop :=
  ∀ (pins:List (Addr × Obj)) (s:Shared) (σ:St) (H:Hp) (x:V) (v:Value) (Q:VK),Inv X pins σ H s→RelV x v→r x H Q →
    wpAny (model X.prog X.w) X.A (f v) (EP X pins σ Q) X.xe s
def qcb (X:Cx) (f:Value) (r:List V→Hp→VK→Prop):Prop :=
  ∀ (pins:List (Addr × Obj)) (s:Shared) (σ:St) (H:Hp) (xs:List V) (us:List Value) (Q:VK),Inv X pins σ H s→Vals xs us→r xs H Q →
    wpAny (model X.prog X.w) X.A (call f us) (EP X pins σ Q) X.xe s
def qln (X:Cx) (r:V→Hp→(Bool→Hp→Prop)→Prop):Prop :=
  ∀ (pins:List (Addr × Obj)) (s:Shared) (σ:St) (H:Hp) (x:V) (v:Value) (Q:Bool→Hp→Prop),Inv X pins σ H s→RelV x v→r x H Q →
    wpAny (model X.prog X.w) X.A (truthy v) (TP X pins σ Q) X.xe s
def tOp (r:R2) (ta tb:TE):TE:=fun σ H Q=>ta σ H fun x H1=>tb σ H1 fun y H2=>r x y H2 Q
def tUn (r:V→Hp→VK→Prop) (ta:TE):TE:=fun σ H Q=>ta σ H fun x H1=>r x H1 Q
def rI (C:Int→Int→Prop) (g:Int→Int→V):R2:=fun x y H Q=>∃ i j,x=.int i∧y=.int j∧C i j∧Q (g i j) H
def rI0 (g:Int→Int→V):R2:=fun x y H Q=>∃ i j,x=.int i∧y=.int j∧Q (g i j) H
def rU (g:Int→V):V→Hp→VK→Prop:=fun x H Q=>∃ i,x=.int i∧Q (g i) H
section
variable {X : Cx} {a b c : Expr} {ta tb tc : TE} {pos : Pos}
theorem qke (ha:PE X a ta) (hb:PE X b tb) {pins:List (Addr × Obj)} {s:Shared} {σ:St} {H:Hp} {R:V→V→Hp→Prop} (I:Inv X pins σ H s)
    (h:ta σ H fun x H1=>tb σ H1 fun y H2=>R x y H2) {Q:Value→Shared→Prop} {f:Value→Value→Sem Value}
    (hf:∀ v u s2 x y H2,Inv X pins σ H2 s2→RelV x v→RelV y u→R x y H2→wpAny (model X.prog X.w) X.A (f v u) Q X.xe s2) :
    wpAny (model X.prog X.w) X.A (eval a X.env) (fun v s₁=>wpAny (model X.prog X.w) X.A (eval b X.env) (fun u s₂=>wpAny (model X.prog X.w) X.A (f v u) Q X.xe s₂) X.xe s₁) X.xe s:=by
  refine thn (ha pins s σ H _ I h) fun v s1 hq0=>?_
  obtain ⟨x,H1,I1,r1,q1⟩:=hq0
  refine thn (hb pins s1 σ H1 _ I1 q1) fun u s2 hq1=>?_
  obtain ⟨y,H2,I2,r2,q2⟩:=hq1
  exact hf v u s2 x y H2 I2 r1 r2 q2
theorem qkg {op:Operator} {r:R2} (ho:OpR X (binaryOp op) r) (ha:PE X a ta) (hb:PE X b tb):PE X (.BinOp a op b pos) (tOp r ta tb):=by
  intro pins s σ H Q I h
  exact wpAny_BinOp (qke ha hb I h fun v u s2 x y H2 I2 rx ry q=>ho pins s2 σ H2 x y v u Q I2 rx ry q)
theorem qkb {op:UnaryOp} {r:V→Hp→VK→Prop} (ho:UnR X (unaryOp op) r) (ha:PE X a ta):PE X (.UnaryOp op a pos) (tUn r ta):=by
  intro pins s σ H Q I h
  exact UnaryOp_ (thn (ha pins s σ H _ I h) fun v s1 hq0=>by obtain ⟨x,H1,I1,r1,q1⟩:=hq0;exact ho pins s1 σ H1 x v Q I1 r1 q1)
theorem opI {f:Value→Value→Sem Value} {C:Int→Int→Prop} {g:Int→Int→Int}
    (rule:∀ (i j:Int) (t u:Tok) (s:Shared) (Q:Value→Shared→Prop) (E:Value→Shared→Prop),C i j→Q (.int (g i j) s.toks) { s with toks:=s.toks+1 }→wpAny (model X.prog X.w) X.A (f (.int i t) (.int j u)) Q E s) :
    OpR X f (rI C fun i j=>.int (g i j)):=by
  intro pins s σ H x y v u Q I rx ry h
  obtain ⟨i,j,rfl,rfl,hc,q⟩:=h
  obtain ⟨t,rfl⟩:=rx
  obtain ⟨t',rfl⟩:=ry
  exact rule i j t t' s _ _ hc ⟨.int (g i j),H,I.tok _,⟨_,rfl⟩,q⟩
theorem qkq {f:Value→Value→Sem Value} {g:Int→Int→Int}
    (rule:∀ (i j:Int) (t u:Tok) (s:Shared) (Q:Value→Shared→Prop) (E:Value→Shared→Prop),Q (.int (g i j) s.toks) { s with toks:=s.toks+1 }→wpAny (model X.prog X.w) X.A (f (.int i t) (.int j u)) Q E s) :
    OpR X f (rI0 fun i j=>.int (g i j)):=by
  intro pins s σ H x y v u Q I rx ry h
  obtain ⟨i,j,rfl,rfl,q⟩:=h
  obtain ⟨t,rfl⟩:=rx
  obtain ⟨t',rfl⟩:=ry
  exact rule i j t t' s _ _ ⟨.int (g i j),H,I.tok _,⟨_,rfl⟩,q⟩
theorem qjS {f:Value→Value→Sem Value} {g:Int→Int→Bool}
    (rule:∀ (i j:Int) (t u:Tok) (s:Shared) (Q:Value→Shared→Prop) (E:Value→Shared→Prop),Q (.bool (g i j)) s→wpAny (model X.prog X.w) X.A (f (.int i t) (.int j u)) Q E s) :
    OpR X f (rI0 fun i j=>.bl (g i j)):=by
  intro pins s σ H x y v u Q I rx ry h
  obtain ⟨i,j,rfl,rfl,q⟩:=h
  obtain ⟨t,rfl⟩:=rx
  obtain ⟨t',rfl⟩:=ry
  exact rule i j t t' s _ _ ⟨.bl (g i j),H,I,rfl,q⟩
def qks (i j:Int):Prop:=0≤j∧j≤1000000∧i.natAbs<2 ^ 64
theorem qji:OpR X (binaryOp .Add) (rI0 fun i j=>.int (i+j)):=qkq fun _ _ _ _ _ _ _ q=>add_int q
theorem qh7:OpR X (binaryOp .Sub) (rI0 fun i j=>.int (i - j)):=qkq fun _ _ _ _ _ _ _ q=>sub_int q
theorem qiA:OpR X (binaryOp .Mod) (rI (fun _ j=>0<j) fun i j=>.int (i % j)):=opI fun i j _ _ _ _ _ hc q=>by
  have h1:(0:Int)<j:=hc
  exact mod_int' (by omega) (by rw [Int.fmod_eq_emod_of_nonneg i (by omega)];exact q)
theorem qi0:OpR X (binaryOp .Pow) (rI qks fun i j=>.int (i ^ j.toNat)):=opI fun _ _ _ _ _ _ _ hc q=>pow_int_small hc.1 hc.2.1 hc.2.2 q
theorem unI {f:Value→Sem Value} {g:Int→Int}
    (rule:∀ (i:Int) (t:Tok) (s:Shared) (Q:Value→Shared→Prop) (E:Value→Shared→Prop),Q (.int (g i) s.toks) { s with toks:=s.toks+1 }→wpAny (model X.prog X.w) X.A (f (.int i t)) Q E s) :
    UnR X f (rU fun i=>.int (g i)):=by
  intro pins s σ H x v Q I rx h
  obtain ⟨i,rfl,q⟩:=h
  obtain ⟨t,rfl⟩:=rx
  exact rule i t s _ _ ⟨.int (g i),H,I.tok _,⟨_,rfl⟩,q⟩
theorem qja:UnR X (unaryOp .USub) (rU fun i=>.int (-i)):=unI fun _ _ _ _ _ q=>neg_int q
end
section
variable {X : Cx} {a b c : Expr} {ta tb tc : TE} {pos : Pos}
theorem qgY {pins:List (Addr × Obj)} {σ:St} {H:Hp} {s:Shared} {Q:VK} {k k':Bool} (I:Inv X pins σ H s) (q:Q (.bl k) H) (e:k=k'):EP X pins σ Q (.bool k') s:=by
  subst e
  exact ⟨.bl k,H,I,rfl,q⟩
theorem qj5:OpR X (compareOp .Lt) (rI0 fun i j=>.bl (decide (i<j))):=qjS fun _ _ _ _ _ _ _ q=>lt_int q
theorem qkk:OpR X (compareOp .Gt) (rI0 fun i j=>.bl (decide (j<i))):=qjS fun _ _ _ _ _ _ _ q=>gt_int q
theorem qkm:OpR X (compareOp .GtE) (rI0 fun i j=>.bl (decide (j≤i))):=qjS fun _ _ _ _ _ _ _ q=>ge_int q
theorem qiF:OpR X (compareOp .Is) (fun x y H Q=>y=.non∧Q (.bl (decide (x=.non))) H):=by
  intro pins s σ H x y v u Q I rx ry h
  obtain ⟨rfl,q⟩:=h
  cases ry
  refine is_none_gen (qgY I q ?_)
  cases x <;> first
    | (cases rx;rfl)
    | (obtain ⟨t,rfl⟩:=rx;rfl)
theorem qax (b:Expr) {op:CmpOp} (h:op≠.In:=by decide) (h2:op≠.NotIn:=by decide):behindInMarks op b=false:=by
  have e1:(op == CmpOp.In)=false:=by cases op <;> first | rfl | exact absurd rfl h
  have e2:(op == CmpOp.NotIn)=false:=by cases op <;> first | rfl | exact absurd rfl h2
  cases b <;> simp [behindInMarks,e1,e2]
theorem qhs {op:CmpOp} {r:R2} (ho:OpR X (compareOp op) r) (ha:PE X a ta) (hb:PE X b tb) (hm:behindInMarks op b=false):PE X (.Compare a [op] [b] pos) (tOp r ta tb):=by
  intro pins s σ H Q I h
  exact wpAny_Compare1 (qke ha hb I h fun v u s2 x y H2 I2 rx ry q=>ho pins s2 σ H2 x y v u Q I2 rx ry q) hm
def qiW (t:TE):TT:=fun σ H Q=>t σ H fun x H'=>∃ k,x=.bl k∧Q k H'
theorem qhJ {op:CmpOp} {r:R2} (ho:OpR X (compareOp op) r) (ha:PE X a ta) (hb:PE X b tb) (hm:behindInMarks op b=false):PT X (.Compare a [op] [b] pos) (qiW (tOp r ta tb)):=by
  intro pins s σ H Q I h
  refine wpAny_isTrue_Compare1 (thn (ha pins s σ H _ I h) fun v s1 ⟨x,H1,I1,r1,q1⟩=>thn (hb pins s1 σ H1 _ I1 q1) fun u s2 ⟨y,H2,I2,r2,q2⟩ =>
    thn (ho pins s2 σ H2 x y v u _ I2 r1 r2 q2) fun c s3 ⟨z,H3,I3,r3,k,e,q3⟩=>?_) hm
  subst e
  cases r3
  exact wpAny_truthy_bool ⟨H3,I3,q3⟩
def qjI (K:PySem.W.Frag) (x:V) (H:Hp) (k:Bool):Prop :=
  match x with
  | .non=>k=false
  | .bl b=>k=b
  | .int i=>k=(i != 0)
  | .str y=>y.length≤sizeLine∧k=((y.length:Int) != 0)
  | .byt y=>y.size≤sizeLine∧k=((y.size:Int) != 0)
  | .ref p=>(∃ xs,SqL K H p xs∧k=!xs.isEmpty)∨(∃ xs,SqT K H p xs∧k=!xs.isEmpty)∨∃ kvs,H p=some (.dK kvs)∧k=!kvs.isEmpty
  | _=>False
theorem qex {κ:Type} {kvs:List (κ × V)} {vs:List (κ × Value)} (r:KV kvs vs):(!vs.isEmpty)=!kvs.isEmpty:=by
  cases r <;> rfl
theorem qcx {xs:List V} {its:List Value} (r:Vals xs its):(!its.toArray.isEmpty)=!xs.isEmpty:=by
  cases r <;> simp
theorem qcw:(sizeLine:Nat)<2 ^ 63:=by rw [sizeLine_eq];decide
theorem qh8:qln X (fun x H Q=>∃ k,qjI X.K x H k∧Q k H):=by
  intro pins s σ H x v Q I rx h
  obtain ⟨k,e,q⟩:=h
  have hl:=qcw
  have hs:sizeLine=16777216:=sizeLine_eq
  cases x with
  | non =>
    cases rx
    have e':k=false:=e
    subst e'
    exact truthy_none ⟨H,I,q⟩
  | bl b =>
    cases rx
    have e':k=b:=e
    subst e'
    exact wpAny_truthy_bool ⟨H,I,q⟩
  | int i =>
    obtain ⟨t,rfl⟩:=rx
    have e':k=(i != 0):=e
    subst e'
    exact PySem.P.truthy_int ⟨H,I,q⟩
  | str y =>
    obtain ⟨t,rfl⟩:=rx
    obtain ⟨hy,e'⟩:y.length≤sizeLine∧k=((y.length:Int) != 0):=e
    subst e'
    exact PySem.P.truthy_str (by omega) ⟨H,I.tok _,q⟩
  | byt y =>
    obtain ⟨t,rfl⟩:=rx
    obtain ⟨hy,e'⟩:y.size≤sizeLine∧k=((y.size:Int) != 0):=e
    subst e'
    exact PySem.W.truthy_bytes (by omega) ⟨H,I.tok _,q⟩
  | ref p =>
    cases rx
    have e':(∃ xs,SqL X.K H p xs∧k=!xs.isEmpty)∨(∃ xs,SqT X.K H p xs∧k=!xs.isEmpty)∨∃ kvs,H p=some (.dK kvs)∧k=!kvs.isEmpty:=e
    rcases e' with ⟨xs,hx,e'⟩ | ⟨xs,hx,e'⟩ | ⟨kvs,hx,e'⟩
    · subst e'
      obtain ⟨its,r,pl,hz⟩:=I.list hx
      have hlen:=r.length
      exact wpAny_truthy_list pl.isList (by simp only [List.size_toArray];omega) ⟨H,I.tok _,by rw [qcx r];exact q⟩
    · subst e'
      obtain ⟨its,r,pl,hz⟩:=I.tuple hx
      have hlen:=r.length
      exact truthy_tuple pl (by simp only [List.size_toArray];omega) ⟨H,I.tok _,by rw [qcx r];exact q⟩
    · subst e'
      obtain ⟨hz,hS,vs,r,m⟩:kvs.length≤sizeLine∧(p == sysModules)=false∧∃ vs,KV kvs vs∧s.heap.DictOf (qdV X.prog X.w) p vs:=I.hok p _ hx
      have hlen:kvs.length=vs.length:=Paired.length r
      exact wpAny_truthy_dict hS m (by omega) ⟨H,I.tok _,by rw [qex r];exact q⟩
  | _=>exact (show False from e).elim
theorem qgp (ha:PE X a ta) (he:∀ whole,isTrue a X.env whole=(do let v ← whole;standAt a.pos;holding [v] (truthy v))) :
    PT X a (fun σ H Q=>ta σ H fun x H'=>∃ k,qjI X.K x H' k∧Q k H'):=by
  intro pins s σ H Q I h
  exact isTrue_plain (thn (ha pins s σ H _ I h) fun v s1 hq0=>by obtain ⟨x,H1,I1,r1,q1⟩:=hq0;exact qh8 pins s1 σ H1 x v Q I1 r1 q1) (he _)
theorem qez:OpR X (binaryOp .Add) (fun x y H Q=>∃ i j,x=.str i∧y=.str j∧i.length+j.length≤sizeLine∧Q (.str (i++j)) H):=by
  intro pins s σ H x y v u Q I rx ry h
  obtain ⟨i,j,rfl,rfl,hz,q⟩:=h
  obtain ⟨t,rfl⟩:=rx
  obtain ⟨t',rfl⟩:=ry
  exact add_str (fun t' tk=>⟨.str (i++j),H,I.tok _,⟨_,rfl⟩,q⟩) hz
theorem qeN {x:V} {us:List Value} (r:Vals [x] us):∃ u,us=[u]∧RelV x u:=by
  cases r with
  | cons r1 r2=>cases r2;exact ⟨_,rfl,r1⟩
theorem qgq:qcb X (.builtin "abs") (fun xs H Q=>∃ i,xs=[.int i]∧Q (.int (if i<0 then -i else i)) H):=by
  intro pins s σ H xs us Q I r h
  obtain ⟨i,rfl,q⟩:=h
  obtain ⟨u,rfl,t,rfl⟩:=qeN r
  exact call_abs_int fun u tk=>⟨.int (if i<0 then -i else i),H,I.tok _,⟨_,rfl⟩,q⟩
end
section
variable {prog : Program} {w : World} {A : Around} {E : Value → Shared → Prop} {s : Shared} {K : PySem.W.Frag} {x dx C f : Addr} {mA : Str → Option Value} {name : Str} {v : Value}
end
section
variable {P : Program} {w : World} {H H' : Hp} {h h' : Heap} {a C dx : Addr} {fs fs' : List (Str × V)}
end
structure Cls (K:PySem.W.Frag) (C:Addr):Prop where
  pg:PySem.W.plainGet K C Str.empty=true
  hd:PySem.W.hasDictIn K C=true
  po:PySem.W.plainOver K C=true
  sa:PySem.W.findIn K (.ref C) "__setattr__"=some (some (.builtin "object.__setattr__"))
section
variable {X : Cx} {pins : List (Addr × Obj)} {σ : St} {H : Hp} {s : Shared} {a C dx : Addr} {fs : List (Str × V)} {f : Str} {v : V} {A : Around} {E : Value → Shared → Prop}
theorem qhD {prog:Program} {w:World} {env:Env} {e:Expr} {f:Str} {pos:Pos} {s:Shared} {Q:Value→Shared→Prop} (hb:attributeBase e f env (eval e env)=eval e env)
    (h:wpAny (model prog w) A (eval e env) (fun o s₁=>wpAny (model prog w) A (getAttr o f true) Q E s₁) E s):wpAny (model prog w) A (eval (.Attribute e f pos) env) Q E s :=
  Attribute_any_ h (by rw [arm_eval_Attribute,hb])
end
section
variable {X : Cx} {o e value : Expr} {f : Str} {pos pos' tpos : Pos} {ta tv : TE}
end
section
variable {X : Cx} {pins : List (Addr × Obj)} {σ : St} {H : Hp} {s : Shared} {A : Around} {E : Value → Shared → Prop} {Q : Value → Shared → Prop} {c : Value} {b : Bool}
inductive TyOf (K:PySem.W.Frag) (H:Hp):V→Value→Prop where
  | non:TyOf K H .non (.type "NoneType")
  | bl (x:Bool):TyOf K H (.bl x) (.type "bool")
  | int (i:Int):TyOf K H (.int i) (.type "int")
  | str (x:Str):TyOf K H (.str x) (.type "str")
  | flt (x:UInt64):TyOf K H (.flt x) (.type "float")
  | lst {a:Addr} {xs:List V} (e:H a=some (.lst xs)):TyOf K H (.ref a) (.type "list")
  | frz {a:Addr} {o:Obj} {xs:List V} (e:H a=some (.frz o (.lst xs))):TyOf K H (.ref a) (.type "list")
  | tup {a:Addr} {xs:List V} (e:H a=some (.tup xs)):TyOf K H (.ref a) (.type "tuple")
  | dK {a:Addr} {kvs:List (Key × V)} (e:H a=some (.dK kvs)):TyOf K H (.ref a) (.type "dict")
  | dT {a:Addr} {kvs:List (List Key × V)} (e:H a=some (.dT kvs)):TyOf K H (.ref a) (.type "dict")
  | ins {a C dx:Addr} {fs:List (Str × V)} (e:H a=some (.ins C dx fs)) (cl:Cls K C) (ha:PySem.W.findIn K (.ref C) "__class__"=some (some (.builtin "object.__class__")))
      (hn:PySem.W.specialIn K (.builtin "object.__class__") "__get__"=some (some (.builtin "getset_descriptor.__get__"))) (htk:PySem.W.takesIn K (.builtin "object.__class__")=some true)
      (hm:PySem.W.mroIn K C (.type "object")=some true):TyOf K H (.ref a) (.ref C)
end
structure Room (k:Nat) (A:Around):Prop where
  hd:A.handled=none
  dp:A.depth+3*k+5<recursionLimit
  un:A.units+16*k+200<cLine
theorem Room.mono {j k:Nat} {A:Around} (r:Room k A) (h:j≤k):Room j A:=⟨r.hd,by have:=r.dp;omega,by have:=r.un;omega⟩
theorem Room.deeper {k:Nat} {A:Around} (r:Room (k+1) A) (env:Env):Room k (A.deeper env) :=
  ⟨r.hd,by have:=r.dp;show A.depth+1+3*k+5<_;omega,by have:=r.un;show A.units+3+16*k+200<_;omega⟩
theorem qeU {A:Around} {C:Addr} {us:List Value} {kw:List (Str × Value)}:(A.under (.builtin "type.__call__" ⟨.ref C::us,kw⟩)).depth=A.depth+1:=by
  first | rfl | simp [Around.under,Code.weight,Code.isCreation,Code.isGuard,Code.isCaller,Code.frames,Code.isFrame,guardIds]
theorem qeD {A:Around} {C:Addr} {us:List Value} {kw:List (Str × Value)}:(A.under (.builtin "type.__call__" ⟨.ref C::us,kw⟩)).units=A.units+1:=by
  first | rfl | simp [Around.under,Code.cUnits,Code.frames,Code.isFrame]
theorem Room.make {k:Nat} {A:Around} (r:Room (k+1) A) (C:Addr) (us:List Value) (kw:List (Str × Value)):Room k (A.under (.builtin "type.__call__" ⟨.ref C::us,kw⟩)) :=
  ⟨r.hd,by have:=r.dp;rw [qeU];omega,by have:=r.un;rw [qeD];omega⟩
theorem Room.depth {k:Nat} {A:Around} (r:Room k A):A.depth<recursionLimit:=by have:=r.dp;omega
theorem Room.units {k:Nat} {A:Around} (r:Room k A):A.units+64<cLine:=by have:=r.un;omega
def qkz:TA:=fun _ H Q=>Q [] H
def qkn (ta:TE) (tr:TA):TA:=fun σ H Q=>ta σ H fun x H1=>tr σ H1 fun xs H2=>Q (x::xs) H2
section
variable {X : Cx} {e : Expr} {es : List Expr} {te : TE} {t : TA} {pos : Pos}
theorem pa_nil:PA X [] qkz:=fun _ _ _ _ H Q I h=>Calls.spliced_nil ⟨[],H,I,.nil,h⟩
theorem qaM (ha:PE X e te) (hr:PA X es t) (hs:starEach (e::es) X.env=(false,eval e X.env)::starEach es X.env:=by rfl):PA X (e::es) (qkn te t):=by
  intro pos pins s σ H Q I h
  rw [hs]
  show wpAny _ _ (spliced ((false,eval e X.env)::backTo pos (starEach es X.env))) _ _ s
  refine Calls.spliced_cons (thn (ha pins s σ H _ I h) fun u s1 hq0=>?_)
  obtain ⟨x,H1,I1,r1,q1⟩:=hq0
  exact thn (hr pos pins s1 σ H1 _ I1 q1) fun us s2 hq1=>by obtain ⟨xs,H2,I2,r2,q2⟩:=hq1;exact ⟨x::xs,H2,I2,.cons r1 r2,q2⟩
def qkT (t:TA):TE:=fun σ H Q=>t σ H fun xs H1=>xs.length≤sizeLine∧∀ p,H1 p=none→Q (.ref p) (upd H1 p (.tup xs))
def qkQ (t:TA):TE:=fun σ H Q=>t σ H fun xs H1=>xs.length≤sizeLine∧∀ p,H1 p=none→Q (.ref p) (upd H1 p (.lst xs))
theorem qiy {x1} (h:PA X es t):PE X (.Tuple es x1 pos) (qkT t):=by
  intro pins s σ H Q I hq
  refine wpAny_Tuple_spliced (thn (h pos pins s σ H _ I hq) fun us s1 ⟨xs,H1,I1,r,z,q⟩=>⟨by rw [← r.length];exact z,?_⟩)
  have hf:H1 s1.heap.objs.size=none:=I1.hok.fresh (Nat.le_refl _)
  refine ⟨.ref s1.heap.objs.size,upd H1 s1.heap.objs.size (.tup xs),I1.laid (t':=s1.toks) (fun b u e=>Heap.get?_push_of_some _ e) (Nat.le_refl _) ?_,rfl,q _ hf⟩
  exact ⟨z,us,r,⟨_,Heap.get?_push_size _ rfl,⟨rfl,rfl⟩,_,rfl⟩⟩
theorem qip (h:PA X es t):PE X (.List es pos) (qkQ t):=by
  intro pins s σ H Q I hq
  refine wpAny_List_spliced (thn (h pos pins s σ H _ I hq) fun us s1 ⟨xs,H1,I1,r,z,q⟩=>⟨by rw [← r.length];exact z,?_⟩)
  have hf:H1 s1.heap.objs.size=none:=I1.hok.fresh (Nat.le_refl _)
  refine ⟨.ref s1.heap.objs.size,upd H1 s1.heap.objs.size (.lst xs),I1.laid (t':=s1.toks) (fun b u e=>Heap.get?_push_of_some _ e) (Nat.le_refl _) ?_,rfl,q _ hf⟩
  exact ⟨z,us,0,r,Heap.get?_push_size _ rfl⟩
end
abbrev Sp:=List V→Hp→VK→XK→Prop
abbrev CXT:=List Env→Hp→Shared→XK→Value→Shared→Prop
structure Env0 (P:Program) (w:World) (K:PySem.W.Frag) (mg:Str→Option Value) (base:Heap) (A:Around) (outer:List Env) (s:Shared) (H:Hp):Prop where
  frames:A.frames=some outer
  mod:Mod K mg base
  bs:∀ b o,base.get? b=some o→s.heap.get? b=some o∧H b=none
  bsz:base.objs.size≤s.heap.objs.size
  funs:s.heap.FunFrames base outer
  frf:∀ b∈frs outer,H b=none
  hok:HOk P w H s.heap
  bare:AllBare s.gens
def CE (outer:List Env) (P:Program) (w:World) (H:Hp) (s:Shared) (Q:VK) (u:Value) (s':Shared):Prop :=
  ∃ v H',s'.os=s.os∧AllBare s'.gens∧Un (frs outer) [] H H' s.heap s'.heap∧HOk P w H' s'.heap∧RelV v u∧Q v H'
def CR (CX:CXT) (outer:List Env) (P:Program) (w:World) (H:Hp) (s:Shared) (Q:VK) (E:XK) (r:Result) (s':Shared):Prop :=
  match r with
  | .ok (.ret u)=>CE outer P w H s Q u s'
  | .ok _=>False
  | .error e=>CX outer H s E e s'
structure FnOk (P:Program) (w:World) (K:PySem.W.Frag) (mg:Str→Option Value) (base:Heap) (CX:CXT) (k:Nat) (f:Addr) (fd:FuncData) (ps:List Str) (sp:Sp):Prop where
  len:∀ vs H Q E,sp vs H Q E→vs.length=ps.length
  run:∀ (A:Around) (outer:List Env) (s:Shared) (H:Hp) (args:Args) (us:List Value) (vs:List V) (Q:VK) (E:XK),Room k A→Env0 P w K mg base A outer s H→BindsTo s fd args (ps.zip us)→Vals vs us→sp vs H Q E →
    codeAny (model P w) A (.call (.ref f) args) (CR CX outer P w H s Q E) s
theorem FnOk.mono {P:Program} {w:World} {K:PySem.W.Frag} {mg:Str→Option Value} {base:Heap} {CX:CXT} {j k:Nat} {f:Addr} {fd:FuncData} {ps:List Str} {sp:Sp} (F:FnOk P w K mg base CX j f fd ps sp) (h:j≤k) :
    FnOk P w K mg base CX k f fd ps sp:=⟨F.len,fun A outer s H args us vs Q E hr=>F.run A outer s H args us vs Q E (hr.mono h)⟩
theorem FnOk.imp {P:Program} {w:World} {K:PySem.W.Frag} {mg:Str→Option Value} {base:Heap} {CX:CXT} {k:Nat} {f:Addr} {fd:FuncData} {ps:List Str} {sp sp':Sp} (F:FnOk P w K mg base CX k f fd ps sp)
    (h:∀ vs H Q E,sp' vs H Q E→sp vs H Q E):FnOk P w K mg base CX k f fd ps sp' :=
  ⟨fun vs H Q E q=>F.len vs H Q E (h _ _ _ _ q),fun A outer s H args us vs Q E hr he hb hv hs=>F.run A outer s H args us vs Q E hr he hb hv (h _ _ _ _ hs)⟩
theorem Env0.make {P:Program} {w:World} {K:PySem.W.Frag} {mg:Str→Option Value} {base:Heap} {A:Around} {outer:List Env} {s:Shared} {H:Hp} (e:Env0 P w K mg base A outer s H) (C:Addr) (us:List Value) (kw:List (Str × Value)) :
    Env0 P w K mg base (A.under (.builtin "type.__call__" ⟨.ref C::us,kw⟩)) outer s H:=⟨by first | exact e.frames | (simpa [Around.under,Code.envs,Code.isFrame,pushEnvs] using e.frames),e.mod,e.bs,e.bsz,e.funs,e.frf,e.hok,e.bare⟩
section
variable {X : Cx} {pins : List (Addr × Obj)} {σ : St} {H : Hp} {s s' : Shared}
theorem Inv.env0 (I:Inv X pins σ H s):Env0 X.prog X.w X.K X.mg X.base X.A X.stack s H :=
  ⟨I.ok.frames,I.ok.mod,I.bs,Nat.le_trans I.ok.bsz I.sz,I.stack,I.stkFree,I.hok,I.bare⟩
theorem Inv.after {Q:VK} {u:Value} (I:Inv X pins σ H s) (h:CE X.stack X.prog X.w H s Q u s'):EP X pins σ Q u s':=by
  obtain ⟨v,H',os,bare,un,hok,r,q⟩:=h
  obtain ⟨hh,g,d,t,os'⟩:=s'
  obtain rfl:os'=s.os:=os
  exact ⟨v,H',I.call (h':=hh) (g':=g) (d':=d) (t':=t) (ch:=[]) un hok bare (fun b z=>absurd z (by simp)),r,q⟩
end
def qjb (sp:Sp) (dvs:List V) (E:XK) (t:TA):TE:=fun σ H Q=>t σ H fun vs H1=>sp (vs++dvs) H1 Q E
def Binds (K:PySem.W.Frag) (fd:FuncData) (ps:List Str) (ds:List Value):Prop :=
  ∀ (s:Shared) (us:List Value),K.In s.heap→(us++ds).length=ps.length→BindsTo s fd ⟨us,[]⟩ (ps.zip (us++ds))
theorem Binds.all {K:PySem.W.Frag} {fd:FuncData} {ps:List Str} (h:∀ us:List Value,us.length=ps.length→bindArgs fd ⟨us,[]⟩=pure (ps.zip us)):Binds K fd ps []:=fun s us _ hl=>by
  rw [List.append_nil] at hl ⊢
  exact .of_eq (h us hl)
def qcE (CX:CXT) (X:Cx) (E:XK):Prop:=∀ (pins:List (Addr × Obj)) (σ:St) (H:Hp) (s:Shared) (e:Value) (s':Shared),Inv X pins σ H s→CX X.stack H s E e s'→X.xe e s'
section
variable {X : Cx} {CX : CXT} {k : Nat} {f C : Addr} {fd : FuncData} {ps : List Str} {sp : Sp} {dvs : List V} {ds : List Value} {E : XK} {x m : Str} {p pos apos : Pos} {e o : Expr} {es : List Expr} {ta : TE} {t : TA}
theorem qg8 {pins:List (Addr × Obj)} {σ:St} {H:Hp} {s:Shared} {Q:VK} {us:List Value} {vs:List V} (F:FnOk X.prog X.w X.K X.mg X.base CX k f fd ps sp) (hr:Room k X.A) (hb:Binds X.K fd ps ds) (hd:Vals dvs ds) (hx:qcE CX X E)
    (I:Inv X pins σ H s) (r:Vals vs us) (h:sp (vs++dvs) H Q E):wpAny (model X.prog X.w) X.A (call (.ref f) us) (EP X pins σ Q) X.xe s:=by
  have r2:Vals (vs++dvs) (us++ds):=r.append hd
  have hl:(us++ds).length=ps.length:=by rw [← r2.length];exact F.len _ _ _ _ h
  refine wpAny_call (codeAny_mono (F.run X.A X.stack s H ⟨us,[]⟩ (us++ds) (vs++dvs) Q E hr I.env0 (hb s us I.kIn hl) r2 h) fun r s' hq=>?_)
  cases r with
  | error e=>exact hx pins σ H s e s' I hq
  | ok fl =>
    cases fl with
    | ret u=>exact I.after hq
    | next=>exact False.elim hq
    | brk=>exact False.elim hq
    | cont=>exact False.elim hq
theorem qhf (F:FnOk X.prog X.w X.K X.mg X.base CX k f fd ps sp) (hr:Room k X.A) (hg:Gl X x) (hm:X.mg x=some (.ref f)) (hk:PySem.W.keepIn X.K (.ref f)=true) (hb:Binds X.K fd ps ds) (hd:Vals dvs ds) (hx:qcE CX X E)
    (ha:PA X (e::es) t) (hdb:(x == ("__debug__":Str))=false:=by decide) (he:starEach (e::es) X.env=(false,eval e X.env)::starEach es X.env:=by rfl) (hpl:(backTo pos (starEach es X.env)).any (·.1)=false:=by rfl) :
    PE X (.Call (.Name x p) (e::es) [] pos) (qjb sp dvs E t):=by
  intro pins s σ H Q I h
  refine wpAny_Call_Name_kw (qbb I hg hm ?_ hdb)
  refine PySem.W.callWith_K (h₀:=X.base) I.ok.mod.kin hk (thn (ha pos pins s σ H _ I h) fun us s1 ⟨vs,H1,I1,r,q⟩=>⟨I1.kIn,?_⟩) he hpl
  exact qg8 F hr hb hd hx I1 r q
theorem qgy (F:FnOk X.prog X.w X.K X.mg X.base CX k f fd ps sp) (hr:Room k X.A) (hg:Gl X x) (hm:X.mg x=some (.ref f)) (hk:PySem.W.keepIn X.K (.ref f)=true) (hb:Binds X.K fd ps ds) (hd:Vals dvs ds) (hx:qcE CX X E)
    (hdb:(x == ("__debug__":Str))=false:=by decide):PE X (.Call (.Name x p) [] [] pos) (qjb sp dvs E qkz):=by
  intro pins s σ H Q I h
  refine wpAny_Call_Name_kw (qbb I hg hm ?_ hdb)
  exact PySem.W.callWith_K0 I.kIn hk (qg8 (us:=[]) F hr hb hd hx I .nil h)
end
section
variable {X : Cx} {CX : CXT} {k : Nat} {f C : Addr} {fd : FuncData} {ps ks : List Str} {sp : Sp} {E : XK} {x m : Str} {p pos apos kpos : Pos} {e o : Expr} {es : List Expr} {kws : List Keyword} {te ta : TE} {t tk : TA} {nm : Option Str}
variable {g : List Value → List Value → List Value} {gV : List V → List V → List V}
end
structure FnScope (N P:List Str) (sc:Scope):Prop where
  kind:sc.kind=.function
  co:sc.isCoroutine=false
  gen:sc.isGenerator=false
  nd:N.Nodup
  pre:N.take P.length=P
  par:∀ x∈P,sc.names.lookup x=some .local∨sc.names.lookup x=some .cell
  nofree:∀ y∈sc.names,y.2≠.free
theorem qdI {kindOf:Str→Option NameKind} {x:Str}:∀ {binds:List (Str × Value)} {m:Str→Option Value},(∀ v,(x,v)∉binds)→bindL kindOf binds m x=m x
  | [],_,_=>rfl
  | (n,v)::r,m,h=>by
    unfold bindL
    rw [qdI fun w hw=>h w (List.mem_cons_of_mem _ hw)]
    split
    · have:x≠n:=by rintro rfl;exact h v List.mem_cons_self
      simp [this]
    · rfl
theorem qdp {kindOf:Str→Option NameKind} {x:Str}:∀ {binds:List (Str × Value)} {m:Str→Option Value},(∀ v,(x,v)∉binds)→bindC kindOf binds m x=m x
  | [],_,_=>rfl
  | (n,v)::r,m,h=>by
    unfold bindC
    rw [qdp fun w hw=>h w (List.mem_cons_of_mem _ hw)]
    split
    · rfl
    · have:x≠n:=by rintro rfl;exact h v List.mem_cons_self
      simp [this]
theorem qdd {kindOf:Str→Option NameKind} {x:Str} {v:Value}:∀ {P:List Str} {vs:List Value} {i:Nat} {m:Str→Option Value},P.Nodup→P[i]?=some x→vs[i]?=some v→kindOf x=some .local →
    bindL kindOf (P.zip vs) m x=some v
  | [],_,_,_,_,h,_,_=>by simp at h
  | _::_,[],_,_,_,_,h,_=>by simp at h
  | p::P,w::vs,0,m,nd,h1,h2,hk=>by
    simp at h1 h2;subst h1;subst h2
    show bindL kindOf ((p,w)::P.zip vs) m p=_
    unfold bindL
    rw [qdI fun v hv=>(List.nodup_cons.mp nd).1 (List.of_mem_zip hv).1,if_pos hk]
    simp
  | p::P,w::vs,i+1,m,nd,h1,h2,hk=>by
    show bindL kindOf ((p,w)::P.zip vs) m x=_
    unfold bindL
    exact qdd (i:=i) (List.nodup_cons.mp nd).2 (by simpa using h1) (by simpa using h2) hk
theorem qdC {kindOf:Str→Option NameKind} {x:Str} {v:Value}:∀ {P:List Str} {vs:List Value} {i:Nat} {m:Str→Option Value},P.Nodup→P[i]?=some x→vs[i]?=some v→kindOf x≠some .local →
    bindC kindOf (P.zip vs) m x=some v
  | [],_,_,_,_,h,_,_=>by simp at h
  | _::_,[],_,_,_,_,h,_=>by simp at h
  | p::P,w::vs,0,m,nd,h1,h2,hk=>by
    simp at h1 h2;subst h1;subst h2
    show bindC kindOf ((p,w)::P.zip vs) m p=_
    unfold bindC
    rw [qdp fun v hv=>(List.nodup_cons.mp nd).1 (List.of_mem_zip hv).1,if_neg hk]
    simp
  | p::P,w::vs,i+1,m,nd,h1,h2,hk=>by
    show bindC kindOf ((p,w)::P.zip vs) m x=_
    unfold bindC
    exact qdC (i:=i) (List.nodup_cons.mp nd).2 (by simpa using h1) (by simpa using h2) hk
def qbd (N:List Str) (vs:List V):St:=vs.map some++List.replicate (N.length - vs.length) none
def qeA (CX:CXT) (P:Program) (w:World) (K:PySem.W.Frag) (mg:Str→Option Value) (base:Heap) (N:List Str) (qual:Str) (scope:Scope) (f:Addr) (cd:Value) (A:Around) (outer:List Env) (s:Shared) (H:Hp) (E:XK):Cx where
  prog:=P
  w:=w
  K:=K
  mg:=mg
  base:=base
  A:=A.deeper (envOfC qual scope s.heap.objs.size f cd)
  N:=N
  s₀:=s
  H₀:=H
  env:=envOfC qual scope s.heap.objs.size f cd
  outer:=outer
  stack:=envOfC qual scope s.heap.objs.size f cd::outer
  ex:=[]
  calm:=true
  fn:=fun _=>true
  pn:=[]
  xe:=fun e s'=>wpAny (model P w) (A.deeper (envOfC qual scope s.heap.objs.size f cd)) (leaving (envOfC qual scope s.heap.objs.size f cd) e) (fun _ s''=>CX outer H s E e s'') (fun e' s''=>CX outer H s E e' s'') s'
theorem qcP {sc:Scope} {n:Nat} {x:Str} (h:sc.names.lookup x=some .cell):∃ c,(cellsFrom n sc.names []).lookup x=some c:=by
  have q:=PySem.W.cellsFrom_some sc.names n [] (.inl h)
  exact Option.isSome_iff_exists.mp q
theorem qdv {CX:CXT} {P:Program} {w:World} {K:PySem.W.Frag} {mg:Str→Option Value} {base:Heap} {N ps:List Str} {qual:Str} {scope:Scope} {f:Addr} {cd:Value} {A:Around} {outer:List Env} {s s1:Shared} {H:Hp} {E:XK} {us:List Value} {vs:List V}
    (S:FnScope N ps scope) (hd:A.handled=none) (e0:Env0 P w K mg base A outer s H) (hl:vs.length=ps.length) (r:Vals vs us)
    (x:InCallC s s.heap.objs.size (bindL (envOfC qual scope s.heap.objs.size f cd).kindOf (ps.zip us) fun _=>none) (cellsFrom (s.heap.objs.size+1) scope.names []) (bindC (envOfC qual scope s.heap.objs.size f cd).kindOf (ps.zip us) fun _=>none) s1) :
    Inv (qeA CX P w K mg base N qual scope f cd A outer s H E) [] (qbd N vs) H s1:=by
  have hpl:ps.length≤N.length:=by have:=congrArg List.length S.pre;rw [List.length_take] at this;omega
  obtain ⟨h1,tk,rfl,hk⟩:=x.done
  have noA:∀ b:Addr,b∉(qeA CX P w K mg base N qual scope f cd A outer s H E).ex:=fun b z=>absurd (show b∈([]:List Addr) from z) (by simp)
  refine ⟨⟨e0.mod,S.kind,rfl,rfl,Nat.le_refl _,fun y z c h1 h2=>?_,fun y hy=>?_,fun y c _ h=>?_,fun _=>hd,Around.frames_deeper e0.frames,.inr ⟨rfl,rfl⟩,fun b z=>absurd z (noA b),e0.bs,e0.bsz,fun b _ _=>noA b,fun b z=>absurd z (noA b),e0.funs,e0.frf⟩,
    rfl,e0.bare,Un.kept hk,⟨_,x.toInCall.ns,fun i y v h1 h2 h3=>?_⟩,fun y c h=>⟨_,x.cell y c h⟩,e0.hok.fresh (Nat.le_refl _),fun y c h=>?_,fun p hp=>absurd (show p∈([]:List (Addr × Obj)) from hp) (by simp),e0.hok.kept hk,?_⟩
  · exact name_of_addr x.apart (PySem.mem_of_lookup h1) (PySem.mem_of_lookup h2)
  · have hy:scope.names.lookup y=some .cell∨scope.names.lookup y=some .free:=hy
    rcases hy with hy | hy
    · exact qcP hy
    · exact absurd rfl (S.nofree _ (PySem.mem_of_lookup hy))
  · exact Nat.le_of_lt (x.above y c (PySem.mem_of_lookup h))
  · have hi:i<vs.length:=by
      unfold qbd at h2
      by_cases hi:i<vs.length
      · exact hi
      · rw [List.getElem?_append_right (by simpa using hi)] at h2
        rw [List.getElem?_replicate] at h2
        split at h2 <;> cases h2
    have ha:vs[i]?=some v:=by
      unfold qbd at h2
      rw [List.getElem?_append_left (by simpa using hi),List.getElem?_map] at h2
      cases e:vs[i]? with
      | none=>rw [e] at h2;cases h2
      | some a=>rw [e] at h2;cases h2;rfl
    obtain ⟨u,hu,rv⟩:=r.get ha
    have hp:ps[i]?=some y:=by
      rw [← S.pre,List.getElem?_take_of_lt (by omega)];exact h1
    have ndP:ps.Nodup:=by rw [← S.pre];exact S.nd.sublist (List.take_sublist _ _)
    refine ⟨u,rv,?_⟩
    rcases S.par y (List.mem_of_getElem? hp) with k | k
    · exact .inl ⟨k,qdd ndP hp hu k⟩
    · obtain ⟨c,e⟩:=qcP (n:=s.heap.objs.size+1) k
      refine .inr ⟨.inl k,c,e,?_⟩
      have q:=x.cell y c e
      rw [qdC ndP hp hu (by show scope.names.lookup y≠_;rw [k];decide)] at q
      exact q
  · exact e0.hok.fresh (Nat.le_of_lt (x.above y c (PySem.mem_of_lookup h)))
  · unfold qbd
    show _=N.length
    rw [List.length_append,List.length_map,List.length_replicate]
    omega
theorem qgt {CX:CXT} {P:Program} {w:World} {K:PySem.W.Frag} {mg:Str→Option Value} {base:Heap} {k:Nat} {f:Addr} {name qual:Str} {params:Arguments} {body:List Stmt} {scope:Scope} {dV kV doc pm cdv ct oc:Value} {an od:Option Addr}
    {osl:Array (Option Value)} {N ps:List Str} {sp:Sp} (lk:K.lookup f=some ⟨oc,od,.func (PySem.W.fnOf name qual params body scope dV kV doc pm an cdv ct),osl⟩) (hcd:PySem.W.codeIn K cdv qual=true) (S:FnScope N ps scope)
    (len:∀ vs H Q E,sp vs H Q E→vs.length=ps.length)
    (hbody:∀ (A:Around) (outer:List Env) (s:Shared) (H:Hp) (vs:List V) (Q:VK) (E:XK),Room k (A.deeper (envOfC qual scope s.heap.objs.size f cdv))→sp vs H Q E →
      ∃ t,PSs (qeA CX P w K mg base N qual scope f cdv A outer s H E) body t∧t { nx:=fun _ H'=>Q .non H',rt:=Q } (qbd N vs) H) :
    FnOk P w K mg base CX (k+1) f (PySem.W.fnOf name qual params body scope dV kV doc pm an cdv ct) ps sp:=by
  refine ⟨len,fun A outer s H args us vs Q E hr e0 hb r hsp=>?_⟩
  have hl:=len _ _ _ _ hsp
  have KX:K.In s.heap:=e0.mod.kin.keeps fun b o e=>(e0.bs b o e).1
  have lim:s.heap.NoLimit:=e0.mod.nolimit.keeps fun b o e=>(e0.bs b o e).1
  have hkind:∀ y∈ps.zip us,scope.names.lookup y.1=some .local∨(scope.names.lookup y.1=some .cell∧((cellsFrom (s.heap.objs.size+1) scope.names []).lookup y.1).isSome=true):=fun hq0 hy=>by
    obtain ⟨n,v⟩:=hq0
    rcases S.par n (List.of_mem_zip hy).1 with q | q
    · exact .inl q
    · exact .inr ⟨q,PySem.W.cellsFrom_some _ _ _ (.inl q)⟩
  refine codeAny_call_function hr.depth (KX _ _ lk) rfl S.co S.gen rfl (PySem.W.codeRec_of KX hcd) (hb _ _ _ _ ?_)
  refine wpAny_newFunctionEnv_cells S.kind hkind fun env he s1 x=>?_
  subst he
  refine ⟨lim.keeps x.toInCall.keep,codeAny_func ?_⟩
  obtain ⟨t,ht,hq⟩:=hbody A outer s H vs Q E (hr.deeper _) hsp
  have I:Inv (qeA CX P w K mg base N qual scope f cdv A outer s H E) [] (qbd N vs) H s1:=qdv S hr.hd e0 hl r x
  refine wpAny_mono (ht [] s1 (qbd N vs) H _ I hq) (fun fl s' hs=>?_) fun e s' hs=>hs
  have fin:∀ {σ':St} {H':Hp} {v:V} {u:Value},Inv (qeA CX P w K mg base N qual scope f cdv A outer s H E) [] σ' H' s'→RelV v u→Q v H'→CE outer P w H s Q u s' :=
    fun {σ' H' v u} J rv q=>⟨v,H',J.os,J.bare,J.base,J.hok,rv,q⟩
  cases fl with
  | ret u =>
    obtain ⟨v,σ',H',J,rv,q⟩:=hs
    exact fin J rv q
  | next =>
    obtain ⟨σ',H',J,q⟩:=hs
    exact fin (v:=V.non) (u:=Value.none) J rfl q
  | brk =>
    obtain ⟨_,_,_,q⟩:=hs
    exact False.elim q
  | cont =>
    obtain ⟨_,_,_,q⟩:=hs
    exact False.elim q
section
variable {X : Cx} {x : Str} {p pos : Pos} {e : Expr} {es : List Expr} {t : TA} {id T : String} {r : List V → Hp → VK → Prop}
def tCB (r:List V→Hp→VK→Prop) (t:TA):TE:=fun σ H Q=>t σ H fun vs H1=>r vs H1 Q
theorem qb2 (hc:qcb X (.builtin id) r) (hg:Gl X x) (hm:X.mg x=none) (hv:bootBuiltins x=some (.builtin id)) (ha:PA X (e::es) t) (hn:x≠"__name__":=by decide) (hdb:(x == ("__debug__":Str))=false:=by decide)
    (he:starEach (e::es) X.env=(false,eval e X.env)::starEach es X.env:=by rfl) (hpl:(backTo pos (starEach es X.env)).any (·.1)=false:=by rfl):PE X (.Call (.Name x p) (e::es) [] pos) (tCB r t):=by
  intro pins s σ H Q I h
  refine wpAny_Call_Name_kw (qcF I hg hm hv ?_ hn hdb)
  exact PyProof.Rows.callWith_builtin1 (thn (ha pos pins s σ H _ I h) fun us s1 hq0=>by obtain ⟨vs,H1,I1,r1,q1⟩:=hq0;exact hc pins s1 σ H1 vs us Q I1 r1 q1) he hpl
theorem qdD (hc:qcb X (.type T) r) (hg:Gl X x) (hm:X.mg x=none) (hv:bootBuiltins x=some (.type T)) (ha:PA X (e::es) t) (hn:x≠"__name__":=by decide) (hdb:(x == ("__debug__":Str))=false:=by decide)
    (he:starEach (e::es) X.env=(false,eval e X.env)::starEach es X.env:=by rfl) (hpl:(backTo pos (starEach es X.env)).any (·.1)=false:=by rfl):PE X (.Call (.Name x p) (e::es) [] pos) (tCB r t):=by
  intro pins s σ H Q I h
  refine wpAny_Call_Name_kw (qcF I hg hm hv ?_ hn hdb)
  exact PyProof.Rows.callWith_type1 (thn (ha pos pins s σ H _ I h) fun us s1 hq0=>by obtain ⟨vs,H1,I1,r1,q1⟩:=hq0;exact hc pins s1 σ H1 vs us Q I1 r1 q1) he hpl
end
end L2
namespace HT
open PySem PyProof.Rows
section
open PySem.SeqAt
open PySem.AutoSeq1 (wpAny_loadPart')
open PySem.MeetsSeq PySem.MeetsSeq2 PySem.MeetsSeq3
end
section
variable {prog : Program} {w : World} {A : Around} {E : Value → Shared → Prop} {s : Shared}
theorem cat_tup {t b:Addr} {vs ws:List Value} {Q:Value→Shared→Prop} (ht:IsTup s.heap t vs.toArray) (hb:IsTup s.heap b ws.toArray) (hv:vs≠[])
    (h1:ws=[]→Q (.ref t) s) (h2:ws≠[]→Q (.ref s.heap.objs.size) { s with heap:=s.heap.push { cls:=.type "tuple",data:=.seq (vs++ws).toArray } })
    (hsz:vs.length+ws.length≤sizeLine):wpAny (model prog w) A (binaryOp .Add (.ref t) (.ref b)) Q E s:=by
  obtain ⟨⟨cls,dd,data,sl⟩,ho,hc,n,hd⟩:=id ht
  obtain ⟨⟨cls2,dd2,data2,sl2⟩,ho2,hc2,n2,hd2⟩:=id hb
  simp only at hc hd hc2 hd2
  subst hc hd hc2 hd2
  have e:vs.toArray++ws.toArray=(vs++ws).toArray:=by simp
  by_cases hw:ws=[]
  · exact concat_meets ⟨_,ho,rfl⟩ ⟨_,ho2,rfl⟩ noFill_tuple_add seq_tuple_add PySem.F.slot_tuple_add PySem.F.entry_tuple_add (PySem.F.args_tuple_add_2 _ _)
      (tuple_addW1 t b vs.toArray ws.toArray n n2 dd dd2 sl sl2 (by simpa using hv) (by simp [hw])) ⟨ho,ho2,h1 hw⟩
  · refine concat_meets ⟨_,ho,rfl⟩ ⟨_,ho2,rfl⟩ noFill_tuple_add seq_tuple_add PySem.F.slot_tuple_add PySem.F.entry_tuple_add (PySem.F.args_tuple_add_2 _ _)
      (tuple_addW2 t b vs.toArray ws.toArray n n2 dd dd2 sl sl2 (by simpa using hv) (by simpa using hw) (by rw [List.size_toArray,List.size_toArray];exact hsz)) ⟨ho,ho2,?_⟩
    rw [e]
    exact h2 hw
end
end HT
namespace L2
open PySem PySem.Spec PyProof.Rows
section
variable {X : Cx} {e : Expr} {te : TE} {lo hi : Option Expr} {tl th : TO} {pos p2 : Pos}
def qjN (K:PySem.W.Frag):R2:=fun x y H Q=>∃ a b xs ys,x=.ref a∧y=.ref b∧SqT K H a xs∧SqT K H b ys∧xs≠[]∧xs.length+ys.length≤sizeLine ∧
  (ys=[]→Q (.ref a) H)∧(ys≠[]→∀ p,H p=none→Q (.ref p) (upd H p (.tup (xs++ys))))
theorem Vals.nil_iff {xs:List V} {us:List Value} (r:Vals xs us):us=[]↔xs=[]:=by
  cases r with
  | nil=>simp
  | cons _ _=>simp
theorem qhB:OpR X (binaryOp .Add) (qjN X.K):=by
  intro pins s σ H x y v u Q I rx ry h
  obtain ⟨a,b,xs,ys,rfl,rfl,ha,hb,hx,hz,q1,q2⟩:=h
  cases rx
  cases ry
  obtain ⟨its,r1,p1,_⟩:=I.tuple ha
  obtain ⟨its2,r2,p2,_⟩:=I.tuple hb
  refine HT.cat_tup p1 p2 (fun z=>hx (r1.nil_iff.mp z)) (fun z=>⟨.ref a,H,I,rfl,q1 (r2.nil_iff.mp z)⟩) (fun z=>?_) (by rw [← r1.length,← r2.length];exact hz)
  refine ⟨.ref s.heap.objs.size,_,I.laid (t':=s.toks) (o:=.tup (xs++ys)) (fun b ob q=>Heap.get?_push_of_some _ q) (Nat.le_refl _) ?_,rfl,q2 (fun w=>z (r2.nil_iff.mpr w)) _ (I.hok.fresh (Nat.le_refl _))⟩
  exact ⟨by rw [List.length_append];exact hz,_,r1.append r2,IsTupD.new _ _⟩
end
def ixN (n:Nat) (i:Int):Option Nat:=if 0≤i then (if i<n then some i.toNat else none) else if -(n:Int)≤i then some (i+n).toNat else none
def atI {α:Type} (xs:List α) (i:Int):Option α:=(ixN xs.length i).bind fun j=>xs[j]?
theorem qhE {n:Nat} {i:Int} {j:Nat} (h:ixN n i=some j):seqIndex? i n=some j∧j<n∧-(n:Int)≤i∧i<n:=by
  unfold ixN at h
  by_cases h0:0≤i
  · rw [if_pos h0] at h
    by_cases h1:i<n
    · rw [if_pos h1] at h
      have e:i.toNat=j:=Option.some.inj h
      exact ⟨by rw [seqIndex_of h0 h1,e],by omega,by omega,h1⟩
    · rw [if_neg h1] at h;cases h
  · rw [if_neg h0] at h
    by_cases h1:-(n:Int)≤i
    · rw [if_pos h1] at h
      have e:(i+n).toNat=j:=Option.some.inj h
      exact ⟨by rw [seqIndex_neg (by omega) h1,e],by omega,h1,by omega⟩
    · rw [if_neg h1] at h;cases h
theorem qdY {α:Type} {xs:List α} {i:Int} {v:α} (h:atI xs i=some v):∃ j,seqIndex? i xs.length=some j∧xs[j]?=some v∧j<xs.length∧-(xs.length:Int)≤i∧i<xs.length:=by
  unfold atI at h
  cases e:ixN xs.length i with
  | none=>rw [e] at h;cases h
  | some j =>
    rw [e] at h
    obtain ⟨h1,h2,h3,h4⟩:=qhE e
    exact ⟨j,h1,h,h2,h3,h4⟩
theorem qhC {α:Type} {xs:List α} {j:Nat} {v:α} (h:xs[j]?=some v):atI xs (j:Int)=some v:=by
  have hj:j<xs.length:=(List.getElem?_eq_some_iff.mp h).1
  have e:ixN xs.length (j:Int)=some j:=by
    unfold ixN
    rw [if_pos (by omega),if_pos (by omega)];simp
  unfold atI;rw [e];exact h
def qeZ (b:Expr):Prop:=∀ o i,subscripted b false o i=operate [o,i] (getItem o i)
def IxR (X:Cx) (r:R2):Prop :=
  ∀ (value slice:Expr) (pins:List (Addr × Obj)) (s:Shared) (σ:St) (H:Hp) (x y:V) (v u:Value) (Q:VK),Inv X pins σ H s→RelV x v→RelV y u→r x y H Q →
    subscripted slice false v u=operate [v,u] (getItem v u)→wpAny (model X.prog X.w) X.A (subscriptTail value slice v u) (EP X pins σ Q) X.xe s
def MtR (X:Cx) (id:String) (r:V→List V→Hp→VK→Prop):Prop :=
  ∀ (pins:List (Addr × Obj)) (s:Shared) (σ:St) (H:Hp) (x:V) (xs:List V) (v:Value) (us:List Value) (Q:VK),Inv X pins σ H s→RelV x v→Vals xs us→r x xs H Q →
    wpAny (model X.prog X.w) X.A (call (.builtin id) (v::us)) (EP X pins σ Q) X.xe s
section
variable {X : Cx} {a b : Expr} {ta tb : TE} {pos : Pos}
theorem qkl {r:R2} (hr:IxR X r) (ha:PE X a ta) (hb:PE X b tb) (hs:qeZ b):PE X (.Subscript a b pos) (tOp r ta tb):=by
  intro pins s σ H Q I h
  exact Subscript_ (qke ha hb I h fun v u s2 x y H2 I2 rx ry q=>hr a b pins s2 σ H2 x y v u Q I2 rx ry q (hs _ _))
def qlg (K:PySem.W.Frag):R2:=fun x y H Q=>∃ p xs i v,x=.ref p∧y=.int i∧SqL K H p xs∧atI xs i=some v∧Q v H
def qk7 (K:PySem.W.Frag):R2:=fun x y H Q=>∃ p xs i v,x=.ref p∧y=.int i∧SqT K H p xs∧atI xs i=some v∧Q v H
def qlu:R2:=fun x y H Q=>∃ z i c,x=.str z∧y=.int i∧z.length≤sizeLine∧atI z.cps.toList i=some c∧Q (.str ⟨#[c]⟩) H
theorem qfO:IxR X (qlg X.K):=by
  intro value slice pins s σ H x y v u Q I rx ry h hs
  obtain ⟨p,xs,i,z,rfl,rfl,hq,he,q⟩:=h
  cases rx
  obtain ⟨t,rfl⟩:=ry
  obtain ⟨its,r,pl,hz⟩:=I.list hq
  obtain ⟨j,h1,h2,h3,h4,h5⟩:=qdY he
  obtain ⟨w,ew,rw'⟩:=r.get h2
  have hl:=r.length
  have hn:=qcw
  have fin:EP X pins σ Q w s:=⟨z,H,I,rw',q⟩
  by_cases h0:0≤i
  · have hj:i.toNat=j:=by
      rw [seqIndex_of h0 h5] at h1
      exact Option.some.inj h1
    exact item_listR pl.isList h0 (by omega) (by rw [hj];simpa using ew) fin hs
  · have hj:(i+(its.toArray.size:Int)).toNat=j:=by
      rw [seqIndex_neg (by omega) h4] at h1
      rw [List.size_toArray,← hl]
      exact Option.some.inj h1
    exact subscriptTail_builtinR (x:=w) pl.isList.typeIs slot_list_getitem.lookup
      (wpAny_getItem_list_neg (Q:=fun r s'=>r=w∧EP X pins σ Q r s') pl.isList (by omega) (by rw [List.size_toArray] <;> omega) (by omega) (by rw [hj];simpa using ew) ⟨rfl,fin⟩) hs
theorem qjv:IxR X (qk7 X.K):=by
  intro value slice pins s σ H x y v u Q I rx ry h hs
  obtain ⟨p,xs,i,z,rfl,rfl,hq,he,q⟩:=h
  cases rx
  obtain ⟨t,rfl⟩:=ry
  obtain ⟨its,r,pl,hz⟩:=I.tuple hq
  obtain ⟨j,h1,h2,h3,h4,h5⟩:=qdY he
  obtain ⟨w,ew,rw'⟩:=r.get h2
  have hl:=r.length
  have hn:=qcw
  have fin:EP X pins σ Q w s:=⟨z,H,I,rw',q⟩
  exact subscriptTail_builtinR (x:=w) pl.typeIs slot_tuple_getitem.lookup
    (getItem_tuple (j:=j) (Q:=fun r s'=>r=w∧EP X pins σ Q r s') pl (by omega) (by omega) (by rw [List.size_toArray,← hl];exact h1) (by simpa using ew) ⟨rfl,fin⟩) hs
theorem qjg:IxR X qlu:=by
  intro value slice pins s σ H x y v u Q I rx ry h hs
  obtain ⟨z,i,c,rfl,rfl,hz,he,q⟩:=h
  obtain ⟨t,rfl⟩:=rx
  obtain ⟨t',rfl⟩:=ry
  obtain ⟨j,h1,h2,h3,h4,h5⟩:=qdY he
  have hl:z.cps.toList.length=z.length:=by simp [Str.length]
  rw [hl] at h1 h4 h5
  have hn:=qcw
  exact tail_any (typeIs_str s z t) slot_str_getitem.lookup (getItem_str (c:=c) (by
    have e1:decide (i < -(2 ^ 63:Int))=false:=decide_eq_false (by omega)
    have e2:decide (i≥2 ^ 63)=false:=decide_eq_false (by omega)
    rw [e1,e2,Bool.or_false]) (by rw [h1];simpa using h2) ⟨.str ⟨#[c]⟩,H,I.tok _,⟨_,rfl⟩,q⟩) hs
theorem qbp:qcb X (.builtin "len") (fun xs H Q=>∃ p ys,xs=[.ref p]∧(SqL X.K H p ys∨SqT X.K H p ys)∧Q (.int ys.length) H):=by
  intro pins s σ H xs us Q I r h
  obtain ⟨p,ys,rfl,hq,q⟩:=h
  obtain ⟨u,rfl,rx⟩:=qeN r
  cases rx
  have hn:=qcw
  rcases hq with hq | hq
  · obtain ⟨its,r',pl,hz⟩:=I.list hq
    have hlen:=r'.length
    exact Calls.call_len_list pl.isList (by simp only [List.size_toArray] <;> omega) ⟨.int ys.length,H,I.tok _,⟨s.toks+1,by rw [List.size_toArray,hlen]⟩,q⟩
  · obtain ⟨its,r',pl,hz⟩:=I.tuple hq
    have hlen:=r'.length
    exact len_tuple pl (by simp only [List.size_toArray] <;> omega) ⟨.int ys.length,H,I.tok _,⟨s.toks+1,by rw [List.size_toArray,hlen]⟩,q⟩
theorem qdj:qcb X (.builtin "len") (fun xs H Q=>∃ z,xs=[.str z]∧z.length≤sizeLine∧Q (.int z.length) H):=by
  intro pins s σ H xs us Q I r h
  obtain ⟨z,rfl,hz,q⟩:=h
  obtain ⟨u,rfl,t,rfl⟩:=qeN r
  have hn:=qcw
  exact len_str (by omega) ⟨.int z.length,H,I.tok _,⟨_,rfl⟩,q⟩
theorem qdJ:qcb X (.type "list") (fun xs H Q=>∃ p ys,xs=[.ref p]∧(SqL X.K H p ys∨SqT X.K H p ys)∧∀ l,H l=none→Q (.ref l) (upd H l (.lst ys))):=by
  intro pins s σ H xs us Q I r h
  obtain ⟨p,ys,rfl,hq,q⟩:=h
  obtain ⟨u,rfl,rx⟩:=qeN r
  cases rx
  have fin:∀ (its:List Value),Vals ys its→ys.length≤sizeLine→∀ (h':Heap) (c':Nat),(∀ b o',s.heap.get? b=some o'→h'.get? b=some o') →
      h'.get? s.heap.objs.size=some { cls:=.type "list",dict:=none,data:=.seq its.toArray c',slots:=#[] }→EP X pins σ Q (.ref s.heap.objs.size) { s with heap:=h' }:=fun its r' hz h' c' kp e =>
    ⟨.ref s.heap.objs.size,_,I.laid (t':=s.toks) kp (Nat.le_refl _) (show ObjOk X.prog X.w _ h' _ (.lst ys) from ⟨hz,its,c',r',e⟩),rfl,q _ (I.hok.fresh (Nat.le_refl _))⟩
  rcases hq with hq | hq
  · obtain ⟨its,r',pl,hz⟩:=I.list hq
    have hlen:=r'.length
    obtain ⟨o,ho,hc,n,hd⟩:=pl.isList
    exact call_list_seq p (.inl rfl) ho hc hd (fun h' c' kp e=>fin its r' hz h' c' kp e) (by simp only [List.size_toArray] <;> omega)
  · obtain ⟨its,r',pl,hz⟩:=I.tuple hq
    have hlen:=r'.length
    obtain ⟨o,ho,hc,n,hd⟩:=pl
    exact call_list_seq p (.inr rfl) ho hc hd (fun h' c' kp e=>fin its r' hz h' c' kp e) (by simp only [List.size_toArray] <;> omega)
theorem qa8:qcb X (.type "tuple") (fun xs H Q=>∃ p ys,xs=[.ref p]∧((SqL X.K H p ys∧∀ l,H l=none→Q (.ref l) (upd H l (.tup ys)))∨(SqT X.K H p ys∧Q (.ref p) H))):=by
  intro pins s σ H xs us Q I r h
  obtain ⟨p,ys,rfl,h⟩:=h
  obtain ⟨u,rfl,rx⟩:=qeN r
  cases rx
  rcases h with ⟨hq,q⟩ | ⟨hq,q⟩
  · obtain ⟨its,r',pl,hz⟩:=I.list hq
    have hlen:=r'.length
    refine call_tuple_list pl.isList (fun h' kp=>?_) (by simp only [List.size_toArray] <;> omega)
    have I1:Inv X pins σ H { s with heap:=h' }:=I.kept (t':=s.toks) kp
    have I2:Inv X pins σ (upd H h'.objs.size (.tup ys)) { s with heap:=h'.push { cls:=.type "tuple",data:=.seq its.toArray } } :=
      I1.laid (t':=s.toks) (fun b o e=>Heap.get?_push_of_some _ e) (Nat.le_refl _) (show ObjOk X.prog X.w _ _ _ (.tup ys) from ⟨hz,its,r',IsTupD.new _ _⟩)
    exact ⟨.ref h'.objs.size,_,I2,rfl,q _ (I1.hok.fresh (Nat.le_refl _))⟩
  · obtain ⟨its,r',pl,hz⟩:=I.tuple hq
    exact call_tuple_same pl ⟨.ref p,H,I,rfl,q⟩
def tyV (K:PySem.W.Frag) (T:String) (x:V) (H:Hp):Prop:=match x with
  | .str _=>T="str"
  | .int _=>T="int"
  | .ref p=>(T="list"∧∃ xs,SqL K H p xs)∨(T="tuple"∧((∃ xs,H p=some (.tup xs))∨∃ o,K.lookup p=some o∧o.cls=.type "tuple"∧o.dict=none)) ∨
      (T="dict"∧((∃ kvs,H p=some (.dK kvs))∨∃ kvs,H p=some (.dT kvs)))∨(T="set"∧∃ S n,H p=some (.set S n))
  | _=>False
theorem qjl {pins:List (Addr × Obj)} {σ:St} {H:Hp} {s:Shared} {T:String} {x:V} {v:Value} (I:Inv X pins σ H s) (r:RelV x v) (ty:tyV X.K T x H) :
    s.TypeIs v T∧∀ a,v=.ref a→∃ ob,s.heap.get? a=some ob∧ob.dict=none:=by
  cases x with
  | str z =>
    obtain ⟨t,rfl⟩:=r
    cases (show T="str" from ty)
    exact ⟨typeIs_str s z t,fun _ e=>nomatch e⟩
  | int i =>
    obtain ⟨t,rfl⟩:=r
    cases (show T="int" from ty)
    exact ⟨typeIs_int s i t,fun _ e=>nomatch e⟩
  | ref p =>
    cases r
    rcases ty with ⟨rfl,xs,hq⟩ | ⟨rfl,⟨xs,hk⟩ | ⟨o,hk,hc,hd⟩⟩ | ⟨rfl,hk⟩ | ⟨rfl,S,n,hk⟩
    · obtain ⟨its,_,pl,_⟩:=I.list hq
      refine ⟨pl.isList.typeIs,fun a e=>?_⟩
      cases e
      obtain ⟨o,n,e,c,hd,_⟩:=pl
      exact ⟨o,e,hd⟩
    · obtain ⟨_,_,_,o,e,⟨c,hd⟩,_⟩:=I.hok p _ hk
      refine ⟨⟨o,e,c⟩,fun a e2=>?_⟩
      cases e2
      exact ⟨o,e,hd⟩
    · refine ⟨⟨o,I.kIn p o hk,hc⟩,fun a e=>?_⟩
      cases e
      exact ⟨o,I.kIn _ o hk,hd⟩
    · have z:∃ o,s.heap.get? p=some o∧o.ExactDict:=by
        rcases hk with ⟨kvs,hk⟩ | ⟨kvs,hk⟩
        · obtain ⟨_,_,_,_,o,_,_,e,ex,_⟩:=I.hok p _ hk
          exact ⟨o,e,ex⟩
        · obtain ⟨_,_,_,_,o,_,_,e,ex,_⟩:=I.hok p _ hk
          exact ⟨o,e,ex⟩
      obtain ⟨o,e,ex⟩:=z
      refine ⟨⟨o,e,ex.1⟩,fun a e2=>?_⟩
      cases e2
      exact ⟨o,e,ex.2.1⟩
    · obtain ⟨o,_,_,_,e,ex,_⟩:=I.hok p _ hk
      refine ⟨⟨o,e,ex.1⟩,fun a e2=>?_⟩
      cases e2
      exact ⟨o,e,ex.2.1⟩
  | _=>exact False.elim ty
def tBM (K:PySem.W.Frag) (T:String) (r:V→List V→Hp→VK→Prop) (to:TE) (t:TA):TE:=fun σ H Q=>to σ H fun x H1=>tyV K T x H1∧t σ H1 fun xs H2=>r x xs H2 Q
variable {o e : Expr} {es : List Expr} {to : TE} {t : TA} {name : Str} {apos cpos : Pos} {T id : String} {r : V → List V → Hp → VK → Prop}
theorem qjK (pa:PlainAttrs T) (slot:Slot T name id) (hty:typeOf (.builtin id)=pure (.type "method_descriptor")) (hm:MtR X id r) (ho:PE X o to) (ha:PA X (e::es) t)
    (hbase:attributeBase o name X.env (eval o X.env)=eval o X.env:=by rfl)
    (hfew:((backTo cpos (starEach (e::es) X.env)).all (fun x=>!x.1) && (backToKw cpos (keywordEach [] X.env)).all (fun x=>x.1.isSome)
      && decide ((e::es).length+([]:List Keyword).length+(if ([]:List Keyword).isEmpty then 0 else 1)<30))=true:=by rfl)
    (hline:(apos.endLine == cpos.line)=true:=by rfl) (hs:starEach (e::es) X.env=(false,eval e X.env)::starEach es X.env:=by rfl) (hplain:(backTo cpos (starEach es X.env)).any (·.1)=false:=by rfl) :
    PE X (.Call (.Attribute o name apos) (e::es) [] cpos) (tBM X.K T r to t):=by
  intro pins s σ H Q I h
  refine wpAny_Call_method_late hbase hfew hline rfl (thn (ho pins s σ H _ I h) fun v s1 hq0=>?_)
  obtain ⟨x,H1,I1,r1,ty,q1⟩:=hq0
  obtain ⟨h1,h2⟩:=qjl I1 r1 ty
  refine ⟨T,id,pa,slot,hty,h1,h2,?_⟩
  have hA:=ha cpos pins s1 σ H1 _ I1 q1
  rw [hs] at hA ⊢
  refine Calls.callWith_builtin (by show (false || (backTo cpos (starEach es X.env)).any (·.1))=false;rw [hplain] <;> rfl) (Calls.evalArgs_plain ?_)
  exact thn hA fun us s2 hq1=>by obtain ⟨vs,H2,I2,r2,q2⟩:=hq1;exact hm pins s2 σ H2 x vs v us Q I2 r1 r2 q2
end
def MtM (X:Cx) (id:String) (r:V→List V→Hp→VK→Prop):Prop :=
  ∀ (pins:List (Addr × Obj)) (s:Shared) (σ:St) (H:Hp) (x:V) (xs:List V) (v:Value) (us:List Value) (Q:VK),Inv X pins σ H s→RelV x v→Vals xs us→r x xs H Q →
    wpAny (model X.prog X.w) X.A (call (.builtin id) (v::us)) (EP X pins σ Q) X.xe s
theorem Vals.one:∀ {x:V} {us:List Value},Vals [x] us→∃ u,us=[u]∧RelV x u
  | _,_,.cons r .nil=>⟨_,rfl,r⟩
theorem Vals.rep {xs:List V} {us:List Value} (h:Vals xs us):∀ k:Nat,Vals (List.replicate k xs).flatten (List.replicate k us).flatten
  | 0=>.nil
  | k+1=>by
    rw [List.replicate_succ,List.replicate_succ,List.flatten_cons,List.flatten_cons]
    exact Vals.append h (Vals.rep h k)
theorem qb6 (its:List Value):∀ (k:Nat) (acc:List Value),
    List.foldl (fun x1 x2=>x1++x2) acc.toArray (List.replicate k its.toArray)=(acc++(List.replicate k its).flatten).toArray
  | 0,acc=>by simp
  | k+1,acc=>by
    have e:acc.toArray++its.toArray=(acc++its).toArray:=by simp
    have e2:(acc++its)++(List.replicate k its).flatten=acc++(List.replicate (k+1) its).flatten:=by
      rw [List.replicate_succ,List.flatten_cons,List.append_assoc]
    rw [← e2,← qb6 its k (acc++its),← e,List.replicate_succ,List.foldl_cons]
section
variable {X : Cx} {pins : List (Addr × Obj)} {σ : St} {H : Hp} {s : Shared} {l b : Addr} {xs ys zs : List V}
theorem Inv.lset {its its':List Value} {n:Nat} {f:Array Value→Array Value} {t':Nat} (I:Inv X pins σ H s) (hH:H l=some (.lst xs))
    (e:s.heap.get? l=some { cls:=.type "list",data:=.seq its.toArray n }) (hf:f its.toArray=its'.toArray) (hv:Vals ys its') (hz:ys.length≤sizeLine) :
    Inv X pins σ (upd H l (.lst ys)) { s with heap:=s.heap.update l (Obj.mapSeq f),toks:=t' }:=by
  have q:=PySem.IsL.update e f
  rw [hf] at q
  refine I.write (x:=l) (e:=l) (by rw [hH];exact trivial) (.inl rfl) (fun b' u hb hu=>(Heap.get?_update_other s.heap (Obj.mapSeq f) (Ne.symm hb)).trans hu) ⟨_,q⟩ ?_
  exact ⟨hz,its',_,hv,q⟩
theorem Inv.lnew {its:List Value} {t':Nat} (I:Inv X pins σ H s) (hv:Vals ys its) (hz:ys.length≤sizeLine) :
    Inv X pins σ (upd H s.heap.objs.size (.lst ys)) { s with heap:=s.heap.push { cls:=.type "list",data:=.seq its.toArray },toks:=t' } :=
  I.laid (fun _ _ q=>Heap.get?_push_of_some _ q) (Nat.le_refl _) ⟨hz,its,0,hv,Heap.get?_push_size _ rfl⟩
theorem Inv.fresh (I:Inv X pins σ H s):H s.heap.objs.size=none:=I.hok.fresh (Nat.le_refl _)
theorem Inv.lstM (I:Inv X pins σ H s) (hH:H l=some (.lst xs)):xs.length≤sizeLine∧∃ (its:List Value) (n:Nat),Vals xs its∧xs.length=its.length∧s.heap.get? l=some { cls:=.type "list",data:=.seq its.toArray n }:=by
  obtain ⟨z,its,n,r,e⟩:=I.hok l _ hH
  exact ⟨z,its,n,r,r.length,e⟩
theorem qgF {n:Nat} (h:n≤sizeLine):Builtin.List.listTooLong n=false:=by
  unfold Builtin.List.listTooLong
  exact decide_eq_false (by omega)
end
section
variable {X : Cx}
def qhS:V→List V→Hp→VK→Prop:=fun x vs H Q=>∃ l xs y,x=.ref l∧vs=[y]∧H l=some (.lst xs)∧xs.length<sizeLine∧Q .non (upd H l (.lst (xs++[y])))
theorem qdf:MtM X "list.append" qhS:=by
  intro pins s σ H x vs v us Q I rx rv h
  obtain ⟨l,xs,y,rfl,rfl,hH,hz,q⟩:=h
  cases rx
  obtain ⟨u,rfl,ru⟩:=rv.one
  obtain ⟨z,its,n,r,hl,e⟩:=I.lstM hH
  refine call_meets F.slot_list_append ⟨_,e,rfl⟩ F.entry_list_append (F.args_list_append_2 _ _) (PySem.list_append l its.toArray n u (by rw [List.size_toArray];omega)) ⟨e,?_⟩
  refine ⟨.non,_,I.lset (its':=its++[u]) hH e (by simp) (r.append (.cons ru .nil)) ?_,rfl,q⟩
  rw [List.length_append,List.length_singleton]
  omega
def qli:R2:=fun x y H Q=>∃ l b xs zs,x=.ref l∧y=.ref b∧H l=some (.lst xs)∧H b=some (.lst zs)∧xs.length+zs.length≤sizeLine∧∀ p,H p=none→Q (.ref p) (upd H p (.lst (xs++zs)))
theorem qir:OpR X (binaryOp .Add) qli:=by
  intro pins s σ H x y v u Q I rx ry h
  obtain ⟨l,b,xs,zs,rfl,rfl,hH,hB,hz,q⟩:=h
  cases rx
  cases ry
  obtain ⟨z,its,n,r,hl,e⟩:=I.lstM hH
  obtain ⟨z2,its2,n2,r2,hl2,e2⟩:=I.lstM hB
  refine PySem.P.add_list e e2 ?_ (by rw [List.size_toArray,List.size_toArray];omega)
  have ea:its.toArray++its2.toArray=(its++its2).toArray:=by simp
  rw [ea]
  exact ⟨.ref _,_,I.lnew (t':=s.toks) (r.append r2) (by rw [List.length_append];omega),rfl,q _ I.fresh⟩
def qla:R2:=fun x y H Q=>∃ l k xs,x=.ref l∧y=.int k∧H l=some (.lst xs)∧-(2 ^ 63)≤k∧k<2 ^ 63∧xs.length*k.toNat≤sizeLine ∧
  ∀ p,H p=none→Q (.ref p) (upd H p (.lst (List.replicate k.toNat xs).flatten))
theorem qdM {α:Type} (xs:List α) (k:Nat):(List.replicate k xs).flatten.length=k*xs.length:=by
  induction k with
  | zero=>simp
  | succ k ih=>rw [List.replicate_succ,List.flatten_cons,List.length_append,ih,Nat.succ_mul,Nat.add_comm]
theorem qi4:OpR X (binaryOp .Mult) qla:=by
  intro pins s σ H x y v u Q I rx ry h
  obtain ⟨l,k,xs,rfl,rfl,hH,h1,h2,hz,q⟩:=h
  cases rx
  obtain ⟨t,rfl⟩:=ry
  obtain ⟨z,its,n,r,hl,e⟩:=I.lstM hH
  have hlen:its.toArray.size*k.toNat≤sizeLine:=by rw [List.size_toArray,← hl];exact hz
  have hcap:¬ its.toArray.size*k.toNat>(2 ^ 63 - 1) / 8:=by
    have:(sizeLine:Nat)≤(2 ^ 63 - 1) / 8:=by decide
    omega
  have hfit:¬ (!Builtin.List.listFitsIndex k)=true:=by
    rw [fitsIndex_both h1 h2]
    exact Bool.false_ne_true
  have hlong:¬ Builtin.List.listTooLong (its.toArray.size*k.toNat)=true:=by
    rw [qgF hlen]
    exact Bool.false_ne_true
  have hnew:List.foldl (fun x1 x2=>x1++x2) #[] (List.replicate (if its.toArray.isEmpty=true then 0 else k.toNat) its.toArray)=(List.replicate k.toNat its).flatten.toArray:=by
    have f0:∀ m:Nat,List.foldl (fun x1 x2=>x1++x2) #[] (List.replicate m its.toArray)=(List.replicate m its).flatten.toArray:=fun m=>by
      have:=qb6 its m []
      rw [List.nil_append] at this
      exact this
    rw [f0]
    cases its with
    | nil=>simp
    | cons a r'=>rw [if_neg (by simp)]
  refine wpAny_binaryOp_repeat_ref (T:="list") (U:="int") (by decide) ⟨_,e,rfl⟩ (fun s'=>typeIs_int s' k t) noFill_list_mul F.fills_int_mul F.slot_int_rmul repeat_list F.slot_int_index.lookup
    (call_meets F.slot_int_rmul (typeIs_int s k t) F.entry_int_rmul (F.args_int_rmul_2 _ _) (int___rmul___int_list k t l its.toArray n)
      ⟨e,rfl,⟨_,e,rfl⟩,call_meets F.slot_list_mul ⟨_,e,rfl⟩ F.entry_list_mul (F.args_list_mul_2 _ _) (AutoListH.list___mul___list_int_3 l its.toArray n k t hfit hcap hlong) ⟨e,?_⟩⟩)
  rw [hnew]
  exact ⟨.ref _,_,I.lnew (t':=s.toks) (r.rep k.toNat) (by rw [qdM,Nat.mul_comm];exact hz),rfl,q _ I.fresh⟩
end
section
variable {prog : Program} {w : World} {A : Around} {E : Value → Shared → Prop} {s : Shared}
end
section
variable {X : Cx}
end
end L2
namespace Att
open PySem PySem.W PySem.Calls PyProof.Rows
theorem qcf {P:Params} {h:Heap}:∀ (ns:List Int) (vs:List Value),WellAll P h vs (ns.map WData.int)→IntsAre vs ns:=by
  intro ns
  induction ns with
  | nil =>
    intro vs w
    rw [List.map_nil] at w
    cases w
    exact .nil
  | cons n ns ih =>
    intro vs w
    rw [List.map_cons] at w
    cases w with
    | cons a b =>
      cases a
      exact .cons _ _ (ih _ b)
theorem qft {l:OpenLaw} {n:Nat} (hn:l.most=some n) {P:Params} {h:Heap} {args:List WData} {vals:List Value}
    (hpre:l.row.toRowW.claim.pre args=true) (hwl:WellAll P h vals args) :
    ∃ a vs ns,vals=[Value.ref a]∧args=[WData.list (ns.map WData.int)]∧h.get? a=some { cls:=.type "list",data:=.seq vs.toArray }∧IntsAre vs ns∧ns.length≤n:=by
  have hsh:WShape.hasAll [] args [.list .int]=true:=(pre_splitW hpre).1
  have hc:l.pre.holds [] { args:=args }=true:=(pre_splitW hpre).2
  obtain ⟨d,r,rfl,h1,h2⟩:=hasAllW_cons hsh
  obtain rfl:=hasAllW_nil h2
  obtain ⟨xs,rfl,h3⟩:=hasW_list h1
  obtain ⟨ns,rfl⟩:=items_int h3
  have hlen:ns.length≤n:=by
    unfold OpenLaw.pre at hc
    have h4:(WTm.not (.lt (.lit (.int (n:Int))) (.len (.arg 0)))).holds [] { args:=[.list (ns.map .int)] }=true:=by
      have h4:=(holds_andW hc).1
      rw [hn] at h4
      exact h4
    have h5:=condW_of h4 (w_not (w_lt w_lit (w_len_list (w_arg rfl))))
    rw [List.length_map] at h5
    refine Nat.le_of_not_lt fun q=>?_
    have q':(n:Int)<((ns.length:Nat):Int):=by omega
    first
      | (rw [decide_eq_true q'] at h5;exact absurd h5 (by decide))
      | (simp at h5;omega)
  cases hwl with
  | cons w1 w2 =>
    cases w2
    cases w1 with
    | list ho hall=>exact ⟨_,_,ns,rfl,rfl,ho,qcf ns _ hall,hlen⟩
theorem qfW (l:OpenLaw) (args:List WData):l.row.toRowW.claim.post args (.bool true) args=true :=
  postW_of (r:=l.row.toRowW) (X:=(true == true))
    (show WShape.has [] (.bool true) .bool=true by first | rfl | decide | simp [WShape.has,WShape.arms,WShape.armsAll])
    (show (WTm.eq .res (.lit (.bool true))).value [] { args:=args,res:=some (.bool true),after:=args }=some (.bool (true == true)) from w_eq_bool (w_res rfl) w_lit) rfl
theorem attach_call {l:OpenLaw} {n:Nat} {q:Program} {loose:List Str} {XP:(Str→Option Value)→Heap→Prop} {YP:World→Heap→Prop} {d:DefRec}
    (hn:l.most=some n) (hdf:d.params.defaults=[])
    (call:∀ (w:World) (s₀ s₁:Shared) (mg mb:Str→Option Value) (fa:Addr) (o:Obj) (pm cd doc:Value) (a:Addr) (vs:List Value) (ns:List Int),
      Ground q loose [] XP w s₀ mg mb s₁.heap→YP w s₁.heap →
      s₁.heap.get? fa=some o→o.data=.func (docDef d.name d.params d.body d.scope pm cd doc)→s₁.heap.CodeRec cd d.name→mg d.name=some (.ref fa) →
      s₁.heap.get? a=some { cls:=.type "list",data:=.seq vs.toArray }→IntsAre vs ns→ns.length≤n→s₁.gens=#[] →
      codeAny (model l.prog w) callerA (.call (.ref fa) ⟨[.ref a],[]⟩) (fun r s'=>r=.ok (.ret (.bool true))∧OldK s₁.heap s'.heap∧s'.os=s₁.os∧AllBare s'.gens) s₁) :
    WalkO q loose XP YP l.row.toRowW d [] (fun f vs=>PySem.call f vs):=by
  intro w s₀ s₁ mg mb G Y fa o pm cd doc dV kV ho hd hcd hD hmg hg args vals as hpre hlay hrd hwl hlo
  obtain rfl:dV=.none:=Dflts.none hD hdf
  obtain rfl:kV=.none:=Dflts.noKw hD
  obtain ⟨a,vs,ns,rfl,rfl,hobj,hints,hlen⟩:=qft hn hpre hwl
  refine enter_call (codeAny_mono (call w s₀ s₁ mg mb fa o pm cd doc a vs ns G Y ho (fd_plain hd) hcd hmg hobj hints hlen hg) fun r s' hq=>?_)
  obtain ⟨rfl,h2,h3,h4⟩:=hq
  exact ⟨.inl ⟨.bool true,.bool true,[],rfl,fun _=>rfl,.bool true,qfW l _,fun _=>⟨List.Pairwise.nil,fun _ hm=>(nomatch hm)⟩⟩,h2,h3,h4⟩
section
variable {prog : Program} {w : World} {A : Around} {E : Value → Shared → Prop} {s : Shared} {K : Frag}
end
end Att
namespace L2
open PySem PySem.Spec PyProof.Rows
theorem qdg:∀ {vs:List Value} {ns:List Int},IntsAre vs ns→Vals (ns.map V.int) vs
  | _,_,.nil=>.nil
  | _,_,.cons n t h=>.cons ⟨t,rfl⟩ (qdg h)
def qjT (H:Hp):Prop:=∀ b,H b=none∨∃ o xs,H b=some (.frz o (.lst xs))
theorem qgi {P:Program} {w:World} {K:PySem.W.Frag} {mg mb:Str→Option Value} {CX:CXT} {k:Nat} {fa a:Addr} {fd:FuncData} {x:Str} {sp:Sp} {s₁:Shared} {vs:List Value} {ns:List Int}
    (KX:K.In s₁.heap) (hns:s₁.heap.Ns mainGlobals mg) (hb:s₁.heap.Ns builtinsNs mb) (hbb:∀ x:Str,x≠"__name__"→mb x=bootBuiltins x) (hlim:s₁.heap.NoLimit)
    (hbm:∃ bm ob,mg "__builtins__"=some (.ref bm)∧bm≠builtinsNs∧s₁.heap.get? bm=some ob∧ob.cls=.type "module"∧ob.dict=some builtinsNs∧ob.data=.plain) (hse:s₁.heap.NoSeer) (hdg:∃ mc,s₁.heap.Ns cStatics mc∧mc "sys.int_max_str_digits"=none) (hg:s₁.gens=#[])
    (ha:s₁.heap.get? a=some { cls:=.type "list",data:=.seq vs.toArray }) (hi:IntsAre vs ns) (hl:ns.length≤sizeLine) (hr:Room k callerA)
    (F:∀ base:Heap,K.In base→base.Ns mainGlobals mg→FnOk P w K mg base CX k fa fd [x] sp) (hbind:∀ (s:Shared) (u:Value),BindsTo s fd ⟨[u],[]⟩ [(x,u)])
    (hsp:∀ H:Hp,qjT H→SqL K H a (ns.map V.int)→sp [.ref a] H (fun v _=>v=.bl true) fun _ _ _=>False)
    (hCX:∀ H e s',CX [] H s₁ (fun _ _ _=>False) e s'→False) :
    codeAny (model P w) callerA (.call (.ref fa) ⟨[.ref a],[]⟩) (fun r s'=>r=.ok (.ret (.bool true))∧OldK s₁.heap s'.heap∧s'.os=s₁.os∧AllBare s'.gens) s₁:=by
  have rv:=qdg hi
  have lenV:=hi.length
  have core:∀ H:Hp,qjT H→SqL K H a (ns.map V.int)→HOk P w H s₁.heap→(∀ b,H b≠none→b=a)→(H a≠none→K.lookup a=none) →
      codeAny (model P w) callerA (.call (.ref fa) ⟨[.ref a],[]⟩) (fun r s'=>r=.ok (.ret (.bool true))∧OldK s₁.heap s'.heap∧s'.os=s₁.os∧AllBare s'.gens) s₁:=by
    intro H hO hS hok hA hK
    have base_of:∀ {b:Addr} {o:Obj},s₁.heap.get? b=some o→H b=none→(qgn s₁.heap H).get? b=some o:=fun e n=>qgD e n
    have noA:∀ {b:Addr} {o:Obj} {es:Array DictEntry} {ep:Nat},s₁.heap.get? b=some o→o.data=.dict es ep→H b=none:=fun {b o es ep} e d=>by
      cases q:H b with
      | none=>rfl
      | some u =>
        have e':b=a:=hA b (by rw [q];simp)
        subst e'
        rw [ha] at e;cases e
        have d':Data.seq vs.toArray _=Data.dict es ep:=d
        cases d'
    have nsK:∀ {b:Addr} {m:Str→Option Value},s₁.heap.Ns b m→(qgn s₁.heap H).Ns b m:=fun {b m} hq0=>by obtain ⟨o,es,ep,e,d,r⟩:=hq0;exact ⟨o,es,ep,base_of e (noA e d),d,r⟩
    have hKb:K.In (qgn s₁.heap H):=fun b o e=>base_of (KX b o e) (by
      cases q:H b with
      | none=>rfl
      | some u =>
        have e':b=a:=hA b (by rw [q];simp)
        subst e'
        rw [hK (by rw [q];simp)] at e;cases e)
    have hM:Mod K mg (qgn s₁.heap H):=⟨hKb,nsK hns,⟨mb,nsK hb,hbb⟩,let ⟨mc,h1,h2⟩:=hlim;⟨mc,nsK h1,h2⟩,let ⟨bm,ob,b1,b2,b3,b4,b5,b6⟩:=hbm;⟨bm,ob,b1,b2,base_of b3 (by
      cases q:H bm with
      | none=>rfl
      | some u =>
        have e':bm=a:=hA bm (by rw [q];simp)
        rw [e',ha] at b3;cases b3;injection b4 with z;exact absurd z (by decide)),b4,b5,b6⟩,
      ⟨let ⟨mc,h1,h2⟩:=hse.statics;⟨mc,nsK h1,h2⟩,let ⟨mc,h1,h2⟩:=hse.mods;⟨mc,nsK h1,h2⟩,let ⟨mc,h1,h2⟩:=hse.imp;⟨mc,nsK h1,h2⟩,let ⟨m1,bm,ob,n1,b1,b3,b4,b5⟩:=hse.main;⟨m1,bm,ob,nsK n1,b1,base_of b3 (by
      cases q:H bm with
      | none=>rfl
      | some u =>
        have e':bm=a:=hA bm (by rw [q];simp)
        rw [e',ha] at b3;cases b3;injection b4 with z;exact absurd z (by decide)),b4,b5⟩⟩,let ⟨mc,h1,h2⟩:=hdg;⟨mc,nsK h1,h2⟩⟩
    have e0:Env0 P w K mg (qgn s₁.heap H) callerA [] s₁ H:=⟨rfl,hM,fun b o e=>qhF e,Nat.le_of_eq (qfV _ _),trivial,fun b hb=>absurd (show b∈([]:List Addr) from hb) (by simp),hok,.of_eq hg⟩
    refine codeAny_mono ((F _ hKb (nsK hns)).run callerA [] s₁ H ⟨[.ref a],[]⟩ [.ref a] [.ref a] _ _ hr e0 (hbind s₁ (.ref a)) (.cons rfl .nil) (hsp H hO hS)) fun r s' h=>?_
    cases r with
    | error e=>exact (hCX H e s' h).elim
    | ok fl =>
      cases fl with
      | next=>exact False.elim h
      | brk=>exact False.elim h
      | cont=>exact False.elim h
      | ret u =>
        obtain ⟨v,H',os,bare,un,hok',r',q⟩:=h
        have q':v=.bl true:=q
        subst q'
        obtain rfl:u=Value.bool true:=r'
        refine ⟨rfl,OldK.of_keep fun b o e=>?_,os,bare⟩
        cases q:H b with
        | none=>exact un.keep b o e q (by intro z;exact absurd (show b∈([]:List Addr) from z) (by simp)) (by simp)
        | some u =>
          rcases hO b with z | ⟨ob,xs,z⟩
          · rw [q] at z;cases z
          · have z2:=un.frzs b ob _ z
            obtain ⟨e1,_⟩:=hok b _ z
            obtain ⟨e2,_⟩:=hok' b _ z2
            rw [e] at e1;cases e1
            exact e2
  cases hk:K.lookup a with
  | some o =>
    have e:=KX a o hk
    rw [ha] at e
    cases e
    refine core (fun _=>none) (fun _=>.inl rfl) (.inr ⟨_,vs.toArray,_,hk,rfl,rfl,rfl,by rw [List.size_toArray,lenV];exact hl,by simpa using rv⟩) (fun b u z=>by have z':(none:Option HO)=some u:=z;cases z') (fun b z=>absurd rfl z) fun z=>absurd rfl z
  | none =>
    refine core (fun b=>if b=a then some (.frz { cls:=.type "list",data:=.seq vs.toArray } (.lst (ns.map V.int))) else none) (fun b=>?_) (.inl (.inr ⟨{ cls:=.type "list",data:=.seq vs.toArray },if_pos rfl⟩)) (fun b u z=>?_) (fun b z=>?_) fun _=>hk
    · by_cases hb:b=a
      · exact .inr ⟨_,_,if_pos hb⟩
      · exact .inl (if_neg hb)
    · by_cases hb:b=a
      · have z':=(if_pos hb).symm.trans z
        cases z'
        subst hb
        exact ⟨ha,by rw [List.length_map];exact hl,vs,_,rv,ha⟩
      · have z':=(if_neg hb).symm.trans z
        cases z'
    · by_cases hb:b=a
      · exact hb
      · exact absurd (if_neg hb) z
theorem walk_of {l:PySem.W.OpenLaw} {n k:Nat} {q:Program} {loose:List Str} {XP:(Str→Option Value)→Heap→Prop} {YP:World→Heap→Prop} {d:DefRec} {K:Params→PySem.W.Frag} {CX:World→CXT} {sp:World→Sp} {x:Str}
    (hn:l.most=some n) (hn2:n≤sizeLine) (hdf:d.params.defaults=[]) (hi:importsNone q=true) (hr:Room k callerA)
    (hY:∀ (w:World) (h:Heap),YP w h→(K w.params).In h)
    (F:∀ (w:World) (mg:Str→Option Value) (fa:Addr) (h:Heap),(K w.params).In h→h.Ns mainGlobals mg→mg d.name=some (.ref fa) →
      ∃ fd:FuncData,(∀ (s:Shared) (u:Value),BindsTo s fd ⟨[u],[]⟩ [(x,u)]) ∧
        ∀ base:Heap,(K w.params).In base→base.Ns mainGlobals mg→FnOk l.prog w (K w.params) mg base (CX w) k fa fd [x] (sp w))
    (hsp:∀ (w:World) (H:Hp) (a:Addr) (ns:List Int),ns.length≤n→qjT H→SqL (K w.params) H a (ns.map V.int)→sp w [.ref a] H (fun v _=>v=.bl true) fun _ _ _=>False)
    (hCX:∀ (w:World) (H:Hp) (s:Shared) (e:Value) (s':Shared),CX w [] H s (fun _ _ _=>False) e s'→False) :
    PySem.W.WalkO q loose XP YP l.row.toRowW d [] (fun f vs=>PySem.call f vs):=by
  refine Att.attach_call hn hdf fun w s₀ s₁ mg mb fa o pm cd doc a vs ns G Y ho hd hcd hmg hobj hints hlen hg=>?_
  have KX:=hY w _ Y
  obtain ⟨fd,hb,hF⟩:=F w mg fa _ KX G.T.g hmg
  exact qgi KX G.T.g G.T.b G.T.builtins G.T.nolimit G.T.bmain (G.T.seer hi) G.T.nodigits hg hobj hints (Nat.le_trans hlen hn2) hr hF hb (fun H hO hS=>hsp w H a ns hlen hO hS) fun H e s'=>hCX w H s₁ e s'
end L2
/- THE LAST THEOREM (shape;LID,My.* are yours):
   My.Adr: a structure of the addresses that your layer names (classes,functions);My.Txt K t: a structure (Prop) of the equations over K;
   My.txt_mk:{K} {implicit addresses ..} (e1:nsIn K mainGlobals "law"=some (some (.ref f))) (e2:K.lookup f=some ⟨oc,od,.func (fnOf "law" "law" params body scope dV kV doc pm an cdv ct),sl⟩) (e3:codeIn K cdv "law"=true) ..:∃ t,My.Txt K t
set_option maxRecDepth 100000 in
set_option maxHeartbeats 0 in
theorem PySem.Challenge.cw_LID_holds : PySem.Challenge.rw_LID.Holds := by
  w_on;o_law;k_head;(case hw=>w_witness2)
  k_fill
  refine L2.walk_of (l:=PySem.Challenge.rw_LID) (n:=63) (k:=40) (x:="script") (CX:=fun w=>..) (sp:=fun _=>My.sp_law) rfl (by decide) rfl ⟨rfl,by decide,by decide⟩ (fun w h Y=>PySem.W.kIn_of Y) ?F ?S ?C
  case F =>
    intro w mg fa h KX G hmg
    have T:∃ t,My.Txt (L2.KOf KX) t:=by
      dsimp only [L2.KOf]                          -- K must stand as «<heap const> w.params» for k_is
      refine' My.txt_mk ?e1 ?e2 ?e3 ..
      (case e1=>PySem.W.k_is)                    -- in the order: a name -> its address -> its object -> its parts
      (case e2=>PySem.W.k_is)
      ..
    obtain ⟨t,T⟩:=T
    have e0:=hmg.symm.trans (PySem.W.mg_of KX G T.law)
    cases e0                                       -- fa is the law's own address
    exact ⟨_,fun s u=>.of_eq rfl,fun base kb nb=>My.law_fn T kb nb⟩     -- if «.of_eq rfl» comes too early: refine' ⟨_,?b,fun base kb nb=>My.law_fn T kb nb⟩;exact fun s u=>.of_eq rfl
  case S=>exact fun w H a ns hl hO hS=>..
  case C=>exact ..
(the tactic k_is has no namespace: write k_is) -/
namespace L2
open PySem PySem.Spec PyProof.Rows
def qda (s:Stmt) (j:Nat):Stmt:=match s with
  | .ClassDef _ _ _ body _ _ _ _ _ _ _=>body.getD j (.Pass ⟨0,0,0,0⟩)
  | _=>.Pass ⟨0,0,0,0⟩
def qaC (s:Stmt):Arguments:=match s with
  | .FunctionDef _ a _ _ _ _ _ _ _ _=>a
  | _=>{ posonlyargs:=[],args:=[],vararg:=none,kwonlyargs:=[],kw_defaults:=[],kwarg:=none,defaults:=[] }
def qao (s:Stmt):List Stmt:=match s with
  | .FunctionDef _ _ b _ _ _ _ _ _ _=>b
  | _=>[]
def qab (s:Stmt):Scope:=match s with
  | .FunctionDef _ _ _ _ _ _ sc _ _ _=>sc
  | _=>{ kind:=.function,names:=[],isGenerator:=false,isCoroutine:=false }
abbrev CX0:CXT:=fun _ _ _ _ _ _=>False
abbrev E0:XK:=fun _ _ _=>False
theorem qib {X:Cx}:qcE CX0 X E0:=fun _ _ _ _ _ _ _ h=>h.elim
structure Fun (K:PySem.W.Frag) (x qual:Str) (st:Stmt) (f:Addr) (fd:FuncData):Prop where
  ex:∃ (oc:Value) (od:Option Addr) (kV doc pm:Value) (an:Option Addr) (cdv ct:Value) (osl:Array (Option Value)),
    fd=PySem.W.fnOf x qual (qaC st) (qao st) (qab st) .none kV doc pm an cdv ct∧K.lookup f=some ⟨oc,od,.func fd,osl⟩∧PySem.W.codeIn K cdv qual=true
  kp:PySem.W.keepIn K (.ref f)=true
section
variable {P : Program} {w : World} {K : PySem.W.Frag} {mg : Str → Option Value} {base : Heap}
theorem Fun.ok {x qual:Str} {st:Stmt} {f:Addr} {fd:FuncData} {N ps:List Str} {k:Nat} {sp:Sp} (F:Fun K x qual st f fd) (S:FnScope N ps (qab st)) (len:∀ vs H Q E,sp vs H Q E→vs.length=ps.length)
    (hbody:∀ (cdv:Value) (A:Around) (outer:List Env) (s:Shared) (H:Hp) (vs:List V) (Q:VK) (E:XK),Room k (A.deeper (envOfC qual (qab st) s.heap.objs.size f cdv))→sp vs H Q E →
      ∃ t,PSs (qeA CX0 P w K mg base N qual (qab st) f cdv A outer s H E).nox (qao st) t∧t { nx:=fun _ H'=>Q .non H',rt:=Q } (qbd N vs) H):FnOk P w K mg base CX0 (k+1) f fd ps sp:=by
  obtain ⟨oc,od,kV,doc,pm,an,cdv,ct,osl,rfl,lk,hcd⟩:=F.ex
  refine qgt lk hcd S len fun A outer s H vs Q E hr hsp=>?_
  obtain ⟨t,h,q⟩:=hbody cdv A outer s H vs Q E hr hsp
  exact ⟨t,h.nox,q⟩
theorem Fun.binds {x qual:Str} {st:Stmt} {f:Addr} {fd:FuncData} {ps:List Str} (F:Fun K x qual st f fd)
    (h:∀ (kV doc pm:Value) (an:Option Addr) (cdv ct:Value) (us:List Value),us.length=ps.length→bindArgs (PySem.W.fnOf x qual (qaC st) (qao st) (qab st) .none kV doc pm an cdv ct) ⟨us,[]⟩=pure (ps.zip us)):Binds K fd ps []:=by
  obtain ⟨oc,od,kV,doc,pm,an,cdv,ct,osl,rfl,lk,hcd⟩:=F.ex
  exact .all (h kV doc pm an cdv ct)
theorem qjc {x qual:Str} {st:Stmt} {f:Addr} {oc:Value} {od an:Option Addr} {osl:Array (Option Value)} {kV doc pm cdv ct:Value} (l:K.lookup f=some ⟨oc,od,.func (PySem.W.fnOf x qual (qaC st) (qao st) (qab st) .none kV doc pm an cdv ct),osl⟩)
    (c:PySem.W.codeIn K cdv qual=true) (k:PySem.W.keepIn K (.ref f)=true):Fun K x qual st f (PySem.W.fnOf x qual (qaC st) (qao st) (qab st) .none kV doc pm an cdv ct):=⟨⟨oc,od,kV,doc,pm,an,cdv,ct,osl,rfl,l,c⟩,k⟩
end
theorem qbk {n:Nat} (h:n≤1000):n<sizeLine:=Nat.lt_of_le_of_lt h (by decide)
section
variable {X : Cx}
theorem pv (i:Nat) {x:Str} {pos:Pos} (hN:X.N[i]?=some x:=by rfl) (hv:Vis X.env.scope x:=by first | exact Or.inl rfl | exact Or.inr (Or.inl rfl) | exact Or.inr (Or.inr rfl)) (hd:(x == ("__debug__":Str))=false:=by decide)
    (hcd:(x == ("__classdict__":Str))=false:=by decide):PE X (.Name x pos) (qjB i):=qfk hN hv hd hcd
end
theorem qjC {A B:Prop} (h:B):if false=true then A else B:=by
  rw [if_neg Bool.false_ne_true]
  exact h
theorem qjx {A B:Prop} (h:A):if true=true then A else B:=by
  rw [if_pos rfl]
  exact h
def Same (H H':Hp):Prop:=∀ b o,H b=some o→H' b=some o
theorem Same.refl (H:Hp):Same H H:=fun _ _ h=>h
theorem Same.trans {H H1 H2:Hp} (a:Same H H1) (b:Same H1 H2):Same H H2:=fun c o h=>b c o (a c o h)
theorem Same.free {H H':Hp} (e:Same H H') {l:Addr} (h:H' l=Option.none):H l=Option.none:=by
  cases q:H l with
  | none=>rfl
  | some o =>
    rw [e l o q] at h
    cases h
theorem Same.seq {K:PySem.W.Frag} {H H':Hp} {a:Addr} {xs:List V} (e:Same H H') (h:SqL K H a xs):SqL K H' a xs:=by
  rcases h with (h | ⟨o,h⟩) | h
  · exact .inl (.inl (e _ _ h))
  · exact .inl (.inr ⟨o,e _ _ h⟩)
  · exact .inr h
section
variable {κ : Type} [DecidableEq κ]
end
section
variable {P : Program} {w : World} {H : Hp} {h : Heap} {a : Addr}
end
section
variable {X : Cx} {pins : List (Addr × Obj)} {σ : St} {H : Hp} {s : Shared} {a : Addr} {y v : V} {u r : Value} {o : Option V} {A : Around} {E : Value → Shared → Prop}
end
section
variable {X : Cx} {pins : List (Addr × Obj)} {σ : St} {H : Hp} {s : Shared} {a : Addr} {kvs : List (Key × V)} {k : Key} {u : Value} {A : Around} {E : Value → Shared → Prop}
end
section
variable {X : Cx} {o i e value : Expr} {pos pos' tpos : Pos} {td ty tv : TE}
end
section
variable {X : Cx} {pos : Pos}
end
end L2
set_option maxHeartbeats 4000000
namespace L2
open PySem PySem.Spec PyProof.Rows
theorem qev {env:Env} (names:List (Str × NameKind)) (hf:∀ x∈names,x.2=.free→∃ c,env.cells.lookup x.1=some c):∀ acc:List (Str × Addr),
    ∃ cl:List (Str × Addr),(forIn names acc (fun (x:Str × NameKind) cs=>if (x.2 == .free)=true then do let a ← cellOf env x.1;pure (ForInStep.yield ((x.1,a)::cs)) else pure (ForInStep.yield cs)):Sem (List (Str × Addr)))=pure cl ∧
      (∀ p∈cl,p∈acc∨env.cells.lookup p.1=some p.2)∧(∀ p∈acc,p∈cl)∧∀ x,(x,NameKind.free)∈names→∃ c,(x,c)∈cl:=by
  induction names with
  | nil=>intro acc;exact ⟨acc,rfl,fun p hp=>.inl hp,fun _ hp=>hp,fun x hx=>by simp at hx⟩
  | cons n r ih =>
    intro acc
    obtain ⟨n,k⟩:=n
    have hr:∀ x∈r,x.2=.free→∃ c,env.cells.lookup x.1=some c:=fun x hx=>hf x (List.mem_cons_of_mem _ hx)
    by_cases hk:k=.free
    · subst hk
      obtain ⟨c,hc⟩:=hf (n,.free) List.mem_cons_self rfl
      obtain ⟨cl,e,h1,h2,h3⟩:=ih hr ((n,c)::acc)
      refine ⟨cl,?_,fun p hp=>?_,fun p hp=>h2 p (List.mem_cons_of_mem _ hp),fun x hx=>?_⟩
      · rw [List.forIn_cons,← e]
        have q:cellOf env n=pure c:=by unfold cellOf;rw [hc]
        simp [q]
      · rcases h1 p hp with z | z
        · rcases List.mem_cons.mp z with rfl | z
          · exact .inr hc
          · exact .inl z
        · exact .inr z
      · rcases List.mem_cons.mp hx with z | z
        · cases z;exact ⟨c,h2 _ List.mem_cons_self⟩
        · exact h3 x z
    · obtain ⟨cl,e,h1,h2,h3⟩:=ih hr acc
      refine ⟨cl,?_,h1,h2,fun x hx=>?_⟩
      · rw [List.forIn_cons,← e]
        have q:(k == NameKind.free)=false:=by simpa using hk
        simp [q]
      · rcases List.mem_cons.mp hx with z | z
        · cases z;exact absurd rfl hk
        · exact h3 x z
theorem qcI {cl:List (Str × Addr)} {cells:List (Str × Addr)} (h:∀ p∈cl,cells.lookup p.1=some p.2):∀ x c,cl.lookup x=some c→cells.lookup x=some c:=fun x c e=>h (x,c) (PySem.mem_of_lookup e)
theorem qeT {cl:List (Str × Addr)} {x:Str} {c:Addr}:(x,c)∈cl→∃ c',cl.lookup x=some c':=by
  induction cl with
  | nil=>intro h;simp at h
  | cons p r ih =>
    intro h
    rw [List.lookup_cons]
    cases e:x == p.1 with
    | true=>exact ⟨_,rfl⟩
    | false =>
      rcases List.mem_cons.mp h with z | z
      · subst z;simp at e
      · exact ih z
theorem qbF {scope:Scope} {env:Env} (hf:∀ x∈scope.names,x.2=.free→∃ c,env.cells.lookup x.1=some c) :
    ∃ cl,closureFor scope env=pure cl∧(∀ x c,cl.lookup x=some c→env.cells.lookup x=some c)∧∀ x,(x,NameKind.free)∈scope.names→∃ c,cl.lookup x=some c:=by
  obtain ⟨cl,e,h1,_,h3⟩:=qev (env:=env) scope.names hf []
  refine ⟨cl,?_,qcI fun p hp=>(h1 p hp).elim (fun z=>by simp at z) id,fun x hx=>?_⟩
  · unfold closureFor
    simp only
    rw [← e]
    simp
  · obtain ⟨c,hc⟩:=h3 x hx
    exact qeT hc
theorem qbx {env:Env}:∀ {names:List (Str × NameKind)} {x:Str} {k:NameKind},
    (names.map fun (n,k)=>if (k == NameKind.free && env.scope.kind == .function && env.kindOf n == some .cell) then (n,NameKind.cell) else (n,k)).lookup x=some k→(k=.cell∨k=.free)→(x,NameKind.free)∈names∨(x,NameKind.cell)∈names
  | [],_,_,h,_=>by simp at h
  | (n,k)::r,x,kk,h,hk=>by
    have ih:=@qbx env r x kk
    have h:List.lookup x ((if (k == NameKind.free && env.scope.kind == .function && env.kindOf n == some .cell)=true then (n,NameKind.cell) else (n,k))::_)=_:=h
    by_cases hb:(k == NameKind.free && env.scope.kind == .function && env.kindOf n == some .cell)=true
    · rw [if_pos hb] at h
      have kf:k=.free:=by
        simp only [Bool.and_eq_true,beq_iff_eq] at hb
        exact hb.1.1
      rw [List.lookup_cons] at h
      cases e:x == n with
      | true =>
        have:x=n:=by simpa using e
        subst this;subst kf
        exact .inl List.mem_cons_self
      | false =>
        simp only [e] at h
        exact (ih h hk).imp (List.mem_cons_of_mem _) (List.mem_cons_of_mem _)
    · rw [if_neg hb] at h
      rw [List.lookup_cons] at h
      cases e:x == n with
      | true =>
        have kk':k=kk:=by simpa [e] using h
        have:x=n:=by simpa using e
        subst this
        subst kk'
        rcases hk with rfl | rfl
        · exact .inr List.mem_cons_self
        · exact .inl List.mem_cons_self
      | false =>
        simp only [e] at h
        exact (ih h hk).imp (List.mem_cons_of_mem _) (List.mem_cons_of_mem _)
def qaB (X:Cx) (scope:Scope) (N':List Str) (cl:List (Str × Addr)) (C:Addr) (s0:Shared) (H0:Hp) (fp:List Addr):Cx where
  prog:=X.prog
  w:=X.w
  K:=X.K
  mg:=X.mg
  base:=X.base
  A:=X.A
  N:=N'
  s₀:=s0
  H₀:=H0
  env:=compEnvC scope cl C X.env
  outer:=X.stack
  stack:=X.stack
  ex:=fp
  fn:=fun x=>scope.names.lookup x == some .cell
  calm:=X.calm
  pn:=[]
  xe:=fun _ _=>False
def qbN (cap:List (Option Nat)) (σ:St):St:=cap.map fun o=>o.bind fun i=>(σ[i]?).join
structure CompScope (N:List Str) (sc scope:Scope) (N':List Str) (cap:List (Option Nat)):Prop where
  kind:scope.kind=.function
  cel:∀ x∈scope.names,x.2=.cell→scope.names.lookup x.1=some .cell
  names:∀ x∈scope.names,x.2=.local→scope.names.lookup x.1=some .local
  free:∀ x∈scope.names,x.2=.free→sc.names.lookup x.1=some .cell
  fst:∀ x∈scope.names,x.2=.free→scope.names.lookup x.1=some .free
  nd:N'.Nodup
  len:cap.length=N'.length
  at_:∀ p∈cap.zip N',∀ i,p.1=some i→N[i]?=some p.2∧(p.2,NameKind.free)∈scope.names
def qid (X:Cx) (ifs:List Expr) (t:TT):Prop :=
  ∀ (pins:List (Addr × Obj)) (s:Shared) (σ:St) (H:Hp) (Q:Bool→Hp→Prop),Inv X pins σ H s→t σ H Q →
    wpAny (model X.prog X.w) X.A (forIn ifs true fun c r=>if r=true then do let ok ← isTrue c X.env (eval c X.env);pure (ForInStep.yield ok) else pure (ForInStep.yield r)) (TP X pins σ Q) X.xe s
def qkR:TT:=fun _ H Q=>Q true H
theorem qf7 {X:Cx}:qid X [] qkR:=fun _ _ _ H _ I h=>wpAny_tests_nil ⟨H,I,h⟩
def qet (wi:TI) (cap:List (Option Nat)) (g:TG) (tc:TT) (te:TE):TE:=fun σ H Q=>wi σ H fun J H1=>∀ D,H1 D=none→∃ W:Nat→Nat→St→Hp→Prop,(∃ m,W 0 m (qbN cap σ) (upd H1 D (.lst []))) ∧
  ∀ i m σ' H',W i m σ' H'→(J.stop i H'∧Q (.ref D) H')∨(J.go i H'∧∃ N:St→Hp→Prop,(∀ σ2 H2,N σ2 H2→∃ m',m'<m∧W (i+1) m' σ2 H2) ∧
    ∀ x H2,J.yld i H' x H2→g x σ' H2 fun σ3 H3=>tc σ3 H3 fun b H4=>if b=true then te σ3 H4 fun y H5=>∃ ys,H5 D=some (.lst ys)∧ys.length<sizeLine∧N σ3 (upd H5 D (.lst (ys++[y]))) else N σ3 H4)
theorem qd3 {prog:Program} {w:World} {A:Around} {R:Result→Shared→Prop} {s:Shared} {elt target iter:Expr} {ifs:List Expr} {scope:Scope} {pos:Pos} {it acc:Value} {env:Env} (I:Nat→Shared→Prop)
    (turn:∀ n s,I n s→wpAny (model prog w) A (pyNext it) (fun r s₁=>match r with
      | none=>R (.ok .next) s₁
      | some v=>wpAny (model prog w) A (letOwnedTupleGo target it v) (fun _ s₁'=>wpAny (model prog w) A (assign target env v) (fun _ s₂ =>
          wpAny (model prog w) A (forIn ifs true fun c r=>if r=true then do let ok ← isTrue c env (eval c env);pure (ForInStep.yield ok) else pure (ForInStep.yield r)) (fun ok s₃ =>
            if ok=true then wpAny (model prog w) A (eval elt env) (fun x s₄ =>
              wpAny (model prog w) A (call (.builtin "list.append") [acc,x]) (fun _ s₅=>∃ m,m<n∧I m s₅) (fun _ _=>False) s₄) (fun _ _=>False) s₃
            else ∃ m,m<n∧I m s₃) (fun _ _=>False) s₂) (fun _ _=>False) s₁') (fun _ _=>False) s₁) (fun _ _=>False) s)
    (n:Nat) (h:I n s):codeAny (model prog w) A (.compLoop (.ListComp elt [⟨target,iter,ifs,0⟩] scope pos) 0 it acc env) R s:=by
  refine codeAny_loop rfl I (fun n s hI=>?_) n h
  show wpAny _ A ((compTurn (.ListComp elt [⟨target,iter,ifs,0⟩] scope pos) 0 it acc env).onRaise (fun x=>do noteFrame x env;theTreesLotGoes x)) _ _ s
  refine wpAny_noted ?_
  rw [compTurn_list]
  refine wpAny_bind (wpAny_standAt (wpAny_bind (wpAny_mono (turn n s hI) (fun r s₁ h₁=>?_) fun _ _ h'=>h'.elim)))
  cases r with
  | none=>exact wpAny_pure h₁
  | some v =>
    refine wpAny_bind (wpAny_mono h₁ (fun _ s₁' h₁'=>?_) fun _ _ h'=>h'.elim)
    refine wpAny_bind (wpAny_mono h₁' (fun _ s₂ h₂=>wpAny_bind (wpAny_mono h₂ (fun ok s₃ h₃=>?_) fun _ _ h'=>h'.elim)) fun _ _ h'=>h'.elim)
    cases ok with
    | false=>exact wpAny_pure ⟨rfl,h₃⟩
    | true =>
      exact wpAny_bind (wpAny_bind (wpAny_mono h₃ (fun x s₄ h₄=>wpAny_bind (wpAny_mono h₄ (fun _ s₅ h₅=>wpAny_pure (wpAny_pure ⟨rfl,h₅⟩)) fun _ _ h'=>h'.elim)) fun _ _ h'=>h'.elim))
section
variable {X : Cx} {elt tg iter : Expr} {ifs : List Expr} {scope : Scope} {pos : Pos} {N' : List Str} {cap : List (Option Nat)} {wi : TI} {g : TG} {tc : TT} {te : TE}
theorem qaF:∀ (names:List (Str × NameKind)) (n:Nat) (acc:List (Str × Addr)),cellsFrom n names acc=cellsFrom n names []++acc
  | [],_,_=>rfl
  | (x,k)::r,n,acc=>by
    unfold cellsFrom
    split
    · rw [qaF r (n+1) ((x,n)::acc),qaF r (n+1) [(x,n)],List.append_assoc];rfl
    · exact qaF r n acc
theorem qbg:∀ (names:List (Str × NameKind)) (n:Nat) {x:Str} {c:Addr},(x,c)∈cellsFrom n names []→(x,NameKind.cell)∈names
  | [],_,_,_,h=>by simp [cellsFrom] at h
  | (y,k)::r,n,x,c,h=>by
    unfold cellsFrom at h
    split at h
    · rename_i hk
      rw [qaF] at h
      rcases List.mem_append.mp h with h | h
      · exact List.mem_cons_of_mem _ (qbg r _ h)
      · have e:=List.mem_singleton.mp h
        cases e
        have:k=.cell:=by simpa using hk
        subst this
        exact List.mem_cons_self
    · exact List.mem_cons_of_mem _ (qbg r _ h)
theorem qgz {M:Model} {A:Around} {E:Value→Shared→Prop} {s:Shared} {globals:Addr} {cl:List (Str × Addr)} {qual:Str} {outer:Env} {Q:Env→Shared→Prop}
    (hQ:∀ h',h'.Ns s.heap.objs.size (fun _=>none)→(∀ b o,s.heap.get? b=some o→h'.get? b=some o)→CellsOk h' (s.heap.objs.size+1) (cellsFrom (s.heap.objs.size+1) scope.names []) →
      Q { scope:=scope,locals:=s.heap.objs.size,globals:=globals,cells:=cellsFrom (s.heap.objs.size+1) scope.names []++cl,qual:=qual,func:=none,code:=outer.code,frame:=outer.frame,builtins:=outer.builtins } { s with heap:=h' }) :
    wpAny M A (newFunctionEnv scope globals cl [] qual none .none (some outer)) Q E s:=by
  simp only [newFunctionEnv,Option.isSome_some,if_true]
  refine wpAny_bind (wpAny_alloc ?_)
  refine wpAny_bind (wpAny_layCells _ (fun name kind cells=>by cases hkc:kind == NameKind.cell <;> simp [hkc]) _ _ _ _ ?_)
  have ok:=cellsFrom_ok scope.names (s.heap.push { cls:=.type "dict",data:=.dict #[] }) (s.heap.objs.size+1) [] ⟨fun _ _ hm=>(nomatch hm),List.Pairwise.nil⟩ (by rw [Heap.size_push];exact Nat.le_refl _)
  rw [Heap.size_push] at ok
  rw [show ({ s with heap:=s.heap.push { cls:=.type "dict",data:=.dict #[] } }:Shared).heap.objs.size=s.heap.objs.size+1 from Heap.size_push ..,qaF]
  refine wpAny_bind ?_
  rw [List.forIn_nil]
  exact wpAny_pure (wpAny_pure (hQ _ ((Heap.Ns.new s.heap (.type "dict")).keeps (pushCells_keeps _ _)) (fun b o e=>pushCells_keeps _ _ b o (Heap.get?_push_of_some _ e)) ok))
theorem qf5 {pins:List (Addr × Obj)} {σ:St} {H:Hp} {s s4:Shared} {cl nw:List (Str × Addr)} {C:Addr} {fp:List Addr} {m:Str→Option Value} (S:CompScope X.N X.env.scope scope N' cap) (I:Inv X pins σ H s)
    (hcl:∀ x c,cl.lookup x=some c→X.env.cells.lookup x=some c) (hfr:∀ x,(x,NameKind.free)∈scope.names→∃ c,cl.lookup x=some c) (hC:s.heap.objs.size≤C) (hos:s4.os=s.os) (hg:s4.gens=s.gens)
    (hk:∀ b o,s.heap.get? b=some o→s4.heap.get? b=some o) (hn:s4.heap.Ns C m) (hfp:∀ b∈fp,qdi X pins H b) (hfz:∀ b∈fp,b<s.heap.objs.size) (hw:CellsOk s4.heap (C+1) nw) (hwm:∀ x c,(x,c)∈nw→(x,NameKind.cell)∈scope.names) (hwl:∀ x,(x,NameKind.cell)∈scope.names→∃ c,nw.lookup x=some c) :
    Inv (qaB X scope N' (nw++cl) C s H fp) [] (qbN cap σ) H s4:=by
  have hlk:∀ x c,(nw++cl).lookup x=some c→((x,c)∈nw∧C<c)∨(nw.lookup x=none∧X.env.cells.lookup x=some c):=fun x c h=>by
    rw [List.lookup_append] at h
    cases e:nw.lookup x with
    | none=>rw [e] at h;exact .inr ⟨rfl,hcl x c (by simpa using h)⟩
    | some c' =>
      rw [e] at h
      have:c'=c:=by simpa using h
      subst this
      exact .inl ⟨PySem.mem_of_lookup e,(hw.empty _ _ (PySem.mem_of_lookup e)).2⟩
  have hold:∀ x c,X.env.cells.lookup x=some c→c<s.heap.objs.size:=fun x c h=>by obtain ⟨v,q⟩:=I.cell x c h;exact q.lt
  have hfr':∀ x,(x,NameKind.free)∈scope.names→∃ c,(nw++cl).lookup x=some c∧X.env.cells.lookup x=some c:=fun x hx=>by
    obtain ⟨c,hc⟩:=hfr x hx
    refine ⟨c,?_,hcl x c hc⟩
    rw [List.lookup_append]
    cases e:nw.lookup x with
    | none=>simpa using hc
    | some c' =>
      have a1:=S.cel _ (hwm x c' (PySem.mem_of_lookup e)) rfl
      have a2:=S.fst _ hx rfl
      have a1:scope.names.lookup x=some .cell:=a1
      have a2:scope.names.lookup x=some .free:=a2
      rw [a1] at a2;cases a2
  refine ⟨⟨I.ok.mod,S.kind,I.ok.glob,I.ok.blt,hC,fun x y c h1 h2=>?_,fun x hx=>?_,fun x c hx h=>?_,I.ok.hd,I.ok.frames,.inl rfl,
      fun b hb=>⟨Nat.ne_of_lt (Nat.lt_of_lt_of_le (hfz b hb) hC),fun x c e=>?_⟩,I.bs,Nat.le_trans I.ok.bsz I.sz,fun b o e hb=>?_,fun b hb hf=>?_,I.stack,I.stkFree⟩,
    hos,by rw [hg];exact I.bare,Un.kept hk,⟨m,hn,fun i x v h1 h2 h3=>?_⟩,fun x c e=>?_,I.hok.fresh hC,fun x c e=>?_,fun p hp=>absurd (show p∈([]:List (Addr × Obj)) from hp) (by simp),I.hok.kept hk,?_⟩
  · rcases hlk x c h1 with ⟨a1,a2⟩ | ⟨_,a2⟩ <;> rcases hlk y c h2 with ⟨b1,b2⟩ | ⟨_,b2⟩
    · exact name_of_addr hw.apart a1 b1
    · exact absurd (hold y c b2) (Nat.not_lt.mpr (Nat.le_trans hC (Nat.le_of_lt a2)))
    · exact absurd (hold x c a2) (Nat.not_lt.mpr (Nat.le_trans hC (Nat.le_of_lt b2)))
    · exact I.ok.inj x y c a2 b2
  · have q:(x,NameKind.free)∈scope.names∨(x,NameKind.cell)∈scope.names:=by
      rcases hx with hx | hx
      · exact qbx hx (.inl rfl)
      · exact qbx hx (.inr rfl)
    rcases q with q | q
    · obtain ⟨c,h,_⟩:=hfr' x q
      exact ⟨c,h⟩
    · obtain ⟨c,h⟩:=hwl x q
      exact ⟨c,by show (nw++cl).lookup x=_;rw [List.lookup_append,h];rfl⟩
  · have hx:(scope.names.lookup x == some .cell)=true:=hx
    have hx:scope.names.lookup x=some .cell:=by simpa using hx
    obtain ⟨c',h'⟩:=hwl x (PySem.mem_of_lookup hx)
    rcases hlk x c h with ⟨_,a2⟩ | ⟨a1,_⟩
    · exact Nat.le_trans hC (Nat.le_of_lt a2)
    · rw [h'] at a1;cases a1
  · rcases hlk x c e with ⟨_,a2⟩ | ⟨_,a2⟩
    · exact fun z=>absurd (hfz b hb) (Nat.not_lt.mpr (Nat.le_trans hC (by rw [← z];exact Nat.le_of_lt a2)))
    · exact (hfp b hb).2.2.2.2.1 x c a2
  · rcases (hfp b hb).2.2.2.1 with z | z
    · exact I.ok.noex b o e z
    · exact absurd (Nat.lt_of_lt_of_le (Heap.lt_size e) (Nat.le_trans I.ok.bsz z)) (Nat.lt_irrefl _)
  · rcases List.mem_cons.mp (I.stkSub b hf) with z | z
    · exact (hfp b hb).2.1 z
    · exact (hfp b hb).2.2.1 z
  · have h2:(cap.map fun o=>o.bind fun i=>(σ[i]?).join)[i]?=some (some v):=h2
    rw [List.getElem?_map] at h2
    cases ec:cap[i]? with
    | none=>rw [ec] at h2;cases h2
    | some o =>
      rw [ec] at h2
      have h2:(o.bind fun i=>(σ[i]?).join)=some v:=by simpa using h2
      cases o with
      | none=>cases h2
      | some j =>
        have h2:(σ[j]?).join=some v:=h2
        have hj:σ[j]?=some (some v):=by
          cases ej:σ[j]? with
          | none=>rw [ej] at h2;cases h2
          | some y=>rw [ej] at h2;exact congrArg some h2
        have hz:(cap.zip N')[i]?=some (some j,x):=by rw [List.getElem?_zip_eq_some];exact ⟨ec,h1⟩
        obtain ⟨q1,q2⟩:=S.at_ _ (List.mem_of_getElem? hz) j rfl
        obtain ⟨mx,hnx,hl⟩:=I.loc
        have kc:=S.free _ q2 rfl
        obtain ⟨u,r,lk⟩:=hl j x v q1 hj (.inr (.inl kc))
        refine ⟨u,r,?_⟩
        rcases lk with ⟨k1,_⟩ | ⟨_,c,e,z⟩
        · have:X.env.scope.names.lookup x=some .local:=k1
          rw [kc] at this;cases this
        · obtain ⟨c',hc',hd'⟩:=hfr' x q2
          rw [e] at hd';cases hd'
          have kx:(compEnvC scope (nw++cl) C X.env).kindOf x=some .cell∨(compEnvC scope (nw++cl) C X.env).kindOf x=some .free∨(compEnvC scope (nw++cl) C X.env).kindOf x=some .local:=by
            rcases h3 with z | z | z
            · exact .inr (.inr z)
            · exact .inl z
            · exact .inr (.inl z)
          rcases kx with kx | kx | kx
          · exact .inr ⟨.inl kx,c,hc',let ⟨o,ho,hd⟩:=z;⟨o,hk c o ho,hd⟩⟩
          · exact .inr ⟨.inr kx,c,hc',let ⟨o,ho,hd⟩:=z;⟨o,hk c o ho,hd⟩⟩
          · exfalso
            have kl:(relabel scope X.env).names.lookup x=some .local:=kx
            have ml:=PySem.mem_of_lookup kl
            obtain ⟨⟨n,k⟩,hm,e2⟩:=List.mem_map.mp ml
            have e2:(if (k == NameKind.free && X.env.scope.kind == .function && X.env.kindOf n == some .cell)=true then (n,NameKind.cell) else (n,k))=(x,NameKind.local):=e2
            split at e2
            · cases e2
            · cases e2
              have a1:=S.names _ hm rfl
              have a3:scope.names.lookup x=some .free:=S.fst _ q2 rfl
              have a1:scope.names.lookup x=some .local:=a1
              rw [a3] at a1;cases a1
  · rcases hlk x c e with ⟨a1,_⟩ | ⟨_,a2⟩
    · exact ⟨none,(hw.empty x c a1).1⟩
    · obtain ⟨v,o,ho,hd⟩:=I.cell x c a2
      exact ⟨v,o,hk c o ho,hd⟩
  · rcases hlk x c e with ⟨_,a2⟩ | ⟨_,a2⟩
    · exact I.hok.fresh (Nat.le_trans hC (Nat.le_of_lt a2))
    · exact I.freeC x c a2
  · show (qbN cap σ).length=N'.length
    unfold qbN
    rw [List.length_map,S.len]
theorem qcC {pins:List (Addr × Obj)} {σ:St} {H2:Hp} {s2:Shared} {it:Addr} {fp:List Addr} {tn:Nat→Heap→Prop} {J:It} {cl:List (Str × Addr)} {RR:Value→Addr→Result→Shared→Prop} {E:Value→Shared→Prop} (hcalm:X.calm=true) (S:CompScope X.N X.env.scope scope N' cap)
    (hg:∀ (cl:List (Str × Addr)) (C:Addr) (s0:Shared) (H0:Hp),PG (qaB X scope N' cl C s0 H0 fp) tg g) (ht:∀ (cl:List (Str × Addr)) (C:Addr) (s0:Shared) (H0:Hp),qid (qaB X scope N' cl C s0 H0 fp) ifs tc) (he:∀ (cl:List (Str × Addr)) (C:Addr) (s0:Shared) (H0:Hp),PE (qaB X scope N' cl C s0 H0 fp) elt te)
    (I2:Inv X pins σ H2 s2) (T:Turn X.prog X.w X.K tg J fp it tn) (st2:tn 0 s2.heap) (f2:∀ b∈fp,qdi X pins H2 b)
    (hcl:∀ x c,cl.lookup x=some c→X.env.cells.lookup x=some c) (hfr:∀ x,(x,NameKind.free)∈scope.names→∃ c,cl.lookup x=some c)
    {P:V→Hp→Prop}
    (w:∀ D,H2 D=none→∃ W:Nat→Nat→St→Hp→Prop,(∃ m,W 0 m (qbN cap σ) (upd H2 D (.lst []))) ∧
      ∀ i m σ' H',W i m σ' H'→(J.stop i H'∧P (.ref D) H')∨(J.go i H'∧∃ N:St→Hp→Prop,(∀ σ2 H2,N σ2 H2→∃ m',m'<m∧W (i+1) m' σ2 H2) ∧
        ∀ x H2,J.yld i H' x H2→g x σ' H2 fun σ3 H3=>tc σ3 H3 fun b H4=>if b=true then te σ3 H4 fun y H5=>∃ ys,H5 D=some (.lst ys)∧ys.length<sizeLine∧N σ3 (upd H5 D (.lst (ys++[y]))) else N σ3 H4))
    (hRR:∀ D C H' s' m',X.env.locals≠C→X.s₀.heap.objs.size≤C→(∀ x c,X.env.cells.lookup x=some c→c≠C)→(∀ p∈X.pn++pins,p.1≠C)→H' C=none→s'.heap.Ns C m'→Inv X pins σ H' s'→P (.ref D) H'→RR (.ref D) C (.ok .next) s') :
    wpAny (model X.prog X.w) X.A (newList []) (fun acc s₃=>wpAny (model X.prog X.w) X.A (newFunctionEnv scope X.env.globals cl [] X.env.qual none .none (some X.env)) (fun cenv s₄ =>
      codeAny (model X.prog X.w) X.A (.compStart (.ListComp elt [⟨tg,iter,ifs,0⟩] scope pos) 0 (.ref it) acc { cenv with scope:=relabel scope X.env }) (RR acc cenv.locals) s₄) E s₃) E s2:=by
  refine wpAny_newObj_type ?_ (by show 0≤sizeLine;decide)
  have I3:Inv X pins σ (upd H2 s2.heap.objs.size (.lst [])) { s2 with heap:=s2.heap.push { cls:=.type "list",data:=.seq ([]:List Value).toArray } }:=I2.lnew (t':=s2.toks) .nil (by show 0≤sizeLine;decide)
  have k3:∀ b o,s2.heap.get? b=some o→(s2.heap.push { cls:=.type "list",data:=.seq ([]:List Value).toArray }).get? b=some o:=fun b o e=>Heap.get?_push_of_some _ e
  have z3:(s2.heap.push { cls:=.type "list",data:=.seq ([]:List Value).toArray }).objs.size=s2.heap.objs.size+1:=Heap.size_push ..
  have hD0:H2 s2.heap.objs.size=none:=I2.fresh
  generalize hs3:({ s2 with heap:=s2.heap.push { cls:=.type "list",data:=.seq ([]:List Value).toArray } }:Shared)=s3 at I3 ⊢
  have eh3:s3.heap=s2.heap.push { cls:=.type "list",data:=.seq ([]:List Value).toArray }:=by rw [← hs3]
  have eo3:s3.os=s2.os:=by rw [← hs3]
  generalize hDD:s2.heap.objs.size=D at I3 hD0 z3 ⊢
  rw [← eh3] at k3 z3
  have live:∀ b∈fp,∃ o,s2.heap.get? b=some o∧∀ v,o.data≠.cell v:=fun b hb=>T.obj 0 _ st2 b hb
  have ltD:∀ b∈fp,b<D:=fun b hb=>by obtain ⟨o,e,_⟩:=live b hb;rw [← hDD];exact Heap.lt_size e
  have f3:∀ b∈fp,qdi X pins (upd H2 D (.lst [])) b:=fun b hb=>⟨by rw [qad (Nat.ne_of_lt (ltD b hb))];exact (f2 b hb).1,(f2 b hb).2⟩
  refine qgz fun h4 hn4 k4 ok4=>?_
  generalize hnw:cellsFrom (s3.heap.objs.size+1) scope.names []=nw at ok4 ⊢
  have st4:tn 0 h4:=T.keep 0 _ _ st2 fun b _ o e=>k4 b o (k3 b o e)
  have I4:Inv (qaB X scope N' (nw++cl) s3.heap.objs.size s3 (upd H2 D (.lst [])) fp) [] (qbN cap σ) (upd H2 D (.lst [])) { s3 with heap:=h4 } :=
    qf5 S I3 hcl hfr (Nat.le_refl _) rfl rfl k4 hn4 f3 (fun b hb=>by rw [z3];exact Nat.lt_succ_of_lt (ltD b hb)) ok4 (fun x c h=>qbg _ _ (hnw ▸ h)) fun x h=>hnw ▸ qcP (S.cel _ h rfl)
  obtain ⟨W,⟨m0,w0⟩,turn⟩:=w D hD0
  have fpY:∀ {H':Hp},(∀ b∈fp,H' b=none)→∀ b∈fp,qdi (qaB X scope N' (nw++cl) s3.heap.objs.size s3 (upd H2 D (.lst [])) fp) [] H' b:=fun hn b hb =>
    ⟨hn b hb,Nat.ne_of_lt (by show b<s3.heap.objs.size;rw [z3];exact Nat.lt_succ_of_lt (ltD b hb)),fun hf=>I4.ok.exfs b hb hf,.inl hb,fun x c e=>(I4.ok.exf b hb).2 x c e,fun p hp=>absurd (show p∈([]:List (Addr × Obj)) from hp) (by simp)⟩
  have loop:∀ s₃:Shared,s₃={ s3 with heap:=h4 } →
      codeAny (model X.prog X.w) X.A (.compLoop (.ListComp elt [⟨tg,iter,ifs,0⟩] scope pos) 0 (.ref it) (.ref D) (compEnvC scope (nw++cl) s3.heap.objs.size X.env)) (RR (.ref D) s3.heap.objs.size) s₃:=by
    rintro s₃ rfl
    refine qd3 (fun n s'=>∃ i σ' H',Inv (qaB X scope N' (nw++cl) s3.heap.objs.size s3 (upd H2 D (.lst [])) fp) [] σ' H' s'∧tn i s'.heap∧(∀ b∈fp,H' b=none)∧W i n σ' H') ?_ m0
      ⟨0,qbN cap σ,upd H2 D (.lst []),I4,st4,fun b hb=>(f3 b hb).1,w0⟩
    rintro n s5 ⟨i,σ5,H5,I5,st5,fr5,w5⟩
    rcases turn i n σ5 H5 w5 with ⟨stop,qn⟩ | ⟨go,N,hN,step⟩
    · refine thn (T.done (qaB X scope N' (nw++cl) s3.heap.objs.size s3 (upd H2 D (.lst [])) fp) rfl rfl rfl hcalm i [] s5 σ5 H5 _ I5 (fpY fr5) st5 stop) fun r s6 hq0=>?_
      obtain ⟨hr,I6⟩:=hq0
      subst hr
      obtain ⟨m6,hn6,_⟩:=I6.loc
      have un:Un (frs X.stack) fp (upd H2 D (.lst [])) H5 s3.heap s6.heap:=I6.base
      refine hRR D s3.heap.objs.size H5 s6 m6 (Nat.ne_of_lt I3.lt) I3.sz (fun x c e=>?_) (fun p hp=>?_) I6.free hn6 ?_ qn
      · obtain ⟨v,q⟩:=I3.cell x c e
        exact Nat.ne_of_lt q.lt
      · exact Nat.ne_of_lt (Heap.lt_size (I3.pin p hp).1)
      · exact I3.call' I6.os un I6.hok I6.bare fun b hb=>⟨(f3 b hb).2.2.2.1,(f3 b hb).2.1,(f3 b hb).2.2.2.2.1,(f3 b hb).2.2.2.2.2⟩
    · refine thn (T.item (qaB X scope N' (nw++cl) s3.heap.objs.size s3 (upd H2 D (.lst [])) fp) rfl rfl rfl hcalm i [] s5 σ5 H5 (fun _ _=>False) I5 (fpY fr5) st5 go) fun r s6 hq1=>?_
      obtain ⟨u,hr,h6⟩:=hq1
      subst hr
      refine thn h6 fun _ s7 hq2=>?_
      obtain ⟨x,H7,I7,r7,y7,st7,fr7⟩:=hq2
      have I7':=I7.pinned (fpY fr7) (T.obj _ _ st7)
      refine thn (hg _ _ _ _ _ s7 σ5 H7 x u _ I7' r7 (step x H7 y7)) fun _ s8 hq3=>?_
      obtain ⟨σ8,H8,I8,q8⟩:=hq3
      refine thn (ht _ _ _ _ _ s8 σ8 H8 _ I8 q8) fun b s9 hq4=>?_
      obtain ⟨H9,I9,q9⟩:=hq4
      have again:∀ {σ9:St} {H9:Hp} {s9:Shared},Inv (qaB X scope N' (nw++cl) s3.heap.objs.size s3 (upd H2 D (.lst [])) fp) ([]++qdb fp s7.heap) σ9 H9 s9→N σ9 H9→∃ m,m<n∧∃ i σ' H',Inv (qaB X scope N' (nw++cl) s3.heap.objs.size s3 (upd H2 D (.lst [])) fp) [] σ' H' s9∧tn i s9.heap∧(∀ b∈fp,H' b=none)∧W i m σ' H':=fun {σ9 H9 s9} I9 n9=>by
        obtain ⟨m',hm,w9⟩:=hN σ9 H9 n9
        refine ⟨m',hm,i+1,σ9,H9,I9.unpinned,T.keep _ _ _ st7 fun b hb o e=>(I9.pin (b,o) (List.mem_append_right _ (List.mem_append_right _ (qbs hb e)))).1,fun b hb=>?_,w9⟩
        obtain ⟨o,e,d⟩:=T.obj _ _ st7 b hb
        exact (I9.pin (b,o) (List.mem_append_right _ (List.mem_append_right _ (qbs hb e)))).2.1
      cases b with
      | false =>
        rw [if_neg (by decide)] at q9 ⊢
        exact again I9 q9
      | true =>
        rw [if_pos rfl] at q9 ⊢
        refine thn (he _ _ _ _ _ s9 σ8 H9 _ I9 q9) fun yv s10 hq5=>?_
        obtain ⟨y,H10,I10,r10,ys,hD10,hz10,q10⟩:=hq5
        refine thn (qdf _ s10 σ8 H10 (.ref D) [y] (.ref D) [yv] (fun _ H'=>N σ8 H') I10 rfl (.cons r10 .nil) ⟨D,ys,y,rfl,rfl,hD10,hz10,q10⟩) fun _ s11 hq6=>?_
        obtain ⟨_,H11,I11,_,q11⟩:=hq6
        exact again I11 q11
  exact codeAny_compStart_list (loop _ rfl) (T.self _ 0 _ _ _ st4 (loop _ rfl))
theorem qhq (hcalm:X.calm=true) (S:CompScope X.N X.env.scope scope N' cap) (hi:PI X tg iter wi)
    (hg:∀ (cl:List (Str × Addr)) (fp:List Addr) (C:Addr) (s0:Shared) (H0:Hp),PG (qaB X scope N' cl C s0 H0 fp) tg g) (ht:∀ (cl:List (Str × Addr)) (fp:List Addr) (C:Addr) (s0:Shared) (H0:Hp),qid (qaB X scope N' cl C s0 H0 fp) ifs tc)
    (he:∀ (cl:List (Str × Addr)) (fp:List Addr) (C:Addr) (s0:Shared) (H0:Hp),PE (qaB X scope N' cl C s0 H0 fp) elt te) (hs:∀ x,foldedSetIterable iter X.env x=pure x:=by intro _;rfl) :
    PE X (.ListComp elt [⟨tg,iter,ifs,0⟩] scope pos) (qet wi cap g tc te):=by
  intro pins s σ H Q I h
  obtain ⟨cl,ecl,hcl,hfr⟩:=qbF (scope:=scope) (env:=X.env) fun x hx hf=>I.ok.has x.1 (.inl (S.free x hx hf))
  rw [eval_ListComp]
  refine wpAny_comprehension_free (use:=none) rfl hs ecl S.kind S.names (thn (hi pins s σ H _ I h) fun v s1 h1=>thn h1 fun itv s2 h2=>?_)
  obtain ⟨it,fp,tn,J,H2,e,I2,T,st2,f2,w⟩:=h2
  subst e
  refine qcC (RR:=fun acc C=>compPost (model X.prog X.w) X.A X.xe none (EP X pins σ Q) acc C) hcalm S (fun cl=>hg cl fp) (fun cl=>ht cl fp) (fun cl=>he cl fp) I2 T st2 f2 hcl hfr (P:=Q) w ?_
  intro D C H' s' m' hL hz hcc hpp hC hn I' q
  refine ⟨m',hn,fun h' hs'=>⟨.ref D,H',I'.turned (t':=s'.toks) (fun b o hb e=>(hs'.2 b hb).trans e) hC (Ne.symm hL) (.inr hz) hcc hpp,rfl,q⟩⟩
theorem qhx {i:Nat} {y:Str} {py spos:Pos} (hcalm:X.calm=true) (hN:X.N.Nodup) (hy:X.N[i]?=some y) (hx:Loc X.env.scope y) (S:CompScope X.N X.env.scope scope N' cap) (hi:PI X tg iter wi)
    (hg:∀ (cl:List (Str × Addr)) (fp:List Addr) (C:Addr) (s0:Shared) (H0:Hp),PG (qaB X scope N' cl C s0 H0 fp) tg g) (ht:∀ (cl:List (Str × Addr)) (fp:List Addr) (C:Addr) (s0:Shared) (H0:Hp),qid (qaB X scope N' cl C s0 H0 fp) ifs tc)
    (he:∀ (cl:List (Str × Addr)) (fp:List Addr) (C:Addr) (s0:Shared) (H0:Hp),PE (qaB X scope N' cl C s0 H0 fp) elt te) (hsw:swapsWith (.ListComp elt [⟨tg,iter,ifs,0⟩] scope pos) (some (.Name y py)) spos.line X.env=pure true:=by rfl)
    (hs:∀ x,foldedSetIterable iter X.env x=pure x:=by intro _;rfl) (hf:X.fn y=true∨X.env.scope.names.lookup y=some .local:=by first | exact .inl rfl | exact .inr rfl | assumption) :
    PS X (.Assign [.Name y py] (.ListComp elt [⟨tg,iter,ifs,0⟩] scope pos) spos) (qhZ (qet wi cap g tc te) (qd7 i)):=by
  intro pins s σ H D I h
  obtain ⟨cl,ecl,hcl,hfr⟩:=qbF (scope:=scope) (env:=X.env) fun x hx hf=>I.ok.has x.1 (.inl (S.free x hx hf))
  rw [exec_Assign_Name_used _ _ _ _ hsw]
  refine wpAny_bind (wpAny_standAt (wpAny_bind ?_))
  show wpAny _ X.A (do let _ ← comprehension (.ListComp elt [⟨tg,iter,ifs,0⟩] scope pos) scope X.env _ (newList []) false (eval iter X.env) (some (assign (.Name y py) X.env))) _ _ s
  refine wpAny_bind (wpAny_mono (wpAny_comprehension_free (use:=some (assign (.Name y py) X.env)) (Q:=fun _ s'=>SP X pins D .next s') rfl hs ecl S.kind S.names
    (thn (hi pins s σ H _ I h) fun v s1 h1=>thn h1 fun itv s2 h2=>?_)) (fun _ s' hq=>wpAny_pure (wpAny_pure hq)) fun _ _ e=>e)
  obtain ⟨it,fp,tn,J,H2,e,I2,T,st2,f2,w⟩:=h2
  subst e
  refine qcC (RR:=fun acc C=>compPost (model X.prog X.w) X.A X.xe (some (assign (.Name y py) X.env)) (fun _ s'=>SP X pins D .next s') acc C) hcalm S (fun cl=>hg cl fp) (fun cl=>ht cl fp) (fun cl=>he cl fp) I2 T st2 f2 hcl hfr (P:=fun v H'=>D.nx (σ.set i (some v)) H') w ?_
  intro Dd C H' s' m' hL hz hcc hpp hC hn I' q
  show wpAny _ X.A (assign (.Name y py) X.env (.ref Dd)) _ _ s'
  refine wpAny_assign_Name (qci (v:=.ref Dd) I' hN hy hx rfl (fun s'' I'' hsb=>?_) hf)
  obtain ⟨a,sb,ha⟩:=hsb
  have hCa:C≠a:=by
    rcases ha with z | z
    · rw [z];exact Ne.symm hL
    · exact Ne.symm (hcc y a z)
  refine ⟨m',hn.sameBut sb hCa,fun h' hs'=>?_⟩
  exact ⟨_,H',I''.turned (t':=s''.toks) (fun b o hb e=>(hs'.2 b hb).trans e) hC (Ne.symm hL) (.inr hz) hcc hpp,q⟩
end
open AutoSeq1 (wpAny_loadPart')
theorem Inv.turnedL {X:Cx} {pins:List (Addr × Obj)} {σ:St} {H:Hp} {s:Shared} {h':Heap} {ch:List Addr} {t':Nat} (I:Inv X pins σ H s) (k:∀ b o,b∉ch→s.heap.get? b=some o→h'.get? b=some o) (hf:∀ b∈ch,qdi X pins H b) :
    Inv X pins σ H { s with heap:=h',toks:=t' }:=by
  have nit:∀ b u,H b=some u→b∉ch:=fun b u e z=>by rw [(hf b z).1] at e;cases e
  refine I.step (g':=s.gens) (d':=s.drawn) (ch:=ch) (fun b hb=>⟨(hf b hb).2.2.2.1,(hf b hb).2.1,(hf b hb).2.2.2.2.1,(hf b hb).2.2.2.2.2⟩) (fun b o _ _ hc e _=>k b o hc e) (fun b o _ _ hc e _=>⟨o.slots,k b o hc e⟩) (fun _ _ _ _ n=>n)
    (fun b o hc e=>⟨o,k b o hc e⟩) (fun _ _ e=>e) (fun _ _ _ e=>e) (fun b ps e=>e) (fun m hm=>?_) (fun b u e=>?_) I.bare
  · obtain ⟨o,es,ep,ho,r⟩:=hm
    exact ⟨o,es,ep,k _ o (fun z=>(hf _ z).2.1 rfl) ho,r⟩
  · refine (I.hok b u e).stay (fun c v hc q=>k c v ?_ q) (fun _ q=>q) (fun _ _ q=>q) fun _ _ _ q=>q
    rcases hc with z | z
    · rw [z];exact nit b u e
    · exact nit c _ z
def SqI (b:Bool) (h:Heap) (it a:Addr) (i:Nat):Prop:=match b with | true=>h.IsListIter it a i | false=>h.IsTupleIter it a i
def SqO (b:Bool) (h:Heap) (a:Addr) (its:Array Value):Prop:=match b with | true=>h.IsList a its | false=>h.IsTuple a its
def SqB (K:PySem.W.Frag) (b:Bool) (H:Hp) (a:Addr) (xs:List V):Prop:=match b with | true=>SqL K H a xs | false=>SqT K H a xs
def qaS (b:Bool) (a:Addr):Obj:=match b with
  | true=>{ cls:=.type "list_iterator",data:=.fields #[.ref a,.int 0 0] }
  | false=>{ cls:=.type "tuple_iterator",data:=.fields #[.ref a,.int 0 0] }
theorem SqI.at {b:Bool} {h h':Heap} {it a:Addr} {i:Nat} (x:SqI b h it a i) (k:∀ o,h.get? it=some o→h'.get? it=some o):SqI b h' it a i:=by
  cases b <;> (obtain ⟨o,e,r⟩:=x;exact ⟨o,k o e,r⟩)
theorem SqO.at {b:Bool} {h h':Heap} {a:Addr} {its:Array Value} (x:SqO b h a its) (k:∀ o,h.get? a=some o→h'.get? a=some o):SqO b h' a its:=by
  cases b <;> (obtain ⟨o,e,r⟩:=x;exact ⟨o,k o e,r⟩)
theorem SqI.obj {b:Bool} {h:Heap} {it a:Addr} {i:Nat} (x:SqI b h it a i):∃ o,h.get? it=some o∧∀ v,o.data≠.cell v:=by
  cases b <;> (obtain ⟨o,e,_,d⟩:=x;exact ⟨o,e,fun v z=>by rw [d] at z;cases z⟩)
theorem SqI.lt {b:Bool} {h:Heap} {it a:Addr} {i:Nat} (x:SqI b h it a i):it<h.objs.size:=by obtain ⟨o,e,_⟩:=x.obj;exact Heap.lt_size e
theorem Inv.sqb {X:Cx} {pins:List (Addr × Obj)} {σ:St} {H:Hp} {s:Shared} {b:Bool} {a:Addr} {xs:List V} (I:Inv X pins σ H s) (h:SqB X.K b H a xs):∃ its:List Value,Vals xs its∧SqO b s.heap a its.toArray∧xs.length≤sizeLine:=by
  cases b with
  | true=>obtain ⟨its,rv,p,hz⟩:=I.list h;exact ⟨its,rv,p.isList,hz⟩
  | false=>obtain ⟨its,rv,p,hz⟩:=I.tuple h;exact ⟨its,rv,p,hz⟩
theorem Inv.sqb_inj {X:Cx} {pins:List (Addr × Obj)} {σ:St} {H:Hp} {s:Shared} {b:Bool} {a:Addr} {xs ys:List V} (I:Inv X pins σ H s) (h:SqB X.K b H a xs) (h':SqB X.K b H a ys):xs=ys:=by
  cases b with
  | true=>exact I.list_inj h h'
  | false=>exact I.tuple_inj h h'
theorem SqB.same {K:PySem.W.Frag} {b:Bool} {H H':Hp} {a:Addr} {xs:List V} (e:Same H H') (h:SqB K b H a xs):SqB K b H' a xs:=by
  cases b with
  | true=>exact e.seq h
  | false =>
    rcases h with (h | ⟨o,h⟩) | h
    · exact .inl (.inl (e _ _ h))
    · exact .inl (.inr ⟨o,e _ _ h⟩)
    · exact .inr h
section
variable {prog : Program} {w : World} {A : Around} {E : Value → Shared → Prop} {s : Shared}
theorem qfy {b:Bool} {a:Addr} {its:Array Value} {Q:Value→Shared→Prop} (h:SqO b s.heap a its) (q:Q (.ref s.heap.objs.size) { s with heap:=s.heap.push (qaS b a) }):wpAny (model prog w) A (pyIter (.ref a)) Q E s:=by
  cases b with
  | true=>exact wpAny_pyIter_list h q
  | false=>exact wpAny_pyIter_tuple h q
theorem qcS {b:Bool} {h:Heap} {it a:Addr} (e:h.get? it=some (qaS b a)):SqI b h it a 0:=by
  cases b <;> exact ⟨_,e,rfl,rfl⟩
theorem qc0 {b:Bool} {it a:Addr} {i:Nat} {its:Array Value} {x:Value} {Q:Value→Shared→Prop} (hit:SqI b s.heap it a i) (hl:SqO b s.heap a its) (hx:its[i]?=some x)
    (hQ:∀ h',SqI b h' it a (i+1)→Heap.SameBut it s.heap h'→Q x { s with heap:=h' }):wpAny (model prog w) A (Builtin.SmallTypes.nextOf (.ref it)) Q E s:=by
  cases b with
  | true=>exact wpAny_nextOf_list_item hit hl hx hQ
  | false =>
    have hit:s.heap.IsTupleIter it a i:=hit
    obtain ⟨o,ho,hc,hd⟩:=id hit
    obtain ⟨ol,hol,_,nl,hdl⟩:=hl
    unfold Builtin.SmallTypes.nextOf
    refine wpAny_bind (wpAny_callSpecial?_slot (name:=Str.ofString "__next__") hit.typeIs F.slot_tuple_iterator_next (wpAny_call_entry F.slot_tuple_iterator_next hit.typeIs F.entry_tuple_iterator_next ?_ (F.args_tuple_iterator_next_1 _)))
    show wpAny _ _ (field (.ref it) 0 >>= _) _ _ s
    refine wpAny_bind (wpAny_field ho hd (x:=.ref a) rfl ?_)
    show wpAny _ _ (if (Value.ref a == Value.none)=true then _ else _) _ _ s
    rw [if_neg (show ¬ ((Value.ref a == Value.none)=true) from Bool.false_ne_true)]
    show wpAny _ _ (field (.ref it) 1 >>= _) _ _ s
    refine wpAny_bind (wpAny_field ho hd (x:=.int i 0) rfl ?_)
    show wpAny _ _ (seqItems? (.ref a) >>= _) _ _ s
    refine wpAny_bind (wpAny_seqItems hol hdl ?_)
    simp only [Int.toNat_natCast,hx]
    refine wpAny_bind (wpAny_setField ho hd (by simp) (wpAny_pure ⟨x,rfl,wpAny_pure (hQ _ ?_ (Heap.SameBut.update ..))⟩))
    exact ⟨_,Heap.get?_update_self _ ho (Obj.isFreed_of_fields (Obj.data_mapFields hd _)),(Obj.cls_mapFields ..).trans hc,by rw [Obj.data_mapFields hd];simp [rawInt]⟩
theorem qep {b:Bool} {it a:Addr} {i:Nat} {its:Array Value} {Q:Value→Shared→Prop} (hh:A.handled=none) (hit:SqI b s.heap it a i) (hl:SqO b s.heap a its) (hx:its[i]?=none)
    (hE:∀ h' e,Heap.ExtBut it s.heap h'→(∃ o,h'.get? e=some o∧o.cls=.type "StopIteration")→E (.ref e) { s with heap:=h' }):wpAny (model prog w) A (Builtin.SmallTypes.nextOf (.ref it)) Q E s:=by
  cases b with
  | true=>exact wpAny_nextOf_list_end hh hit hl hx hE
  | false =>
    have hit:s.heap.IsTupleIter it a i:=hit
    obtain ⟨o,ho,hc,hd⟩:=id hit
    obtain ⟨ol,hol,_,nl,hdl⟩:=hl
    unfold Builtin.SmallTypes.nextOf
    refine wpAny_bind (wpAny_callSpecial?_slot (name:=Str.ofString "__next__") hit.typeIs F.slot_tuple_iterator_next (wpAny_call_entry F.slot_tuple_iterator_next hit.typeIs F.entry_tuple_iterator_next ?_ (F.args_tuple_iterator_next_1 _)))
    show wpAny _ _ (field (.ref it) 0 >>= _) _ _ s
    refine wpAny_bind (wpAny_field ho hd (x:=.ref a) rfl ?_)
    show wpAny _ _ (if (Value.ref a == Value.none)=true then _ else _) _ _ s
    rw [if_neg (show ¬ ((Value.ref a == Value.none)=true) from Bool.false_ne_true)]
    show wpAny _ _ (field (.ref it) 1 >>= _) _ _ s
    refine wpAny_bind (wpAny_field ho hd (x:=.int i 0) rfl ?_)
    show wpAny _ _ (seqItems? (.ref a) >>= _) _ _ s
    refine wpAny_bind (wpAny_seqItems hol hdl ?_)
    simp only [Int.toNat_natCast,hx]
    refine wpAny_bind (wpAny_rule (wpAny_bind (wpAny_setField ho hd (by simp) ?_)))
    show wpAny _ _ (newExc (.type "StopIteration") [] >>= _) _ _ _
    refine wpAny_bind ?_
    simp only [newExc,newTuple]
    refine wpAny_bind (wpAny_newObj_type ?_ (by size_fits))
    refine wpAny_bind (m:=firstArgMember _ _) (wpAny_of_eq (a:=Value.none) (by first | rfl | (simp only [firstArgMember];rfl)) ?_)
    refine wpAny_newObj_type ?_ (by size_fits)
    simp only [raiseNew]
    refine wpAny_bind (wpAny_handled ?_)
    first | rw [show A.in1.handled=none from hh] | rw [hh]
    refine wpAny_bind (wpAny_pure (wpAny_throw ?_))
    exact hE _ _ (((Heap.SameBut.update ..).extBut.push _).push _) ⟨_,Heap.get?_push_size _ rfl,rfl⟩
theorem qgA (hh:A.handled=none) (b:Bool) (it a:Addr) (hne:a≠it) (its:Array Value):Draws prog w A it [it,a] its.size (fun i v=>its[i]?=some v) (fun i h=>SqI b h it a i∧SqO b h a its) where
  live:=fun _ _ st=>let ⟨o,e,_⟩:=st.1.obj;⟨o,e⟩
  frame:=fun _ _ _ st k=>⟨st.1.at fun o e=>k it (by simp) o e,st.2.at fun o e=>k a (by simp) o e⟩
  item:=fun i s Q E hi st hQ=>qc0 st.1 st.2 (x:=its[i]) (by simp [hi]) fun h' q sb=>hQ _ h' s.toks (by simp [hi]) ⟨q,st.2.at fun o e=>(sb.2 a hne).trans e⟩ sb
  done:=fun s Q E st hE=>qep hh st.1 st.2 (by simp) hE
theorem qfU (l:Addr) (items:Array Value) (n:Nat) (dct:Option Addr) (sl:Array (Option Value)) :
    Meets (Builtin.«enumerate.__new__» ⟨[.type "enumerate",.ref l],[]⟩) (fun _ R s=>s.heap.get? l=some { cls:=.type "tuple",dict:=dct,data:=.seq items n,slots:=sl } ∧
      R (.ok (.ret (.ref (s.heap.push (qaS false l)).objs.size)))
        { s with heap:=(s.heap.push (qaS false l)).push { cls:=.type "enumerate",data:=.fields #[.none,.bool false,.ref s.heap.objs.size,rawInt 0,.none,.none] } }) :=
  .of_wp fun prog w A R s h=>by
    obtain ⟨hp,g,d,tk,os⟩:=s;obtain ⟨hl,h⟩:=h
    have hsub:=sub_enumerate
    have hL:Heap.IsTuple (Shared.heap ⟨hp,g,d,tk,os⟩) l items:=⟨_,hl,rfl,n,rfl⟩
    wp_walk using wpAny_loadPart' hl
    refine wpAny_stack_any fun st=>wpAny_pure ?_
    split
    · rename_i c _ _ _ _ _
      cases (c == Value.type "enumerate")
      · (wp_walk using wpAny_loadPart' hl,wpAny_pyIter_tuple hL);exact ⟨_,rfl,h⟩
      · (wp_walk using wpAny_loadPart' hl,wpAny_pyIter_tuple hL);exact ⟨_,rfl,h⟩
    · (wp_walk using wpAny_loadPart' hl,wpAny_pyIter_tuple hL);exact ⟨_,rfl,h⟩
theorem qfa {b:Bool} {l:Addr} {items:Array Value} {Q:Value→Shared→Prop} (hL:SqO b s.heap l items)
    (h:∀ h',IsEnum h' (s.heap.objs.size+1) s.heap.objs.size 0 .none→SqI b h' s.heap.objs.size l 0→h'.objs.size=s.heap.objs.size+2→(∀ b o,s.heap.get? b=some o→h'.get? b=some o)→Q (.ref (s.heap.objs.size+1)) { s with heap:=h' }) :
    wpAny (model prog w) A (call (.type "enumerate") [.ref l]) Q E s:=by
  cases b with
  | true=>exact call_enumerate_list hL h
  | false =>
    obtain ⟨⟨c,dct,dt,sl⟩,hl,hc,n,hd⟩:=hL
    replace hc:c=.type "tuple":=hc
    replace hd:dt=.seq items n:=hd
    subst hc hd
    refine callType_new F.called_enumerate (by decide) (F.typeCall_enumerate_1 _) (F.newCall_enumerate_1 _) (fun obj=>F.args_object_init_2 obj _) F.entry_enumerate_new (qfU l items n dct sl) ⟨hl,?_⟩
    have hz:(s.heap.push (qaS false l)).objs.size=s.heap.objs.size+1:=Heap.size_push ..
    show _∧_
    rw [hz]
    have he:=Heap.get?_push_size (s.heap.push (qaS false l)) (o:={ cls:=.type "enumerate",data:=.fields #[.none,.bool false,.ref s.heap.objs.size,rawInt 0,.none,.none] }) rfl
    rw [hz] at he
    have hi:(s.heap.push (qaS false l)).get? s.heap.objs.size=some (qaS false l):=Heap.get?_push_size _ rfl
    exact ⟨⟨_,he,rfl⟩,h _ he (qcS (Heap.get?_push_of_some _ hi)) (by rw [Heap.size_push,hz]) fun b o x=>Heap.get?_push_of_some _ (Heap.get?_push_of_some _ x)⟩
theorem qgK {b:Bool} {e it a:Addr} {i:Nat} {j:Int} {its:Array Value} {old:Value} {Q:Option Value→Shared→Prop} (hh:A.handled=none) (he:IsEnum s.heap e it j old) (hit:SqI b s.heap it a i) (hl:SqO b s.heap a its) (hx:its[i]?=none)
    (hQ:∀ h',Heap.ExtBut it s.heap h'→Q none { s with heap:=h' }):wpAny (model prog w) A (pyNext (.ref e)) Q E s:=by
  have hT:s.TypeIs (.ref e) "enumerate":=⟨_,he,rfl⟩
  unfold pyNext
  refine wpAny_bind (wpAny_attempt (wpAny_callSpecial?_slot (name:=Str.ofString "__next__") hT F.slot_enumerate_next (wpAny_call_entry F.slot_enumerate_next hT F.entry_enumerate_next ?_ (F.args_enumerate_next_1 _))))
  show wpAny _ _ (field (.ref e) 2 >>= _) _ _ _
  refine wpAny_bind (wpAny_field he rfl (x:=.ref it) rfl (wpAny_bind (qep hh hit hl hx fun h' x he' hx'=>?_)))
  obtain ⟨o,ho,hc⟩:=hx'
  exact wpAny_bind (wpAny_isInstance (T:="StopIteration") (b:=true) ⟨o,ho,hc⟩ isSubtype_stop (wpAny_pure (hQ _ he')))
end
def Ite (K:PySem.W.Frag) (b:Bool) (a:Addr):It :=
  ⟨fun i H=>∃ xs x,SqB K b H a xs∧xs[i]?=some x,fun i H x H'=>∃ t y,H t=none∧x=.ref t∧H'=upd H t (.tup [.int i,y])∧∀ xs,SqB K b H a xs→xs[i]?=some y,fun i H=>∃ xs,SqB K b H a xs∧xs.length≤i⟩
theorem qfE {P:Program} {w:World} {K:PySem.W.Frag} {es:List Expr} {k:Nat} {pos:Pos} (b:Bool) (a e it:Addr) (hei:e≠it):Turn P w K (.Tuple es k pos) (Ite K b a) [e,it] e (fun i h=>(∃ old,IsEnum h e it i old)∧SqI b h it a i) where
  mem:=by simp
  obj:=fun i h st c hc=>by
    obtain ⟨⟨old,he⟩,hs⟩:=st
    rcases List.mem_cons.mp hc with rfl | hc
    · exact ⟨_,he,fun v z=>by have z':Data.fields _=Data.cell v:=z;cases z'⟩
    · rw [List.mem_singleton.mp hc];exact hs.obj
  keep:=fun i h h' st k=>by
    obtain ⟨⟨old,he⟩,hs⟩:=st
    exact ⟨⟨old,k e (by simp) _ he⟩,hs.at fun o q=>k it (by simp) o q⟩
  item:=by
    intro X hP hw hK hc i pins s σ H E I hf st hg
    subst hP hw hK
    obtain ⟨xs,x,hq,hx⟩:=hg
    obtain ⟨⟨old,he⟩,hs⟩:=st
    obtain ⟨its,rv,p,hz⟩:=I.sqb hq
    obtain ⟨u,hu,ru⟩:=rv.get hx
    have hne:a≠it:=fun z=>by
      subst z
      have h1:=p;have h2:=hs
      cases b <;> (obtain ⟨o1,e1,c1,_⟩:=h1;obtain ⟨o2,e2,c2,_⟩:=h2;rw [e1] at e2;cases e2;rw [c1] at c2;exact absurd c2 (by simp))
    have hne2:a≠e:=fun z=>by
      subst z
      have h1:=p
      cases b <;> (obtain ⟨o1,e1,c1,_⟩:=h1;rw [he] at e1;cases e1;exact absurd c1 (by simp))
    have hil:i<its.toArray.size:=by
      have:i<its.length:=(List.getElem?_eq_some_iff.mp hu).1
      simpa using this
    have hh:X.A.in1.handled=none:=I.ok.hd hc
    refine wpAny_pyNext_enum_itemD (qgA hh b it a hne its.toArray) he ⟨hs,p⟩ hil hei (by simp [hei,Ne.symm hne2]) fun y h' tk hP' ho hst hT hsz hk=>?_
    have hy:y=u:=by
      have:its.toArray[i]?=some u:=by simpa using hu
      rw [this] at hP';exact (Option.some.inj hP').symm
    subst hy
    refine ⟨.ref s.heap.objs.size,rfl,wpAny_letOwnedTupleGo_enum ho fun h2 he2 hs2=>?_⟩
    have zn:H s.heap.objs.size=none:=I.fresh
    have I1:Inv X pins σ (upd H s.heap.objs.size (.tup [.int i,x])) { s with heap:=s.heap.push { cls:=.type "tuple",data:=.seq #[.int i tk,y] },toks:=tk } :=
      I.laid (fun c o q=>Heap.get?_push_of_some _ q) (Nat.le_refl _) ⟨by show 2≤sizeLine;decide,[.int i tk,y],.cons ⟨tk,rfl⟩ (.cons ru .nil),_,Heap.get?_push_size _ rfl,⟨rfl,rfl⟩,0,rfl⟩
    have lts:∀ c∈[e,it],c<s.heap.objs.size:=fun c hc=>by
      rcases List.mem_cons.mp hc with rfl | hc
      · exact Heap.lt_size he
      · rw [List.mem_singleton.mp hc];exact hs.lt
    have f1:∀ c∈[e,it],qdi X pins (upd H s.heap.objs.size (.tup [.int i,x])) c:=fun c hc=>⟨by rw [qad (Nat.ne_of_lt (lts c hc))];exact (hf c hc).1,(hf c hc).2⟩
    have I2:=I1.turnedL (h':=h2) (ch:=[e,it]) (t':=tk+1) (fun c o hc q=>?_) f1
    · refine ⟨.ref s.heap.objs.size,_,I2,rfl,⟨s.heap.objs.size,x,zn,rfl,rfl,fun ys hy=>by rw [I.sqb_inj hy hq];exact hx⟩,⟨⟨_,by simpa using he2⟩,hst.1.at fun o q=>(hs2.2 it (Ne.symm hei)).trans q⟩,fun c hc=>(f1 c hc).1⟩
    · have hce:c≠e:=fun z=>hc (by simp [z])
      have hci:c≠it:=fun z=>hc (by simp [z])
      refine (hs2.2 c hce).trans ?_
      rcases Heap.get?_push_cases q with ⟨z,z'⟩ | q'
      · subst z;subst z';exact hT
      · exact hk c o hce hci q'
  done:=by
    intro X hP hw hK hc i pins s σ H E I hf st hg
    subst hP hw hK
    obtain ⟨xs,hq,hx⟩:=hg
    obtain ⟨⟨old,he⟩,hs⟩:=st
    obtain ⟨its,rv,p,hz⟩:=I.sqb hq
    have hl:=rv.length
    refine qgK (I.ok.hd hc) he hs p (by simp;omega) fun h' eb=>⟨rfl,?_⟩
    exact I.turnedL (ch:=[e,it]) (t':=s.toks) (fun c o hc q=>eb c o (fun z=>hc (by simp [z])) q) hf
  self:=fun _ _ _ _ _ st h=>by obtain ⟨⟨old,he⟩,_⟩:=st;exact wpAny_pyIter_enum he h
end L2
namespace L2
open PySem PySem.Spec PyProof.Rows
open AutoSeq1 (wpAny_loadPart')
section
variable {X : Cx}
end
structure ZAp (z TI TO i1 i2:Addr):Prop where
  a1:TI≠z
  a2:TO≠z
  a3:i1≠z
  a4:i2≠z
  a5:TI≠TO
  a6:TI≠i1
  a7:TI≠i2
  a8:TO≠i1
  a9:TO≠i2
  a0:i1≠i2
theorem SqI.but {b:Bool} {h h':Heap} {it a c:Addr} {i:Nat} (x:SqI b h it a i) (s:Heap.SameBut c h h') (n:it≠c):SqI b h' it a i:=x.at fun o e=>(s.2 it n).trans e
theorem SqO.but {b:Bool} {h h':Heap} {a c:Addr} {its:Array Value} (x:SqO b h a its) (s:Heap.SameBut c h h') (n:a≠c):SqO b h' a its:=x.at fun o e=>(s.2 a n).trans e
theorem SqO.ne {b:Bool} {h:Heap} {a c:Addr} {its:Array Value} {o:Obj} (x:SqO b h a its) (e:h.get? c=some o) (n1:o.cls≠.type "list") (n2:o.cls≠.type "tuple"):a≠c:=fun z=>by
  subst z
  cases b <;> (obtain ⟨o',e',c',_⟩:=x;rw [e] at e';cases e')
  · exact n2 c'
  · exact n1 c'
theorem SqO.ne_it {b b':Bool} {h:Heap} {a it l:Addr} {its:Array Value} {i:Nat} (x:SqO b h a its) (y:SqI b' h it l i):a≠it:=by
  cases b' <;> (obtain ⟨o,e,c,_⟩:=y;exact x.ne e (by rw [c];simp) (by rw [c];simp))
section
variable {prog : Program} {w : World} {A : Around} {E : Value → Shared → Prop} {s : Shared}
theorem qgE {b1 b2:Bool} {z TI TO i1 i2 l1 l2:Addr} {k1 k2:Nat} {xs ys:Array Value} {x y a b:Value} {Q:Value→Shared→Prop} (D:ZAp z TI TO i1 i2)
    (hz:IsZip s.heap z TI TO .none) (hTI:IsPair s.heap TI (.ref i1) (.ref i2)) (hTO:IsPair s.heap TO a b) (n1:l1≠TO) (n2:l2≠TO)
    (h1:SqI b1 s.heap i1 l1 k1) (h2:SqI b2 s.heap i2 l2 k2) (hl1:SqO b1 s.heap l1 xs) (hl2:SqO b2 s.heap l2 ys) (hx:xs[k1]?=some x) (hy:ys[k2]?=some y)
    (hQ:∀ h',IsZip h' z TI TO (rawInt s.heap.objs.size)→IsPair h' TO x y→SqI b1 h' i1 l1 (k1+1)→SqI b2 h' i2 l2 (k2+1)→IsPair h' s.heap.objs.size x y→h'.objs.size=s.heap.objs.size+1 →
      (∀ c o,c∉[z,TO,i1,i2]→s.heap.get? c=some o→h'.get? c=some o)→Q (.ref s.heap.objs.size) { s with heap:=h' }) :
    wpAny (model prog w) A (Builtin.«zip.__next__» ⟨[.ref z],[]⟩) (fun fin s'=>∃ v,fin=.done (.ret v)∧Q v s') E s:=by
  have l1z:l1≠z:=hl1.ne hz (by simp) (by simp)
  have l2z:l2≠z:=hl2.ne hz (by simp) (by simp)
  have l2i1:l2≠i1:=hl2.ne_it h1
  show wpAny _ _ (field (.ref z) 2 >>= _) _ _ _
  refine wpAny_bind (wpAny_field hz rfl (x:=.bool false) rfl ?_)
  show wpAny _ _ (field (.ref z) 3 >>= _) _ _ _
  refine wpAny_bind (wpAny_field hz rfl (x:=.ref TI) rfl (wpAny_bind (wpAny_seqItems hTI rfl ?_)))
  show wpAny _ _ (Builtin.SmallTypes.ownedTupleIsFree (.ref z) >>= _) _ _ _
  refine wpAny_bind ?_
  unfold Builtin.SmallTypes.ownedTupleIsFree
  refine wpAny_bind (wpAny_field hz rfl (x:=.none) rfl (wpAny_pure ?_))
  simp only [if_true]
  refine wpAny_bind (wpAny_rule (wpAny_bind (wpAny_field hz rfl (x:=.ref TO) rfl (wpAny_bind (wpAny_setField_rec hz (by simp) fun g1 z1 s1=>?_)))))
  replace z1:IsZip g1 z TI TO .ellipsis:=z1
  refine wpAny_bind ?_
  simp only [List.zipIdx_cons,List.zipIdx_nil,List.forIn_cons,List.forIn_nil]
  refine wpAny_bind (wpAny_bind (wpAny_onRaise ?_))
  show wpAny _ _ (Builtin.SmallTypes.nextOf (.ref i1) >>= _) _ _ _
  refine wpAny_bind (qc0 (h1.but s1 D.a3) (hl1.but s1 l1z) hx fun g2 p2 s2=>wpAny_pure ?_)
  have t2:IsPair g2 TO a b:=s2.extBut _ _ D.a8 (s1.extBut _ _ D.a2 hTO)
  refine wpAny_bind (wpAny_seqItems t2 rfl (wpAny_bind (wpAny_updateSeq_pair t2 fun g3 t3 s3=>wpAny_bind (wpAny_letGo (wpAny_pure ?_)))))
  replace t3:IsPair g3 TO x b:=t3
  refine wpAny_bind (wpAny_bind (wpAny_onRaise ?_))
  show wpAny _ _ (Builtin.SmallTypes.nextOf (.ref i2) >>= _) _ _ _
  refine wpAny_bind (qc0 (((h2.but s1 D.a4).but s2 D.a0.symm).but s3 D.a9.symm) (((hl2.but s1 l2z).but s2 l2i1).but s3 n2) hy fun g4 p4 s4=>wpAny_pure ?_)
  have t4:IsPair g4 TO x b:=s4.extBut _ _ D.a9 t3
  refine wpAny_bind (wpAny_seqItems t4 rfl (wpAny_bind (wpAny_updateSeq_pair t4 fun g5 t5 s5=>wpAny_bind (wpAny_letGo (wpAny_pure (wpAny_pure ?_))))))
  replace t5:IsPair g5 TO x y:=t5
  refine wpAny_bind (wpAny_seqItems t5 rfl (wpAny_bind (wpAny_newTuple ?_)))
  have sz:g5.objs.size=s.heap.objs.size:=by rw [s5.1,s4.1,s3.1,s2.1,s1.1]
  have z5:IsZip g5 z TI TO .ellipsis:=s5.extBut _ _ D.a2.symm (s4.extBut _ _ D.a4.symm (s3.extBut _ _ D.a2.symm (s2.extBut _ _ D.a3.symm z1)))
  have k5:∀ c o,c∉[z,TO,i1,i2]→s.heap.get? c=some o→g5.get? c=some o:=fun c o hc e=>by
    have c1:c≠z:=fun q=>hc (by simp [q])
    have c2:c≠TO:=fun q=>hc (by simp [q])
    have c3:c≠i1:=fun q=>hc (by simp [q])
    have c4:c≠i2:=fun q=>hc (by simp [q])
    exact s5.extBut _ _ c2 (s4.extBut _ _ c4 (s3.extBut _ _ c2 (s2.extBut _ _ c3 (s1.extBut _ _ c1 e))))
  have q1:SqI b1 g5 i1 l1 (k1+1):=((p2.but s3 D.a8.symm).but s4 D.a0).but s5 D.a8.symm
  have q2:SqI b2 g5 i2 l2 (k2+1):=p4.but s5 D.a9.symm
  show wpAny _ _ (Builtin.SmallTypes.ownedTupleHandOut (.ref z) (.ref g5.objs.size) >>= _) _ _ _
  refine wpAny_bind ?_
  unfold Builtin.SmallTypes.ownedTupleHandOut
  have z6:IsZip (g5.push { cls:=.type "tuple",data:=.seq #[x,y] }) z TI TO .ellipsis:=Heap.get?_push_of_some _ z5
  refine wpAny_bind (wpAny_setField_rec z6 (by simp) fun g7 z7 s7=>?_)
  replace z7:IsZip g7 z TI TO (rawInt g5.objs.size):=z7
  refine wpAny_setField_rec z7 (by simp) fun g8 z8 s8=>?_
  replace z8:IsZip g8 z TI TO (rawInt g5.objs.size):=z8
  have up:∀ c o,c≠z→g5.get? c=some o→g8.get? c=some o:=fun c o c1 e=>s8.extBut _ _ c1 (s7.extBut _ _ c1 (Heap.get?_push_of_some _ e))
  have zl:g5.objs.size≠z:=Nat.ne_of_gt (Heap.lt_size z5)
  have t8:IsPair g8 g5.objs.size x y:=s8.extBut _ _ zl (s7.extBut _ _ zl (Heap.get?_push_size _ rfl))
  have e8:g8.objs.size=g5.objs.size+1:=by rw [s8.1,s7.1,Heap.size_push]
  rw [sz] at z8 t8 e8
  refine wpAny_pure ⟨_,rfl,?_⟩
  show Q (.ref g5.objs.size) _
  rw [sz]
  exact hQ g8 z8 (up _ _ D.a2 t5) (q1.at fun o e=>up _ o D.a3 e) (q2.at fun o e=>up _ o D.a4 e) t8 e8 fun c o hc e=>up c o (fun q=>hc (by simp [q])) (k5 c o hc e)
theorem qhR {b1 b2:Bool} {z TI TO i1 i2 l1 l2:Addr} {k1 k2:Nat} {xs ys:Array Value} {a b:Value} {Q:Fin→Shared→Prop} (hh:A.handled=none) (D:ZAp z TI TO i1 i2)
    (hz:IsZip s.heap z TI TO .none) (hTI:IsPair s.heap TI (.ref i1) (.ref i2)) (hTO:IsPair s.heap TO a b) (n1:l1≠TO) (n2:l2≠TO)
    (h1:SqI b1 s.heap i1 l1 k1) (h2:SqI b2 s.heap i2 l2 k2) (hl1:SqO b1 s.heap l1 xs) (hl2:SqO b2 s.heap l2 ys) (hend:xs[k1]?=none∨ys[k2]?=none)
    (hE:∀ h' e,(∀ c o,c∉[z,TO,i1,i2]→s.heap.get? c=some o→h'.get? c=some o)→(∃ o,h'.get? e=some o∧o.cls=.type "StopIteration")→E (.ref e) { s with heap:=h' }) :
    wpAny (model prog w) A (Builtin.«zip.__next__» ⟨[.ref z],[]⟩) Q E s:=by
  have l1z:l1≠z:=hl1.ne hz (by simp) (by simp)
  have l2z:l2≠z:=hl2.ne hz (by simp) (by simp)
  have l2i1:l2≠i1:=hl2.ne_it h1
  show wpAny _ _ (field (.ref z) 2 >>= _) _ _ _
  refine wpAny_bind (wpAny_field hz rfl (x:=.bool false) rfl ?_)
  show wpAny _ _ (field (.ref z) 3 >>= _) _ _ _
  refine wpAny_bind (wpAny_field hz rfl (x:=.ref TI) rfl (wpAny_bind (wpAny_seqItems hTI rfl ?_)))
  show wpAny _ _ (Builtin.SmallTypes.ownedTupleIsFree (.ref z) >>= _) _ _ _
  refine wpAny_bind ?_
  unfold Builtin.SmallTypes.ownedTupleIsFree
  refine wpAny_bind (wpAny_field hz rfl (x:=.none) rfl (wpAny_pure ?_))
  simp only [if_true]
  refine wpAny_bind (wpAny_rule (wpAny_bind (wpAny_field hz rfl (x:=.ref TO) rfl (wpAny_bind (wpAny_setField_rec hz (by simp) fun g1 z1 s1=>?_)))))
  replace z1:IsZip g1 z TI TO .ellipsis:=z1
  refine wpAny_bind ?_
  simp only [List.zipIdx_cons,List.zipIdx_nil,List.forIn_cons,List.forIn_nil]
  refine wpAny_bind (wpAny_bind (wpAny_onRaise ?_))
  show wpAny _ _ (Builtin.SmallTypes.nextOf (.ref i1) >>= _) _ _ _
  cases hx:xs[k1]? with
  | none =>
    refine wpAny_bind (qep hh (h1.but s1 D.a3) (hl1.but s1 l1z) hx fun g2 e s2 he=>?_)
    obtain ⟨oe,hoe,hce⟩:=he
    have z2:IsZip g2 z TI TO .ellipsis:=s2 _ _ D.a3.symm z1
    have ez:e≠z:=fun q=>by subst q;rw [z2] at hoe;cases hoe;simp at hce
    refine wpAny_setField_rec z2 (by simp) fun g3 _ s3=>hE g3 e (fun c o hc q=>?_) ⟨oe,s3.extBut _ _ ez hoe,hce⟩
    have c1:c≠z:=fun q=>hc (by simp [q])
    exact s3.extBut _ _ c1 (s2 _ _ (fun q=>hc (by simp [q])) (s1.extBut _ _ c1 q))
  | some x =>
    have hy:ys[k2]?=none:=by
      rcases hend with h | h
      · rw [hx] at h;cases h
      · exact h
    refine wpAny_bind (qc0 (h1.but s1 D.a3) (hl1.but s1 l1z) hx fun g2 p2 s2=>wpAny_pure ?_)
    have t2:IsPair g2 TO a b:=s2.extBut _ _ D.a8 (s1.extBut _ _ D.a2 hTO)
    refine wpAny_bind (wpAny_seqItems t2 rfl (wpAny_bind (wpAny_updateSeq_pair t2 fun g3 t3 s3=>wpAny_bind (wpAny_letGo (wpAny_pure ?_)))))
    refine wpAny_bind (wpAny_bind (wpAny_onRaise ?_))
    show wpAny _ _ (Builtin.SmallTypes.nextOf (.ref i2) >>= _) _ _ _
    refine wpAny_bind (qep hh (((h2.but s1 D.a4).but s2 D.a0.symm).but s3 D.a9.symm) (((hl2.but s1 l2z).but s2 l2i1).but s3 n2) hy fun g4 e s4 he=>?_)
    obtain ⟨oe,hoe,hce⟩:=he
    have z4:IsZip g4 z TI TO .ellipsis:=s4 _ _ D.a4.symm (s3.extBut _ _ D.a2.symm (s2.extBut _ _ D.a3.symm z1))
    have ez:e≠z:=fun q=>by subst q;rw [z4] at hoe;cases hoe;simp at hce
    refine wpAny_setField_rec z4 (by simp) fun g5 _ s5=>hE g5 e (fun c o hc q=>?_) ⟨oe,s5.extBut _ _ ez hoe,hce⟩
    have c1:c≠z:=fun q=>hc (by simp [q])
    exact s5.extBut _ _ c1 (s4 _ _ (fun q=>hc (by simp [q])) (s3.extBut _ _ (fun q=>hc (by simp [q])) (s2.extBut _ _ (fun q=>hc (by simp [q])) (s1.extBut _ _ c1 q))))
theorem qhb (b1 b2:Bool) (l1 l2:Addr) (xs ys:Array Value) :
    Meets (Builtin.«zip.__new__» ⟨[.type "zip",.ref l1,.ref l2],[]⟩) (fun _ R s=>SqO b1 s.heap l1 xs∧SqO b2 s.heap l2 ys ∧
      R (.ok (.ret (.ref (s.heap.objs.size+4)))) { s with heap:=((((s.heap.push (qaS b1 l1)).push (qaS b2 l2)).push { cls:=.type "tuple",data:=.seq #[.ref s.heap.objs.size,.ref (s.heap.objs.size+1)] }).push { cls:=.type "tuple",data:=.seq #[.none,.none] }).push { cls:=.type "zip",data:=.fields #[.none,.bool false,.bool false,.ref (s.heap.objs.size+2),.ref (s.heap.objs.size+3)] } }) :=
  .of_wp fun prog w A R s h=>by
    obtain ⟨hp,g,d,tk,os⟩:=s;obtain ⟨hl1,hl2,h⟩:=h
    have hsub:=sub_zip
    have hL1:SqO b1 (Shared.heap ⟨hp,g,d,tk,os⟩) l1 xs:=hl1
    have hL2:SqO b2 (Shared.heap ⟨hp.push (qaS b1 l1),g,d,tk,os⟩) l2 ys:=SqO.at hl2 fun o e=>Heap.get?_push_of_some _ e
    wp_walk using qfy hL1,qfy hL2
    have e1:(hp.push (qaS b1 l1)).objs.size=hp.objs.size+1:=Heap.size_push ..
    have e2:((hp.push (qaS b1 l1)).push (qaS b2 l2)).objs.size=hp.objs.size+2:=by rw [Heap.size_push,e1]
    refine ⟨_,rfl,?_⟩
    simp only [Heap.size_push]
    exact h
theorem qgd {b1 b2:Bool} {l1 l2:Addr} {xs ys:Array Value} {Q:Value→Shared→Prop} (hl1:SqO b1 s.heap l1 xs) (hl2:SqO b2 s.heap l2 ys)
    (h:∀ h',IsZip h' (s.heap.objs.size+4) (s.heap.objs.size+2) (s.heap.objs.size+3) .none→IsPair h' (s.heap.objs.size+2) (.ref s.heap.objs.size) (.ref (s.heap.objs.size+1))→IsPair h' (s.heap.objs.size+3) .none .none →
      SqI b1 h' s.heap.objs.size l1 0→SqI b2 h' (s.heap.objs.size+1) l2 0→(∀ c o,s.heap.get? c=some o→h'.get? c=some o)→Q (.ref (s.heap.objs.size+4)) { s with heap:=h' }) :
    wpAny (model prog w) A (call (.type "zip") [.ref l1,.ref l2]) Q E s:=by
  refine callType_new F.called_zip (by decide) (F.typeCall_zip_2 _ _) (F.newCall_zip_2 _ _) (fun obj=>F.args_object_init_3 obj _ _) F.entry_zip_new (qhb b1 b2 l1 l2 xs ys) ⟨hl1,hl2,?_⟩
  have f1:(qaS b1 l1).isFreed=false:=by cases b1 <;> rfl
  have f2:(qaS b2 l2).isFreed=false:=by cases b2 <;> rfl
  have z1:(s.heap.push (qaS b1 l1)).objs.size=s.heap.objs.size+1:=Heap.size_push ..
  have z2:((s.heap.push (qaS b1 l1)).push (qaS b2 l2)).objs.size=s.heap.objs.size+2:=by rw [Heap.size_push,z1]
  generalize hg2:(s.heap.push (qaS b1 l1)).push (qaS b2 l2)=g2 at z2 ⊢
  have e0:g2.get? s.heap.objs.size=some (qaS b1 l1):=by rw [← hg2];exact Heap.get?_push_of_some _ (Heap.get?_push_size _ f1)
  have e1:g2.get? (s.heap.objs.size+1)=some (qaS b2 l2):=by rw [← hg2,← z1];exact Heap.get?_push_size _ f2
  have k2:∀ c o,s.heap.get? c=some o→g2.get? c=some o:=fun c o q=>by rw [← hg2];exact Heap.get?_push_of_some _ (Heap.get?_push_of_some _ q)
  generalize hg3:g2.push { cls:=.type "tuple",data:=.seq #[.ref s.heap.objs.size,.ref (s.heap.objs.size+1)] }=g3
  have z3:g3.objs.size=s.heap.objs.size+3:=by rw [← hg3,Heap.size_push,z2]
  have e2:IsPair g3 (s.heap.objs.size+2) (.ref s.heap.objs.size) (.ref (s.heap.objs.size+1)):=by rw [← hg3,← z2];exact Heap.get?_push_size _ rfl
  have k3:∀ c o,g2.get? c=some o→g3.get? c=some o:=fun c o q=>by rw [← hg3];exact Heap.get?_push_of_some _ q
  generalize hg4:g3.push { cls:=.type "tuple",data:=.seq #[.none,.none] }=g4
  have z4:g4.objs.size=s.heap.objs.size+4:=by rw [← hg4,Heap.size_push,z3]
  have e3:IsPair g4 (s.heap.objs.size+3) .none .none:=by rw [← hg4,← z3];exact Heap.get?_push_size _ rfl
  have k4:∀ c o,g3.get? c=some o→g4.get? c=some o:=fun c o q=>by rw [← hg4];exact Heap.get?_push_of_some _ q
  generalize hg5:g4.push { cls:=.type "zip",data:=.fields #[.none,.bool false,.bool false,.ref (s.heap.objs.size+2),.ref (s.heap.objs.size+3)] }=g5
  have e4:IsZip g5 (s.heap.objs.size+4) (s.heap.objs.size+2) (s.heap.objs.size+3) .none:=by rw [← hg5,← z4];exact Heap.get?_push_size _ rfl
  have k5:∀ c o,g4.get? c=some o→g5.get? c=some o:=fun c o q=>by rw [← hg5];exact Heap.get?_push_of_some _ q
  show _∧_
  exact ⟨⟨_,e4,rfl⟩,h _ e4 (k5 _ _ (k4 _ _ e2)) (k5 _ _ e3) (qcS (k5 _ _ (k4 _ _ (k3 _ _ e0)))) (qcS (k5 _ _ (k4 _ _ (k3 _ _ e1)))) fun c o q=>k5 _ _ (k4 _ _ (k3 _ _ (k2 _ _ q)))⟩
theorem qfu {b1 b2:Bool} {z TI TO i1 i2 l1 l2:Addr} {k1 k2:Nat} {xs ys:Array Value} {x y a b:Value} {Q:Option Value→Shared→Prop} (D:ZAp z TI TO i1 i2)
    (hz:IsZip s.heap z TI TO .none) (hTI:IsPair s.heap TI (.ref i1) (.ref i2)) (hTO:IsPair s.heap TO a b) (n1:l1≠TO) (n2:l2≠TO)
    (h1:SqI b1 s.heap i1 l1 k1) (h2:SqI b2 s.heap i2 l2 k2) (hl1:SqO b1 s.heap l1 xs) (hl2:SqO b2 s.heap l2 ys) (hx:xs[k1]?=some x) (hy:ys[k2]?=some y)
    (hQ:∀ h',IsZip h' z TI TO (rawInt s.heap.objs.size)→IsPair h' TO x y→SqI b1 h' i1 l1 (k1+1)→SqI b2 h' i2 l2 (k2+1)→IsPair h' s.heap.objs.size x y→h'.objs.size=s.heap.objs.size+1 →
      (∀ c o,c∉[z,TO,i1,i2]→s.heap.get? c=some o→h'.get? c=some o)→Q (some (.ref s.heap.objs.size)) { s with heap:=h' }):wpAny (model prog w) A (pyNext (.ref z)) Q E s:=by
  have hT:s.TypeIs (.ref z) "zip":=⟨_,hz,rfl⟩
  unfold pyNext
  exact wpAny_bind (wpAny_attempt (wpAny_callSpecial?_slot (name:=Str.ofString "__next__") hT F.slot_zip_next (wpAny_call_entry F.slot_zip_next hT F.entry_zip_next
    (qgE D hz hTI hTO n1 n2 h1 h2 hl1 hl2 hx hy fun h' c1 c2 c3 c4 c5 c6 c7=>wpAny_pure (hQ h' c1 c2 c3 c4 c5 c6 c7)) (F.args_zip_next_1 _))))
theorem qgu {b1 b2:Bool} {z TI TO i1 i2 l1 l2:Addr} {k1 k2:Nat} {xs ys:Array Value} {a b:Value} {Q:Option Value→Shared→Prop} (hh:A.handled=none) (D:ZAp z TI TO i1 i2)
    (hz:IsZip s.heap z TI TO .none) (hTI:IsPair s.heap TI (.ref i1) (.ref i2)) (hTO:IsPair s.heap TO a b) (n1:l1≠TO) (n2:l2≠TO)
    (h1:SqI b1 s.heap i1 l1 k1) (h2:SqI b2 s.heap i2 l2 k2) (hl1:SqO b1 s.heap l1 xs) (hl2:SqO b2 s.heap l2 ys) (hend:xs[k1]?=none∨ys[k2]?=none)
    (hQ:∀ h',(∀ c o,c∉[z,TO,i1,i2]→s.heap.get? c=some o→h'.get? c=some o)→Q none { s with heap:=h' }):wpAny (model prog w) A (pyNext (.ref z)) Q E s:=by
  have hT:s.TypeIs (.ref z) "zip":=⟨_,hz,rfl⟩
  unfold pyNext
  refine wpAny_bind (wpAny_attempt (wpAny_callSpecial?_slot (name:=Str.ofString "__next__") hT F.slot_zip_next (wpAny_call_entry F.slot_zip_next hT F.entry_zip_next (qhR hh D hz hTI hTO n1 n2 h1 h2 hl1 hl2 hend fun h' e hk he=>?_) (F.args_zip_next_1 _))))
  obtain ⟨o,ho,hc⟩:=he
  exact wpAny_bind (wpAny_isInstance (T:="StopIteration") (b:=true) ⟨o,ho,hc⟩ isSubtype_stop (wpAny_pure (hQ _ hk)))
end
theorem Inv.sqb_ne {X:Cx} {pins:List (Addr × Obj)} {σ:St} {H:Hp} {s:Shared} {b:Bool} {a c:Addr} {xs:List V} (I:Inv X pins σ H s) (h:SqB X.K b H a xs) (f:qdi X pins H c):a≠c:=fun z=>by
  subst z
  have nk:∀ o,X.K.lookup a=some o→False:=fun o e=>by
    have e':=I.mod.kin a o e
    rcases f.2.2.2.1 with q | q
    · exact I.ok.noex a o e' q
    · exact absurd (Nat.lt_of_lt_of_le (Heap.lt_size e') (Nat.le_trans I.ok.bsz q)) (Nat.lt_irrefl _)
  cases b with
  | true =>
    rcases h with (h | ⟨o,h⟩) | ⟨o,_,_,h,_⟩
    · rw [f.1] at h;cases h
    · rw [f.1] at h;cases h
    · exact nk o h
  | false =>
    rcases h with (h | ⟨o,h⟩) | ⟨o,_,_,h,_⟩
    · rw [f.1] at h;cases h
    · rw [f.1] at h;cases h
    · exact nk o h
def Itz (K:PySem.W.Frag) (b1:Bool) (a1:Addr) (b2:Bool) (a2:Addr):It :=
  ⟨fun i H=>∃ xs ys x y,SqB K b1 H a1 xs∧SqB K b2 H a2 ys∧xs[i]?=some x∧ys[i]?=some y,
   fun i H v H'=>∃ t x y,H t=none∧v=.ref t∧H'=upd H t (.tup [x,y])∧(∀ xs,SqB K b1 H a1 xs→xs[i]?=some x)∧∀ ys,SqB K b2 H a2 ys→ys[i]?=some y,
   fun i H=>∃ xs ys,SqB K b1 H a1 xs∧SqB K b2 H a2 ys∧(xs.length≤i∨ys.length≤i)⟩
theorem qgm {P:Program} {w:World} {K:PySem.W.Frag} {es:List Expr} {k:Nat} {pos:Pos} (b1 b2:Bool) (a1 a2 z TI TO i1 i2:Addr) (D:ZAp z TI TO i1 i2) :
    Turn P w K (.Tuple es k pos) (Itz K b1 a1 b2 a2) [z,TI,TO,i1,i2] z (fun i h=>IsZip h z TI TO .none∧IsPair h TI (.ref i1) (.ref i2)∧(∃ a b,IsPair h TO a b)∧SqI b1 h i1 a1 i∧SqI b2 h i2 a2 i) where
  mem:=by simp
  obj:=fun i h st c hc=>by
    obtain ⟨h1,h2,⟨a,b,h3⟩,h4,h5⟩:=st
    simp only [List.mem_cons,List.not_mem_nil,or_false] at hc
    rcases hc with rfl | rfl | rfl | rfl | rfl
    · exact ⟨_,h1,fun v q=>by have q':Data.fields _=Data.cell v:=q;cases q'⟩
    · exact ⟨_,h2,fun v q=>by have q':Data.seq _ _=Data.cell v:=q;cases q'⟩
    · exact ⟨_,h3,fun v q=>by have q':Data.seq _ _=Data.cell v:=q;cases q'⟩
    · exact h4.obj
    · exact h5.obj
  keep:=fun i h h' st k=>by
    obtain ⟨h1,h2,⟨a,b,h3⟩,h4,h5⟩:=st
    exact ⟨k z (by simp) _ h1,k TI (by simp) _ h2,⟨a,b,k TO (by simp) _ h3⟩,h4.at fun o q=>k i1 (by simp) o q,h5.at fun o q=>k i2 (by simp) o q⟩
  item:=by
    intro X hP hw hK hc i pins s σ H E I hf st hg
    subst hP hw hK
    obtain ⟨xs,ys,x,y,hq1,hq2,hx,hy⟩:=hg
    obtain ⟨h1,h2,⟨a,b,h3⟩,h4,h5⟩:=st
    obtain ⟨its1,rv1,p1,_⟩:=I.sqb hq1
    obtain ⟨its2,rv2,p2,_⟩:=I.sqb hq2
    obtain ⟨u,hu,ru⟩:=rv1.get hx
    obtain ⟨v,hv,rv⟩:=rv2.get hy
    refine qfu D h1 h2 h3 (I.sqb_ne hq1 (hf TO (by simp))) (I.sqb_ne hq2 (hf TO (by simp))) h4 h5 p1 p2 (x:=u) (y:=v) (by simpa using hu) (by simpa using hv) fun h' z1 z2 z3 z4 z5 z6 hk=>?_
    refine ⟨.ref s.heap.objs.size,rfl,wpAny_letOwnedTupleGo_zip z1 fun g2 zz hs2=>?_⟩
    have zn:H s.heap.objs.size=none:=I.fresh
    have I1:Inv X pins σ (upd H s.heap.objs.size (.tup [x,y])) { s with heap:=s.heap.push { cls:=.type "tuple",data:=.seq #[u,v] },toks:=s.toks } :=
      I.laid (fun c o q=>Heap.get?_push_of_some _ q) (Nat.le_refl _) ⟨by show 2≤sizeLine;decide,[u,v],.cons ru (.cons rv .nil),_,Heap.get?_push_size _ rfl,⟨rfl,rfl⟩,0,rfl⟩
    have lts:∀ c∈[z,TI,TO,i1,i2],c<s.heap.objs.size:=fun c hc=>by
      simp only [List.mem_cons,List.not_mem_nil,or_false] at hc
      rcases hc with rfl | rfl | rfl | rfl | rfl
      · exact Heap.lt_size h1
      · exact Heap.lt_size h2
      · exact Heap.lt_size h3
      · exact h4.lt
      · exact h5.lt
    have f1:∀ c∈[z,TI,TO,i1,i2],qdi X pins (upd H s.heap.objs.size (.tup [x,y])) c:=fun c hc=>⟨by rw [qad (Nat.ne_of_lt (lts c hc))];exact (hf c hc).1,(hf c hc).2⟩
    have I2:=I1.turnedL (h':=g2) (ch:=[z,TI,TO,i1,i2]) (t':=s.toks) (fun c o hc q=>?_) f1
    · refine ⟨.ref s.heap.objs.size,_,I2,rfl,⟨s.heap.objs.size,x,y,zn,rfl,rfl,fun xs' hy'=>by rw [I.sqb_inj hy' hq1];exact hx,fun ys' hy'=>by rw [I.sqb_inj hy' hq2];exact hy⟩,
        ⟨zz,hs2.extBut _ _ D.a1 (hk TI _ (by simp [D.a1,D.a5,D.a6,D.a7]) h2),⟨_,_,hs2.extBut _ _ D.a2 z2⟩,z3.but hs2 D.a3,z4.but hs2 D.a4⟩,fun c hc=>(f1 c hc).1⟩
    · have hcz:c≠z:=fun e=>hc (by simp [e])
      refine (hs2.2 c hcz).trans ?_
      rcases Heap.get?_push_cases q with ⟨e,e'⟩ | q'
      · subst e;subst e';exact z5
      · exact hk c o (fun e=>hc (by
          simp only [List.mem_cons,List.not_mem_nil,or_false] at e ⊢
          rcases e with e | e | e | e
          · exact .inl e
          · exact .inr (.inr (.inl e))
          · exact .inr (.inr (.inr (.inl e)))
          · exact .inr (.inr (.inr (.inr e))))) q'
  done:=by
    intro X hP hw hK hc i pins s σ H E I hf st hg
    subst hP hw hK
    obtain ⟨xs,ys,hq1,hq2,hend⟩:=hg
    obtain ⟨h1,h2,⟨a,b,h3⟩,h4,h5⟩:=st
    obtain ⟨its1,rv1,p1,_⟩:=I.sqb hq1
    obtain ⟨its2,rv2,p2,_⟩:=I.sqb hq2
    have l1:=rv1.length
    have l2:=rv2.length
    have he:its1.toArray[i]?=none∨its2.toArray[i]?=none:=by
      rcases hend with q | q
      · exact .inl (by simp;omega)
      · exact .inr (by simp;omega)
    refine qgu (I.ok.hd hc) D h1 h2 h3 (I.sqb_ne hq1 (hf TO (by simp))) (I.sqb_ne hq2 (hf TO (by simp))) h4 h5 p1 p2 he fun h' hk=>⟨rfl,?_⟩
    refine I.turnedL (ch:=[z,TI,TO,i1,i2]) (t':=s.toks) (fun c o hc q=>hk c o (fun e=>hc ?_) q) hf
    simp only [List.mem_cons,List.not_mem_nil,or_false] at e ⊢
    rcases e with e | e | e | e
    · exact .inl e
    · exact .inr (.inr (.inl e))
    · exact .inr (.inr (.inr (.inl e)))
    · exact .inr (.inr (.inr (.inr e)))
  self:=fun _ _ _ _ _ st h=>wpAny_pyIter_zip st.1 h
theorem zap (n:Nat):ZAp (n+4) (n+2) (n+3) n (n+1) :=
  ⟨(by omega:n+2≠n+4),(by omega:n+3≠n+4),(by omega:n≠n+4),(by omega:n+1≠n+4),(by omega:n+2≠n+3),(by omega:n+2≠n),(by omega:n+2≠n+1),(by omega:n+3≠n),(by omega:n+3≠n+1),(by omega:n≠n+1)⟩
section
variable {X : Cx}
end
end L2
namespace L2
open PySem PySem.Spec PyProof.Rows
section
variable {X : Cx}
theorem qhd:OpR X (binaryOp .Mult) (rI IntMulOk fun i j=>.int (i*j)):=opI fun _ _ _ _ _ _ _ hc q=>mul_int q hc
def CDivB (i j:Int):Prop:=0<j∧j.natAbs.log2<9000
theorem qgI:OpR X (binaryOp .FloorDiv) (rI CDivB fun i j=>.int (i / j)):=opI fun i j _ _ _ _ _ hc q=>by
  have h1:(0:Int)<j:=hc.1
  exact floordiv_int (by omega) (by rw [Int.fdiv_eq_ediv_of_nonneg i (by omega)];exact q) (.inl (PyProof.noPylong_of_log2 hc.2))
end
theorem qcv {n k:Nat} (hk:0<k) (h:n<2 ^ k):n.log2<k:=by
  rcases Nat.eq_zero_or_pos n with z | z
  · subst z;simpa using hk
  · exact (Nat.log2_lt (Nat.ne_of_gt z)).mpr h
theorem CDivB.of {i j:Int} (h0:0<j) (h:j<2 ^ 9000):CDivB i j:=⟨h0,qcv (by decide) (by
  have e:(j.natAbs:Int)=j:=Int.natAbs_of_nonneg (Int.le_of_lt h0)
  have:(j.natAbs:Int)<((2 ^ 9000:Nat):Int):=by rw [e];exact_mod_cast h
  exact_mod_cast this)⟩
theorem qcu {a:Int} {k:Nat} (hk:0<k) (h:a.natAbs<2 ^ k):Builtin.Int.intBits a≤k:=by
  unfold Builtin.Int.intBits
  split
  · exact Nat.zero_le _
  · exact qcv hk h
theorem qaW {a b:Int} {m n:Nat} (hm:0<m) (hn:0<n) (ha:a.natAbs<2 ^ m) (hb:b.natAbs<2 ^ n) (h:m+n≤134217728):IntMulOk a b:=PyProof.Rows.mulOk_of_bits (qcu hm ha) (qcu hn hb) h
theorem qbB {a b:Int} (h1:-(2 ^ 64)<a) (h2:a<2 ^ 64):IntMulOk a b:=.of_left (intBits_le_64 h1 h2)
theorem qbr {a b:Int} (h1:-(2 ^ 64)<b) (h2:b<2 ^ 64):IntMulOk a b:=.of_right (intBits_le_64 h1 h2)
section
variable {prog : Program} {w : World} {A : Around} {E : Value → Shared → Prop} {s : Shared}
theorem qdq {it t:Addr} {items:Array Value} (hne:t≠it):∀ (n i:Nat) (s:Shared) (Q:List Value→Shared→Prop),s.heap.IsListIter it t i→s.heap.IsList t items→i+n≤items.size →
    (∀ h',h'.IsListIter it t (i+n)→Heap.SameBut it s.heap h'→Q ((items.toList.drop i).take n) { s with heap:=h' })→wpAny (model prog w) A (draw (.ref it) n) Q E s
  | 0,i,s,Q,hit,_,_,hQ=>by
    show wpAny _ _ (pure []) Q E s
    exact wpAny_pure (by simpa using hQ s.heap hit (Heap.SameBut.refl ..))
  | n+1,i,s,Q,hit,ht,hle,hQ=>by
    have hlt:i<items.size:=by omega
    show wpAny _ _ (pyNext (.ref it) >>= _) Q E s
    refine wpAny_bind (wpAny_pyNext_list_item hit ht (x:=items[i]) (by simp [hlt]) fun g1 hit1 s1=>?_)
    refine wpAny_bind (wpAny_holding (qdq hne n (i+1) _ _ hit1 (ht.extBut s1.extBut hne) (by omega) fun g2 hit2 s2=>wpAny_pure ?_))
    have hd:items.toList.drop i=items[i]::items.toList.drop (i+1):=by simp [List.drop_eq_getElem_cons,hlt]
    have:=hQ g2 (by rw [show i+(n+1)=i+1+n by omega];exact hit2) (s1.trans s2)
    rw [hd,List.take_succ_cons] at this
    exact this
theorem qb0 {t:Addr} {items:Array Value} {Q:List Value→Shared→Prop} (hh:A.handled=none) (ht:s.heap.IsList t items)
    (hQ:∀ h',Heap.ExtBut s.heap.objs.size s.heap h'→Q items.toList { s with heap:=h' }):wpAny (model prog w) A (unpackItems (.ref t) items.size none) Q E s:=by
  have hlt:t≠s.heap.objs.size:=by obtain ⟨o,ho,_⟩:=ht;exact Nat.ne_of_lt (Heap.lt_size ho)
  unfold unpackItems
  refine wpAny_bind ?_
  unfold notIterableAtAll
  refine wpAny_bind (wpAny_specialOf ht.typeIs slot_list_iter.lookup (wpAny_pure ?_))
  simp only [Bool.false_eq_true,if_false]
  refine wpAny_bind (wpAny_holding (wpAny_pyIter_list ht (wpAny_bind (wpAny_holding (qdq hlt items.size 0 _ _ ⟨_,Heap.get?_push_size _ rfl,rfl,rfl⟩ (ht.push _) (by omega) fun g1 hit1 s1=>?_)))))
  have hall:List.take items.size (List.drop 0 items.toList)=items.toList:=by
    rw [List.drop_zero];exact List.take_of_length_le (by simp)
  rw [hall,if_neg (by simp)]
  have ht1:g1.IsList t items:=(ht.push _).extBut s1.extBut hlt
  refine wpAny_bind (wpAny_holding (wpAny_pyNext_list_end hh hit1 ht1 (by simp) fun g2 e2=>?_))
  simp only [Option.isSome_none,Bool.false_eq_true,if_false]
  exact wpAny_pure (hQ g2 fun b o hb e=>e2 b o hb (s1.extBut b o hb (Heap.get?_push_of_some _ e)))
end
section
variable {X : Cx} {pos : Pos}
def qkx (K:PySem.W.Frag) (n:Nat) (t:TGs):TG:=fun v σ H Q=>∃ a xs,v=.ref a∧SqL K H a xs∧xs.length=n∧t xs σ H Q
theorem qif {es:List Expr} {k:Nat} {t:TGs} {n:Nat} (hc:X.calm=true) (h:PGs X es t)
    (hn:(assignEach es X.env).length=n:=by rfl) (hst:(assignEach es X.env).findIdx? (·.1)=none:=by rfl):PG X (.Tuple es k pos) (qkx X.K n t):=by
  intro pins s σ H v u Q I r hw
  obtain ⟨a,xs,e1,hq,hl,hw⟩:=hw
  subst e1
  cases r
  obtain ⟨its,rv,ht,hz⟩:=I.list hq
  rw [assign_Tuple]
  refine wpAny_bind (wpAny_standAt ?_)
  unfold unpack
  have e0:(assignEach es X.env).length=its.toArray.size:=by simp [hn,← hl,rv.length]
  rw [e0,hst]
  refine wpAny_bind (wpAny_holding (qb0 (I.ok.hd hc) ht.isList fun h' hx=>?_))
  have I1:Inv X pins σ H { s with heap:=h' }:=I.kept (t':=s.toks) fun b o e=>hx b o (Nat.ne_of_lt (Heap.lt_size e)) e
  exact h pins _ σ H xs _ Q I1 (by simpa using rv) hw
end
inductive IsiV (K:PySem.W.Frag) (H:Hp):V→String→Bool→Prop where
  | int_int (i):IsiV K H (.int i) "int" true
  | int_bool (i):IsiV K H (.int i) "bool" false
  | int_tuple (i):IsiV K H (.int i) "tuple" false
  | int_str (i):IsiV K H (.int i) "str" false
  | bl_int (b):IsiV K H (.bl b) "int" true
  | bl_bool (b):IsiV K H (.bl b) "bool" true
  | bl_tuple (b):IsiV K H (.bl b) "tuple" false
  | str_str (x):IsiV K H (.str x) "str" true
  | str_tuple (x):IsiV K H (.str x) "tuple" false
  | tup_tuple {a xs}:SqT K H a xs→IsiV K H (.ref a) "tuple" true
  | tup_int {a xs}:SqT K H a xs→IsiV K H (.ref a) "int" false
  | lst_tuple {a xs}:SqL K H a xs→IsiV K H (.ref a) "tuple" false
  | lst_list {a xs}:SqL K H a xs→IsiV K H (.ref a) "list" true
def qky (K:PySem.W.Frag):List V→Hp→VK→Prop:=fun vs H Q=>∃ x T b,vs=[x,.ty T]∧IsiV K H x T b∧Q (.bl b) H
theorem qkS {x y:V} {us:List Value} (r:Vals [x,y] us):∃ u v,us=[u,v]∧RelV x u∧RelV y v:=by
  cases r with
  | cons r rr =>
    cases rr with
    | cons r' rr=>cases rr;exact ⟨_,_,rfl,r,r'⟩
theorem qgM {X:Cx}:qcb X (.builtin "isinstance") (qky X.K):=by
  intro pins s σ H xs us Q I r h
  obtain ⟨x,T,b,rfl,hi,q⟩:=h
  obtain ⟨u,v,rfl,ru,rv⟩:=qkS r
  have rv:v=.type T:=rv
  subst rv
  have fin:∀ (c:Bool) (t:Nat),Q (.bl c) H→EP X pins σ Q (.bool c) { s with toks:=t }:=fun c t q=>⟨.bl c,H,I.tok t,rfl,q⟩
  cases hi with
  | int_int i=>obtain ⟨t,rfl⟩:=ru;exact IsiPair.int_int (fin _ s.toks q)
  | int_bool i=>obtain ⟨t,rfl⟩:=ru;exact IsiPair.int_bool (fin _ _ q)
  | int_tuple i=>obtain ⟨t,rfl⟩:=ru;exact IsiPair.int_tuple (fin _ _ q)
  | int_str i=>obtain ⟨t,rfl⟩:=ru;exact IsiPair.int_str (fin _ _ q)
  | bl_int b=>cases ru;exact IsiPair.bool_int (fin _ s.toks q)
  | bl_bool b=>cases ru;exact IsiPair.bool_bool (fin _ s.toks q)
  | bl_tuple b=>cases ru;exact IsiPair.bool_tuple (fin _ _ q)
  | str_str x=>obtain ⟨t,rfl⟩:=ru;exact IsiPair.str_str (fin _ s.toks q)
  | str_tuple x=>obtain ⟨t,rfl⟩:=ru;exact IsiPair.str_tuple (fin _ _ q)
  | tup_tuple h =>
    cases ru
    obtain ⟨its,_,p,_⟩:=I.tuple h
    exact call_isinstance (isinstance_true (Tx:="tuple") F.isi_meta_tuple F.sub_tuple_tuple) ⟨p.typeIs,fin _ s.toks q⟩
  | tup_int h =>
    cases ru
    obtain ⟨its,_,⟨o,e,c,_⟩,_⟩:=I.tuple h
    exact call_isinstance (isinstance_false_tuple (by decide +kernel) F.isi_meta_int F.sub_tuple_int) ⟨⟨o,e,c⟩,fin _ _ q⟩
  | lst_tuple h =>
    cases ru
    obtain ⟨its,_,p,_⟩:=I.list h
    obtain ⟨o,e,c,_⟩:=p.isList
    exact call_isinstance (isinstance_false_list (by decide +kernel) F.isi_meta_tuple F.sub_list_tuple) ⟨⟨o,e,c⟩,fin _ _ q⟩
  | lst_list h =>
    cases ru
    obtain ⟨its,_,p,_⟩:=I.list h
    exact call_isinstance (isinstance_true (Tx:="list") F.isi_meta_list F.sub_list_list) ⟨p.isList.typeIs,fin _ s.toks q⟩
theorem qic (bs:List Bool):(List.range bs.length).all (fun i=>bs.getD i false)=bs.all id:=by
  rw [Bool.eq_iff_iff]
  simp only [List.all_eq_true,List.mem_range,id]
  constructor
  · intro h x hx
    obtain ⟨i,hi,rfl⟩:=List.mem_iff_getElem.mp hx
    have:=h i hi
    simpa [hi] using this
  · intro h i hi
    have:=h bs[i] (List.getElem_mem hi)
    simpa [hi] using this
def qdG (N:List Str) (sc scope:Scope) (N':List Str) (cap:List (Option Nat)):Bool :=
  decide (scope.kind=.function) && scope.names.all (fun x=>decide (x.2=.cell→scope.names.lookup x.1=some .cell)) && scope.names.all (fun x=>decide (x.2=.local→scope.names.lookup x.1=some .local)) &&
    scope.names.all (fun x=>decide (x.2=.free→sc.names.lookup x.1=some .cell∧scope.names.lookup x.1=some .free)) && decide N'.Nodup && decide (cap.length=N'.length) &&
    (cap.zip N').all fun p=>match p.1 with | none=>true | some i=>decide (N[i]?=some p.2∧(p.2,NameKind.free)∈scope.names)
theorem CompScope.ok {N:List Str} {sc scope:Scope} {N':List Str} {cap:List (Option Nat)} (h:qdG N sc scope N' cap=true):CompScope N sc scope N' cap:=by
  unfold qdG at h
  simp only [Bool.and_eq_true,decide_eq_true_eq,List.all_eq_true] at h
  obtain ⟨⟨⟨⟨⟨⟨h1,h2⟩,h3⟩,h4⟩,h5⟩,h6⟩,h7⟩:=h
  refine ⟨h1,h2,h3,fun x hx hf=>(h4 x hx hf).1,fun x hx hf=>(h4 x hx hf).2,h5,h6,fun p hp i hi=>?_⟩
  have:=h7 p hp
  rw [hi] at this
  simpa using this
section
variable {K : PySem.W.Frag} {B : V → St → Hp → (St → Hp → Prop) → Prop} {End : St → Hp → Prop} {σ : St} {H : Hp}
end
theorem qaq {H:Hp} {p:Addr} (h:H p=none) (o:HO):Same H (upd H p o):=fun b u q=>by rw [qad (qaj q h)];exact q
theorem qej {H H':Hp} {p:Addr} (s:Same H H') (h:H p=none) (o:HO):Same H (upd H' p o):=fun b u q=>by rw [qad (qaj q h)];exact s b u q
theorem Same.sqt {K:PySem.W.Frag} {H H':Hp} {a:Addr} {xs:List V} (e:Same H H') (h:SqT K H a xs):SqT K H' a xs:=SqB.same (b:=false) e h
theorem qhU {n:Nat} (h:n≤1000):n≤sizeLine:=Nat.le_of_lt (qbk h)
theorem dP {p:Prop} [Decidable p] (h:decide p=true):p:=of_decide_eq_true h
theorem qbL {α:Type} {xs:List α} {i:Nat} {x:α} (h:xs[i]?=some x):xs.take (i+1)=xs.take i++[x]:=by
  obtain ⟨hi,e⟩:=List.getElem?_eq_some_iff.mp h
  rw [List.take_succ_eq_append_getElem hi,e]
theorem qam {α:Type} {xs:List α} {i:Nat} {x:α} (h:xs[i]?=some x):i<xs.length:=(List.getElem?_eq_some_iff.mp h).1
theorem qjt {α:Type} {xs:List α} {i:Nat} {x:α} {k:Int} (h:xs[i]?=some x) (e:k=(i:Int)):atI xs k=some x:=by
  subst e
  exact qhC h
def qbC (ns:List Int):Int:=ns.foldl (fun d x=>(Int.gcd x d:Int)) 0
theorem qbH (xs:List Int) (x:Int):qbC (xs++[x])=(Int.gcd x (qbC xs):Int):=by unfold qbC;rw [List.foldl_append];rfl
theorem qc7 {g l:Int} (hg:0≤g) (hl:0<l):Int.gcd l (g % l)=Int.gcd g l:=by
  rw [Int.gcd_comm g l]
  have e:g % l=g - l*(g / l):=by have:=Int.emod_add_mul_ediv g l;omega
  rw [e]
  simpa using Int.gcd_sub_mul_right_right
theorem qd6 (ns:List Int):0≤qbC ns:=by
  have h:∀ (ns:List Int) (d:Int),0≤d→0≤ns.foldl (fun d x=>(Int.gcd x d:Int)) d:=by
    intro ns
    induction ns with
    | nil=>intro d hd;exact hd
    | cons x r ih=>intro d _;exact ih _ (Int.natCast_nonneg _)
  exact h ns 0 (by decide)
theorem qb3 (ns:List Int):∀ x∈ns,qbC ns∣x:=by
  have h:∀ (ns:List Int) (d:Int),ns.foldl (fun d x=>(Int.gcd x d:Int)) d∣d∧∀ x∈ns,ns.foldl (fun d x=>(Int.gcd x d:Int)) d∣x:=by
    intro ns
    induction ns with
    | nil=>intro d;exact ⟨Int.dvd_refl _,fun x hx=>absurd hx List.not_mem_nil⟩
    | cons y r ih =>
      intro d
      obtain ⟨h1,h2⟩:=ih (Int.gcd y d:Int)
      refine ⟨Int.dvd_trans h1 (Int.gcd_dvd_right ..),fun x hx=>?_⟩
      rcases List.mem_cons.mp hx with rfl | hx
      · exact Int.dvd_trans h1 (Int.gcd_dvd_left ..)
      · exact h2 x hx
  exact (h ns 0).2
inductive EqT (K:PySem.W.Frag) (H:Hp):Nat→V→V→Prop where
  | int {d:Nat} (i:Int):EqT K H d (.int i) (.int i)
  | bl {d:Nat} (b:Bool):EqT K H d (.bl b) (.bl b)
  | str {d:Nat} (x:Str):EqT K H d (.str x) (.str x)
  | non {d:Nat}:EqT K H d .non .non
  | sq {d:Nat} (q:Bool) {a b:Addr} {xs ys:List V}:SqB K q H a xs→SqB K q H b ys→xs.length=ys.length→(∀ (i:Nat) (x y:V),xs[i]?=some x→ys[i]?=some y→EqT K H d x y)→EqT K H (d+1) (.ref a) (.ref b)
theorem Vals.get' {xs:List V} {us:List Value} (r:Vals xs us) {j:Nat} (h:j<us.length):∃ x,xs[j]?=some x∧RelV x us[j]:=by
  have hl:=Vals.length r
  have hj:j<xs.length:=by omega
  obtain ⟨u,hu,ru⟩:=Vals.get (i:=j) (x:=xs[j]) r (by simp [hj])
  refine ⟨xs[j],by simp [hj],?_⟩
  rw [List.getElem?_eq_getElem h] at hu
  cases hu
  exact ru
section
variable {prog : Program} {w : World} {A : Around} {E : Value → Shared → Prop} {s : Shared}
theorem qhV {t b:Addr} {vs ws:List Value} {Q:Value→Shared→Prop} (ht:IsTup s.heap t vs.toArray) (hb:IsTup s.heap b ws.toArray) (hv:vs=[]) (h:Q (.ref b) s):wpAny (model prog w) A (binaryOp .Add (.ref t) (.ref b)) Q E s:=by
  obtain ⟨⟨cls,dd,data,sl⟩,ho,hc,n,hd⟩:=id ht
  obtain ⟨⟨cls2,dd2,data2,sl2⟩,ho2,hc2,n2,hd2⟩:=id hb
  simp only at hc hd hc2 hd2
  subst hc hd hc2 hd2
  exact concat_meets ⟨_,ho,rfl⟩ ⟨_,ho2,rfl⟩ noFill_tuple_add seq_tuple_add PySem.F.slot_tuple_add PySem.F.entry_tuple_add (PySem.F.args_tuple_add_2 _ _) (tuple_addW0 t b vs.toArray ws.toArray n n2 dd dd2 sl sl2 (by simp [hv])) ⟨ho,ho2,h⟩
end
section
variable {J : It} {B : V → St → Hp → (St → Hp → Prop) → Prop} {End : St → Hp → Prop} {σ : St} {H : Hp} {D : Addr} {n : Nat} {El : Nat → V → Hp → Prop}
end
section
variable {K : PySem.W.Frag} {B : V → St → Hp → (St → Hp → Prop) → Prop} {End : St → Hp → Prop} {σ : St} {H : Hp} {D a : Addr}
end
section
variable {α : Type} {R R' : V → α → Prop} {vs ws : List V} {rs ss : List α}
end
section
variable {α : Type} {R : V → α → Prop} {vs : List V} {rs : List α}
end
theorem qar {a0 a1 a2 a3} {rest:List Expr} {env:Env}:starEach (.BinOp a0 a1 a2 a3::rest) env=(false,eval (.BinOp a0 a1 a2 a3) env)::starEach rest env:=rfl
theorem qbe {a0 a1 a2 a3} {rest:List Expr} {env:Env}:starEach (.ListComp a0 a1 a2 a3::rest) env=(false,eval (.ListComp a0 a1 a2 a3) env)::starEach rest env:=rfl
theorem qak {a0 a1 a2 a3} {rest:List Expr} {env:Env}:starEach (.Call a0 a1 a2 a3::rest) env=(false,eval (.Call a0 a1 a2 a3) env)::starEach rest env:=rfl
theorem qag {a0 a1 a2} {rest:List Expr} {env:Env}:starEach (.Constant a0 a1 a2::rest) env=(false,eval (.Constant a0 a1 a2) env)::starEach rest env:=rfl
theorem qau {a0 a1 a2} {rest:List Expr} {env:Env}:starEach (.Subscript a0 a1 a2::rest) env=(false,eval (.Subscript a0 a1 a2) env)::starEach rest env:=rfl
theorem qaa {a0 a1} {rest:List Expr} {env:Env}:starEach (.Name a0 a1::rest) env=(false,eval (.Name a0 a1) env)::starEach rest env:=rfl
theorem qa0 {a0 a1} {rest:List Expr} {env:Env}:starEach (.List a0 a1::rest) env=(false,eval (.List a0 a1) env)::starEach rest env:=rfl
theorem qah {pos:Pos} {env:Env}:(backTo pos (starEach [] env)).any (·.1)=false:=rfl
theorem qai {pos:Pos} {e:Expr} {es:List Expr} {env:Env} (h:starEach (e::es) env=(false,eval e env)::starEach es env) (hr:(backTo pos (starEach es env)).any (·.1)=false):(backTo pos (starEach (e::es) env)).any (·.1)=false:=by
  rw [h]
  exact hr
theorem qfd {pos : Pos} {e : Expr} {env : Env} (h : starEach [e] env = (false, eval e env) :: starEach [] env) : ((backTo pos (starEach [e] env)).all (fun x => !x.1) && (backToKw pos (keywordEach [] env)).all (fun x => x.1.isSome)
      && decide ([e].length+([]:List Keyword).length+(if ([]:List Keyword).isEmpty then 0 else 1)<30))=true:=by
  rw [h]
  rfl
section
variable {X : Cx} {K : PySem.W.Frag}
theorem qfn (h:X.K=K):qcb X (.builtin "isinstance") (qky K):=h ▸ qgM
end
end L2
namespace L2
open PySem PySem.Spec PyProof.Rows
section
variable {X : Cx} {K : PySem.W.Frag}
theorem qi6:OpR X (compareOp .Is) (fun x y H Q=>∃ a b:Bool,x=.bl a∧y=.bl b∧Q (.bl (a == b)) H):=by
  intro pins s σ H x y v u Q I rx ry h
  obtain ⟨a,b,rfl,rfl,q⟩:=h
  cases rx
  cases ry
  exact wpAny_is_plain rfl (qgY I q (by cases a <;> cases b <;> rfl))
end
end L2
namespace PySem
open Sem (wp)
open Builtin
open AutoSeq1 (wpAny_loadPart')
theorem qbP:fillsNumberSlot (.type "tuple") "mul"=pure false :=
  fillsNumberSlot_seq (id:="tuple.__mul__") (r:=some (.builtin "tuple.__rmul__")) F.slot_tuple_mul.lookup (by decide +kernel) F.slot_tuple_rmul.lookup (by decide +kernel)
theorem qcH:seqRepeat? (.type "tuple")=pure (some (.builtin "tuple.__mul__")):=by
  unfold seqRepeat?
  rw [seqSlot_of (T:="tuple") (name:="__mul__") (id:="tuple.__mul__") F.slot_tuple_mul.lookup (by decide +kernel),seqSlot_of (T:="tuple") (name:="__rmul__") (id:="tuple.__rmul__") F.slot_tuple_rmul.lookup (by decide +kernel)]
  rfl
theorem qco (a:Int) (t:Tok) (l:Addr) (items:Array Value) (n:Nat) (dd:Option Addr) (sl:Array (Option Value)) :
    Meets (Builtin.«int.__rmul__» ⟨[.int a t,.ref l],[]⟩) (fun _ R s=>s.heap.get? l=some { cls:=.type "tuple",dict:=dd,data:=.seq items n,slots:=sl }∧R (.ok (.ret Value.notImplemented)) s) :=
  .of_wp fun prog w A R s h=>by obtain ⟨hp,g,d,tk,os⟩:=s;obtain ⟨hl,h⟩:=h;wp_walk;exact ⟨_,rfl,h⟩
theorem qd1 (l:Addr) (items:Array Value) (n:Nat) (dd:Option Addr) (sl:Array (Option Value)) (u:Tok) :
    Meets (Builtin.«tuple.__mul__» ⟨[.ref l,.int 1 u],[]⟩) (fun _ R s=>s.heap.get? l=some { cls:=.type "tuple",dict:=dd,data:=.seq items n,slots:=sl }∧R (.ok (.ret (Value.ref l))) s) :=
  .of_wp fun prog w A R s h=>by obtain ⟨hp,g,d,tk,os⟩:=s;obtain ⟨hl,h⟩:=h;have f1:=AutoSeq1.idx_int;have f2:=AutoSeq1.sub_tuple_tuple;wp_walk using wpAny_loadPart' hl;exact ⟨_,rfl,h⟩
theorem qdU (l:Addr) (items:Array Value) (n:Nat) (dd:Option Addr) (sl:Array (Option Value)) (k:Int) (u:Tok) (hc0:¬ (decide (k < -(2 ^ 63)) || decide (k≥2 ^ 63))=true) (hc1:¬ (items.isEmpty || k == 1)=true) (hc2:(decide (k≤0) || items.isEmpty)=true) :
    Meets (Builtin.«tuple.__mul__» ⟨[.ref l,.int k u],[]⟩) (fun _ R s=>s.heap.get? l=some { cls:=.type "tuple",dict:=dd,data:=.seq items n,slots:=sl }∧R (.ok (.ret (Value.ref s.heap.objs.size))) { s with heap:=s.heap.push { cls:=Value.type "tuple",data:=Data.seq #[] },toks:=s.toks }) :=
  .of_wp fun prog w A R s h=>by obtain ⟨hp,g,d,tk,os⟩:=s;obtain ⟨hl,h⟩:=h;have f1:=AutoSeq1.idx_int;have f2:=AutoSeq1.sub_tuple_tuple;wp_walk using wpAny_loadPart' hl;refine wpAny_ite_false (decide_eq_false hc0) ?_;wp_walk using wpAny_loadPart' hl;exact ⟨_,rfl,h⟩
theorem qea (l:Addr) (items:Array Value) (n:Nat) (dd:Option Addr) (sl:Array (Option Value)) (k:Int) (u:Tok) (hc0:¬ (decide (k < -(2 ^ 63)) || decide (k≥2 ^ 63))=true) (hc1:¬ (items.isEmpty || k == 1)=true) (hc2:¬ (decide (k≤0) || items.isEmpty)=true) (hc3:¬ (items.size*k>(2 ^ 63 - 1) / 8)) (hc4:¬ Builtin.Tuple.tupleTooMany (items.size*k)=true) (hsz:(List.foldl (fun x1 x2=>x1++x2) #[] (List.replicate k.toNat items)).size≤sizeLine) :
    Meets (Builtin.«tuple.__mul__» ⟨[.ref l,.int k u],[]⟩) (fun _ R s=>s.heap.get? l=some { cls:=.type "tuple",dict:=dd,data:=.seq items n,slots:=sl }∧R (.ok (.ret (Value.ref s.heap.objs.size))) { s with heap:=s.heap.push { cls:=Value.type "tuple",data:=Data.seq (List.foldl (fun x1 x2=>x1++x2) #[] (List.replicate k.toNat items)) },toks:=s.toks }) :=
  .of_wp fun prog w A R s h=>by obtain ⟨hp,g,d,tk,os⟩:=s;obtain ⟨hl,h⟩:=h;have f1:=AutoSeq1.idx_int;have f2:=AutoSeq1.sub_tuple_tuple;wp_walk using wpAny_loadPart' hl;refine wpAny_ite_false (decide_eq_false hc0) ?_;wp_walk using wpAny_loadPart' hl;refine wpAny_ite_false (decide_eq_false hc3) ?_;wp_walk using wpAny_loadPart' hl;exact ⟨_,rfl,h⟩
end PySem
namespace L2
open PySem PySem.Spec PyProof.Rows
inductive D where
  | int (i:Int) | bl (b:Bool) | str (x:Str) | non | tup (xs:List D) | lst (xs:List D) | fzl (xs:List D) | obj (nm:Str) (fs:List (Str × D)) | map (kvs:List (Key × D)) | exc (nm:Str) (ats:List D)
def qcA (a C:Addr) (dx:Option Addr):Heap→Prop:=fun h=>∃ o vs,h.get? a=some o∧o.cls=.ref C∧o.dict=dx∧o.data=.fields vs
inductive Rp (K:PySem.W.Frag) (H:Hp):D→V→Prop where
  | int (i:Int):Rp K H (.int i) (.int i)
  | bl (b:Bool):Rp K H (.bl b) (.bl b)
  | str (x:Str):Rp K H (.str x) (.str x)
  | non:Rp K H .non .non
  | tup {a:Addr} {vs:List V} {ds:List D}:H a=some (.tup vs)→vs.length=ds.length→(∀ (i:Nat) (v:V) (d:D),vs[i]?=some v→ds[i]?=some d→Rp K H d v)→Rp K H (.tup ds) (.ref a)
  | lst {a:Addr} {vs:List V} {ds:List D}:H a=some (.lst vs)→vs.length=ds.length→(∀ (i:Nat) (v:V) (d:D),vs[i]?=some v→ds[i]?=some d→Rp K H d v)→Rp K H (.lst ds) (.ref a)
  | fzl {a:Addr} {vs:List V} {ds:List D}:SqL K H a vs→vs.length=ds.length→(∀ (i:Nat) (v:V) (d:D),vs[i]?=some v→ds[i]?=some d→Rp K H d v)→Rp K H (.fzl ds) (.ref a)
  | obj {a C dx:Addr} {nm:Str} {vs:List (Str × V)} {fs:List (Str × D)}:PySem.W.nsIn K mainGlobals nm=some (some (.ref C))→H a=some (.ins C dx vs)→vs.map (·.1)=fs.map (·.1)→(∀ (i:Nat) (v:Str × V) (d:Str × D),vs[i]?=some v→fs[i]?=some d→Rp K H d.2 v.2)→Rp K H (.obj nm fs) (.ref a)
  | map {a:Addr} {ws:List (Key × V)} {kvs:List (Key × D)}:H a=some (.dK ws)→ws.map (·.1)=kvs.map (·.1)→(∀ (i:Nat) (w:Key × V) (d:Key × D),ws[i]?=some w→kvs[i]?=some d→Rp K H d.2 w.2)→Rp K H (.map kvs) (.ref a)
  | exc0 {a C:Addr} {nm:Str}:PySem.W.nsIn K mainGlobals nm=some (some (.ref C))→H a=some (.ext (qcA a C none))→Rp K H (.exc nm []) (.ref a)
  | exc1 {a C p:Addr} {nm:Str} {v:V} {d:D}:PySem.W.nsIn K mainGlobals nm=some (some (.ref C))→H a=some (.ext (qcA a C (some p)))→H p=some (.xd [("at",v)])→Rp K H d v→Rp K H (.exc nm [d]) (.ref a)
def RpL (K:PySem.W.Frag) (H:Hp) (ds:List D) (vs:List V):Prop:=vs.length=ds.length∧∀ (i:Nat) (v:V) (d:D),vs[i]?=some v→ds[i]?=some d→Rp K H d v
section
variable {K : PySem.W.Frag} {H H' Φ Φ' Φ1 H1 Φ2 H2 : Hp} {d : D} {v : V} {ds es : List D} {vs ws : List V}
theorem Rp.same (s:Same H H') (h:Rp K H d v):Rp K H' d v:=by
  induction h with
  | int i=>exact .int i
  | bl b=>exact .bl b
  | str x=>exact .str x
  | non=>exact .non
  | tup h1 h2 _ ih=>exact .tup (s _ _ h1) h2 ih
  | lst h1 h2 _ ih=>exact .lst (s _ _ h1) h2 ih
  | fzl h1 h2 _ ih=>exact .fzl (s.seq h1) h2 ih
  | obj h0 h1 h2 _ ih=>exact .obj h0 (s _ _ h1) h2 ih
  | map h1 h2 _ ih=>exact .map (s _ _ h1) h2 ih
  | exc0 h0 h1=>exact .exc0 h0 (s _ _ h1)
  | exc1 h0 h1 h2 _ ih=>exact .exc1 h0 (s _ _ h1) (s _ _ h2) ih
theorem RpL.same (s:Same H H') (h:RpL K H ds vs):RpL K H' ds vs:=⟨h.1,fun i v d hv hd=>(h.2 i v d hv hd).same s⟩
theorem RpL.nil:RpL K H [] []:=⟨rfl,fun i v d hv _=>by simp at hv⟩
theorem RpL.cons (r:Rp K H d v) (h:RpL K H ds vs):RpL K H (d::ds) (v::vs):=⟨by simp [h.1],fun i u e hu he=>by
  cases i with
  | zero=>cases hu;cases he;exact r
  | succ i=>exact h.2 i u e hu he⟩
theorem RpL.append (h:RpL K H ds vs) (h':RpL K H es ws):RpL K H (ds++es) (vs++ws):=by
  refine ⟨by rw [List.length_append,List.length_append,h.1,h'.1],fun i u e hu he=>?_⟩
  rcases Nat.lt_or_ge i vs.length with c | c
  · rw [List.getElem?_append_left c] at hu
    rw [List.getElem?_append_left (by rw [← h.1];exact c)] at he
    exact h.2 i u e hu he
  · rw [List.getElem?_append_right c] at hu
    rw [List.getElem?_append_right (by rw [← h.1];exact c),← h.1] at he
    exact h'.2 _ u e hu he
theorem RpL.one (r:Rp K H d v):RpL K H [d] [v]:=.cons r .nil
theorem RpL.rep (h:RpL K H ds vs):∀ k:Nat,RpL K H (List.replicate k ds).flatten (List.replicate k vs).flatten
  | 0=>.nil
  | k+1=>by
    rw [List.replicate_succ,List.replicate_succ,List.flatten_cons,List.flatten_cons]
    exact h.append (RpL.rep h k)
theorem RpL.at (h:RpL K H ds vs) {i:Nat} (e:ds[i]?=some d):∃ v,vs[i]?=some v∧Rp K H d v:=by
  have hi:i<vs.length:=by rw [h.1];exact qam e
  exact ⟨vs[i],by simp [hi],h.2 i _ d (by simp [hi]) e⟩
theorem RpL.tup {a:Addr} (h:RpL K H ds vs) (s:H a=some (.tup vs)):Rp K H (.tup ds) (.ref a):=.tup s h.1 h.2
theorem RpL.lst {a:Addr} (h:RpL K H ds vs) (s:H a=some (.lst vs)):Rp K H (.lst ds) (.ref a):=.lst s h.1 h.2
theorem RpL.fzl {a:Addr} (h:RpL K H ds vs) (s:SqL K H a vs):Rp K H (.fzl ds) (.ref a):=.fzl s h.1 h.2
theorem RpL.ints (ns:List Int):RpL K H (ns.map D.int) (ns.map V.int):=⟨by simp,fun i v d hv hd=>by
  rw [List.getElem?_map] at hv hd
  cases e:ns[i]? with
  | none=>rw [e] at hv;cases hv
  | some k=>rw [e] at hv hd;cases hv;cases hd;exact .int k⟩
def OwK:HO→Prop | .lst _=>True | .dK _=>True | .dT _=>True | .ins _ _ _=>True | _=>False
structure Gr (Φ H Φ' H':Hp):Prop where
  f:Same Φ Φ'
  h:Same H H'
  s:Same Φ' H'
  o:∀ p (u:HO),H p=some u→Φ p=none→(k:OwK u:=by trivial)→Φ' p=none
theorem Gr.refl (s:Same Φ H):Gr Φ H Φ H:=⟨Same.refl _,Same.refl _,s,fun _ _ _ h _=>h⟩
theorem Gr.trans (a:Gr Φ H Φ1 H1) (b:Gr Φ1 H1 Φ2 H2):Gr Φ H Φ2 H2:=⟨a.f.trans b.f,a.h.trans b.h,b.s,fun p u hp hn k=>b.o p u (a.h p _ hp) (a.o p u hp hn k) k⟩
theorem Gr.join (a:Gr Φ H Φ1 H1) (b:Gr Φ1 H Φ2 H2):Gr Φ H Φ2 H2:=⟨a.f.trans b.f,b.h,b.s,fun p u hp hn k=>b.o p u hp (a.o p u hp hn k) k⟩
theorem qfq (s:Same Φ H) {p:Addr} (o:HO):Same (upd Φ p o) (upd H p o):=fun b u e=>by
  by_cases c:b=p
  · subst c;rw [qae] at e ⊢;exact e
  · rw [qad c] at e ⊢;exact s b u e
theorem Gr.new (s:Same Φ H) {p:Addr} (hp:H p=none) (o:HO):Gr Φ H (upd Φ p o) (upd H p o) :=
  ⟨qaq (s.free hp) o,qaq hp o,qfq s o,fun q u hq hn _=>by rw [qad (qaj hq hp)];exact hn⟩
theorem Gr.fresh (s:Same Φ H) {p:Addr} (hp:H p=none) (o:HO):Gr Φ H Φ (upd H p o) :=
  ⟨Same.refl _,qaq hp o,fun b u e=>qaq hp o b u (s b u e),fun _ _ _ h _=>h⟩
theorem Gr.freeze (g:Gr Φ H Φ' H') {p:Addr} {o:HO} (h0:H p=none) (hn:Φ' p=none) (hp:H' p=some o):Gr Φ H (upd Φ' p o) H' :=
  ⟨g.f.trans (qaq hn o),g.h,fun b u e=>by
    by_cases c:b=p
    · subst c;rw [qae] at e;cases e;exact hp
    · rw [qad c] at e;exact g.s b u e,fun q u hq hqn k=>by rw [qad (qaj hq h0)];exact g.o q u hq hqn k⟩
theorem Gr.adoptT {p:Addr} {xs:List V} (s:Same Φ H) (h:Same H H') (ho:H' p=some (.tup xs)):∃ Φ',Gr Φ H Φ' H'∧Φ' p=some (.tup xs):=by
  have e1:∀ u,Φ p=some u→u=.tup xs:=fun u e=>by have:=h _ _ (s _ _ e);rw [ho] at this;cases this;rfl
  refine ⟨upd Φ p (.tup xs),⟨fun b u e=>?_,h,fun b u e=>?_,fun b u e n k=>?_⟩,qae⟩
  · by_cases c:b=p
    · subst c;rw [qae,e1 u e]
    · rw [qad c];exact e
  · by_cases c:b=p
    · subst c;rw [qae] at e;cases e;exact ho
    · rw [qad c] at e;exact h _ _ (s _ _ e)
  · by_cases c:b=p
    · subst c
      have:=h _ _ e
      rw [ho] at this
      cases this
      exact k.elim
    · rw [qad c];exact n
def RpQ (K:PySem.W.Frag) (Φ H:Hp) (d:D) (v:V):Prop:=Rp K Φ d v∨∃ a vs ds,d=.lst ds∧v=.ref a∧H a=some (.lst vs)∧RpL K Φ ds vs
theorem RpQ.gr (g:Gr Φ H Φ' H') (h:RpQ K Φ H d v):RpQ K Φ' H' d v:=by
  rcases h with h | ⟨a,vs,ds,e,e2,h1,h2⟩
  · exact .inl (h.same g.f)
  · exact .inr ⟨a,vs,ds,e,e2,g.h _ _ h1,h2.same g.f⟩
theorem RpQ.lst (s:Same Φ H) (h:RpQ K Φ H (.lst ds) v):∃ a vs,v=.ref a∧H a=some (.lst vs)∧RpL K Φ ds vs:=by
  rcases h with h | ⟨a,vs,ds,e,e2,h1,h2⟩
  · cases h with | lst h1 h2 h3=>exact ⟨_,_,rfl,s _ _ h1,h2,h3⟩
  · cases e;exact ⟨a,vs,e2,h1,h2⟩
theorem RpQ.fzl (s:Same Φ H) (h:RpQ K Φ H (.fzl ds) v):∃ a vs,v=.ref a∧SqL K H a vs∧RpL K Φ ds vs:=by
  rcases h with h | ⟨a,vs,ds,e,e2,h1,h2⟩
  · cases h with | fzl h1 h2 h3=>exact ⟨_,_,rfl,s.seq h1,h2,h3⟩
  · cases e
theorem RpQ.tup (s:Same Φ H) (h:RpQ K Φ H (.tup ds) v):∃ a vs,v=.ref a∧SqT K H a vs∧Φ a=some (.tup vs)∧RpL K Φ ds vs:=by
  rcases h with h | ⟨a,vs,ds,e,e2,h1,h2⟩
  · cases h with | tup h1 h2 h3=>exact ⟨_,_,rfl,.of (s _ _ h1),h1,h2,h3⟩
  · cases e
theorem RpQ.int {i:Int} (h:RpQ K Φ H (.int i) v):v=.int i:=by
  rcases h with h | ⟨a,vs,ds,e,_⟩
  · cases h;rfl
  · cases e
theorem RpQ.bl {i:Bool} (h:RpQ K Φ H (.bl i) v):v=.bl i:=by
  rcases h with h | ⟨a,vs,ds,e,_⟩
  · cases h;rfl
  · cases e
theorem RpQ.str {i:Str} (h:RpQ K Φ H (.str i) v):v=.str i:=by
  rcases h with h | ⟨a,vs,ds,e,_⟩
  · cases h;rfl
  · cases e
theorem RpQ.non (h:RpQ K Φ H .non v):v=.non:=by
  rcases h with h | ⟨a,vs,ds,e,_⟩
  · cases h;rfl
  · cases e
def qhu:D→Option (List D)
  | .lst ds=>some ds
  | .tup ds=>some ds
  | .fzl ds=>some ds
  | _=>none
theorem RpQ.seq (s:Same Φ H) (h:RpQ K Φ H d v) (e:qhu d=some ds):∃ a vs,v=.ref a∧(SqL K H a vs∨SqT K H a vs)∧RpL K Φ ds vs:=by
  cases d with
  | lst ds=>cases e;obtain ⟨a,vs,e,h1,h2⟩:=h.lst s;exact ⟨a,vs,e,.inl (.of h1),h2⟩
  | tup ds=>cases e;obtain ⟨a,vs,e,h1,_,h2⟩:=h.tup s;exact ⟨a,vs,e,.inr h1,h2⟩
  | fzl ds=>cases e;obtain ⟨a,vs,e,h1,h2⟩:=h.fzl s;exact ⟨a,vs,e,.inl h1,h2⟩
  | _=>cases e
theorem Rp.seq (h:Rp K Φ d v) (e:qhu d=some ds):∃ (b:Bool) (a:Addr) (vs:List V),v=.ref a∧SqB K b Φ a vs∧RpL K Φ ds vs:=by
  cases d with
  | lst ds=>cases e;cases h with | lst h1 h2 h3=>exact ⟨true,_,_,rfl,SqL.of h1,h2,h3⟩
  | tup ds=>cases e;cases h with | tup h1 h2 h3=>exact ⟨false,_,_,rfl,SqT.of h1,h2,h3⟩
  | fzl ds=>cases e;cases h with | fzl h1 h2 h3=>exact ⟨true,_,_,rfl,h1,h2,h3⟩
  | _=>cases e
end
inductive Ow where | lst (xs:List D) | dct (ks:List Key) | dcT (ks:List (List Key))
inductive Sl where | v (d:D) | ob (o:Ow)
abbrev Sl.own (xs:List D):Sl:=.ob (.lst xs)
abbrev Sl.dct (ks:List Key):Sl:=.ob (.dct ks)
abbrev Sl.dcT (ks:List (List Key)):Sl:=.ob (.dcT ks)
def OwR (K:PySem.W.Frag) (Φ:Hp):Ow→HO→Prop
  | .lst ds,.lst vs=>RpL K Φ ds vs
  | .dct ks,.dK kvs=>kvs.map (·.1)=ks
  | .dcT ks,.dT kvs=>kvs.map (·.1)=ks
  | _,_=>False
theorem OwR.k {K:PySem.W.Frag} {Φ:Hp} {o:Ow} {u:HO} (r:OwR K Φ o u):OwK u:=by
  cases o with
  | lst ds =>
    cases u with
    | lst vs=>exact True.intro
    | _=>exact r.elim
  | dct ks =>
    cases u with
    | dK kvs=>exact True.intro
    | _=>exact r.elim
  | dcT ks =>
    cases u with
    | dT kvs=>exact True.intro
    | _=>exact r.elim
theorem OwR.same {K:PySem.W.Frag} {Φ Φ':Hp} {o:Ow} {u:HO} (r:OwR K Φ o u) (s:Same Φ Φ'):OwR K Φ' o u:=by
  cases o with
  | lst ds =>
    cases u with
    | lst vs=>exact (show RpL K Φ ds vs from r).same s
    | _=>exact r.elim
  | dct ks =>
    cases u with
    | dK kvs=>exact r
    | _=>exact r.elim
  | dcT ks =>
    cases u with
    | dT kvs=>exact r
    | _=>exact r.elim
abbrev Rho:=List (Option Sl)
def qil:FuncBody→Option Pos
  | .stmts b=>(match b.getLast? with
    | some (.Return (some (.Call _ _ kws _)) _)=>kws.findSome? fun k=>(match k.value with | .Lambda _ _ _ pos=>some pos | _=>none)
    | _=>none)
  | _=>none
def qhN (K:PySem.W.Frag) (x:Str):Option (Addr × Array Value):=match PySem.W.nsIn K mainGlobals x with
  | some (some (.ref f))=>(match K.lookup f with
    | some ⟨_,_,.func fd,_⟩=>(match fd.code with
      | .ref c=>(match K.lookup c with
        | some ⟨_,_,.fields vs,_⟩=>(match (vs[11]?:Option Value),qil fd.body with
          | some (.ref P),some pos=>some (P,#[rawInt pos.line,rawInt pos.col,.str (fd.qualname++".<locals>."++"<lambda>") 0])
          | _,_=>none)
        | _=>none)
      | _=>none)
    | _=>none)
  | _=>none
def qfR (K:PySem.W.Frag):List (Addr × Array Value):=(["least_grown","greatest_first"]:List Str).filterMap (qhN K)
def TabF (K:PySem.W.Frag) (Φ:Hp):Prop:=∀ t∈qfR K,Φ t.1=some (.tbl t.2)
theorem TabF.same {K:PySem.W.Frag} {Φ Φ':Hp} (h:TabF K Φ) (s:Same Φ Φ'):TabF K Φ':=fun t ht=>s _ _ (h t ht)
structure EnvD (K:PySem.W.Frag) (H0 Φ H:Hp) (σ:St) (ρ:Rho):Prop where
  fz:Same Φ H
  len:σ.length=ρ.length
  sl:∀ (i:Nat) (d:D),ρ[i]?=some (some (.v d))→∃ v,σ[i]?=some (some v)∧Rp K Φ d v
  ow:∀ (i:Nat) (o:Ow),ρ[i]?=some (some (.ob o))→∃ p u,σ[i]?=some (some (.ref p))∧H0 p=none∧Φ p=none∧H p=some u∧OwR K Φ o u
  ne:∀ (i j:Nat) (o w:Ow) (p:Addr),ρ[i]?=some (some (.ob o))→ρ[j]?=some (some (.ob w))→σ[i]?=some (some (.ref p))→σ[j]?=some (some (.ref p))→i=j
  tb:TabF K Φ
section
variable {K : PySem.W.Frag} {H0 H H' Φ Φ' Φ1 H1 Φ2 H2 : Hp} {σ : St} {ρ : Rho} {d : D} {v : V} {ds es : List D} {vs ws : List V}
theorem EnvD.owl (E:EnvD K H0 Φ H σ ρ) (i:Nat) (ds:List D) (h:ρ[i]?=some (some (.own ds))):∃ p vs,σ[i]?=some (some (.ref p))∧H0 p=none∧Φ p=none∧H p=some (.lst vs)∧RpL K Φ ds vs:=by
  obtain ⟨p,u,e,h0,hn,hp,r⟩:=E.ow i _ h
  cases u with
  | lst vs=>exact ⟨p,vs,e,h0,hn,hp,r⟩
  | _=>exact (show False from r).elim
theorem EnvD.gr (E:EnvD K H0 Φ H σ ρ) (g:Gr Φ H Φ' H'):EnvD K H0 Φ' H' σ ρ :=
  ⟨g.s,E.len,fun i d h=>let ⟨v,e,r⟩:=E.sl i d h;⟨v,e,r.same g.f⟩,
    fun i ds h=>let ⟨p,vs,e,h0,hn,hp,r⟩:=E.ow i ds h;⟨p,vs,e,h0,g.o p _ hp hn r.k,g.h _ _ hp,r.same g.f⟩,E.ne,E.tb.same g.f⟩
theorem qaN {α:Type} {l:List α} {i j:Nat} {x y:α} (h:(l.set i x)[j]?=some y):(j=i∧i<l.length∧y=x)∨(j≠i∧l[j]?=some y):=by
  by_cases c:i=j
  · subst c
    have hi:i<l.length:=by have:=qam h;rwa [List.length_set] at this
    rw [List.getElem?_set_self hi] at h
    cases h
    exact .inl ⟨rfl,hi,rfl⟩
  · rw [List.getElem?_set_ne c] at h
    exact .inr ⟨fun e=>c e.symm,h⟩
theorem EnvD.set (E:EnvD K H0 Φ H σ ρ) (r:Rp K Φ d v) (i:Nat):EnvD K H0 Φ H (σ.set i (some v)) (ρ.set i (some (.v d))):=by
  have nn:∀ {j:Nat} {x:Option V},j≠i→σ[j]?=some x→(σ.set i (some v))[j]?=some x:=fun c h=>by rw [List.getElem?_set_ne (Ne.symm c)];exact h
  refine ⟨E.fz,by rw [List.length_set,List.length_set,E.len],fun j e h=>?_,fun j ds h=>?_,fun j k ds es p hj hk sj sk=>?_,E.tb⟩
  · rcases qaN h with ⟨rfl,hi,e1⟩ | ⟨c,h⟩
    · cases e1
      exact ⟨v,by rw [List.getElem?_set_self (by rw [E.len];exact hi)],r⟩
    · obtain ⟨u,hu,ru⟩:=E.sl j e h
      exact ⟨u,nn c hu,ru⟩
  · rcases qaN h with ⟨rfl,hi,e1⟩ | ⟨c,h⟩
    · cases e1
    · obtain ⟨p,vs,e,q⟩:=E.ow j ds h
      exact ⟨p,vs,nn c e,q⟩
  · rcases qaN hj with ⟨rfl,_,e1⟩ | ⟨cj,hj⟩
    · cases e1
    rcases qaN hk with ⟨rfl,_,e1⟩ | ⟨ck,hk⟩
    · cases e1
    rw [List.getElem?_set_ne (Ne.symm cj)] at sj
    rw [List.getElem?_set_ne (Ne.symm ck)] at sk
    exact E.ne j k ds es p hj hk sj sk
theorem EnvD.setOb (E:EnvD K H0 Φ H σ ρ) {p:Addr} {o:Ow} {u:HO} (r:OwR K Φ o u) (h0:H0 p=none) (hn:Φ p=none) (hp:H p=some u) (hnew:∀ (j:Nat) (w:Ow),ρ[j]?=some (some (.ob w))→σ[j]?≠some (some (.ref p))) (i:Nat):EnvD K H0 Φ H (σ.set i (some (.ref p))) (ρ.set i (some (.ob o))):=by
  have nn:∀ {j:Nat} {x:Option V},j≠i→σ[j]?=some x→(σ.set i (some (.ref p)))[j]?=some x:=fun c h=>by rw [List.getElem?_set_ne (Ne.symm c)];exact h
  refine ⟨E.fz,by rw [List.length_set,List.length_set,E.len],fun j e h=>?_,fun j ds h=>?_,fun j k ds es q hj hk sj sk=>?_,E.tb⟩
  · rcases qaN h with ⟨rfl,hi,e1⟩ | ⟨c,h⟩
    · cases e1
    · obtain ⟨u,hu,ru⟩:=E.sl j e h
      exact ⟨u,nn c hu,ru⟩
  · rcases qaN h with ⟨rfl,hi,e1⟩ | ⟨c,h⟩
    · cases e1
      exact ⟨p,u,by rw [List.getElem?_set_self (by rw [E.len];exact hi)],h0,hn,hp,r⟩
    · obtain ⟨p,vs,e,q⟩:=E.ow j ds h
      exact ⟨p,vs,nn c e,q⟩
  · rcases qaN hj with ⟨e1,hl,_⟩ | ⟨cj,hj'⟩
    · rcases qaN hk with ⟨e2,_,_⟩ | ⟨ck,hk'⟩
      · rw [e1,e2]
      · rw [e1,List.getElem?_set_self (by rw [E.len];exact hl)] at sj
        cases sj
        rw [List.getElem?_set_ne (Ne.symm ck)] at sk
        exact absurd sk (hnew k _ hk')
    · rw [List.getElem?_set_ne (Ne.symm cj)] at sj
      rcases qaN hk with ⟨e2,hl,_⟩ | ⟨ck,hk'⟩
      · rw [e2,List.getElem?_set_self (by rw [E.len];exact hl)] at sk
        cases sk
        exact absurd sj (hnew j _ hj')
      · rw [List.getElem?_set_ne (Ne.symm ck)] at sk
        exact E.ne j k _ _ q hj' hk' sj sk
theorem EnvD.putOb (E:EnvD K H0 Φ H σ ρ) {i:Nat} {p:Addr} {o o':Ow} {u:HO} (ho:ρ[i]?=some (some (.ob o))) (hs:σ[i]?=some (some (.ref p))) (r:OwR K Φ o' u):EnvD K H0 Φ (upd H p u) σ (ρ.set i (some (.ob o'))):=by
  obtain ⟨p',vs,e,h0,hn,hp,_⟩:=E.ow i _ ho
  rw [hs] at e
  cases e
  have hi:=qam ho
  refine ⟨fun b u e=>?_,by rw [List.length_set,E.len],fun j e h=>?_,fun j fs h=>?_,fun j k fs gs q hj hk sj sk=>?_,E.tb⟩
  · rw [qad (qaj e hn)]
    exact E.fz b u e
  · rcases qaN h with ⟨rfl,_,e1⟩ | ⟨c,h⟩
    · cases e1
    · exact E.sl j e h
  · rcases qaN h with ⟨rfl,_,e1⟩ | ⟨c,h⟩
    · cases e1
      exact ⟨p,u,hs,h0,hn,qae,r⟩
    · obtain ⟨q,us,e,q0,qn,qp,qr⟩:=E.ow j fs h
      refine ⟨q,us,e,q0,qn,?_,qr⟩
      rw [qad fun z=>c (E.ne j i fs o p h ho (by rw [e,z]) hs)]
      exact qp
  · have old:∀ {j:Nat} {fs:Ow},(ρ.set i (some (.ob o')))[j]?=some (some (.ob fs))→∃ gs,ρ[j]?=some (some (.ob gs)):=fun {j fs} h=>by
      rcases qaN h with ⟨rfl,_,_⟩ | ⟨_,h⟩
      · exact ⟨o,ho⟩
      · exact ⟨fs,h⟩
    obtain ⟨fs',hj⟩:=old hj
    obtain ⟨gs',hk⟩:=old hk
    exact E.ne j k fs' gs' q hj hk sj sk
theorem EnvD.setOwn (E:EnvD K H0 Φ H σ ρ) {p:Addr} (r:RpL K Φ ds vs) (h0:H0 p=none) (hn:Φ p=none) (hp:H p=some (.lst vs)) (hnew:∀ (j:Nat) (w:Ow),ρ[j]?=some (some (.ob w))→σ[j]?≠some (some (.ref p))) (i:Nat):EnvD K H0 Φ H (σ.set i (some (.ref p))) (ρ.set i (some (.own ds))):=E.setOb (o:=.lst ds) (u:=.lst vs) r h0 hn hp hnew i
theorem EnvD.put (E:EnvD K H0 Φ H σ ρ) {i:Nat} {p:Addr} (ho:ρ[i]?=some (some (.own ds))) (hs:σ[i]?=some (some (.ref p))) (r:RpL K Φ es ws):EnvD K H0 Φ (upd H p (.lst ws)) σ (ρ.set i (some (.own es))):=E.putOb (o':=.lst es) (u:=.lst ws) ho hs r
def frz (i:Nat) (ρ:Rho):Rho:=match ρ[i]? with | some (some (.ob (.lst ds)))=>ρ.set i (some (.v (.lst ds))) | _=>ρ
theorem EnvD.frz (E:EnvD K H0 Φ H σ ρ) (g:Gr Φ0 H0 Φ H) (i:Nat):∃ Φ',Gr Φ0 H0 Φ' H∧EnvD K H0 Φ' H σ (frz i ρ):=by
  unfold L2.frz
  split
  · next ds ho =>
    obtain ⟨p,vs,e,h0,hn,hp,r⟩:=E.owl i ds ho
    have s1:=qaq hn (.lst vs)
    refine ⟨upd Φ p (.lst vs),g.freeze h0 hn hp,fun b u e=>?_,by rw [List.length_set,E.len],fun j e2 h=>?_,fun j fs h=>?_,fun j k fs gs q hj hk sj sk=>?_,E.tb.same s1⟩
    · by_cases c:b=p
      · subst c;rw [qae] at e;cases e;exact hp
      · rw [qad c] at e;exact E.fz b u e
    · rcases qaN h with ⟨rfl,_,e1⟩ | ⟨c,h⟩
      · cases e1
        exact ⟨_,e,(r.same s1).lst qae⟩
      · obtain ⟨u,hu,ru⟩:=E.sl j e2 h
        exact ⟨u,hu,ru.same s1⟩
    · rcases qaN h with ⟨rfl,_,e1⟩ | ⟨c,h⟩
      · cases e1
      · obtain ⟨q,us,e3,q0,qn,qp,qr⟩:=E.ow j fs h
        refine ⟨q,us,e3,q0,?_,qp,qr.same s1⟩
        rw [qad fun z=>c (E.ne j i fs _ p h ho (by rw [e3,z]) e)]
        exact qn
    · rcases qaN hj with ⟨_,_,e1⟩ | ⟨_,hj⟩
      · cases e1
      rcases qaN hk with ⟨_,_,e1⟩ | ⟨_,hk⟩
      · cases e1
      exact E.ne j k fs gs q hj hk sj sk
  · exact ⟨Φ,g,E⟩
theorem EnvD.weak {ρ':Rho} (E:EnvD K H0 Φ H σ ρ) (hl:ρ'.length=ρ.length) (hw:∀ (i:Nat) x,ρ'[i]?=some (some x)→ρ[i]?=some (some x)):EnvD K H0 Φ H σ ρ' :=
  ⟨E.fz,by rw [E.len,hl],fun i d h=>E.sl i d (hw i _ h),fun i ds h=>E.ow i ds (hw i _ h),fun i j ds es p hi hj=>E.ne i j ds es p (hw i _ hi) (hw j _ hj),E.tb⟩
end
def NF {α:Type} (x:α) (R:α→Prop):Prop:=∃ y,x=y∧R y
theorem NF.get {α:Type} {x:α} {R:α→Prop} (h:NF x R):R x:=by
  obtain ⟨_,rfl,h⟩:=h
  exact h
abbrev TD:=Rho→(D→Prop)→Prop
abbrev TDL:=Rho→(List D→Prop)→Prop
abbrev TDB:=Rho→(Bool→Prop)→Prop
def lE (K:PySem.W.Frag) (t:TD):TE:=fun σ H Q=>∃ H0 Φ ρ R,EnvD K H0 Φ H σ ρ∧t ρ R∧∀ d Φ' H' v,R d→Gr Φ H Φ' H'→Rp K Φ' d v→Q v H'
def lQ (K:PySem.W.Frag) (t:TD):TE:=fun σ H Q=>∃ H0 Φ ρ R,EnvD K H0 Φ H σ ρ∧t ρ R∧∀ d Φ' H' v,R d→Gr Φ H Φ' H'→RpQ K Φ' H' d v→Q v H'
def lF (K:PySem.W.Frag) (t:TDL):TE:=fun σ H Q=>∃ H0 Φ ρ R,EnvD K H0 Φ H σ ρ∧t ρ R∧∀ ds Φ' H' p vs,R ds→Gr Φ H Φ' H'→H p=none→Φ' p=none→H' p=some (.lst vs)→RpL K Φ' ds vs→Q (.ref p) H'
def lA (K:PySem.W.Frag) (n:Nat) (t:TDL):TA:=fun σ H Q=>∃ H0 Φ ρ R,EnvD K H0 Φ H σ ρ∧t ρ R∧∀ ds Φ' H' vs,R ds→Gr Φ H Φ' H'→RpL K Φ' ds vs→ds.length=n→Q vs H'
def lT (K:PySem.W.Frag) (t:TDB):TT:=fun σ H Q=>∃ H0 Φ ρ R,EnvD K H0 Φ H σ ρ∧t ρ R∧∀ b Φ' H',R b→Gr Φ H Φ' H'→Q b H'
structure PD (K:PySem.W.Frag) (X:Cx) (e:Expr) (t:TD):Prop where pe:X.K=K→PE X e (lE K t)
structure PQ (K:PySem.W.Frag) (X:Cx) (e:Expr) (t:TD):Prop where pe:X.K=K→PE X e (lQ K t)
structure PF (K:PySem.W.Frag) (X:Cx) (e:Expr) (t:TDL):Prop where pe:X.K=K→PE X e (lF K t)
structure PAD (K:PySem.W.Frag) (X:Cx) (es:List Expr) (t:TDL):Prop where pa:X.K=K→PA X es (lA K es.length t)
structure PTD (K:PySem.W.Frag) (X:Cx) (e:Expr) (t:TDB):Prop where pt:X.K=K→PT X e (lT K t)
structure PWD (K:PySem.W.Frag) (X:Cx) (e:Expr) (t:TDB):Prop where pw:X.K=K→PW X e (lT K t)
theorem PE.imp {X:Cx} {e:Expr} {t t':TE} (h:PE X e t) (k:∀ σ H Q,t' σ H Q→t σ H Q):PE X e t':=fun pins s σ H Q I hw=>h pins s σ H Q I (k σ H Q hw)
theorem PT.imp {X:Cx} {e:Expr} {t t':TT} (h:PT X e t) (k:∀ σ H Q,t' σ H Q→t σ H Q):PT X e t':=fun pins s σ H Q I hw=>h pins s σ H Q I (k σ H Q hw)
theorem PW.imp {X:Cx} {e:Expr} {t t':TT} (h:PW X e t) (k:∀ σ H Q,t' σ H Q→t σ H Q):PW X e t':=fun wh pins s σ H Q I hw=>h wh pins s σ H Q I (k σ H Q hw)
theorem PA.imp {X:Cx} {e:List Expr} {t t':TA} (h:PA X e t) (k:∀ σ H Q,t' σ H Q→t σ H Q):PA X e t':=fun pos pins s σ H Q I hw=>h pos pins s σ H Q I (k σ H Q hw)
theorem PS.imp {X:Cx} {e:Stmt} {t t':TS} (h:PS X e t) (k:∀ D σ H,t' D σ H→t D σ H):PS X e t':=fun pins s σ H D I hw=>h pins s σ H D I (k D σ H hw)
theorem PSs.imp {X:Cx} {e:List Stmt} {t t':TS} (h:PSs X e t) (k:∀ D σ H,t' D σ H→t D σ H):PSs X e t':=fun pins s σ H D I hw=>h pins s σ H D I (k D σ H hw)
section
variable {K : PySem.W.Frag} {X : Cx} {e a b c : Expr} {es : List Expr} {pos : Pos} {t ta tb : TD} {tf : TDL} {tl : TDL} {tt tu : TDB}
theorem PD.q (h:PD K X e t):PQ K X e t:=⟨fun hK=>(h.pe hK).imp fun σ H Q hq0=>by obtain ⟨H0,Φ,ρ,R,E,t,k⟩:=hq0;exact ⟨H0,Φ,ρ,R,E,t,fun d Φ' H' v r g rr=>k d Φ' H' v r g (.inl rr)⟩⟩
def qlm (t:TDL):TD:=fun ρ R=>t ρ fun ds=>R (.lst ds)
theorem PF.d (h:PF K X e tf):PD K X e (qlm tf):=⟨fun hK=>(h.pe hK).imp fun σ H Q hq0=>by obtain ⟨H0,Φ,ρ,R,E,t,k⟩:=hq0;exact ⟨H0,Φ,ρ,_,E,t,fun ds Φ' H' p vs r g h0 hn hp rr =>
  k (.lst ds) _ H' _ r (g.freeze h0 hn hp) ((rr.same (qaq hn _)).lst qae)⟩⟩
def qkB (i:Nat):TD:=fun ρ R=>match ρ[i]? with | some (some (.v d))=>R d | _=>False
def qiJ (i:Nat):TD:=fun ρ R=>match ρ[i]? with | some (some (.v d))=>R d | some (some (.ob (.lst ds)))=>R (.lst ds) | _=>False
theorem dv (i:Nat) {x:Str} (hN:X.N[i]?=some x:=by rfl) (hv:Vis X.env.scope x:=by first | exact Or.inl rfl | exact Or.inr (Or.inl rfl) | exact Or.inr (Or.inr rfl)) (hd:(x == ("__debug__":Str))=false:=by decide)
    (hcd:(x == ("__classdict__":Str))=false:=by decide):PD K X (.Name x pos) (qkB i):=⟨fun _=>(pv i hN hv hd hcd).imp fun σ H Q hq0=>by
  obtain ⟨H0,Φ,ρ,R,E,t,k⟩:=hq0
  unfold qkB at t
  split at t
  · next d h =>
    obtain ⟨v,e,r⟩:=E.sl i d h
    exact ⟨v,e,k d Φ H v t (.refl E.fz) r⟩
  · exact t.elim⟩
theorem dvq (i:Nat) {x:Str} (hN:X.N[i]?=some x:=by rfl) (hv:Vis X.env.scope x:=by first | exact Or.inl rfl | exact Or.inr (Or.inl rfl) | exact Or.inr (Or.inr rfl)) (hd:(x == ("__debug__":Str))=false:=by decide)
    (hcd:(x == ("__classdict__":Str))=false:=by decide):PQ K X (.Name x pos) (qiJ i):=⟨fun _=>(pv i hN hv hd hcd).imp fun σ H Q hq0=>by
  obtain ⟨H0,Φ,ρ,R,E,t,k⟩:=hq0
  unfold qiJ at t
  split at t
  · next d h =>
    obtain ⟨v,e,r⟩:=E.sl i d h
    exact ⟨v,e,k d Φ H v t (.refl E.fz) (.inl r)⟩
  · next ds h =>
    obtain ⟨p,vs,e,_,_,hp,r⟩:=E.owl i ds h
    exact ⟨_,e,k _ Φ H _ t (.refl E.fz) (.inr ⟨p,vs,ds,rfl,rfl,hp,r⟩)⟩
  · exact t.elim⟩
def dC (d:D):TD:=fun _ R=>R d
theorem qhO {v:V} {d:D} (h:PE X e (tC v)) (r:∀ Φ,Rp K Φ d v):PD K X e (dC d):=⟨fun _=>h.imp fun σ H Q hq0=>by obtain ⟨H0,Φ,ρ,R,E,t,k⟩:=hq0;exact k d Φ H v t (.refl E.fz) (r Φ)⟩
theorem qaf {i j}:PD K X (.Constant (.int i) j pos) (dC (.int i)):=qhO qiL fun _=>.int i
theorem qcW {i j}:PD K X (.Constant (.bool i) j pos) (dC (.bl i)):=qhO qj0 fun _=>.bl i
theorem qeo {j}:PD K X (.Constant .none j pos) (dC .non):=qhO qiv fun _=>.non
abbrev RD2:=D→D→(D→Prop)→Prop
def lR2 (K:PySem.W.Frag) (r:RD2):R2:=fun x y H Q=>∃ Φ dx dy R,Same Φ H∧RpQ K Φ H dx x∧RpQ K Φ H dy y∧r dx dy R∧∀ d Φ' H' v,R d→Gr Φ H Φ' H'→Rp K Φ' d v→Q v H'
structure OpD (K:PySem.W.Frag) (X:Cx) (f:Value→Value→Sem Value) (r:RD2):Prop where o:X.K=K→OpR X f (lR2 K r)
def dOp (r:RD2) (ta tb:TD):TD:=fun ρ R=>ta ρ fun x=>tb ρ fun y=>r x y R
theorem qc3 {r:RD2} {σ:St} {H:Hp} {Q:VK} (h:lE K (dOp r ta tb) σ H Q):tOp (lR2 K r) (lQ K ta) (lQ K tb) σ H Q:=by
  obtain ⟨H0,Φ,ρ,R,E,t,k⟩:=h
  exact ⟨H0,Φ,ρ,_,E,t,fun dx Φ1 H1 x t1 g1 rx=>⟨H0,Φ1,ρ,_,E.gr g1,t1,fun dy Φ2 H2 y t2 g2 ry=>⟨Φ2,dx,dy,R,g2.s,rx.gr g2,ry,t2,fun d Φ' H' v r g rr=>k d Φ' H' v r ((g1.trans g2).trans g) rr⟩⟩⟩
theorem qaH {op:Operator} {r:RD2} (ho:OpD K X (binaryOp op) r) (ha:PQ K X a ta) (hb:PQ K X b tb):PD K X (.BinOp a op b pos) (dOp r ta tb) :=
  ⟨fun hK=>(qkg (ho.o hK) (ha.pe hK) (hb.pe hK)).imp fun _ _ _=>qc3⟩
theorem qfZ {op:CmpOp} {r:RD2} (ho:OpD K X (compareOp op) r) (ha:PQ K X a ta) (hb:PQ K X b tb) (hm:behindInMarks op b=false):PD K X (.Compare a [op] [b] pos) (dOp r ta tb) :=
  ⟨fun hK=>(qhs (ho.o hK) (ha.pe hK) (hb.pe hK) hm).imp fun _ _ _=>qc3⟩
def qiw (t:TD):TDB:=fun ρ R=>t ρ fun d=>match d with | .bl b=>R b | _=>False
theorem qe7 {r:RD2} {σ:St} {H:Hp} {Q:Bool→Hp→Prop} (h:lT K (qiw (dOp r ta tb)) σ H Q):qiW (tOp (lR2 K r) (lQ K ta) (lQ K tb)) σ H Q:=by
  obtain ⟨H0,Φ,ρ,R,E,t,k⟩:=h
  refine qc3 ⟨H0,Φ,ρ,_,E,t,fun d Φ' H' v r g rr=>?_⟩
  cases d with
  | bl b=>cases rr;exact ⟨b,rfl,k b Φ' H' r g⟩
  | _=>exact r.elim
theorem qa1 {op:CmpOp} {r:RD2} (ho:OpD K X (compareOp op) r) (ha:PQ K X a ta) (hb:PQ K X b tb) (hm:behindInMarks op b=false):PTD K X (.Compare a [op] [b] pos) (qiw (dOp r ta tb)) :=
  ⟨fun hK=>(qhJ (ho.o hK) (ha.pe hK) (hb.pe hK) hm).imp fun _ _ _=>qe7⟩
abbrev RD1:=D→(D→Prop)→Prop
def dUn (r:RD1) (ta:TD):TD:=fun ρ R=>ta ρ fun x=>r x R
def qkN:RD1:=fun x R=>match x with | .int i=>R (.int (-i)) | _=>False
theorem qgf (ha:PQ K X a ta):PD K X (.UnaryOp .USub a pos) (dUn qkN ta):=⟨fun hK=>(qkb qja (ha.pe hK)).imp fun σ H Q hq0=>by obtain ⟨H0,Φ,ρ,R,E,t,k⟩:=hq0;exact ⟨H0,Φ,ρ,_,E,t,fun dx Φ1 H1 x t1 g1 rx=>by
  cases dx with
  | int i=>exact ⟨i,rx.int,k _ Φ1 H1 _ t1 g1 (.int _)⟩
  | _=>exact t1.elim⟩⟩
def qk0:RD1:=fun x R=>match x with | .bl i=>R (.bl (!i)) | _=>False
theorem qjp (ha:PQ K X a ta):PD K X (.UnaryOp .Not a pos) (dUn qk0 ta):=⟨fun hK=>(qiB (ha.pe hK)).imp fun σ H Q hq0=>by obtain ⟨H0,Φ,ρ,R,E,t,k⟩:=hq0;exact ⟨H0,Φ,ρ,_,E,t,fun dx Φ1 H1 x t1 g1 rx=>by
  cases dx with
  | bl i=>exact ⟨i,rx.bl,k _ Φ1 H1 _ t1 g1 (.bl _)⟩
  | _=>exact t1.elim⟩⟩
def qkr:D→(Bool→Prop)→Prop:=fun d R=>match d with
  | .int i=>R (i != 0) | .bl b=>R b | .non=>R false | .str x=>x.length≤sizeLine∧R ((x.length:Int) != 0) | .lst ds=>R (!ds.isEmpty) | .tup ds=>R (!ds.isEmpty) | .fzl ds=>R (!ds.isEmpty) | .obj _ _=>False | .map _=>False | .exc _ _=>False
theorem qbQ {Φ:Hp} {ds:List D} {vs:List V} (h:RpL K Φ ds vs):(!ds.isEmpty)=!vs.isEmpty:=by
  have:=h.1
  cases ds <;> cases vs <;> simp_all
theorem qiO {Φ H:Hp} {d:D} {v:V} {R:Bool→Prop} (s:Same Φ H) (h:RpQ K Φ H d v) (t:qkr d R):∃ k,qjI K v H k∧R k:=by
  cases d with
  | int i=>rw [h.int];exact ⟨_,rfl,t⟩
  | bl i=>rw [h.bl];exact ⟨_,rfl,t⟩
  | non=>rw [h.non];exact ⟨_,rfl,t⟩
  | str i=>rw [h.str];exact ⟨_,⟨t.1,rfl⟩,t.2⟩
  | lst ds=>obtain ⟨a,vs,rfl,h1,h2⟩:=h.lst s;exact ⟨_,.inl ⟨vs,.of h1,rfl⟩,by rw [← qbQ h2];exact t⟩
  | tup ds=>obtain ⟨a,vs,rfl,h1,_,h2⟩:=h.tup s;exact ⟨_,.inr (.inl ⟨vs,h1,rfl⟩),by rw [← qbQ h2];exact t⟩
  | fzl ds=>obtain ⟨a,vs,rfl,h1,h2⟩:=h.fzl s;exact ⟨_,.inl ⟨vs,h1,rfl⟩,by rw [← qbQ h2];exact t⟩
  | obj C fs=>exact t.elim
  | map kvs=>exact t.elim
  | exc _ _=>exact t.elim
def qlb (t:TD):TDB:=fun ρ R=>t ρ fun d=>qkr d R
theorem qcT (ha:PQ K X a ta) (he:∀ whole,isTrue a X.env whole=(do let v ← whole;standAt a.pos;holding [v] (truthy v))):PTD K X a (qlb ta) :=
  ⟨fun hK=>(qgp (ha.pe hK) he).imp fun σ H Q hq0=>by obtain ⟨H0,Φ,ρ,R,E,t,k⟩:=hq0;exact ⟨H0,Φ,ρ,_,E,t,fun d Φ1 H1 v t1 g1 rv=>by
    obtain ⟨b,h1,h2⟩:=qiO g1.s rv t1
    rw [hK]
    exact ⟨b,h1,k b Φ1 H1 h2 g1⟩⟩⟩
def zOr (t u:TDB):TDB:=fun ρ R=>t ρ fun c=>(c=true→R true)∧(c=false→u ρ R)
def qjE (t:TDB):TDB:=fun ρ R=>t ρ fun c=>R (!c)
theorem PWD.td (h:PWD K X e tt):PTD K X e tt:=⟨fun hK=>(h.pw hK).pt⟩
theorem qey (ha:PTD K X a tt):PWD K X (.BoolOp .Or [a] pos) tt:=⟨fun hK=>qh6 (ha.pt hK)⟩
theorem qf6 (ha:PTD K X a tt) (hb:PWD K X (.BoolOp .Or (b::es) pos) tu):PWD K X (.BoolOp .Or (a::b::es) pos) (zOr tt tu) :=
  ⟨fun hK=>(qjY (ha.pt hK) (hb.pw hK)).imp fun σ H Q hq0=>by obtain ⟨H0,Φ,ρ,R,E,t,k⟩:=hq0;exact ⟨H0,Φ,ρ,_,E,t,fun c Φ1 H1 r g=>by
    cases c with
    | true=>rw [if_pos rfl];exact k _ Φ1 H1 (r.1 rfl) g
    | false=>rw [if_neg (by decide)];exact ⟨H0,Φ1,ρ,R,E.gr g,r.2 rfl,fun b Φ' H' rb g'=>k b Φ' H' rb (g.trans g')⟩⟩⟩
theorem qdw (ha:PTD K X a tt):PTD K X (.UnaryOp .Not a pos) (qjE tt) :=
  ⟨fun hK=>(qiR (ha.pt hK)).imp fun σ H Q hq0=>by obtain ⟨H0,Φ,ρ,R,E,t,k⟩:=hq0;exact ⟨H0,Φ,ρ,_,E,t,fun c Φ1 H1 r g=>k _ Φ1 H1 r g⟩⟩
def qk4 (t u:TD):TD:=fun ρ R=>t ρ fun c=>match c with | .bl c=>(c=true→u ρ R)∧(c=false→R (.bl false)) | _=>False
def dOr (t u:TD):TD:=fun ρ R=>t ρ fun c=>match c with | .bl c=>(c=true→R (.bl true))∧(c=false→u ρ R) | _=>False
theorem qeR {op} (h:PD K X a ta):PD K X (.BoolOp op [a] pos) ta:=⟨fun hK=>qiI (h.pe hK)⟩
theorem qeJ (ha:PD K X a ta) (hb:PD K X (.BoolOp .And (b::es) pos) tb):PD K X (.BoolOp .And (a::b::es) pos) (qk4 ta tb) :=
  ⟨fun hK=>(qjq (ha.pe hK) (hb.pe hK)).imp fun σ H Q hq0=>by obtain ⟨H0,Φ,ρ,R,E,t,k⟩:=hq0;exact ⟨H0,Φ,ρ,_,E,t,fun c Φ1 H1 v r g rv=>by
    cases c with
    | bl c =>
      cases rv
      refine ⟨c,rfl,?_⟩
      cases c with
      | true=>rw [if_pos rfl];exact ⟨H0,Φ1,ρ,R,E.gr g,r.1 rfl,fun b Φ' H' v rb g' rr=>k b Φ' H' v rb (g.trans g') rr⟩
      | false=>rw [if_neg (by decide)];exact k _ Φ1 H1 _ (r.2 rfl) g (.bl _)
    | _=>exact r.elim⟩⟩
theorem qh2 (ha:PD K X a ta) (hb:PD K X (.BoolOp .Or (b::es) pos) tb):PD K X (.BoolOp .Or (a::b::es) pos) (dOr ta tb) :=
  ⟨fun hK=>(qj7 (ha.pe hK) (hb.pe hK)).imp fun σ H Q hq0=>by obtain ⟨H0,Φ,ρ,R,E,t,k⟩:=hq0;exact ⟨H0,Φ,ρ,_,E,t,fun c Φ1 H1 v r g rv=>by
    cases c with
    | bl c =>
      cases rv
      refine ⟨c,rfl,?_⟩
      cases c with
      | true=>rw [if_pos rfl];exact k _ Φ1 H1 _ (r.1 rfl) g (.bl _)
      | false=>rw [if_neg (by decide)];exact ⟨H0,Φ1,ρ,R,E.gr g,r.2 rfl,fun b Φ' H' v rb g' rr=>k b Φ' H' v rb (g.trans g') rr⟩
    | _=>exact r.elim⟩⟩
def qjz:TDL:=fun _ R=>R []
def qiD (t:TD) (u:TDL):TDL:=fun ρ R=>t ρ fun d=>u ρ fun ds=>R (d::ds)
theorem qap:PAD K X [] qjz:=⟨fun _=>pa_nil.imp fun σ H Q hq0=>by obtain ⟨H0,Φ,ρ,R,E,t,k⟩:=hq0;exact k [] Φ H [] t (.refl E.fz) .nil rfl⟩
theorem qac (ha:PD K X e t) (hr:PAD K X es tl) (hs:starEach (e::es) X.env=(false,eval e X.env)::starEach es X.env):PAD K X (e::es) (qiD t tl) :=
  ⟨fun hK=>(qaM (ha.pe hK) (hr.pa hK) hs).imp fun σ H Q hq0=>by obtain ⟨H0,Φ,ρ,R,E,t,k⟩:=hq0;exact ⟨H0,Φ,ρ,_,E,t,fun d Φ1 H1 v r g rv=>⟨H0,Φ1,ρ,_,E.gr g,r,fun ds Φ2 H2 vs r2 g2 rl hl =>
    k _ Φ2 H2 _ r2 (g.trans g2) (.cons (rv.same g2.f) rl) (by rw [List.length_cons,List.length_cons,hl])⟩⟩⟩
def qlj (t:TDL):TD:=fun ρ R=>t ρ fun ds=>R (.tup ds)
def qkG (t:TDL):TDL:=t
theorem qgU {n:Nat} (h:Nat.ble n 1000=true):n≤sizeLine:=Nat.le_trans (Nat.le_of_ble_eq_true h) (by decide)
theorem qiT {x1} (h:PAD K X es tl) (hes:Nat.ble es.length 1000=true:=by rfl):PD K X (.Tuple es x1 pos) (qlj tl) :=
  ⟨fun hK=>(qiy (h.pa hK)).imp fun σ H Q hq0=>by obtain ⟨H0,Φ,ρ,R,E,t,k⟩:=hq0;exact ⟨H0,Φ,ρ,_,E,t,fun ds Φ1 H1 vs r g rl hl=>⟨by rw [rl.1,hl];exact qgU hes,fun p hp =>
    k _ _ _ _ r (g.trans (.new g.s hp _)) ((rl.same (qaq (g.s.free hp) _)).tup qae)⟩⟩⟩
theorem qcc (h:PAD K X es tl) (hes:Nat.ble es.length 1000=true:=by rfl):PF K X (.List es pos) (qkG tl) :=
  ⟨fun hK=>(qip (h.pa hK)).imp fun σ H Q hq0=>by obtain ⟨H0,Φ,ρ,R,E,t,k⟩:=hq0;exact ⟨H0,Φ,ρ,_,E,t,fun ds Φ1 H1 vs r g rl hl=>⟨by rw [rl.1,hl];exact qgU hes,fun p hp =>
    k _ _ _ p vs r (g.trans (.fresh g.s hp _)) (g.h.free hp) (g.s.free hp) qae rl⟩⟩⟩
end
end L2
namespace L2
open PySem PySem.Spec PyProof.Rows PySem.Builtin PySem.Builtin.Str
section
variable {K : PySem.W.Frag} {X : Cx}
def qfJ (z:Str) (n:Nat):Str:=⟨((List.replicate n z.cps.toList).flatten).toArray⟩
theorem qgH (z:Str):qfJ z 1=z:=by
  unfold qfJ
  simp
theorem qee:∀ (n:Nat) (x acc:Array Nat),(List.replicate n x).foldl (·++·) acc=acc++((List.replicate n x.toList).flatten).toArray
  | 0,x,acc=>by simp
  | n+1,x,acc=>by
    rw [List.replicate_succ,List.foldl_cons,qee n x (acc++x),List.replicate_succ,List.flatten_cons]
    apply Array.ext'
    simp
theorem qgP (z:Str) (n:Nat):(qfJ z n).length=z.length*n:=by
  unfold qfJ Str.length
  simp [Nat.mul_comm]
def qko:R2:=fun x y H Q=>∃ z k,x=.str z∧y=.int k∧-(2 ^ 62)≤k∧k<2 ^ 62∧z.length*k.toNat≤sizeLine∧z.length≤sizeLine∧Q (.str (qfJ z k.toNat)) H
theorem qhT:OpR X (binaryOp .Mult) qko:=by
  intro pins s σ H x y v u Q I rx ry h
  obtain ⟨z,k,rfl,rfl,h1,h2,h3,h4,q⟩:=h
  obtain ⟨t,rfl⟩:=rx
  obtain ⟨t',rfl⟩:=ry
  refine P.mul_str (by rw [decide_eq_false (by omega),decide_eq_false (by omega)];rfl) (fun c1 c2=>?_) (fun c1 c2=>?_) ?_
  · intro hc
    have hk:0<k:=by omega
    have h5:((z.length:Int))*k≤2 ^ 24:=by
      have:((z.length*k.toNat:Nat):Int)≤(sizeLine:Int):=Int.ofNat_le.mpr h3
      rw [Int.natCast_mul,Int.toNat_of_nonneg (by omega)] at this
      exact this
    have h6:(z.length:Int)≤(2 ^ 63 - 1) / k:=(Int.le_ediv_iff_mul_le hk).mpr (Int.le_trans h5 (by decide))
    omega
  · unfold tooLong
    exact decide_eq_false (by omega)
  · by_cases c:k<1
    · rw [if_pos c]
      have e:k.toNat=0:=by omega
      rw [e] at q
      exact ⟨by decide,.str Str.empty,H,I.tok _,⟨_,rfl⟩,q⟩
    · rw [if_neg c]
      by_cases c2:(k == 1 || z.length == 0)=true
      · rw [if_pos c2]
        have e:qfJ z k.toNat=z:=by
          rw [Bool.or_eq_true] at c2
          rcases c2 with c2 | c2
          · have:=eq_of_beq c2
            subst this
            exact qgH z
          · have hz:z.cps.toList=[]:=by
              have:=eq_of_beq c2
              unfold Str.length at this
              exact List.length_eq_zero_iff.mp (by rw [Array.length_toList];exact this)
            unfold qfJ
            rw [hz]
            have hz2:z.cps=#[]:=by
              apply Array.ext'
              rw [hz]
            apply Str.ext'
            rw [hz2]
            simp
        rw [e] at q
        exact ⟨.str z,H,I,⟨t,rfl⟩,q⟩
      · rw [if_neg c2]
        have e:(⟨(List.replicate k.toNat z.cps).foldl (·++·) #[]⟩:Str)=qfJ z k.toNat:=by
          rw [qee]
          unfold qfJ
          simp
        rw [e]
        refine ⟨by rw [qgP];exact h3,.str (qfJ z k.toNat),H,I.tok _,⟨_,rfl⟩,q⟩
end
def qj3:R2:=fun x y H Q=>∃ a b xs ys,x=.ref a∧y=.ref b∧H a=some (.tup xs)∧H b=some (.tup ys)∧xs.length+ys.length≤sizeLine∧∀ p H',Same H H'→H' p=some (.tup (xs++ys))→Q (.ref p) H'
theorem qhW {X:Cx}:OpR X (binaryOp .Add) qj3:=by
  intro pins s σ H x y v u Q I rx ry h
  obtain ⟨a,b,xs,ys,rfl,rfl,ha,hb,hz,q⟩:=h
  by_cases hx:xs=[]
  · subst hx
    cases rx
    cases ry
    obtain ⟨its,r1,p1,_⟩:=I.tuple (SqT.of ha)
    obtain ⟨its2,r2,p2,_⟩:=I.tuple (SqT.of hb)
    exact qhV p1 p2 (r1.nil_iff.mpr rfl) ⟨.ref b,H,I,rfl,q b H (Same.refl H) hb⟩
  · refine qhB pins s σ H _ _ v u Q I rx ry ⟨a,b,xs,ys,rfl,rfl,SqT.of ha,SqT.of hb,hx,hz,fun e=>?_,fun _ p hp=>q p _ (qaq hp _) qae⟩
    subst e
    exact q a H (Same.refl H) (by rw [List.append_nil];exact ha)
def qkh:R2:=fun x y H Q=>∃ (a:Addr) (k:Int) (xs:List V),x=.ref a∧y=.int k∧H a=some (.tup xs)∧xs≠[]∧0≤k∧k≤1000∧k.toNat*xs.length≤1000∧∀ p H',Same H H'→H' p=some (.tup (List.replicate k.toNat xs).flatten)→Q (.ref p) H'
theorem qhg {X:Cx}:OpR X (binaryOp .Mult) qkh:=by
  intro pins s σ H x y v u Q I rx ry h
  obtain ⟨a,k,xs,rfl,rfl,ha,hx,h0,h1,hz,q⟩:=h
  cases rx
  obtain ⟨t,rfl⟩:=ry
  obtain ⟨its,r,p1,_⟩:=I.tuple (SqT.of ha)
  have hne:its≠[]:=fun z=>hx (r.nil_iff.mp z)
  have hl:=r.length
  have hits:its.toArray.isEmpty=false:=by cases its with | nil=>exact absurd rfl hne | cons _ _=>rfl
  obtain ⟨⟨cls,dd,data,sl⟩,ho,hc,n,hd⟩:=id p1
  simp only at hc hd
  subst hc hd
  refine wpAny_binaryOp_repeat_ref (T:="tuple") (U:="int") (by decide) ⟨_,ho,rfl⟩ (fun s'=>typeIs_int s' k t) qbP F.fills_int_mul F.slot_int_rmul qcH F.slot_int_index.lookup
    (call_meets F.slot_int_rmul (typeIs_int s k t) F.entry_int_rmul (F.args_int_rmul_2 _ _) (qco k t a its.toArray n dd sl)
      ⟨ho,rfl,⟨_,ho,rfl⟩,?_⟩)
  have hnew:List.foldl (fun x1 x2=>x1++x2) #[] (List.replicate k.toNat its.toArray)=(List.replicate k.toNat its).flatten.toArray:=by
    have:=qb6 its k.toNat []
    rw [List.nil_append] at this
    exact this
  have hc0:¬ (decide (k < -(2 ^ 63)) || decide (k≥2 ^ 63))=true:=by
    rw [decide_eq_false (by omega),decide_eq_false (by omega)]
    exact Bool.false_ne_true
  by_cases c1:k=1
  · subst c1
    refine call_meets F.slot_tuple_mul ⟨_,ho,rfl⟩ F.entry_tuple_mul (F.args_tuple_mul_2 _ _) (qd1 a its.toArray n dd sl t) ⟨ho,?_⟩
    refine ⟨.ref a,H,I,rfl,q a H (Same.refl H) ?_⟩
    show H a=some (.tup (List.replicate 1 xs).flatten)
    rw [List.replicate_one,List.flatten_cons,List.flatten_nil,List.append_nil]
    exact ha
  · have hc1:¬ (its.toArray.isEmpty || k == 1)=true:=by
      rw [hits,beq_eq_false_iff_ne.mpr c1]
      exact Bool.false_ne_true
    have lay:∀ ys:List V,∀ us:List Value,ys.length≤sizeLine→Vals ys us→EP X pins σ Q (.ref s.heap.objs.size) { s with heap:=s.heap.push { cls:=Value.type "tuple",data:=Data.seq us.toArray },toks:=s.toks }∨¬ (∀ p H',Same H H'→H' p=some (.tup ys)→Q (.ref p) H'):=fun ys us hzz rr=>by
      by_cases qq:∀ p H',Same H H'→H' p=some (.tup ys)→Q (.ref p) H'
      · refine .inl ⟨.ref s.heap.objs.size,_,I.laid (t':=s.toks) (o:=.tup ys) (fun b ob z=>Heap.get?_push_of_some _ z) (Nat.le_refl _) ?_,rfl,qq _ _ (qaq (I.hok.fresh (Nat.le_refl _)) _) qae⟩
        exact ⟨hzz,_,rr,IsTupD.new _ _⟩
      · exact .inr qq
    by_cases c0:k=0
    · subst c0
      refine call_meets F.slot_tuple_mul ⟨_,ho,rfl⟩ F.entry_tuple_mul (F.args_tuple_mul_2 _ _) (qdU a its.toArray n dd sl 0 t hc0 hc1 rfl) ⟨ho,?_⟩
      rcases lay [] [] (Nat.zero_le _) .nil with z | z
      · exact z
      · exact absurd q z
    · have hc2:¬ (decide (k≤0) || its.toArray.isEmpty)=true:=by
        rw [hits,decide_eq_false (by omega)]
        exact Bool.false_ne_true
      have hlen:its.length*k.toNat≤1000:=by rw [← hl,Nat.mul_comm];exact hz
      have hlenI:(its.toArray.size:Int)*k≤1000:=by
        rw [List.size_toArray]
        have e:k=((k.toNat:Nat):Int):=by omega
        rw [e]
        exact_mod_cast hlen
      have hs:(1000:Int)≤((sizeLine:Nat):Int):=by exact_mod_cast qhU (Nat.le_refl 1000)
      have hflat:(List.replicate k.toNat its).flatten.length≤1000:=by rw [qdM,Nat.mul_comm];exact hlen
      refine call_meets F.slot_tuple_mul ⟨_,ho,rfl⟩ F.entry_tuple_mul (F.args_tuple_mul_2 _ _) (qea a its.toArray n dd sl k t hc0 hc1 hc2 (by omega) (by unfold Builtin.Tuple.tupleTooMany;rw [decide_eq_false (by omega)];exact Bool.false_ne_true) (by rw [hnew,List.size_toArray];exact qhU hflat)) ⟨ho,?_⟩
      rw [hnew]
      rcases lay (List.replicate k.toNat xs).flatten (List.replicate k.toNat its).flatten (by rw [qdM];exact qhU hz) (r.rep k.toNat) with z | z
      · exact z
      · exact absurd q z
end L2
namespace L2
open PySem PySem.Spec PyProof.Rows
section
variable {K : PySem.W.Frag} {X : Cx} {e a b c : Expr} {es : List Expr} {pos : Pos} {t ta tb : TD} {tf : TDL} {tl : TDL} {tt tu : TDB}
def qls:RD2:=fun x y R=>match x,y with
  | .int i,.int j=>R (.int (i+j))
  | .str i,.str j=>i.length+j.length≤sizeLine∧R (.str (i++j))
  | .lst xs,.lst ys=>xs.length+ys.length≤sizeLine∧NF (xs++ys) fun zs=>R (.lst zs)
  | .tup xs,.tup ys=>xs.length+ys.length≤sizeLine∧NF (xs++ys) fun zs=>R (.tup zs)
  | _,_=>False
theorem qbM:OpD K X (binaryOp .Add) qls:=⟨fun hK pins s σ H x y v u Q I rx ry hq0=>by
  obtain ⟨Φ,dx,dy,R,sm,hx,hy,h,k⟩:=hq0
  cases dx with
  | int i =>
    cases dy with
    | int j=>cases hx.int;cases hy.int;exact qji pins s σ H _ _ v u Q I rx ry ⟨i,j,rfl,rfl,k _ Φ H _ h (.refl sm) (.int _)⟩
    | _=>exact h.elim
  | str i =>
    cases dy with
    | str j=>cases hx.str;cases hy.str;exact qez pins s σ H _ _ v u Q I rx ry ⟨i,j,rfl,rfl,h.1,k _ Φ H _ h.2 (.refl sm) (.str _)⟩
    | _=>exact h.elim
  | lst xs =>
    cases dy with
    | lst ys =>
      obtain ⟨a,vs,rfl,h1,h2⟩:=hx.lst sm
      obtain ⟨b,ws,rfl,h3,h4⟩:=hy.lst sm
      exact qir pins s σ H _ _ v u Q I rx ry ⟨a,b,vs,ws,rfl,rfl,h1,h3,by rw [h2.1,h4.1];exact h.1,fun p hp=>k _ _ _ _ h.2.get (.new sm hp _) (((h2.append h4).same (qaq (sm.free hp) _)).lst qae)⟩
    | _=>exact h.elim
  | tup xs =>
    cases dy with
    | tup ys =>
      obtain ⟨a,vs,rfl,h1,h1',h2⟩:=hx.tup sm
      obtain ⟨b,ws,rfl,h3,h3',h4⟩:=hy.tup sm
      exact qhW pins s σ H _ _ v u Q I rx ry ⟨a,b,vs,ws,rfl,rfl,sm _ _ h1',sm _ _ h3',by rw [h2.1,h4.1];exact h.1,fun p H' s' q=>by
        obtain ⟨Φ',g,q'⟩:=Gr.adoptT sm s' q
        exact k _ Φ' H' _ h.2.get g (((h2.append h4).same g.f).tup q')⟩
    | _=>exact h.elim
  | _=>exact h.elim⟩
def zI (C:Int→Int→Prop) (g:Int→Int→D):RD2:=fun x y R=>match x,y with | .int i,.int j=>C i j∧R (g i j) | _,_=>False
def zI0 (g:Int→Int→D):RD2:=fun x y R=>match x,y with | .int i,.int j=>R (g i j) | _,_=>False
theorem qhh {f:Value→Value→Sem Value} {C:Int→Int→Prop} {g:Int→Int→Int} (h:OpR X f (rI C fun i j=>.int (g i j))):OpD K X f (zI C fun i j=>.int (g i j)) :=
  ⟨fun hK pins s σ H x y v u Q I rx ry hq0=>by
    obtain ⟨Φ,dx,dy,R,sm,hx,hy,q,k⟩:=hq0
    cases dx with
    | int i =>
      cases dy with
      | int j=>cases hx.int;cases hy.int;exact h pins s σ H _ _ v u Q I rx ry ⟨i,j,rfl,rfl,q.1,k _ Φ H _ q.2 (.refl sm) (.int _)⟩
      | _=>exact q.elim
    | _=>exact q.elim⟩
theorem qiX {f:Value→Value→Sem Value} {g:Int→Int→Int} (h:OpR X f (rI0 fun i j=>.int (g i j))):OpD K X f (zI0 fun i j=>.int (g i j)) :=
  ⟨fun hK pins s σ H x y v u Q I rx ry hq0=>by
    obtain ⟨Φ,dx,dy,R,sm,hx,hy,q,k⟩:=hq0
    cases dx with
    | int i =>
      cases dy with
      | int j=>cases hx.int;cases hy.int;exact h pins s σ H _ _ v u Q I rx ry ⟨i,j,rfl,rfl,k _ Φ H _ q (.refl sm) (.int _)⟩
      | _=>exact q.elim
    | _=>exact q.elim⟩
theorem qfb {f:Value→Value→Sem Value} {g:Int→Int→Bool} (h:OpR X f (rI0 fun i j=>.bl (g i j))):OpD K X f (zI0 fun i j=>.bl (g i j)) :=
  ⟨fun hK pins s σ H x y v u Q I rx ry hq0=>by
    obtain ⟨Φ,dx,dy,R,sm,hx,hy,q,k⟩:=hq0
    cases dx with
    | int i =>
      cases dy with
      | int j=>cases hx.int;cases hy.int;exact h pins s σ H _ _ v u Q I rx ry ⟨i,j,rfl,rfl,k _ Φ H _ q (.refl sm) (.bl _)⟩
      | _=>exact q.elim
    | _=>exact q.elim⟩
theorem qf8:OpD K X (binaryOp .Sub) (zI0 fun i j=>.int (i - j)):=qiX qh7
theorem qcm:OpD K X (binaryOp .FloorDiv) (zI CDivB fun i j=>.int (i / j)):=qhh qgI
theorem qdO:OpD K X (binaryOp .Mod) (zI (fun _ j=>0<j) fun i j=>.int (i % j)):=qhh qiA
theorem qhm:OpD K X (binaryOp .Pow) (zI qks fun i j=>.int (i ^ j.toNat)):=qhh qi0
theorem qgN:OpD K X (compareOp .Lt) (zI0 fun i j=>.bl (decide (i<j))):=qfb qj5
theorem qkV:OpD K X (compareOp .Gt) (zI0 fun i j=>.bl (decide (j<i))):=qfb qkk
theorem qkX:OpD K X (compareOp .GtE) (zI0 fun i j=>.bl (decide (j≤i))):=qfb qkm
def qll:RD2:=fun x y R=>match x,y with
  | .int i,.int j=>IntMulOk i j∧R (.int (i*j))
  | .lst xs,.int k=>(-(2 ^ 63)≤k∧k<2 ^ 63∧xs.length*k.toNat≤sizeLine)∧NF (List.replicate k.toNat xs).flatten fun zs=>R (.lst zs)
  | .tup xs,.int k=>(xs≠[]∧0≤k∧k≤1000∧k.toNat*xs.length≤1000)∧NF (List.replicate k.toNat xs).flatten fun zs=>R (.tup zs)
  | .str z,.int k=>(-(2 ^ 62)≤k∧k<2 ^ 62∧z.length*k.toNat≤sizeLine∧z.length≤sizeLine)∧NF (qfJ z k.toNat) fun y=>R (.str y)
  | _,_=>False
theorem qaU:OpD K X (binaryOp .Mult) qll:=⟨fun hK pins s σ H x y v u Q I rx ry hq0=>by
  obtain ⟨Φ,dx,dy,R,sm,hx,hy,h,k⟩:=hq0
  cases dx with
  | int i =>
    cases dy with
    | int j=>cases hx.int;cases hy.int;exact qhd pins s σ H _ _ v u Q I rx ry ⟨i,j,rfl,rfl,h.1,k _ Φ H _ h.2 (.refl sm) (.int _)⟩
    | _=>exact h.elim
  | lst xs =>
    cases dy with
    | int j =>
      obtain ⟨a,vs,rfl,h1,h2⟩:=hx.lst sm
      cases hy.int
      exact qi4 pins s σ H _ _ v u Q I rx ry ⟨a,j,vs,rfl,rfl,h1,h.1.1,h.1.2.1,by rw [h2.1];exact h.1.2.2,fun p hp=>k _ _ _ _ h.2.get (.new sm hp _) (((h2.rep _).same (qaq (sm.free hp) _)).lst qae)⟩
    | _=>exact h.elim
  | tup xs =>
    cases dy with
    | int j =>
      obtain ⟨a,vs,rfl,h1,h1',h2⟩:=hx.tup sm
      cases hy.int
      have hne:vs≠[]:=fun e=>h.1.1 (List.length_eq_zero_iff.mp (by rw [← h2.1,e];rfl))
      exact qhg pins s σ H _ _ v u Q I rx ry ⟨a,j,vs,rfl,rfl,sm _ _ h1',hne,h.1.2.1,h.1.2.2.1,by rw [h2.1];exact h.1.2.2.2,fun p H' s' q=>by
        obtain ⟨Φ',g,q'⟩:=Gr.adoptT sm s' q
        exact k _ Φ' H' _ h.2.get g (((h2.rep _).same g.f).tup q')⟩
    | _=>exact h.elim
  | str z =>
    cases dy with
    | int j =>
      cases hx.str
      cases hy.int
      exact qhT pins s σ H _ _ v u Q I rx ry ⟨z,j,rfl,rfl,h.1.1,h.1.2.1,h.1.2.2.1,h.1.2.2.2,k _ Φ H _ h.2.get (.refl sm) (.str _)⟩
    | _=>exact h.elim
  | _=>exact h.elim⟩
end
def cmL (f:D→D→Option Bool):List D→List D→Option Bool
  | [],[]=>some true
  | x::xs,y::ys=>(f x y).bind fun b=>(cmL f xs ys).map (b && ·)
  | _,_=>some false
def cmB:Nat→D→D→Option Bool
  | _,.int i,.int j=>some (i == j)
  | _,.bl i,.bl j=>some (i == j)
  | _,.str i,.str j=>some (i == j)
  | _,.non,.non=>some true
  | n+1,.tup xs,.tup ys=>cmL (cmB n) xs ys
  | n+1,.lst xs,.lst ys=>if xs.length=ys.length then cmL (cmB n) xs ys else some false
  | _,_,_=>none
theorem qb9 {f:D→D→Option Bool}:∀ {xs ys:List D} {b:Bool},cmL f xs ys=some b→∃ g:Nat→Bool,(∀ (j:Nat) (x y:D),xs[j]?=some x→ys[j]?=some y→f x y=some (g j))∧b=((List.range (min xs.length ys.length)).all g && xs.length == ys.length)
  | [],[],b,h=>by cases h;exact ⟨fun _=>true,fun j x y hx=>by simp at hx,by simp⟩
  | [],_::_,b,h=>by cases h;exact ⟨fun _=>true,fun j x y hx=>by simp at hx,by simp⟩
  | _::_,[],b,h=>by cases h;exact ⟨fun _=>true,fun j x y _ hy=>by simp at hy,by simp⟩
  | x::xs,y::ys,b,h=>by
    unfold cmL at h
    cases e:f x y with
    | none=>rw [e] at h;cases h
    | some c =>
      cases e2:cmL f xs ys with
      | none=>rw [e,e2] at h;cases h
      | some c2 =>
        rw [e,e2] at h
        cases h
        obtain ⟨g,h1,h2⟩:=qb9 e2
        refine ⟨fun j=>match j with | 0=>c | j+1=>g j,fun j u v hu hv=>?_,?_⟩
        · cases j with
          | zero=>cases hu;cases hv;exact e
          | succ j=>exact h1 j u v hu hv
        · have em:min (x::xs).length (y::ys).length=min xs.length ys.length+1:=by simp only [List.length_cons];omega
          have el:((x::xs).length == (y::ys).length)=(xs.length == ys.length):=by simp
          rw [em,el,List.range_succ_eq_map,List.all_cons,List.all_map,h2,Bool.and_assoc]
          rfl
section
variable {K : PySem.W.Frag} {X : Cx} {pins : List (Addr × Obj)} {σ : St} {Φ H : Hp} {s : Shared}
theorem qie {n:Nat} {g:Nat→Bool} (h:∀ j,j<n→g j=true):(List.range n).all g=true:=by
  rw [List.all_eq_true]
  intro j hj
  exact h j (List.mem_range.mp hj)
theorem qan {α:Type} {xs:List α} {j:Nat} (h:j<xs.length):xs[j]?=some xs[j]:=by simp [h]
theorem qfo (hK:X.K=K) (I:Inv X pins σ H s) (sm:Same Φ H):∀ (n:Nat) {d e:D} {b:Bool} {v:V},cmB n d e=some b→Rp K Φ d v→Rp K Φ e v→b=true:=by
  intro n
  induction n with
  | zero =>
    intro d e b v h r1 r2
    cases r1 with
    | int i=>cases r2;have h':some (i == i)=some b:=h;cases h';simp
    | bl i=>cases r2;have h':some (i == i)=some b:=h;cases h';simp
    | str i=>cases r2;have h':some (i == i)=some b:=h;cases h';simp
    | non=>cases r2;cases h;rfl
    | tup _ _ _=>cases r2 <;> cases h
    | lst _ _ _=>cases r2 <;> cases h
    | fzl _ _ _=>cases r2 <;> cases h
    | obj _ _ _ _=>cases r2 <;> cases h
    | map _ _ _=>cases r2 <;> cases h
    | exc0 _ _=>cases r2 <;> cases h
    | exc1 _ _ _ _=>cases r2 <;> cases h
  | succ n ih =>
    intro d e b v h r1 r2
    cases r1 with
    | int i=>cases r2;have h':some (i == i)=some b:=h;cases h';simp
    | bl i=>cases r2;have h':some (i == i)=some b:=h;cases h';simp
    | str i=>cases r2;have h':some (i == i)=some b:=h;cases h';simp
    | non=>cases r2;cases h;rfl
    | @tup a vs xs h1 h2 h3=>cases r2 with
      | @tup _ ws ys k1 k2 k3 =>
        have hvw:vs=ws:=I.tuple_inj (.of (sm _ _ h1)) (.of (sm _ _ k1))
        subst hvw
        obtain ⟨g,hg,hb⟩:=qb9 (show cmL (cmB n) xs ys=some b from h)
        rw [hb,qie fun j hj=>?_]
        · simp;omega
        · have j0:j<vs.length:=by omega
          have j1:j<xs.length:=by omega
          have j2:j<ys.length:=by omega
          exact ih (hg j _ _ (qan j1) (qan j2)) (h3 j _ _ (qan j0) (qan j1)) (k3 j _ _ (qan j0) (qan j2))
      | _=>cases h
    | @lst a vs xs h1 h2 h3=>cases r2 with
      | @lst _ ws ys k1 k2 k3 =>
        have hvw:vs=ws:=by rw [h1] at k1;cases k1;rfl
        subst hvw
        have h':(if xs.length=ys.length then cmL (cmB n) xs ys else some false)=some b:=h
        rw [if_pos (by omega)] at h'
        obtain ⟨g,hg,hb⟩:=qb9 h'
        rw [hb,qie fun j hj=>?_]
        · simp;omega
        · have j0:j<vs.length:=by omega
          have j1:j<xs.length:=by omega
          have j2:j<ys.length:=by omega
          exact ih (hg j _ _ (qan j1) (qan j2)) (h3 j _ _ (qan j0) (qan j1)) (k3 j _ _ (qan j0) (qan j2))
      | _=>cases h
    | fzl _ _ _=>cases r2 <;> cases h
    | obj _ _ _ _=>cases r2 <;> cases h
    | map _ _ _=>cases r2 <;> cases h
    | exc0 _ _=>cases r2 <;> cases h
    | exc1 _ _ _ _=>cases r2 <;> cases h
open PySem.SeqAt in
theorem qfl {n:Nat} {d e:D} {b:Bool} {x y:V} (h:cmB n d e=some b) (rx:Rp K Φ d x) (ry:Rp K Φ e y) (hf:(∀ a,x≠.ref a)) {A:Around} {u v:Value} (ru:RelV x u) (rv:RelV y v):EqAt A s u v b∧RcAt A s u v b∧RcNeAt A s u v (!b):=by
  cases rx with
  | int i=>cases ry with
    | int j =>
      obtain ⟨t,rfl⟩:=ru;obtain ⟨t',rfl⟩:=rv
      have h':some (i == j)=some b:=by cases n <;> exact h
      cases h'
      exact ⟨EqAt.int_int i t j t',RcAt.int_int i t j t',RcNeAt.int_int i t j t'⟩
    | _=>cases n <;> cases h
  | bl i=>cases ry with
    | bl j =>
      cases ru;cases rv
      have h':some (i == j)=some b:=by cases n <;> exact h
      cases h'
      exact ⟨EqAt.bool_bool i j,RcAt.bool_bool i j,RcNeAt.bool_bool i j⟩
    | _=>cases n <;> cases h
  | str i=>cases ry with
    | str j =>
      obtain ⟨t,rfl⟩:=ru;obtain ⟨t',rfl⟩:=rv
      have h':some (i == j)=some b:=by cases n <;> exact h
      cases h'
      exact ⟨EqAt.str_str i t j t',RcAt.str_str i t j t',RcNeAt.str_str i t j t'⟩
    | _=>cases n <;> cases h
  | non=>cases ry with
    | non =>
      cases ru;cases rv
      have h':some true=some b:=by cases n <;> exact h
      cases h'
      exact ⟨EqAt.same _,RcAt.none_none,RcNeAt.none_none⟩
    | _=>cases n <;> cases h
  | tup _ _ _=>exact absurd rfl (hf _)
  | lst _ _ _=>exact absurd rfl (hf _)
  | fzl _ _ _=>exact absurd rfl (hf _)
  | obj _ _ _ _=>exact absurd rfl (hf _)
  | map _ _ _=>exact absurd rfl (hf _)
  | exc0 _ _=>exact absurd rfl (hf _)
  | exc1 _ _ _ _=>exact absurd rfl (hf _)
open PySem.SeqAt in
theorem qg2 (hK:X.K=K) (I:Inv X pins σ H s) (sm:Same Φ H):∀ (n:Nat) {d e:D} {b:Bool} {x y:V},cmB n d e=some b→Rp K Φ d x→Rp K Φ e y →
    ∀ (A:Around) (u v:Value),A.units+n<cLine→RelV x u→RelV y v→EqAt A s u v b∧RcAt A s u v b∧RcNeAt A s u v (!b):=by
  intro n
  induction n with
  | zero =>
    intro d e b x y h rx ry A u v hu ru rv
    refine qfl h rx ry (fun a ea=>?_) ru rv
    subst ea
    cases rx <;> cases ry <;> cases h
  | succ n ih =>
    intro d e b x y h rx ry A u v hu ru rv
    by_cases hf:∀ a,x≠.ref a
    · exact qfl h rx ry hf ru rv
    have hu':A.units<cLine:=by omega
    cases rx with
    | int i=>exact absurd (fun a e=>nomatch e) hf
    | bl i=>exact absurd (fun a e=>nomatch e) hf
    | str i=>exact absurd (fun a e=>nomatch e) hf
    | non=>exact absurd (fun a e=>nomatch e) hf
    | @tup a vs xs h1 h2 h3=>cases ry with
      | @tup c ws ys k1 k2 k3 =>
        cases ru;cases rv
        obtain ⟨g,hg,hb⟩:=qb9 (show cmL (cmB n) xs ys=some b from h)
        obtain ⟨its,r1,p1,_⟩:=I.sqb (b:=false) (show SqT X.K H a vs from .of (sm _ _ h1))
        obtain ⟨its',r2,p2,_⟩:=I.sqb (b:=false) (show SqT X.K H c ws from .of (sm _ _ k1))
        have l1:=Vals.length r1
        have l2:=Vals.length r2
        have he:∀ j (j1:j<its.toArray.size) (j2:j<its'.toArray.size),EqAt A.in1 s its.toArray[j] its'.toArray[j] (g j):=by
          intro j j1 j2
          simp only [List.size_toArray] at j1 j2
          obtain ⟨x,hx,rx⟩:=Vals.get' r1 j1
          obtain ⟨y,hy,ry⟩:=Vals.get' r2 j2
          have i1:j<xs.length:=by omega
          have i2:j<ys.length:=by omega
          exact (ih (hg j _ _ (qan i1) (qan i2)) (h3 j x _ hx (qan i1)) (k3 j y _ hy (qan i2)) A.in1 _ _ (by show A.units+1+n<cLine;omega) rx ry).1
        have R:=RcAt.tuples (e:=g) p1 p2 hu' he
        have R':=RcNeAt.tuples (e:=g) p1 p2 hu' he
        have et:((List.range (min its.toArray.size its'.toArray.size)).all g && its.toArray.size == its'.toArray.size)=b:=by
          rw [hb]
          simp only [List.size_toArray]
          rw [← l1,← l2,h2,k2]
        rw [et] at R R'
        refine ⟨?_,R,R'⟩
        by_cases hab:a=c
        · subst hab
          rw [qfo hK I sm (n+1) h (.tup h1 h2 h3) (.tup k1 k2 k3)];exact EqAt.same _
        · exact EqAt.of_refs hab R
      | _=>cases h
    | @lst a vs xs h1 h2 h3=>cases ry with
      | @lst c ws ys k1 k2 k3 =>
        cases ru;cases rv
        have h':(if xs.length=ys.length then cmL (cmB n) xs ys else some false)=some b:=h
        obtain ⟨its,r1,p1,_⟩:=I.sqb (b:=true) (show SqL X.K H a vs from SqL.of (sm _ _ h1))
        obtain ⟨its',r2,p2,_⟩:=I.sqb (b:=true) (show SqL X.K H c ws from SqL.of (sm _ _ k1))
        have l1:=Vals.length r1
        have l2:=Vals.length r2
        have fin:RcAt A s (.ref a) (.ref c) b∧RcNeAt A s (.ref a) (.ref c) (!b):=by
          by_cases hl:xs.length=ys.length
          · rw [if_pos hl] at h'
            obtain ⟨g,hg,hb⟩:=qb9 h'
            have he:∀ j (j1:j<its.toArray.size) (j2:j<its'.toArray.size),EqAt A.in1 s its.toArray[j] its'.toArray[j] (g j):=by
              intro j j1 j2
              simp only [List.size_toArray] at j1 j2
              obtain ⟨x,hx,rx⟩:=Vals.get' r1 j1
              obtain ⟨y,hy,ry⟩:=Vals.get' r2 j2
              have i1:j<xs.length:=by omega
              have i2:j<ys.length:=by omega
              exact (ih (hg j _ _ (qan i1) (qan i2)) (h3 j x _ hx (qan i1)) (k3 j y _ hy (qan i2)) A.in1 _ _ (by show A.units+1+n<cLine;omega) rx ry).1
            have hsz:its.toArray.size=its'.toArray.size:=by simp;omega
            have R:=RcAt.lists (e:=g) p1 p2 hsz hu' he
            have R':=RcNeAt.lists (e:=g) p1 p2 hsz hu' he
            have et:(List.range its.toArray.size).all g=b:=by
              have e1:min xs.length ys.length=its.length:=by omega
              have e2:(xs.length == ys.length)=true:=by simp [hl]
              rw [hb,e1,e2,Bool.and_true,List.size_toArray]
            rw [et] at R R'
            exact ⟨R,R'⟩
          · rw [if_neg hl] at h'
            cases h'
            have hsz:(its.toArray.size != its'.toArray.size)=true:=by simp;omega
            exact ⟨RcAt.lists_lengths p1 p2 hsz hu',RcNeAt.lists_lengths p1 p2 hsz hu'⟩
        refine ⟨?_,fin.1,fin.2⟩
        by_cases hab:a=c
        · subst hab
          rw [qfo hK I sm (n+1) h (.lst h1 h2 h3) (.lst k1 k2 k3)];exact EqAt.same _
        · exact EqAt.of_refs hab fin.1
      | _=>cases h
    | fzl _ _ _=>cases ry <;> cases h
    | obj _ _ _ _=>cases ry <;> cases h
    | map _ _ _=>cases ry <;> cases h
    | exc0 _ _=>cases ry <;> cases h
    | exc1 _ _ _ _=>cases ry <;> cases h
end
def zEq:RD2:=fun x y R=>match cmB 40 x y with | some b=>R (.bl b) | none=>False
def zNe:RD2:=fun x y R=>match cmB 40 x y with | some b=>R (.bl (!b)) | none=>False
section
variable {K : PySem.W.Frag} {X : Cx}
theorem RpQ.any {Φ H:Hp} {d:D} {v:V} (h:RpQ K Φ H d v) (s:Same Φ H):Rp K H d v:=by
  rcases h with h | ⟨a,vs,ds,e,e2,h1,h2⟩
  · exact h.same s
  · subst e e2;exact (h2.same s).lst h1
theorem qhY (hu:X.A.units+64<cLine):OpD K X (compareOp .Eq) zEq:=⟨fun hK pins s σ H x y u v Q I rx ry hq0=>by
  obtain ⟨Φ,dx,dy,R,sm,hx,hy,h,k⟩:=hq0
  unfold zEq at h
  split at h
  · next b hb=>exact (qg2 hK I (Same.refl H) 40 hb (hx.any sm) (hy.any sm) X.A u v (by omega) rx ry).2.1 X.prog X.w _ _ ⟨.bl b,H,I,rfl,k _ Φ H _ h (.refl sm) (.bl b)⟩
  · exact h.elim⟩
theorem qiq (hu:X.A.units+64<cLine):OpD K X (compareOp .NotEq) zNe:=⟨fun hK pins s σ H x y u v Q I rx ry hq0=>by
  obtain ⟨Φ,dx,dy,R,sm,hx,hy,h,k⟩:=hq0
  unfold zNe at h
  split at h
  · next b hb=>exact (qg2 hK I (Same.refl H) 40 hb (hx.any sm) (hy.any sm) X.A u v (by omega) rx ry).2.2 X.prog X.w _ _ ⟨.bl (!b),H,I,rfl,k _ Φ H _ h (.refl sm) (.bl _)⟩
  · exact h.elim⟩
def qhj:D→Bool
  | .non=>true
  | _=>false
def zIs (neg:Bool):RD2:=fun x y R=>match y with | .non=>R (.bl (qhj x != neg)) | .bl b=>(match x with | .bl a=>R (.bl ((a == b) != neg)) | _=>False) | _=>False
theorem qhK {Φ H:Hp} {d:D} {v:V} (h:RpQ K Φ H d v):decide (v=V.non)=qhj d:=by
  cases d with
  | int i=>rw [h.int];rfl
  | bl i=>rw [h.bl];rfl
  | str i=>rw [h.str];rfl
  | non=>rw [h.non];rfl
  | tup ds => rcases h with h | ⟨a, vs, ds, e, _⟩
              · cases h;rfl
              · cases e
  | lst ds => rcases h with h | ⟨a, vs, ds, e, e2, _⟩
              · cases h;rfl
              · rw [e2];rfl
  | fzl ds => rcases h with h | ⟨a, vs, ds, e, _⟩
              · cases h;rfl
              · cases e
  | obj C fs => rcases h with h | ⟨a, vs, ds, e, _⟩
                · cases h;rfl
                · cases e
  | map kvs => rcases h with h | ⟨a, vs, ds, e, _⟩
               · cases h;rfl
               · cases e
  | exc _ _ => rcases h with h | ⟨a, vs, ds, e, _⟩
               · cases h <;> rfl
               · cases e
theorem qkA:OpD K X (compareOp .Is) (zIs false):=⟨fun hK pins s σ H x y u v Q I rx ry hq0=>by
  obtain ⟨Φ,dx,dy,R,sm,hx,hy,h,k⟩:=hq0
  cases dy with
  | non =>
    cases hy.non
    refine qiF pins s σ H _ _ u v Q I rx ry ⟨rfl,?_⟩
    rw [qhK hx]
    have h':R (.bl (qhj dx != false)):=h
    rw [Bool.bne_false] at h'
    exact k _ Φ H _ h' (.refl sm) (.bl _)
  | bl b =>
    cases hy.bl
    cases dx with
    | bl a =>
      cases hx.bl
      have h':R (.bl ((a == b) != false)):=h
      rw [Bool.bne_false] at h'
      exact qi6 pins s σ H _ _ u v Q I rx ry ⟨a,b,rfl,rfl,k _ Φ H _ h' (.refl sm) (.bl _)⟩
    | _=>exact h.elim
  | _=>exact h.elim⟩
end
end L2
namespace HT
open PySem PySem.Spec PyProof.Rows
end HT
namespace L2
open PySem PySem.Spec PyProof.Rows
section
variable {K : PySem.W.Frag} {X : Cx} {e a b c : Expr} {es : List Expr} {pos p2 : Pos} {t ta tb : TD} {tf : TDL} {tl : TDL} {tt tu : TDB}
def zIx:RD2:=fun x y R=>match y with
  | .int i=>(match x with
    | .lst ds=>∃ d,atI ds i=some d∧R d
    | .tup ds=>∃ d,atI ds i=some d∧R d
    | .fzl ds=>∃ d,atI ds i=some d∧R d
    | .str z=>z.length≤sizeLine∧∃ c,atI z.cps.toList i=some c∧R (.str ⟨#[c]⟩)
    | _=>False)
  | _=>False
theorem qhH {Φ:Hp} {ds:List D} {vs:List V} {d:D} {i:Int} (h:RpL K Φ ds vs) (e:atI ds i=some d):∃ v,atI vs i=some v∧Rp K Φ d v:=by
  unfold atI at e ⊢
  rw [h.1]
  cases hj:ixN ds.length i with
  | none=>rw [hj] at e;cases e
  | some j =>
    rw [hj,Option.bind_some] at e
    rw [Option.bind_some]
    exact h.at e
theorem qkY (hK:X.K=K):IxR X (lR2 K zIx):=by
  intro value slice pins s σ H x y v u Q I rx ry ⟨Φ,dx,dy,R,sm,hx,hy,h,k⟩ hs
  cases dy with
  | int i =>
    cases hy.int
    cases dx with
    | lst ds =>
      obtain ⟨d,h1,h2⟩:=h
      obtain ⟨a,vs,rfl,q1,q2⟩:=hx.lst sm
      obtain ⟨w,hw,rw'⟩:=qhH q2 h1
      exact qfO value slice pins s σ H _ _ v u Q I rx ry ⟨a,vs,i,w,rfl,rfl,.of q1,hw,k _ Φ H _ h2 (.refl sm) rw'⟩ hs
    | tup ds =>
      obtain ⟨d,h1,h2⟩:=h
      obtain ⟨a,vs,rfl,q1,_,q2⟩:=hx.tup sm
      obtain ⟨w,hw,rw'⟩:=qhH q2 h1
      exact qjv value slice pins s σ H _ _ v u Q I rx ry ⟨a,vs,i,w,rfl,rfl,hK ▸ q1,hw,k _ Φ H _ h2 (.refl sm) rw'⟩ hs
    | fzl ds =>
      obtain ⟨d,h1,h2⟩:=h
      obtain ⟨a,vs,rfl,q1,q2⟩:=hx.fzl sm
      obtain ⟨w,hw,rw'⟩:=qhH q2 h1
      exact qfO value slice pins s σ H _ _ v u Q I rx ry ⟨a,vs,i,w,rfl,rfl,hK ▸ q1,hw,k _ Φ H _ h2 (.refl sm) rw'⟩ hs
    | str z =>
      obtain ⟨h0,c,h1,h2⟩:=h
      cases hx.str
      exact qjg value slice pins s σ H _ _ v u Q I rx ry ⟨z,i,c,rfl,rfl,h0,h1,k _ Φ H _ h2 (.refl sm) (.str _)⟩ hs
    | _=>exact h.elim
  | _=>exact h.elim
theorem qeC (ha:PQ K X a ta) (hb:PQ K X b tb) (hs:qeZ b):PD K X (.Subscript a b pos) (dOp zIx ta tb) :=
  ⟨fun hK=>(qkl (qkY hK) (ha.pe hK) (hb.pe hK) hs).imp fun _ _ _=>qc3⟩
variable {lo hi : Option Expr} {to tp : TOD}
abbrev SpD:=List D→(D→Prop)→Prop
def lSp (K:PySem.W.Frag) (sp:SpD):Sp:=fun vs H Q _=>∃ Φ ds R,Same Φ H∧TabF K Φ∧RpL K Φ ds vs∧sp ds R∧∀ d Φ' H' v,R d→Gr Φ H Φ' H'→Rp K Φ' d v→Q v H'
def qdW (sp:SpD) (t:TDL):TD:=fun ρ R=>t ρ fun ds=>sp ds R
variable {CX : CXT} {k : Nat} {f : Addr} {fd : FuncData} {ps : List Str} {sp : SpD} {x : Str} {p : Pos} {E : XK}
theorem qjf (F:FnOk X.prog X.w X.K X.mg X.base CX k f fd ps (lSp K sp)) (hr:Room k X.A) (hg:Gl X x) (hm:X.mg x=some (.ref f)) (hk:PySem.W.keepIn X.K (.ref f)=true) (hb:Binds X.K fd ps []) (hx:qcE CX X E)
    (ha:PAD K X (e::es) tl) (he:starEach (e::es) X.env=(false,eval e X.env)::starEach es X.env) (hpl:(backTo pos (starEach es X.env)).any (·.1)=false) (hdb:(x == ("__debug__":Str))=false:=by decide) :
    PD K X (.Call (.Name x p) (e::es) [] pos) (qdW sp tl) :=
  ⟨fun hK=>(qhf F hr hg hm hk hb .nil hx (ha.pa hK) hdb he hpl).imp fun σ H Q hq0=>by obtain ⟨H0,Φ,ρ,R,E,t,k⟩:=hq0;exact ⟨H0,Φ,ρ,_,E,t,fun ds Φ1 H1 vs r g rl _=>⟨Φ1,ds,R,g.s,E.tb.same g.f,by rw [List.append_nil];exact rl,r,fun d Φ' H' v rd g' rv=>k d Φ' H' v rd (g.trans g') rv⟩⟩⟩
theorem qhw (F:FnOk X.prog X.w X.K X.mg X.base CX k f fd ps (lSp K sp)) (hr:Room k X.A) (hg:Gl X x) (hm:X.mg x=some (.ref f)) (hk:PySem.W.keepIn X.K (.ref f)=true) (hb:Binds X.K fd ps []) (hx:qcE CX X E)
    (hdb:(x == ("__debug__":Str))=false:=by decide):PD K X (.Call (.Name x p) [] [] pos) (qdW sp qjz) :=
  ⟨fun hK=>(qgy F hr hg hm hk hb .nil hx hdb).imp fun σ H Q hq0=>by obtain ⟨H0,Φ,ρ,R,E,t,k⟩:=hq0;exact ⟨Φ,[],R,E.fz,E.tb,.nil,t,fun d Φ' H' v rd g' rv=>k d Φ' H' v rd g' rv⟩⟩
def qjO (K:PySem.W.Frag) (Φ H:Hp) (ds:List D) (vs:List V):Prop:=vs.length=ds.length∧∀ (i:Nat) (v:V) (d:D),vs[i]?=some v→ds[i]?=some d→RpQ K Φ H d v
def lAQ (K:PySem.W.Frag) (t:TDL):TA:=fun σ H Q=>∃ H0 Φ ρ R,EnvD K H0 Φ H σ ρ∧t ρ R∧∀ ds Φ' H' vs,R ds→Gr Φ H Φ' H'→qjO K Φ' H' ds vs→Q vs H'
structure PAQ (K:PySem.W.Frag) (X:Cx) (es:List Expr) (t:TDL):Prop where pa:X.K=K→PA X es (lAQ K t)
theorem qaT:PAQ K X [] qjz:=⟨fun _=>pa_nil.imp fun σ H Q hq0=>by obtain ⟨H0,Φ,ρ,R,E,t,k⟩:=hq0;exact k [] Φ H [] t (.refl E.fz) ⟨rfl,fun i v d hv _=>by simp at hv⟩⟩
theorem qaD (ha:PQ K X e t) (hr:PAQ K X es tl) (hs:starEach (e::es) X.env=(false,eval e X.env)::starEach es X.env):PAQ K X (e::es) (qiD t tl) :=
  ⟨fun hK=>(qaM (ha.pe hK) (hr.pa hK) hs).imp fun σ H Q hq0=>by obtain ⟨H0,Φ,ρ,R,E,t,k⟩:=hq0;exact ⟨H0,Φ,ρ,_,E,t,fun d Φ1 H1 v r g rv=>⟨H0,Φ1,ρ,_,E.gr g,r,fun ds Φ2 H2 vs r2 g2 rl =>
    k _ Φ2 H2 _ r2 (g.trans g2) ⟨by simp [rl.1],fun i u d hu hd=>by
      cases i with
      | zero=>cases hu;cases hd;exact rv.gr g2
      | succ i=>exact rl.2 i u d hu hd⟩⟩⟩⟩
def lC (K:PySem.W.Frag) (r:SpD):List V→Hp→VK→Prop:=fun vs H Q=>∃ Φ ds R,Same Φ H∧qjO K Φ H ds vs∧r ds R∧∀ d Φ' H' v,R d→Gr Φ H Φ' H'→Rp K Φ' d v→Q v H'
structure CallD (K:PySem.W.Frag) (X:Cx) (f:Value) (r:SpD):Prop where c:X.K=K→qcb X f (lC K r)
theorem qaQ {id:String} {r:SpD} (hc:CallD K X (.builtin id) r) (hg:Gl X x) (hm:X.mg x=none) (hv:bootBuiltins x=some (.builtin id)) (ha:PAQ K X (e::es) tl)
    (he:starEach (e::es) X.env=(false,eval e X.env)::starEach es X.env) (hpl:(backTo pos (starEach es X.env)).any (·.1)=false) (hn:x≠"__name__":=by decide) (hdb:(x == ("__debug__":Str))=false:=by decide):PD K X (.Call (.Name x p) (e::es) [] pos) (qdW r tl) :=
  ⟨fun hK=>(qb2 (hc.c hK) hg hm hv (ha.pa hK) hn hdb he hpl).imp fun σ H Q hq0=>by obtain ⟨H0,Φ,ρ,R,E,t,k⟩:=hq0;exact ⟨H0,Φ,ρ,_,E,t,fun ds Φ1 H1 vs r g rl=>⟨Φ1,ds,R,g.s,rl,r,fun d Φ' H' v rd g' rv=>k d Φ' H' v rd (g.trans g') rv⟩⟩⟩
theorem qb5 {T:String} {r:SpD} (hc:CallD K X (.type T) r) (hg:Gl X x) (hm:X.mg x=none) (hv:bootBuiltins x=some (.type T)) (ha:PAQ K X (e::es) tl)
    (he:starEach (e::es) X.env=(false,eval e X.env)::starEach es X.env) (hpl:(backTo pos (starEach es X.env)).any (·.1)=false) (hn:x≠"__name__":=by decide) (hdb:(x == ("__debug__":Str))=false:=by decide):PD K X (.Call (.Name x p) (e::es) [] pos) (qdW r tl) :=
  ⟨fun hK=>(qdD (hc.c hK) hg hm hv (ha.pa hK) hn hdb he hpl).imp fun σ H Q hq0=>by obtain ⟨H0,Φ,ρ,R,E,t,k⟩:=hq0;exact ⟨H0,Φ,ρ,_,E,t,fun ds Φ1 H1 vs r g rl=>⟨Φ1,ds,R,g.s,rl,r,fun d Φ' H' v rd g' rv=>k d Φ' H' v rd (g.trans g') rv⟩⟩⟩
theorem qbS {Φ H:Hp} {d:D} {vs:List V} (h:qjO K Φ H [d] vs):∃ v,vs=[v]∧RpQ K Φ H d v:=by
  obtain ⟨h1,h2⟩:=h
  match vs,h1,h2 with
  | [v],_,h2=>exact ⟨v,rfl,h2 0 v d rfl rfl⟩
def qk9:SpD:=fun ds R=>match ds with | [.lst xs]=>R (.int xs.length) | [.tup xs]=>R (.int xs.length) | [.fzl xs]=>R (.int xs.length) | [.str z]=>z.length≤sizeLine∧R (.int z.length) | _=>False
theorem qeM:CallD K X (.builtin "len") qk9:=⟨fun hK pins s σ H xs us Q I rr hq0=>by
  obtain ⟨Φ,ds,R,sm,hl,h,k⟩:=hq0
  match ds,h with
  | [.lst xs],h =>
    obtain ⟨v,rfl,r⟩:=qbS hl
    obtain ⟨a,vs,rfl,q1,q2⟩:=r.lst sm
    exact qbp pins s σ H _ us Q I rr ⟨a,vs,rfl,.inl (.of q1),by rw [q2.1];exact k _ Φ H _ h (.refl sm) (.int _)⟩
  | [.tup xs],h =>
    obtain ⟨v,rfl,r⟩:=qbS hl
    obtain ⟨a,vs,rfl,q1,_,q2⟩:=r.tup sm
    exact qbp pins s σ H _ us Q I rr ⟨a,vs,rfl,.inr (hK ▸ q1),by rw [q2.1];exact k _ Φ H _ h (.refl sm) (.int _)⟩
  | [.fzl xs],h =>
    obtain ⟨v,rfl,r⟩:=qbS hl
    obtain ⟨a,vs,rfl,q1,q2⟩:=r.fzl sm
    exact qbp pins s σ H _ us Q I rr ⟨a,vs,rfl,.inl (hK ▸ q1),by rw [q2.1];exact k _ Φ H _ h (.refl sm) (.int _)⟩
  | [.str z],h =>
    obtain ⟨v,rfl,r⟩:=qbS hl
    cases r.str
    exact qdj pins s σ H _ us Q I rr ⟨z,rfl,h.1,k _ Φ H _ h.2 (.refl sm) (.int _)⟩⟩
def qlv:SpD:=fun ds R=>match ds with | [.int i]=>R (.int (if i<0 then -i else i)) | _=>False
theorem qfr:CallD K X (.builtin "abs") qlv:=⟨fun hK pins s σ H xs us Q I rr hq0=>by
  obtain ⟨Φ,ds,R,sm,hl,h,k⟩:=hq0
  match ds,h with
  | [.int i],h =>
    obtain ⟨v,rfl,r⟩:=qbS hl
    cases r.int
    exact qgq pins s σ H _ us Q I rr ⟨i,rfl,k _ Φ H _ h (.refl sm) (.int _)⟩⟩
def qi7:SpD:=fun ds R=>match ds with | [.lst xs]=>R (.tup xs) | [.tup xs]=>R (.tup xs) | [.fzl xs]=>R (.tup xs) | _=>False
theorem qcJ:CallD K X (.type "tuple") qi7:=⟨fun hK pins s σ H xs us Q I rr hq0=>by
  obtain ⟨Φ,ds,R,sm,hl,h,k⟩:=hq0
  match ds,h with
  | [.lst xs],h =>
    obtain ⟨v,rfl,r⟩:=qbS hl
    obtain ⟨a,vs,rfl,q1,q2⟩:=r.lst sm
    exact qa8 pins s σ H _ us Q I rr ⟨a,vs,rfl,.inl ⟨.of q1,fun p hp=>k _ _ _ _ h (.new sm hp _) ((q2.same (qaq (sm.free hp) _)).tup qae)⟩⟩
  | [.fzl xs],h =>
    obtain ⟨v,rfl,r⟩:=qbS hl
    obtain ⟨a,vs,rfl,q1,q2⟩:=r.fzl sm
    exact qa8 pins s σ H _ us Q I rr ⟨a,vs,rfl,.inl ⟨hK ▸ q1,fun p hp=>k _ _ _ _ h (.new sm hp _) ((q2.same (qaq (sm.free hp) _)).tup qae)⟩⟩
  | [.tup xs],h =>
    obtain ⟨v,rfl,r⟩:=qbS hl
    obtain ⟨a,vs,rfl,q1,q3,q2⟩:=r.tup sm
    exact qa8 pins s σ H _ us Q I rr ⟨a,vs,rfl,.inr ⟨hK ▸ q1,k _ Φ H _ h (.refl sm) (q2.tup q3)⟩⟩⟩
def qj2 (t:TD):TDL:=fun ρ R=>t ρ fun d=>∃ ds,qhu d=some ds∧R ds
theorem qiY (hg:Gl X "list") (hm:X.mg "list"=none) (ha:PQ K X e t) (he:starEach [e] X.env=(false,eval e X.env)::starEach [] X.env):PF K X (.Call (.Name "list" p) [e] [] pos) (qj2 t) :=
  ⟨fun hK=>(qdD qdJ hg hm boot_list (qaM (ha.pe hK) pa_nil he) (by decide) (by decide) he qah).imp fun σ H Q hq0=>by obtain ⟨H0,Φ,ρ,R,E,t,k⟩:=hq0;exact ⟨H0,Φ,ρ,_,E,t,fun d Φ1 H1 v r g rv=>by
    obtain ⟨ds,e1,r⟩:=r
    obtain ⟨a,vs,rfl,q1,q2⟩:=rv.seq g.s e1
    exact ⟨a,vs,rfl,hK ▸ q1,fun l hl=>k _ _ _ l _ r (g.trans (.fresh g.s hl _)) (g.h.free hl) (g.s.free hl) qae q2⟩⟩⟩
def qiQ (d:D) (T:String):Option Bool:=match d with
  | .int _=>if T="int" then some true else if T="bool" then some false else if T="tuple" then some false else if T="str" then some false else none
  | .bl _=>if T="int" then some true else if T="bool" then some true else if T="tuple" then some false else none
  | .str _=>if T="str" then some true else if T="tuple" then some false else none
  | .tup _=>if T="tuple" then some true else if T="int" then some false else none
  | .lst _=>if T="tuple" then some false else if T="list" then some true else none
  | _=>none
end
structure SteadyD (K:PySem.W.Frag) (J:It) (Φ:Hp) (ds:List D):Prop where
  go:∀ i H,Same Φ H→i<ds.length→J.go i H
  yl:∀ i Φ2 H x H2 d,Same Φ Φ2→Same Φ2 H→ds[i]?=some d→J.yld i H x H2→∃ Φ3,Gr Φ2 H Φ3 H2∧Rp K Φ3 d x
  stop:∀ H,Same Φ H→J.stop ds.length H
section
variable {K : PySem.W.Frag} {Φ : Hp} {ds es : List D} {vs ws : List V} {a : Addr}
theorem qdL (h:SqL K Φ a vs) (r:RpL K Φ ds vs):SteadyD K (Itl K a) Φ ds :=
  ⟨fun i H s hi=>⟨vs,vs[i]'(by rw [r.1];exact hi),s.seq h,qan _⟩,fun i Φ2 H x H2 d s2 s hd y=>by
    obtain ⟨e,y⟩:=y
    subst e
    exact ⟨Φ2,.refl s,(r.2 i x d (y vs ((s2.trans s).seq h)) hd).same s2⟩,fun H s=>⟨vs,s.seq h,by rw [r.1];exact Nat.le_refl _⟩⟩
theorem qdP (h:SqT K Φ a vs) (r:RpL K Φ ds vs):SteadyD K (Itt K a) Φ ds :=
  ⟨fun i H s hi=>⟨vs,vs[i]'(by rw [r.1];exact hi),s.sqt h,qan _⟩,fun i Φ2 H x H2 d s2 s hd y=>by
    obtain ⟨e,y⟩:=y
    subst e
    exact ⟨Φ2,.refl s,(r.2 i x d (y vs ((s2.trans s).sqt h)) hd).same s2⟩,fun H s=>⟨vs,s.sqt h,by rw [r.1];exact Nat.le_refl _⟩⟩
def qcj (lo:Int) (n:Nat):List D:=(List.range n).map fun i=>D.int (lo+(i:Nat))
theorem qbt (lo:Int) (n:Nat):(qcj lo n).length=n:=by unfold qcj;simp
theorem qdA {lo:Int} {n i:Nat} {d:D} (h:(qcj lo n)[i]?=some d):i<n∧d=.int (lo+(i:Nat)):=by
  have hi:i<n:=by have:=qam h;rwa [qbt] at this
  unfold qcj at h
  rw [List.getElem?_map,List.getElem?_range hi] at h
  cases h
  exact ⟨hi,rfl⟩
theorem qcM {lo:Int} {n:Nat}:SteadyD K (Itr lo n) Φ (qcj lo n) :=
  ⟨fun i H s hi=>by rw [qbt] at hi;exact hi,fun i Φ2 H x H2 d s2 s hd y=>by
    obtain ⟨e,y⟩:=y
    subst e y
    rw [(qdA hd).2]
    exact ⟨Φ2,.refl s,.int _⟩,fun H s=>by rw [qbt];exact Nat.le_refl n⟩
def qc2 (ds:List D):List D:=ds.zipIdx.map fun p=>.tup [.int (p.2:Nat),p.1]
theorem qce (ds:List D):(qc2 ds).length=ds.length:=by unfold qc2;simp
theorem qeh {i:Nat} {d:D} (h:(qc2 ds)[i]?=some d):∃ e,ds[i]?=some e∧d=.tup [.int (i:Nat),e]:=by
  unfold qc2 at h
  rw [List.getElem?_map,List.getElem?_zipIdx] at h
  cases e:ds[i]? with
  | none=>rw [e] at h;cases h
  | some x=>rw [e] at h;cases h;exact ⟨x,rfl,by simp⟩
theorem Rp.pair {H:Hp} {t:Addr} {d e:D} {x y:V} (h:H t=some (.tup [x,y])) (r1:Rp K H d x) (r2:Rp K H e y):Rp K H (.tup [d,e]) (.ref t):=(RpL.cons r1 (.one r2)).tup h
theorem qdc {b:Bool} (h:SqB K b Φ a vs) (r:RpL K Φ ds vs):SteadyD K (Ite K b a) Φ (qc2 ds) :=
  ⟨fun i H s hi=>by rw [qce] at hi;exact ⟨vs,vs[i]'(by rw [r.1];exact hi),SqB.same s h,qan _⟩,fun i Φ2 H x H2 d s2 s hd y=>by
    obtain ⟨t,v,hn,e,e',y⟩:=y
    subst e e'
    obtain ⟨e,he,rfl⟩:=qeh hd
    have rv:=(r.2 i v e (y vs (SqB.same (s2.trans s) h)) he).same (s2.trans (qaq (s.free hn) (.tup [.int i,v])))
    exact ⟨_,.new s hn _,.pair qae (.int _) rv⟩,fun H s=>by rw [qce];exact ⟨vs,SqB.same s h,by rw [r.1];exact Nat.le_refl _⟩⟩
def qh1 (ds es:List D):List D:=List.zipWith (fun x y=>.tup [x,y]) ds es
theorem qem (ds es:List D):(qh1 ds es).length=min ds.length es.length:=by unfold qh1;simp
theorem qfN {i:Nat} {d:D} (h:(qh1 ds es)[i]?=some d):∃ x y,ds[i]?=some x∧es[i]?=some y∧d=.tup [x,y]:=by
  unfold qh1 at h
  rw [List.getElem?_zipWith] at h
  cases e:ds[i]? with
  | none=>rw [e] at h;cases h
  | some x =>
    cases e2:es[i]? with
    | none=>rw [e,e2] at h;cases h
    | some y=>rw [e,e2] at h;cases h;exact ⟨x,y,rfl,rfl,rfl⟩
theorem qdR {b1 b2:Bool} {a1 a2:Addr} (h1:SqB K b1 Φ a1 vs) (h2:SqB K b2 Φ a2 ws) (r1:RpL K Φ ds vs) (r2:RpL K Φ es ws):SteadyD K (Itz K b1 a1 b2 a2) Φ (qh1 ds es) :=
  ⟨fun i H s hi=>by
    rw [qem] at hi
    have i1:i<vs.length:=by rw [r1.1];omega
    have i2:i<ws.length:=by rw [r2.1];omega
    exact ⟨vs,ws,vs[i],ws[i],SqB.same s h1,SqB.same s h2,qan i1,qan i2⟩,fun i Φ2 H x H2 d s2 s hd y=>by
    obtain ⟨t,u,v,hn,e,e',y1,y2⟩:=y
    subst e e'
    obtain ⟨p,q,hp,hq,rfl⟩:=qfN hd
    have sn:=s2.trans (qaq (s.free hn) (.tup [u,v]))
    exact ⟨_,.new s hn _,.pair qae ((r1.2 i u p (y1 vs (SqB.same (s2.trans s) h1)) hp).same sn) ((r2.2 i v q (y2 ws (SqB.same (s2.trans s) h2)) hq).same sn)⟩,fun H s=>by
    rw [qem]
    exact ⟨vs,ws,SqB.same s h1,SqB.same s h2,by rw [r1.1,r2.1];omega⟩⟩
end
def lI (K:PySem.W.Frag) (t:TDL):TI:=fun σ H R'=>∃ H0 Φ ρ R,EnvD K H0 Φ H σ ρ∧t ρ R∧∀ ds Φ' H' J,R ds→Gr Φ H Φ' H'→SteadyD K J Φ' ds→R' J H'
structure PID (K:PySem.W.Frag) (X:Cx) (tg e:Expr) (t:TDL):Prop where pi:X.K=K→PI X tg e (lI K t)
theorem PI.imp {X:Cx} {tg e:Expr} {t t':TI} (h:PI X tg e t) (k:∀ σ H R,t' σ H R→t σ H R):PI X tg e t':=fun pins s σ H R I hw=>h pins s σ H R I (k σ H R hw)
section
variable {K : PySem.W.Frag} {X : Cx} {tg e a b : Expr} {es : List Expr} {pos p tp : Pos} {t ta tb : TD} {tl : TDL}
theorem qge {es:List Expr} {k:Nat} {t:TGs} {n:Nat} (hK:X.K=K) (hc:X.calm=true) (h:PGs X es t) (hn:(assignEach es X.env).length=n) (hst:(assignEach es X.env).findIdx? (·.1)=none):PG X (.Tuple es k pos) (qkw K n t):=hK ▸ qiV hc h hn hst
theorem qgh {es:List Expr} {k:Nat} {t:TGs} {n:Nat} (hK:X.K=K) (hc:X.calm=true) (h:PGs X es t) (hn:(assignEach es X.env).length=n) (hst:(assignEach es X.env).findIdx? (·.1)=none):PG X (.Tuple es k pos) (qkx K n t):=hK ▸ qif hc h hn hst
def qhp (t:TDL):TDL:=fun ρ R=>t ρ fun ds=>match ds with | [.int j]=>(-(2 ^ 62)≤j∧j<2 ^ 62)∧R (qcj 0 j.toNat) | _=>False
theorem RpL.one_inv {Φ:Hp} {d:D} {vs:List V} (h:RpL K Φ [d] vs):∃ v,vs=[v]∧Rp K Φ d v:=by
  obtain ⟨h1,h2⟩:=h
  match vs,h1,h2 with
  | [v],_,h2=>exact ⟨v,rfl,h2 0 v d rfl rfl⟩
theorem RpL.two_inv {Φ:Hp} {d e:D} {vs:List V} (h:RpL K Φ [d,e] vs):∃ v w,vs=[v,w]∧Rp K Φ d v∧Rp K Φ e w:=by
  obtain ⟨h1,h2⟩:=h
  match vs,h1,h2 with
  | [v,w],_,h2=>exact ⟨v,w,rfl,h2 0 v d rfl rfl,h2 1 w e rfl rfl⟩
theorem qec (hg:Gl X "range") (hm:X.mg "range"=none) (ha:PAD K X [a] tl) (hs:starEach [a] X.env=[(false,eval a X.env)]:=by rfl):PID K X tg (.Call (.Name "range" p) [a] [] pos) (qhp tl) :=
  ⟨fun hK=>(qfw hg hm (ha.pa hK) hs).imp fun σ H R' hq0=>by obtain ⟨H0,Φ,ρ,R,E,t,k⟩:=hq0;exact ⟨H0,Φ,ρ,_,E,t,fun ds Φ1 H1 vs r g rv _=>by
    match ds,r with
    | [.int j],r =>
      obtain ⟨v,rfl,r1⟩:=rv.one_inv
      cases r1
      exact ⟨j,rfl,r.1.1,r.1.2,k _ Φ1 H1 _ r.2 g qcM⟩⟩⟩
end
abbrev TGD:=D→Rho→(Rho→Prop)→Prop
abbrev qgR:=List D→Rho→(Rho→Prop)→Prop
def lG (K:PySem.W.Frag) (g:TGD):TG:=fun v σ H Q=>∃ H0 Φ ρ d R,EnvD K H0 Φ H σ ρ∧Rp K Φ d v∧g d ρ R∧∀ ρ' σ',R ρ'→EnvD K H0 Φ H σ' ρ'→Q σ' H
def lGs (K:PySem.W.Frag) (g:qgR):TGs:=fun vs σ H Q=>∃ H0 Φ ρ ds R,EnvD K H0 Φ H σ ρ∧RpL K Φ ds vs∧g ds ρ R∧∀ ρ' σ',R ρ'→EnvD K H0 Φ H σ' ρ'→Q σ' H
structure PGD (K:PySem.W.Frag) (X:Cx) (e:Expr) (g:TGD):Prop where pg:X.K=K→PG X e (lG K g)
structure PGDs (K:PySem.W.Frag) (X:Cx) (es:List Expr) (g:qgR):Prop where pg:X.K=K→PGs X es (lGs K g)
theorem PG.imp {X:Cx} {e:Expr} {t t':TG} (h:PG X e t) (k:∀ v σ H Q,t' v σ H Q→t v σ H Q):PG X e t':=fun pins s σ H v u Q I r hw=>h pins s σ H v u Q I r (k v σ H Q hw)
theorem PGs.imp {X:Cx} {e:List Expr} {t t':TGs} (h:PGs X e t) (k:∀ v σ H Q,t' v σ H Q→t v σ H Q):PGs X e t':=fun pins s σ H v u Q I r hw=>h pins s σ H v u Q I r (k v σ H Q hw)
section
variable {K : PySem.W.Frag} {X : Cx} {e : Expr} {es : List Expr} {pos : Pos} {g : TGD} {gs : qgR}
def qjW (i:Nat):TGD:=fun d ρ R=>R (ρ.set i (some (.v d)))
theorem qaA {i:Nat} {x:Str} (hN:X.N.Nodup) (hi:X.N[i]?=some x) (hx:Loc X.env.scope x) (hf:X.fn x=true∨X.env.scope.names.lookup x=some .local:=by first | exact .inl rfl | exact .inr rfl | assumption):PGD K X (.Name x pos) (qjW i) :=
  ⟨fun _=>(qhk hN hi hx hf).imp fun v σ H Q hq0=>by obtain ⟨H0,Φ,ρ,d,R,E,r,g,k⟩:=hq0;exact k _ _ g (E.set r i)⟩
def qkj:qgR:=fun ds ρ R=>match ds with | []=>R ρ | _=>False
def qiZ (t:TGD) (u:qgR):qgR:=fun ds ρ R=>match ds with | d::r=>t d ρ fun ρ'=>u r ρ' R | []=>False
theorem qde:PGDs K X [] qkj:=⟨fun _=>pgs_nil.imp fun v σ H Q hq0=>by
  obtain ⟨H0,Φ,ρ,ds,R,E,r,g,k⟩:=hq0
  cases ds with
  | nil=>exact ⟨List.length_eq_zero_iff.mp r.1,k _ _ g E⟩
  | cons=>exact g.elim⟩
theorem qaI (h1:PGD K X e g) (h2:PGDs K X es gs) (hs:(assignEach (e::es) X.env).map (·.2)=assign e X.env::(assignEach es X.env).map (·.2):=by rfl):PGDs K X (e::es) (qiZ g gs) :=
  ⟨fun hK=>(qgL (h1.pg hK) (h2.pg hK) hs).imp fun vs σ H Q hq0=>by
    obtain ⟨H0,Φ,ρ,ds,R,E,r,g,k⟩:=hq0
    cases ds with
    | nil=>exact g.elim
    | cons d ds =>
      cases vs with
      | nil=>exact absurd r.1 (by simp)
      | cons v vs =>
        refine ⟨v,vs,rfl,H0,Φ,ρ,d,_,E,r.2 0 v d rfl rfl,g,fun ρ' σ' g' E'=>⟨H0,Φ,ρ',ds,R,E',⟨by have:=r.1;simpa using this,fun i u f hu hf=>r.2 (i+1) u f hu hf⟩,g',k⟩⟩⟩
end
def qeF (cap:List (Option Nat)) (ρ:Rho):Rho:=cap.map fun o=>o.bind fun i=>(ρ[i]?).join
theorem qfP {α:Type} {o:Option (Option α)} {x:α} (h:o.join=some x):o=some (some x):=by
  cases o with
  | none=>cases h
  | some o=>cases o with
    | none=>cases h
    | some y=>cases h;rfl
theorem qcy {α:Type} {cap:List (Option Nat)} {l:List (Option α)} {i:Nat} {x:α} (h:(cap.map fun o=>o.bind fun i=>(l[i]?).join)[i]?=some (some x)):∃ j,cap[i]?=some (some j)∧l[j]?=some (some x):=by
  rw [List.getElem?_map] at h
  cases e:cap[i]? with
  | none=>rw [e] at h;cases h
  | some o =>
    rw [e] at h
    cases o with
    | none=>cases h
    | some j=>exact ⟨j,rfl,qfP (by simpa using h)⟩
theorem EnvD.cap {K:PySem.W.Frag} {H0 Φ H:Hp} {σ:St} {ρ:Rho} {cap:List (Option Nat)} (E:EnvD K H0 Φ H σ ρ) (inj:∀ i j k:Nat,cap[i]?=some (some k)→cap[j]?=some (some k)→i=j):EnvD K H0 Φ H (qbN cap σ) (qeF cap ρ):=by
  have st:∀ {i j:Nat} {v:V},cap[i]?=some (some j)→σ[j]?=some (some v)→(qbN cap σ)[i]?=some (some v):=fun hc hs=>by
    unfold qbN
    rw [List.getElem?_map,hc]
    simp [hs]
  have ts:∀ {i j:Nat} {v:V},cap[i]?=some (some j)→(qbN cap σ)[i]?=some (some v)→σ[j]?=some (some v):=fun hc hs=>by
    obtain ⟨j',h1,h2⟩:=qcy hs
    rw [hc] at h1
    cases h1
    exact h2
  refine ⟨E.fz,by unfold qbN qeF;simp,fun i d h=>?_,fun i ds h=>?_,fun i j ds es p hi hj si sj=>?_,E.tb⟩
  · obtain ⟨j,h1,h2⟩:=qcy h
    obtain ⟨v,e,r⟩:=E.sl j d h2
    exact ⟨v,st h1 e,r⟩
  · obtain ⟨j,h1,h2⟩:=qcy h
    obtain ⟨p,vs,e,q⟩:=E.ow j ds h2
    exact ⟨p,vs,st h1 e,q⟩
  · obtain ⟨i',h1,h2⟩:=qcy hi
    obtain ⟨j',h3,h4⟩:=qcy hj
    have:=E.ne i' j' ds es p h2 h4 (ts h1 si) (ts h3 sj)
    subst this
    exact inj i j i' h1 h3
structure GK (k:Nat) (g:TGD):Prop where p:∀ d ρ R,g d ρ R→g d ρ fun ρ1=>ρ1.length=ρ.length∧ρ1.drop k=ρ.drop k∧R ρ1
theorem qh9 {k i:Nat} (h:i<k):GK k (qjW i):=⟨fun d ρ R r=>⟨by simp,by rw [List.drop_set_of_lt h],r⟩⟩
structure GM (k:Nat) (g:TGD):Prop where
  k:GK k g
  m:∀ d ρ R R',(∀ x,R x→R' x)→g d ρ R→g d ρ R'
theorem qff {k i:Nat} (h:i<k):GM k (qjW i):=⟨qh9 h,fun d ρ R R' h r=>h _ r⟩
def qhX:TDB:=fun _ R=>R true
structure PIfD (K:PySem.W.Frag) (X:Cx) (ifs:List Expr) (t:TDB):Prop where p:X.K=K→qid X ifs (lT K t)
theorem qg0 {K:PySem.W.Frag} {X:Cx}:PIfD K X [] qhX:=⟨fun _ pins s σ H Q I hq0=>by obtain ⟨H0,Φ,ρ,R,E,t,k⟩:=hq0;exact qf7 pins s σ H Q I (k true Φ H t (.refl E.fz))⟩
theorem EnvD.side {K:PySem.W.Frag} {H0 Φ H:Hp} {σ:St} {ρ:Rho} {p:Addr} {o u:HO} (E:EnvD K H0 Φ H σ ρ) (h0:H0 p=some u) (hn:Φ p=none):EnvD K H0 Φ (upd H p o) σ ρ :=
  ⟨fun b w e=>by rw [qad (qaj e hn)];exact E.fz b w e,E.len,E.sl,fun i ds h=>by
    obtain ⟨q,vs,e,q0,qn,qp,qr⟩:=E.ow i ds h
    exact ⟨q,vs,e,q0,qn,by rw [qad fun z=>by rw [z,h0] at q0;cases q0];exact qp,qr⟩,E.ne,E.tb⟩
theorem EnvD.base {K:PySem.W.Frag} {H0 Φ H:Hp} {σ:St} {ρ:Rho} {p:Addr} {u:HO} (E:EnvD K H0 Φ H σ ρ) (hp:H p=none):EnvD K (upd H0 p u) Φ H σ ρ :=
  ⟨E.fz,E.len,E.sl,fun i ds h=>by
    obtain ⟨q,vs,e,q0,qn,qp,qr⟩:=E.ow i ds h
    exact ⟨q,vs,e,by rw [qad (qaj qp hp)];exact q0,qn,qp,qr⟩,E.ne,E.tb⟩
theorem qhI (ys:List (Option D)) (y:D):(ys++[some y]).filterMap id=ys.filterMap id++[y]:=by simp
theorem qgC (ys:List (Option D)):(ys++[none]).filterMap id=ys.filterMap id:=by simp
theorem qiK (ys:List (Option D)):(ys.filterMap id).length≤ys.length:=List.length_filterMap_le _ _
theorem qeq {α:Type} {ys:List α} {y:α} {P:Nat→α→Prop} {n:Nat} (hl:ys.length=n) (h:∀ i z,ys[i]?=some z→P i z) (hy:P n y):∀ i z,(ys++[y])[i]?=some z→P i z:=by
  intro i z hz
  rcases Nat.lt_or_ge i ys.length with c | c
  · rw [List.getElem?_append_left c] at hz
    exact h i z hz
  · rw [List.getElem?_append_right c] at hz
    have h0:i - ys.length=0:=by
      rcases Nat.eq_zero_or_pos (i - ys.length) with e | e
      · exact e
      · rw [List.getElem?_eq_none (by simp only [List.length_cons,List.length_nil];omega)] at hz;cases hz
    rw [h0] at hz
    cases hz
    have:i=n:=by omega
    subst this
    exact hy
def qdm (k:Nat) (cap:List (Option Nat)):Bool:=(cap.take k).all (·.isNone) && decide ((cap.filterMap id).Nodup)
theorem qfA {k:Nat} {cap:List (Option Nat)} (h:qdm k cap=true) {i:Nat} (hi:i<k) {o:Option Nat} (e:cap[i]?=some o):o=none:=by
  unfold qdm at h
  rw [Bool.and_eq_true] at h
  have:=List.all_eq_true.mp h.1 o (List.mem_of_getElem? (i:=i) (by rw [List.getElem?_take_of_lt hi];exact e))
  cases o with
  | none=>rfl
  | some _=>cases this
theorem qe0 {k:Nat} {cap:List (Option Nat)} (h:qdm k cap=true):∀ i j n:Nat,cap[i]?=some (some n)→cap[j]?=some (some n)→i=j:=by
  unfold qdm at h
  rw [Bool.and_eq_true] at h
  have nd:=of_decide_eq_true h.2
  clear h
  induction cap with
  | nil=>intro i j n hi;simp at hi
  | cons o cap ih =>
    intro i j n hi hj
    have nd':(cap.filterMap id).Nodup:=by
      cases o with
      | none=>simpa using nd
      | some m => have e : (some m :: cap).filterMap id = m :: cap.filterMap id := rfl
                  rw [e] at nd;exact (List.nodup_cons.mp nd).2
    have one:∀ {i:Nat},o=some n→cap[i]?=some (some n)→False:=fun {i} ho hi'=>by
      subst ho
      have e:(some n::cap).filterMap id=n::cap.filterMap id:=rfl
      rw [e] at nd
      exact (List.nodup_cons.mp nd).1 (List.mem_filterMap.mpr ⟨some n,List.mem_of_getElem? hi',rfl⟩)
    cases i with
    | zero=>cases j with
      | zero=>rfl
      | succ j=>exact (one (by simpa using hi) (by simpa using hj)).elim
    | succ i=>cases j with
      | zero=>exact (one (by simpa using hj) (by simpa using hi)).elim
      | succ j=>exact congrArg Nat.succ (ih nd' i j n (by simpa using hi) (by simpa using hj))
section
variable {K : PySem.W.Frag} {X : Cx} {tg iter elt : Expr} {ifs : List Expr} {scope : Scope} {pos : Pos} {N' : List Str} {cap : List (Option Nat)} {ti : TDL} {g : TGD} {tc : TDB} {te : TD}
theorem qfF {k:Nat} (hcap:qdm k cap=true) (hk:GM k g) {σ:St} {H:Hp} {Q:VK} {H0 Φ:Hp} {ρ:Rho} {R W:List D→Prop} (E:EnvD K H0 Φ H σ ρ) (t:ti ρ W)
    (conv:∀ ds,W ds→ds.length<sizeLine∧∃ P:Nat→Option D→Prop,(∀ i d,ds[i]?=some d→g d (qeF cap ρ) fun ρ1=>tc ρ1 fun b=>(b=true→te ρ1 fun y=>P i (some y))∧(b=false→P i none))∧∀ ys:List (Option D),ys.length=ds.length→(∀ i y,ys[i]?=some y→P i y)→R (ys.filterMap id))
    (kk:∀ ds Φ' H' p vs,R ds→Gr Φ H Φ' H'→H p=none→Φ' p=none→H' p=some (.lst vs)→RpL K Φ' ds vs→Q (.ref p) H'):qet (lI K ti) cap (lG K g) (lT K tc) (lE K te) σ H Q:=by
  refine ⟨H0,Φ,ρ,W,E,t,fun ds Φ1 H1 J hW g1 S Dd hD=>?_⟩
  obtain ⟨hlen,P,hp,hr⟩:=conv ds hW
  have E1:=E.gr g1
  have hDΦ:Φ1 Dd=none:=g1.s.free hD
  have C0:EnvD K (upd H0 Dd (.lst [])) Φ1 (upd H1 Dd (.lst [])) (qbN cap σ) (qeF cap ρ):=((E1.base (u:=.lst []) hD).side (o:=.lst []) qae hDΦ).cap (qe0 hcap)
  refine ⟨fun i m σ' H'=>m=ds.length - i∧i≤ds.length∧∃ (Φ':Hp) (vs:List V) (ys:List (Option D)),EnvD K (upd H0 Dd (.lst [])) Φ' H' σ' (qeF cap ρ)∧Gr Φ1 H1 Φ' H'∧Φ' Dd=none∧H' Dd=some (.lst vs)∧RpL K Φ' (ys.filterMap id) vs∧ys.length=i∧∀ j y,ys[j]?=some y→P j y,⟨ds.length,by simp,Nat.zero_le _,Φ1,[],[],C0,.fresh g1.s hD _,hDΦ,qae,.nil,rfl,fun j y hj=>by simp at hj⟩,?_⟩
  rintro i m σ' H' ⟨rfl,hi,Φ',vs,ys,Ei,gi,hDi,hDl,hrl,hyl,hy⟩
  by_cases hlt:i<ds.length
  · refine .inr ⟨S.go i H' (gi.f.trans gi.s) hlt,fun σ2 H2=>∃ (Φ':Hp) (vs:List V) (ys:List (Option D)),EnvD K (upd H0 Dd (.lst [])) Φ' H2 σ2 (qeF cap ρ)∧Gr Φ1 H1 Φ' H2∧Φ' Dd=none∧H2 Dd=some (.lst vs)∧RpL K Φ' (ys.filterMap id) vs∧ys.length=i+1∧∀ j y,ys[j]?=some y→P j y,fun σ2 H2 h2=>⟨ds.length - (i+1),by omega,rfl,hlt,h2⟩,fun x H2 y=>?_⟩
    obtain ⟨Φ3,g3,rx⟩:=S.yl i Φ' H' x H2 _ gi.f gi.s (qan hlt) y
    have E3:=Ei.gr g3
    refine ⟨_,Φ3,qeF cap ρ,_,_,E3,rx,hk.k.p _ _ _ (hp i _ (qan hlt)),fun ρ1 σ3 hq0 E4=>?_⟩
    obtain ⟨hl1,hd1,t1⟩:=hq0
    have wk:∀ (j:Nat) x,(qeF cap ρ)[j]?=some (some x)→ρ1[j]?=some (some x):=fun j x hj=>by
      rcases Nat.lt_or_ge j k with c | c
      · obtain ⟨n,h1,_⟩:=qcy hj
        cases qfA hcap c h1
      · have e1:(qeF cap ρ)[j]?=((qeF cap ρ).drop k)[j - k]?:=by rw [List.getElem?_drop];congr 1;omega
        have e2:ρ1[j]?=(ρ1.drop k)[j - k]?:=by rw [List.getElem?_drop];congr 1;omega
        rw [e2,hd1,← e1]
        exact hj
    have hD3:Φ3 Dd=none:=g3.o _ _ hDl hDi
    refine ⟨_,Φ3,ρ1,_,E4,t1,fun b Φ4 H4 rb g4=>?_⟩
    have E5:=(E4.gr g4)
    have hDl4:=g4.h _ _ (g3.h _ _ hDl)
    have hD4:Φ4 Dd=none:=g4.o _ _ (g3.h _ _ hDl) hD3
    cases b with
    | false =>
      refine qjC ?_
      refine ⟨Φ4,vs,ys++[none],E5.weak hl1.symm wk,(gi.trans g3).trans g4,hD4,hDl4,?_,by rw [List.length_append,hyl];rfl,qeq hyl hy (rb.2 rfl)⟩
      rw [qgC]
      exact (hrl.same g3.f).same g4.f
    | true =>
      refine qjx ?_
      refine ⟨_,Φ4,ρ1,_,E5,rb.1 rfl,fun d Φ5 H5 v rd g5 rv=>?_⟩
      have E6:=E5.gr g5
      have hDl5:=g5.h _ _ hDl4
      have hD5:Φ5 Dd=none:=g5.o _ _ hDl4 hD4
      have gg:=((gi.trans g3).trans g4).trans g5
      refine ⟨vs,hDl5,?_,Φ5,vs++[v],ys++[some d],(E6.weak hl1.symm wk).side qae hD5,?_,hD5,qae,?_,by rw [List.length_append,hyl];rfl,qeq hyl hy rd⟩
      · have:=qiK ys
        rw [hrl.1]
        omega
      · exact ⟨gg.f,qej gg.h hD _,fun b u e=>by rw [qad (qaj e hD5)];exact gg.s b u e,fun p u hp hn k=>gg.o p u hp hn k⟩
      · rw [qhI]
        exact (((hrl.same g3.f).same g4.f).same g5.f).append (.one rv)
  · have e:i=ds.length:=by omega
    subst e
    exact .inl ⟨S.stop H' (gi.f.trans gi.s),kk _ Φ' H' Dd vs (hr ys hyl hy) (g1.trans gi) (g1.h.free hD) hDi hDl hrl⟩
def qfI (ti:TDL) (cap:List (Option Nat)) (g:TGD) (te:TD):TDL:=fun ρ R=>ti ρ fun ds=>ds.length<sizeLine∧∃ P:Nat→D→Prop,
  (∀ i d,ds[i]?=some d→g d (qeF cap ρ) fun ρ1=>te ρ1 (P i))∧∀ ys:List D,ys.length=ds.length→(∀ i y,ys[i]?=some y→P i y)→R ys
def qle (P:Nat→D→Prop):Nat→Option D→Prop:=fun i o=>match o with | some y=>P i y | none=>False
theorem qed {P:Nat→D→Prop}:∀ (ys:List (Option D)),(∀ (i:Nat) y,ys[i]?=some y→∃ z,y=some z)→∃ zs:List D,ys=zs.map some
  | [],_=>⟨[],rfl⟩
  | y::ys,h=>by
    obtain ⟨z,rfl⟩:=h 0 y rfl
    obtain ⟨zs,rfl⟩:=qed (P:=P) ys fun i y hy=>h (i+1) y hy
    exact ⟨z::zs,rfl⟩
theorem qeL {ds:List D} {ρ:Rho} {R:List D→Prop} (h:ds.length<sizeLine∧∃ P:Nat→D→Prop,(∀ i d,ds[i]?=some d→g d (qeF cap ρ) fun ρ1=>te ρ1 (P i))∧∀ ys:List D,ys.length=ds.length→(∀ i y,ys[i]?=some y→P i y)→R ys) {k:Nat} (hk:GM k g) :
    ds.length<sizeLine∧∃ P:Nat→Option D→Prop,(∀ i d,ds[i]?=some d→g d (qeF cap ρ) fun ρ1=>qhX ρ1 fun b=>(b=true→te ρ1 fun y=>P i (some y))∧(b=false→P i none))∧∀ ys:List (Option D),ys.length=ds.length→(∀ i y,ys[i]?=some y→P i y)→R (ys.filterMap id):=by
  obtain ⟨h0,P,h1,h2⟩:=h
  refine ⟨h0,qle P,fun i d hd=>hk.m _ _ _ _ (fun ρ1 q=>⟨fun _=>q,fun e=>by cases e⟩) (h1 i d hd),fun ys hl hy=>?_⟩
  obtain ⟨zs,rfl⟩:=qed (P:=P) ys fun i y e=>by
    have:=hy i y e
    cases y with
    | none=>exact this.elim
    | some z=>exact ⟨z,rfl⟩
  rw [List.filterMap_map]
  have e:zs.filterMap (id ∘ some)=zs:=by simp
  rw [e]
  refine h2 zs (by simpa using hl) fun i y e=>?_
  exact hy i (some y) (by rw [List.getElem?_map,e];rfl)
theorem qcB {k:Nat} (hcap:qdm k cap=true) (hk:GM k g) {σ:St} {H:Hp} {Q:VK} (h:lF K (qfI ti cap g te) σ H Q):qet (lI K ti) cap (lG K g) (lT K qhX) (lE K te) σ H Q:=by
  obtain ⟨H0,Φ,ρ,R,E,t,kk⟩:=h
  exact qfF hcap hk E t (fun ds h=>qeL h hk) kk
theorem qfm {k:Nat} (hcalm:X.calm=true) (S:CompScope X.N X.env.scope scope N' cap) (hcap:qdm k cap=true) (hk:GM k g) (hi:PID K X tg iter ti)
    (hg:∀ (cl:List (Str × Addr)) (fp:List Addr) (C:Addr) (s0:Shared) (H0:Hp),PGD K (qaB X scope N' cl C s0 H0 fp) tg g)
    (he:∀ (cl:List (Str × Addr)) (fp:List Addr) (C:Addr) (s0:Shared) (H0:Hp),PD K (qaB X scope N' cl C s0 H0 fp) elt te) (hs:∀ x,foldedSetIterable iter X.env x=pure x:=by intro _;rfl):PF K X (.ListComp elt [⟨tg,iter,[],0⟩] scope pos) (qfI ti cap g te) :=
  ⟨fun hK=>(qhq hcalm S (hi.pi hK) (fun cl fp C s0 H0=>(hg cl fp C s0 H0).pg hK) (fun cl fp C s0 H0=>(qg0 (K:=K)).p hK) (fun cl fp C s0 H0=>(he cl fp C s0 H0).pe hK) hs).imp fun _ _ _=>qcB hcap hk⟩
end
structure EndsD where
  nx:Rho→Prop
  rt:D→Prop
  bk:Rho→Prop:=fun _=>False
  ct:Rho→Prop:=fun _=>False
abbrev TSD:=EndsD→Rho→Prop
def EnK (K:PySem.W.Frag) (Φ0 H0:Hp) (P:Rho→Prop) (Q:St→Hp→Prop):Prop:=∀ ρ' Φ' H' σ',P ρ'→Gr Φ0 H0 Φ' H'→EnvD K H0 Φ' H' σ' ρ'→Q σ' H'
structure EndOk (K:PySem.W.Frag) (Φ0 H0:Hp) (De:EndsD) (E:Ends):Prop where
  nx:EnK K Φ0 H0 De.nx E.nx
  rt:∀ d Φ' H' v,De.rt d→Gr Φ0 H0 Φ' H'→Rp K Φ' d v→E.rt v H'
  bk:EnK K Φ0 H0 De.bk E.bk
  ct:EnK K Φ0 H0 De.ct E.ct
def lS (K:PySem.W.Frag) (t:TSD):TS:=fun E σ H=>∃ Φ0 H0 Φ ρ De,Gr Φ0 H0 Φ H∧EnvD K H0 Φ H σ ρ∧t De ρ∧EndOk K Φ0 H0 De E
structure PSD (K:PySem.W.Frag) (X:Cx) (st:Stmt) (t:TSD):Prop where ps:X.K=K→PS X st (lS K t)
structure PSsD (K:PySem.W.Frag) (X:Cx) (st:List Stmt) (t:TSD):Prop where ps:X.K=K→PSs X st (lS K t)
section
variable {K : PySem.W.Frag} {X : Cx} {st : Stmt} {rest : List Stmt} {t u : TSD} {e a : Expr} {te : TD} {tf : TDL} {pos : Pos} {tt : TDB}
def qjQ:TSD:=fun De ρ=>De.nx ρ
def qkF (t u:TSD):TSD:=fun De ρ=>t { De with nx:=u De } ρ
def qk6 (t u:TSD):TSD:=fun De ρ=>∃ I:Rho→Prop,t { De with nx:=I } ρ∧∀ ρ',I ρ'→u De ρ'
theorem qbI:PSsD K X [] qjQ:=⟨fun _=>pss_nil.imp fun E σ H hq0=>by obtain ⟨Φ0,H0,Φ,ρ,De,g,V,t,k⟩:=hq0;exact k.nx ρ Φ H σ t g V⟩
theorem qal (h1:PSD K X st t) (h2:PSsD K X rest u):PSsD K X (st::rest) (qkF t u):=⟨fun hK=>(qb4 (h1.ps hK) (h2.ps hK)).imp fun E σ H hq0=>by obtain ⟨Φ0,H0,Φ,ρ,De,g,V,t,k⟩:=hq0;exact
  ⟨Φ0,H0,Φ,ρ,_,g,V,t,⟨fun ρ' Φ' H' σ' t' g' V'=>⟨Φ0,H0,Φ',ρ',De,g',V',t',k⟩,k.rt,k.bk,k.ct⟩⟩⟩
theorem qb8 (h1:PSD K X st t) (h2:PSsD K X rest u):PSsD K X (st::rest) (qk6 t u):=⟨fun hK=>(qb4 (h1.ps hK) (h2.ps hK)).imp fun E σ H hq0=>by obtain ⟨Φ0,H0,Φ,ρ,De,g,V,⟨I,t,c⟩,k⟩:=hq0;exact
  ⟨Φ0,H0,Φ,ρ,_,g,V,t,⟨fun ρ' Φ' H' σ' t' g' V'=>⟨Φ0,H0,Φ',ρ',De,g',V',c ρ' t',k⟩,k.rt,k.bk,k.ct⟩⟩⟩
theorem qat (h1:PSD K X st t):PSsD K X [st] t:=⟨fun hK=>qd5 (h1.ps hK)⟩
def qk5 (i:Nat) (t:TSD):TSD:=fun De ρ=>t De (frz i ρ)
theorem qhQ (i:Nat) (h:PSsD K X rest t):PSsD K X rest (qk5 i t):=⟨fun hK=>(h.ps hK).imp fun E σ H hq0=>by
  obtain ⟨Φ0,H0,Φ,ρ,De,g,V,t,k⟩:=hq0
  obtain ⟨Φ',g',V'⟩:=V.frz g i
  exact ⟨Φ0,H0,Φ',L2.frz i ρ,De,g',V',t,k⟩⟩
def qjk:TSD:=fun _ _=>False
theorem qe8:PSD K X st qjk:=⟨fun _=>ps_never.imp fun E σ H hq0=>by obtain ⟨Φ0,H0,Φ,ρ,De,g,V,t,k⟩:=hq0;exact t⟩
def qku (i:Nat) (te:TD):TSD:=fun De ρ=>te ρ fun d=>De.nx (ρ.set i (some (.v d)))
theorem qgQ {i:Nat} {E:Ends} {σ:St} {H:Hp} (h:lS K (qku i te) E σ H):qhZ (lE K te) (qd7 i) E σ H:=by
  obtain ⟨Φ0,H0,Φ,ρ,De,g,V,t,k⟩:=h
  exact ⟨H0,Φ,ρ,_,V,t,fun d Φ1 H1 v r g1 rv=>k.nx _ Φ1 H1 _ r (g.trans g1) ((V.gr g1).set rv i)⟩
theorem qay {i:Nat} {x:Str} {pos':Pos} (hN:X.N.Nodup) (hi:X.N[i]?=some x) (hx:Loc X.env.scope x) (he:PD K X e te) (hs:swapsWith e (some (.Name x pos')) pos.line X.env=pure false:=by rfl) (hf:X.fn x=true∨X.env.scope.names.lookup x=some .local:=by first | exact .inl rfl | exact .inr rfl | assumption) :
    PSD K X (.Assign [.Name x pos'] e pos) (qku i te):=⟨fun hK=>(qfC hN hi hx (he.pe hK) hs hf).imp fun _ _ _=>qgQ⟩
def qjy (i:Nat) (tf:TDL):TSD:=fun De ρ=>tf ρ fun ds=>De.nx (ρ.set i (some (.own ds)))
theorem qdz {i:Nat} {E:Ends} {σ:St} {H:Hp} (h:lS K (qjy i tf) E σ H):lF K tf σ H fun v H'=>qd7 i v σ H' E.nx:=by
  obtain ⟨Φ0,H0,Φ,ρ,De,g,V,t,k⟩:=h
  refine ⟨H0,Φ,ρ,_,V,t,fun ds Φ1 H1 p vs r g1 hp hn hl rl=>k.nx _ Φ1 H1 _ r (g.trans g1) ((V.gr g1).setOwn rl (g.h.free hp) hn hl (fun j es hj z=>?_) i)⟩
  obtain ⟨q,ws,e,_,_,hq,_⟩:=V.ow j _ hj
  rw [e] at z
  cases z
  rw [hp] at hq
  cases hq
theorem qh5 {i:Nat} {x:Str} {pos':Pos} (hN:X.N.Nodup) (hi:X.N[i]?=some x) (hx:Loc X.env.scope x) (he:PF K X e tf) (hs:swapsWith e (some (.Name x pos')) pos.line X.env=pure false:=by rfl) (hf:X.fn x=true∨X.env.scope.names.lookup x=some .local:=by first | exact .inl rfl | exact .inr rfl | assumption) :
    PSD K X (.Assign [.Name x pos'] e pos) (qjy i tf):=⟨fun hK=>(qfC hN hi hx (he.pe hK) hs hf).imp fun _ _ _ h=>qdz h⟩
def qkJ (te:TD):TSD:=fun De ρ=>te ρ De.rt
theorem qaO (he:PD K X e te):PSD K X (.Return (some e) pos) (qkJ te) :=
  ⟨fun hK=>(qgV (he.pe hK)).imp fun E σ H hq0=>by obtain ⟨Φ0,H0,Φ,ρ,De,g,V,t,k⟩:=hq0;exact ⟨H0,Φ,ρ,_,V,t,fun d Φ1 H1 v r g1 rv=>k.rt d Φ1 H1 v r (g.trans g1) rv⟩⟩
def sIf (c:TDB) (t u:TSD):TSD:=fun De ρ=>c ρ fun b=>(b=true→t De ρ)∧(b=false→u De ρ)
theorem qdZ {c:Expr} {a b:List Stmt} (hc:PTD K X c tt) (ha:PSsD K X a t) (hb:PSsD K X b u):PSD K X (.If c a b pos) (sIf tt t u) :=
  ⟨fun hK=>(qh4 (hc.pt hK) (ha.ps hK) (hb.ps hK)).imp fun E σ H hq0=>by obtain ⟨Φ0,H0,Φ,ρ,De,g,V,t,k⟩:=hq0;exact ⟨H0,Φ,ρ,_,V,t,fun c Φ1 H1 r g1=>by
    cases c with
    | true=>refine qjx ?_;exact ⟨Φ0,H0,Φ1,ρ,De,g.trans g1,V.gr g1,r.1 rfl,k⟩
    | false=>refine qjC ?_;exact ⟨Φ0,H0,Φ1,ρ,De,g.trans g1,V.gr g1,r.2 rfl,k⟩⟩⟩
def qkW (te:TD) (g:TGD):TSD:=fun De ρ=>te ρ fun d=>g d ρ De.nx
theorem qhi {tg:Expr} {gd:TGD} (he:PD K X e te) (hg:PGD K X tg gd) (hs:swapsWithSole [tg] e pos.line X.env=pure false:=by rfl) (hw:swappedStores [tg] e X.env=pure none:=by rfl)
    (h1:(assignEach [tg] X.env).map (·.2)=[assign tg X.env]:=by rfl):PSD K X (.Assign [tg] e pos) (qkW te gd) :=
  ⟨fun hK=>(qi5 (he.pe hK) (hg.pg hK) hs hw h1).imp fun E σ H hq0=>by obtain ⟨Φ0,H0,Φ,ρ,De,g,V,t,k⟩:=hq0;exact ⟨H0,Φ,ρ,_,V,t,fun d Φ1 H1 v r g1 rv=>⟨H0,Φ1,ρ,d,_,V.gr g1,rv,r,fun ρ' σ' r' V'=>k.nx ρ' Φ1 H1 σ' r' (g.trans g1) V'⟩⟩⟩
def qju (c:TDB) (tb:TSD):TSD:=fun De ρ=>∃ I:Nat→Rho→Prop,(∃ m,I m ρ)∧∀ m ρ',I m ρ'→c ρ' fun b=>(b=true→tb { De with nx:=fun ρ2=>∃ m',m'<m∧I m' ρ2,ct:=fun ρ2=>∃ m',m'<m∧I m' ρ2,bk:=De.nx } ρ')∧(b=false→De.nx ρ')
theorem qdQ {c:Expr} {body:List Stmt} {tb:TSD} (hp:PassesOwn (model X.prog X.w) X.A X.env X.xe) (hc:PTD K X c tt) (hb:PSsD K X body tb):PSD K X (.While c body [] pos) (qju tt tb) :=
  ⟨fun hK=>(qgJ hp (hc.pt hK) (hb.ps hK)).imp fun E σ H hq0=>by
    obtain ⟨Φ0,H0,Φ,ρ,De,g,V,⟨I,⟨m,h0⟩,hw⟩,k⟩:=hq0
    refine ⟨fun m σ H=>∃ Φ' ρ',Gr Φ0 H0 Φ' H∧EnvD K H0 Φ' H σ ρ'∧I m ρ',⟨m,Φ,ρ,g,V,h0⟩,?_⟩
    rintro m σ' H' ⟨Φ',ρ',g',V',hi⟩
    refine ⟨H0,Φ',ρ',_,V',hw m ρ' hi,fun b Φ1 H1 r g1=>?_⟩
    cases b with
    | false=>refine qjC ?_;exact k.nx ρ' Φ1 H1 σ' (r.2 rfl) (g'.trans g1) (V'.gr g1)
    | true =>
      refine qjx ?_
      refine ⟨fun σ2 H2=>∃ m',m'<m∧∃ Φ' ρ',Gr Φ0 H0 Φ' H2∧EnvD K H0 Φ' H2 σ2 ρ'∧I m' ρ',fun σ2 H2 h=>h,Φ0,H0,Φ1,ρ',_,g'.trans g1,V'.gr g1,r.1 rfl,⟨?_,k.rt,k.nx,?_⟩⟩
      · rintro ρ2 Φ2 H2 σ2 ⟨m',hm,hi'⟩ g2 V2
        exact ⟨m',hm,Φ2,ρ2,g2,V2,hi'⟩
      · rintro ρ2 Φ2 H2 σ2 ⟨m',hm,hi'⟩ g2 V2
        exact ⟨m',hm,Φ2,ρ2,g2,V2,hi'⟩⟩
def qkP (ti:TDL) (gd:TGD) (tb:TSD):TSD:=fun De ρ=>ti ρ fun ds=>∃ I:Nat→Rho→Prop,I 0 ρ∧(∀ i d ρ',ds[i]?=some d→I i ρ'→gd d ρ' fun ρ2=>tb { De with nx:=I (i+1),ct:=I (i+1),bk:=De.nx } ρ2)∧∀ ρ',I ds.length ρ'→De.nx ρ'
theorem qdE {tg iter:Expr} {body:List Stmt} {ti:TDL} {gd:TGD} {tb:TSD} (hp:PassesOwn (model X.prog X.w) X.A X.env X.xe) (hc:X.calm=true) (hi:PID K X tg iter ti) (hg:PGD K X tg gd) (hb:PSsD K X body tb)
    (hs:∀ x,foldedSetIterable iter X.env x=pure x:=by intro _;rfl):PSD K X (.For tg iter body [] pos) (qkP ti gd tb) :=
  ⟨fun hK=>(qiN hp hc (hi.pi hK) (hg.pg hK) (hb.ps hK) hs).imp fun E σ H hq0=>by
    obtain ⟨Φ0,H0,Φ,ρ,De,g,V,t,k⟩:=hq0
    refine ⟨H0,Φ,ρ,_,V,t,fun ds Φ1 H1 J hq1 g1 S=>?_⟩
    obtain ⟨I,h0,hst,hend⟩:=hq1
    refine ⟨fun i m σ H'=>m=ds.length - i∧i≤ds.length∧∃ Φ' ρ',Gr Φ0 H0 Φ' H'∧Same Φ1 Φ'∧EnvD K H0 Φ' H' σ ρ'∧I i ρ',⟨ds.length,by simp,Nat.zero_le _,Φ1,ρ,g.trans g1,Same.refl _,V.gr g1,h0⟩,?_⟩
    rintro i m σ' H' ⟨rfl,hi,Φ',ρ',g',s',V',hI⟩
    by_cases hlt:i<ds.length
    · refine .inr ⟨S.go i H' (s'.trans V'.fz) hlt,fun σ2 H2=>∃ Φ' ρ',Gr Φ0 H0 Φ' H2∧Same Φ1 Φ'∧EnvD K H0 Φ' H2 σ2 ρ'∧I (i+1) ρ',fun σ2 H2 h2=>⟨ds.length - (i+1),by omega,rfl,hlt,h2⟩,fun x H2 y=>?_⟩
      obtain ⟨Φ3,g3,rx⟩:=S.yl i Φ' H' x H2 _ s' V'.fz (qan hlt) y
      refine ⟨H0,Φ3,ρ',_,_,V'.gr g3,rx,hst i _ ρ' (qan hlt) hI,fun ρ2 σ3 t2 V3=>?_⟩
      refine ⟨Φ3,H0,Φ3,ρ2,_,?_,V3,t2,⟨?_,?_,?_,?_⟩⟩
      · exact ⟨Same.refl _,(g'.trans g3).h,g3.s,fun p u hp hn _=>hn⟩
      · intro ρ4 Φ4 H4 σ4 t4 g4 V4
        exact ⟨Φ4,ρ4,(g'.trans g3).join g4,(s'.trans g3.f).trans g4.f,V4,t4⟩
      · intro d Φ4 H4 v r g4 rv
        exact k.rt d Φ4 H4 v r ((g'.trans g3).join g4) rv
      · intro ρ4 Φ4 H4 σ4 t4 g4 V4
        exact k.nx ρ4 Φ4 H4 σ4 t4 ((g'.trans g3).join g4) V4
      · intro ρ4 Φ4 H4 σ4 t4 g4 V4
        exact ⟨Φ4,ρ4,(g'.trans g3).join g4,(s'.trans g3.f).trans g4.f,V4,t4⟩
    · have e:i=ds.length:=by omega
      subst e
      exact .inl ⟨S.stop H' (s'.trans V'.fz),k.nx ρ' Φ' H' σ' (hend ρ' hI) g' V'⟩⟩
end
section
variable {K : PySem.W.Frag} {X : Cx} {tg iter elt e a : Expr} {ifs : List Expr} {scope : Scope} {pos py spos : Pos} {N' : List Str} {cap : List (Option Nat)} {ti : TDL} {g : TGD} {tc : TDB} {te ta tb : TD} {i : Nat} {y : Str}
theorem qdu {tf:TDL} {E:Ends} {σ:St} {H:Hp} (lift:∀ {σ:St} {H:Hp} {Q:VK},lF K tf σ H Q→qet (lI K ti) cap (lG K g) (lT K tc) (lE K te) σ H Q) (h:lS K (qjy i tf) E σ H):qhZ (qet (lI K ti) cap (lG K g) (lT K tc) (lE K te)) (qd7 i) E σ H:=lift (qdz h)
theorem qgv {k:Nat} (hcalm:X.calm=true) (hN:X.N.Nodup) (hy:X.N[i]?=some y) (hx:Loc X.env.scope y) (S:CompScope X.N X.env.scope scope N' cap) (hcap:qdm k cap=true) (hk:GM k g) (hi:PID K X tg iter ti)
    (hg:∀ (cl:List (Str × Addr)) (fp:List Addr) (C:Addr) (s0:Shared) (H0:Hp),PGD K (qaB X scope N' cl C s0 H0 fp) tg g)
    (he:∀ (cl:List (Str × Addr)) (fp:List Addr) (C:Addr) (s0:Shared) (H0:Hp),PD K (qaB X scope N' cl C s0 H0 fp) elt te) (hsw:swapsWith (.ListComp elt [⟨tg,iter,[],0⟩] scope pos) (some (.Name y py)) spos.line X.env=pure true:=by rfl)
    (hs:∀ x,foldedSetIterable iter X.env x=pure x:=by intro _;rfl) (hf:X.fn y=true∨X.env.scope.names.lookup y=some .local:=by first | exact .inl rfl | exact .inr rfl | assumption) :
    PSD K X (.Assign [.Name y py] (.ListComp elt [⟨tg,iter,[],0⟩] scope pos) spos) (qjy i (qfI ti cap g te)) :=
  ⟨fun hK=>(qhx hcalm hN hy hx S (hi.pi hK) (fun cl fp C s0 H0=>(hg cl fp C s0 H0).pg hK) (fun cl fp C s0 H0=>(qg0 (K:=K)).p hK) (fun cl fp C s0 H0=>(he cl fp C s0 H0).pe hK) hsw hs hf).imp fun _ _ _ h=>qdu (fun q=>qcB hcap hk q) h⟩
theorem qje {Φ0 H0 Φ H:Hp} {p:Addr} {o:HO} (g:Gr Φ0 H0 Φ H) (h0:H0 p=none) (hn:Φ p=none):Gr Φ0 H0 Φ (upd H p o) :=
  ⟨g.f,qej g.h h0 _,fun b u e=>by rw [qad (qaj e hn)];exact g.s b u e,fun p u hp hn k=>g.o p u hp hn k⟩
def qfL (i:Nat) (te:TD):TSD:=fun De ρ=>match ρ[i]? with | some (some (.ob (.lst ds)))=>te ρ fun d=>ds.length<sizeLine∧NF (ds++[d]) fun es=>De.nx (ρ.set i (some (.own es))) | _=>False
theorem qcN {apos cpos npos:Pos} {x:Str} (i:Nat) (he:PD K X e te) (hfew:((backTo cpos (starEach [e] X.env)).all (fun x=>!x.1) && (backToKw cpos (keywordEach [] X.env)).all (fun x=>x.1.isSome) && decide (([e]:List Expr).length+([]:List Keyword).length+(if ([]:List Keyword).isEmpty then 0 else 1)<30))=true)
    (hse:starEach [e] X.env=(false,eval e X.env)::starEach [] X.env) (hN:X.N[i]?=some x:=by rfl) (hv:Vis X.env.scope x:=by first | exact Or.inl rfl | exact Or.inr (Or.inl rfl) | exact Or.inr (Or.inr rfl)) (hd:(x == ("__debug__":Str))=false:=by decide) (hcd:(x == ("__classdict__":Str))=false:=by decide)
    (hbase:attributeBase (.Name x npos) "append" X.env (eval (.Name x npos) X.env)=eval (.Name x npos) X.env:=by rfl) (hline:(apos.endLine == cpos.line)=true:=by rfl) (hs:swapsWith (.Call (.Attribute (.Name x npos) "append" apos) [e] [] cpos) none pos.line X.env=pure false:=by rfl) :
    PSD K X (.Expr (.Call (.Attribute (.Name x npos) "append" apos) [e] [] cpos) pos) (qfL i te) :=
  ⟨fun hK=>(qfc (qjK PySem.F.plainAttrs_list PySem.F.slot_list_append PySem.F.type_list_append qdf (pv i hN hv hd hcd) (qaM (he.pe hK) pa_nil hse) hbase hfew hline hse qah) hs).imp fun E σ H hq0=>by
    obtain ⟨Φ0,H0,Φ,ρ,De,g,V,t,k⟩:=hq0
    unfold qfL at t
    split at t
    · next ds ho =>
      obtain ⟨p,vs,e1,h0,hn,hp,rl⟩:=V.owl i ds ho
      refine ⟨_,e1,.inl ⟨rfl,vs,SqL.of hp⟩,H0,Φ,ρ,_,V,t,fun d Φ1 H1 v r g1 rv=>?_⟩
      have hp1:=g1.h _ _ hp
      have hn1:=g1.o _ _ hp hn
      refine ⟨p,vs,v,rfl,rfl,hp1,by rw [rl.1];exact r.1,k.nx _ Φ1 _ σ r.2.get (qje (g.trans g1) h0 hn1) ((V.gr g1).put ho e1 ((rl.same g1.f).append (.one rv)))⟩
    · exact t.elim⟩
end
def qbT (N:List Str) (ds:List D):Rho:=ds.map (fun d=>some (.v d))++List.replicate (N.length - ds.length) none
theorem qdl {K:PySem.W.Frag} {Φ H:Hp} {N:List Str} {ds:List D} {vs:List V} (sm:Same Φ H) (tb:TabF K Φ) (r:RpL K Φ ds vs):EnvD K H Φ H (qbd N vs) (qbT N ds):=by
  have own:∀ {i:Nat} {x:Sl},(qbT N ds)[i]?=some (some x)→∃ d,ds[i]?=some d∧x=.v d:=fun {i x} h=>by
    unfold qbT at h
    rcases Nat.lt_or_ge i (ds.map fun d=>some (Sl.v d)).length with c | c
    · rw [List.getElem?_append_left c,List.getElem?_map] at h
      cases e:ds[i]? with
      | none=>rw [e] at h;cases h
      | some d=>rw [e] at h;cases h;exact ⟨d,rfl,rfl⟩
    · rw [List.getElem?_append_right c,List.getElem?_replicate] at h
      split at h
      · cases h
      · cases h
  refine ⟨sm,by unfold qbd qbT;simp [r.1],fun i d h=>?_,fun i es h=>?_,fun i j es fs p h=>?_,tb⟩
  · obtain ⟨d',h1,h2⟩:=own h
    cases h2
    obtain ⟨v,hv,rv⟩:=r.at h1
    refine ⟨v,?_,rv⟩
    unfold qbd
    rw [List.getElem?_append_left (by rw [List.length_map];exact qam hv),List.getElem?_map,hv]
    rfl
  · obtain ⟨d',h1,h2⟩:=own h
    cases h2
  · obtain ⟨d',h1,h2⟩:=own h
    cases h2
section
variable {P : Program} {w : World} {K : PySem.W.Frag} {mg : Str → Option Value} {base : Heap}
theorem Fun.okD {x qual:Str} {st:Stmt} {f:Addr} {fd:FuncData} {N ps:List Str} {k:Nat} {sp:SpD} (F:Fun K x qual st f fd) (S:FnScope N ps (qab st)) (len:∀ ds R,sp ds R→ds.length=ps.length)
    (hbody:∀ (cdv:Value) (A:Around) (outer:List Env) (s:Shared) (H:Hp) (E:XK) (ds:List D) (R:D→Prop),Room k (A.deeper (envOfC qual (qab st) s.heap.objs.size f cdv))→sp ds R →
      ∃ t,PSsD K (qeA CX0 P w K mg base N qual (qab st) f cdv A outer s H E).nox (qao st) t∧t { nx:=fun _=>R .non,rt:=R } (qbT N ds)):FnOk P w K mg base CX0 (k+1) f fd ps (lSp K sp):=by
  refine F.ok S (fun vs H Q E ⟨Φ,ds,R,sm,tb,rl,h,_⟩=>by rw [rl.1];exact len ds R h) (fun cdv A outer s H vs Q E hr ⟨Φ,ds,R,sm,tb,rl,h,kk⟩=>?_)
  obtain ⟨t,ht,hq⟩:=hbody cdv A outer s H E ds R hr h
  exact ⟨lS K t,ht.ps rfl,Φ,H,Φ,qbT N ds,_,.refl sm,qdl sm tb rl,hq,⟨fun ρ' Φ' H' σ' r g V=>kk .non Φ' H' .non r g .non,kk,fun _ _ _ _ h=>h.elim,fun _ _ _ _ h=>h.elim⟩⟩
end
def Itb (K:PySem.W.Frag) (b:Bool) (a:Addr):It:=match b with | true=>Itl K a | false=>Itt K a
section
variable {K : PySem.W.Frag} {X : Cx} {tg e a b : Expr} {es : List Expr} {pos p tp : Pos} {t ta tb : TD} {tl : TDL}
theorem qjj {l:Expr} {tl:TE} (hK:X.K=K) (hl:PE X l tl):PI X tg l (fun σ H R=>tl σ H fun x H1=>∃ q a,x=.ref a∧(∃ xs,SqB K q H1 a xs)∧R (Itb K q a) H1):=by
  subst hK
  intro pins s σ H R I h
  refine thn (hl pins s σ H _ I h) fun v s1 hq0=>?_
  obtain ⟨x,H1,I1,r1,q1⟩:=hq0
  obtain ⟨bb,a,e,⟨xs,hq⟩,q⟩:=q1
  subst e
  cases r1
  have fp:∀ b∈[s1.heap.objs.size],qdi X pins H1 b:=fun b hb=>by
    have e:b=s1.heap.objs.size:=by simpa using hb
    subst e
    exact I1.fpOk (Nat.le_refl _) (I1.hok.fresh (Nat.le_refl _))
  cases bb with
  | true =>
    obtain ⟨its,rv,p,hz⟩:=I1.list hq
    refine wpAny_pyIter_list p.isList ?_
    exact ⟨s1.heap.objs.size,[s1.heap.objs.size],_,_,H1,rfl,I1.kept (t':=s1.toks) fun b o e=>Heap.get?_push_of_some _ e,qfe a _,⟨_,Heap.get?_push_size _ rfl,rfl,rfl⟩,fp,q⟩
  | false =>
    obtain ⟨its,rv,p,hz⟩:=I1.tuple hq
    refine wpAny_pyIter_tuple (show s1.heap.IsTuple a its.toArray from p) ?_
    exact ⟨s1.heap.objs.size,[s1.heap.objs.size],_,_,H1,rfl,I1.kept (t':=s1.toks) fun b o e=>Heap.get?_push_of_some _ e,qeI a _,⟨_,Heap.get?_push_size _ rfl,rfl,rfl⟩,fp,q⟩
theorem qdN {Φ:Hp} {ds:List D} {vs:List V} {a:Addr} {q:Bool} (h:SqB K q Φ a vs) (r:RpL K Φ ds vs):SteadyD K (Itb K q a) Φ ds:=by
  cases q with
  | true=>exact qdL h r
  | false=>exact qdP h r
def qkK (t:TD):TDL:=fun ρ R=>t ρ fun d=>match d with | .lst ds=>R ds | .tup ds=>R ds | .fzl ds=>R ds | _=>False
theorem qhM {d:D} {R:List D→Prop} (h:match d with | .lst ds=>R ds | .tup ds=>R ds | .fzl ds=>R ds | _=>False):∃ ds,qhu d=some ds∧R ds:=by
  cases d with
  | lst ds=>exact ⟨ds,rfl,h⟩
  | tup ds=>exact ⟨ds,rfl,h⟩
  | fzl ds=>exact ⟨ds,rfl,h⟩
  | _=>exact h.elim
theorem qd9 (h:PD K X e t):PID K X tg e (qkK t):=⟨fun hK=>(qjj hK (h.pe hK)).imp fun σ H R' hq0=>by obtain ⟨H0,Φ,ρ,R,E,t,k⟩:=hq0;exact ⟨H0,Φ,ρ,_,E,t,fun d Φ1 H1 v r g rv=>by
  obtain ⟨ds,e1,r⟩:=qhM r
  obtain ⟨q,a,vs,rfl,h1,h2⟩:=rv.seq e1
  exact ⟨q,a,rfl,⟨vs,SqB.same g.s h1⟩,k _ Φ1 H1 _ r g (qdN h1 h2)⟩⟩⟩
theorem qgl {a:Expr} {ta:TA} {es:List Expr} {k:Nat} (hK:X.K=K) (hg:Gl X "enumerate") (hm:X.mg "enumerate"=none) (ha:PA X [a] ta) (hs:starEach [a] X.env=[(false,eval a X.env)]) :
    PI X (.Tuple es k tp) (.Call (.Name "enumerate" p) [a] [] pos) (fun σ H R=>ta σ H fun vs H1=>∃ b a xs,vs=[.ref a]∧SqB K b H1 a xs∧R (Ite K b a) H1):=by
  subst hK
  intro pins s σ H R I h
  refine Call_ (qcF I hg hm boot_enumerate (PyProof.Rows.callWith_type1 (thn (ha pos pins s σ H _ I h) fun us s1 hq0=>?_) hs rfl))
  obtain ⟨vs,H1,I1,r1,q1⟩:=hq0
  obtain ⟨b,l,xs,e,hq,q⟩:=q1
  subst e
  cases r1 with
  | cons r rr =>
    cases rr
    cases r
    obtain ⟨its,rv,p,hz⟩:=I1.sqb hq
    refine qfa p fun h' he hi hsz hk=>wpAny_pyIter_enum he ?_
    have I2:Inv X pins σ H1 { s1 with heap:=h' }:=I1.kept (t':=s1.toks) hk
    have fr:∀ c,s1.heap.objs.size≤c→qdi X pins H1 c:=fun c hc=>I1.fpOk hc (I1.hok.fresh hc)
    exact ⟨s1.heap.objs.size+1,[s1.heap.objs.size+1,s1.heap.objs.size],_,_,H1,rfl,I2,qfE b l _ _ (Nat.succ_ne_self _),⟨⟨_,he⟩,hi⟩,fun c hc=>by
      rcases List.mem_cons.mp hc with rfl | hc
      · exact fr _ (Nat.le_succ _)
      · rw [List.mem_singleton.mp hc];exact fr _ (Nat.le_refl _),q⟩
theorem qhc {a b:Expr} {ta:TA} {es:List Expr} {k:Nat} (hK:X.K=K) (hg:Gl X "zip") (hm:X.mg "zip"=none) (ha:PA X [a,b] ta) (hs:starEach [a,b] X.env=[(false,eval a X.env),(false,eval b X.env)]) (hs2:starEach [b] X.env=[(false,eval b X.env)]) :
    PI X (.Tuple es k tp) (.Call (.Name "zip" p) [a,b] [] pos) (fun σ H R=>ta σ H fun vs H1=>∃ b1 b2 a1 a2 xs ys,vs=[.ref a1,.ref a2]∧SqB K b1 H1 a1 xs∧SqB K b2 H1 a2 ys∧R (Itz K b1 a1 b2 a2) H1):=by
  subst hK
  intro pins s σ H R I h
  refine Call_ (qcF I hg hm boot_zip (PyProof.Rows.callWith_type1 (thn (ha pos pins s σ H _ I h) fun us s1 ⟨vs,H1,I1,r1,q1⟩=>?_) (by rw [hs,hs2]) (by rw [hs2];rfl)))
  obtain ⟨b1,b2,l1,l2,xs,ys,e,hq1,hq2,q⟩:=q1
  subst e
  cases r1 with
  | cons r rr =>
    cases rr with
    | cons r' rr =>
      cases rr
      cases r
      cases r'
      obtain ⟨its1,rv1,p1,_⟩:=I1.sqb hq1
      obtain ⟨its2,rv2,p2,_⟩:=I1.sqb hq2
      refine qgd p1 p2 fun h' z1 z2 z3 z4 z5 hk=>wpAny_pyIter_zip z1 ?_
      have I2:Inv X pins σ H1 { s1 with heap:=h' }:=I1.kept (t':=s1.toks) hk
      have fr:∀ c,s1.heap.objs.size≤c→qdi X pins H1 c:=fun c hc=>I1.fpOk hc (I1.hok.fresh hc)
      generalize s1.heap.objs.size=n at *
      refine ⟨n+4,[n+4,n+2,n+3,n,n+1],_,_,H1,rfl,I2,qgm b1 b2 l1 l2 (n+4) (n+2) (n+3) n (n+1) (zap n),⟨z1,z2,⟨_,_,z3⟩,z4,z5⟩,fun c hc=>fr c ?_,q⟩
      simp only [List.mem_cons,List.not_mem_nil,or_false] at hc
      rcases hc with rfl | rfl | rfl | rfl | rfl
      · exact Nat.le_add_right _ _
      · exact Nat.le_add_right _ _
      · exact Nat.le_add_right _ _
      · exact Nat.le_refl _
      · exact Nat.le_add_right _ _
def qjr (t:TDL):TDL:=fun ρ R=>t ρ fun ds=>match ds with | [.lst xs]=>R (qc2 xs) | [.tup xs]=>R (qc2 xs) | [.fzl xs]=>R (qc2 xs) | _=>False
theorem qht {ets:List Expr} {ek:Nat} (hg:Gl X "enumerate") (hm:X.mg "enumerate"=none) (ha:PAD K X [a] tl) (hs:starEach [a] X.env=[(false,eval a X.env)]:=by rfl):PID K X (.Tuple ets ek tp) (.Call (.Name "enumerate" p) [a] [] pos) (qjr tl) :=
  ⟨fun hK=>(qgl hK hg hm (ha.pa hK) hs).imp fun σ H R' hq0=>by obtain ⟨H0,Φ,ρ,R,E,t,k⟩:=hq0;exact ⟨H0,Φ,ρ,_,E,t,fun ds Φ1 H1 vs r g rv _=>by
    have fin:∀ {d:D} {xs:List D},RpL K Φ1 [d] vs→qhu d=some xs→R (qc2 xs)→∃ b a xs,vs=[.ref a]∧SqB K b H1 a xs∧R' (Ite K b a) H1:=fun {d xs} rv hx r=>by
      obtain ⟨v,rfl,r1⟩:=rv.one_inv
      obtain ⟨q,a,ws,rfl,h1,h2⟩:=r1.seq hx
      exact ⟨q,a,ws,rfl,SqB.same g.s h1,k _ Φ1 H1 _ r g (qdc h1 h2)⟩
    match ds,r with
    | [.lst xs],r=>exact fin rv rfl r
    | [.tup xs],r=>exact fin rv rfl r
    | [.fzl xs],r=>exact fin rv rfl r⟩⟩
def qki (t:TDL):TDL:=fun ρ R=>t ρ fun ds=>match ds with | [d,e]=>∃ xs ys,qhu d=some xs∧qhu e=some ys∧R (qh1 xs ys) | _=>False
theorem qi1 {ets:List Expr} {ek:Nat} (hg:Gl X "zip") (hm:X.mg "zip"=none) (ha:PAD K X [a,b] tl) (hs:starEach [a,b] X.env=[(false,eval a X.env),(false,eval b X.env)]:=by rfl) (hs2:starEach [b] X.env=[(false,eval b X.env)]:=by rfl):PID K X (.Tuple ets ek tp) (.Call (.Name "zip" p) [a,b] [] pos) (qki tl) :=
  ⟨fun hK=>(qhc hK hg hm (ha.pa hK) hs hs2).imp fun σ H R' hq0=>by obtain ⟨H0,Φ,ρ,R,E,t,k⟩:=hq0;exact ⟨H0,Φ,ρ,_,E,t,fun ds Φ1 H1 vs r g rv _=>by
    match ds,r with
    | [d,e],⟨xs,ys,hx,hy,r⟩ =>
      obtain ⟨v,w,rfl,r1,r2⟩:=rv.two_inv
      obtain ⟨q1,a1,ws,rfl,h1,h2⟩:=r1.seq hx
      obtain ⟨q2,a2,us,rfl,h3,h4⟩:=r2.seq hy
      exact ⟨q1,q2,a1,a2,ws,us,rfl,SqB.same g.s h1,SqB.same g.s h3,k _ Φ1 H1 _ r g (qdR h1 h3 h2 h4)⟩⟩⟩
variable {gs : qgR}
def qjP (n:Nat) (t:qgR):TGD:=fun d ρ R=>match d with | .tup ds=>ds.length=n∧t ds ρ R | .lst ds=>ds.length=n∧t ds ρ R | _=>False
theorem PG.or {tg:Expr} {t t':TG} (h:PG X tg t) (h':PG X tg t'):PG X tg (fun v σ H Q=>t v σ H Q∨t' v σ H Q):=by
  intro pins s σ H v u Q I r hw
  rcases hw with hw | hw
  · exact h pins s σ H v u Q I r hw
  · exact h' pins s σ H v u Q I r hw
theorem qe9 {k n:Nat} (hc:X.calm=true) (h:PGDs K X es gs) (hn:(assignEach es X.env).length=n:=by rfl) (hst:(assignEach es X.env).findIdx? (·.1)=none:=by rfl):PGD K X (.Tuple es k pos) (qjP n gs) :=
  ⟨fun hK=>((qge hK hc (h.pg hK) hn hst).or (qgh hK hc (h.pg hK) hn hst)).imp fun v σ H Q hq0=>by
    obtain ⟨H0,Φ,ρ,d,R,E,r,g,k⟩:=hq0
    cases d with
    | tup ds=>cases r with | tup h1 h2 h3=>exact .inl ⟨_,_,rfl,.of (E.fz _ _ h1),by rw [h2];exact g.1,H0,Φ,ρ,ds,R,E,⟨h2,h3⟩,g.2,k⟩
    | lst ds=>cases r with | lst h1 h2 h3=>exact .inr ⟨_,_,rfl,.of (E.fz _ _ h1),by rw [h2];exact g.1,H0,Φ,ρ,ds,R,E,⟨h2,h3⟩,g.2,k⟩
    | _=>exact g.elim⟩
theorem qi2 {Φ H:Hp} {d:D} {v:V} {T:String} {r:Bool} (s:Same Φ H) (h:RpQ K Φ H d v) (e:qiQ d T=some r):IsiV K H v T r:=by
  have sp:∀ {c:Prop} [Decidable c] {x:Bool} {y:Option Bool},(if c then some x else y)=some r→(c∧x=r)∨y=some r:=fun {c _ x y} h=>by
    by_cases hc:c
    · rw [if_pos hc] at h;cases h;exact .inl ⟨hc,rfl⟩
    · rw [if_neg hc] at h;exact .inr h
  cases d with
  | int i =>
    cases h.int
    rcases sp e with ⟨rfl,rfl⟩ | e
    · exact .int_int _
    rcases sp e with ⟨rfl,rfl⟩ | e
    · exact .int_bool _
    rcases sp e with ⟨rfl,rfl⟩ | e
    · exact .int_tuple _
    rcases sp e with ⟨rfl,rfl⟩ | e
    · exact .int_str _
    cases e
  | bl i =>
    cases h.bl
    rcases sp e with ⟨rfl,rfl⟩ | e
    · exact .bl_int _
    rcases sp e with ⟨rfl,rfl⟩ | e
    · exact .bl_bool _
    rcases sp e with ⟨rfl,rfl⟩ | e
    · exact .bl_tuple _
    cases e
  | str i =>
    cases h.str
    rcases sp e with ⟨rfl,rfl⟩ | e
    · exact .str_str _
    rcases sp e with ⟨rfl,rfl⟩ | e
    · exact .str_tuple _
    cases e
  | non=>cases e
  | tup ds =>
    obtain ⟨a,vs,rfl,h1,_,h2⟩:=h.tup s
    rcases sp e with ⟨rfl,rfl⟩ | e
    · exact .tup_tuple h1
    rcases sp e with ⟨rfl,rfl⟩ | e
    · exact .tup_int h1
    cases e
  | lst ds =>
    obtain ⟨a,vs,rfl,h1,h2⟩:=h.lst s
    rcases sp e with ⟨rfl,rfl⟩ | e
    · exact .lst_tuple (.of h1)
    rcases sp e with ⟨rfl,rfl⟩ | e
    · exact .lst_list (.of h1)
    cases e
  | fzl ds=>cases e
  | obj C fs=>cases e
  | map kvs=>cases e
  | exc _ _=>cases e
def qk8 (T:String) (t:TD):TD:=fun ρ R=>t ρ fun d=>∃ r,qiQ d T=some r∧R (.bl r)
theorem qgk {T:String} {tx:Str} {p2:Pos} (hg:Gl X "isinstance") (hm:X.mg "isinstance"=none) (ha:PQ K X a t) (hT:PE X (.Name tx p2) (tC (.ty T)))
    (he:starEach [a,.Name tx p2] X.env=(false,eval a X.env)::starEach [.Name tx p2] X.env) (he2:starEach [.Name tx p2] X.env=(false,eval (.Name tx p2) X.env)::starEach [] X.env):PD K X (.Call (.Name "isinstance" p) [a,.Name tx p2] [] pos) (qk8 T t) :=
  ⟨fun hK=>(qb2 (qfn hK) hg hm boot_isinstance (qaM (ha.pe hK) (qaM hT pa_nil he2) he) (by decide) (by decide) he (qai he2 qah)).imp fun σ H Q hq0=>by obtain ⟨H0,Φ,ρ,R,E,t,k⟩:=hq0;exact ⟨H0,Φ,ρ,_,E,t,fun d Φ1 H1 v r g rv=>by
    obtain ⟨rr,hr,r⟩:=r
    exact ⟨v,T,rr,rfl,qi2 g.s rv hr,k _ Φ1 H1 _ r g (.bl _)⟩⟩⟩
theorem qim (i:Int):qiQ (.int i) "int"=some true:=rfl
theorem qia (i:Int):qiQ (.int i) "bool"=some false:=rfl
theorem qg4 (xs:List D):qiQ (.tup xs) "tuple"=some true:=rfl
end
theorem qby {α:Type} {f:α→D} {ns:List α} {i:Nat} {x:D} (h:(ns.map f)[i]?=some x):∃ k,x=f k∧ns[i]?=some k:=by
  rw [List.getElem?_map] at h
  cases e:ns[i]? with
  | none=>rw [e] at h;cases h
  | some k=>rw [e] at h;cases h;exact ⟨k,rfl,rfl⟩
theorem qf4 {ns:List Int} {i:Nat} {x:D} (h:(ns.map D.int)[i]?=some x):∃ k,x=.int k∧ns[i]?=some k:=qby h
theorem qjm {α:Type} {f:α→D} {ns:List α} {i:Nat} {n:α} {k:Int} (h:ns[i]?=some n) (e:k=(i:Int)):atI (ns.map f) k=some (f n):=qjt (by rw [List.getElem?_map,h];rfl) e
theorem qfi {ns:List Int} {k:Int} (h0:0≤k) (h:k<(ns.length:Int)):∃ v:Int,atI (ns.map D.int) k=some (.int v):=by
  have hk:k.toNat<ns.length:=by omega
  exact ⟨_,qjm (qan hk) (by omega)⟩
def qgW:SpD:=fun ds R=>∃ ns:List Int,ds=[.fzl (ns.map D.int)]∧ns.length≤63∧R (.bl true)
def qiG (K:PySem.W.Frag):Sp:=fun vs H Q _=>∃ (a:Addr) (ns:List Int),vs=[.ref a]∧SqL K H a (ns.map V.int)∧ns.length≤63∧TabF K H∧∀ H',Q (.bl true) H'
theorem qgc {K:PySem.W.Frag}:∀ vs H Q E,qiG K vs H Q E→lSp K qgW vs H Q E:=by
  rintro vs H Q E ⟨a,ns,rfl,hS,hl,tb,q⟩
  refine ⟨H,[.fzl (ns.map D.int)],fun d=>d=.bl true,Same.refl _,tb,.one ((RpL.ints ns).fzl hS),⟨ns,rfl,hl,rfl⟩,fun d Φ' H' v r g rv=>?_⟩
  subst r
  cases rv
  exact q _
section
variable {K : PySem.W.Frag} {H H' Φ : Hp} {v : V} {vs : List V}
end
section
variable {g : TGD} {te : TD} {ρ : Rho} {R : List D → Prop}
theorem qgO {ds:List D} (ws:List D) (hw:ws.length=ds.length) (hlen:ds.length<sizeLine) (Q:Nat→D→Prop) (hQ:∀ i y,Q i y→ws[i]?=some y) (hb:∀ i d,ds[i]?=some d→g d ρ fun ρ1=>te ρ1 (Q i)) (k:R ws) :
    ds.length<sizeLine∧∃ P:Nat→D→Prop,(∀ i d,ds[i]?=some d→g d ρ fun ρ1=>te ρ1 (P i))∧∀ ys:List D,ys.length=ds.length→(∀ i y,ys[i]?=some y→P i y)→R ys:=by
  refine ⟨hlen,Q,hb,fun ys hl hy=>?_⟩
  have:ys=ws:=by
    refine List.ext_getElem? fun i=>?_
    rcases Nat.lt_or_ge i ys.length with c | c
    · rw [qan c,hQ i _ (hy i _ (qan c))]
    · rw [List.getElem?_eq_none c,List.getElem?_eq_none (by omega)]
  rw [this]
  exact k
theorem qfv {α:Type} {f:α→D} {xs:List α} (h:α→D) (hlen:xs.length<sizeLine) (hb:∀ x∈xs,g (f x) ρ fun ρ1=>te ρ1 fun y=>y=h x) (k:R (xs.map h)) :
    (xs.map f).length<sizeLine∧∃ P:Nat→D→Prop,(∀ i d,(xs.map f)[i]?=some d→g d ρ fun ρ1=>te ρ1 (P i))∧∀ ys:List D,ys.length=(xs.map f).length→(∀ i y,ys[i]?=some y→P i y)→R ys:=by
  refine qgO (xs.map h) (by simp) (by rw [List.length_map];exact hlen) (fun i=>match xs[i]? with | some x=>fun y=>y=h x | none=>fun _=>False) (fun i y q=>?_) (fun i d hd=>?_) k
  · rw [List.getElem?_map]
    cases e:xs[i]? with
    | none=>rw [e] at q;exact q.elim
    | some x=>rw [e] at q;rw [q];rfl
  · obtain ⟨x,rfl,hx⟩:=qby hd
    have e:(match xs[i]? with | some x=>fun y=>y=h x | none=>fun _=>False:D→Prop)=fun y=>y=h x:=by rw [hx]
    rw [e]
    exact hb x (List.mem_of_getElem? hx)
end
end L2
namespace L2
theorem ff {p:Prop} (h:false=true):p:=by cases h
theorem tf {p:Prop} (h:true=false):p:=by cases h
end L2
namespace L2
end L2
namespace L2
theorem qfz {α:Type} (f:α→D) (es:List α) (d:α):es.map f++[f d]=(es++[d]).map f:=by simp
end L2
namespace L2
open PySem PySem.Spec PyProof.Rows
section
variable {g : TGD} {te : TD} {ρ : Rho} {R : List D → Prop}
theorem qdx {α:Type} {f:α→D} {xs:List α} (h:α→Int) (hlen:xs.length<sizeLine) (hb:∀ x∈xs,g (f x) ρ fun ρ1=>te ρ1 fun y=>y=.int (h x)) (k:R ((xs.map h).map D.int)) :
    (xs.map f).length<sizeLine∧∃ P:Nat→D→Prop,(∀ i d,(xs.map f)[i]?=some d→g d ρ fun ρ1=>te ρ1 (P i))∧∀ ys:List D,ys.length=(xs.map f).length→(∀ i y,ys[i]?=some y→P i y)→R ys :=
  qfv (fun x=>D.int (h x)) hlen hb (by rw [List.map_map] at k;exact k)
end
section
variable {K : PySem.W.Frag} {X : Cx} {pins : List (Addr × Obj)} {σ : St} {Φ H : Hp} {s : Shared}
end
section
variable {K : PySem.W.Frag} {X : Cx} {a b : Expr} {ta tb : TD} {apos cpos : Pos}
end
section
variable {K : PySem.W.Frag} {X : Cx} {e b : Expr} {te tk : TD} {pos spos npos : Pos} {x : Str}
end
section
variable {K : PySem.W.Frag} {X : Cx} {e a st : Expr} {pos p2 : Pos} {te : TE}
end
section
variable {K : PySem.W.Frag} {X : Cx} {a st : Expr} {pos p2 : Pos} {ta : TD} {to : TOD}
end
section
variable {K : PySem.W.Frag} {Φ Φ0 Φ1 H H0 H1 : Hp} {p : Addr} {d : D} {v : V} {ds : List D} {vs : List V}
end
section
variable {K : PySem.W.Frag} {X : Cx} {e : Expr} {te : TD} {pos pos' : Pos}
end
section
variable {K : PySem.W.Frag} {X : Cx} {Φ H : Hp} {a e : Expr} {es : List Expr} {ta : TD} {tl : TDL} {C : Addr} {fl : Str} {pos p : Pos}
variable {CX : CXT} {k : Nat} {f : Addr} {fd : FuncData} {ps ns : List Str} {x : Str} {E : XK}
end
section
variable {prog : Program} {w : World} {A : Around} {E : Value → Shared → Prop} {s : Shared}
end
section
variable {K : PySem.W.Frag} {X : Cx} {a : Expr} {pos p p2 pos2 : Pos} {tl : TDL}
end
section
variable {X : Cx} {A : Around} {scope : Scope} {p : Str} {r : List Str} {cap : List (Option Nat)} {cl : List (Str × Addr)} {f c' : Addr} {qual name : Str} {cd pm ctv : Value} {pins : List (Addr × Obj)} {σ : St} {H : Hp} {s s1 : Shared} {v : V} {u : Value} {params : Arguments} {body : Expr} {te : TE} {Q : VK} {E : Value → Shared → Prop}
end
section
variable {X : Cx} {A : Around} {pins : List (Addr × Obj)} {σ : St} {H : Hp} {s : Shared} {params : Arguments} {body : Expr} {scope : Scope} {pos : Pos} {c P : Addr} {t0 : Tok} {Q : Value → Shared → Prop} {E : Value → Shared → Prop}
end
section
variable {X : Cx} {pins : List (Addr × Obj)} {σ : St} {H : Hp} {xs : List V} {l S I f : Addr} {fob : Obj} {kf : Nat → Int} {G : Hp → Prop} {R : Result → Shared → Prop} {kw : List (Str × Value)}
end
section
variable {X : Cx} {pins : List (Addr × Obj)} {σ : St} {H : Hp} {xs : List V} {l f : Addr} {fob : Obj} {kf : Nat → Int} {G : Hp → Prop} {s : Shared} {Q : Value → Shared → Prop} {E : Value → Shared → Prop}
end
section
variable {K : PySem.W.Frag} {X : Cx} {l body : Expr} {tl tb : TD} {scope : Scope} {p : Str} {r : List Str} {cap : List (Option Nat)} {params : Arguments} {np pos lp kp1 kp2 kp3 : Pos} {c P : Addr} {j : Nat}
end
section
variable {P : Program} {w : World} {K : PySem.W.Frag} {mg : Str → Option Value} {base : Heap}
theorem Fun.okL {x qual:Str} {st:Stmt} {f:Addr} {fd:FuncData} {N ps:List Str} {k:Nat} {sp:Sp} (F:Fun K x qual st f fd) (S:FnScope N ps (qab st)) (len:∀ vs H Q E,sp vs H Q E→vs.length=ps.length)
    (hbody:∀ (cdv:Value) (A:Around) (outer:List Env) (s:Shared) (H:Hp) (vs:List V) (Q:VK) (E:XK),fd.code=cdv→Room k (A.deeper (envOfC qual (qab st) s.heap.objs.size f cdv))→sp vs H Q E →
      ∃ t,PSs (qeA CX0 P w K mg base N qual (qab st) f cdv A outer s H E).nox (qao st) t∧t { nx:=fun _ H'=>Q .non H',rt:=Q } (qbd N vs) H):FnOk P w K mg base CX0 (k+1) f fd ps sp:=by
  obtain ⟨oc,od,kV,doc,pm,an,cdv,ct,osl,rfl,lk,hcd⟩:=F.ex
  refine qgt lk hcd S len fun A outer s H vs Q E hr hsp=>?_
  obtain ⟨t,h,q⟩:=hbody cdv A outer s H vs Q E rfl hr hsp
  exact ⟨t,h.nox,q⟩
end
theorem qcz {K:PySem.W.Frag} {x:Str} (a:PySem.W.nsIn K mainGlobals x=some none):qhN K x=none:=by
  unfold qhN
  simp only [a]
end L2
namespace L2
open PySem PySem.W PyProof.Rows
section
variable {key : Nat → Int} {N : Nat} {p : Array Nat}
variable (hk : ∀ i j, i < N → j < N → key i = key j → i = j)
include hk
end
end L2
namespace L2
open PySem PySem.Spec PySem.W PyProof.Rows PySem.Calls
section
variable {prog : Program} {w : World} {A : Around} {E : Value → Shared → Prop} {s : Shared} {h₀ : Heap} {L a : Addr} {m : Str → Option Value} {news : List (Addr × Obj)} {vs : List Value}
end
end L2
namespace L2
open PySem PySem.Spec PySem.W PyProof.Rows PySem.Calls
section
variable {K : PySem.W.Frag} {X : Cx}
end
end L2
namespace L2
open PySem PySem.Spec PyProof.Rows
section
variable {X : Cx}
end
section
variable {K : PySem.W.Frag} {X : Cx} {e e2 : Expr} {te te2 : TD} {pos : Pos}
end
section
variable {K : PySem.W.Frag} {X : Cx}
end
section
variable {K : PySem.W.Frag} {X : Cx} {e ev : Expr} {te tv : TD} {pos : Pos}
end
section
variable {X : Cx}
end
section
variable {K : PySem.W.Frag} {X : Cx} {a b : Expr} {ta tb : TD} {apos cpos : Pos}
end
end L2
namespace L2
open PySem PySem.Spec PySem.W PyProof.Rows PySem.Calls
section
variable {K : PySem.W.Frag} {X : Cx}
end
end L2
namespace L2
open PySem PySem.Spec PyProof.Rows
section
variable {K : PySem.W.Frag} {X : Cx} {e ev : Expr} {te tv : TD} {tk : TDK} {pos p : Pos}
end
section
variable {K : PySem.W.Frag} {X : Cx} {a : Expr} {pos p p2 pos2 : Pos} {tl : TDL}
end
section
variable {K : PySem.W.Frag} {X : Cx} {e : Expr} {es : List Expr} {pos p : Pos} {tl : TDL} {te : TD} {tf : TDL} {sp : SpD} {CX : CXT} {k : Nat} {f : Addr} {fd : FuncData} {ps : List Str} {x : Str} {E : XK}
end
theorem qfx {K:PySem.W.Frag} (h:PySem.W.nsIn K mainGlobals "least_grown"=some none∧PySem.W.nsIn K mainGlobals "greatest_first"=some none):qfR K=[]:=by
  unfold qfR
  rw [List.filterMap_cons,qcz h.1,List.filterMap_cons,qcz h.2]
  rfl
structure Cl (P:Program) (w:World) (K:PySem.W.Frag) (mg:Str→Option Value) (base:Heap) (n:Nat) (x:Str) (ps:List Str) (z:SpD):Prop where
  ex:∃ (f:Addr) (fd:FuncData),FnOk P w K mg base CX0 n f fd ps (lSp K z)∧Binds K fd ps []∧PySem.W.keepIn K (.ref f)=true∧mg x=some (.ref f)
section
variable {P : Program} {w : World} {K : PySem.W.Frag} {mg : Str → Option Value} {base : Heap} {n m : Nat} {x : Str} {ps : List Str} {z : SpD} {X : Cx} {e : Expr} {es : List Expr} {pos p : Pos} {tl : TDL} {st : Stmt} {f : Addr} {fd : FuncData} {h : Heap}
theorem Cl.mono (C:Cl P w K mg base n x ps z) (k:n≤m):Cl P w K mg base m x ps z:=by
  obtain ⟨f,fd,F,r⟩:=C.ex
  exact ⟨f,fd,F.mono k,r⟩
theorem Cl.of (F:Fun K x x st f fd) (b:Binds K fd ps []) (m:mg x=some (.ref f)) (H:FnOk P w K mg base CX0 n f fd ps (lSp K z)):Cl P w K mg base n x ps z:=⟨f,fd,H,b,F.kp,m⟩
theorem qav (C:Cl X.prog X.w K X.mg X.base n x ps z) (hr:Room n X.A) (hg:Gl X x)
    (ha:PAD K X (e::es) tl) (he:starEach (e::es) X.env=(false,eval e X.env)::starEach es X.env) (hpl:(backTo pos (starEach es X.env)).any (·.1)=false) (hdb:(x == ("__debug__":Str))=false:=by decide) :
    PD K X (.Call (.Name x p) (e::es) [] pos) (qdW z tl):=⟨fun hK=>by
  subst hK
  obtain ⟨f,fd,F,b,k,m⟩:=C.ex
  exact (qjf F hr hg m k b qib ha he hpl hdb).pe rfl⟩
theorem qhl (C:Cl X.prog X.w K X.mg X.base n x ps z) (hr:Room n X.A) (hg:Gl X x) (hdb:(x == ("__debug__":Str))=false:=by decide) :
    PD K X (.Call (.Name x p) [] [] pos) (qdW z qjz):=⟨fun hK=>by
  subst hK
  obtain ⟨f,fd,F,b,k,m⟩:=C.ex
  exact (qhw F hr hg m k b qib hdb).pe rfl⟩
def dE (P:Params) (x:Str) (n:Nat) (v:Value):DictEntry:=⟨PyData.keyHash P x,.str x n,v⟩
def cO (n:Str) (a:Nat) (q:Str) (b c:Nat) (l m:Int) (k:Int) (r:Nat) (g:Int) (t:Nat) (x y:Value) (z:Nat) (i:Int) (d:Nat):Obj:=⟨.type "code",none,.fields #[.str n a,.str q b,.str "/claim/cut.py" c,.int l 0,.int m 0,.int 0 0,.int 0 0,.int k 0,.ref r,.bool true,.int g 0,.ref t,.none,x,y,.ref z,.int i 0,.int l 0,.str "/claim/cut.py" d],#[]⟩
def fO (s:Stmt) (n q m:Str) (i c:Nat):Obj:=⟨.type "function",none,.func (PySem.W.fnOf n q (qaC s) (qao s) (qab s) .none .none .none (.str m i) none (.ref c) .none),#[]⟩
def Has (K:PySem.W.Frag) (s:Stmt) (x:Str):Prop:=∃ f m i c,PySem.W.nsIn K mainGlobals x=some (some (.ref f))∧K.lookup f=some (fO s x x m i c)∧PySem.W.codeIn K (.ref c) x=true
theorem Has.of {s:Stmt} {m:Str} {i c:Nat} (a:PySem.W.nsIn K mainGlobals x=some (some (.ref f))) (l:K.lookup f=some (fO s x x m i c)) (k:PySem.W.codeIn K (.ref c) x=true):Has K s x:=⟨f,m,i,c,a,l,k⟩
theorem Has.fn (a:Has K st x) (X:K.In h) (G:h.Ns mainGlobals mg):∃ f fd,Fun K x x st f fd∧mg x=some (.ref f)∧∃ m i c,fd=PySem.W.fnOf x x (qaC st) (qao st) (qab st) .none .none .none (.str m i) none (.ref c) .none:=by
  obtain ⟨f,m,i,c,a,l,k⟩:=a
  exact ⟨f,_,qjc l k (by unfold PySem.W.keepIn;simp only [l];rfl),PySem.W.mg_of X G a,m,i,c,rfl⟩
theorem Fun.cl (F:Fun K x x st f fd) (m:mg x=some (.ref f)) (H:FnOk P w K mg base CX0 n f fd ps (lSp K z))
    (b:∀ (kV doc pm:Value) (an:Option Addr) (cdv ct:Value) (us:List Value),us.length=ps.length→bindArgs (PySem.W.fnOf x x (qaC st) (qao st) (qab st) .none kV doc pm an cdv ct) ⟨us,[]⟩=pure (ps.zip us)):Cl P w K mg base n x ps z:=.of F (F.binds b) m H
end
section
variable {K : PySem.W.Frag} {X : Cx} {n : Nat} {x : Str} {ps : List Str} {z : SpD} {e : Expr} {es : List Expr} {pos p : Pos} {tl : TDL}
end
section
variable {prog : Program} {w : World} {A : Around} {E : Value → Shared → Prop} {s : Shared}
end
section
variable {P : Program} {w : World} {H : Hp} {h h' : Heap} {a : Addr} {o : HO} {fs ex : List Addr}
theorem HOk.know (x:HOk P w H h) (hn:H a=none) (new:ObjOk P w (upd H a o) h a o):HOk P w (upd H a o) h:=fun b u e=>by
  by_cases hb:b=a
  · subst hb;rw [qae] at e;cases e;exact new
  · rw [qad hb] at e
    exact (x b u e).stay (fun c v _ q=>q) (fun c q=>by rw [qad (qaj q hn)];exact q) (fun c xs q=>by rw [qad (qaj q hn)];exact q) fun c ob w' q=>by rw [qad (qaj q hn)];exact q
end
section
variable {X : Cx} {a b : Expr} {p p2 pos pos2 : Pos}
end
section
variable {K : PySem.W.Frag} {X : Cx} {a b : Expr} {p p2 pos pos2 : Pos} {tl : TDL}
end
end L2
namespace L2
open PySem PySem.Spec PySem.W PyProof.Rows PySem.Calls
section
variable {K : PySem.W.Frag} {X : Cx}
end
section
variable {X : Cx} {pins : List (Addr × Obj)} {σ : St} {H : Hp} {xs : List V} {l f : Addr} {fob : Obj} {kf : Nat → Int} {G : Hp → Prop} {s : Shared} {Q : Value → Shared → Prop} {E : Value → Shared → Prop}
end
end L2
namespace L2
open PySem PySem.Spec PyProof.Rows
section
variable {K : PySem.W.Frag} {X : Cx} {l body : Expr} {tl tb : TD} {scope : Scope} {p : Str} {r : List Str} {cap : List (Option Nat)} {params : Arguments} {np pos lp kp1 kp2 kp3 : Pos} {c P : Addr} {j : Nat}
end
inductive Fl where | v (d:D) | l (xs:List D) | al (p:Addr)
inductive Om where | lst (xs:List D) | map (kvs:List (Key × D)) | mpT (kvs:List (List Key × D)) | obj (nm:Str) (fs:List (Str × Fl))
inductive Sm where | v (d:D) | ob (a:Option Addr) (o:Om)
abbrev qaL:=List (Option Sm)
def KvR {κ:Type} (K:PySem.W.Frag) (Φ:Hp) (a:κ × D) (b:κ × V):Prop:=a.1=b.1∧Rp K Φ a.2 b.2
inductive FlsR (K:PySem.W.Frag) (Φ H:Hp):List (Str × Fl)→List (Str × V)→List Addr→Prop where
  | nil:FlsR K Φ H [] [] []
  | v {f:Str} {d:D} {v:V} {fs:List (Str × Fl)} {vs:List (Str × V)} {qs:List Addr}:Rp K Φ d v→FlsR K Φ H fs vs qs→FlsR K Φ H ((f,.v d)::fs) ((f,v)::vs) qs
  | l {f:Str} {ds:List D} {ws:List V} {q:Addr} {fs:List (Str × Fl)} {vs:List (Str × V)} {qs:List Addr}:H q=some (.lst ws)→RpL K Φ ds ws→FlsR K Φ H fs vs qs→FlsR K Φ H ((f,.l ds)::fs) ((f,.ref q)::vs) (q::qs)
  | al {f:Str} {p:Addr} {fs:List (Str × Fl)} {vs:List (Str × V)} {qs:List Addr}:FlsR K Φ H fs vs qs→FlsR K Φ H ((f,.al p)::fs) ((f,.ref p)::vs) qs
inductive OmS (K:PySem.W.Frag) (Φ H:Hp):Om→Addr→List Addr→Prop where
  | lst {ds:List D} {vs:List V} {p:Addr}:H p=some (.lst vs)→RpL K Φ ds vs→OmS K Φ H (.lst ds) p [p]
  | map {kvs:List (Key × D)} {ws:List (Key × V)} {p:Addr}:H p=some (.dK ws)→Paired (KvR K Φ) kvs ws→OmS K Φ H (.map kvs) p [p]
  | mpT {kvs:List (List Key × D)} {ws:List (List Key × V)} {p:Addr}:H p=some (.dT ws)→Paired (KvR K Φ) kvs ws→OmS K Φ H (.mpT kvs) p [p]
  | obj {nm:Str} {fs:List (Str × Fl)} {C dx:Addr} {vs:List (Str × V)} {p:Addr} {qs:List Addr}:PySem.W.nsIn K mainGlobals nm=some (some (.ref C))→H p=some (.ins C dx vs)→FlsR K Φ H fs vs qs→(p::qs).Nodup→OmS K Φ H (.obj nm fs) p (p::qs)
section
variable {K : PySem.W.Frag} {H0 H H' Φ Φ' Φ0 : Hp} {fs : List (Str × Fl)} {vs : List (Str × V)} {qs F F' : List Addr} {o o' : Om} {p : Addr}
theorem qbO {α β:Type} {F G:α→β→Prop} (h:∀ x y,F x y→G x y):∀ {l:List α} {m:List β},Paired F l m→Paired G l m
  | _,_,.nil=>.nil
  | _,_,.cons r t=>.cons (h _ _ r) (qbO h t)
theorem FlsR.keep (s:Same Φ Φ') (h:FlsR K Φ H fs vs qs) (k:∀ b∈qs,∀ u,H b=some u→H' b=some u):FlsR K Φ' H' fs vs qs:=by
  induction h with
  | nil=>exact .nil
  | v r _ ih=>exact .v (r.same s) (ih k)
  | l h1 h2 _ ih=>exact .l (k _ List.mem_cons_self _ h1) (h2.same s) (ih fun b hb=>k b (List.mem_cons_of_mem _ hb))
  | al _ ih=>exact .al (ih k)
theorem FlsR.at (h:FlsR K Φ H fs vs qs):∀ b∈qs,∃ ws,H b=some (.lst ws):=by
  induction h with
  | nil=>intro b hb;cases hb
  | v r _ ih=>exact ih
  | l h1 h2 _ ih =>
    intro b hb
    rcases List.mem_cons.mp hb with rfl | hb
    · exact ⟨_,h1⟩
    · exact ih b hb
  | al _ ih=>exact ih
theorem OmS.keep (s:Same Φ Φ') (h:OmS K Φ H o p F) (k:∀ b∈F,∀ u,H b=some u→H' b=some u):OmS K Φ' H' o p F:=by
  cases h with
  | lst h1 h2=>exact .lst (k _ List.mem_cons_self _ h1) (h2.same s)
  | map h1 h2=>exact .map (k _ List.mem_cons_self _ h1) (qbO (fun _ _ r=>⟨r.1,r.2.same s⟩) h2)
  | mpT h1 h2=>exact .mpT (k _ List.mem_cons_self _ h1) (qbO (fun _ _ r=>⟨r.1,r.2.same s⟩) h2)
  | obj h0 h1 h2 h3=>exact .obj h0 (k _ List.mem_cons_self _ h1) (h2.keep s fun b hb=>k b (List.mem_cons_of_mem _ hb)) h3
theorem OmS.mem (h:OmS K Φ H o p F):p∈F:=by cases h <;> exact List.mem_cons_self
theorem OmS.at (h:OmS K Φ H o p F):∀ b∈F,∃ u,H b=some u∧OwK u:=by
  intro b hb
  cases h with
  | lst h1 h2=>rw [List.mem_singleton.mp hb];exact ⟨_,h1,trivial⟩
  | map h1 h2=>rw [List.mem_singleton.mp hb];exact ⟨_,h1,trivial⟩
  | mpT h1 h2=>rw [List.mem_singleton.mp hb];exact ⟨_,h1,trivial⟩
  | obj h0 h1 h2 h3 =>
    rcases List.mem_cons.mp hb with rfl | hb
    · exact ⟨_,h1,trivial⟩
    · obtain ⟨ws,hw⟩:=h2.at b hb
      exact ⟨_,hw,trivial⟩
theorem OmS.lst_inv {ds:List D} (h:OmS K Φ H (.lst ds) p F):F=[p]∧∃ vs,H p=some (.lst vs)∧RpL K Φ ds vs:=by
  cases h with
  | lst h1 h2=>exact ⟨rfl,_,h1,h2⟩
theorem OmS.map_inv {kvs:List (Key × D)} (h:OmS K Φ H (.map kvs) p F):F=[p]∧∃ ws,H p=some (.dK ws)∧Paired (KvR K Φ) kvs ws:=by
  cases h with
  | map h1 h2=>exact ⟨rfl,_,h1,h2⟩
theorem OmS.mpT_inv {kvs:List (List Key × D)} (h:OmS K Φ H (.mpT kvs) p F):F=[p]∧∃ ws,H p=some (.dT ws)∧Paired (KvR K Φ) kvs ws:=by
  cases h with
  | mpT h1 h2=>exact ⟨rfl,_,h1,h2⟩
theorem OmS.gr (g:Gr Φ H Φ' H') (h:OmS K Φ H o p F):OmS K Φ' H' o p F:=h.keep g.f fun b _ u e=>g.h b u e
end
structure EnvM' (K:PySem.W.Frag) (H0 Φ H:Hp) (σ:St) (ρ:qaL) (fp:Nat→List Addr):Prop where
  fz:Same Φ H
  len:σ.length=ρ.length
  sl:∀ (i:Nat) (d:D),ρ[i]?=some (some (.v d))→∃ v,σ[i]?=some (some v)∧Rp K Φ d v
  ow:∀ (i:Nat) (a:Option Addr) (o:Om),ρ[i]?=some (some (.ob a o))→∃ p,σ[i]?=some (some (.ref p))∧(∀ q,a=some q→q=p)∧OmS K Φ H o p (fp i)
  no:∀ (i:Nat) (a:Option Addr) (o:Om),ρ[i]?=some (some (.ob a o))→∀ b∈fp i,H0 b=none∧Φ b=none
  dj:∀ (i j:Nat) (a a':Option Addr) (o o':Om),ρ[i]?=some (some (.ob a o))→ρ[j]?=some (some (.ob a' o'))→i≠j→∀ b∈fp i,b∉fp j
  tb:TabF K Φ
def EnvM (K:PySem.W.Frag) (H0 Φ H:Hp) (σ:St) (ρ:qaL):Prop:=∃ fp,EnvM' K H0 Φ H σ ρ fp
section
variable {K : PySem.W.Frag} {H0 H H' Φ Φ' Φ0 : Hp} {σ σ2 : St} {ρ ρ2 : qaL} {fp : Nat → List Addr} {F F' : List Addr} {o o' : Om} {p : Addr} {d : D} {v : V} {i : Nat} {a : Option Addr}
theorem EnvM.tb (E:EnvM K H0 Φ H σ ρ):TabF K Φ:=let ⟨_,E⟩:=E;E.tb
theorem EnvM.len (E:EnvM K H0 Φ H σ ρ):σ.length=ρ.length:=let ⟨_,E⟩:=E;E.len
theorem EnvM.sl (E:EnvM K H0 Φ H σ ρ) (h:ρ[i]?=some (some (.v d))):∃ v,σ[i]?=some (some v)∧Rp K Φ d v:=let ⟨_,E⟩:=E;E.sl i d h
theorem EnvM'.gr (E:EnvM' K H0 Φ H σ ρ fp) (g:Gr Φ H Φ' H'):EnvM' K H0 Φ' H' σ ρ fp :=
  ⟨g.s,E.len,fun i d h=>let ⟨v,e,r⟩:=E.sl i d h;⟨v,e,r.same g.f⟩,fun i a o h=>let ⟨p,e,ha,r⟩:=E.ow i a o h;⟨p,e,ha,r.gr g⟩,
    fun i a o h b hb=>by
      obtain ⟨p,_,_,r⟩:=E.ow i a o h
      obtain ⟨u,hu,k⟩:=r.at b hb
      exact ⟨(E.no i a o h b hb).1,g.o b u hu (E.no i a o h b hb).2 k⟩,E.dj,E.tb.same g.f⟩
theorem EnvM.gr (E:EnvM K H0 Φ H σ ρ) (g:Gr Φ H Φ' H'):EnvM K H0 Φ' H' σ ρ:=let ⟨fp,E⟩:=E;⟨fp,E.gr g⟩
theorem EnvM.re (m:Nat→Nat) (E:EnvM K H0 Φ H σ ρ) (hl:σ2.length=ρ2.length) (h:∀ (i:Nat) (x:Sm),ρ2[i]?=some (some x)→ρ[m i]?=some (some x)∧σ2[i]?=σ[m i]?)
    (inj:∀ (i j:Nat) (a a':Option Addr) (o o':Om),ρ2[i]?=some (some (.ob a o))→ρ2[j]?=some (some (.ob a' o'))→m i=m j→i=j):EnvM K H0 Φ H σ2 ρ2:=by
  obtain ⟨fp,E⟩:=E
  refine ⟨fun i=>fp (m i),E.fz,hl,fun i d hd=>?_,fun i a o ho=>?_,fun i a o ho=>E.no _ a o (h i _ ho).1,fun i j a a' o o' hi hj c=>E.dj _ _ a a' o o' (h i _ hi).1 (h j _ hj).1 fun e=>c (inj i j a a' o o' hi hj e),E.tb⟩
  · obtain ⟨v,e,r⟩:=E.sl _ d (h i _ hd).1
    exact ⟨v,by rw [(h i _ hd).2];exact e,r⟩
  · obtain ⟨p,e,r⟩:=E.ow _ a o (h i _ ho).1
    exact ⟨p,by rw [(h i _ ho).2];exact e,r⟩
theorem EnvM.take {τ:St} {κ:qaL} (E:EnvM K H0 Φ H (σ++τ) (ρ++κ)) (hl:ρ.length=σ.length):EnvM K H0 Φ H σ ρ :=
  E.re id hl.symm (fun i x hx=>by
    have hi:=qam hx
    exact ⟨by rw [id,List.getElem?_append_left hi];exact hx,by rw [id,List.getElem?_append_left (by omega)]⟩) fun i j _ _ _ _ _ _ e=>e
theorem EnvM'.take {τ:St} {κ:qaL} (E:EnvM' K H0 Φ H (σ++τ) (ρ++κ) fp) (hl:ρ.length=σ.length):EnvM' K H0 Φ H σ ρ fp:=by
  have up:∀ {i:Nat} {x:Sm},ρ[i]?=some (some x)→(ρ++κ)[i]?=some (some x):=fun h=>by rw [List.getElem?_append_left (qam h)];exact h
  have dn:∀ {i:Nat} {x:Sm} {y:Option V},ρ[i]?=some (some x)→(σ++τ)[i]?=some y→σ[i]?=some y:=fun h e=>by rwa [List.getElem?_append_left (by rw [← hl];exact qam h)] at e
  exact ⟨E.fz,hl.symm,fun i d h=>let ⟨v,e,r⟩:=E.sl i d (up h);⟨v,dn h e,r⟩,fun i a o h=>let ⟨p,e,r⟩:=E.ow i a o (up h);⟨p,dn h e,r⟩,fun i a o h=>E.no i a o (up h),fun i j a a' o o' hi hj=>E.dj i j a a' o o' (up hi) (up hj),E.tb⟩
theorem EnvM.store {v:V} {x:Sm} (E:EnvM K H0 Φ H (σ++[some v]) (ρ++[some x])) (i:Nat):EnvM K H0 Φ H (σ.set i (some v)) (ρ.set i (some x)):=by
  have hl:σ.length=ρ.length:=by have:=E.len;simpa using this
  refine E.re (fun j=>if j=i then ρ.length else j) (by rw [List.length_set,List.length_set,hl]) (fun j y hj=>?_) fun j k a a' o o' hj hk e=>?_
  · by_cases c:j=i
    · subst c
      have hlt:j<ρ.length:=by have:=qam hj;rwa [List.length_set] at this
      rw [List.getElem?_set_self hlt] at hj
      cases hj
      rw [if_pos rfl,List.getElem?_set_self (by omega),List.getElem?_append_right (Nat.le_refl _),List.getElem?_append_right (by omega),Nat.sub_self,hl,Nat.sub_self]
      exact ⟨rfl,rfl⟩
    · rw [List.getElem?_set_ne (Ne.symm c)] at hj
      have hlt:=qam hj
      rw [if_neg c,List.getElem?_set_ne (Ne.symm c),List.getElem?_append_left hlt,List.getElem?_append_left (by omega)]
      exact ⟨hj,rfl⟩
  · have hj1:j<ρ.length:=by have:=qam hj;rwa [List.length_set] at this
    have hk1:k<ρ.length:=by have:=qam hk;rwa [List.length_set] at this
    have e:(if j=i then ρ.length else j)=(if k=i then ρ.length else k):=e
    split at e <;> split at e <;> omega
theorem EnvM.snocV (E:EnvM K H0 Φ H σ ρ) (r:Rp K Φ d v):EnvM K H0 Φ H (σ++[some v]) (ρ++[some (.v d)]):=by
  obtain ⟨fp,E⟩:=E
  have old:∀ {i:Nat} {a:Option Addr} {o:Om},(ρ++[some (Sm.v d)])[i]?=some (some (.ob a o))→ρ[i]?=some (some (.ob a o)):=fun {i a o} h=>by
    rcases Nat.lt_or_ge i ρ.length with c | c
    · rwa [List.getElem?_append_left c] at h
    · rw [List.getElem?_append_right c] at h
      cases e:i - ρ.length with
      | zero=>rw [e] at h;cases h
      | succ n=>rw [e] at h;cases h
  refine ⟨fp,E.fz,by rw [List.length_append,List.length_append,E.len];rfl,fun i d' h=>?_,fun i a o h=>?_,fun i a o h=>E.no i a o (old h),fun i j a a' o o' hi hj=>E.dj i j a a' o o' (old hi) (old hj),E.tb⟩
  · rcases Nat.lt_or_ge i ρ.length with c | c
    · rw [List.getElem?_append_left c] at h
      obtain ⟨u,e,r⟩:=E.sl i d' h
      exact ⟨u,by rw [List.getElem?_append_left (by rw [E.len];exact c)];exact e,r⟩
    · rw [List.getElem?_append_right c] at h
      cases e:i - ρ.length with
      | zero =>
        rw [e] at h
        cases h
        exact ⟨v,by rw [List.getElem?_append_right (by rw [E.len];exact c),E.len,e];rfl,r⟩
      | succ n=>rw [e] at h;cases h
  · obtain ⟨p,e,r⟩:=E.ow i a o (old h)
    have hi:=qam (old h)
    exact ⟨p,by rw [List.getElem?_append_left (by rw [E.len];exact hi)];exact e,r⟩
end
def prM:Option Sm→Option Sl
  | some (.v d)=>some (.v d)
  | some (.ob _ (.lst xs))=>some (.own xs)
  | some (.ob _ (.map kvs))=>some (.dct (kvs.map (·.1)))
  | some (.ob _ (.mpT kvs))=>some (.dcT (kvs.map (·.1)))
  | _=>none
abbrev prR (ρ:qaL):Rho:=ρ.map prM
theorem qd4 {κ:Type} {K:PySem.W.Frag} {Φ:Hp}:∀ {a:List (κ × D)} {b:List (κ × V)},Paired (KvR K Φ) a b→b.map (·.1)=a.map (·.1)
  | _,_,.nil=>rfl
  | _,_,.cons r t=>by rw [List.map_cons,List.map_cons,qd4 t,r.1]
theorem EnvM.toD {K:PySem.W.Frag} {H0 Φ H:Hp} {σ:St} {ρ:qaL} (E:EnvM K H0 Φ H σ ρ):EnvD K H0 Φ H σ (prR ρ):=by
  obtain ⟨fp,E⟩:=E
  have at_:∀ {i:Nat} {x:Sl},(prR ρ)[i]?=some (some x)→∃ y,ρ[i]?=some (some y)∧prM (some y)=some x:=fun {i x} h=>by
    rw [List.getElem?_map] at h
    cases e:ρ[i]? with
    | none=>rw [e] at h;cases h
    | some y =>
      rw [e] at h
      cases y with
      | none=>cases h
      | some y=>exact ⟨y,rfl,Option.some.inj h⟩
  have ow:∀ {i:Nat} {o:Ow},(prR ρ)[i]?=some (some (.ob o))→∃ a om p u,ρ[i]?=some (some (.ob a om))∧σ[i]?=some (some (.ref p))∧p∈fp i∧H p=some u∧OwR K Φ o u:=fun {i o} h=>by
    obtain ⟨y,hy,e⟩:=at_ h
    cases y with
    | v d=>cases e
    | ob a om =>
      obtain ⟨p,e1,_,r⟩:=E.ow i a om hy
      have hm:=r.mem
      refine ⟨a,om,p,?_⟩
      cases om with
      | lst ds=>obtain ⟨_,vs,h1,h2⟩:=r.lst_inv;cases e;exact ⟨_,hy,e1,hm,h1,h2⟩
      | map kvs=>obtain ⟨_,vs,h1,h2⟩:=r.map_inv;cases e;exact ⟨_,hy,e1,hm,h1,qd4 h2⟩
      | mpT kvs=>obtain ⟨_,vs,h1,h2⟩:=r.mpT_inv;cases e;exact ⟨_,hy,e1,hm,h1,qd4 h2⟩
      | obj nm fs=>cases e
  refine ⟨E.fz,by rw [List.length_map,E.len],fun i d h=>?_,fun i o h=>?_,fun i j o w p hi hj si sj=>?_,E.tb⟩
  · obtain ⟨y,hy,e⟩:=at_ h
    cases y with
    | v d'=>cases e;exact E.sl i d hy
    | ob a om=>cases om <;> cases e
  · obtain ⟨a,om,p,u,h1,h2,h3,h4,h5⟩:=ow h
    exact ⟨p,u,h2,(E.no i a om h1 p h3).1,(E.no i a om h1 p h3).2,h4,h5⟩
  · obtain ⟨a,om,p1,u,h1,h2,h3,_,_⟩:=ow hi
    obtain ⟨a',om',p2,u',k1,k2,k3,_,_⟩:=ow hj
    rw [si] at h2
    cases h2
    rw [sj] at k2
    cases k2
    rcases Decidable.em (i=j) with c | c
    · exact c
    · exact absurd k3 (E.dj i j a a' om om' h1 k1 c p h3)
def qit (h:Heap) (e:Addr) (vs:Array Value) (T:Option Addr) (fl:Value):Prop:=match T with
  | none=>vs[1]?=some .none
  | some T=>vs[1]?=some (.ref T)∧T≠e∧∃ oT ts,h.get? T=some oT∧oT.data=.fields ts∧ts[3]?=some fl
structure Fly (h:Heap) (e:Addr) (T:Option Addr) (fl cls:Value) (dx:Option Addr):Prop where
  ex:∃ oe vs,h.get? e=some oe∧oe.data=.fields vs∧oe.cls=cls∧oe.dict=dx∧qit h e vs T fl
structure Kept (fs:List Addr) (e:Addr) (T:Option Addr) (h h':Heap):Prop where
  keep:∀ b o,h.get? b=some o→b≠e→some b≠T→b∉fs→h'.get? b=some o
  slot:∀ b o,h.get? b=some o→b∈fs→∃ sl,h'.get? b=some { o with slots:=sl }
section
variable {M : Model} {A : Around} {E : Value → Shared → Prop} {s : Shared} {base : Heap} {env : Env} {outer : List Env} {L e : Addr}
theorem qfD (o:Obj) (f:Array Value→Array Value):(o.mapFields f).dict=o.dict:=by
  obtain ⟨c,d,dt,sl⟩:=o
  cases dt <;> rfl
theorem qes {cls:Value} {dx:Option Addr} {oe:Obj} {vs:Array Value} {head:Value} {had:Bool} {Q:Unit→Shared→Prop} (hfr:A.frames=some (env::outer)) (hl:s.heap.FunFrames base (env::outer)) (hf:env.frame=some L)
    (he:s.heap.get? e=some oe) (hd:oe.data=.fields vs) (hc:oe.cls=cls) (hx:oe.dict=dx) (hz:1<vs.size)
    (k:∀ h' T',Fly h' e (some T') (rawInt L) cls dx→s.heap.objs.size≤T'→Kept (frs (env::outer)) e none s.heap h'→Q () { s with heap:=h' }) :
    wpAny M A (do let a ← frameOf env;let pl ← entryPlaceOf L had;let b ← EntryCells.newEntry head a .none (rawInt L) .none pl;setField (.ref e) 1 b) Q E s:=by
  have hef:e∉frs (env::outer):=fun hm=>by
    obtain ⟨_,o,ho,hnf⟩:=hl.mem hm
    rw [he] at ho
    cases ho
    exact hnf vs hd
  refine wpAny_bind (wpAny_frameOf_fun hfr hl hf fun h₁ x=>?_)
  refine wpAny_bind (wpAny_entryPlaceOf fun pl hpl=>?_)
  unfold EntryCells.newEntry newFields
  refine wpAny_bind (wpAny_newObj_type ?_ (hpl.sizeOk5 _ _ _ _ _))
  generalize hot:({ cls:=.type "traceback",dict:=none,data:=.fields ([head,.ref L,.none,rawInt L,.none]++(if pl.isEmpty then List.replicate 6 Value.none else pl)).toArray }:Obj)=ot
  have e1:h₁.get? e=some oe:=(x.2.1 e hef).trans he
  have e2:=Heap.get?_push_of_some (h:=h₁) ot e1
  have hne:h₁.objs.size≠e:=Nat.ne_of_gt (Heap.lt_size e1)
  refine wpAny_setField e2 hd hz (k _ h₁.objs.size ⟨?_⟩ ?_ ⟨fun b o hb b1 _ b3=>?_,fun b o hb b3=>?_⟩)
  · have d3:=Obj.data_mapFields hd (·.setIfInBounds 1 (Value.ref h₁.objs.size))
    refine ⟨_,_,Heap.get?_update_self _ e2 (Obj.isFreed_of_fields d3),d3,(Obj.cls_mapFields _ _).trans hc,(qfD _ _).trans hx,by simp [hz],hne,ot,_,?_,by rw [← hot],?_⟩
    · rw [Heap.get?_update_other _ _ (Ne.symm hne)]
      exact Heap.get?_push_size h₁ (by rw [← hot];rfl)
    · first | (simp;done) | (rcases hpl with rfl | ⟨_,_,_,_,_,_,_,rfl⟩ <;> simp)
  · exact Nat.le_of_eq x.1.symm
  · rw [Heap.get?_update_other _ _ (Ne.symm b1)]
    exact Heap.get?_push_of_some _ ((x.2.1 b b3).trans hb)
  · obtain ⟨sl,hs⟩:=x.2.2 b o hb
    refine ⟨sl,?_⟩
    rw [Heap.get?_update_other _ _ (fun z=>hef (by rw [z];exact b3))]
    exact Heap.get?_push_of_some _ hs
theorem Fly.live {h:Heap} {T:Option Addr} {fl cls:Value} {dx:Option Addr} (F:Fly h e T fl cls dx):∃ o,h.get? e=some o∧o.cls=cls∧o.dict=dx∧∃ vs,o.data=.fields vs:=by
  obtain ⟨oe,vs,h1,h2,h3,h4,_⟩:=F.ex
  exact ⟨oe,h1,h3,h4,vs,h2⟩
theorem qcd {vs:Array Value} {i:Nat} {x:Value} (h:vs[i]?=some x):i<vs.size:=(Array.getElem?_eq_some_iff.mp h).1
theorem qg1 {T:Option Addr} {cls:Value} {dx:Option Addr} {Q:Unit→Shared→Prop} (hfr:A.frames=some (env::outer)) (hl:s.heap.FunFrames base (env::outer)) (hf:env.frame=some L) (F:Fly s.heap e T .none cls dx)
    (k:∀ h' T',Fly h' e (some T') (rawInt L) cls dx→s.heap.objs.size≤T'→Kept (frs (env::outer)) e T s.heap h'→Q () { s with heap:=h' }):wpAny M A (noteFrame (.ref e) env) Q E s:=by
  obtain ⟨oe,vs,he,hd,hc,hx,hn⟩:=F.ex
  unfold noteFrame
  simp only [hf]
  cases T with
  | none =>
    have h1:vs[1]?=some .none:=hn
    refine wpAny_bind (wpAny_field he hd h1 ?_)
    rw [if_neg (by decide)]
    exact qes hfr hl hf he hd hc hx (qcd h1) fun h' T' a1 a2 a3=>k h' T' a1 a2 ⟨fun b o hb b1 b2 b3=>a3.keep b o hb b1 (by simp) b3,a3.slot⟩
  | some T =>
    obtain ⟨h1,hne,oT,ts,hT,hdT,h3⟩:=hn
    refine wpAny_bind (wpAny_field he hd h1 ?_)
    rw [if_pos (show (Value.ref T != Value.none)=true from by simp)]
    refine wpAny_bind (wpAny_field hT hdT h3 ?_)
    rw [if_neg (show ¬ ((Value.none == rawInt L)=true) from by simp [rawInt])]
    refine wpAny_bind (wpAny_setField hT hdT (qcd h3) ?_)
    have ot:∀ b,b≠T→(s.heap.update T (Obj.mapFields (·.setIfInBounds 3 Value.none))).get? b=s.heap.get? b:=fun b hb=>Heap.get?_update_other _ _ (Ne.symm hb)
    have nr:∀ b o,s.heap.get? b=some o→(∀ vs,o.data≠.fields vs)→b≠T:=fun b o hb hf z=>by
      rw [z,hT] at hb
      cases hb
      exact hf ts hdT
    have hT':=Heap.get?_update_self (Obj.mapFields (·.setIfInBounds 3 Value.none)) hT (Obj.isFreed_of_fields (Obj.data_mapFields hdT _))
    refine qes (s:={ s with heap:=s.heap.update T (Obj.mapFields (·.setIfInBounds 3 Value.none)) }) hfr (hl.of_keeps fun b o hb hf=>⟨o,(ot b (nr b o hb hf)).trans hb,rfl⟩) hf ((ot e (Ne.symm hne)).trans he) hd hc hx (qcd h1) fun h' T' a1 a2 a3=>k h' T' a1 ?_ ⟨fun b o hb b1 b2 b3=>?_,fun b o hb b3=>?_⟩
    · have a2:(s.heap.update T (Obj.mapFields (·.setIfInBounds 3 Value.none))).objs.size≤T':=a2
      rw [Heap.size_after_update] at a2
      exact a2
    · exact a3.keep b o ((ot b (fun z=>b2 (by rw [z]))).trans hb) b1 (by simp) b3
    · refine a3.slot b o ((ot b (nr b o hb ?_)).trans hb) b3
      obtain ⟨_,o',ho',hnf⟩:=hl.mem b3
      rw [hb] at ho'
      cases ho'
      exact hnf
theorem qe3 {T:Addr} {fl cls:Value} {dx:Option Addr} {Q:Unit→Shared→Prop} (F:Fly s.heap e (some T) fl cls dx)
    (k:∀ h',Fly h' e (some T) .none cls dx→(∀ b o,s.heap.get? b=some o→b≠T→h'.get? b=some o)→(∀ b,s.heap.get? b=none→h'.get? b=none)→Q () { s with heap:=h' }):wpAny M A (setFlight (.ref e) none) Q E s:=by
  obtain ⟨oe,vs,he,hd,hc,hx,h1,hne,oT,ts,hT,hdT,h3⟩:=F.ex
  have ot:∀ b,b≠T→(s.heap.update T (Obj.mapFields (·.setIfInBounds 3 ((none:Option Addr).elim Value.none fun f=>rawInt f)))).get? b=s.heap.get? b:=fun b hb=>Heap.get?_update_other _ _ (Ne.symm hb)
  unfold setFlight
  refine wpAny_bind (wpAny_field he hd h1 ?_)
  rw [if_pos (show (Value.ref T != Value.none)=true from by simp)]
  have d3:=Obj.data_mapFields hdT (·.setIfInBounds 3 ((none:Option Addr).elim Value.none fun f=>rawInt f))
  refine wpAny_setField hT hdT (qcd h3) (k _ ⟨oe,vs,(ot e (Ne.symm hne)).trans he,hd,hc,hx,h1,hne,_,_,Heap.get?_update_self _ hT (Obj.isFreed_of_fields d3),d3,by simp [qcd h3]⟩ (fun b o hb b1=>(ot b b1).trans hb) fun b hb=>?_)
  rw [ot b (fun z=>by rw [z,hT] at hb;cases hb)]
  exact hb
theorem qhv {T:Option Addr} {cls:Value} {dx:Option Addr} {Q:Unit→Shared→Prop} (hfr:A.frames=some (env::outer)) (hl:s.heap.FunFrames base (env::outer)) (hf:env.frame=some L) (F:Fly s.heap e T .none cls dx)
    (k:∀ h' T',Fly h' e (some T') .none cls dx→s.heap.objs.size≤T'→Kept (frs (env::outer)) e T s.heap h'→Q () { s with heap:=h' }):wpAny M A (leaving env (.ref e)) Q E s:=by
  unfold leaving
  refine wpAny_bind (qg1 hfr hl hf F fun h1 T' F1 n1 k1=>?_)
  refine qe3 (s:={ s with heap:=h1 }) F1 fun h2 F2 k2 n2=>?_
  have hT:∀ b o,s.heap.get? b=some o→b≠T':=fun b o hb z=>absurd (Heap.lt_size (z ▸ hb:s.heap.get? T'=some o)) (Nat.not_lt.mpr n1)
  refine k h2 T' F2 n1 ⟨fun b o hb b1 b2 b3=>k2 b o (k1.keep b o hb b1 b2 b3) (hT b o hb),fun b o hb b3=>?_⟩
  obtain ⟨sl,hs⟩:=k1.slot b o hb b3
  exact ⟨sl,k2 b _ hs (hT b o hb)⟩
end
structure XD where
  nm:Str
  at_:Option D
def XAt (K:PySem.W.Frag) (H:Hp) (at_:Option D) (dx:Option Addr):Prop:=match at_ with
  | none=>dx=none
  | some d=>∃ p v,dx=some p∧H p=some (.xd [("at",v)])∧Rp K (fun _=>none) d v
structure XSt (X:Cx) (pins:List (Addr × Obj)) (σ:St) (H:Hp) (xd:XD) (e:Value) (s:Shared):Prop where
  inv:Inv X pins σ H s
  ex:∃ (ea C:Addr) (T dx:Option Addr),e=.ref ea∧Fly s.heap ea T .none (.ref C) dx∧X.mg xd.nm=some (.ref C)∧XAt X.K H xd.at_ dx∧(X.s₀.heap.get? ea=none∧H ea=none∧∀ p∈X.pn++pins,p.1≠ea)∧∀ T',T=some T'→X.s₀.heap.get? T'=none∧H T'=none∧∀ p∈X.pn++pins,p.1≠T'
def qjZ (K:PySem.W.Frag) (X:Cx) (Φ0 H0:Hp) (Rx:XD→qaL→Prop):Prop:=∀ xd ρ' Φ' H' σ' e s' pins,Rx xd ρ'→Gr Φ0 H0 Φ' H'→EnvM K H0 Φ' H' σ' ρ'→XSt X pins σ' H' xd e s'→X.xe e s'
structure StM (K:PySem.W.Frag) (X:Cx) (Φ0 H0 Φ H:Hp) (σ τ:St) (ρ κ:qaL) (Rx:XD→qaL→Prop):Prop where
  g:Gr Φ0 H0 Φ H
  l:ρ.length=σ.length
  E:EnvM K H0 Φ H (σ++τ) (ρ++κ)
  x:qjZ K X Φ0 H0 Rx
inductive Ar where | t (s:Sm) | s (i:Nat)
abbrev TX:=qaL→(Sm→qaL→Prop)→(XD→qaL→Prop)→Prop
abbrev TXB:=qaL→(Bool→qaL→Prop)→(XD→qaL→Prop)→Prop
abbrev TXA:=qaL→(List Ar→qaL→Prop)→(XD→qaL→Prop)→Prop
def tsm (as:List Ar):qaL:=as.filterMap fun a=>match a with | .t s=>some (some s) | .s _=>none
inductive ArV (σ:St):List Ar→List V→St→Prop where
  | nil:ArV σ [] [] []
  | t {s:Sm} {v:V} {as:List Ar} {vs:List V} {ts:St}:ArV σ as vs ts→ArV σ (.t s::as) (v::vs) (some v::ts)
  | s {i:Nat} {v:V} {as:List Ar} {vs:List V} {ts:St}:σ[i]?=some (some v)→ArV σ as vs ts→ArV σ (.s i::as) (v::vs) ts
def lXm (K:PySem.W.Frag) (X:Cx) (t:TX):TE:=fun σ H Q=>∃ Φ0 H0 Φ τ ρ κ R Rx,StM K X Φ0 H0 Φ H σ τ ρ κ Rx∧t ρ R Rx∧∀ sm ρ' Φ' H' v,R sm ρ'→StM K X Φ0 H0 Φ' H' σ (τ++[some v]) ρ' (κ++[some sm]) Rx→Same Φ Φ'→Q v H'
def lXb (K:PySem.W.Frag) (X:Cx) (t:TXB):TT:=fun σ H Q=>∃ Φ0 H0 Φ τ ρ κ R Rx,StM K X Φ0 H0 Φ H σ τ ρ κ Rx∧t ρ R Rx∧∀ b ρ' Φ' H',R b ρ'→StM K X Φ0 H0 Φ' H' σ τ ρ' κ Rx→Same Φ Φ'→Q b H'
def lXa (K:PySem.W.Frag) (X:Cx) (n:Nat) (t:TXA):TA:=fun σ H Q=>∃ Φ0 H0 Φ τ ρ κ R Rx,StM K X Φ0 H0 Φ H σ τ ρ κ Rx∧t ρ R Rx∧∀ as ρ' Φ' H' vs ts,R as ρ'→as.length=n→ArV σ as vs ts→StM K X Φ0 H0 Φ' H' σ (τ++ts) ρ' (κ++tsm as) Rx→Same Φ Φ'→Q vs H'
structure PX (K:PySem.W.Frag) (X:Cx) (e:Expr) (t:TX):Prop where pe:X.K=K→PE X e (lXm K X t)
structure PXB (K:PySem.W.Frag) (X:Cx) (e:Expr) (t:TXB):Prop where pt:X.K=K→PT X e (lXb K X t)
structure PXA (K:PySem.W.Frag) (X:Cx) (es:List Expr) (t:TXA):Prop where pa:X.K=K→PA X es (lXa K X es.length t)
section
variable {K : PySem.W.Frag} {X : Cx} {Φ0 H0 Φ Φ' H H' : Hp} {σ τ ts : St} {ρ κ ks : qaL} {Rx : XD → qaL → Prop} {d : D} {v : V} {sm : Sm}
theorem StM.gr (S:StM K X Φ0 H0 Φ H σ τ ρ κ Rx) (g:Gr Φ H Φ' H'):StM K X Φ0 H0 Φ' H' σ τ ρ κ Rx:=⟨S.g.trans g,S.l,S.E.gr g,S.x⟩
theorem StM.env (S:StM K X Φ0 H0 Φ H σ τ ρ κ Rx):EnvM K H0 Φ H σ ρ:=S.E.take S.l
theorem StM.lk (S:StM K X Φ0 H0 Φ H σ τ ρ κ Rx):κ.length=τ.length:=by have:=S.E.len;rw [List.length_append,List.length_append] at this;have:=S.l;omega
theorem StM.pop (S:StM K X Φ0 H0 Φ H σ (τ++ts) ρ (κ++ks) Rx) (hl:κ.length=τ.length):StM K X Φ0 H0 Φ H σ τ ρ κ Rx:=⟨S.g,S.l,by
  have E:=S.E
  rw [← List.append_assoc,← List.append_assoc] at E
  exact E.take (by rw [List.length_append,List.length_append,S.l,hl]),S.x⟩
theorem StM.pushV (S:StM K X Φ0 H0 Φ H σ τ ρ κ Rx) (r:Rp K Φ d v):StM K X Φ0 H0 Φ H σ (τ++[some v]) ρ (κ++[some (.v d)]) Rx:=⟨S.g,S.l,by
  rw [← List.append_assoc,← List.append_assoc]
  exact S.E.snocV r,S.x⟩
theorem StM.at (S:StM K X Φ0 H0 Φ H σ τ ρ κ Rx) {i:Nat} (h:κ[i]?=some (some (.v d))):∃ v,τ[i]?=some (some v)∧Rp K Φ d v:=by
  have hi:=qam h
  obtain ⟨v,e,r⟩:=S.E.sl (i:=ρ.length+i) (d:=d) (by rw [List.getElem?_append_right (by omega),Nat.add_sub_cancel_left];exact h)
  rw [S.l,List.getElem?_append_right (by omega),Nat.add_sub_cancel_left] at e
  exact ⟨v,e,r⟩
end
section
variable {K : PySem.W.Frag} {X : Cx} {e a b c : Expr} {es : List Expr} {pos p : Pos} {t ta tb : TX} {tA : TXA} {tt tu : TXB}
def xD (t:TD):TX:=fun ρ R _=>t (prR ρ) fun d=>R (.v d) ρ
theorem qe2 {t:TD} (h:PD K X e t):PX K X e (xD t):=⟨fun hK=>(h.pe hK).imp fun σ H Q hq0=>by
  obtain ⟨Φ0,H0,Φ,τ,ρ,κ,R,Rx,S,t,k⟩:=hq0
  exact ⟨H0,Φ,prR ρ,_,S.env.toD,t,fun d Φ' H' v r g rv=>k _ ρ Φ' H' v r ((S.gr g).pushV rv) g.f⟩⟩
def xB (t:TDB):TXB:=fun ρ R _=>t (prR ρ) fun b=>R b ρ
theorem qiS {t:TDB} (h:PTD K X e t):PXB K X e (xB t):=⟨fun hK=>(h.pt hK).imp fun σ H Q hq0=>by
  obtain ⟨Φ0,H0,Φ,τ,ρ,κ,R,Rx,S,t,k⟩:=hq0
  exact ⟨H0,Φ,prR ρ,_,S.env.toD,t,fun b Φ' H' r g=>k b ρ Φ' H' r (S.gr g) g.f⟩⟩
def qkf:TXA:=fun ρ R _=>R [] ρ
def qiE (t:TX) (u:TXA):TXA:=fun ρ R Rx=>t ρ (fun s ρ1=>u ρ1 (fun as ρ2=>R (.t s::as) ρ2) Rx) Rx
theorem qg9:PXA K X [] qkf:=⟨fun _=>pa_nil.imp fun σ H Q hq0=>by
  obtain ⟨Φ0,H0,Φ,τ,ρ,κ,R,Rx,S,t,k⟩:=hq0
  exact k [] ρ Φ H [] [] t rfl .nil (by rw [List.append_nil,show tsm []=[] from rfl,List.append_nil];exact S) (Same.refl _)⟩
theorem qc8 (ha:PX K X e t) (hr:PXA K X es tA) (hs:starEach (e::es) X.env=(false,eval e X.env)::starEach es X.env):PXA K X (e::es) (qiE t tA) :=
  ⟨fun hK=>(qaM (ha.pe hK) (hr.pa hK) hs).imp fun σ H Q hq0=>by
    obtain ⟨Φ0,H0,Φ,τ,ρ,κ,R,Rx,S,t,k⟩:=hq0
    refine ⟨Φ0,H0,Φ,τ,ρ,κ,_,Rx,S,t,fun s1 ρ1 Φ1 H1 v r1 S1 f1=>?_⟩
    refine ⟨Φ0,H0,Φ1,_,ρ1,_,_,Rx,S1,r1,fun as ρ2 Φ2 H2 vs ts r2 hl hv S2 f2=>?_⟩
    refine k _ ρ2 Φ2 H2 (v::vs) (some v::ts) r2 (by rw [List.length_cons,List.length_cons,hl]) (.t hv) ?_ (f1.trans f2)
    rw [List.append_assoc,List.append_assoc] at S2
    exact S2⟩
def arD:List Ar→Option (List D)
  | []=>some []
  | .t (.v d)::as=>(arD as).map (d::·)
  | _=>none
def xaD (k:List D→qaL→Prop):List Ar→qaL→Prop:=fun as ρ=>match arD as with | some ds=>k ds ρ | none=>False
theorem xaD.get {k:List D→qaL→Prop} {as:List Ar} {ρ:qaL} (h:xaD k as ρ):∃ ds,arD as=some ds∧k ds ρ:=by
  unfold xaD at h
  split at h
  · next ds e=>exact ⟨ds,e,h⟩
  · exact h.elim
theorem qe4:∀ {as:List Ar} {ds:List D},arD as=some ds→tsm as=ds.map (fun d=>some (.v d))∧as.length=ds.length
  | [],ds,h=>by cases h;exact ⟨rfl,rfl⟩
  | .t (.v d)::as,ds,h=>by
    have h':(arD as).map (d::·)=some ds:=h
    cases e:arD as with
    | none=>rw [e] at h';cases h'
    | some es =>
      rw [e] at h'
      cases h'
      obtain ⟨h1,h2⟩:=qe4 e
      exact ⟨by show some (Sm.v d)::tsm as=_;rw [h1];rfl,by rw [List.length_cons,List.length_cons,h2]⟩
  | .t (.ob _ _)::_,_,h=>by cases h
  | .s _::_,_,h=>by cases h
theorem qen {σ:St}:∀ {as:List Ar} {ds:List D} {vs:List V} {ts:St},arD as=some ds→ArV σ as vs ts→ts=vs.map some
  | [],_,_,_,_,.nil=>rfl
  | .t (.v d)::as,ds,_,_,h,.t hv=>by
    have h':(arD as).map (d::·)=some ds:=h
    cases e:arD as with
    | none=>rw [e] at h';cases h'
    | some es=>rw [qen e hv];rfl
theorem StM.vals {Φ0 H0 Φ H:Hp} {σ τ ts:St} {ρ κ:qaL} {Rx:XD→qaL→Prop} {as:List Ar} {ds:List D} {vs:List V} (S:StM K X Φ0 H0 Φ H σ (τ++ts) ρ (κ++tsm as) Rx) (hl:κ.length=τ.length) (hd:arD as=some ds) (hv:ArV σ as vs ts):RpL K Φ ds vs:=by
  have e1:=qen hd hv
  obtain ⟨e2,e3⟩:=qe4 hd
  have hlen:vs.length=ds.length:=by
    have:=S.lk
    rw [List.length_append,List.length_append,e1,e2,List.length_map,List.length_map] at this
    omega
  refine ⟨hlen,fun i v d hv' hd'=>?_⟩
  obtain ⟨w,hw,r⟩:=S.at (i:=κ.length+i) (d:=d) (by rw [List.getElem?_append_right (by omega),Nat.add_sub_cancel_left,e2,List.getElem?_map,hd'];rfl)
  rw [hl,List.getElem?_append_right (by omega),Nat.add_sub_cancel_left,e1,List.getElem?_map,hv'] at hw
  cases hw
  exact r
end
def qbZ (H:Hp) (B:List Addr):Hp:=fun b=>if b∈B then none else H b
theorem qf1 {H:Hp} {B:List Addr} {b:Addr} (h:b∈B):qbZ H B b=none:=if_pos h
theorem qeP {H:Hp} {B:List Addr} {b:Addr} {u:HO} (h:qbZ H B b=some u):b∉B∧H b=some u:=by
  unfold qbZ at h
  split at h
  · cases h
  · next c=>exact ⟨c,h⟩
theorem qeE {H:Hp} {B:List Addr}:Same (qbZ H B) H:=fun b u e=>(qeP e).2
abbrev SpM:=List Sm→(Sm→List Om→Prop)→(XD→List Om→Prop)→Prop
inductive ArgM (K:PySem.W.Frag) (Φ H:Hp):List Sm→List V→List (List Addr)→Prop where
  | nil:ArgM K Φ H [] [] []
  | v {d:D} {v:V} {as:List Sm} {vs:List V} {Fs:List (List Addr)}:Rp K Φ d v→ArgM K Φ H as vs Fs→ArgM K Φ H (.v d::as) (v::vs) ([]::Fs)
  | o {a:Option Addr} {o:Om} {p:Addr} {F:List Addr} {as:List Sm} {vs:List V} {Fs:List (List Addr)}:OmS K Φ H o p F→ArgM K Φ H as vs Fs→ArgM K Φ H (.ob a o::as) (.ref p::vs) (F::Fs)
inductive OutM (K:PySem.W.Frag) (Φ H:Hp):List Sm→List V→List Om→List (List Addr)→Prop where
  | nil:OutM K Φ H [] [] [] []
  | v {d:D} {v:V} {as:List Sm} {vs:List V} {os:List Om} {Fs:List (List Addr)}:OutM K Φ H as vs os Fs→OutM K Φ H (.v d::as) (v::vs) os ([]::Fs)
  | o {a:Option Addr} {o o':Om} {p:Addr} {F:List Addr} {as:List Sm} {vs:List V} {os:List Om} {Fs:List (List Addr)}:OmS K Φ H o' p F→OutM K Φ H as vs os Fs→OutM K Φ H (.ob a o::as) (.ref p::vs) (o'::os) (F::Fs)
inductive ResM (K:PySem.W.Frag) (Φ H:Hp):Sm→V→List Addr→Prop where
  | v {d:D} {v:V}:Rp K Φ d v→ResM K Φ H (.v d) v []
  | o {a:Option Addr} {o:Om} {p:Addr} {F:List Addr}:(∀ q,a=some q→q=p)→OmS K Φ H o p F→ResM K Φ H (.ob a o) (.ref p) F
def qjA (K:PySem.W.Frag) (sp:SpM):Sp:=fun vs H Q _=>∃ Φ as Fs R Rx,Same Φ H∧TabF K Φ∧ArgM K Φ H as vs Fs∧Fs.flatten.Nodup∧(∀ b∈Fs.flatten,Φ b=none)∧sp as R Rx ∧
  ∀ sm os Φ' H' v F Fs',R sm os→Gr Φ (qbZ H Fs.flatten) Φ' H'→ResM K Φ' H' sm v F→OutM K Φ' H' as vs os Fs'→(F++Fs'.flatten).Nodup→(∀ b∈F++Fs'.flatten,qbZ H Fs.flatten b=none∧Φ' b=none)→Q v H'
theorem OmS.nodup {K:PySem.W.Frag} {Φ H:Hp} {o:Om} {p:Addr} {F:List Addr} (h:OmS K Φ H o p F):F.Nodup:=by
  cases h with
  | lst _ _=>simp
  | map _ _=>simp
  | mpT _ _=>simp
  | obj _ _ _ h=>exact h
theorem ArgM.len {K:PySem.W.Frag} {Φ H:Hp} {as:List Sm} {vs:List V} {Fs:List (List Addr)} (h:ArgM K Φ H as vs Fs):vs.length=as.length∧Fs.length=as.length:=by
  induction h with
  | nil=>exact ⟨rfl,rfl⟩
  | v _ _ ih=>exact ⟨by simp [ih.1],by simp [ih.2]⟩
  | o _ _ ih=>exact ⟨by simp [ih.1],by simp [ih.2]⟩
section
variable {K : PySem.W.Frag} {H0 H H' Φ Φ' Φ0 : Hp} {σ σ2 : St} {ρ ρ2 : qaL} {fp : Nat → List Addr} {F F' B : List Addr} {o o' : Om} {p : Addr} {d : D} {v : V} {i : Nat} {a : Option Addr}
end
section
variable {K : PySem.W.Frag} {H0 H H' Φ Φ' Φ0 : Hp} {σ σ2 : St} {ρ : qaL} {fp : Nat → List Addr}
end
section
variable {K : PySem.W.Frag} {X : Cx} {e : Expr} {es : List Expr} {pos p : Pos} {tA : TXA}
end
structure EndsM where
  nx:qaL→Prop
  rt:Sm→qaL→Prop
  bk:qaL→Prop:=fun _=>False
  ct:qaL→Prop:=fun _=>False
  ex:XD→qaL→Prop:=fun _ _=>False
abbrev TSM:=EndsM→qaL→Prop
def qkd (K:PySem.W.Frag) (Φ0 H0:Hp) (P:qaL→Prop) (Q:St→Hp→Prop):Prop:=∀ ρ' Φ' H' σ',P ρ'→Gr Φ0 H0 Φ' H'→EnvM K H0 Φ' H' σ' ρ'→Q σ' H'
structure EndOkM (K:PySem.W.Frag) (X:Cx) (Φ0 H0:Hp) (De:EndsM) (E:Ends):Prop where
  nx:qkd K Φ0 H0 De.nx E.nx
  rt:∀ sm ρ' Φ' H' v σ',De.rt sm ρ'→Gr Φ0 H0 Φ' H'→EnvM K H0 Φ' H' (σ'++[some v]) (ρ'++[some sm])→E.rt v H'
  bk:qkd K Φ0 H0 De.bk E.bk
  ct:qkd K Φ0 H0 De.ct E.ct
  ex:qjZ K X Φ0 H0 De.ex
def lM (K:PySem.W.Frag) (X:Cx) (t:TSM):TS:=fun E σ H=>∃ Φ0 H0 Φ ρ De,Gr Φ0 H0 Φ H∧EnvM K H0 Φ H σ ρ∧t De ρ∧EndOkM K X Φ0 H0 De E
structure PSM (K:PySem.W.Frag) (X:Cx) (st:Stmt) (t:TSM):Prop where ps:X.K=K→PS X st (lM K X t)
structure PSsM (K:PySem.W.Frag) (X:Cx) (st:List Stmt) (t:TSM):Prop where ps:X.K=K→PSs X st (lM K X t)
section
variable {K : PySem.W.Frag} {X : Cx} {Φ0 H0 Φ H Φ1 H1 : Hp} {σ : St} {ρ ρ1 : qaL} {Rx : XD → qaL → Prop} {v : V} {sm : Sm}
theorem st0 (g:Gr Φ0 H0 Φ H) (V:EnvM K H0 Φ H σ ρ) (x:qjZ K X Φ0 H0 Rx):StM K X Φ0 H0 Φ H σ [] ρ [] Rx:=⟨g,V.len.symm,by rw [List.append_nil,List.append_nil];exact V,x⟩
theorem StM.env1 (S:StM K X Φ0 H0 Φ H σ ([]++[some v]) ρ ([]++[some sm]) Rx):EnvM K H0 Φ H (σ++[some v]) (ρ++[some sm]):=S.E
end
section
variable {K : PySem.W.Frag} {X : Cx} {st : Stmt} {rest : List Stmt} {t u : TSM} {e a : Expr} {te : TX} {pos : Pos} {tt : TXB}
def qjF:TSM:=fun De ρ=>De.nx ρ
def qk3 (t u:TSM):TSM:=fun De ρ=>t { De with nx:=u De } ρ
def qlh (t u:TSM):TSM:=fun De ρ=>∃ I:qaL→Prop,t { De with nx:=I } ρ∧∀ ρ',I ρ'→u De ρ'
theorem qin:PSsM K X [] qjF:=⟨fun _=>pss_nil.imp fun E σ H hq0=>by obtain ⟨Φ0,H0,Φ,ρ,De,g,V,t,k⟩:=hq0;exact k.nx ρ Φ H σ t g V⟩
theorem qfK (h1:PSM K X st t) (h2:PSsM K X rest u):PSsM K X (st::rest) (qk3 t u):=⟨fun hK=>(qb4 (h1.ps hK) (h2.ps hK)).imp fun E σ H hq0=>by obtain ⟨Φ0,H0,Φ,ρ,De,g,V,t,k⟩:=hq0;exact
  ⟨Φ0,H0,Φ,ρ,_,g,V,t,⟨fun ρ' Φ' H' σ' t' g' V'=>⟨Φ0,H0,Φ',ρ',De,g',V',t',k⟩,k.rt,k.bk,k.ct,k.ex⟩⟩⟩
theorem qio (h1:PSM K X st t) (h2:PSsM K X rest u):PSsM K X (st::rest) (qlh t u):=⟨fun hK=>(qb4 (h1.ps hK) (h2.ps hK)).imp fun E σ H hq0=>by obtain ⟨Φ0,H0,Φ,ρ,De,g,V,⟨I,t,c⟩,k⟩:=hq0;exact
  ⟨Φ0,H0,Φ,ρ,_,g,V,t,⟨fun ρ' Φ' H' σ' t' g' V'=>⟨Φ0,H0,Φ',ρ',De,g',V',c ρ' t',k⟩,k.rt,k.bk,k.ct,k.ex⟩⟩⟩
theorem qcs (h1:PSM K X st t):PSsM K X [st] t:=⟨fun hK=>qd5 (h1.ps hK)⟩
def qkt (i:Nat) (te:TX):TSM:=fun De ρ=>te ρ (fun s ρ1=>De.nx (ρ1.set i (some s))) De.ex
theorem qfg {i:Nat} {E:Ends} {σ:St} {H:Hp} (h:lM K X (qkt i te) E σ H):qhZ (lXm K X te) (qd7 i) E σ H:=by
  obtain ⟨Φ0,H0,Φ,ρ,De,g,V,t,k⟩:=h
  exact ⟨Φ0,H0,Φ,[],ρ,[],_,De.ex,st0 g V k.ex,t,fun s ρ1 Φ1 H1 v r S1 _=>k.nx _ Φ1 H1 _ r S1.g (S1.env1.store i)⟩
theorem qjV {i:Nat} {x:Str} {pos':Pos} (hN:X.N.Nodup) (hi:X.N[i]?=some x) (hx:Loc X.env.scope x) (he:PX K X e te) (hs:swapsWith e (some (.Name x pos')) pos.line X.env=pure false:=by rfl) (hf:X.fn x=true∨X.env.scope.names.lookup x=some .local:=by first | exact .inl rfl | exact .inr rfl | assumption) :
    PSM K X (.Assign [.Name x pos'] e pos) (qkt i te):=⟨fun hK=>(qfC hN hi hx (he.pe hK) hs hf).imp fun _ _ _=>qfg⟩
def qjX (te:TX):TSM:=fun De ρ=>te ρ (fun _ ρ1=>De.nx ρ1) De.ex
theorem qgX (he:PX K X e te) (hs:swapsWith e none pos.line X.env=pure false:=by rfl):PSM K X (.Expr e pos) (qjX te) :=
  ⟨fun hK=>(qfc (he.pe hK) hs).imp fun E σ H hq0=>by
    obtain ⟨Φ0,H0,Φ,ρ,De,g,V,t,k⟩:=hq0
    exact ⟨Φ0,H0,Φ,[],ρ,[],_,De.ex,st0 g V k.ex,t,fun s ρ1 Φ1 H1 v r S1 _=>k.nx _ Φ1 H1 σ r S1.g S1.env⟩⟩
def qlo (te:TX):TSM:=fun De ρ=>te ρ De.rt De.ex
theorem qeu (he:PX K X e te):PSM K X (.Return (some e) pos) (qlo te) :=
  ⟨fun hK=>(qgV (he.pe hK)).imp fun E σ H hq0=>by
    obtain ⟨Φ0,H0,Φ,ρ,De,g,V,t,k⟩:=hq0
    exact ⟨Φ0,H0,Φ,[],ρ,[],_,De.ex,st0 g V k.ex,t,fun s ρ1 Φ1 H1 v r S1 _=>k.rt s ρ1 Φ1 H1 v σ r S1.g S1.env1⟩⟩
def mIf (c:TXB) (t u:TSM):TSM:=fun De ρ=>c ρ (fun b ρ1=>(b=true→t De ρ1)∧(b=false→u De ρ1)) De.ex
theorem qkC {c:Expr} {a b:List Stmt} (hc:PXB K X c tt) (ha:PSsM K X a t) (hb:PSsM K X b u):PSM K X (.If c a b pos) (mIf tt t u) :=
  ⟨fun hK=>(qh4 (hc.pt hK) (ha.ps hK) (hb.ps hK)).imp fun E σ H hq0=>by
    obtain ⟨Φ0,H0,Φ,ρ,De,g,V,t,k⟩:=hq0
    refine ⟨Φ0,H0,Φ,[],ρ,[],_,De.ex,st0 g V k.ex,t,fun c ρ1 Φ1 H1 r S1 _=>?_⟩
    cases c with
    | true=>refine qjx ?_;exact ⟨Φ0,H0,Φ1,ρ1,De,S1.g,S1.env,r.1 rfl,k⟩
    | false=>refine qjC ?_;exact ⟨Φ0,H0,Φ1,ρ1,De,S1.g,S1.env,r.2 rfl,k⟩⟩
end
section
variable {K : PySem.W.Frag} {X : Cx} {e : Expr} {es : List Expr} {pos : Pos} {g : TGM} {gs : TGMs}
end
section
variable {K : PySem.W.Frag} {X : Cx} {st : Stmt} {rest : List Stmt} {t u : TSM} {e a : Expr} {te : TX} {pos : Pos} {tt : TXB}
end
def qa2:List Sm→List Addr→qaL
  | [],_=>[]
  | .v d::as,ps=>some (.v d)::qa2 as ps
  | .ob _ o::as,p::ps=>some (.ob (some p) o)::qa2 as ps
  | .ob _ _::as,[]=>none::qa2 as []
def qbv (N:List Str) (as:List Sm) (ps:List Addr):qaL:=qa2 as ps++List.replicate (N.length - as.length) none
def qbW:List Str→List Sm→List Addr→qaL
  | [],as,ps=>qa2 as ps
  | _::N,[],ps=>none::qbW N [] ps
  | _::N,.v d::as,ps=>some (.v d)::qbW N as ps
  | _::N,.ob _ o::as,p::ps=>some (.ob (some p) o)::qbW N as ps
  | _::N,.ob _ _::as,[]=>none::qbW N as []
theorem qa3:∀ (N:List Str) (as:List Sm) (ps:List Addr),qbv N as ps=qbW N as ps
  | [],as,ps=>by unfold qbv;rw [List.length_nil,Nat.zero_sub,List.replicate_zero,List.append_nil];rfl
  | n::N,[],ps=>by
    have:=qa3 N [] ps
    unfold qbv at this ⊢
    show List.replicate (N.length+1 - 0) none=none::qbW N [] ps
    rw [← this]
    rfl
  | n::N,.v d::as,ps=>by
    have:=qa3 N as ps
    unfold qbv at this ⊢
    rw [List.length_cons,List.length_cons,Nat.add_sub_add_right]
    exact congrArg (some (Sm.v d)::·) this
  | n::N,.ob a o::as,p::ps=>by
    have:=qa3 N as ps
    unfold qbv at this ⊢
    rw [List.length_cons,List.length_cons,Nat.add_sub_add_right]
    exact congrArg (some (Sm.ob (some p) o)::·) this
  | n::N,.ob _ _::as,[]=>by
    have:=qa3 N as []
    unfold qbv at this ⊢
    rw [List.length_cons,List.length_cons,Nat.add_sub_add_right]
    exact congrArg (none::·) this
def qhn (k:List Om→Prop):List Sm→List Addr→Nat→qaL→Prop
  | [],_,_,_=>k []
  | .v _::as,ps,i,ρ=>qhn k as ps (i+1) ρ
  | .ob _ _::as,p::ps,i,ρ=>∃ o,ρ[i]?=some (some (.ob (some p) o))∧qhn (fun os=>k (o::os)) as ps (i+1) ρ
  | .ob _ _::_,[],_,_=>False
def qhA:List Sm→Nat
  | []=>0
  | .v _::as=>qhA as
  | .ob _ _::as=>qhA as+1
def qbw:List Sm→List V→List Addr
  | .v _::as,_::vs=>qbw as vs
  | .ob _ _::as,.ref p::vs=>p::qbw as vs
  | _,_=>[]
section
variable {K : PySem.W.Frag} {Φ H Φ' H' H0 : Hp}
theorem qbK:∀ {as:List Sm} {vs:List V} {Fs:List (List Addr)},ArgM K Φ H as vs Fs→(qbw as vs).length=qhA as
  | [],_,_,.nil=>rfl
  | _,_,_,.v (as:=as) (vs:=vs) _ t=>show (qbw as vs).length=qhA as from qbK t
  | _,_,_,.o _ t=>by show (_::qbw _ _).length=qhA _+1;rw [List.length_cons,qbK t]
theorem qbu:∀ {as:List Sm} {ps:List Addr},(qa2 as ps).length=as.length
  | [],_=>rfl
  | .v d::as,ps=>by show (qa2 as ps).length+1=_;rw [qbu];rfl
  | .ob _ o::as,p::ps=>by show (qa2 as ps).length+1=_;rw [qbu];rfl
  | .ob _ _::as,[]=>by show (qa2 as []).length+1=_;rw [qbu];rfl
theorem qba:∀ {as:List Sm} {vs:List V} {Fs:List (List Addr)},ArgM K Φ H as vs Fs→∀ {i:Nat} {x:Sm},(qa2 as (qbw as vs))[i]?=some (some x) →
    (∃ d v,x=.v d∧vs[i]?=some v∧Rp K Φ d v)∨∃ o p F,x=.ob (some p) o∧vs[i]?=some (.ref p)∧Fs[i]?=some F∧OmS K Φ H o p F
  | [],_,_,.nil,i,x,h=>by simp [qa2] at h
  | _,_,_,.v (d:=d) r t,0,x,h=>by cases h;exact .inl ⟨d,_,rfl,rfl,r⟩
  | _,_,_,.v r t,i+1,x,h=>qba t (i:=i) h
  | _,_,_,.o (o:=o) (p:=p) (F:=F) r t,0,x,h=>by cases h;exact .inr ⟨o,p,F,rfl,rfl,rfl,r⟩
  | _,_,_,.o r t,i+1,x,h=>qba t (i:=i) h
theorem qfp:∀ {Fs:List (List Addr)},Fs.flatten.Nodup→∀ {i j:Nat} {F G:List Addr},Fs[i]?=some F→Fs[j]?=some G→i≠j→∀ b∈F,b∉G
  | [],_,i,j,F,G,h,_,_,_,_=>by simp at h
  | L::Fs,nd,i,j,F,G,hi,hj,c,b,hb=>by
    obtain ⟨n1,n2,n3⟩:=List.nodup_append.mp (show (L++Fs.flatten).Nodup from nd)
    intro hb2
    cases i with
    | zero =>
      cases hi
      cases j with
      | zero=>exact c rfl
      | succ j=>exact n3 b hb b (List.mem_flatten.mpr ⟨G,List.mem_of_getElem? (i:=j) (by simpa using hj),hb2⟩) rfl
    | succ i =>
      cases j with
      | zero =>
        cases hj
        exact n3 b hb2 b (List.mem_flatten.mpr ⟨F,List.mem_of_getElem? (i:=i) (by simpa using hi),hb⟩) rfl
      | succ j=>exact qfp n2 (by simpa using hi) (by simpa using hj) (fun e=>c (by rw [e])) b hb hb2
theorem qcD {N:List Str} {as:List Sm} {vs:List V} {Fs:List (List Addr)} (sm:Same Φ H) (tb:TabF K Φ) (ha:ArgM K Φ H as vs Fs) (nd:Fs.flatten.Nodup) (hn:∀ b∈Fs.flatten,Φ b=none):EnvM K (qbZ H Fs.flatten) Φ H (qbd N vs) (qbv N as (qbw as vs)):=by
  have cs:∀ {i:Nat} {x:Sm},(qbv N as (qbw as vs))[i]?=some (some x)→(qa2 as (qbw as vs))[i]?=some (some x):=fun {i x} h=>by
    unfold qbv at h
    rcases Nat.lt_or_ge i (qa2 as (qbw as vs)).length with c | c
    · rwa [List.getElem?_append_left c] at h
    · rw [List.getElem?_append_right c,List.getElem?_replicate] at h
      split at h <;> cases h
  have sv:∀ {i:Nat} {v:V},vs[i]?=some v→(qbd N vs)[i]?=some (some v):=fun {i v} h=>by
    unfold qbd
    rw [List.getElem?_append_left (by rw [List.length_map];exact qam h),List.getElem?_map,h]
    rfl
  obtain ⟨l1,l2⟩:=ha.len
  refine ⟨fun i=>Fs.getD i [],sm,by unfold qbd qbv;rw [List.length_append,List.length_append,List.length_map,List.length_replicate,List.length_replicate,qbu,l1],fun i d h=>?_,fun i a o h=>?_,fun i a o h b hb=>?_,fun i j a a' o o' hi hj c b hb=>?_,tb⟩
  · rcases qba ha (cs h) with ⟨d',v,e,hv,r⟩ | ⟨o,p,F,e,_⟩
    · cases e;exact ⟨v,sv hv,r⟩
    · cases e
  · rcases qba ha (cs h) with ⟨d',v,e,hv,r⟩ | ⟨o',p,F,e,hv,hF,r⟩
    · cases e
    · cases e
      refine ⟨p,sv hv,(fun q e=>by cases e;rfl),?_⟩
      rw [List.getD_eq_getElem?_getD,hF]
      exact r
  · rcases qba ha (cs h) with ⟨d',v,e,_⟩ | ⟨o',p,F,e,hv,hF,r⟩
    · cases e
    · rw [List.getD_eq_getElem?_getD,hF] at hb
      have hm:b∈Fs.flatten:=List.mem_flatten.mpr ⟨F,List.mem_of_getElem? hF,hb⟩
      exact ⟨qf1 hm,hn b hm⟩
  · rcases qba ha (cs hi) with ⟨d',v,e,_⟩ | ⟨o1,p1,F1,e,_,hF1,_⟩
    · cases e
    · rcases qba ha (cs hj) with ⟨d',v,e,_⟩ | ⟨o2,p2,F2,e,_,hF2,_⟩
      · cases e
      · rw [List.getD_eq_getElem?_getD,hF1] at hb
        rw [List.getD_eq_getElem?_getD,hF2]
        exact qfp nd hF1 hF2 c b hb
theorem qdT {fp:Nat→List Addr} {σ:St} {ρ:qaL} {k:List Om→Prop} (E:EnvM' K H0 Φ' H' σ ρ fp):∀ {as:List Sm} {vs:List V} {Fs:List (List Addr)} {i:Nat} {k:List Om→Prop},ArgM K Φ H as vs Fs→qhn k as (qbw as vs) i ρ →
    ∃ os Fs',OutM K Φ' H' as vs os Fs'∧k os∧Fs'.flatten.Nodup∧(∀ b∈Fs'.flatten,H0 b=none∧Φ' b=none)∧∀ b∈Fs'.flatten,∃ j a o,i≤j∧j<i+as.length∧ρ[j]?=some (some (.ob a o))∧b∈fp j
  | [],_,_,i,k,.nil,h=>⟨[],[],.nil,h,by simp,fun b hb=>(by cases hb),fun b hb=>(by cases hb)⟩
  | _,_,_,i,k,.v (as:=as) r t,h=>by
    obtain ⟨os,Fs',h1,h2,h3,h4,h5⟩:=qdT (k:=k) E (i:=i+1) t h
    refine ⟨os,[]::Fs',.v h1,h2,by simpa using h3,fun b hb=>h4 b (by simpa using hb),fun b hb=>?_⟩
    obtain ⟨j,a,o,j1,j2,j3⟩:=h5 b (by simpa using hb)
    exact ⟨j,a,o,by omega,by rw [List.length_cons];omega,j3⟩
  | _,_,_,i,k,.o (p:=p) (as:=as) (vs:=vs) r t,h=>by
    obtain ⟨o',ho,h⟩:=(show ∃ o,ρ[i]?=some (some (.ob (some p) o))∧qhn (fun os=>k (o::os)) as (qbw as vs) (i+1) ρ from h)
    obtain ⟨os,Fs',h1,h2,h3,h4,h5⟩:=qdT (k:=fun os=>k (o'::os)) E (i:=i+1) t h
    obtain ⟨q,e,ha,rr⟩:=E.ow i _ o' ho
    cases ha p rfl
    refine ⟨o'::os,fp i::Fs',.o rr h1,h2,?_,fun b hb=>?_,fun b hb=>?_⟩
    · refine List.nodup_append.mpr ⟨rr.nodup,h3,fun b hb c hc e=>?_⟩
      subst e
      obtain ⟨j,a,o,j1,j2,j3,j4⟩:=h5 b hc
      exact E.dj i j _ a o' o ho j3 (by omega) b hb j4
    · rcases List.mem_append.mp (show b∈fp i++Fs'.flatten from hb) with z | z
      · exact E.no i _ o' ho b z
      · exact h4 b z
    · rcases List.mem_append.mp (show b∈fp i++Fs'.flatten from hb) with z | z
      · exact ⟨i,_,o',Nat.le_refl _,by rw [List.length_cons];omega,ho,z⟩
      · obtain ⟨j,a,o,j1,j2,j3⟩:=h5 b z
        exact ⟨j,a,o,by omega,by rw [List.length_cons];omega,j3⟩
end
section
variable {P : Program} {w : World} {K : PySem.W.Frag} {mg : Str → Option Value} {base : Heap}
theorem Fun.okM {x qual:Str} {st:Stmt} {f:Addr} {fd:FuncData} {N ps:List Str} {k:Nat} {sp:SpM} (F:Fun K x qual st f fd) (S:FnScope N ps (qab st)) (len:∀ as R Rx,sp as R Rx→as.length=ps.length)
    (hbody:∀ (cdv:Value) (A:Around) (outer:List Env) (s:Shared) (H:Hp) (E:XK) (as:List Sm) (R:Sm→List Om→Prop) (Rx:XD→List Om→Prop) (qs:List Addr),fd.code=cdv→Room k (A.deeper (envOfC qual (qab st) s.heap.objs.size f cdv))→sp as R Rx→qs.length=qhA as →
      ∃ t,PSsM K (qeA CX0 P w K mg base N qual (qab st) f cdv A outer s H E).nox (qao st) t∧t { nx:=fun ρ=>qhn (R (.v .non)) as qs 0 ρ,rt:=fun sm ρ=>qhn (R sm) as qs 0 ρ } (qbW N as qs)):FnOk P w K mg base CX0 (k+1) f fd ps (qjA K sp):=by
  refine F.okL S (fun vs H Q E ⟨Φ,as,Fs,R,Rx,sm,tb,ha,nd,hn,h,_⟩=>by rw [ha.len.1];exact len as R Rx h) (fun cdv A outer s H vs Q E hcd hr ⟨Φ,as,Fs,R,Rx,sm,tb,ha,nd,hn,h,kk⟩=>?_)
  obtain ⟨t,ht,hq⟩:=hbody cdv A outer s H E as R Rx (qbw as vs) hcd hr h (qbK ha)
  rw [← qa3] at hq
  have al:=len as R Rx h
  have nl:ps.length≤N.length:=by have:=congrArg List.length S.pre;rw [List.length_take] at this;omega
  have fin:∀ sm ρ' Φ' H' v σ',qhn (R sm) as (qbw as vs) 0 ρ'→Gr Φ (qbZ H Fs.flatten) Φ' H'→EnvM K (qbZ H Fs.flatten) Φ' H' (σ'++[some v]) (ρ'++[some sm])→Q v H':=fun smr ρ' Φ' H' v σ' hk g V=>by
    obtain ⟨fp,E'⟩:=V
    have hl:σ'.length=ρ'.length:=by have:=E'.len;simpa using this
    obtain ⟨os,Fs',h1,h2,h3,h4,h5⟩:=qdT (k:=R smr) (E'.take hl.symm) ha hk
    have hat:(ρ'++[some smr])[ρ'.length]?=some (some smr):=by rw [List.getElem?_append_right (Nat.le_refl _),Nat.sub_self];rfl
    cases smr with
    | v d =>
      obtain ⟨u,hu,r⟩:=E'.sl _ d hat
      rw [← hl,List.getElem?_append_right (Nat.le_refl _),Nat.sub_self] at hu
      cases hu
      exact kk (.v d) os Φ' H' v [] Fs' h2 g (.v r) h1 (by simpa using h3) (fun b hb=>h4 b (by simpa using hb))
    | ob a o =>
      obtain ⟨u,hu,hau,r⟩:=E'.ow _ a o hat
      rw [← hl,List.getElem?_append_right (Nat.le_refl _),Nat.sub_self] at hu
      cases hu
      refine kk (.ob a o) os Φ' H' _ (fp ρ'.length) Fs' h2 g (.o hau r) h1 ?_ fun b hb=>?_
      · refine List.nodup_append.mpr ⟨r.nodup,h3,fun b hb c hc e=>?_⟩
        subst e
        obtain ⟨j,a2,o2,_,_,j3,j4⟩:=h5 b hc
        have hj:=qam j3
        exact E'.dj _ j a a2 o o2 hat (by rw [List.getElem?_append_left hj];exact j3) (by omega) b hb j4
      · rcases List.mem_append.mp hb with z | z
        · exact E'.no _ a o hat b z
        · exact h4 b z
  have g0:Gr Φ (qbZ H Fs.flatten) Φ H:=⟨Same.refl _,qeE,sm,fun _ _ _ h _=>h⟩
  refine ⟨lM K _ t,ht.ps rfl,Φ,qbZ H Fs.flatten,Φ,_,_,g0,qcD sm tb ha nd hn,hq,⟨fun ρ' Φ' H' σ' r g V=>?_,fun smr ρ' Φ' H' v σ' r g V=>fin smr ρ' Φ' H' v σ' r g V,fun _ _ _ _ h=>h.elim,fun _ _ _ _ h=>h.elim,fun _ _ _ _ _ _ _ _ h=>h.elim⟩⟩
  exact fin (.v .non) ρ' Φ' H' .non σ' r g (V.snocV .non)
end
section
variable {K : PySem.W.Frag} {X : Cx} {e a b : Expr} {te ta tk : TX} {pos apos cpos npos spos : Pos} {x : Str} {i : Nat}
end
section
variable {K : PySem.W.Frag} {X : Cx} {tg iter elt e a : Expr} {ifs : List Expr} {scope : Scope} {pos py spos : Pos} {N' : List Str} {cap : List (Option Nat)} {ti : TDL} {g : TGD} {tc : TDB} {te ta tb : TD} {i : Nat} {y : Str}
end
def zM (z:SpD):SpM:=fun as R _=>∃ ds,as=ds.map Sm.v∧z ds fun d=>R (.v d) []
theorem qdK {H:Hp}:qbZ H []=H:=funext fun b=>if_neg (by simp)
theorem qck {K:PySem.W.Frag} {Φ H:Hp}:∀ {ds:List D} {vs:List V},RpL K Φ ds vs→ArgM K Φ H (ds.map Sm.v) vs (ds.map fun _=>[])
  | [],[],_=>.nil
  | [],_::_,h=>by cases h.1
  | _::_,[],h=>by cases h.1
  | d::ds,v::vs,h=>.v (h.2 0 v d rfl rfl) (qck ⟨by have:=h.1;simpa using this,fun i u e hu he=>h.2 (i+1) u e hu he⟩)
theorem qb7 {α:Type}:∀ (ds:List α),(ds.map fun _=>([]:List Addr)).flatten=[]
  | []=>rfl
  | _::ds=>by simp
theorem qe1 {K:PySem.W.Frag} {z:SpD}:∀ vs H Q E,lSp K z vs H Q E→qjA K (zM z) vs H Q E:=fun vs H Q E h=>by
  obtain ⟨Φ,ds,R,sm,tb,rl,hz,k⟩:=h
  refine ⟨Φ,ds.map Sm.v,ds.map fun _=>[],fun s os=>∃ d,s=.v d∧R d,fun _ _=>False,sm,tb,qck rl,by rw [qb7];exact List.nodup_nil,fun b hb=>(by rw [qb7] at hb;cases hb),⟨ds,rfl,?_⟩,fun s os Φ' H' v F Fs' r g hr ho hn hno=>?_⟩
  · have e:R=fun d=>∃ d',(Sm.v d:Sm)=.v d'∧R d':=funext fun d=>propext ⟨fun h=>⟨d,rfl,h⟩,fun ⟨d',e,h⟩=>by cases e;exact h⟩
    rw [← e]
    exact hz
  · obtain ⟨d,rfl,r⟩:=r
    cases hr with
    | v rv =>
      rw [qb7,qdK] at g
      exact k d Φ' H' v r g rv
section
variable {K : PySem.W.Frag} {X : Cx} {H0 H H' Φ Φ' : Hp} {σ : St} {ρ : qaL} {cap : List (Option Nat)}
end
section
variable {K : PySem.W.Frag} {X : Cx} {tg iter elt : Expr} {ifs : List Expr} {scope : Scope} {pos : Pos} {N' : List Str} {cap : List (Option Nat)} {ti : TIM} {gd : TGM} {tc : TXB} {te : TX}
end
theorem qkE {qs:List Addr} (h:qs.length=0):qs=[]:=List.length_eq_zero_iff.mp h
section
variable {K : PySem.W.Frag} {X : Cx} {e a b : Expr} {es : List Expr} {pos p : Pos} {ta tb te : TX} {tA : TXA}
end
section
variable {κ : Type} [DecidableEq κ] {K : PySem.W.Frag} {Φ : Hp}
end
section
variable {K : PySem.W.Frag} {X : Cx} {e a b ev : Expr} {tk tv : TD} {pos apos cpos npos spos : Pos} {x : Str} {i : Nat}
end
section
variable {K : PySem.W.Frag} {X : Cx}
end
section
variable {K : PySem.W.Frag} {X : Cx} {e a b ev : Expr} {tk tv td : TD} {pos apos cpos npos spos : Pos} {x : Str} {i : Nat}
end
section
variable {g : TGD} {tc : TDB} {te : TD} {ρ : Rho} {R : List D → Prop}
end
end L2
namespace PySem.SeqAt
open AutoSeq1 (wpAny_loadPart')
open MeetsSeq MeetsSeq2 MeetsSeq3 SeqRoads2
end PySem.SeqAt
namespace L2
open PySem PySem.Spec PyProof.Rows
section
variable {K : PySem.W.Frag} {X : Cx} {a b : Expr} {ta tb : TD} {apos cpos : Pos}
end
section
variable {K : PySem.W.Frag} {X : Cx} {e e2 : Expr} {te te2 : TX} {pos apos cpos npos : Pos} {x : Str} {i : Nat}
end
section
variable {P : Program} {w : World} {H H' : Hp} {h h' h1 h2 : Heap}
theorem HOk.keptT (x:HOk P w H h) (k:∀ b u v,H b=some v→h.get? b=some u→h'.get? b=some u):HOk P w H h':=fun a o e =>
  (x a o e).stay (fun b u hb q=>by
    rcases hb with rfl | hb
    · exact k _ u o e q
    · exact k b u _ hb q) (fun _ q=>q) (fun _ _ q=>q) fun _ _ _ q=>q
theorem Un.kept2 {fs fs':List Addr} {ea:Addr} {T:Option Addr} (u:Un fs [] H H' h h1) (k:Kept fs' ea T h1 h2) (he:h.get? ea=none) (hT:∀ T',T=some T'→h.get? T'=none) (hf:∀ b∈fs',b∈fs∨h.get? b=none):Un fs [] H H' h h2 where
  keep b o hb hn hfb hx:=by
    refine k.keep b o (u.keep b o hb hn hfb hx) (fun z=>by rw [z,he] at hb;cases hb) (fun z=>by rw [hT b z.symm] at hb;cases hb) fun z=>?_
    rcases hf b z with z | z
    · exact hfb z
    · rw [z] at hb;cases hb
  slot b o hb hn hfb hx:=by
    obtain ⟨sl,hs⟩:=u.slot b o hb hn hfb hx
    by_cases c:b∈fs'
    · obtain ⟨sl2,hs2⟩:=k.slot b _ hs c
      exact ⟨sl2,hs2⟩
    · exact ⟨sl,k.keep b _ hs (fun z=>by rw [z,he] at hb;cases hb) (fun z=>by rw [hT b z.symm] at hb;cases hb) c⟩
  free:=u.free
  there b o hb hx:=by
    obtain ⟨o',hs⟩:=u.there b o hb hx
    by_cases c:b∈fs'
    · obtain ⟨sl2,hs2⟩:=k.slot b _ hs c
      exact ⟨_,hs2⟩
    · exact ⟨o',k.keep b _ hs (fun z=>by rw [z,he] at hb;cases hb) (fun z=>by rw [hT b z.symm] at hb;cases hb) c⟩
  tups:=u.tups
  frzs:=u.frzs
  tbls:=u.tbls
end
def CXo (P:Program) (w:World):CXT:=fun outer H s E e s'=>∃ (ea T C:Addr) (dx:Option Addr) (H':Hp),e=.ref ea∧Fly s'.heap ea (some T) .none (.ref C) dx∧(s.heap.get? ea=none∧H' ea=none)∧(s.heap.get? T=none∧H' T=none) ∧
  s'.os=s.os∧AllBare s'.gens∧Un (frs outer) [] H H' s.heap s'.heap∧HOk P w H' s'.heap∧E (.ref C) dx H'
section
variable {X : Cx} {pins : List (Addr × Obj)} {σ : St} {H : Hp} {s s' : Shared} {E : XK} {e : Value}
theorem CXo.at (I:Inv X pins σ H s) (hex:X.ex=[]) (h:CXo X.prog X.w X.stack H s E e s'):∃ (ea T C:Addr) (dx:Option Addr) (H':Hp),e=.ref ea∧Inv X pins σ H' s'∧Fly s'.heap ea (some T) .none (.ref C) dx∧(X.s₀.heap.get? ea=none∧H' ea=none∧∀ p∈X.pn++pins,p.1≠ea)∧(X.s₀.heap.get? T=none∧H' T=none∧∀ p∈X.pn++pins,p.1≠T)∧E (.ref C) dx H':=by
  obtain ⟨ea,T,C,dx,H',e1,F,⟨f1,f2⟩,⟨g1,g2⟩,ho,hb,un,hok,hE⟩:=h
  have old:∀ b,s.heap.get? b=none→X.s₀.heap.get? b=none:=fun b hb=>by
    cases q:X.s₀.heap.get? b with
    | none=>rfl
    | some o =>
      obtain ⟨o',z⟩:=I.base.there b o q (by rw [hex];simp)
      rw [hb] at z;cases z
  exact ⟨ea,T,C,dx,H',e1,I.call' (ch:=[]) ho un hok hb (fun b z=>absurd z (by simp)),F,⟨old ea f1,f2,fun p hp z=>by have:=(I.pin p hp).1;rw [z,f1] at this;cases this⟩,⟨old T g1,g2,fun p hp z=>by have:=(I.pin p hp).1;rw [z,g1] at this;cases this⟩,hE⟩
end
section
variable {P : Program} {w : World} {K : PySem.W.Frag} {mg : Str → Option Value} {base : Heap} {N : List Str} {qual : Str} {scope : Scope} {f : Addr} {cd : Value} {A : Around} {outer : List Env} {s s' : Shared} {H H' : Hp} {E : XK} {pins : List (Addr × Obj)} {σ : St}
theorem qgb {ea C:Addr} {T dx:Option Addr} (I:Inv (qeA (CXo P w) P w K mg base N qual scope f cd A outer s H E) pins σ H' s') (F:Fly s'.heap ea T .none (.ref C) dx) (hea:s.heap.get? ea=none∧H' ea=none) (hT:∀ T',T=some T'→s.heap.get? T'=none∧H' T'=none) (hE:E (.ref C) dx H') :
    (qeA (CXo P w) P w K mg base N qual scope f cd A outer s H E).xe (.ref ea) s':=by
  have hfn:∀ b∈frs (envOfC qual scope s.heap.objs.size f cd::outer),H' b=none:=I.stkFree
  refine qhv (base:=base) I.ok.frames I.stack rfl F fun h2 T' F2 n2 k2=>?_
  have hsz:s.heap.objs.size≤s'.heap.objs.size:=I.sz
  refine ⟨ea,T',C,dx,H',rfl,F2,hea,⟨Heap.get?_none_of_le (by omega),I.hok.fresh n2⟩,I.os,I.bare,?_,I.hok.keptT fun b u v hb q=>?_,hE⟩
  · refine (show Un (frs outer) [] H H' s.heap s'.heap from I.base).kept2 k2 hea.1 (fun T' e=>(hT T' e).1) fun b hb=>?_
    obtain ⟨env,he,hf⟩:=List.mem_filterMap.mp hb
    rcases List.mem_cons.mp he with rfl | he
    · right
      have:s.heap.objs.size=b:=Option.some.inj hf
      exact Heap.get?_none_of_le (by omega)
    · exact .inl (List.mem_filterMap.mpr ⟨env,he,hf⟩)
  · refine k2.keep b u q (fun z=>by rw [z,hea.2] at hb;cases hb) (fun z=>by rw [(hT b z.symm).2] at hb;cases hb) fun z=>?_
    rw [hfn b z] at hb;cases hb
end
abbrev SpX:=List D→(D→Prop)→(XD→Prop)→Prop
def qfX (K:PySem.W.Frag) (mg:Str→Option Value) (z:SpX):Sp:=fun vs H Q E=>∃ Φ ds R W,Same Φ H∧TabF K Φ∧RpL K Φ ds vs∧z ds R W∧(∀ d Φ' H' v,R d→Gr Φ H Φ' H'→Rp K Φ' d v→Q v H') ∧
  ∀ xd C dx Φ' H',W xd→Gr Φ H Φ' H'→mg xd.nm=some (.ref C)→XAt K H' xd.at_ dx→E (.ref C) dx H'
structure ClX (P:Program) (w:World) (K:PySem.W.Frag) (mg:Str→Option Value) (base:Heap) (n:Nat) (x:Str) (ps:List Str) (z:SpX):Prop where
  ex:∃ (f:Addr) (fd:FuncData),FnOk P w K mg base (CXo P w) n f fd ps (qfX K mg z)∧Binds K fd ps []∧PySem.W.keepIn K (.ref f)=true∧mg x=some (.ref f)
section
variable {X : Cx} {CX : CXT} {k : Nat} {f : Addr} {fd : FuncData} {ps : List Str} {sp : Sp} {x : Str} {p pos : Pos} {e : Expr} {es : List Expr} {t : TA}
def qeb (CX:CXT) (X:Cx) (E:XK) (σ:St) (H:Hp):Prop:=∀ (pins:List (Addr × Obj)) (s:Shared) (e:Value) (s':Shared),Inv X pins σ H s→CX X.stack H s E e s'→X.xe e s'
def qiu (CX:CXT) (X:Cx) (sp:Sp) (t:TA):TE:=fun σ H Q=>t σ H fun vs H1=>∃ E,qeb CX X E σ H1∧sp vs H1 Q E
theorem qhz {pins:List (Addr × Obj)} {σ:St} {H:Hp} {s:Shared} {Q:VK} {E:XK} {us:List Value} {vs:List V} (F:FnOk X.prog X.w X.K X.mg X.base CX k f fd ps sp) (hr:Room k X.A) (hb:Binds X.K fd ps []) (hx:qeb CX X E σ H)
    (I:Inv X pins σ H s) (r:Vals vs us) (h:sp vs H Q E):wpAny (model X.prog X.w) X.A (call (.ref f) us) (EP X pins σ Q) X.xe s:=by
  have hl:us.length=ps.length:=by rw [← r.length];exact F.len _ _ _ _ h
  have hB:=hb s us I.kIn (by rw [List.append_nil];exact hl)
  rw [List.append_nil] at hB
  refine wpAny_call (codeAny_mono (F.run X.A X.stack s H ⟨us,[]⟩ us vs Q E hr I.env0 hB r h) fun res s1 hq=>?_)
  cases res with
  | error z=>exact hx pins s z s1 I hq
  | ok fl =>
    cases fl with
    | ret u=>exact I.after hq
    | _=>exact hq.elim
theorem qgB (F:FnOk X.prog X.w X.K X.mg X.base CX k f fd ps sp) (hr:Room k X.A) (hg:Gl X x) (hm:X.mg x=some (.ref f)) (hk:PySem.W.keepIn X.K (.ref f)=true) (hb:Binds X.K fd ps [])
    (ha:PA X (e::es) t) (hdb:(x == ("__debug__":Str))=false) (he:starEach (e::es) X.env=(false,eval e X.env)::starEach es X.env) (hpl:(backTo pos (starEach es X.env)).any (·.1)=false) :
    PE X (.Call (.Name x p) (e::es) [] pos) (qiu CX X sp t):=by
  intro pins s σ H Q I h
  refine wpAny_Call_Name_kw (qbb I hg hm ?_ hdb)
  refine PySem.W.callWith_K (h₀:=X.base) I.ok.mod.kin hk (thn (ha pos pins s σ H _ I h) fun us s1 hq0=>?_) he hpl
  obtain ⟨vs,H1,I1,r,E,hx,q⟩:=hq0
  exact ⟨I1.kIn,qhz F hr hb hx I1 r q⟩
end
section
variable {K : PySem.W.Frag} {X : Cx} {e : Expr} {es : List Expr} {pos p : Pos} {tA : TXA}
def qjo (z:SpX) (tA:TXA):TX:=fun ρ R Rx=>tA ρ (xaD fun ds ρ1=>z ds (fun d=>R (.v d) ρ1) (fun xd=>Rx xd ρ1)) Rx
theorem qfT {n:Nat} {x:Str} {ps:List Str} {z:SpX} (C:ClX X.prog X.w K X.mg X.base n x ps z) (hr:Room n X.A) (hg:Gl X x) (hex:X.ex=[])
    (ha:PXA K X (e::es) tA) (he:starEach (e::es) X.env=(false,eval e X.env)::starEach es X.env) (hpl:(backTo pos (starEach es X.env)).any (·.1)=false) (hdb:(x == ("__debug__":Str))=false:=by decide) :
    PX K X (.Call (.Name x p) (e::es) [] pos) (qjo z tA):=⟨fun hK=>by
  obtain ⟨f,fd,F,b,k,m⟩:=C.ex
  refine (qgB (hK ▸ F:FnOk X.prog X.w X.K X.mg X.base (CXo X.prog X.w) n f fd ps (qfX K X.mg z)) hr hg m (hK ▸ k) (hK ▸ b) (ha.pa hK) hdb he hpl).imp fun σ H Q hq0=>?_
  obtain ⟨Φ0,H0,Φ,τ,ρ,κ,R,Rx,S,t,k⟩:=hq0
  refine ⟨Φ0,H0,Φ,τ,ρ,κ,_,Rx,S,t,fun as ρ1 Φ1 H1 vs ts r1 hl hv S1 f1=>?_⟩
  obtain ⟨ds,hd,r1⟩:=r1.get
  have rl:=S1.vals S.lk hd hv
  refine ⟨fun cls dx H'=>∃ xd C Φ',Rx xd ρ1∧Gr Φ1 H1 Φ' H'∧cls=.ref C∧X.mg xd.nm=some (.ref C)∧XAt K H' xd.at_ dx,fun pins s e' s' I hx=>?_,Φ1,ds,_,_,S1.g.s,S1.E.tb,rl,r1,fun d Φ' H' v rd g rv=>k _ ρ1 Φ' H' v rd (((S1.pop S.lk).gr g).pushV rv) (f1.trans g.f),fun xd C dx Φ' H' hw g hm ha=>⟨xd,C,Φ',hw,g,rfl,hm,ha⟩⟩
  obtain ⟨ea,T,C,dx,H',e1,I',F',fa,fT,xd,C',Φ',hRx,g,ec,hm,ha⟩:=CXo.at I hex hx
  cases ec
  subst e1
  refine S1.x xd ρ1 Φ' H' σ _ s' pins hRx (S1.g.trans g) ((S1.pop S.lk).gr g).env ⟨I',ea,C,some T,dx,rfl,F',hm,hK ▸ ha,fa,fun T' z=>?_⟩
  cases z
  exact fT⟩
end
section
variable {P : Program} {w : World} {K : PySem.W.Frag} {mg : Str → Option Value} {base : Heap}
theorem qg3:∀ ds:List D,qhA (ds.map Sm.v)=0
  | []=>rfl
  | _::ds=>qg3 ds
def rtV (R:D→Prop):Sm→Prop | .v d=>R d | _=>False
theorem Fun.okX {x qual:Str} {st:Stmt} {f:Addr} {fd:FuncData} {N ps:List Str} {k:Nat} {sp:SpX} (F:Fun K x qual st f fd) (S:FnScope N ps (qab st)) (len:∀ ds R W,sp ds R W→ds.length=ps.length)
    (hbody:∀ (cdv:Value) (A:Around) (outer:List Env) (s:Shared) (H:Hp) (E:XK) (ds:List D) (R:D→Prop) (W:XD→Prop),fd.code=cdv→Room k (A.deeper (envOfC qual (qab st) s.heap.objs.size f cdv))→sp ds R W →
      ∃ t,PSsM K (qeA (CXo P w) P w K mg base N qual (qab st) f cdv A outer s H E) (qao st) t∧t { nx:=fun ρ=>R .non,rt:=fun sm ρ=>rtV R sm,ex:=fun xd ρ=>W xd } (qbW N (ds.map Sm.v) [])):FnOk P w K mg base (CXo P w) (k+1) f fd ps (qfX K mg sp):=by
  obtain ⟨oc,od,kV,doc,pm,an,cdv,ct,osl,rfl,lk,hcd⟩:=F.ex
  refine qgt lk hcd S (fun vs H Q E hq0=>?_) fun A outer s H vs Q E hr hq0=>?_
  · obtain ⟨Φ,ds,R,W,_,_,rl,h,_⟩:=hq0
    rw [rl.1]
    exact len ds R W h
  · obtain ⟨Φ,ds,R,W,sm,tb,rl,h,kR,kW⟩:=hq0
    obtain ⟨t,ht,hq⟩:=hbody cdv A outer s H E ds R W rfl hr h
    rw [← qa3] at hq
    have am:ArgM K Φ H (ds.map Sm.v) vs (ds.map fun _=>[]):=qck rl
    have e0:(ds.map fun _=>([]:List Addr)).flatten=[]:=by
      rw [List.flatten_eq_nil_iff]
      intro l hl
      obtain ⟨_,_,rfl⟩:=List.mem_map.mp hl
      rfl
    have ea:qbw (ds.map Sm.v) vs=[]:=List.length_eq_zero_iff.mp (by rw [qbK am];exact qg3 ds)
    have V:=qcD (N:=N) sm tb am (by rw [e0];simp) (by rw [e0];simp)
    rw [e0,qdK,ea] at V
    refine ⟨lM K _ t,ht.ps rfl,Φ,H,Φ,_,_,.refl sm,V,hq,⟨fun ρ' Φ' H' σ' r g V=>kR .non Φ' H' .non r g .non,fun smr ρ' Φ' H' v σ' r g V=>?_,fun _ _ _ _ h=>h.elim,fun _ _ _ _ h=>h.elim,fun xd ρ' Φ' H' σ' z s' pins hw g V st=>?_⟩⟩
    · cases smr with
      | v d =>
        obtain ⟨fp,E'⟩:=V
        have hl:σ'.length=ρ'.length:=by have:=E'.len;simpa using this
        have hat:(ρ'++[some (Sm.v d)])[ρ'.length]?=some (some (.v d)):=by rw [List.getElem?_append_right (Nat.le_refl _),Nat.sub_self];rfl
        obtain ⟨u,hu,r2⟩:=E'.sl _ d hat
        rw [← hl,List.getElem?_append_right (Nat.le_refl _),Nat.sub_self] at hu
        cases hu
        exact kR d Φ' H' v r g r2
      | ob a o=>exact r.elim
    · obtain ⟨ea,C,T,dx,e1,F',hm,ha,fa,fT⟩:=st.ex
      subst e1
      exact qgb st.inv F' ⟨fa.1,fa.2.1⟩ (fun T' z=>⟨(fT T' z).1,(fT T' z).2.1⟩) (kW xd C dx Φ' H' hw g hm ha)
theorem Fun.clX {x:Str} {st:Stmt} {f:Addr} {fd:FuncData} {ps:List Str} {n:Nat} {z:SpX} (F:Fun K x x st f fd) (m:mg x=some (.ref f)) (H:FnOk P w K mg base (CXo P w) n f fd ps (qfX K mg z))
    (b:∀ (kV doc pm:Value) (an:Option Addr) (cdv ct:Value) (us:List Value),us.length=ps.length→bindArgs (PySem.W.fnOf x x (qaC st) (qao st) (qab st) .none kV doc pm an cdv ct) ⟨us,[]⟩=pure (ps.zip us)):ClX P w K mg base n x ps z:=⟨f,fd,H,F.binds b,F.kp,m⟩
theorem ClX.mono {n m:Nat} {x:Str} {ps:List Str} {z:SpX} (C:ClX P w K mg base n x ps z) (k:n≤m):ClX P w K mg base m x ps z:=by
  obtain ⟨f,fd,F,r⟩:=C.ex
  exact ⟨f,fd,F.mono k,r⟩
end
abbrev bmV:List Value:=[.type "ValueError",.type "Exception",.type "BaseException",.type "object"]
abbrev excNames:List Str:=["__init__","__setattr__","__getattribute__","__getattr__","at","__class__"]
inductive TailN (h:Heap):List Value→Prop where
  | base:TailN h bmV
  | own {A:Addr} {c0:Value} {dd:Option Addr} {cd:ClassData} {sl:Array (Option Value)} {mA:Str→Option Value} {tl:List Value}:h.get? A=some { cls:=c0,dict:=dd,data:=.cls cd,slots:=sl }→h.Ns cd.ns mA→(∀ n∈excNames,mA n=none)→TailN h tl→TailN h (.ref A::tl)
theorem TailN.tail {h:Heap} {tl:List Value} (T:TailN h tl):OwnTail h bmV tl:=by
  induction T with
  | base=>exact .base
  | own a b c _ ih=>exact .own a b (c _ (by simp)) ih
theorem TailN.keeps {h h':Heap} {tl:List Value} (T:TailN h tl) (k:∀ b o,h.get? b=some o→h'.get? b=some o):TailN h' tl:=by
  induction T with
  | base=>exact .base
  | own a b c _ ih=>exact .own (k _ _ a) (b.keeps k) c ih
structure ExcAt (h:Heap) (C:Addr) (init:Option Value):Prop where
  ex:∃ nm q N bs bm sn sub ab col dd k0 k1 k2 k3 k5 mN,h.get? C=some (excClassObj nm q C N bs bm true sn sub ab col dd k0 k1 k2 k3 k5 "ValueError.__new__")∧h.Ns N mN∧mN "__init__"=init∧(∀ n∈excNames,n≠"__init__"→mN n=none)∧TailN h bm
theorem ObjOk.is {P:Program} {w:World} {H:Hp} {h:Heap} {a:Addr} {o:HO} (x:ObjOk P w H h a o):∃ ob,h.get? a=some ob:=by
  cases o with
  | lst xs=>obtain ⟨_,_,_,_,e⟩:=x;exact ⟨_,e⟩
  | tup xs=>obtain ⟨_,_,_,o,e,_⟩:=x;exact ⟨_,e⟩
  | dK kvs=>obtain ⟨_,_,_,_,o,_,_,e,_⟩:=x;exact ⟨_,e⟩
  | dT kvs=>obtain ⟨_,_,_,_,o,_,_,e,_⟩:=x;exact ⟨_,e⟩
  | set S n=>obtain ⟨o,_,_,_,e,_⟩:=x;exact ⟨_,e⟩
  | ins C dx fs=>obtain ⟨_,_,_,e,_⟩:=x;exact ⟨_,e⟩
  | own y=>obtain ⟨_,e⟩:=x;exact ⟨_,e⟩
  | xd fs=>obtain ⟨_,⟨_,_,_,e,_⟩,_⟩:=x;exact ⟨_,e⟩
  | rng lo hi=>obtain ⟨_,_,_,e⟩:=x;exact ⟨_,e⟩
  | frz ob u=>obtain ⟨e,_⟩:=x;exact ⟨_,e⟩
  | tbl ps=>rcases x with x | ⟨_,_,_,_,_,_,_,_,_,_,x,_⟩ <;> exact ⟨_,x⟩
  | met f y=>exact ⟨_,(show h.get? a=some _ from x)⟩
  | ext φ=>obtain ⟨_,e,_⟩:=x;exact e
theorem HOk.no {P:Program} {w:World} {H:Hp} {h:Heap} (x:HOk P w H h) {a:Addr} (e:h.get? a=none):H a=none:=by
  cases q:H a with
  | none=>rfl
  | some o =>
    obtain ⟨ob,z⟩:=(x a o q).is
    rw [e] at z
    cases z
section
variable {X : Cx} {pins : List (Addr × Obj)} {σ : St} {H : Hp} {s : Shared} {h' : Heap} {K : PySem.W.Frag}
theorem Inv.old (I:Inv X pins σ H s) (hex:X.ex=[]) {b:Addr} (hb:s.heap.get? b=none):X.s₀.heap.get? b=none:=by
  cases q:X.s₀.heap.get? b with
  | none=>rfl
  | some o =>
    obtain ⟨o',z⟩:=I.base.there b o q (by rw [hex];simp)
    rw [hb] at z;cases z
theorem Inv.more (I:Inv X pins σ H s) (k:∀ b o,s.heap.get? b=some o→h'.get? b=some o):Inv X pins σ H { s with heap:=h' } :=
  I.call' (s':={ s with heap:=h' }) (ch:=[]) rfl (Un.kept k) (I.hok.kept k) I.bare (fun b z=>absurd z (by simp))
theorem qgx {C:Addr} {x:Str} {np cpos pos:Pos} (hcalm:X.calm=true) (hex:X.ex=[]) (hg:Gl X x) (hm:X.mg x=some (.ref C)) (hC:∀ h:Heap,X.K.In h→ExcAt h C none) (hdb:(x == ("__debug__":Str))=false:=by decide) :
    PSM K X (.Raise (some (.Call (.Name x np) [] [] cpos)) none pos) (fun De ρ=>De.ex ⟨x,none⟩ ρ):=⟨fun hK=>by
  intro pins s σ H E I hq0
  obtain ⟨Φ0,H0,Φ,ρ,De,g,V,t,k⟩:=hq0
  obtain ⟨nm,q,N,bs,bm,sn,sub,ab,col,dd,k0,k1,k2,k3,k5,mN,c1,c2,c3,c4,c5⟩:=(hC s.heap I.kIn).ex
  refine wpAny_Raise_call_subT (C:=C) (nm:=nm) (q:=q) (N:=N) (bs:=bs) (bm:=bm) (hdct:=true) (sn:=sn) (sub:=sub) (ab:=ab) (col:=col) (dd:=dd) (k0:=k0) (k1:=k1) (k2:=k2) (k3:=k3) (k5:=k5) (mN:=mN) PySem.F.excBase_ValueError (c5.tail.hasType (by decide +kernel)) (I.ok.hd hcalm) rfl c3 (qbb I hg hm ⟨rfl,?_⟩ hdb)
  refine PySem.evalArgs_none ?_
  refine ⟨rfl,by show 0≤sizeLine;exact Nat.zero_le _,c1,c2,c5.tail,fun h' e hmk=>?_⟩
  obtain ⟨t',h1,h2,h3⟩:=hmk.there
  have hno:=I.hok.no hmk.new
  exact k.ex ⟨x,none⟩ ρ Φ H σ _ _ pins t g V ⟨I.more hmk.keeps,e,C,none,none,rfl,⟨_,_,h1,rfl,rfl,rfl,rfl⟩,hm,rfl,⟨I.old hex hmk.new,hno,fun p hp z=>by have:=(I.pin p hp).1;rw [z,hmk.new] at this;cases this⟩,fun T' z=>(by cases z)⟩⟩
end
abbrev Cx.tried (X:Cx) (pn:List (Addr × Obj)) (xe:Value→Shared→Prop):Cx:={ X with pn:=pn,xe:=xe }
abbrev Cx.held (X:Cx) (pn:List (Addr × Obj)) (e:Value):Cx:={ X with A:=X.A.mark (some e),calm:=false,pn:=pn,xe:=fun _ _=>False }
section
variable {X : Cx} {pins pins' : List (Addr × Obj)} {σ : St} {H : Hp} {s : Shared} {xe : Value → Shared → Prop} {e : Value}
theorem Cx.Ok.tried (o:X.Ok) (pn:List (Addr × Obj)) (xe:Value→Shared→Prop):(X.tried pn xe).Ok :=
  ⟨o.mod,o.kind,o.glob,o.blt,o.above,o.inj,o.has,o.cab,o.hd,o.frames,o.stk,o.exf,o.bs,o.bsz,o.noex,o.exfs,o.funs,o.frf⟩
theorem Cx.Ok.held (o:X.Ok) (pn:List (Addr × Obj)) (e:Value):(X.held pn e).Ok :=
  ⟨o.mod,o.kind,o.glob,o.blt,o.above,o.inj,o.has,o.cab,fun h=>(by cases h),o.frames,o.stk,o.exf,o.bs,o.bsz,o.noex,o.exfs,o.funs,o.frf⟩
theorem Inv.tried (I:Inv X pins σ H s) (xe:Value→Shared→Prop):Inv (X.tried (X.pn++pins) xe) [] σ H s :=
  ⟨I.ok.tried _ _,I.os,I.bare,I.base,I.loc,I.cell,I.free,I.freeC,fun p hp=>I.pin p (by rw [List.append_nil] at hp;exact hp),I.hok,I.len⟩
theorem Inv.untried (ok:X.Ok) (I:Inv (X.tried (X.pn++pins) xe) pins' σ H s):Inv X pins σ H s :=
  ⟨ok,I.os,I.bare,I.base,I.loc,I.cell,I.free,I.freeC,fun p hp=>I.pin p (List.mem_append_left _ hp),I.hok,I.len⟩
theorem Inv.held (I:Inv X pins σ H s) (e:Value):Inv (X.held (X.pn++pins) e) [] σ H s :=
  ⟨I.ok.held _ _,I.os,I.bare,I.base,I.loc,I.cell,I.free,I.freeC,fun p hp=>I.pin p (by rw [List.append_nil] at hp;exact hp),I.hok,I.len⟩
theorem Inv.unheld (ok:X.Ok) (I:Inv (X.held (X.pn++pins) e) pins' σ H s):Inv X pins σ H s :=
  ⟨ok,I.os,I.bare,I.base,I.loc,I.cell,I.free,I.freeC,fun p hp=>I.pin p (List.mem_append_left _ hp),I.hok,I.len⟩
theorem Inv.knowX {a:Addr} {o:HO} (I:Inv X pins σ H s) (h0:X.s₀.heap.get? a=none) (hn:H a=none) (hp:∀ p∈X.pn++pins,p.1≠a) (hl:X.env.locals≠a) (hc:∀ x c,X.env.cells.lookup x=some c→c≠a) (new:ObjOk X.prog X.w (upd H a o) s.heap a o):Inv X pins σ (upd H a o) s where
  ok:=I.ok
  os:=I.os
  bare:=I.bare
  base:=⟨I.base.keep,I.base.slot,fun b ob q n hx=>by rw [qad (fun z=>by rw [z,h0] at q;cases q)];exact I.base.free b ob q n hx,I.base.there,fun b xs q=>by have:=I.base.tups b xs q;rw [qad (qaj this hn)];exact this,fun b ob xs q=>by have:=I.base.frzs b ob xs q;rw [qad (qaj this hn)];exact this,fun b ps q=>by have:=I.base.tbls b ps q;rw [qad (qaj this hn)];exact this⟩
  loc:=I.loc
  cell:=I.cell
  free:=by rw [qad hl];exact I.free
  freeC x c h:=by rw [qad (hc x c h)];exact I.freeC x c h
  pin p h:=by
    obtain ⟨a1,a2,a3⟩:=I.pin p h
    exact ⟨a1,by rw [qad (hp p h)];exact a2,a3⟩
  hok:=I.hok.know hn new
  len:=I.len
theorem qiP {h:Heap} {a:Addr} {m m':Str→Option Value} (x:h.Ns a m) (y:h.Ns a m') (n:Str):m n=m' n:=by
  obtain ⟨o,es,ep,ho,hd,_,hm⟩:=x
  obtain ⟨o',es',ep',ho',hd',_,hm'⟩:=y
  rw [ho] at ho'
  cases ho'
  rw [hd] at hd'
  cases hd'
  rw [← hm n,← hm' n]
theorem Inv.unname {i:Nat} {n:Str} {h':Heap} {m:Str→Option Value} {v:Option Value} {t':Nat} (I:Inv X pins σ H s) (hN:X.N.Nodup) (hi:X.N[i]?=some n) (hm:s.heap.Ns X.env.locals m) (hn:h'.Ns X.env.locals (fun x=>if x=n then v else m x)) (hs:Heap.SameBut X.env.locals s.heap h'):Inv X pins (σ.set i none) H { s with heap:=h',toks:=t' }:=by
  have old:X.s₀.heap.get? X.env.locals=none:=Heap.get?_none_of_le I.ok.above
  have kp:∀ b,b≠X.env.locals→h'.get? b=s.heap.get? b:=fun b hb=>hs.2 b hb
  obtain ⟨m0,hm0,hl⟩:=I.loc
  refine ⟨I.ok,I.os,I.bare,⟨fun b o q n1 n2 n3=>?_,fun b o q n1 n2 n3=>?_,I.base.free,fun b o q n3=>?_,I.base.tups,I.base.frzs,I.base.tbls⟩,⟨_,hn,fun j x w hj hw hv=>?_⟩,fun x c h=>?_,I.free,I.freeC,fun p hp=>?_,I.hok.keptT fun b u w hb q=>?_,by rw [List.length_set];exact I.len⟩
  · rw [kp b (fun z=>by rw [z,old] at q;cases q)];exact I.base.keep b o q n1 n2 n3
  · obtain ⟨sl,z⟩:=I.base.slot b o q n1 n2 n3
    exact ⟨sl,(kp b (fun z=>by rw [z,old] at q;cases q)).trans z⟩
  · obtain ⟨o',z⟩:=I.base.there b o q n3
    exact ⟨o',(kp b (fun z=>by rw [z,old] at q;cases q)).trans z⟩
  · have hji:j≠i:=fun z=>by
      rw [z] at hw
      simp [List.getElem?_set] at hw
    rw [List.getElem?_set_ne (Ne.symm hji)] at hw
    obtain ⟨u,ru,lk⟩:=hl j x w hj hw hv
    have hxn:x≠n:=fun z=>hji ((List.getElem?_inj (qam hj) hN).mp (by rw [hj,hi,z]))
    refine ⟨u,ru,?_⟩
    rcases lk with ⟨k1,k2⟩ | ⟨k1,c,k2,k3⟩
    · refine .inl ⟨k1,?_⟩
      show (if x=n then v else m x)=some u
      rw [if_neg hxn,qiP hm hm0 x]
      exact k2
    · refine .inr ⟨k1,c,k2,?_⟩
      obtain ⟨o,ho,hd⟩:=k3
      exact ⟨o,(kp c (I.cne x c k2)).trans ho,hd⟩
  · obtain ⟨w,o,ho,hd⟩:=I.cell x c h
    exact ⟨w,o,(kp c (I.cne x c h)).trans ho,hd⟩
  · obtain ⟨a1,a2,a3,a4⟩:=I.pin p hp
    exact ⟨(kp p.1 a3).trans a1,a2,a3,a4⟩
  · exact (kp b (fun z=>by rw [z,I.free] at hb;cases hb)).trans q
theorem qdy (ok:X.Ok) {b:Addr} (h:b∈frs X.stack):b∈X.fs∨b=X.env.locals:=by
  rcases ok.stk with e | ⟨e,hf⟩
  · rw [e] at h;exact .inl h
  · rw [e] at h
    obtain ⟨env,he,hb⟩:=List.mem_filterMap.mp h
    rcases List.mem_cons.mp he with rfl | he
    · rw [hf] at hb;exact .inr (Option.some.inj hb).symm
    · exact .inl (List.mem_filterMap.mpr ⟨env,he,hb⟩)
theorem Inv.passed {ea:Addr} {T:Option Addr} {h':Heap} (I:Inv X pins σ H s) (k:Kept (frs X.stack) ea T s.heap h') (he:X.s₀.heap.get? ea=none∧H ea=none∧∀ p∈X.pn++pins,p.1≠ea) (hT:∀ T',T=some T'→X.s₀.heap.get? T'=none∧H T'=none∧∀ p∈X.pn++pins,p.1≠T')
    (de:∃ o vs,s.heap.get? ea=some o∧o.data=.fields vs) (dT:∀ T',T=some T'→∃ o vs,s.heap.get? T'=some o∧o.data=.fields vs):Inv X pins σ H { s with heap:=h' }:=by
  have old:X.s₀.heap.get? X.env.locals=none:=Heap.get?_none_of_le I.ok.above
  have kd:∀ b o,s.heap.get? b=some o→(∀ vs,o.data≠.fields vs)→∃ sl,h'.get? b=some { o with slots:=sl }:=fun b o hb hn=>by
    have b1:b≠ea:=fun z=>by
      obtain ⟨o',vs,h1,h2⟩:=de
      rw [z,h1] at hb;cases hb;exact hn vs h2
    have b2:some b≠T:=fun z=>by
      obtain ⟨o',vs,h1,h2⟩:=dT b z.symm
      rw [h1] at hb;cases hb;exact hn vs h2
    by_cases c:b∈frs X.stack
    · exact k.slot b o hb c
    · exact ⟨o.slots,k.keep b o hb b1 b2 c⟩
  have k0:∀ b o,s.heap.get? b=some o→X.s₀.heap.get? b≠none→b≠ea∧some b≠T:=fun b o hb h0=>⟨fun z=>h0 (by rw [z];exact he.1),fun z=>h0 (hT b z.symm).1⟩
  obtain ⟨m,hm,hl⟩:=I.loc
  have hm':h'.Ns X.env.locals m:=by
    obtain ⟨o,es,ep,ho,hd,hk,hmm⟩:=hm
    obtain ⟨sl,z⟩:=kd _ o ho (fun vs q=>by rw [hd] at q;cases q)
    exact ⟨_,es,ep,z,hd,hk,hmm⟩
  have cl:∀ c v,s.heap.IsCell c v→h'.IsCell c v:=fun c v hc=>by
    obtain ⟨o,ho,hd⟩:=hc
    obtain ⟨sl,z⟩:=kd _ o ho (fun vs q=>by rw [hd] at q;cases q)
    exact ⟨_,z,hd⟩
  refine ⟨I.ok,I.os,I.bare,⟨fun b o q n1 n2 n3=>?_,fun b o q n1 n2 n3=>?_,I.base.free,fun b o q n3=>?_,I.base.tups,I.base.frzs,I.base.tbls⟩,⟨m,hm',fun j x w hj hw hv=>?_⟩,fun x c h=>?_,I.free,I.freeC,fun p hp=>?_,I.hok.keptT fun b u w hb q=>?_,I.len⟩
  · have z:=I.base.keep b o q n1 n2 n3
    obtain ⟨b1,b2⟩:=k0 b o z (by rw [q];simp)
    refine k.keep b o z b1 b2 fun c=>?_
    rcases qdy I.ok c with c | c
    · exact n2 c
    · rw [c,old] at q;cases q
  · obtain ⟨sl,z⟩:=I.base.slot b o q n1 n2 n3
    obtain ⟨b1,b2⟩:=k0 b _ z (by rw [q];simp)
    by_cases c:b∈frs X.stack
    · obtain ⟨sl2,z2⟩:=k.slot b _ z c
      exact ⟨sl2,z2⟩
    · exact ⟨sl,k.keep b _ z b1 b2 c⟩
  · obtain ⟨o',z⟩:=I.base.there b o q n3
    obtain ⟨b1,b2⟩:=k0 b _ z (by rw [q];simp)
    by_cases c:b∈frs X.stack
    · obtain ⟨sl2,z2⟩:=k.slot b _ z c
      exact ⟨_,z2⟩
    · exact ⟨o',k.keep b _ z b1 b2 c⟩
  · obtain ⟨u,ru,lk⟩:=hl j x w hj hw hv
    refine ⟨u,ru,?_⟩
    rcases lk with ⟨k1,k2⟩ | ⟨k1,c,k2,k3⟩
    · exact .inl ⟨k1,k2⟩
    · exact .inr ⟨k1,c,k2,cl c _ k3⟩
  · obtain ⟨w,hw⟩:=I.cell x c h
    exact ⟨w,cl c w hw⟩
  · obtain ⟨a1,a2,a3,a4⟩:=I.pin p hp
    refine ⟨k.keep p.1 p.2 a1 (he.2.2 p hp) (fun z=>(hT p.1 z.symm).2.2 p hp rfl) fun c=>?_,a2,a3,a4⟩
    rcases qdy I.ok c with c | c
    · exact a4.1 c
    · exact a3 c
  · refine k.keep b u q (fun z=>by rw [z,he.2.1] at hb;cases hb) (fun z=>by rw [(hT b z.symm).2.1] at hb;cases hb) fun c=>?_
    rw [I.stkFree b c] at hb;cases hb
theorem qfQ {M:Model} {A:Around} {E:Value→Shared→Prop} {Q:Unit→Shared→Prop} {i:Nat} {n:Str} {pos:Pos} (I:Inv X pins σ H s) (hN:X.N.Nodup) (hi:X.N[i]?=some n) (hx:X.env.scope.names.lookup n=some .local) (hf:X.fn n=true∨X.env.scope.names.lookup n=some .local)
    (k:∀ s',Inv X pins (σ.set i none) H s'→Q () s'):wpAny M A (do bindName X.env n .none;unbindBehindTheSuite X.env n pos) Q E s:=by
  have hp:(X.env.scope.kind == .class || (X.env.scope.kind == .module && X.env.locals != X.env.globals))=false:=by rw [I.ok.kind];rfl
  have hk:X.env.kindOf n=some .local:=hx
  have hil:i<σ.length:=by rw [I.len];exact qam hi
  refine wpAny_bind (wpAny_bindName (qc4 I hN hi (.inl hx) (v:=.non) rfl (fun s1 I1=>?_) hf))
  obtain ⟨m,hm,hl⟩:=id I1.loc
  obtain ⟨u,ru,lk⟩:=hl i n .non hi (by rw [List.getElem?_set];simp [hil]) (.inl hx)
  have hmn:(m n).isSome=true:=by
    rcases lk with ⟨_,h2⟩ | ⟨h1,_⟩
    · rw [h2];rfl
    · rcases h1 with h1 | h1 <;> (rw [hk] at h1;cases h1)
  unfold unbindBehindTheSuite
  refine wpAny_onRaise ?_
  unfold unbindName
  refine wpAny_bind (wpAny_point (wpAny_bind ?_))
  unfold deleteName
  simp only [hk,hp]
  rw [if_neg (by decide)]
  refine wpAny_bind (wpAny_nsDel_keeps hm fun h2 v hn2 hs2=>?_)
  rw [hmn]
  simp only [if_true,Bool.not_true,Bool.false_eq_true,if_false]
  refine wpAny_pure (wpAny_point ?_)
  have I2:=I1.unname (t':=s1.toks) hN hi hm hn2 hs2
  rw [List.set_set] at I2
  exact k _ I2
end
section
variable {M : Model} {A : Around} {E : Value → Shared → Prop} {s : Shared}
def qeW (h:Heap) (C:Addr):List Value:=match h.get? C with | some o=>(match o.data with | .cls cd=>cd.mro | _=>[]) | none=>[]
theorem qfs {e C D:Addr} {oe:Obj} {i i':Option Value} {Q:Bool→Shared→Prop} (hC:ExcAt s.heap C i) (hD:ExcAt s.heap D i') (he:s.heap.get? e=some oe) (hcls:oe.cls=.ref C) (hq:Q ((qeW s.heap C).contains (.ref D)) s):wpAny M A (excMatches (.ref e) (.ref D)) Q E s:=by
  obtain ⟨hp,g,d,tk,os⟩:=s
  obtain ⟨nm,q,N,bs,bm,sn,sub,ab,col,dd,k0,k1,k2,k3,k5,mN,c1,c2,c3,c4,c5⟩:=hC.ex
  obtain ⟨nm',q',N',bs',bm',sn',sub',ab',col',dd',k0',k1',k2',k3',k5',mN',d1,d2,d3,d4,d5⟩:=hD.ex
  have hm:qeW hp C=.ref C::bm:=by unfold qeW;rw [show hp.get? C=_ from c1]
  have hq:Q ((Value.ref C::bm).contains (.ref D)) ⟨hp,g,d,tk,os⟩:=by rw [← hm];exact hq
  have hcB:(Value.ref D::bm').contains (.type "BaseException")=true:=by rw [List.contains_cons,d5.tail.hasType (X:="BaseException") (b:=true) (by decide +kernel),Bool.or_true]
  have f:=tc_notTuple
  unfold excMatches
  repeat (first | (with_reducible refine wpAny_loadPart_at he ?_;rw [hcls]) | with_reducible refine wpAny_loadPart_at d1 ?_ | (with_reducible refine wpAny_isSubtype_exc d1 ?_;rw [hcB]) | (with_reducible refine wpAny_isSubtype_exc c1 ?_) | wp_step)
  cases hb:(Value.ref C::bm).contains (.ref D) <;> (rw [hb] at hq;wp_walk;exact hq)
end
structure Exs (K:PySem.W.Frag) (mg:Str→Option Value) (isa:Str→Str→Bool) (names:List Str):Prop where
  cls:∀ nm∈names,∀ C,mg nm=some (.ref C)→∀ h:Heap,K.In h→∃ i,ExcAt h C i
  sub:∀ nm∈names,∀ c∈names,∀ C D,mg nm=some (.ref C)→mg c=some (.ref D)→∀ h:Heap,K.In h→(qeW h C).contains (.ref D)=isa nm c
  inK:∀ nm∈names,∀ C,mg nm=some (.ref C)→PySem.W.nsIn K mainGlobals nm=some (some (.ref C))
structure PHM (K:PySem.W.Frag) (X:Cx) (hs:List ExceptHandler) (th:XD→EndsM→qaL→Prop):Prop where
  ph:X.K=K→∀ (pins:List (Addr × Obj)) (s:Shared) (σ:St) (H:Hp) (D:Ends) (ea T C:Addr) (dx:Option Addr) (xd:XD) (Φ0 H0 Φ:Hp) (ρ:qaL) (De:EndsM),Inv X pins σ H s→Fly s.heap ea (some T) .none (.ref C) dx→X.mg xd.nm=some (.ref C)→XAt X.K H xd.at_ dx →
    (X.s₀.heap.get? ea=none∧H ea=none∧∀ p∈X.pn++pins,p.1≠ea)→(X.s₀.heap.get? T=none∧H T=none∧∀ p∈X.pn++pins,p.1≠T)→Gr Φ0 H0 Φ H→EnvM K H0 Φ H σ ρ→th xd De ρ→EndOkM K X Φ0 H0 De D→wpAny (model X.prog X.w) X.A (handleBy (.ref ea) X.env hs) (SP X pins D) X.xe s
theorem EnvM.unset {K:PySem.W.Frag} {H0 Φ H:Hp} {σ:St} {ρ:qaL} (E:EnvM K H0 Φ H σ ρ) (i:Nat):EnvM K H0 Φ H (σ.set i none) (ρ.set i none):=by
  have hl:=E.len
  refine E.re id (by rw [List.length_set,List.length_set,hl]) (fun j x h=>?_) (fun j k a a' o o' _ _ h=>h)
  have hji:j≠i:=fun z=>by
    rw [z] at h
    simp [List.getElem?_set] at h
  rw [List.getElem?_set_ne (Ne.symm hji)] at h
  exact ⟨h,List.getElem?_set_ne (Ne.symm hji)⟩
theorem qdo {h h':Heap} {fs:List Addr} {ea T:Addr} (k:∀ b o,h.get? b=some o→b≠T→h'.get? b=some o) (hT:∃ o vs,h.get? T=some o∧o.data=.fields vs) (hf:∀ b∈fs,∀ o,h.get? b=some o→∀ vs,o.data≠.fields vs):Kept fs ea (some T) h h' where
  keep b o hb _ b2 _:=k b o hb fun z=>b2 (by rw [z])
  slot b o hb c:=⟨o.slots,k b o hb fun z=>by
    obtain ⟨o',vs,h1,h2⟩:=hT
    rw [z,h1] at hb
    cases hb
    exact hf T (z ▸ c) _ h1 vs h2⟩
theorem Fly.note {h:Heap} {e T:Addr} {fl cls:Value} {dx:Option Addr} (F:Fly h e (some T) fl cls dx):∃ o vs,h.get? T=some o∧o.data=.fields vs:=by
  obtain ⟨oe,vs,_,_,_,_,_,_,oT,ts,h1,h2,_⟩:=F.ex
  exact ⟨oT,ts,h1,h2⟩
theorem Fly.obj {h:Heap} {e:Addr} {T:Option Addr} {fl cls:Value} {dx:Option Addr} (F:Fly h e T fl cls dx):∃ o vs,h.get? e=some o∧o.data=.fields vs:=by
  obtain ⟨oe,vs,h1,h2,_⟩:=F.ex
  exact ⟨oe,vs,h1,h2⟩
section
variable {K : PySem.W.Frag} {X : Cx} {isa : Str → Str → Bool} {names : List Str}
theorem qcn {pins:List (Addr × Obj)} {σ:St} {H:Hp} {s:Shared} (I:Inv X pins σ H s):∀ b∈frs X.stack,∀ o,s.heap.get? b=some o→∀ vs,o.data≠.fields vs:=fun b hb o ho=>by
  obtain ⟨_,o',ho',hn⟩:=I.stack.mem hb
  rw [ho] at ho'
  cases ho'
  exact hn
theorem qg6:PHM K X [] (fun _ _ _=>False):=⟨fun _ _ _ _ _ _ _ _ _ _ _ _ _ _ _ _ _ _ _ _ _ _ _ _ h=>h.elim⟩
theorem qhG {rest:List ExceptHandler} {th:XD→EndsM→qaL→Prop} {c n:Str} {Da:Addr} {np hpos:Pos} {b₀:Stmt} {suite:List Stmt} {tu:TSM} (i:Nat) (Ex:Exs X.K X.mg isa names) (hc:c∈names) (hg:Gl X c) (hm:X.mg c=some (.ref Da)) (hN:X.N.Nodup) (hs:∀ pn e,PSsM K (X.held pn e) (b₀::suite) tu) (hr:PHM K X rest th)
    (hi:X.N[i]?=some n:=by rfl) (hloc:X.env.scope.names.lookup n=some .local:=by rfl) (hfn:X.fn n=true∨X.env.scope.names.lookup n=some .local:=by first | exact .inl rfl | exact .inr rfl) (hdb:(c == ("__debug__":Str))=false:=by decide) :
    PHM K X (.ExceptHandler (some (.Name c np)) (some n) (b₀::suite) hpos::rest) (fun xd De ρ=>xd.nm∈names∧(isa xd.nm c=true→tu { nx:=fun ρ'=>De.nx (ρ'.set i none),rt:=De.rt,bk:=fun ρ'=>De.bk (ρ'.set i none),ct:=fun ρ'=>De.ct (ρ'.set i none) } (ρ.set i (some (.v (.exc xd.nm xd.at_.toList)))))∧(isa xd.nm c=false→th xd De ρ)) :=
  ⟨fun hK pins s σ H D ea T C dx xd Φ0 H0 Φ ρ De I F hnm hat fe fT g V t k=>by
    obtain ⟨hin,t1,t2⟩:=t
    obtain ⟨oe,he,hcl,hdx,vs,hvs⟩:=F.live
    obtain ⟨iC,kC⟩:=Ex.cls xd.nm hin C hnm s.heap I.kIn
    obtain ⟨iD,kD⟩:=Ex.cls c hc Da hm s.heap I.kIn
    have hsub:=Ex.sub xd.nm hin c hc C Da hnm hm s.heap I.kIn
    refine wpAny_handleBy_cons (codeAny_handlers_test (qbb (X:=X.held (X.pn++pins) (.ref ea)) (I.held (.ref ea)) hg hm ?_ hdb)) (by intro q;cases q)
    refine qfs kC kD he hcl ?_
    rw [hsub]
    cases hb:isa xd.nm c with
    | false=>exact hr.ph hK pins s σ H D ea T C dx xd Φ0 H0 Φ ρ De I F hnm hat fe fT g V (t2 hb) k
    | true =>
      refine codeAny_handlers_suite_as (qe3 F fun h1 F1 k1 n1=>?_)
      have I1:Inv X pins σ H { s with heap:=h1 }:=I.passed (qdo k1 F.note (qcn I)) fe (fun T' z=>by cases z;exact fT) F.obj (fun T' z=>by cases z;exact F.note)
      refine qci I1 hN hi (.inl hloc) (v:=.ref ea) rfl (fun s2 I2 hs2=>?_) hfn
      obtain ⟨oe2,ve2,he2,hd2,hc2,hx2,_⟩:=F1.ex
      have hel:ea≠X.env.locals:=fun z=>by
        obtain ⟨m,⟨o',es,ep,ho',hd',_⟩,_⟩:=I1.loc
        rw [z,show h1.get? X.env.locals=_ from ho'] at he2
        cases he2
        rw [hd'] at hd2;cases hd2
      have hec:∀ x c,X.env.cells.lookup x=some c→c≠ea:=fun x c h z=>by
        obtain ⟨v,o',ho',hd'⟩:=I1.cell x c h
        rw [z,show h1.get? ea=_ from he2] at ho'
        cases ho'
        rw [hd'] at hd2;cases hd2
      have he3:s2.heap.get? ea=some oe2:=by
        obtain ⟨a,sb,ha⟩:=hs2
        refine (sb.2 ea ?_).trans he2
        rcases ha with rfl | ha
        · exact hel
        · exact fun z=>hec _ _ ha z.symm
      have new:ObjOk X.prog X.w (upd H ea (.ext (qcA ea C dx))) s2.heap ea (.ext (qcA ea C dx)):=⟨⟨oe2,ve2,he3,hc2,hx2,hd2⟩,⟨oe2,he3⟩,fun a b ⟨o,w,z1,z2⟩ kk=>⟨o,w,kk o z1,z2⟩⟩
      have I3:=I2.knowX fe.1 fe.2.1 fe.2.2 (Ne.symm hel) hec new
      have hno:H0 ea=none:=by
        cases q:H0 ea with
        | none=>rfl
        | some u=>have:=g.h _ _ q;rw [fe.2.1] at this;cases this
      have hΦe:Φ ea=none:=by
        cases q:Φ ea with
        | none=>rfl
        | some u=>have:=g.s _ _ q;rw [fe.2.1] at this;cases this
      obtain ⟨Φ2,g2,r2⟩:∃ Φ2,Gr Φ H Φ2 (upd H ea (.ext (qcA ea C dx)))∧Rp K Φ2 (.exc xd.nm xd.at_.toList) (.ref ea):=by
        have g1:Gr Φ H (upd Φ ea (.ext (qcA ea C dx))) (upd H ea (.ext (qcA ea C dx))):=(Gr.fresh g.s fe.2.1 _).freeze fe.2.1 hΦe qae
        cases ha:xd.at_ with
        | none =>
          rw [ha] at hat
          have hat:dx=none:=hat
          subst hat
          exact ⟨_,g1,.exc0 (hK ▸ Ex.inK xd.nm hin C hnm) qae⟩
        | some d =>
          rw [ha] at hat
          obtain ⟨p,v,rfl,hp,rv⟩:=hat
          have hpe:p≠ea:=fun z=>by rw [z,fe.2.1] at hp;cases hp
          have hp':upd H ea (.ext (qcA ea C (some p))) p=some (.xd [("at",v)]):=by rw [qad hpe];exact hp
          have rv':∀ Ψ:Hp,Rp K Ψ d v:=fun Ψ=>(hK ▸ rv:Rp K (fun _=>none) d v).same fun b u z=>(by cases z)
          cases q:(upd Φ ea (.ext (qcA ea C (some p)))) p with
          | some u =>
            have:=g1.s _ _ q
            rw [hp'] at this
            cases this
            exact ⟨_,g1,.exc1 (hK ▸ Ex.inK xd.nm hin C hnm) qae q (rv' _)⟩
          | none =>
            refine ⟨upd (upd Φ ea (.ext (qcA ea C (some p)))) p (.xd [("at",v)]),⟨g1.f.trans (qaq q _),g1.h,fun b u z=>?_,fun b u z1 z2 z3=>?_⟩,.exc1 (hK ▸ Ex.inK xd.nm hin C hnm) (by rw [qad (Ne.symm hpe)];exact qae) qae (rv' _)⟩
            · by_cases cb:b=p
              · rw [cb,qae] at z;cases z;rw [cb];exact hp'
              · rw [qad cb] at z;exact g1.s b u z
            · by_cases cb:b=p
              · rw [cb,hp] at z1;cases z1;exact z3.elim
              · rw [qad cb];exact g1.o b u z1 z2 z3
      have V2:=((V.gr g2).snocV r2).store i
      have run:=(hs (X.pn++pins) (.ref ea)).ps hK [] s2 _ _ { nx:=fun σ' H'=>D.nx (σ'.set i none) H',rt:=D.rt,bk:=fun σ' H'=>D.bk (σ'.set i none) H',ct:=fun σ' H'=>D.ct (σ'.set i none) H' } (I3.held (.ref ea))
        ⟨Φ0,H0,Φ2,_,_,g.trans g2,V2,t1 hb,⟨fun ρ' Φ' H' σ' r g' V'=>k.nx _ Φ' H' _ r g' (V'.unset i),k.rt,fun ρ' Φ' H' σ' r g' V'=>k.bk _ Φ' H' _ r g' (V'.unset i),fun ρ' Φ' H' σ' r g' V'=>k.ct _ Φ' H' _ r g' (V'.unset i),fun _ _ _ _ _ _ _ _ h=>h.elim⟩⟩
      refine wpAny_mono run (fun f s3 hf=>?_) fun _ _ h=>h.elim
      have go:∀ {σ':St} {H':Hp},Inv (X.held (X.pn++pins) (.ref ea)) [] σ' H' s3→(∀ s',Inv X pins (σ'.set i none) H' s'→SP X pins D f s')→wpAny (model X.prog X.w) X.A (do bindName X.env n .none;unbindBehindTheSuite X.env n hpos) (fun _ s'=>SP X pins D f s') X.xe s3:=fun {σ' H'} J kk=>qfQ (Inv.unheld I.ok J) hN hi hloc hfn kk
      cases f with
      | next=>obtain ⟨σ',H',J,q⟩:=hf;exact go J fun s' J'=>⟨_,H',J',q⟩
      | brk=>obtain ⟨σ',H',J,q⟩:=hf;exact go J fun s' J'=>⟨_,H',J',q⟩
      | cont=>obtain ⟨σ',H',J,q⟩:=hf;exact go J fun s' J'=>⟨_,H',J',q⟩
      | ret u=>obtain ⟨v,σ',H',J,rv,q⟩:=hf;exact go J fun s' J'=>⟨v,_,H',J',rv,q⟩⟩
theorem qiH {body:List Stmt} {h₀:ExceptHandler} {hs:List ExceptHandler} {pos:Pos} {tb:TSM} {th:XD→EndsM→qaL→Prop} (hb:∀ pn xe,PSsM K (X.tried pn xe) body tb) (hh:PHM K X (h₀::hs) th) (hstk:X.stack=X.env::X.outer) (hfr:X.env.frame=some X.env.locals) :
    PSM K X (.Try body (h₀::hs) [] [] pos) (fun De ρ=>tb { De with ex:=fun xd ρ1=>th xd De ρ1 } ρ):=⟨fun hK=>by
  intro pins s σ H D I hq0
  obtain ⟨Φ0,H0,Φ,ρ,De,g,V,t,k⟩:=hq0
  refine wpAny_Try_except ?_
  refine wpAny_mono ((hb (X.pn++pins) (fun e s₁=>wpAny (model X.prog X.w) X.A (noteFrame e X.env) (fun _ s₂=>wpAny (model X.prog X.w) X.A (setFlight e none) (fun _ s₃=>wpAny (model X.prog X.w) X.A (handleBy e X.env (h₀::hs)) (SP X pins D) X.xe s₃) X.xe s₂) X.xe s₁)).ps hK [] s σ H D (I.tried _)
    ⟨Φ0,H0,Φ,ρ,_,g,V,t,⟨k.nx,k.rt,k.bk,k.ct,fun xd ρ' Φ' H' σ' e s' pins' hth g' V' st=>?_⟩⟩) (fun f s1 hf=>?_) fun _ _ h=>h
  · obtain ⟨ea,C,T,dx,e1,F,hnm,hat,fe,fT⟩:=st.ex
    subst e1
    have Iu:Inv X pins σ' H' s':=Inv.untried I.ok st.inv
    have fe':X.s₀.heap.get? ea=none∧H' ea=none∧∀ p∈X.pn++pins,p.1≠ea:=⟨fe.1,fe.2.1,fun p hp=>fe.2.2 p (List.mem_append_left _ hp)⟩
    have fT':∀ T',T=some T'→X.s₀.heap.get? T'=none∧H' T'=none∧∀ p∈X.pn++pins,p.1≠T':=fun T' z=>⟨(fT T' z).1,(fT T' z).2.1,fun p hp=>(fT T' z).2.2 p (List.mem_append_left _ hp)⟩
    have hst:=Iu.stack
    have hfs:=Iu.ok.frames
    rw [hstk] at hst hfs
    refine qg1 (base:=X.base) hfs hst hfr F fun h1 T1 F1 n1 k1=>?_
    rw [← hstk] at k1
    have I1:Inv X pins σ' H' { s' with heap:=h1 }:=Iu.passed k1 fe' fT' F.obj (fun T' z=>by subst z;exact F.note)
    have fT1:X.s₀.heap.get? T1=none∧H' T1=none∧∀ p∈X.pn++pins,p.1≠T1:=⟨Heap.get?_none_of_le (Nat.le_trans Iu.sz n1),Iu.hok.fresh n1,fun p hp z=>absurd (Heap.lt_size (Iu.pin p hp).1) (by rw [z];exact Nat.not_lt.mpr n1)⟩
    refine qe3 (s:={ s' with heap:=h1 }) F1 fun h2 F2 k2 n2=>?_
    have I2:Inv X pins σ' H' { s' with heap:=h2 }:=I1.passed (qdo k2 F1.note (qcn I1)) fe' (fun T' z=>by cases z;exact fT1) F1.obj (fun T' z=>by cases z;exact F1.note)
    exact hh.ph hK pins _ σ' H' D ea T1 C dx xd Φ0 H0 Φ' ρ' De I2 F2 hnm hat fe' fT1 g' V' hth k
  · cases f with
    | next=>obtain ⟨σ',H',J,q⟩:=hf;exact wpAny_execs_nil ⟨σ',H',Inv.untried I.ok J,q⟩
    | brk=>obtain ⟨σ',H',J,q⟩:=hf;exact ⟨σ',H',Inv.untried I.ok J,q⟩
    | cont=>obtain ⟨σ',H',J,q⟩:=hf;exact ⟨σ',H',Inv.untried I.ok J,q⟩
    | ret u=>obtain ⟨v,σ',H',J,rv,q⟩:=hf;exact ⟨v,σ',H',Inv.untried I.ok J,rv,q⟩⟩
end
section
variable {M : Model} {prog : Program} {w : World} {A : Around} {E : Value → Shared → Prop} {h : Heap} {g : Array GenState} {d : Drawn} {t : Nat} {os : OsState} {a : Addr} {o : Obj} {vs : Array Value}
  {nm q:Str} {C N:Addr} {bs bm:List Value} {hdct:Bool} {sn:List Str} {sub:List Value} {ab:Bool} {col:Option Bool} {dd:Option Addr} {k0 k1 k2 k3 k5:Option Value} {newId:String} {mN:Str→Option Value} {name:Str}
theorem qew {y:Option Value} {Q:Option Value→Shared→Prop} (hm:name∈excNames) (T:TailN h bm) (hr:lookupAlong bmV name=pure y) (hq:Q y ⟨h,g,d,t,os⟩):wpAny M A (lookupAlong bm name) Q E ⟨h,g,d,t,os⟩:=by
  induction T with
  | base=>rw [hr];exact wpAny_pure hq
  | own hA hN hn _ ih =>
    rw [lookupAlong_cons]
    refine wpAny_bind (wpAny_classOwn_cls hA hN ?_)
    rw [hn name hm]
    exact ih
theorem qaJ {y:Option Value} {Q:Option Value→Shared→Prop} (hm:name∈excNames) (hC:h.get? C=some (excClassObj nm q C N bs bm hdct sn sub ab col dd k0 k1 k2 k3 k5 newId)) (hn:h.Ns N mN) (hmN:mN name=none) (T:TailN h bm) (hB:typeLookup (.type "ValueError") name=pure y)
    (hq:Q y ⟨h,g,d,t,os⟩):wpAny M A (typeLookup (.ref C) name) Q E ⟨h,g,d,t,os⟩:=by
  have hr:lookupAlong bmV name=pure y:=by rw [typeLookup_eq,PySem.F.excBase_ValueError.mroIs] at hB;exact hB
  rw [typeLookup_eq]
  refine wpAny_bind (wpAny_mroOf_exc hC ?_)
  rw [lookupAlong_cons]
  refine wpAny_bind (wpAny_classOwn_exc hC hn ?_)
  rw [hmN]
  exact qew hm T hr hq
theorem qh3:typeLookup (.type "ValueError") "__class__"=pure (some (.builtin "object.__class__")):=by rw [typeLookup_type,builtinLookup_eq_fast];kernel_rfl
theorem qcZ {R:Result→Shared→Prop} (hC:h.get? C=some (excClassObj nm q C N bs bm hdct sn sub ab col dd k0 k1 k2 k3 k5 newId)) (T:TailN h bm) (hx:h.get? a=some o) (hc:o.cls=.ref C) (hq:R (.ok (.ret (.ref C))) ⟨h,g,d,t,os⟩) :
    codeAny (model prog w) A (.call (.builtin "getset_descriptor.__get__") ⟨[.builtin "object.__class__",.ref a,.ref C],[]⟩) R ⟨h,g,d,t,os⟩:=by
  have hT5:(⟨h,g,d,t,os⟩:Shared).TypeIs (.builtin "object.__class__") "getset_descriptor":=F.typeOf_object_class
  have hcB:(Value.ref C::bm).contains (.type (".".intercalate ("object.__class__".cutAt '.').dropLast))=true:=by
    rw [F.owner_object_class,List.contains_cons,T.tail.hasType (X:="object") (b:=true) (by decide +kernel),Bool.or_true]
  refine codeAny_call_builtin F.slot_gs_get.plain F.entry_gs_get (F.slot_gs_get.check _ _ _ _ _ _ _ _ hT5 (F.args_gs_get _ _ _) ?_)
  repeat (any_goals (first | assumption | (with_reducible refine wpAny_loadPart_at hx ?_;rw [hc]) | (with_reducible refine wpAny_isSubtype_exc hC ?_;rw [hcB]) | wp_step))
  refine ⟨Code.quiet_builtin _ (by decide +kernel),codeAny_builtin F.entry_object_class ?_⟩
  repeat (any_goals (first | assumption | (with_reducible refine wpAny_loadPart_at hx ?_;rw [hc]) | wp_step))
theorem qbU {nameV:Value} {Q:Unit→Shared→Prop} (hC:h.get? C=some (excClassObj nm q C N bs bm hdct sn sub ab col dd k0 k1 k2 k3 k5 newId)) (T:TailN h bm) (hx:h.get? a=some o) (hc:o.cls=.ref C) (hq:Q () ⟨h,g,d,t,os⟩):wpAny M A (checkBuiltinCall "BaseException.__getattribute__" ⟨[.ref a,nameV],[]⟩) Q E ⟨h,g,d,t,os⟩:=by
  have hk:builtinKind "BaseException.__getattribute__"=some .slot:=by decide +kernel
  have hsplit:splitId "BaseException.__getattribute__"=some ("BaseException","__getattribute__"):=by decide +kernel
  have hcB:(Value.ref C::bm).contains (.type "BaseException")=true:=by rw [List.contains_cons,T.tail.hasType (X:="BaseException") (b:=true) (by decide +kernel),Bool.or_true]
  have ha:=F.args_bexc_ga (.ref a) nameV
  simp only [checkBuiltinCall,hk,hsplit]
  refine wpAny_bind ?_
  unfold isInstance
  repeat (first | (with_reducible refine wpAny_loadPart_at hx ?_;rw [hc]) | (with_reducible refine wpAny_isSubtype_exc hC ?_;rw [hcB]) | wp_step)
  exact hq
theorem qcl {tk:Tok} {Q:Fin→Shared→Prop} (hC:h.get? C=some (excClassObj nm q C N bs bm hdct sn sub ab col dd k0 k1 k2 k3 k5 newId)) (hN:h.Ns N mN) (hmN:mN "__class__"=none) (T:TailN h bm) (hx:h.get? a=some o) (hc:o.cls=.ref C) (hq:Q (.done (.ret (.ref C))) ⟨h,g,d,t,os⟩) :
    wpAny (model prog w) A (Builtin.«object.__getattribute__» ⟨[.ref a,.str "__class__" tk],[]⟩) Q E ⟨h,g,d,t,os⟩:=by
  have hT5:(⟨h,g,d,t,os⟩:Shared).TypeIs (.builtin "object.__class__") "getset_descriptor":=F.typeOf_object_class
  have f5:=F.typeOf_object_class
  have f6:=F.slot_gs_get.lookup
  have f7:=F.slot_gs_set.lookup
  have hm:("__class__":Str)∈excNames:=by simp
  repeat (any_goals (first | assumption | (with_reducible refine wpAny_loadPart_at hx ?_;rw [hc]) | with_reducible refine qaJ hm hC hN hmN T qh3 ?_ | wp_step))
  refine qcZ hC T hx hc ?_
  repeat (any_goals (first | assumption | wp_step))
theorem qdH {tk:Tok} {fill expr:Bool} {Q:Value→Shared→Prop} (hC:h.get? C=some (excClassObj nm q C N bs bm hdct sn sub ab col dd k0 k1 k2 k3 k5 newId)) (hN:h.Ns N mN) (hmN:∀ n∈excNames,n≠"__init__"→mN n=none) (T:TailN h bm) (hx:h.get? a=some o) (hc:o.cls=.ref C) (hq:Q (.ref C) ⟨h,g,d,t,os⟩) :
    wpAny (model prog w) A (getAttrBy (.ref a) (.str "__class__" tk) fill expr) Q E ⟨h,g,d,t,os⟩:=by
  have f3:=PySem.F.attrBase_ValueError.ga.bind (.ref a)
  have hx0:(expr && onTheHeap (Value.builtin "BaseException.__getattribute__"))=false:=by cases expr <;> rfl
  have hx2:(Value.builtin "BaseException.__getattribute__" == Value.builtin "object.__getattribute__")=false:=by decide +kernel
  have hx1:(onTheHeap (Value.ref C) && Value.builtin "BaseException.__getattribute__" == Value.builtin "object.__getattribute__")=false:=by rw [hx2];rfl
  have hm1:("__getattribute__":Str)∈excNames:=by simp
  have hm2:("__getattr__":Str)∈excNames:=by simp
  have n1:=hmN "__getattribute__" hm1 (by decide)
  have n2:=hmN "__getattr__" hm2 (by decide)
  have n3:=hmN "__class__" (by simp) (by decide)
  repeat (any_goals (first | assumption | (with_reducible refine wpAny_loadPart_at hx ?_;rw [hc]) | with_reducible refine qaJ hm1 hC hN n1 T PySem.F.attrBase_ValueError.ga.lookup ?_ | with_reducible refine qaJ hm2 hC hN n2 T PySem.F.attrBase_ValueError.noGetattr ?_ | wp_step))
  refine codeAny_call_builtin PySem.F.attrBase_ValueError.ga.plain F.entry_bexc_ga (qbU hC T hx hc (qcl hC hN n3 T hx hc ?_))
  repeat (any_goals (first | assumption | wp_step))
theorem qcr {Q:Option Value→Shared→Prop} (hC:h.get? C=some (excClassObj nm q C N bs bm hdct sn sub ab col dd k0 k1 k2 k3 k5 newId)) (hN:h.Ns N mN) (hmN:∀ n∈excNames,n≠"__init__"→mN n=none) (T:TailN h bm) (hx:h.get? a=some o) (hc:o.cls=.ref C) (hq:Q (some (.ref C)) ⟨h,g,d,t+1,os⟩) :
    wpAny (model prog w) A (getAttr? (.ref a) "__class__") Q E ⟨h,g,d,t,os⟩:=by
  unfold getAttr? getAttrBy?
  repeat (any_goals (first | assumption | with_reducible apply qdH hC hN hmN T hx hc | wp_step))
end
def qkD (a C:Addr) (h:Heap):Prop:=∃ o,h.get? a=some o∧o.cls=.ref C
theorem qf3 {K:PySem.W.Frag} {a C:Addr} (hC:∀ h:Heap,K.In h→∃ i,ExcAt h C i):PySem.W.KitX K (.ref a) (.ref C) (qkD a C) where
  ty:=fun M h _ p=>by
    obtain ⟨o,h1,h2⟩:=p
    exact h2 ▸ (PySem.W.Looks.ld h1).andThen .now
  it:=fun _ h X _=>by
    obtain ⟨i,hc⟩:=hC h X
    obtain ⟨nm,q,N,bs,bm,sn,sub,ab,col,dd,k0,k1,k2,k3,k5,mN,c1,_⟩:=hc.ex
    intro A' Q' E' s' k q
    unfold isType loadHead
    exact wpAny_bind (wpAny_loadPart (k _ _ c1) (wpAny_pure q))
  ne:=fun h tp dd its n sl X htp=>by
    obtain ⟨i,hc⟩:=hC h X
    obtain ⟨nm,q,N,bs,bm,sn,sub,ab,col,dd,k0,k1,k2,k3,k5,mN,c1,_⟩:=hc.ex
    refine Bool.eq_false_iff.mpr fun q=>?_
    have e:C=tp:=Value.ref.inj (beq_iff_eq.mp q)
    rw [e,htp] at c1
    have z:=congrArg Obj.data (Option.some.inj c1)
    cases z
  ca:=fun {prog w A E Q s} X p k=>by
    obtain ⟨o,h1,h2⟩:=p
    obtain ⟨i,hc⟩:=hC _ X
    obtain ⟨nm,q,N,bs,bm,sn,sub,ab,col,dd,k0,k1,k2,k3,k5,mN,c1,c2,c3,c4,c5⟩:=hc.ex
    obtain ⟨hp,g,d,t,os⟩:=s
    exact qcr c1 c2 c4 c5 h1 h2 k
structure Isa (K:PySem.W.Frag) (mg:Str→Option Value) (isa:Str→Str→Bool) (names:List Str):Prop where
  own:∀ nm∈names,∀ c∈names,∀ C D,mg nm=some (.ref C)→mg c=some (.ref D)→PySem.W.kitOne K (.ref C) (.ref D)=some (isa nm c)
  val:∀ nm∈names,∀ C,mg nm=some (.ref C)→PySem.W.kitOne K (.ref C) (.type "ValueError")=some true
  mgK:∀ nm∈names,∀ C,PySem.W.nsIn K mainGlobals nm=some (some (.ref C))→mg nm=some (.ref C)
section
variable {K : PySem.W.Frag} {X : Cx} {a : Expr} {ta : TD} {pos p : Pos} {isa : Str → Str → Bool} {names : List Str}
theorem qik {pins:List (Addr × Obj)} {σ:St} {H Φ:Hp} {s:Shared} {nm:Str} {ats:List D} {v:V} (I:Inv X pins σ H s) (sm:Same Φ H) (r:Rp K Φ (.exc nm ats) v):∃ ea C,v=.ref ea∧PySem.W.nsIn K mainGlobals nm=some (some (.ref C))∧qkD ea C s.heap:=by
  cases r with
  | @exc0 ea C _ h0 h1 =>
    obtain ⟨⟨o,vs,z1,z2,_⟩,_⟩:=(show ObjOk X.prog X.w H s.heap ea (.ext (qcA ea C none)) from I.hok ea _ (sm _ _ h1))
    exact ⟨ea,C,rfl,h0,o,z1,z2⟩
  | @exc1 ea C p _ w d h0 h1 h2 h3 =>
    obtain ⟨⟨o,vs,z1,z2,_⟩,_⟩:=(show ObjOk X.prog X.w H s.heap ea (.ext (qcA ea C (some p))) from I.hok ea _ (sm _ _ h1))
    exact ⟨ea,C,rfl,h0,o,z1,z2⟩
def qkU (K:PySem.W.Frag) (X:Cx):List V→Hp→VK→Prop:=fun vs H Q=>∃ Φ nm ats v c u C b,vs=[v,c]∧Same Φ H∧Rp K Φ (.exc nm ats) v∧RelV c u∧PySem.W.nsIn K mainGlobals nm=some (some (.ref C))∧(∀ h:Heap,X.K.In h→∃ i,ExcAt h C i)∧PySem.W.kitOne X.K (.ref C) u=some b∧Q (.bl b) H
theorem qfj {c:V} {u u':Value} (h:RelV c u) (h':RelV c u') (hc:(∃ D,c=.ref D)∨∃ T,c=.ty T):u=u':=by
  rcases hc with ⟨D,rfl⟩ | ⟨T,rfl⟩
  · cases (show u=Value.ref D from h);cases (show u'=Value.ref D from h');rfl
  · cases (show u=Value.type T from h);cases (show u'=Value.type T from h');rfl
theorem qel:qcb X (.builtin "isinstance") (fun vs H Q=>(∃ v c,vs=[v,c]∧((∃ D,c=.ref D)∨∃ T,c=.ty T))∧qkU K X vs H Q):=by
  intro pins s σ H vs us Q I rv hq0
  obtain ⟨⟨v0,c0,e0,hk⟩,Φ,nm,ats,v,c,u,C,b,rfl,sm,r,ru,hns,hC,hkit,q⟩:=hq0
  cases e0
  obtain ⟨u1,u2,rfl,r1,r2⟩:∃ u1 u2,us=[u1,u2]∧RelV v0 u1∧RelV c0 u2:=by
    cases rv with
    | cons a rv=>cases rv with
      | cons b rv=>cases rv;exact ⟨_,_,rfl,a,b⟩
  obtain ⟨ea,C',rfl,hns',hx⟩:=qik I sm r
  rw [hns] at hns'
  cases hns'
  cases (show u1=Value.ref ea from r1)
  have:=qfj ru r2 hk
  subst this
  exact PySem.W.kia_one (qf3 hC) I.kIn hx hkit (fun z=>nomatch z) fun tk=>⟨.bl b,H,I.tok tk,rfl,q⟩
def qjM (isa:Str→Str→Bool) (names:List Str) (c:Str) (t:TD):TD:=fun ρ R=>t ρ fun d=>∃ nm ats,d=.exc nm ats∧nm∈names∧R (.bl (isa nm c))
theorem qjJ {c:Str} {D:Addr} {np:Pos} (Ex:Exs X.K X.mg isa names) (Is:Isa X.K X.mg isa names) (hc:c∈names) (hgc:Gl X c) (hm:X.mg c=some (.ref D)) (hg:Gl X "isinstance") (hmi:X.mg "isinstance"=none) (ha:PD K X a ta)
    (he:starEach [a,.Name c np] X.env=(false,eval a X.env)::starEach [.Name c np] X.env) (he2:starEach [.Name c np] X.env=(false,eval (.Name c np) X.env)::starEach [] X.env) (hdb:(c == ("__debug__":Str))=false:=by decide):PD K X (.Call (.Name "isinstance" p) [a,.Name c np] [] pos) (qjM isa names c ta) :=
  ⟨fun hK=>(qb2 (qel (K:=K)) hg hmi boot_isinstance (qaM (ha.pe hK) (qaM (qhr (v:=.ref D) hgc hm rfl hdb) pa_nil he2) he) (by decide) (by decide) he (qai he2 qah)).imp fun σ H Q hq0=>by
    obtain ⟨H0,Φ,ρ,R,E,t,k⟩:=hq0
    refine ⟨H0,Φ,ρ,_,E,t,fun d Φ1 H1 v r g rv=>?_⟩
    obtain ⟨nm,ats,rfl,hin,r⟩:=r
    obtain ⟨C,hns⟩:∃ C,PySem.W.nsIn K mainGlobals nm=some (some (.ref C)):=by
      cases rv with
      | exc0 h0 _=>exact ⟨_,h0⟩
      | exc1 h0 _ _ _=>exact ⟨_,h0⟩
    have hmg:=Is.mgK nm hin C (hK ▸ hns)
    exact ⟨⟨v,.ref D,rfl,.inl ⟨D,rfl⟩⟩,Φ1,nm,ats,v,.ref D,.ref D,C,_,rfl,g.s,rv,rfl,hns,fun h hin'=>Ex.cls nm hin C hmg h hin',Is.own nm hin c hc C D hmg hm,k _ Φ1 H1 _ r g (.bl _)⟩⟩
theorem qkc {np:Pos} (Ex:Exs X.K X.mg isa names) (Is:Isa X.K X.mg isa names) (hgv:Gl X "ValueError") (hmv:X.mg "ValueError"=none) (hg:Gl X "isinstance") (hmi:X.mg "isinstance"=none) (ha:PD K X a ta)
    (he:starEach [a,.Name "ValueError" np] X.env=(false,eval a X.env)::starEach [.Name "ValueError" np] X.env) (he2:starEach [.Name "ValueError" np] X.env=(false,eval (.Name "ValueError" np) X.env)::starEach [] X.env):PD K X (.Call (.Name "isinstance" p) [a,.Name "ValueError" np] [] pos) (qjM (fun _ _=>true) names "ValueError" ta) :=
  ⟨fun hK=>(qb2 (qel (K:=K)) hg hmi boot_isinstance (qaM (ha.pe hK) (qaM (qcg (v:=.ty "ValueError") (u:=.type "ValueError") hgv hmv (by kernel_rfl) rfl) pa_nil he2) he) (by decide) (by decide) he (qai he2 qah)).imp fun σ H Q hq0=>by
    obtain ⟨H0,Φ,ρ,R,E,t,k⟩:=hq0
    refine ⟨H0,Φ,ρ,_,E,t,fun d Φ1 H1 v r g rv=>?_⟩
    obtain ⟨nm,ats,rfl,hin,r⟩:=r
    obtain ⟨C,hns⟩:∃ C,PySem.W.nsIn K mainGlobals nm=some (some (.ref C)):=by
      cases rv with
      | exc0 h0 _=>exact ⟨_,h0⟩
      | exc1 h0 _ _ _=>exact ⟨_,h0⟩
    have hmg:=Is.mgK nm hin C (hK ▸ hns)
    exact ⟨⟨v,.ty "ValueError",rfl,.inr ⟨_,rfl⟩⟩,Φ1,nm,ats,v,.ty "ValueError",.type "ValueError",C,_,rfl,g.s,rv,rfl,hns,fun h hin'=>Ex.cls nm hin C hmg h hin',Is.val nm hin C hmg,k _ Φ1 H1 _ r g (.bl _)⟩⟩
end
section
variable {M : Model} {prog : Program} {w : World} {A : Around} {E : Value → Shared → Prop} {h : Heap} {g : Array GenState} {d : Drawn} {t : Nat} {os : OsState} {a p : Addr} {o : Obj} {vs : Array Value} {v : Value}
  {nm q:Str} {C N:Addr} {bs bm:List Value} {sn:List Str} {sub:List Value} {ab:Bool} {col:Option Bool} {dd:Option Addr} {k0 k1 k2 k3 k5:Option Value} {newId:String} {mN mA:Str→Option Value}
theorem qjh:typeLookup (.type "ValueError") "at"=pure none:=by rw [typeLookup_type,builtinLookup_eq_fast];kernel_rfl
theorem qdF {tk:Tok} {Q:Fin→Shared→Prop} (hC:h.get? C=some (excClassObj nm q C N bs bm true sn sub ab col dd k0 k1 k2 k3 k5 newId)) (hN:h.Ns N mN) (hmN:mN "at"=none) (T:TailN h bm) (hx:h.get? a=some o) (hc:o.cls=.ref C) (hd:o.data=.fields vs) (hp:o.dict=some p) (hA:h.Ns p mA) (hv:mA "at"=some v) (hq:Q (.done (.ret v)) ⟨h,g,d,t,os⟩) :
    wpAny (model prog w) A (Builtin.«object.__getattribute__» ⟨[.ref a,.str "at" tk],[]⟩) Q E ⟨h,g,d,t,os⟩:=by
  have hm:("at":Str)∈excNames:=by simp
  unfold Builtin.«object.__getattribute__»
  repeat (first | (with_reducible refine wpAny_loadPart_at hx ?_;rw [hc]) | with_reducible refine qaJ hm hC hN hmN T qjh ?_ | wp_step)
  rw [hd]
  show wpAny _ _ (instanceDict a false) _ _ _
  unfold instanceDict
  repeat (first | (with_reducible refine wpAny_loadPart_at hx ?_;rw [hc]) | with_reducible refine wpAny_loadPart_at hC ?_ | wp_step)
  rw [hp]
  refine wpAny_pure ?_
  unfold Builtin.ObjectAttr.inDict
  repeat (first | (with_reducible refine wpAny_nsGet hA ?_;rw [hv]) | wp_step)
  exact hq
theorem qfG {tk:Tok} {fill expr:Bool} {Q:Value→Shared→Prop} (hC:h.get? C=some (excClassObj nm q C N bs bm true sn sub ab col dd k0 k1 k2 k3 k5 newId)) (hN:h.Ns N mN) (hmN:∀ n∈excNames,n≠"__init__"→mN n=none) (T:TailN h bm) (hx:h.get? a=some o) (hc:o.cls=.ref C) (hd:o.data=.fields vs) (hp:o.dict=some p) (hA:h.Ns p mA) (hv:mA "at"=some v) (hh:handedOut v=pure v) (hq:Q v ⟨h,g,d,t,os⟩) :
    wpAny (model prog w) A (getAttrBy (.ref a) (.str "at" tk) fill expr) Q E ⟨h,g,d,t,os⟩:=by
  have f3:=PySem.F.attrBase_ValueError.ga.bind (.ref a)
  have hx0:(expr && onTheHeap (Value.builtin "BaseException.__getattribute__"))=false:=by cases expr <;> rfl
  have hx2:(Value.builtin "BaseException.__getattribute__" == Value.builtin "object.__getattribute__")=false:=by decide +kernel
  have hx1:(onTheHeap (Value.ref C) && Value.builtin "BaseException.__getattribute__" == Value.builtin "object.__getattribute__")=false:=by rw [hx2];rfl
  have hm1:("__getattribute__":Str)∈excNames:=by simp
  have hm2:("__getattr__":Str)∈excNames:=by simp
  have n1:=hmN "__getattribute__" hm1 (by decide)
  have n2:=hmN "__getattr__" hm2 (by decide)
  have n3:=hmN "at" (by simp) (by decide)
  repeat (any_goals (first | assumption | (with_reducible refine wpAny_loadPart_at hx ?_;rw [hc]) | with_reducible refine qaJ hm1 hC hN n1 T PySem.F.attrBase_ValueError.ga.lookup ?_ | with_reducible refine qaJ hm2 hC hN n2 T PySem.F.attrBase_ValueError.noGetattr ?_ | wp_step))
  refine codeAny_call_builtin PySem.F.attrBase_ValueError.ga.plain F.entry_bexc_ga (qbU hC T hx hc (qdF hC hN n3 T hx hc hd hp hA hv ?_))
  repeat (any_goals (first | assumption | wp_step))
theorem qd2 {expr:Bool} {Q:Value→Shared→Prop} (hC:h.get? C=some (excClassObj nm q C N bs bm true sn sub ab col dd k0 k1 k2 k3 k5 newId)) (hN:h.Ns N mN) (hmN:∀ n∈excNames,n≠"__init__"→mN n=none) (T:TailN h bm) (hx:h.get? a=some o) (hc:o.cls=.ref C) (hd:o.data=.fields vs) (hp:o.dict=some p) (hA:h.Ns p mA) (hv:mA "at"=some v) (hh:handedOut v=pure v) (hq:Q v ⟨h,g,d,t+1,os⟩) :
    wpAny (model prog w) A (getAttr (.ref a) "at" expr) Q E ⟨h,g,d,t,os⟩:=by
  unfold getAttr
  repeat (any_goals (first | assumption | with_reducible apply qfG hC hN hmN T hx hc hd hp hA hv hh | wp_step))
end
section
variable {K : PySem.W.Frag} {X : Cx} {a : Expr} {ta : TD} {pos : Pos} {isa : Str → Str → Bool} {names : List Str}
theorem qeV:handedOut .none=pure .none:=by rfl
theorem qeQ (i:Int) (t:Tok):handedOut (.int i t)=pure (.int i t):=by rfl
def qf0:D→Prop | .non=>True | .int _=>True | _=>False
def qlt (names:List Str) (t:TD):TD:=fun ρ R=>t ρ fun d=>∃ nm x,d=.exc nm [x]∧nm∈names∧qf0 x∧R x
theorem qho (Ex:Exs X.K X.mg isa names) (Is:Isa X.K X.mg isa names) (ha:PD K X a ta) (hb:attributeBase a "at" X.env (eval a X.env)=eval a X.env:=by rfl):PD K X (.Attribute a "at" pos) (qlt names ta) :=
  ⟨fun hK=>by
    intro pins s σ H Q I hq0
    obtain ⟨H0,Φ,ρ,R,E,t,k⟩:=hq0
    refine qhD hb (thn (ha.pe hK pins s σ H _ I ⟨H0,Φ,ρ,_,E,t,fun d Φ1 H1 v r g rv=>(⟨Φ1,d,r,g,rv⟩:∃ Φ1 d,(∃ nm x,d=.exc nm [x]∧nm∈names∧qf0 x∧R x)∧Gr Φ H Φ1 H1∧Rp K Φ1 d v)⟩) fun u s1 hq1=>?_)
    obtain ⟨v,H1,I1,rv,Φ1,d,⟨nm,x,rfl,hin,hfl,hR⟩,g,r⟩:=hq1
    cases r with
    | @exc1 ea C p _ w _ h0 h1 h2 h3 =>
      obtain rfl:u=Value.ref ea:=rv
      have hmg:=Is.mgK nm hin C (hK ▸ h0)
      obtain ⟨i,hc⟩:=Ex.cls nm hin C hmg s1.heap I1.kIn
      obtain ⟨nm',q,N,bs,bm,sn,sub,ab,col,dd,k0,k1,k2,k3,k5,mN,c1,c2,c3,c4,c5⟩:=hc.ex
      obtain ⟨⟨o,vs,z1,z2,z3,z4⟩,_⟩:=(show ObjOk X.prog X.w H1 s1.heap ea (.ext (qcA ea C (some p))) from I1.hok ea _ (g.s _ _ h1))
      obtain ⟨mA,n1,n2⟩:=(show ObjOk X.prog X.w H1 s1.heap p (.xd [("at",w)]) from I1.hok p _ (g.s _ _ h2))
      have hat:=n2 "at"
      have hl:([("at",w)]:List (Str × V)).lookup ("at":Str)=some w:=by rw [List.lookup_cons,beq_self_eq_true]
      rw [hl] at hat
      obtain ⟨u',e1,ru⟩:∃ u',mA "at"=some u'∧RelV w u':=by
        cases q:mA "at" with
        | none=>rw [q] at hat;exact hat.elim
        | some u'=>rw [q] at hat;exact ⟨u',rfl,hat⟩
      have hh:handedOut u'=pure u':=by
        cases h3 with
        | non=>cases (show u'=Value.none from ru);exact qeV
        | int j=>obtain ⟨t',e⟩:=(show ∃ t,u'=Value.int j t from ru);rw [e];exact qeQ j t'
        | _=>exact hfl.elim
      obtain ⟨hp,gg,dr,tk,os⟩:=s1
      exact qd2 c1 c2 c4 c5 z1 z2 z4 z3 n1.ns e1 hh ⟨w,H1,I1.tok _,ru,k x Φ1 H1 w hR g h3⟩⟩
end
open Builtin Builtin.ObjectAttr
section
variable {M : Model} {prog : Program} {w : World} {A : Around} {E : Value → Shared → Prop} {h : Heap} {g : Array GenState} {d : Drawn} {t : Nat} {os : OsState} {x : Addr} {o : Obj} {vs : Array Value} {v : Value}
  {nm q:Str} {C N:Addr} {bs bm:List Value} {sn:List Str} {sub:List Value} {ab:Bool} {col:Option Bool} {dd:Option Addr} {k0 k1 k2 k3 k5:Option Value} {newId:String} {mN:Str→Option Value}
theorem qd8 (self:Value) {h:Heap} {bm:List Value} (T:TailN h bm):refuseLoop self "__setattr__" bm=pure ():=by
  induction T with
  | base=>exact F.store_ValueError.passes self
  | own _ _ _ _ ih=>rw [refuseLoop_ref];exact ih
theorem qdh {nameV:Value} {Q:Unit→Shared→Prop} (hC:h.get? C=some (excClassObj nm q C N bs bm true sn sub ab col dd k0 k1 k2 k3 k5 newId)) (T:TailN h bm) (hx:h.get? x=some o) (hc:o.cls=.ref C) (hq:Q () ⟨h,g,d,t,os⟩) :
    wpAny M A (checkBuiltinCall "object.__setattr__" ⟨[.ref x,nameV,v],[]⟩) Q E ⟨h,g,d,t,os⟩:=by
  have hcB:(Value.ref C::bm).contains (.type "object")=true:=by rw [List.contains_cons,T.tail.hasType (X:="object") (b:=true) (by decide +kernel),Bool.or_true]
  have ha:=F.store_ValueError.args (.ref x) nameV v
  simp only [checkBuiltinCall,F.store_ValueError.kind,F.store_ValueError.split]
  refine wpAny_bind ?_
  · unfold isInstance
    repeat (first | (with_reducible refine wpAny_loadPart_at hx ?_;rw [hc]) | (with_reducible refine wpAny_isSubtype_exc hC ?_;rw [hcB]) | wp_step)
    exact hq
structure Stored (h h':Heap) (x:Addr) (o:Obj) (p:Addr) (v:Value):Prop where
  at_:h'.get? x=some { cls:=o.cls,dict:=some p,data:=o.data,slots:=o.slots }
  ns:h'.Ns1 p (fun y=>if y="at" then some v else none)
  new:h.objs.size≤p
  keep:∀ b ob,b≠x→h.get? b=some ob→h'.get? b=some ob
theorem qca {tk:Tok} {Q:Fin→Shared→Prop} (hC:h.get? C=some (excClassObj nm q C N bs bm true sn sub ab col dd k0 k1 k2 k3 k5 newId)) (hN:h.Ns N mN) (hmN:mN "at"=none) (T:TailN h bm) (hx:h.get? x=some o) (hc:o.cls=.ref C) (hd:o.data=.fields vs) (hp:o.dict=none)
    (hq:∀ h' p tk',Stored h h' x o p v→Q (.done (.ret .none)) ⟨h',g,d,tk',os⟩):wpAny (model prog w) A (Builtin.«object.__setattr__» ⟨[.ref x,.str "at" tk,v],[]⟩) Q E ⟨h,g,d,t,os⟩:=by
  have hpass:=qd8 (.ref x) T
  have hm:("at":Str)∈excNames:=by simp
  unfold Builtin.«object.__setattr__»
  repeat (first | rw [refuse_eq] | (rw [refuseLoop_ref,hpass]) | (with_reducible refine wpAny_loadPart_at hx ?_;rw [hc]) | with_reducible refine wpAny_mroOf_exc hC ?_ | with_reducible refine qaJ hm hC hN hmN T qjh ?_ | wp_step)
  rw [hp]
  show wpAny _ _ (if (!true || !typeHasDict (Value.ref C))=true then pure none else match o.data with | Data.cls c=>pure none | _=>_) _ _ _
  rw [if_neg (by simp [typeHasDict]),hd]
  have hx1:(h.push { cls:=.type "dict",data:=.dict #[] }).get? x=some o:=Heap.get?_push_of_some _ hx
  have hxs:x≠h.objs.size:=Nat.ne_of_lt (Heap.lt_size hx)
  refine wpAny_bind (wpAny_alloc' ?_)
  refine wpAny_bind (wpAny_update' hx1 ?_)
  refine wpAny_pure ?_
  generalize hh2:((h.push { cls:=.type "dict",data:=.dict #[] }).update x fun o=>{ cls:=o.cls,dict:=some h.objs.size,data:=o.data,slots:=o.slots })=h2
  have gd:h2.get? h.objs.size=some { cls:=.type "dict",data:=.dict #[] }:=by
    rw [← hh2]
    exact (Heap.get?_update_ne _ _ _ _ hxs.symm).trans (Heap.get?_push_at rfl rfl)
  have gx:h2.get? x=some { cls:=o.cls,dict:=some h.objs.size,data:=o.data,slots:=o.slots }:=by
    rw [← hh2]
    refine Heap.get?_update_self _ hx1 ?_
    have hfr:=(Heap.get?_some_iff.mp hx).2
    obtain ⟨oc,od,odt,osl⟩:=o
    cases odt <;> first | rfl | exact hfr
  have go:∀ b ob,b≠x→h.get? b=some ob→h2.get? b=some ob:=fun b ob hb hbo=>by
    rw [← hh2]
    exact (Heap.get?_update_ne _ _ _ _ hb).trans (Heap.get?_push_of_some _ hbo)
  have nd:h2.Ns h.objs.size (fun _=>none):=⟨_,#[],_,gd,rfl,fun e he=>absurd he (by simp),fun _=>rfl⟩
  show wpAny _ _ (storeInDict h.objs.size (.str "at" tk) "at" v) _ _ _
  unfold storeInDict newKeyGuard
  refine wpAny_bind (wpAny_pure (wpAny_bind (wpAny_nsSet1 (Heap.Ns1.of_empty nd) fun h' hn' hs=>?_)))
  obtain ⟨oD,esD,epD,hoD,hdD,hcD⟩:=hn'.count (Within.cons "at" v Within.nil)
  refine wpAny_bind (wpAny_lookBehind hoD (by rw [hdD];exact pastItsLine_dict (Nat.le_trans hcD (by rw [List.length_cons,List.length_nil,sizeLine_eq];omega))) ?_)
  wp_walk
  exact hq h' h.objs.size _ ⟨(hs.2 x hxs).trans gx,hn',Nat.le_refl _,fun b ob hb hbo=>(hs.2 b (Nat.ne_of_lt (Heap.lt_size hbo))).trans (go b ob hb hbo)⟩
theorem qfB {Q:Unit→Shared→Prop} (hC:h.get? C=some (excClassObj nm q C N bs bm true sn sub ab col dd k0 k1 k2 k3 k5 newId)) (hN:h.Ns N mN) (hmN:∀ n∈excNames,n≠"__init__"→mN n=none) (T:TailN h bm) (hx:h.get? x=some o) (hc:o.cls=.ref C) (hd:o.data=.fields vs) (hp:o.dict=none)
    (hq:∀ h' p tk',Stored h h' x o p v→Q () ⟨h',g,d,tk',os⟩):wpAny (model prog w) A (setAttr (.ref x) "at" v) Q E ⟨h,g,d,t,os⟩:=by
  have f3:=F.store_ValueError.slot.bind (.ref x)
  have hm:("__setattr__":Str)∈excNames:=by simp
  have n1:=hmN "__setattr__" hm (by decide)
  have n3:=hmN "at" (by simp) (by decide)
  unfold setAttr callSpecial? specialOf
  repeat (any_goals (first | assumption | (with_reducible refine wpAny_loadPart_at hx ?_;rw [hc]) | with_reducible refine qaJ hm hC hN n1 T F.store_ValueError.slot.lookup ?_ | wp_step))
  refine codeAny_call_builtin F.store_ValueError.slot.plain F.store_ValueError.entry (qdh hC T hx hc (qca hC hN n3 T hx hc hd hp fun h' p tk' S=>?_))
  repeat (any_goals (first | assumption | wp_step))
  exact hq h' p tk' S
end
end L2
namespace L2
open PySem PySem.Spec PyProof.Rows
def qdX (a C t:Addr) (dx:Option Addr):Heap→Prop:=fun h=>∃ sl,h.get? a=some { cls:=.ref C,dict:=dx,data:=.fields #[.ref t,.none,.none,.none,.bool false,.none],slots:=sl }
section
variable {X : Cx} {pins : List (Addr × Obj)} {σ : St} {H : Hp} {s : Shared} {C t : Addr}
theorem Inv.stored {e p:Addr} {sl:Array (Option Value)} {v:Value} {y:V} {h':Heap} {t':Nat} (I:Inv X pins σ H s) (he:H e=some (.ext (qdX e C t none))) (S:Stored s.heap h' e { cls:=.ref C,dict:=none,data:=.fields #[.ref t,.none,.none,.none,.bool false,.none],slots:=sl } p v) (ry:RelV y v) :
    Inv X pins σ (upd (upd H p (.xd [("at",y)])) e (.ext (qdX e C t (some p)))) { s with heap:=h',toks:=t' }:=by
  have hpn:H p=none:=I.hok.fresh S.new
  have hpe:p≠e:=fun z=>by rw [z,he] at hpn;cases hpn
  have hsp:∀ b ob,s.heap.get? b=some ob→b≠p:=fun b ob hb z=>by
    subst z
    exact absurd (Heap.lt_size hb) (Nat.not_lt.mpr S.new)
  have ne:∀ {b:Addr},H b=none→b≠e:=fun {b} hb z=>by rw [z,he] at hb;cases hb
  refine I.un (h':=h') (t':=t') ⟨fun b ob q n _ _=>S.keep b ob (ne n) q,fun b ob q n _ _=>⟨ob.slots,S.keep b ob (ne n) q⟩,fun b ob q n _=>?_,fun b ob q _=>?_,fun b xs q=>?_,fun b ob xs q=>?_,fun b xs q=>?_⟩ fun b u q=>?_
  · rw [qad (ne n),qad (hsp b ob q)];exact n
  · by_cases c:b=e
    · rw [c];exact ⟨_,S.at_⟩
    · exact ⟨ob,S.keep b ob c q⟩
  · rw [qad (fun z=>by rw [z,he] at q;cases q),qad (fun z=>by rw [z,hpn] at q;cases q)];exact q
  · rw [qad (fun z=>by rw [z,he] at q;cases q),qad (fun z=>by rw [z,hpn] at q;cases q)];exact q
  · rw [qad (fun z=>by rw [z,he] at q;cases q),qad (fun z=>by rw [z,hpn] at q;cases q)];exact q
  · by_cases c:b=e
    · subst c
      rw [qae] at q
      cases q
      exact ⟨⟨sl,S.at_⟩,⟨_,S.at_⟩,fun a b' ⟨w,z1⟩ kk=>⟨w,kk _ z1⟩⟩
    · rw [qad c] at q
      by_cases c2:b=p
      · subst c2
        rw [qae] at q
        cases q
        refine ⟨_,S.ns,fun f=>?_⟩
        by_cases cf:f="at"
        · subst cf
          rw [List.lookup_cons,beq_self_eq_true]
          show qjD (some y) (if ("at":Str)="at" then some v else none)
          rw [if_pos rfl]
          exact ry
        · have:([("at",y)]:List (Str × V)).lookup f=none:=by
            rw [List.lookup_cons]
            have:(f == ("at":Str))=false:=by simpa using cf
            rw [this]
            rfl
          rw [this]
          show qjD none (if f="at" then some v else none)
          rw [if_neg cf]
          trivial
      · rw [qad c2] at q
        have keepT:∀ z u',H z=some u'→u'≠.ext (qdX e C t none)→z≠e:=fun z u' h1 h2 h3=>by rw [h3,he] at h1;exact h2 (Option.some.inj h1).symm
        refine (I.hok b u q).stay (fun z w' hz q'=>S.keep z w' ?_ q') (fun z hz=>?_) (fun z xs hz=>?_) (fun z ob w' hz=>?_)
        · rcases hz with rfl | hz
          · exact c
          · exact fun z2=>by rw [z2,he] at hz;cases hz
        · rw [qad (fun z2=>by rw [z2,he] at hz;cases hz),qad (fun z2=>by rw [z2,hpn] at hz;cases hz)];exact hz
        · rw [qad (fun z2=>by rw [z2,he] at hz;cases hz),qad (fun z2=>by rw [z2,hpn] at hz;cases hz)];exact hz
        · rw [qad (fun z2=>by rw [z2,he] at hz;cases hz),qad (fun z2=>by rw [z2,hpn] at hz;cases hz)];exact hz
def qgS (C t:Addr):Sp:=fun vs H Q _=>∃ e v,vs=[.ref e,v]∧H e=some (.ext (qdX e C t none))∧∀ p,H p=none→p≠e→Q .non (upd (upd H p (.xd [("at",v)])) e (.ext (qdX e C t (some p))))
def sAt (C t:Addr):TS:=fun D σ H=>∃ e v,σ=[some (.ref e),some v]∧H e=some (.ext (qdX e C t none))∧∀ p,H p=none→p≠e→D.nx σ (upd (upd H p (.xd [("at",v)])) e (.ext (qdX e C t (some p))))
theorem qjU {p1 p2 p3 p4:Pos} {i:Option Value} (hN:X.N=[("self":Str),("at":Str)]) (hC:∀ h:Heap,X.K.In h→ExcAt h C i) (hv1:Vis X.env.scope "self") (hv2:Vis X.env.scope "at") (hs:swapsWith (.Name "at" p3) (some (.Attribute (.Name "self" p1) "at" p2)) p4.line X.env=pure false):PS X (.Assign [.Attribute (.Name "self" p1) "at" p2] (.Name "at" p3) p4) (sAt C t):=by
  intro pins s σ H D I hq0
  obtain ⟨e,v,rfl,he,k⟩:=hq0
  have pat:PE X (.Name "at" p3) (qjB 1):=qfk (by rw [hN];rfl) hv2 (by decide) (by decide)
  have psf:PE X (.Name "self" p1) (qjB 0):=qfk (by rw [hN];rfl) hv1 (by decide) (by decide)
  refine plainObj_wpAny_Assign_Attribute (thn (pat pins s _ H (fun y H1=>y=v∧H1=H) I ⟨v,rfl,rfl,rfl⟩) fun u s1 hq1=>?_) hs
  obtain ⟨y,H1,I1,ry,e1,e2⟩:=hq1
  subst e1;subst e2
  refine thn (psf pins s1 _ H1 (fun x H2=>x=.ref e∧H2=H1) I1 ⟨_,rfl,rfl,rfl⟩) fun ov s2 hq2=>?_
  obtain ⟨x,H2,I2,rx,e3,e4⟩:=hq2
  subst e3;subst e4
  obtain rfl:ov=Value.ref e:=rx
  obtain ⟨nm,q,N,bs,bm,sn,sub,ab,col,dd,k0,k1,k2,k3,k5,mN,c1,c2,c3,c4,c5⟩:=(hC s2.heap I2.kIn).ex
  obtain ⟨⟨sl,z1⟩,_⟩:=(show ObjOk X.prog X.w H2 s2.heap e (.ext (qdX e C t none)) from I2.hok e _ he)
  obtain ⟨hp,gg,dr,tk,os⟩:=s2
  refine qfB c1 c2 c4 c5 z1 rfl rfl rfl fun h' p tk' S=>?_
  have hpn:H2 p=none:=I2.hok.fresh S.new
  exact ⟨_,_,I2.stored (t':=tk') he S ry,k p hpn (fun z=>by rw [z,he] at hpn;cases hpn)⟩
end
section
variable {M : Model} {A : Around} {E : Value → Shared → Prop} {s : Shared} {env : Env} {C : Addr}
end
section
variable {prog : Program} {w : World} {A : Around} {E : Value → Shared → Prop} {h : Heap} {g : Array GenState} {d : Drawn} {t : Nat} {os : OsState}
variable {C fI : Addr} {oI : Obj} {rest : List Value}
theorem qcL {Q:Fin→Shared→Prop} (hC:ExcAt h C (some (.ref fI))) (hfI:h.get? fI=some oI) (hfc:oI.cls=.type "function") (hrest:rest.length≤sizeLine)
    (hq:∀ h' e,Heap.MadeExcOf h h' e (.ref C) rest→wpAny (model prog w) A (call (.ref fI) (.ref e::rest)) (fun r s'=>r=.none∧Q (.done (.ret (.ref e))) s') E ⟨h',g,d,t,os⟩) :
    wpAny (model prog w) A (Builtin.«type.__call__» ⟨.ref C::rest,[]⟩) Q E ⟨h,g,d,t,os⟩:=by
  obtain ⟨nm,q,N,bs,bm,sn,sub,ab,col,dd,k0,k1,k2,k3,k5,mN,c1,c2,c3,c4,c5⟩:=hC.ex
  repeat (first | with_reducible refine wpAny_loadPart_at c1 ?_ | with_reducible refine wpAny_madeBy_exc c1 ?_ | wp_step)
  refine codeAny_call_builtin_code (Code.quiet_builtin _ PySem.F.excBase_ValueError.quiet) (wpAny_check_new_subT PySem.F.excBase_ValueError c5.tail c1 ?_)
  refine codeAny_exc_new_subT PySem.F.excBase_ValueError c5.tail c1 ?_ hrest
  show wpAny _ _ _ _ _ _
  generalize hh2:((h.push { cls:=.type "tuple",data:=.seq rest.toArray }).push { cls:=.ref C,data:=.fields #[.ref h.objs.size,.none,.none,.none,.bool false,.none] })=h2
  have kp:∀ b o,h.get? b=some o→h2.get? b=some o:=fun b o hb=>by rw [← hh2];exact Heap.get?_push_of_some _ (Heap.get?_push_of_some _ hb)
  have hget:h2.get? (h.objs.size+1)=some { cls:=.ref C,data:=.fields #[.ref h.objs.size,.none,.none,.none,.bool false,.none] }:=by rw [← hh2];heap_get
  have htup:h2.get? h.objs.size=some { cls:=.type "tuple",data:=.seq rest.toArray }:=by rw [← hh2];exact Heap.get?_push_of_some _ (Heap.get?_push_at rfl rfl)
  have hcC:(Value.ref C::bm).contains (.ref C)=true:=by simp
  have c1':=kp _ _ c1
  unfold isInstance
  repeat (first | with_reducible refine wpAny_loadPart_at hget ?_ | (with_reducible refine wpAny_isSubtype_exc c1' ?_;rw [hcC]) | wp_step)
  show wpAny _ _ (typeLookup (.ref C) _) _ _ _
  refine wpAny_typeLookup_tail c1' (c2.keeps kp) (c5.keeps kp).tail PySem.F.excBase_ValueError.mroIs PySem.F.excBase_ValueError.init.lookup ?_
  rw [c3]
  refine wpAny_holding (wpAny_bind ?_)
  unfold bindSpecial
  refine wpAny_bind (wpAny_typeOf (T:="function") ⟨_,kp _ _ hfI,hfc⟩ ?_)
  rw [if_pos (by decide)]
  refine wpAny_pure (wpAny_bind (wpAny_mono (hq h2 (h.objs.size+1) ⟨kp,Heap.get?_none_of_le (Nat.le_succ _),h.objs.size,hget,Heap.get?_none_of_le (Nat.le_refl _),htup⟩) (fun r s' hr=>?_) fun _ _ x=>x))
  obtain ⟨rfl,hQ⟩:=hr
  wp_walk
  exact hQ
theorem qgr {Q:Value→Shared→Prop} (hC:ExcAt h C (some (.ref fI))) (hfI:h.get? fI=some oI) (hfc:oI.cls=.type "function") (hrest:rest.length≤sizeLine)
    (hq:∀ h' e,Heap.MadeExcOf h h' e (.ref C) rest→wpAny (model prog w) (A.under (.builtin "type.__call__" ⟨.ref C::rest,[]⟩)) (call (.ref fI) (.ref e::rest)) (fun r s'=>r=.none∧Q (.ref e) s') E ⟨h',g,d,t,os⟩) :
    wpAny (model prog w) A (call (.ref C) rest) Q E ⟨h,g,d,t,os⟩:=by
  obtain ⟨nm,q,N,bs,bm,sn,sub,ab,col,dd,k0,k1,k2,k3,k5,mN,c1,_⟩:=id hC.ex
  have f1:=tc_lookup
  have f2:=tc_bind (.ref C)
  have hT:(⟨h,g,d,t,os⟩:Shared).TypeIs (.ref C) "type":=⟨_,c1,rfl⟩
  refine wpAny_call (codeAny_of_tree ?_)
  show wpAny _ _ (callAny (.ref C) _) _ _ _
  repeat (any_goals (first | assumption | with_reducible refine wpAny_loadPart_at c1 ?_ | wp_step))
  refine ⟨rfl,?_⟩
  refine codeAny_call_builtin_at (Code.quiet_builtin _ (by decide +kernel)) entry_typeCall (wpAny_check_type_call_sub c1 (qcL hC hfI hfc hrest fun h' e hm=>?_))
  exact hq h' e hm
end
section
variable {P : Program} {w : World} {K : PySem.W.Frag} {mg : Str → Option Value} {base : Heap} {CX : CXT} {k : Nat} {qual : Str} {st : Stmt} {f C t : Addr} {fd : FuncData} {i : Option Value} {p1 p2 p3 p4 : Pos}
theorem qhP (F:Fun K "__init__" qual st f fd) (S:FnScope [("self":Str),("at":Str)] [("self":Str),("at":Str)] (qab st)) (hb:qao st=[.Assign [.Attribute (.Name "self" p1) "at" p2] (.Name "at" p3) p4]) (hv1:Vis (qab st) "self") (hv2:Vis (qab st) "at")
    (hs:∀ env,swapsWith (.Name "at" p3) (some (.Attribute (.Name "self" p1) "at" p2)) p4.line env=pure false) (hC:∀ h:Heap,K.In h→ExcAt h C i):FnOk P w K mg base CX (k+1) f fd [("self":Str),("at":Str)] (qgS C t):=by
  obtain ⟨oc,od,kV,doc,pm,an,cdv,ct,osl,rfl,lk,hcd⟩:=F.ex
  refine qgt lk hcd S (fun vs H Q E hq0=>?_) fun A outer s H vs Q E hr hq0=>⟨sAt C t,?_,?_⟩
  · obtain ⟨e,v,rfl,_⟩:=hq0
    rfl
  · rw [hb]
    exact qd5 (qjU rfl hC hv1 hv2 (hs _))
  · obtain ⟨e,v,rfl,he,kk⟩:=hq0
    exact ⟨e,v,rfl,he,kk⟩
end
section
variable {X : Cx} {pins : List (Addr × Obj)} {σ : St} {H : Hp} {s : Shared} {K : PySem.W.Frag}
def qh0 (H:Hp) (e:Addr):Hp:=fun b=>if b=e then none else H b
theorem qbl {e b:Addr} (h:b≠e):qh0 H e b=H b:=if_neg h
theorem qdB {e:Addr}:qh0 H e e=none:=if_pos rfl
theorem qbD {e b:Addr} (h:H b=none):qh0 H e b=none:=by unfold qh0;split <;> first | rfl | exact h
theorem Inv.drop {e:Addr} {φ:Heap→Prop} (I:Inv X pins σ H s) (he:H e=some (.ext φ)) (h0:X.s₀.heap.get? e=none):Inv X pins σ (qh0 H e) s where
  ok:=I.ok
  os:=I.os
  bare:=I.bare
  base:=⟨I.base.keep,I.base.slot,fun b ob q n hx=>qbD (I.base.free b ob q n hx),I.base.there,
    fun b xs q=>by have:=I.base.tups b xs q;rw [qbl (fun z=>by rw [z,he] at this;cases this)];exact this,
    fun b ob xs q=>by have:=I.base.frzs b ob xs q;rw [qbl (fun z=>by rw [z,he] at this;cases this)];exact this,
    fun b ps q=>by have:=I.base.tbls b ps q;rw [qbl (fun z=>by rw [z,he] at this;cases this)];exact this⟩
  loc:=I.loc
  cell:=I.cell
  free:=qbD I.free
  freeC x c h:=qbD (I.freeC x c h)
  pin p h:=by
    obtain ⟨a1,a2,a3⟩:=I.pin p h
    exact ⟨a1,qbD a2,a3⟩
  hok b u q:=by
    have hbe:b≠e:=fun z=>by rw [z,qdB] at q;cases q
    rw [qbl hbe] at q
    exact (I.hok b u q).stay (fun _ _ _ q=>q) (fun z hz=>by rw [qbl (fun z2=>by rw [z2,he] at hz;cases hz)];exact hz) (fun z xs hz=>by rw [qbl (fun z2=>by rw [z2,he] at hz;cases hz)];exact hz) (fun z ob w' hz=>by rw [qbl (fun z2=>by rw [z2,he] at hz;cases hz)];exact hz)
  len:=I.len
end
section
variable {K : PySem.W.Frag} {h : Heap} {N C : Addr}
def qig (v:Value):Bool:=match v with | .str _ _=>true | _=>false
def qc5 (K:PySem.W.Frag) (N:Addr):Bool:=match K.lookup N with
  | some ⟨_,_,.dict es _,_⟩=>es.toList.all fun e=>qig e.key
  | _=>false
def noName (K:PySem.W.Frag) (N:Addr) (n:Str):Bool:=match PySem.W.nsIn K N n with | some none=>true | _=>false
theorem noName.is {n:Str} (h:noName K N n=true):PySem.W.nsIn K N n=some none:=by
  unfold noName at h
  split at h
  · assumption
  · cases h
theorem qi3 (X:K.In h) (e:qc5 K N=true):∃ mN,h.Ns N mN∧∀ n r,PySem.W.nsIn K N n=some r→mN n=r:=by
  unfold qc5 at e
  split at e
  · rename_i c d es ep sl ho
    have sk:StrKeys es:=fun en hen=>by
      have hk:=List.all_eq_true.mp e en (Array.mem_toList_iff.mpr hen)
      cases q:en.key <;> rw [q] at hk <;> first | exact ⟨_,_,rfl⟩ | cases hk
    have G:h.Ns N (fun n=>nsFind es n):=⟨_,es,ep,X _ _ ho,rfl,sk,fun _=>rfl⟩
    refine ⟨_,G,fun n r hn=>?_⟩
    cases r with
    | none =>
      unfold PySem.W.nsIn at hn
      rw [ho] at hn
      dsimp only at hn
      split at hn
      · cases hn
      · rename_i he
        show nsFind es n=none
        unfold nsFind findBy
        rw [← Array.find?_toList,he]
        rfl
    | some v =>
      unfold PySem.W.nsIn at hn
      rw [ho] at hn
      dsimp only at hn
      split at hn
      · rename_i en he
        cases hn
        show nsFind es n=some en.val
        unfold nsFind findBy
        rw [← Array.find?_toList,he]
        rfl
      · split at hn <;> cases hn
  · cases e
def isBmV (l:List Value):Bool:=match l with
  | [.type a,.type b,.type c,.type d]=>a == "ValueError" && b == "Exception" && c == "BaseException" && d == "object"
  | _=>false
theorem isBmV.is {l:List Value} (h:isBmV l=true):l=bmV:=by
  unfold isBmV at h
  split at h
  · rw [Bool.and_eq_true,Bool.and_eq_true,Bool.and_eq_true] at h
    obtain ⟨⟨⟨h1,h2⟩,h3⟩,h4⟩:=h
    rw [eq_of_beq h1,eq_of_beq h2,eq_of_beq h3,eq_of_beq h4]
  · cases h
def refOf (v:Value):Option Addr:=match v with | .ref A=>some A | _=>none
theorem refOf.is {v:Value} {A:Addr} (h:refOf v=some A):v=.ref A:=by
  cases v <;> first | (cases h;rfl) | cases h
def tailOk (K:PySem.W.Frag):List Value→Bool
  | []=>false
  | v::tl=>(match refOf v with
    | some A=>(match K.lookup A with
      | some ⟨_,_,.cls cd,_⟩=>qc5 K cd.ns && excNames.all (noName K cd.ns) && tailOk K tl
      | _=>false)
    | none=>isBmV (v::tl))
theorem tailOk.tail (X:K.In h):∀ {l:List Value},tailOk K l=true→TailN h l
  | [],e=>by cases e
  | v::tl,e=>by
    unfold tailOk at e
    split at e
    · rename_i A hv
      rw [refOf.is hv]
      split at e
      · rename_i c d cd sl ho
        rw [Bool.and_eq_true,Bool.and_eq_true] at e
        obtain ⟨⟨e1,e2⟩,e3⟩:=e
        obtain ⟨mN,G,k⟩:=qi3 X e1
        exact .own (X _ _ ho) G (fun n hn=>k n none (noName.is (List.all_eq_true.mp e2 n hn))) (tailOk.tail X e3)
      · cases e
    · rw [isBmV.is e];exact .base
def clsOk (K:PySem.W.Frag) (C:Addr):Bool:=match K.lookup C with
  | some ⟨.type t,_,.cls ⟨_,_,v::bm,N,_,hd,_,_,_,_,hdel⟩,⟨[_,_,_,_,some (.builtin b),_]⟩⟩ =>
    t == "type" && b == "ValueError.__new__" && hd && !hdel && (v == .ref C) && qc5 K N && (excNames.all fun n=>n == "__init__" || noName K N n) && tailOk K bm && (PySem.W.nsIn K N "__init__").isSome
  | _=>false
def qcG (K:PySem.W.Frag) (C:Addr):Option (Option Value):=match K.lookup C with
  | some ⟨_,_,.cls cd,_⟩=>PySem.W.nsIn K cd.ns "__init__"
  | _=>none
theorem clsOk.at (X:K.In h) {i:Option Value} (e:clsOk K C=true) (hi:qcG K C=some i):ExcAt h C i:=by
  unfold clsOk at e
  split at e
  · rename_i t dd nm bs v bm N q hd sn sub ab col hdel k0 k1 k2 k3 b k5 ho
    unfold qcG at hi
    rw [ho] at hi
    simp only [Bool.and_eq_true] at e
    obtain ⟨⟨⟨⟨⟨⟨⟨⟨e1,e2⟩,e3⟩,e4⟩,e5⟩,e6⟩,e7⟩,e8⟩,e9⟩:=e
    obtain ⟨mN,G,k⟩:=qi3 X e6
    have h1:=eq_of_beq e1
    have h2:=eq_of_beq e2
    have h5:=eq_of_beq e5
    subst h1 h2 h5 e3
    have h4:hdel=false:=by cases hdel <;> first | rfl | cases e4
    subst h4
    refine ⟨nm,q,N,bs,bm,sn,sub,ab,col,dd,k0,k1,k2,k3,k5,mN,X _ _ ho,G,k _ _ hi,fun n hn hne=>?_,tailOk.tail X e8⟩
    have:=List.all_eq_true.mp e7 n hn
    rw [Bool.or_eq_true] at this
    rcases this with c | c
    · exact absurd (eq_of_beq c) hne
    · exact k _ _ (noName.is c)
  · cases e
theorem clsOk.some (e:clsOk K C=true):∃ i,qcG K C=some i:=by
  unfold clsOk at e
  split at e
  · rename_i t dd nm bs v bm N q hd sn sub ab col hdel k0 k1 k2 k3 b k5 ho
    simp only [Bool.and_eq_true] at e
    obtain ⟨_,e9⟩:=e
    unfold qcG
    rw [ho]
    exact Option.isSome_iff_exists.mp e9
  · cases e
def qef (K:PySem.W.Frag) (C:Addr):Option (List Value):=match K.lookup C with
  | some o=>(match o.data with | .cls cd=>some cd.mro | _=>none)
  | none=>none
theorem qfH (X:K.In h) {l:List Value} (e:qef K C=some l):qeW h C=l:=by
  unfold qef at e
  cases ho:K.lookup C with
  | none=>rw [ho] at e;cases e
  | some o =>
    rw [ho] at e
    unfold qeW
    rw [X _ _ ho]
    obtain ⟨c,d,dt,sl⟩:=o
    cases dt <;> first | exact Option.some.inj e | cases e
def glbRef (K:PySem.W.Frag) (nm:Str):Option Addr:=match PySem.W.nsIn K mainGlobals nm with
  | some (some v)=>refOf v
  | _=>none
theorem glbRef.is {nm:Str} (e:glbRef K nm=some C):PySem.W.nsIn K mainGlobals nm=some (some (.ref C)):=by
  unfold glbRef at e
  split at e
  · rename_i v hv
    rw [hv,refOf.is e]
  · cases e
def pairOk (K:PySem.W.Frag) (isa:Str→Str→Bool) (nm:Str) (C:Addr) (c:Str):Bool:=match glbRef K c,qef K C with
  | some D,some l=>(PySem.W.kitOne K (.ref C) (.ref D) == some (isa nm c)) && (l.contains (.ref D) == isa nm c)
  | _,_=>false
def qdS (K:PySem.W.Frag) (isa:Str→Str→Bool) (names:List Str):Bool:=names.all fun nm=>match glbRef K nm with
  | some C=>clsOk K C && PySem.W.keepIn K (.ref C) && (PySem.W.kitOne K (.ref C) (.type "ValueError") == some true) && names.all (pairOk K isa nm C)
  | none=>false
section
variable {isa : Str → Str → Bool} {names : List Str} {mg : Str → Option Value}
theorem qbn (e:qdS K isa names=true) {nm:Str} (hn:nm∈names):∃ C,PySem.W.nsIn K mainGlobals nm=some (some (.ref C))∧clsOk K C=true∧PySem.W.kitOne K (.ref C) (.type "ValueError")=some true∧(∀ c∈names,pairOk K isa nm C c=true)∧PySem.W.keepIn K (.ref C)=true:=by
  have:=List.all_eq_true.mp e nm hn
  split at this
  · rename_i C hC
    rw [Bool.and_eq_true,Bool.and_eq_true,Bool.and_eq_true] at this
    exact ⟨C,glbRef.is hC,this.1.1.1,eq_of_beq this.1.2,fun c hc=>List.all_eq_true.mp this.2 c hc,this.1.1.2⟩
  · cases this
theorem pairOk.is {nm c:Str} (e:pairOk K isa nm C c=true):∃ D l,PySem.W.nsIn K mainGlobals c=some (some (.ref D))∧qef K C=some l∧PySem.W.kitOne K (.ref C) (.ref D)=some (isa nm c)∧l.contains (.ref D)=isa nm c:=by
  unfold pairOk at e
  split at e
  · rename_i D l hD hl
    rw [Bool.and_eq_true] at e
    exact ⟨D,l,glbRef.is hD,hl,eq_of_beq e.1,eq_of_beq e.2⟩
  · cases e
theorem qhL (X:K.In h) (G:h.Ns mainGlobals mg) (e:qdS K isa names=true):Exs K mg isa names where
  cls nm hn C hm h' X':=by
    obtain ⟨C',h1,h2,_⟩:=qbn e hn
    rw [PySem.W.mg_of X G h1] at hm
    cases hm
    obtain ⟨i,hi⟩:=clsOk.some h2
    exact ⟨i,clsOk.at X' h2 hi⟩
  sub nm hn c hc C D hm hd h' X':=by
    obtain ⟨C',h1,h2,_,h4,_⟩:=qbn e hn
    rw [PySem.W.mg_of X G h1] at hm
    cases hm
    obtain ⟨D',l,z1,z2,z3,z4⟩:=pairOk.is (h4 c hc)
    rw [PySem.W.mg_of X G z1] at hd
    cases hd
    rw [qfH X' z2]
    exact z4
  inK nm hn C hm:=by
    obtain ⟨C',h1,h2,_⟩:=qbn e hn
    rw [PySem.W.mg_of X G h1] at hm
    cases hm
    exact h1
theorem qhy (X:K.In h) (G:h.Ns mainGlobals mg) (e:qdS K isa names=true):Isa K mg isa names where
  own nm hn c hc C D hm hd:=by
    obtain ⟨C',h1,h2,_,h4,_⟩:=qbn e hn
    rw [PySem.W.mg_of X G h1] at hm
    cases hm
    obtain ⟨D',l,z1,z2,z3,z4⟩:=pairOk.is (h4 c hc)
    rw [PySem.W.mg_of X G z1] at hd
    cases hd
    exact z3
  val nm hn C hm:=by
    obtain ⟨C',h1,h2,h3,_⟩:=qbn e hn
    rw [PySem.W.mg_of X G h1] at hm
    cases hm
    exact h3
  mgK nm hn C hC:=PySem.W.mg_of X G hC
theorem qa6 (X:K.In h) (G:h.Ns mainGlobals mg) (e:qdS K isa names=true) {nm:Str} (hn:nm∈names):∃ D,mg nm=some (.ref D):=by
  obtain ⟨C',h1,_⟩:=qbn e hn
  exact ⟨C',PySem.W.mg_of X G h1⟩
end
structure Rz0 (K:PySem.W.Frag) (mg:Str→Option Value) (x:Str):Prop where
  ex:∃ C,mg x=some (.ref C)∧(∀ h:Heap,K.In h→ExcAt h C none)∧PySem.W.keepIn K (.ref C)=true∧PySem.W.nsIn K mainGlobals x=some (some (.ref C))
structure Rz1 (P:Program) (w:World) (K:PySem.W.Frag) (mg:Str→Option Value) (base:Heap) (x:Str):Prop where
  ex:∃ C f fd oI,mg x=some (.ref C)∧(∀ h:Heap,K.In h→ExcAt h C (some (.ref f)))∧PySem.W.keepIn K (.ref C)=true∧K.lookup f=some oI∧oI.cls=.type "function"∧(∀ t,FnOk P w K mg base CX0 1 f fd [("self":Str),("at":Str)] (qgS C t))∧Binds K fd [("self":Str),("at":Str)] []∧PySem.W.nsIn K mainGlobals x=some (some (.ref C))
def initOf (K:PySem.W.Frag) (x:Str):Option (Option Value):=(glbRef K x).bind (qcG K)
section
variable {isa : Str → Str → Bool} {names : List Str} {mg : Str → Option Value} {P : Program} {w : World} {base : Heap}
theorem initOf.is {x:Str} {i:Option Value} (hi:initOf K x=some i) (h1:PySem.W.nsIn K mainGlobals x=some (some (.ref C))):qcG K C=some i:=by
  have:glbRef K x=some C:=by unfold glbRef;rw [h1];rfl
  unfold initOf at hi
  rw [this] at hi
  exact hi
theorem qcQ (X:K.In h) (G:h.Ns mainGlobals mg) (e:qdS K isa names=true) {x:Str} (hn:x∈names) (hi:initOf K x=some none):Rz0 K mg x:=by
  obtain ⟨C,h1,h2,_,_,h5⟩:=qbn e hn
  exact ⟨C,PySem.W.mg_of X G h1,fun h' X'=>clsOk.at X' h2 (initOf.is hi h1),h5,h1⟩
theorem qc1 {q:Str} {st:Stmt} {f:Addr} {p1 p2 p3 p4:Pos} (X:K.In h) (G:h.Ns mainGlobals mg) (e:qdS K isa names=true) {x:Str} (hn:x∈names) (hi:initOf K x=some (some (.ref f)))
    {oc:Value} {od:Option Addr} {kV doc pm:Value} {an:Option Addr} {cdv ct:Value} {osl:Array (Option Value)} (lk:K.lookup f=some ⟨oc,od,.func (PySem.W.fnOf "__init__" q (qaC st) (qao st) (qab st) .none kV doc pm an cdv ct),osl⟩) (hoc:oc=.type "function") (hcd:PySem.W.codeIn K cdv q=true) (kp:PySem.W.keepIn K (.ref f)=true)
    (S:FnScope [("self":Str),("at":Str)] [("self":Str),("at":Str)] (qab st)) (hb:qao st=[.Assign [.Attribute (.Name "self" p1) "at" p2] (.Name "at" p3) p4]) (hv1:Vis (qab st) "self") (hv2:Vis (qab st) "at")
    (hs:∀ env,swapsWith (.Name "at" p3) (some (.Attribute (.Name "self" p1) "at" p2)) p4.line env=pure false)
    (b:∀ (kV doc pm:Value) (an:Option Addr) (cdv ct:Value) (us:List Value),us.length=2→bindArgs (PySem.W.fnOf "__init__" q (qaC st) (qao st) (qab st) .none kV doc pm an cdv ct) ⟨us,[]⟩=pure ([("self":Str),("at":Str)].zip us)):Rz1 P w K mg base x:=by
  obtain ⟨C,h1,h2,_,_,h5⟩:=qbn e hn
  have F:Fun K "__init__" q st f _:=⟨⟨oc,od,kV,doc,pm,an,cdv,ct,osl,rfl,lk,hcd⟩,kp⟩
  have hC:∀ h':Heap,K.In h'→ExcAt h' C (some (.ref f)):=fun h' X'=>clsOk.at X' h2 (initOf.is hi h1)
  exact ⟨C,f,_,_,PySem.W.mg_of X G h1,hC,h5,lk,hoc,fun t=>qhP (k:=0) F S hb hv1 hv2 hs hC,F.binds b,h1⟩
end
end
abbrev SpR:=List D→(XD→Prop)→Prop
def orX (z:SpD) (r:SpR):SpX:=fun ds R W=>z ds R∨r ds W
def qf9 (r:SpR):SpX:=fun ds _ W=>r ds W
section
variable {P : Program} {w : World} {K : PySem.W.Frag} {mg : Str → Option Value} {base : Heap} {n : Nat} {f : Addr} {fd : FuncData} {ps : List Str} {z : SpD} {r : SpR}
theorem qeX {CX:CXT} {A:Around} {c:Code} {outer:List Env} {H:Hp} {s:Shared} {Q:VK} {E:XK} (h:codeAny (model P w) A c (CR CX0 outer P w H s Q E) s):codeAny (model P w) A c (CR CX outer P w H s Q E) s :=
  codeAny_mono h fun res s' q=>by
    cases res with
    | error e=>exact q.elim
    | ok fl=>cases fl <;> exact q
theorem FnOk.orX (A:FnOk P w K mg base CX0 n f fd ps (lSp K z)) (B:FnOk P w K mg base (CXo P w) n f fd ps (qfX K mg (qf9 r))):FnOk P w K mg base (CXo P w) n f fd ps (qfX K mg (orX z r)):=by
  have cs:∀ {vs:List V} {H:Hp} {Q:VK} {E:XK},qfX K mg (L2.orX z r) vs H Q E→lSp K z vs H Q E∨qfX K mg (qf9 r) vs H Q E:=fun {vs H Q E} h=>by
    obtain ⟨Φ,ds,R,W,h1,h2,h3,h4,h5,h6⟩:=h
    rcases h4 with h4 | h4
    · exact .inl ⟨Φ,ds,R,h1,h2,h3,h4,h5⟩
    · exact .inr ⟨Φ,ds,R,W,h1,h2,h3,h4,h5,h6⟩
  refine ⟨fun vs H Q E h=>?_,fun A' outer s H args us vs Q E hr he hb hv hs=>?_⟩
  · rcases cs h with h | h
    · exact A.len _ _ _ _ h
    · exact B.len _ _ _ _ h
  · rcases cs hs with h | h
    · exact qeX (A.run A' outer s H args us vs Q E hr he hb hv h)
    · exact B.run A' outer s H args us vs Q E hr he hb hv h
end
section
variable {K : PySem.W.Frag} {X : Cx} {x : Str} {np cpos pos : Pos} {arg : Expr} {ta : TD}
def qkZ (x:Str):TSM:=fun De ρ=>De.ex ⟨x,none⟩ ρ
theorem qiC (Z:Rz0 X.K X.mg x) (hcalm:X.calm=true) (hex:X.ex=[]) (hg:Gl X x) (hdb:(x == ("__debug__":Str))=false:=by decide):PSM K X (.Raise (some (.Call (.Name x np) [] [] cpos)) none pos) (qkZ x):=by
  obtain ⟨C,h1,h2,_⟩:=Z.ex
  exact qgx hcalm hex hg h1 h2 hdb
theorem qg5 {rest:List ExceptHandler} {th:XD→EndsM→qaL→Prop} {c n:Str} {hpos:Pos} {b₀:Stmt} {suite:List Stmt} {tu:TSM} {isa:Str→Str→Bool} {names:List Str} (i:Nat) (Ex:Exs X.K X.mg isa names) (hm:∃ Da,X.mg c=some (.ref Da)) (hc:c∈names) (hg:Gl X c) (hN:X.N.Nodup) (hs:∀ pn e,PSsM K (X.held pn e) (b₀::suite) tu) (hr:PHM K X rest th)
    (hi:X.N[i]?=some n:=by rfl) (hloc:X.env.scope.names.lookup n=some .local:=by rfl) (hfn:X.fn n=true∨X.env.scope.names.lookup n=some .local:=by first | exact .inl rfl | exact .inr rfl) (hdb:(c == ("__debug__":Str))=false:=by decide) :
    PHM K X (.ExceptHandler (some (.Name c np)) (some n) (b₀::suite) hpos::rest) (fun xd De ρ=>xd.nm∈names∧(isa xd.nm c=true→tu { nx:=fun ρ'=>De.nx (ρ'.set i none),rt:=De.rt,bk:=fun ρ'=>De.bk (ρ'.set i none),ct:=fun ρ'=>De.ct (ρ'.set i none) } (ρ.set i (some (.v (.exc xd.nm xd.at_.toList)))))∧(isa xd.nm c=false→th xd De ρ)):=by
  obtain ⟨Da,hm⟩:=hm
  exact qhG i Ex hc hg hm hN hs hr hi hloc hfn hdb
end
section
variable {K : PySem.W.Frag} {X : Cx} {a : Expr} {ta : TD} {pos p : Pos} {isa : Str → Str → Bool} {names : List Str}
theorem qbj {c:Str} {np:Pos} (Ex:Exs X.K X.mg isa names) (Is:Isa X.K X.mg isa names) (hm:∃ Da,X.mg c=some (.ref Da)) (hc:c∈names) (hgc:Gl X c) (hg:Gl X "isinstance") (hmi:X.mg "isinstance"=none) (ha:PD K X a ta)
    (he:starEach [a,.Name c np] X.env=(false,eval a X.env)::starEach [.Name c np] X.env) (he2:starEach [.Name c np] X.env=(false,eval (.Name c np) X.env)::starEach [] X.env) (hdb:(c == ("__debug__":Str))=false:=by decide):PD K X (.Call (.Name "isinstance" p) [a,.Name c np] [] pos) (qjM isa names c ta):=by
  obtain ⟨Da,hm⟩:=hm
  exact qjJ Ex Is hc hgc hm hg hmi ha he he2 hdb
end
end L2
namespace L2
open PySem PySem.Spec PyProof.Rows
structure RoomH (k:Nat) (A:Around):Prop where
  dp:A.depth+3*k+5<recursionLimit
  un:A.units+16*k+200<cLine
theorem Room.toH {k:Nat} {A:Around} (r:Room k A) (e:Option Value):RoomH k (A.mark e):=⟨r.dp,r.un⟩
theorem RoomH.mono {j k:Nat} {A:Around} (r:RoomH k A) (h:j≤k):RoomH j A:=⟨by have:=r.dp;omega,by have:=r.un;omega⟩
structure FnOkH (P:Program) (w:World) (K:PySem.W.Frag) (mg:Str→Option Value) (base:Heap) (k:Nat) (f:Addr) (fd:FuncData) (ps:List Str) (sp:Sp):Prop where
  len:∀ vs H Q E,sp vs H Q E→vs.length=ps.length
  run:∀ (A:Around) (outer:List Env) (s:Shared) (H:Hp) (args:Args) (us:List Value) (vs:List V) (Q:VK) (E:XK),RoomH k A→Env0 P w K mg base A outer s H→BindsTo s fd args (ps.zip us)→Vals vs us→sp vs H Q E →
    codeAny (model P w) A (.call (.ref f) args) (CR CX0 outer P w H s Q E) s
abbrev cxH (P:Program) (w:World) (K:PySem.W.Frag) (mg:Str→Option Value) (base:Heap) (N:List Str) (qual:Str) (scope:Scope) (f:Addr) (cd:Value) (A:Around) (outer:List Env) (s:Shared) (H:Hp) (E:XK):Cx:={ qeA CX0 P w K mg base N qual scope f cd A outer s H E with calm:=false,xe:=fun _ _=>False }
section
variable {P : Program} {w : World} {K : PySem.W.Frag} {mg : Str → Option Value} {base : Heap}
theorem qeH {N ps:List Str} {qual:Str} {scope:Scope} {f:Addr} {cd:Value} {A:Around} {outer:List Env} {s s1:Shared} {H:Hp} {E:XK} {us:List Value} {vs:List V}
    (S:FnScope N ps scope) (e0:Env0 P w K mg base A outer s H) (hl:vs.length=ps.length) (r:Vals vs us)
    (x:InCallC s s.heap.objs.size (bindL (envOfC qual scope s.heap.objs.size f cd).kindOf (ps.zip us) fun _=>none) (cellsFrom (s.heap.objs.size+1) scope.names []) (bindC (envOfC qual scope s.heap.objs.size f cd).kindOf (ps.zip us) fun _=>none) s1) :
    Inv (cxH P w K mg base N qual scope f cd A outer s H E) [] (qbd N vs) H s1:=by
  have e1:Env0 P w K mg base { A with handled:=none } outer s H:=⟨e0.frames,e0.mod,e0.bs,e0.bsz,e0.funs,e0.frf,e0.hok,e0.bare⟩
  have I:=qdv (CX:=CX0) (E:=E) S (A:={ A with handled:=none }) rfl e1 hl r x
  exact ⟨⟨I.ok.mod,I.ok.kind,I.ok.glob,I.ok.blt,I.ok.above,I.ok.inj,I.ok.has,I.ok.cab,fun h=>(by cases h),I.ok.frames,I.ok.stk,I.ok.exf,I.ok.bs,I.ok.bsz,I.ok.noex,I.ok.exfs,I.ok.funs,I.ok.frf⟩,
    I.os,I.bare,I.base,I.loc,I.cell,I.free,I.freeC,I.pin,I.hok,I.len⟩
theorem Fun.okH {x qual:Str} {st:Stmt} {f:Addr} {fd:FuncData} {N ps:List Str} {sp:SpD} (F:Fun K x qual st f fd) (S:FnScope N ps (qab st)) (len:∀ ds R,sp ds R→ds.length=ps.length)
    (hbody:∀ (cdv:Value) (A:Around) (outer:List Env) (s:Shared) (H:Hp) (E:XK) (ds:List D) (R:D→Prop),sp ds R →
      ∃ t,PSsD K (cxH P w K mg base N qual (qab st) f cdv A outer s H E) (qao st) t∧t { nx:=fun _=>R .non,rt:=R } (qbT N ds)):FnOkH P w K mg base 1 f fd ps (lSp K sp):=by
  obtain ⟨oc,od,kV,doc,pm,an,cdv,ct,osl,rfl,lk,hcd⟩:=F.ex
  have len':∀ vs H Q E,lSp K sp vs H Q E→vs.length=ps.length:=fun vs H Q E h=>by
    obtain ⟨Φ,ds,R,sm,tb,rl,h,_⟩:=h
    rw [rl.1];exact len ds R h
  refine ⟨len',fun A outer s H args us vs Q E hr e0 hb r hsp=>?_⟩
  have hl:=len' _ _ _ _ hsp
  have KX:K.In s.heap:=e0.mod.kin.keeps fun b o e=>(e0.bs b o e).1
  have lim:s.heap.NoLimit:=e0.mod.nolimit.keeps fun b o e=>(e0.bs b o e).1
  have hkind:∀ y∈ps.zip us,(qab st).names.lookup y.1=some .local∨((qab st).names.lookup y.1=some .cell∧((cellsFrom (s.heap.objs.size+1) (qab st).names []).lookup y.1).isSome=true):=fun hq0 hy=>by
    obtain ⟨n,v⟩:=hq0
    rcases S.par n (List.of_mem_zip hy).1 with q | q
    · exact .inl q
    · exact .inr ⟨q,PySem.W.cellsFrom_some _ _ _ (.inl q)⟩
  have hdp:A.depth<recursionLimit:=by have:=hr.dp;omega
  refine codeAny_call_function hdp (KX _ _ lk) rfl S.co S.gen rfl (PySem.W.codeRec_of KX hcd) (hb _ _ _ _ ?_)
  refine wpAny_newFunctionEnv_cells S.kind hkind fun env he s1 x=>?_
  subst he
  refine ⟨lim.keeps x.toInCall.keep,codeAny_func ?_⟩
  obtain ⟨Φ,ds,R,sm,tb,rl,h,kk⟩:=hsp
  obtain ⟨t,ht,hq⟩:=hbody cdv A outer s H E ds R h
  have I:Inv (cxH P w K mg base N qual (qab st) f cdv A outer s H E) [] (qbd N vs) H s1:=qeH S e0 hl r x
  refine wpAny_mono (ht.ps rfl [] s1 (qbd N vs) H { nx:=fun _ H'=>Q .non H',rt:=Q } I ⟨Φ,H,Φ,qbT N ds,_,.refl sm,qdl sm tb rl,hq,⟨fun ρ' Φ' H' σ' r g V=>kk .non Φ' H' .non r g .non,kk,fun _ _ _ _ h=>h.elim,fun _ _ _ _ h=>h.elim⟩⟩) (fun fl s' hs=>?_) fun e s' hs=>hs.elim
  have fin:∀ {σ':St} {H':Hp} {v:V} {u:Value},Inv (cxH P w K mg base N qual (qab st) f cdv A outer s H E) [] σ' H' s'→RelV v u→Q v H'→CE outer P w H s Q u s' :=
    fun {σ' H' v u} J rv q=>⟨v,H',J.os,J.bare,J.base,J.hok,rv,q⟩
  cases fl with
  | ret u =>
    obtain ⟨v,σ',H',J,rv,q⟩:=hs
    exact fin J rv q
  | next =>
    obtain ⟨σ',H',J,q⟩:=hs
    exact fin (v:=V.non) (u:=Value.none) J rfl q
  | brk =>
    obtain ⟨_,_,_,q⟩:=hs
    exact False.elim q
  | cont =>
    obtain ⟨_,_,_,q⟩:=hs
    exact False.elim q
structure ClH (P:Program) (w:World) (K:PySem.W.Frag) (mg:Str→Option Value) (base:Heap) (x:Str) (ps:List Str) (z:SpD):Prop where
  ex:∃ (f:Addr) (fd:FuncData),FnOkH P w K mg base 1 f fd ps (lSp K z)∧Binds K fd ps []∧PySem.W.keepIn K (.ref f)=true∧mg x=some (.ref f)
theorem Fun.clH {x:Str} {st:Stmt} {f:Addr} {fd:FuncData} {ps:List Str} {z:SpD} (F:Fun K x x st f fd) (m:mg x=some (.ref f)) (H:FnOkH P w K mg base 1 f fd ps (lSp K z))
    (b:∀ (kV doc pm:Value) (an:Option Addr) (cdv ct:Value) (us:List Value),us.length=ps.length→bindArgs (PySem.W.fnOf x x (qaC st) (qao st) (qab st) .none kV doc pm an cdv ct) ⟨us,[]⟩=pure (ps.zip us)):ClH P w K mg base x ps z:=⟨f,fd,H,F.binds b,F.kp,m⟩
end
section
variable {K : PySem.W.Frag} {X : Cx} {e : Expr} {es : List Expr} {pos p : Pos} {tl : TDL}
theorem qgT {x:Str} {ps:List Str} {z:SpD} (C:ClH X.prog X.w K X.mg X.base x ps z) (hr:RoomH 1 X.A) (hg:Gl X x)
    (ha:PAD K X (e::es) tl) (he:starEach (e::es) X.env=(false,eval e X.env)::starEach es X.env) (hpl:(backTo pos (starEach es X.env)).any (·.1)=false) (hdb:(x == ("__debug__":Str))=false:=by decide) :
    PD K X (.Call (.Name x p) (e::es) [] pos) (qdW z tl):=⟨fun hK=>by
  subst hK
  obtain ⟨f,fd,F,hb,hk,hm⟩:=C.ex
  intro pins s σ H Q I hq0
  obtain ⟨H0,Φ,ρ,R,E,t,k⟩:=hq0
  refine wpAny_Call_Name_kw (qbb I hg hm ?_ hdb)
  refine PySem.W.callWith_K (h₀:=X.base) I.ok.mod.kin hk (thn (ha.pa rfl pos pins s σ H (fun vs H1=>lSp X.K z vs H1 Q fun _ _ _=>False) I ⟨H0,Φ,ρ,_,E,t,fun ds Φ1 H1 vs r g rl _=>⟨Φ1,ds,R,g.s,E.tb.same g.f,rl,r,fun d Φ' H' v hR g' rv=>k d Φ' H' v hR (g.trans g') rv⟩⟩) fun us s1 hq1=>?_) he hpl
  obtain ⟨vs,H1,I1,r,q⟩:=hq1
  refine ⟨I1.kIn,?_⟩
  have hl:us.length=ps.length:=by rw [← r.length];exact F.len _ _ _ _ q
  have hB:=hb s1 us I1.kIn (by rw [List.append_nil];exact hl)
  rw [List.append_nil] at hB
  refine wpAny_call (codeAny_mono (F.run X.A X.stack s1 H1 ⟨us,[]⟩ us vs Q _ hr I1.env0 hB r q) fun res s2 hq=>?_)
  cases res with
  | error z=>exact hq.elim
  | ok fl =>
    cases fl with
    | ret u=>exact I1.after hq
    | _=>exact hq.elim⟩
end
section
variable {K : PySem.W.Frag} {X : Cx} {x : Str} {np pos : Pos} {arg : Expr} {ta : TD}
theorem qgG {K:PySem.W.Frag} {Φ H:Hp} {e p C:Addr} {nm:Str} {d:D} {v:V} (sm:Same Φ H) (h0:PySem.W.nsIn K mainGlobals nm=some (some (.ref C))) (he:H e=none) (hp:H p=none) (hpe:p≠e) (rv:∀ Ψ:Hp,Rp K Ψ d v) :
    ∃ Φ2,Gr Φ H Φ2 (upd (upd H p (.xd [("at",v)])) e (.ext (qcA e C (some p))))∧Rp K Φ2 (.exc nm [d]) (.ref e):=by
  have hΦ:∀ b,H b=none→Φ b=none:=fun b hb=>by
    cases q:Φ b with
    | none=>rfl
    | some u=>have:=sm _ _ q;rw [hb] at this;cases this
  have g1:Gr Φ H (upd Φ p (.xd [("at",v)])) (upd H p (.xd [("at",v)])):=(Gr.fresh sm hp _).freeze hp (hΦ p hp) qae
  have he1:upd H p (.xd [("at",v)]) e=none:=by rw [qad (Ne.symm hpe)];exact he
  have hΦ1:upd Φ p (.xd [("at",v)]) e=none:=by rw [qad (Ne.symm hpe)];exact hΦ e he
  have g2:Gr (upd Φ p (.xd [("at",v)])) (upd H p (.xd [("at",v)])) (upd (upd Φ p (.xd [("at",v)])) e (.ext (qcA e C (some p)))) (upd (upd H p (.xd [("at",v)])) e (.ext (qcA e C (some p)))):=(Gr.fresh g1.s he1 _).freeze he1 hΦ1 qae
  exact ⟨_,g1.trans g2,.exc1 h0 qae (by rw [qad hpe];exact qae) (rv _)⟩
def qk1 (x:Str):TD:=fun _ R=>R (.exc x [])
theorem qgg (Z:Rz0 X.K X.mg x) (hex:X.ex=[]) (hg:Gl X x) (hdb:(x == ("__debug__":Str))=false:=by decide):PD K X (.Call (.Name x np) [] [] pos) (qk1 x):=⟨fun hK=>by
  intro pins s σ H Q I hq0
  obtain ⟨H0,Φ,ρ,R,V,t,k⟩:=hq0
  obtain ⟨C,hm,hC,hkp,hns⟩:=Z.ex
  refine wpAny_Call_Name_kw (qbb I hg hm ?_ hdb)
  refine PySem.W.callWith_K0 I.kIn hkp ?_
  obtain ⟨nm,q,N,bs,bm,sn,sub,ab,col,dd,k0,k1,k2,k3,k5,mN,c1,c2,c3,c4,c5⟩:=(hC s.heap I.kIn).ex
  obtain ⟨hp,gg,dr,tk,os⟩:=s
  refine wpAny_call_exc_subT (hrest:=by show 0≤sizeLine;exact Nat.zero_le _) PySem.F.excBase_ValueError c5.tail c1 c2 c3 fun h' e hmk=>?_
  obtain ⟨tt,t1,t2,t3⟩:=hmk.there
  have I2:=I.more hmk.keeps
  have hno:H e=none:=I.hok.no hmk.new
  have hold:=I.old hex hmk.new
  have hpin:∀ p∈X.pn++pins,p.1≠e:=fun p hp' z=>by have:=(I.pin p hp').1;rw [z,show hp.get? e=none from hmk.new] at this;cases this
  have hloc:X.env.locals≠e:=fun z=>by
    obtain ⟨m,⟨o',es,ep,ho',_⟩,_⟩:=I.loc
    rw [z,show hp.get? e=none from hmk.new] at ho';cases ho'
  have hcel:∀ y c,X.env.cells.lookup y=some c→c≠e:=fun y c hc z=>by
    obtain ⟨w',o',ho',_⟩:=I.cell y c hc
    rw [z,show hp.get? e=none from hmk.new] at ho';cases ho'
  have I3:=I2.knowX (o:=.ext (qcA e C none)) hold hno hpin hloc hcel ⟨⟨_,_,t1,rfl,rfl,rfl⟩,⟨_,t1⟩,fun a b ⟨o,w',z1,z2⟩ kk=>⟨o,w',kk _ z1,z2⟩⟩
  have hΦe:Φ e=none:=by
    cases q:Φ e with
    | none=>rfl
    | some u=>have:=V.fz _ _ q;rw [hno] at this;cases this
  have g1:Gr Φ H (upd Φ e (.ext (qcA e C none))) (upd H e (.ext (qcA e C none))):=(Gr.fresh V.fz hno _).freeze hno hΦe qae
  exact ⟨.ref e,_,I3,rfl,k _ _ _ _ t g1 (.exc0 (hK ▸ hns) qae)⟩⟩
def qlf (x:Str) (ta:TD):TD:=fun ρ R=>ta ρ fun d=>qf0 d∧R (.exc x [d])
theorem qeG (Z:Rz1 X.prog X.w X.K X.mg X.base x) (hex:X.ex=[]) (hg:Gl X x) (hr:Room 2 X.A) (ha:PD K X arg ta) (he:starEach [arg] X.env=(false,eval arg X.env)::starEach [] X.env) (hdb:(x == ("__debug__":Str))=false:=by decide) :
    PD K X (.Call (.Name x np) [arg] [] pos) (qlf x ta):=⟨fun hK=>by
  intro pins s σ H Q I hq0
  obtain ⟨H0,Φ,ρ,R,V,t,k⟩:=hq0
  obtain ⟨C,f,fd,oI,hm,hC,hkp,hfl,hfc,hF,hb,hns⟩:=Z.ex
  refine wpAny_Call_Name_kw (qbb I hg hm ?_ hdb)
  have pa:=qaM (ha.pe hK) pa_nil he
  refine PySem.W.callWith_K (h₀:=X.base) I.ok.mod.kin hkp (thn (pa pos pins s σ H (fun vs H1=>∃ d Φ1 v,vs=[v]∧(qf0 d∧R (.exc x [d]))∧Gr Φ H Φ1 H1∧Rp K Φ1 d v) I ⟨_,Φ,ρ,_,V,t,fun d Φ1 H1 v r g1 rv=>⟨d,Φ1,v,rfl,r,g1,rv⟩⟩) fun us s1 hq1=>?_) he qah
  obtain ⟨vs,H1,I1,r,d,Φ1,v,rfl,⟨hfl',hx⟩,g1,rv⟩:=hq1
  obtain ⟨u,rfl,ru⟩:=qeN r
  refine ⟨I1.kIn,?_⟩
  have hCs:=hC s1.heap I1.kIn
  obtain ⟨hp,gg,dr,tk,os⟩:=s1
  refine qgr hCs (I1.kIn _ _ hfl) hfc (by show 1≤sizeLine;rw [sizeLine_eq];decide) fun h' e hmk=>?_
  obtain ⟨tt,t1,t2,t3⟩:=hmk.there
  have I2:=I1.more hmk.keeps
  have hno:H1 e=none:=I1.hok.no hmk.new
  have hold:=I1.old hex hmk.new
  have hpin:∀ p∈X.pn++pins,p.1≠e:=fun p hp' z=>by have:=(I1.pin p hp').1;rw [z,show hp.get? e=none from hmk.new] at this;cases this
  have hloc:X.env.locals≠e:=fun z=>by
    obtain ⟨m,⟨o',es,ep,ho',_⟩,_⟩:=I1.loc
    rw [z,show hp.get? e=none from hmk.new] at ho';cases ho'
  have hcel:∀ y c,X.env.cells.lookup y=some c→c≠e:=fun y c hc z=>by
    obtain ⟨w',o',ho',_⟩:=I1.cell y c hc
    rw [z,show hp.get? e=none from hmk.new] at ho';cases ho'
  have I3:=I2.knowX (o:=.ext (qdX e C tt none)) hold hno hpin hloc hcel ⟨⟨_,t1⟩,⟨_,t1⟩,fun a b ⟨w',z1⟩ kk=>⟨w',kk _ z1⟩⟩
  have r2:Vals [L2.V.ref e,v] [Value.ref e,u]:=.cons rfl (.cons ru .nil)
  have hB:=hb _ [Value.ref e,u] I3.kIn rfl
  rw [List.append_nil] at hB
  refine wpAny_call (codeAny_mono ((hF tt).run _ X.stack _ _ ⟨[Value.ref e,u],[]⟩ [Value.ref e,u] [L2.V.ref e,v] (fun v' H'=>v'=.non∧∃ p,upd H1 e (.ext (qdX e C tt none)) p=none∧p≠e∧H'=upd (upd (upd H1 e (.ext (qdX e C tt none))) p (.xd [("at",v)])) e (.ext (qdX e C tt (some p)))) E0 (hr.make C [u] []) (I3.env0.make C [u] []) hB r2 ⟨e,v,rfl,qae,fun p hp1 hp2=>⟨rfl,p,hp1,hp2,rfl⟩⟩) fun res s' hq'=>?_)
  cases res with
  | error z=>exact hq'.elim
  | ok fl =>
    cases fl with
    | ret u' =>
      obtain ⟨v',H',J,ru',rfl,p,hp1,hp2,rfl⟩:=I3.after hq'
      cases (show u'=Value.none from ru')
      have hpn:H1 p=none:=by rw [qad hp2] at hp1;exact hp1
      obtain ⟨⟨sl,z1⟩,_⟩:=(show ObjOk X.prog X.w _ s'.heap e (.ext (qdX e C tt (some p))) from J.hok e _ qae)
      have Jd:=J.drop qae hold
      have eH:qh0 (upd (upd (upd H1 e (.ext (qdX e C tt none))) p (.xd [("at",v)])) e (.ext (qdX e C tt (some p)))) e=upd H1 p (.xd [("at",v)]):=by
        funext b
        by_cases cb:b=e
        · rw [cb,qdB,qad (Ne.symm hp2)];exact hno.symm
        · rw [qbl cb,qad cb]
          by_cases cp:b=p
          · rw [cp,qae,qae]
          · rw [qad cp,qad cp,qad cb]
      rw [eH] at Jd
      have rvf:∀ Ψ:Hp,Rp K Ψ d v:=fun Ψ=>by
        cases rv with
        | non=>exact .non
        | int j=>exact .int j
        | _=>exact hfl'.elim
      have hno2:upd H1 p (.xd [("at",v)]) e=none:=by rw [qad (Ne.symm hp2)];exact hno
      have Jk:=Jd.knowX (o:=.ext (qcA e C (some p))) hold hno2 hpin hloc hcel ⟨⟨_,_,z1,rfl,rfl,rfl⟩,⟨_,z1⟩,fun a b ⟨o,w',z1,z2⟩ kk=>⟨o,w',kk _ z1,z2⟩⟩
      obtain ⟨Φ2,g2,r2'⟩:=qgG (K:=K) (C:=C) g1.s (hK ▸ hns) hno hpn hp2 rvf
      exact ⟨rfl,.ref e,_,Jk,rfl,k _ _ _ _ hx (g1.trans g2) r2'⟩
    | _=>exact hq'.elim⟩
end
end L2
namespace Kx
open PySem L2
section
variable {P : Program} {w : World} {K : PySem.W.Frag} {mg : Str → Option Value} {base : Heap}
def top (i:Nat):Stmt:=PySem.Challenge.pw_cutyard_k02_up_and_lowest.main.body.getD i (.Pass ⟨0,0,0,0⟩)
abbrev qaG:Stmt:=top 11
theorem sc_common_of_two:FnScope ["one","other","greater","lesser","rest"] ["one","other"] (qab qaG):=⟨rfl,rfl,rfl,by decide +kernel,rfl,by decide +kernel,by decide +kernel⟩
abbrev qb1:Stmt:=top 12
theorem sc_common:FnScope ["numbers","divisor","number"] ["numbers"] (qab qb1):=⟨rfl,rfl,rfl,by decide +kernel,rfl,by decide +kernel,by decide +kernel⟩
abbrev qiU:Stmt:=top 13
theorem qjn:FnScope ["top","bottom"] ["top","bottom"] (qab qiU):=⟨rfl,rfl,rfl,by decide +kernel,rfl,by decide +kernel,by decide +kernel⟩
abbrev qbh:Stmt:=top 14
theorem sc_lowest:FnScope ["tops","bottom","divisor"] ["tops","bottom"] (qab qbh):=⟨rfl,rfl,rfl,by decide +kernel,rfl,by decide +kernel,by decide +kernel⟩
abbrev qaX:Stmt:=top 16
theorem qcX:FnScope ["_law_seen"] ["_law_seen"] (qab qaX):=⟨rfl,rfl,rfl,by decide +kernel,rfl,by decide +kernel,by decide +kernel⟩
abbrev qa9:Stmt:=top 17
theorem qds:FnScope ["_law_script","_law_k"] ["_law_script","_law_k"] (qab qa9):=⟨rfl,rfl,rfl,by decide +kernel,rfl,by decide +kernel,by decide +kernel⟩
abbrev qaY:Stmt:=top 18
theorem sc__law_mixed:FnScope ["_law_cell_here","_law_salt","_law_size","_law_number","_law_reach","_law_seed"] ["_law_cell_here","_law_salt","_law_size"] (qab qaY):=⟨rfl,rfl,rfl,by decide +kernel,rfl,by decide +kernel,by decide +kernel⟩
abbrev qaV:Stmt:=top 19
theorem sc__law_draws:FnScope ["_law_cell_here","_law_salt","_law_sizes","_law_told","_law_rest","_law_plain","_law_k","_law_size"] ["_law_cell_here","_law_salt","_law_sizes"] (qab qaV):=⟨rfl,rfl,rfl,by decide +kernel,rfl,by decide +kernel,by decide +kernel⟩
abbrev qaP:Stmt:=top 20
theorem sc__law_shared:FnScope ["_law_numbers","_law_seen","_law_number","_law_one","_law_rest"] ["_law_numbers"] (qab qaP):=⟨rfl,rfl,rfl,by decide +kernel,rfl,by decide +kernel,by decide +kernel⟩
abbrev qbc:Stmt:=top 21
theorem sc__law_only:FnScope ["_law_e","_law_others"] ["_law_e"] (qab qbc):=⟨rfl,rfl,rfl,by decide +kernel,rfl,by decide +kernel,by decide +kernel⟩
abbrev qaz:Stmt:=top 22
theorem sc__law_up_refused:FnScope ["_law_top","_law_bottom","_law_e"] ["_law_top","_law_bottom"] (qab qaz):=⟨rfl,rfl,rfl,by decide +kernel,rfl,by decide +kernel,by decide +kernel⟩
abbrev qas:Stmt:=top 23
theorem sc__law_lowest_refused:FnScope ["_law_tops","_law_bottom","_law_e"] ["_law_tops","_law_bottom"] (qab qas):=⟨rfl,rfl,rfl,by decide +kernel,rfl,by decide +kernel,by decide +kernel⟩
abbrev qbf:Stmt:=top 24
theorem sc__law_same:FnScope ["_law_tops","_law_bottom","_law_seen","_law_one","_law_other"] ["_law_tops","_law_bottom","_law_seen"] (qab qbf):=⟨rfl,rfl,rfl,by decide +kernel,rfl,by decide +kernel,by decide +kernel⟩
abbrev qaZ:Stmt:=top 25
theorem sc__law_great:FnScope ["_law_great_here","_law_k"] [] (qab qaZ):=⟨rfl,rfl,rfl,by decide +kernel,rfl,by decide +kernel,by decide +kernel⟩
abbrev qa7:Stmt:=top 26
theorem sc__law_made:FnScope ["_law_at","_law_one"] ["_law_at"] (qab qa7):=⟨rfl,rfl,rfl,by decide +kernel,rfl,by decide +kernel,by decide +kernel⟩
abbrev qe6:Stmt:=top 27
theorem sc_law:FnScope ["_law_script","_law_wide","_law_whole_here","_law_low","_law_count","_law_times","_law_size","_law_sign","_law_top","_law_bottom","_law_tops","_law_k","_law_number","_law_shared_here","_law_seen"] ["_law_script"] (qab qe6):=⟨rfl,rfl,rfl,by decide +kernel,rfl,by decide +kernel,by decide +kernel⟩
def exN:List Str:=["YardError","NoNumber","NoName","Twice","TooGreat","NoText","NoRow","NoChange","BelowNought"]
def qf2:Str→Str→Bool:=fun a b=>a == b || b == "YardError"
abbrev qbm:Stmt:=qda (top 3) 0
theorem qeB:FnScope ["self","at"] ["self","at"] (qab qbm):=⟨rfl,rfl,rfl,by decide +kernel,rfl,by decide +kernel,by decide +kernel⟩
abbrev qbJ:Stmt:=qda (top 4) 0
theorem qfM:FnScope ["self","at"] ["self","at"] (qab qbJ):=⟨rfl,rfl,rfl,by decide +kernel,rfl,by decide +kernel,by decide +kernel⟩
abbrev qaR:Stmt:=qda (top 5) 0
theorem qdk:FnScope ["self","at"] ["self","at"] (qab qaR):=⟨rfl,rfl,rfl,by decide +kernel,rfl,by decide +kernel,by decide +kernel⟩
abbrev qbo:Stmt:=qda (top 6) 0
theorem qeK:FnScope ["self","at"] ["self","at"] (qab qbo):=⟨rfl,rfl,rfl,by decide +kernel,rfl,by decide +kernel,by decide +kernel⟩
def qcp:SpD:=fun ds R=>∃ (ns:List Int) (k:Int),ds=[.fzl (ns.map D.int),.int k]∧ns.length≤63∧0≤k∧∀ i:Int,R (.int i)
theorem qdn {n:Nat} {f:Addr} {fd:FuncData} (F:Fun K "_law_cell" "_law_cell" qa9 f fd) (z_len:mg "len"=none):FnOk P w K mg base CX0 (n+1) f fd ["_law_script","_law_k"] (lSp K qcp):=by
  refine F.okD qds (fun ds R h=>?_) (fun cdv A outer s H E ds R hr h=>?_)
  · obtain ⟨ns,k,rfl,_⟩:=h;rfl
  obtain ⟨ns,k,rfl,hz,h0,q⟩:=h
  refine ⟨_,(qb8 (qdZ (qa1 qgN (dvq 1) (PD.q (qaQ qeM rfl z_len PySem.boot_len (qaD (dvq 0) qaT qaa) qaa qah)) (qax _)) (qat (qaO (qeC (dvq 0) (dvq 1) (fun _ _=>rfl)))) qbI)
      (qb8 (qdZ (qa1 (qhY hr.units) (PD.q (qaQ qeM rfl z_len PySem.boot_len (qaD (dvq 0) qaT qaa) qaa qah)) (PD.q qaf) (qax _)) (qat (qaO (dv 1))) qbI)
      (qat (qaO (qaH qbM (PD.q (qeC (dvq 0) (PD.q (qaH qdO (dvq 1) (PD.q (qaQ qeM rfl z_len PySem.boot_len (qaD (dvq 0) qaT qaa) qaa qah)))) (fun _ _=>rfl))) (PD.q (qaH qaU (PD.q qaf) (dvq 1)))))))),?_⟩
  have hl:(ns.map D.int).length≤63:=by rw [List.length_map];exact hz
  refine ⟨fun ρ=>ρ=[some (.v (.fzl (ns.map D.int))),some (.v (.int k))],⟨fun h=>?_,fun h=>rfl⟩,?_⟩
  · have h:=dP h
    obtain ⟨v,hv⟩:=qfi (ns:=ns) (k:=k) h0 (by rw [List.length_map] at h;exact h)
    exact ⟨_,hv,q _⟩
  rintro ρ rfl
  refine ⟨fun ρ=>ns≠[]∧ρ=[some (.v (.fzl (ns.map D.int))),some (.v (.int k))],⟨fun h=>q _,fun h=>⟨fun e=>?_,rfl⟩⟩,?_⟩
  · subst e;cases h
  rintro ρ ⟨hne,rfl⟩
  have hp:(0:Int)<((ns.map D.int).length:Int):=by
    have:=List.length_pos_iff.mpr hne
    rw [List.length_map];omega
  obtain ⟨v,hv⟩:=qfi (ns:=ns) (k:=k % ((ns.map D.int).length:Int)) (Int.emod_nonneg _ (by omega)) (by have:=Int.emod_lt_of_pos k hp;rw [List.length_map] at this ⊢;exact this)
  exact ⟨hp,_,hv,qbB (by decide) (by decide),q _⟩
theorem few {t:Nat} {re z:Int} (h:(2:Int) ^ (29*t)≤re) (hre:re<z*1000) (hz:z<2 ^ 9000):t<400:=by
  refine Nat.lt_of_not_le fun c=>?_
  have h1:(2:Int) ^ (29*t)<2 ^ 9000*1000:=by
    have:z*1000<2 ^ 9000*1000:=by omega
    omega
  have h2:(2:Nat) ^ (29*t)<2 ^ 9000*1000:=by exact_mod_cast h1
  have h3:(2:Nat) ^ (9000+10)≤2 ^ (29*t):=Nat.pow_le_pow_right (by decide) (by omega)
  rw [Nat.pow_add] at h3
  omega
def qbR:SpD:=fun ds R=>∃ c s z:Int,ds=[.int c,.int s,.int z]∧0≤s∧s<2 ^ 32∧0<z∧z<2 ^ 9000∧∀ i:Int,0≤i→i<z→R (.int i)
theorem qcR {n:Nat} {f:Addr} {fd:FuncData} (F:Fun K "_law_mixed" "_law_mixed" qaY f fd) (z_abs:mg "abs"=none):FnOk P w K mg base CX0 (n+1) f fd ["_law_cell_here","_law_salt","_law_size"] (lSp K qbR):=by
  refine F.okD sc__law_mixed (fun ds R h=>?_) (fun cdv A outer s H E ds R hr h=>?_)
  · obtain ⟨c,s0,z,rfl,_⟩:=h;rfl
  obtain ⟨c,s0,z,rfl,hs0,hs1,hz,hzb,q⟩:=h
  refine ⟨_,(qal (qay (i:=3) sc__law_mixed.nd rfl (Or.inl rfl) qaf)
      (qal (qay (i:=4) sc__law_mixed.nd rfl (Or.inl rfl) qaf)
      (qal (qdQ PassesOwn.never (qa1 qgN (dvq 4) (PD.q (qaH qaU (dvq 2) (PD.q qaf))) (qax _)) (qal (qay (i:=5) sc__law_mixed.nd rfl (Or.inl rfl) (qaH qbM (PD.q (qaH qbM (PD.q (qaH qbM (PD.q (qaQ qfr rfl z_abs PyProof.Rows.boot_abs (qaD (dvq 0) qaT qaa) qaa qah)) (PD.q (qaH qaU (PD.q (qaH qaU (PD.q qaf) (dvq 1))) (dvq 1))))) (PD.q (qaH qaU (PD.q qaf) (dvq 1))))) (PD.q qaf)))
      (qal (qay (i:=3) sc__law_mixed.nd rfl (Or.inl rfl) (qaH qbM (PD.q (qaH qaU (dvq 3) (PD.q qaf))) (PD.q (qaH qdO (PD.q (qaH qaU (PD.q (qaH qdO (PD.q (qaH qaU (dvq 5) (PD.q qaf))) (PD.q qaf))) (PD.q qaf))) (PD.q qaf)))))
      (qal (qay (i:=4) sc__law_mixed.nd rfl (Or.inl rfl) (qaH qaU (dvq 4) (PD.q qaf)))
      (qat (qay (i:=1) sc__law_mixed.nd rfl (Or.inl rfl) (qaH qbM (dvq 1) (PD.q qaf))))))))
      (qat (qaO (qaH qdO (dvq 3) (dvq 2))))))),?_⟩
  refine ⟨fun k ρ=>∃ (sa num re:Int) (t:Nat) (u5:Option Sl),ρ=[some (.v (.int c)),some (.v (.int sa)),some (.v (.int z)),some (.v (.int num)),some (.v (.int re)),u5]∧sa=s0+17*t∧(2:Int) ^ (29*t)≤re∧k=(z*1000 - re).toNat,⟨_,s0,0,1,0,_,rfl,by omega,by decide,rfl⟩,?_⟩
  rintro k ρ ⟨sa,num,re,t,u5,rfl,hsa,hre,rfl⟩
  refine ⟨qbr (by decide) (by decide),fun c1=>?_,fun c1=>?_⟩
  · have c1:=dP c1
    have ht:=few hre c1 hzb
    have b1:-(2 ^ 64)<sa:=by omega
    have b2:sa<2 ^ 64:=by omega
    have p1:(0:Int)<2 ^ (29*t):=Int.pow_pos (by decide)
    refine ⟨qbB (by decide) (by decide),qbr b1 b2,qbB (by decide) (by decide),qbr (by decide) (by decide),qbr (by decide) (by decide),(by decide:(0:Int)<2147483647),qbr (by decide) (by decide),(by decide:(0:Int)<1000000007),qbr (by decide) (by decide),_,?_,sa+17,_,re*1000000007,t+1,_,rfl,by omega,?_,rfl⟩
    · show (z*1000 - re*1000000007).toNat<(z*1000 - re).toNat
      omega
    · rw [Nat.mul_add,Int.pow_add]
      have e:(2:Int) ^ (29*1)=536870912:=by decide
      rw [e]
      omega
  · exact ⟨hz,q _ (Int.emod_nonneg _ (by omega)) (Int.emod_lt_of_pos _ hz)⟩
abbrev Dr (d z:Int):Prop:=0≤d∧d<z
abbrev Drawn (ds zs:List Int):Prop:=Paired Dr ds zs
theorem Drawn.take {zs:List Int} {i:Nat} {z:Int} {ds:List Int} (h:Drawn ds (zs.take i)) (hz:zs[i]?=some z) {d:Int} (h0:0≤d) (h1:d<z):Drawn (ds++[d]) (zs.take (i+1)):=by
  rw [qbL hz]
  exact Paired.snoc h ⟨h0,h1⟩
theorem Drawn.len {ds zs:List Int} (h:Drawn ds zs):ds.length=zs.length:=Paired.length h
def qbV:SpD:=fun ds R=>∃ (c s:Int) (zs:List Int),ds=[.int c,.int s,.lst (zs.map D.int)]∧zs.length≤1000∧0≤s∧s<2 ^ 20∧(∀ z∈zs,0<z∧z<2 ^ 9000)∧∀ es:List Int,Drawn es zs→R (.lst (es.map D.int))
theorem qc6 {n:Nat} {f:Addr} {fd:FuncData} (F:Fun K "_law_draws" "_law_draws" qaV f fd) (Q__law_mixed:Cl P w K mg base n "_law_mixed" ["_law_cell_here","_law_salt","_law_size"] qbR) (z_abs:mg "abs"=none) (z_enumerate:mg "enumerate"=none):FnOk P w K mg base CX0 (n+1) f fd ["_law_cell_here","_law_salt","_law_sizes"] (lSp K qbV):=by
  refine F.okD sc__law_draws (fun ds R h=>?_) (fun cdv A outer s H E ds R hr h=>?_)
  · obtain ⟨c,s0,zs,rfl,_⟩:=h;rfl
  obtain ⟨c,s0,zs,rfl,hz,hs0,hs1,hzs,q⟩:=h
  refine ⟨_,(qal (qh5 (i:=3) sc__law_draws.nd rfl (Or.inl rfl) (qcc qap))
      (qal (qay (i:=4) sc__law_draws.nd rfl (Or.inl rfl) (qaQ qfr rfl z_abs PyProof.Rows.boot_abs (qaD (dvq 0) qaT qaa) qaa qah))
      (qal (qay (i:=5) sc__law_draws.nd rfl (Or.inl rfl) (qfZ qgN (dvq 4) (PD.q (qaH qhm (PD.q qaf) (PD.q qaf))) (qax _)))
      (qal (qdE PassesOwn.never rfl (qht rfl z_enumerate (qac (dv 2) qap qaa)) (qe9 (n:=2) rfl (qaI (qaA (i:=6) sc__law_draws.nd rfl (Or.inl rfl)) (qaI (qaA (i:=7) sc__law_draws.nd rfl (Or.inl rfl)) qde))) (qat (qdZ (PWD.td (qf6 (qcT (dvq 5) (fun _=>rfl)) (qey (qa1 (qhY hr.units) (dvq 4) (PD.q qaf) (qax _))))) (qat (qcN 3 (qav Q__law_mixed hr rfl (qac (dv 0) (qac (qaH qbM (dvq 1) (PD.q (qaH qaU (PD.q qaf) (dvq 6)))) (qac (dv 7) qap qaa) qar) qaa) qaa (qai qar (qai qaa qah))) (qfd qak) qak)) (qal (qcN 3 (qaH qdO (dvq 4) (dvq 7)) (qfd qar) qar)
      (qat (qay (i:=4) sc__law_draws.nd rfl (Or.inl rfl) (qaH qcm (dvq 4) (dvq 7))))))))
      (qhQ 3 (qat (qaO (dv 3)))))))),?_⟩
  refine ⟨⟨by decide,by decide,by decide⟩,fun i ρ=>∃ (r:Int) (pl:Bool) (es:List Int) (u6 u7:Option Sl),ρ=[some (.v (.int c)),some (.v (.int s0)),some (.v (.lst (zs.map D.int))),some (.own (es.map D.int)),some (.v (.int r)),some (.v (.bl pl)),u6,u7]∧Drawn es (zs.take i),⟨_,_,[],_,_,rfl,.nil⟩,?_,?_⟩
  · rintro i d ρ hd ⟨r,pl,es,u6,u7,rfl,hD⟩
    obtain ⟨e,he,rfl⟩:=qeh hd
    obtain ⟨z,rfl,hzi⟩:=qf4 he
    have hzm:=hzs z (List.mem_of_getElem? hzi)
    have hi:i<zs.length:=qam hzi
    have ll:(es.map D.int).length<sizeLine:=by
      have:=hD.len
      rw [List.length_take] at this
      rw [List.length_map]
      exact qbk (by omega)
    refine ⟨rfl,?_⟩
    cases pl with
    | true =>
      refine ⟨fun _=>⟨fun _=>?_,fun h=>ff h.symm⟩,fun h=>(by cases h)⟩
      exact ⟨qbB (by decide) (by decide),c,s0+101*(i:Int),z,rfl,by omega,by omega,hzm.1,hzm.2,fun d h0 h1=>⟨ll,_,qfz _ _ _,_,_,es++[d],_,_,rfl,hD.take hzi h0 h1⟩⟩
    | false =>
      refine ⟨fun h=>(by cases h),fun _=>⟨fun h=>?_,fun h=>?_⟩⟩
      · exact ⟨qbB (by decide) (by decide),c,s0+101*(i:Int),z,rfl,by omega,by omega,hzm.1,hzm.2,fun d h0 h1=>⟨ll,_,qfz _ _ _,_,_,es++[d],_,_,rfl,hD.take hzi h0 h1⟩⟩
      · exact ⟨hzm.1,ll,_,qfz _ _ _,CDivB.of hzm.1 hzm.2,_,_,es++[r % z],_,_,rfl,hD.take hzi (Int.emod_nonneg _ (by omega)) (Int.emod_lt_of_pos _ hzm.1)⟩
  · rintro ρ ⟨r,pl,es,u6,u7,rfl,hD⟩
    rw [qce,List.length_map,List.take_length] at hD
    exact q es hD
theorem qgZ {ds:List Int} {z1:Int} (h:Drawn ds [z1]):∃ x1:Int,ds=[x1]∧Dr x1 z1:=by
  cases h with | cons h1 t1 =>
  cases t1
  exact ⟨_,rfl,h1⟩
theorem qha {ds:List Int} {z1 z2:Int} (h:Drawn ds [z1,z2]):∃ x1 x2:Int,ds=[x1,x2]∧Dr x1 z1∧Dr x2 z2:=by
  cases h with | cons h1 t1 =>
  cases t1 with | cons h2 t2 =>
  cases t2
  exact ⟨_,_,rfl,h1,h2⟩
theorem qjw {ds:List Int} {z1 z2 z3 z4 z5:Int} (h:Drawn ds [z1,z2,z3,z4,z5]):∃ x1 x2 x3 x4 x5:Int,ds=[x1,x2,x3,x4,x5]∧Dr x1 z1∧Dr x2 z2∧Dr x3 z3∧Dr x4 z4∧Dr x5 z5:=by
  cases h with | cons h1 t1 =>
  cases t1 with | cons h2 t2 =>
  cases t2 with | cons h3 t3 =>
  cases t3 with | cons h4 t4 =>
  cases t4 with | cons h5 t5 =>
  cases t5
  exact ⟨_,_,_,_,_,rfl,h1,h2,h3,h4,h5⟩
def qaE:SpD:=fun ds R=>∃ a b:Int,ds=[.int a,.int b]∧R (.int (Int.gcd a b))
theorem qbY {n:Nat} {f:Addr} {fd:FuncData} (F:Fun K "common_of_two" "common_of_two" qaG f fd) (z_abs:mg "abs"=none):FnOk P w K mg base CX0 (n+1) f fd ["one","other"] (lSp K qaE):=by
  refine F.okD sc_common_of_two (fun ds R h=>?_) (fun cdv A outer s H E ds R hr h=>?_)
  · obtain ⟨a,b,rfl,_⟩:=h;rfl
  obtain ⟨a,b,rfl,q⟩:=h
  refine ⟨_,(qal (qay (i:=2) sc_common_of_two.nd rfl (Or.inl rfl) (qaQ qfr rfl z_abs PyProof.Rows.boot_abs (qaD (dvq 0) qaT qaa) qaa qah))
      (qal (qay (i:=3) sc_common_of_two.nd rfl (Or.inl rfl) (qaQ qfr rfl z_abs PyProof.Rows.boot_abs (qaD (dvq 1) qaT qaa) qaa qah))
      (qal (qdQ PassesOwn.never (qa1 (qiq hr.units) (dvq 3) (PD.q qaf) (qax _)) (qal (qay (i:=4) sc_common_of_two.nd rfl (Or.inl rfl) (qaH qdO (dvq 2) (dvq 3)))
      (qal (qay (i:=2) sc_common_of_two.nd rfl (Or.inl rfl) (dv 3))
      (qat (qay (i:=3) sc_common_of_two.nd rfl (Or.inl rfl) (dv 4))))))
      (qat (qaO (dv 2)))))),?_⟩
  refine ⟨fun m ρ=>∃ (g l:Int) (u4:Option Sl),ρ=[some (.v (.int a)),some (.v (.int b)),some (.v (.int g)),some (.v (.int l)),u4]∧m=l.toNat∧0≤g∧0≤l∧Int.gcd g l=Int.gcd a b,⟨_,_,_,_,rfl,rfl,by split <;> omega,by split <;> omega,?_⟩,?_⟩
  · have h1:∀ x:Int,(if x<0 then -x else x)=(x.natAbs:Int):=fun x=>by split <;> omega
    rw [h1,h1]
    unfold Int.gcd
    simp
  rintro m ρ ⟨g,l,u4,rfl,rfl,hg,hl,e⟩
  refine ⟨fun h=>?_,fun h=>?_⟩
  · have hne:l≠0:=fun e0=>by rw [e0] at h;cases h
    have hl':0<l:=by omega
    have h1:=Int.emod_lt_of_pos g hl'
    have h2:=Int.emod_nonneg g (b:=l) (by omega)
    exact ⟨hl',(g % l).toNat,by omega,l,g % l,_,rfl,rfl,hl,h2,(qc7 hg hl').trans e⟩
  · have h0:l=0:=by
      have:(!(l == 0))=false:=h
      simp at this
      exact this
    subst h0
    have e2:g=(Int.gcd a b:Int):=by
      rw [← e]
      simp
      omega
    rw [e2]
    exact q
def qcY:SpD:=fun ds R=>∃ ns:List Int,ds=[.tup (ns.map D.int)]∧R (.int (qbC ns))
theorem qfh {n:Nat} {f:Addr} {fd:FuncData} (F:Fun K "common" "common" qb1 f fd) (Q_common_of_two:Cl P w K mg base n "common_of_two" ["one","other"] qaE):FnOk P w K mg base CX0 (n+1) f fd ["numbers"] (lSp K qcY):=by
  refine F.okD sc_common (fun ds R h=>?_) (fun cdv A outer s H E ds R hr h=>?_)
  · obtain ⟨ns,rfl,_⟩:=h;rfl
  obtain ⟨ns,rfl,q⟩:=h
  refine ⟨_,(qal (qay (i:=1) sc_common.nd rfl (Or.inl rfl) qaf)
      (qal (qdE PassesOwn.never rfl (qd9 (dv 0)) (qaA (i:=2) sc_common.nd rfl (Or.inl rfl)) (qat (qay (i:=1) sc_common.nd rfl (Or.inl rfl) (qav Q_common_of_two hr rfl (qac (dv 2) (qac (dv 1) qap qaa) qaa) qaa (qai qaa qah)))))
      (qat (qaO (dv 1))))),?_⟩
  refine ⟨fun i ρ=>∃ u2:Option Sl,ρ=[some (.v (.tup (ns.map D.int))),some (.v (.int (qbC (ns.take i)))),u2],⟨_,rfl⟩,?_,?_⟩
  · rintro i d ρ hd ⟨u2,rfl⟩
    obtain ⟨k,rfl,hk⟩:=qby hd
    refine ⟨_,_,rfl,some (.v (.int k)),?_⟩
    rw [qbL hk,qbH]
    rfl
  · rintro ρ ⟨u2,rfl⟩
    rw [List.length_map,List.take_length]
    exact q
def qa5 (ts:List Int) (b:Int):Int:=Int.gcd (qbC ts) b
def qcV:SpD:=fun ds R=>∃ (ts:List Int) (b:Int),ds=[.tup (ts.map D.int),.int b]∧0<b∧b<2 ^ 9000∧ts.length≤1000∧R (.tup [.tup ((ts.map (· / qa5 ts b)).map D.int),.int (b / qa5 ts b)])
theorem qfS {n:Nat} {f:Addr} {fd:FuncData} (F:Fun K "lowest" "lowest" qbh f fd) (Q_common_of_two:Cl P w K mg base n "common_of_two" ["one","other"] qaE) (Q_common:Cl P w K mg base n "common" ["numbers"] qcY) (z_tuple:mg "tuple"=none):FnOk P w K mg base CX0 (n+1) f fd ["tops","bottom"] (lSp K qcV):=by
  refine F.okD sc_lowest (fun ds R h=>?_) (fun cdv A outer s H E ds R hr h=>?_)
  · obtain ⟨ts,b,rfl,_⟩:=h;rfl
  obtain ⟨ts,b,rfl,b0,b1,hl,q⟩:=h
  refine ⟨_,(qb8 (qdZ (qa1 qgN (dvq 1) (PD.q qaf) (qax _)) (qat qe8) qbI)
      (qal (qay (i:=2) sc_lowest.nd rfl (Or.inr rfl) (qav Q_common_of_two hr rfl (qac (qav Q_common hr rfl (qac (dv 0) qap qaa) qaa qah) (qac (dv 1) qap qaa) qak) qak (qai qaa qah)))
      (qat (qaO (qiT (qac (qb5 qcJ rfl z_tuple PyProof.Rows.boot_tuple (qaD (PD.q (PF.d (qfm (k:=1) (N':=["top","divisor"]) (cap:=[none,some 2]) rfl (.ok (show qdG ["tops","bottom","divisor"] (qab qbh) _ ["top","divisor"] [none,some 2]=true by decide +kernel)) (by decide +kernel) (qff (by decide)) (qd9 (dv 0)) (fun _ _ _ _ _=>(qaA (i:=0) (show List.Nodup (["top","divisor"]:List Str) by decide +kernel) rfl (Or.inl rfl))) (fun _ _ _ _ _=>(qaH qcm (dvq 0) (dvq 1)))))) qaT qbe) qbe qah) (qac (qaH qcm (dvq 1) (dvq 2)) qap qar) qak)))))),?_⟩
  have hd0:0<qa5 ts b:=by
    unfold qa5
    have:=Int.gcd_pos_of_ne_zero_right (qbC ts) (show b≠0 by omega)
    omega
  have hd1:qa5 ts b<2 ^ 9000:=by
    have:qa5 ts b≤b:=by
      unfold qa5
      exact Int.le_of_dvd b0 (Int.gcd_dvd_right ..)
    omega
  refine ⟨fun ρ=>ρ=[some (.v (.tup (ts.map D.int))),some (.v (.int b)),none],⟨fun h=>?_,fun _=>rfl⟩,?_⟩
  · have:=dP h
    omega
  rintro ρ rfl
  refine ⟨ts,rfl,qbC ts,b,rfl,?_⟩
  refine qdx (f:=D.int) (fun x=>x / qa5 ts b) (qbk hl) (fun x _=>⟨CDivB.of hd0 hd1,rfl⟩) ?_
  exact ⟨CDivB.of hd0 hd1,q⟩
def qj4:SpD:=fun ds R=>∃ (a d:Int),ds=[.int a,.int d]∧1≤d∧d<2 ^ 9000∧R (.int (-(-a / d)))
theorem qj8 {n:Nat} {f:Addr} {fd:FuncData} (F:Fun K "up" "up" qiU f fd) :FnOk P w K mg base CX0 (n+1) f fd ["top","bottom"] (lSp K qj4):=by
  refine F.okD qjn (fun ds R h=>?_) (fun cdv A outer s H E ds R hr h=>?_)
  · obtain ⟨a,d,rfl,_⟩:=h;rfl
  obtain ⟨a,d,rfl,h1,h9,q⟩:=h
  refine ⟨_,(qb8 (qdZ (qa1 qgN (dvq 1) (PD.q qaf) (qax _)) (qat qe8) qbI)
      (qat (qaO (qgf (PD.q (qaH qcm (PD.q (qgf (dvq 0))) (dvq 1))))))),?_⟩
  refine ⟨fun ρ=>ρ=[some (.v (.int a)),some (.v (.int d))],⟨fun h=>absurd (dP h) (by omega),fun _=>rfl⟩,?_⟩
  rintro ρ rfl
  exact ⟨CDivB.of (by omega) h9,q⟩
def qbq:SpD:=fun ds R=>∃ i:Int,ds=[.int i]∧R (.bl true)
theorem qcO {n:Nat} {f:Addr} {fd:FuncData} (F:Fun K "_law_whole" "_law_whole" qaX f fd) (z_isinstance:mg "isinstance"=none) (z_int:mg "int"=none) (z_bool:mg "bool"=none):FnOk P w K mg base CX0 (n+1) f fd ["_law_seen"] (lSp K qbq):=by
  refine F.okD qcX (fun ds R h=>?_) (fun cdv A outer s H E ds R hr h=>?_)
  · obtain ⟨i,rfl,_⟩:=h;rfl
  obtain ⟨i,rfl,q⟩:=h
  refine ⟨_,(qat (qaO (qeJ (qgk rfl z_isinstance (dvq 0) (qcg (v:=.ty "int") rfl z_int PyProof.Rows.boot_int rfl) qaa qaa) (qeR (qjp (PD.q (qgk rfl z_isinstance (dvq 0) (qcg (v:=.ty "bool") rfl z_bool PyProof.Rows.boot_bool rfl) qaa qaa))))))),?_⟩
  exact ⟨true,qim i,fun _=>⟨false,qia i,q⟩,fun h=>tf h⟩
def qbE:SpD:=fun ds R=>∃ (d:D) (ns:List Int),ds=[d]∧(d=.lst (ns.map D.int)∨d=.tup (ns.map D.int))∧R (.int (qbC ns))
theorem qct {n:Nat} {f:Addr} {fd:FuncData} (F:Fun K "_law_shared" "_law_shared" qaP f fd) (z_abs:mg "abs"=none):FnOk P w K mg base CX0 (n+1) f fd ["_law_numbers"] (lSp K qbE):=by
  refine F.okD sc__law_shared (fun ds R h=>?_) (fun cdv A outer s H E ds R hr h=>?_)
  · obtain ⟨d,ns,rfl,_⟩:=h;rfl
  obtain ⟨d,ns,rfl,hd,q⟩:=h
  refine ⟨_,(qal (qay (i:=1) sc__law_shared.nd rfl (Or.inl rfl) qaf)
      (qal (qdE PassesOwn.never rfl (qd9 (dv 0)) (qaA (i:=2) sc__law_shared.nd rfl (Or.inl rfl)) (qal (qay (i:=3) sc__law_shared.nd rfl (Or.inl rfl) (qaQ qfr rfl z_abs PyProof.Rows.boot_abs (qaD (dvq 2) qaT qaa) qaa qah))
      (qat (qdQ PassesOwn.never (qa1 qkV (dvq 3) (PD.q qaf) (qax _)) (qal (qay (i:=4) sc__law_shared.nd rfl (Or.inl rfl) (qaH qdO (dvq 1) (dvq 3)))
      (qal (qay (i:=1) sc__law_shared.nd rfl (Or.inl rfl) (dv 3))
      (qat (qay (i:=3) sc__law_shared.nd rfl (Or.inl rfl) (dv 4)))))))))
      (qat (qaO (dv 1))))),?_⟩
  rcases hd with rfl | rfl
  · skip
    refine ⟨fun i ρ=>∃ u2 u3 u4:Option Sl,ρ=[some (.v (.lst (ns.map D.int))),some (.v (.int (qbC (ns.take i)))),u2,u3,u4],⟨_,_,_,rfl⟩,?_,?_⟩
    · rintro i d ρ hd ⟨u2,u3,u4,rfl⟩
      obtain ⟨k,rfl,hk⟩:=qby hd
      have hnn:=qd6 (ns.take i)
      refine ⟨fun m ρ=>∃ (g l:Int) (u4:Option Sl),ρ=[some (.v (.lst (ns.map D.int))),some (.v (.int g)),some (.v (.int k)),some (.v (.int l)),u4]∧m=l.toNat∧0≤g∧0≤l∧Int.gcd g l=Int.gcd k (qbC (ns.take i)),⟨_,_,_,_,rfl,rfl,hnn,by split <;> omega,?_⟩,?_⟩
      · have h1:(if k<0 then -k else k)=(k.natAbs:Int):=by split <;> omega
        rw [h1,Int.gcd_comm]
        unfold Int.gcd
        simp
      rintro m ρ ⟨g,l,u4,rfl,rfl,hg,hl,e⟩
      refine ⟨fun h=>?_,fun h=>?_⟩
      · have hl':0<l:=dP h
        have h1:=Int.emod_lt_of_pos g hl'
        have h2:=Int.emod_nonneg g (b:=l) (by omega)
        exact ⟨hl',(g % l).toNat,by omega,l,g % l,_,rfl,rfl,hl,h2,(qc7 hg hl').trans e⟩
      · have c0:l=0:=by
          have:=of_decide_eq_false h
          omega
        subst c0
        have e2:g=(Int.gcd k (qbC (ns.take i)):Int):=by
          rw [← e]
          simp
          omega
        have e3:qbC (ns.take (i+1))=g:=by rw [qbL hk,qbH,← e2]
        exact ⟨some (.v (.int k)),some (.v (.int 0)),u4,by rw [e3]⟩
    · rintro ρ ⟨u2,u3,u4,rfl⟩
      rw [List.length_map,List.take_length]
      exact q
  · skip
    refine ⟨fun i ρ=>∃ u2 u3 u4:Option Sl,ρ=[some (.v (.tup (ns.map D.int))),some (.v (.int (qbC (ns.take i)))),u2,u3,u4],⟨_,_,_,rfl⟩,?_,?_⟩
    · rintro i d ρ hd ⟨u2,u3,u4,rfl⟩
      obtain ⟨k,rfl,hk⟩:=qby hd
      have hnn:=qd6 (ns.take i)
      refine ⟨fun m ρ=>∃ (g l:Int) (u4:Option Sl),ρ=[some (.v (.tup (ns.map D.int))),some (.v (.int g)),some (.v (.int k)),some (.v (.int l)),u4]∧m=l.toNat∧0≤g∧0≤l∧Int.gcd g l=Int.gcd k (qbC (ns.take i)),⟨_,_,_,_,rfl,rfl,hnn,by split <;> omega,?_⟩,?_⟩
      · have h1:(if k<0 then -k else k)=(k.natAbs:Int):=by split <;> omega
        rw [h1,Int.gcd_comm]
        unfold Int.gcd
        simp
      rintro m ρ ⟨g,l,u4,rfl,rfl,hg,hl,e⟩
      refine ⟨fun h=>?_,fun h=>?_⟩
      · have hl':0<l:=dP h
        have h1:=Int.emod_lt_of_pos g hl'
        have h2:=Int.emod_nonneg g (b:=l) (by omega)
        exact ⟨hl',(g % l).toNat,by omega,l,g % l,_,rfl,rfl,hl,h2,(qc7 hg hl').trans e⟩
      · have c0:l=0:=by
          have:=of_decide_eq_false h
          omega
        subst c0
        have e2:g=(Int.gcd k (qbC (ns.take i)):Int):=by
          rw [← e]
          simp
          omega
        have e3:qbC (ns.take (i+1))=g:=by rw [qbL hk,qbH,← e2]
        exact ⟨some (.v (.int k)),some (.v (.int 0)),u4,by rw [e3]⟩
    · rintro ρ ⟨u2,u3,u4,rfl⟩
      rw [List.length_map,List.take_length]
      exact q
theorem qgs {m:Int}:∀ {ns:List Int},(∀ x∈ns,m∣x)→m∣qbC ns:=by
  have key:∀ (ns:List Int) (d:Int),m∣d→(∀ x∈ns,m∣x)→m∣ns.foldl (fun d x=>(Int.gcd x d:Int)) d:=by
    intro ns
    induction ns with
    | nil=>intro d hd _;exact hd
    | cons x r ih =>
      intro d hd hx
      exact ih _ (Int.dvd_coe_gcd (hx x List.mem_cons_self) hd) fun y hy=>hx y (List.mem_cons_of_mem _ hy)
  intro ns h
  exact key ns 0 (Int.dvd_zero m) h
theorem qga {l:List Int} (h:0<qbC l):qbC (l.map (· / qbC l))=1:=by
  generalize hd:qbC l=d at h
  have h1:d*qbC (l.map (· / d))∣d:=by
    conv=>rhs;rw [← hd]
    refine qgs fun x hx=>?_
    have hx1:d∣x:=by rw [← hd];exact qb3 l x hx
    have hx2:=qb3 (l.map (· / d)) (x / d) (List.mem_map.mpr ⟨x,hx,rfl⟩)
    have:=Int.mul_dvd_mul_left d hx2
    rw [Int.mul_ediv_cancel' hx1] at this
    exact this
  have nn:=qd6 (l.map (· / d))
  generalize qbC (l.map (· / d))=e at *
  obtain ⟨k,hk⟩:=h1
  have h2:d*(e*k)=d*1:=by rw [← Int.mul_assoc,← hk,Int.mul_one]
  have h3:e*k=1:=Int.eq_of_mul_eq_mul_left (by omega) h2
  exact Int.eq_one_of_dvd_one nn ⟨k,h3.symm⟩
theorem qd0 (ts:List Int) (b:Int):qa5 ts b=qbC (ts++[b]):=by
  unfold qa5
  rw [qbH,Int.gcd_comm]
theorem qei {ts:List Int} {b:Int} (h:0<b):0<qa5 ts b:=by
  have:=Int.gcd_pos_of_ne_zero_right (qbC ts) (show b≠0 by omega)
  unfold qa5
  omega
theorem qgw {ts:List Int} {b:Int} (h:0<b):qbC (ts.map (· / qa5 ts b)++[b / qa5 ts b])=1:=by
  have h0:=qei (ts:=ts) h
  have e:ts.map (· / qa5 ts b)++[b / qa5 ts b]=(ts++[b]).map (· / qbC (ts++[b])):=by rw [← qd0,List.map_append];rfl
  rw [e]
  exact qga (by rw [← qd0];exact h0)
theorem qgj {ts:List Int} {b:Int}:(∀ x∈ts,qa5 ts b∣x)∧qa5 ts b∣b:=by
  rw [qd0]
  exact ⟨fun x hx=>qb3 _ x (List.mem_append_left _ hx),qb3 _ b (List.mem_append_right _ (by simp))⟩
theorem toB {R:D→Prop} {a b:Bool} (q:R (.bl a)) (e:b=a):R (.bl b):=e ▸ q
def qkv:SpR:=fun ds W=>∃ a d:Int,ds=[.int a,.int d]∧d<1∧W ⟨"NoNumber",none⟩
theorem qix {n:Nat} {f:Addr} {fd:FuncData} (F:Fun K "up" "up" qiU f fd) (Z_NoNumber:Rz0 K mg "NoNumber"):FnOk P w K mg base (CXo P w) (n+1) f fd ["top","bottom"] (qfX K mg (qf9 qkv)):=by
  refine F.okX qjn (fun ds R W h=>?_) (fun cdv A outer s H E ds R W hcd hr h=>?_)
  · obtain ⟨a,d,rfl,_⟩:=h;rfl
  obtain ⟨a,d,rfl,hd,q⟩:=h
  refine ⟨_,(qio (qkC (qiS (qa1 qgN (dvq 1) (PD.q qaf) (qax _))) (qcs (qiC Z_NoNumber rfl rfl rfl)) qin)
      (qcs (qeu (qe2 (qgf (PD.q (qaH qcm (PD.q (qgf (dvq 0))) (dvq 1)))))))),?_⟩
  refine ⟨fun _=>False,⟨fun _=>q,fun h=>?_⟩,fun _ h=>h.elim⟩
  exact absurd hd (of_decide_eq_false h)
def qek:SpR:=fun ds W=>∃ (ts:List Int) (b:Int),ds=[.tup (ts.map D.int),.int b]∧b<1∧W ⟨"NoNumber",none⟩
theorem qeS {n:Nat} {f:Addr} {fd:FuncData} (F:Fun K "lowest" "lowest" qbh f fd) (Q_common_of_two:Cl P w K mg base n "common_of_two" ["one","other"] qaE) (Q_common:Cl P w K mg base n "common" ["numbers"] qcY) (z_tuple:mg "tuple"=none) (Z_NoNumber:Rz0 K mg "NoNumber"):FnOk P w K mg base (CXo P w) (n+1) f fd ["tops","bottom"] (qfX K mg (qf9 qek)):=by
  refine F.okX sc_lowest (fun ds R W h=>?_) (fun cdv A outer s H E ds R W hcd hr h=>?_)
  · obtain ⟨ts,b,rfl,_⟩:=h;rfl
  obtain ⟨ts,b,rfl,hd,q⟩:=h
  refine ⟨_,(qio (qkC (qiS (qa1 qgN (dvq 1) (PD.q qaf) (qax _))) (qcs (qiC Z_NoNumber rfl rfl rfl)) qin)
      (qfK (qjV (i:=2) sc_lowest.nd rfl (Or.inr rfl) (qe2 (qav Q_common_of_two hr rfl (qac (qav Q_common hr rfl (qac (dv 0) qap qaa) qaa qah) (qac (dv 1) qap qaa) qak) qak (qai qaa qah))))
      (qcs (qeu (qe2 (qiT (qac (qb5 qcJ rfl z_tuple PyProof.Rows.boot_tuple (qaD (PD.q (PF.d (qfm (k:=1) (N':=["top","divisor"]) (cap:=[none,some 2]) rfl (.ok (show qdG ["tops","bottom","divisor"] (qab qbh) _ ["top","divisor"] [none,some 2]=true by decide +kernel)) (by decide +kernel) (qff (by decide)) (qd9 (dv 0)) (fun _ _ _ _ _=>(qaA (i:=0) (show List.Nodup (["top","divisor"]:List Str) by decide +kernel) rfl (Or.inl rfl))) (fun _ _ _ _ _=>(qaH qcm (dvq 0) (dvq 1)))))) qaT qbe) qbe qah) (qac (qaH qcm (dvq 1) (dvq 2)) qap qar) qak))))))),?_⟩
  refine ⟨fun _=>False,⟨fun _=>q,fun h=>?_⟩,fun _ h=>h.elim⟩
  exact absurd hd (of_decide_eq_false h)
def qbA:SpD:=fun ds R=>∃ u:Unit,ds=[.exc "NoNumber" []]∧R (.bl true)
theorem qcU {f:Addr} {fd:FuncData} (F:Fun K "_law_only" "_law_only" qbc f fd) (z_isinstance:mg "isinstance"=none) (z_ValueError:mg "ValueError"=none) (Ex:Exs K mg qf2 exN) (Is:Isa K mg qf2 exN) (e_NoRow:∃ D,mg "NoRow"=some (.ref D)) (e_NoChange:∃ D,mg "NoChange"=some (.ref D)) (e_BelowNought:∃ D,mg "BelowNought"=some (.ref D)) (e_NoText:∃ D,mg "NoText"=some (.ref D)) (e_NoName:∃ D,mg "NoName"=some (.ref D)) (e_Twice:∃ D,mg "Twice"=some (.ref D)) (e_TooGreat:∃ D,mg "TooGreat"=some (.ref D)) (e_NoNumber:∃ D,mg "NoNumber"=some (.ref D)) (e_YardError:∃ D,mg "YardError"=some (.ref D)):FnOkH P w K mg base 1 f fd ["_law_e"] (lSp K qbA):=by
  refine F.okH sc__law_only (fun ds R h=>?_) (fun cdv A outer s H E ds R h=>?_)
  · obtain ⟨u,rfl,_⟩:=h;rfl
  obtain ⟨u,rfl,q⟩:=h
  refine ⟨_,(qal (qay (i:=1) sc__law_only.nd rfl (Or.inl rfl) (qh2 (qbj Ex Is e_NoRow (by decide +kernel) rfl rfl z_isinstance (dv 0) qaa qaa) (qh2 (qbj Ex Is e_NoChange (by decide +kernel) rfl rfl z_isinstance (dv 0) qaa qaa) (qh2 (qbj Ex Is e_BelowNought (by decide +kernel) rfl rfl z_isinstance (dv 0) qaa qaa) (qeR (qbj Ex Is e_NoText (by decide +kernel) rfl rfl z_isinstance (dv 0) qaa qaa))))))
      (qal (qay (i:=1) sc__law_only.nd rfl (Or.inl rfl) (qh2 (dv 1) (qh2 (qbj Ex Is e_NoName (by decide +kernel) rfl rfl z_isinstance (dv 0) qaa qaa) (qh2 (qbj Ex Is e_Twice (by decide +kernel) rfl rfl z_isinstance (dv 0) qaa qaa) (qeR (qbj Ex Is e_TooGreat (by decide +kernel) rfl rfl z_isinstance (dv 0) qaa qaa))))))
      (qat (qaO (qeJ (qbj Ex Is e_NoNumber (by decide +kernel) rfl rfl z_isinstance (dv 0) qaa qaa) (qeJ (qbj Ex Is e_YardError (by decide +kernel) rfl rfl z_isinstance (dv 0) qaa qaa) (qeJ (qkc Ex Is rfl z_ValueError rfl z_isinstance (dv 0) qaa qaa) (qeR (qjp (dvq 1)))))))))),?_⟩
  have m1:("NoNumber":Str)∈exN:=by decide +kernel
  refine ⟨_,_,rfl,m1,fun h=>absurd h (by decide +kernel),fun _=>⟨_,_,rfl,m1,fun h=>absurd h (by decide +kernel),fun _=>⟨_,_,rfl,m1,fun h=>absurd h (by decide +kernel),fun _=>⟨_,_,rfl,m1,?_⟩⟩⟩⟩
  refine ⟨fun h=>absurd h (by decide +kernel),fun _=>⟨_,_,rfl,m1,fun h=>absurd h (by decide +kernel),fun _=>⟨_,_,rfl,m1,fun h=>absurd h (by decide +kernel),fun _=>⟨_,_,rfl,m1,?_⟩⟩⟩⟩
  refine ⟨_,_,rfl,m1,fun _=>⟨_,_,rfl,m1,fun _=>⟨_,_,rfl,m1,fun _=>toB q (by decide +kernel),fun h=>tf h⟩,fun h=>absurd h (by decide +kernel)⟩,fun h=>absurd h (by decide +kernel)⟩
def qa4:SpD:=fun ds R=>∃ a d:Int,ds=[.int a,.int d]∧d<1∧R (.bl true)
theorem qbG {n:Nat} {f:Addr} {fd:FuncData} (F:Fun K "_law_up_refused" "_law_up_refused" qaz f fd) (U_up:ClX P w K mg base (n+1) "up" ["top","bottom"] (orX qj4 qkv)) (V__law_only:ClH P w K mg base "_law_only" ["_law_e"] qbA) (Ex:Exs K mg qf2 exN) (Is:Isa K mg qf2 exN) (e_YardError:∃ D,mg "YardError"=some (.ref D)):FnOk P w K mg base CX0 (n+2) f fd ["_law_top","_law_bottom"] (qjA K (zM qa4)):=by
  refine F.okM sc__law_up_refused (fun as R Rx h=>?_) (fun cdv A outer s H E as R Rx qs hcd hr h hqs=>?_)
  · obtain ⟨_,rfl,a,d,rfl,_⟩:=h;rfl
  obtain ⟨_,rfl,a,d,rfl,hd,q⟩:=h
  obtain rfl:=qkE hqs
  refine ⟨_,(qfK (qiH (fun _ _=>(qcs (qgX (qfT U_up hr rfl rfl (qc8 (qe2 (dv 0)) (qc8 (qe2 (dv 1)) qg9 qaa) qaa) qaa (qai qaa qah))))) (qg5 2 Ex e_YardError (by decide +kernel) rfl sc__law_up_refused.nd (fun _ _=>(qcs (qeu (qe2 (qgT V__law_only ((hr.toH _).mono (by omega)) rfl (qac (dv 2) qap qaa) qaa qah))))) qg6) rfl rfl)
      (qcs (qeu (qe2 qcW)))),?_⟩
  refine .inr ⟨a,d,rfl,hd,by decide +kernel,fun _=>⟨(),rfl,q⟩,fun h=>absurd h (by decide +kernel)⟩
def qaK:SpD:=fun ds R=>∃ (ts:List Int) (b:Int),ds=[.tup (ts.map D.int),.int b]∧b<1∧R (.bl true)
theorem qbi {n:Nat} {f:Addr} {fd:FuncData} (F:Fun K "_law_lowest_refused" "_law_lowest_refused" qas f fd) (U_lowest:ClX P w K mg base (n+1) "lowest" ["tops","bottom"] (orX qcV qek)) (V__law_only:ClH P w K mg base "_law_only" ["_law_e"] qbA) (Ex:Exs K mg qf2 exN) (Is:Isa K mg qf2 exN) (e_NoNumber:∃ D,mg "NoNumber"=some (.ref D)):FnOk P w K mg base CX0 (n+2) f fd ["_law_tops","_law_bottom"] (qjA K (zM qaK)):=by
  refine F.okM sc__law_lowest_refused (fun as R Rx h=>?_) (fun cdv A outer s H E as R Rx qs hcd hr h hqs=>?_)
  · obtain ⟨_,rfl,ts,b,rfl,_⟩:=h;rfl
  obtain ⟨_,rfl,ts,b,rfl,hd,q⟩:=h
  obtain rfl:=qkE hqs
  refine ⟨_,(qfK (qiH (fun _ _=>(qcs (qgX (qfT U_lowest hr rfl rfl (qc8 (qe2 (dv 0)) (qc8 (qe2 (dv 1)) qg9 qaa) qaa) qaa (qai qaa qah))))) (qg5 2 Ex e_NoNumber (by decide +kernel) rfl sc__law_lowest_refused.nd (fun _ _=>(qcs (qeu (qe2 (qgT V__law_only ((hr.toH _).mono (by omega)) rfl (qac (dv 2) qap qaa) qaa qah))))) qg6) rfl rfl)
      (qcs (qeu (qe2 qcW)))),?_⟩
  refine .inr ⟨ts,b,rfl,hd,by decide +kernel,fun _=>⟨(),rfl,q⟩,fun h=>absurd h (by decide +kernel)⟩
theorem qgo {i:Nat} (h:i≤20):((10:Int) ^ (50*i)).natAbs<2 ^ 4000:=by
  have e:((10:Int) ^ (50*i)).natAbs=10 ^ (50*i):=by rw [Int.natAbs_pow];rfl
  rw [e]
  exact Nat.lt_of_le_of_lt (Nat.pow_le_pow_right (by decide) (show 50*i≤1000 by omega)) (by decide +kernel)
def qbX:SpD:=fun ds R=>∃ u:Unit,ds=[]∧R (.int (10 ^ 1000))
theorem qc9 {n:Nat} {f:Addr} {fd:FuncData} (F:Fun K "_law_great" "_law_great" qaZ f fd) (z_range:mg "range"=none):FnOk P w K mg base CX0 (n+1) f fd [] (lSp K qbX):=by
  refine F.okD sc__law_great (fun ds R h=>?_) (fun cdv A outer s H E ds R hr h=>?_)
  · obtain ⟨u,rfl,_⟩:=h;rfl
  obtain ⟨u,rfl,q⟩:=h
  refine ⟨_,(qal (qay (i:=0) sc__law_great.nd rfl (Or.inl rfl) qaf)
      (qal (qdE PassesOwn.never rfl (qec rfl z_range (qac qaf qap qag)) (qaA (i:=1) sc__law_great.nd rfl (Or.inl rfl)) (qat (qay (i:=0) sc__law_great.nd rfl (Or.inl rfl) (qaH qaU (dvq 0) (PD.q (qaH qhm (PD.q qaf) (PD.q qaf)))))))
      (qat (qaO (dv 0))))),?_⟩
  refine ⟨⟨by decide,by decide⟩,fun i ρ=>i≤20∧∃ u1:Option Sl,ρ=[some (.v (.int (10 ^ (50*i)))),u1],⟨by decide,_,rfl⟩,?_,?_⟩
  · rintro i d ρ hd ⟨h20,u1,rfl⟩
    have hi:i<20:=qam (xs:=qcj 0 20) hd
    refine ⟨⟨by decide,by decide,by decide⟩,qaW (m:=4000) (n:=200) (by decide) (by decide) (qgo h20) (by decide +kernel) (by decide),hi,some (.v d),?_⟩
    have e:(10:Int) ^ (50*i)*10 ^ (Int.toNat 50)=10 ^ (50*(i+1)):=by rw [Nat.mul_add,Int.pow_add];rfl
    rw [← e]
    rfl
  · rintro ρ ⟨_,u1,rfl⟩
    exact q
def qch:SpD:=fun ds R=>∃ k:Int,ds=[.int k]∧R (.bl true)
theorem qdt {n:Nat} {f:Addr} {fd:FuncData} (F:Fun K "_law_made" "_law_made" qa7 f fd) (z_isinstance:mg "isinstance"=none) (Z_NoNumber:Rz0 K mg "NoNumber") (Z_NoRow:Rz0 K mg "NoRow") (Z_NoChange:Rz0 K mg "NoChange") (Z_BelowNought:Rz0 K mg "BelowNought") (Z_NoText:Rz1 P w K mg base "NoText") (Z_NoName:Rz1 P w K mg base "NoName") (Z_Twice:Rz1 P w K mg base "Twice") (Z_TooGreat:Rz1 P w K mg base "TooGreat") (Ex:Exs K mg qf2 exN) (Is:Isa K mg qf2 exN) (e_YardError:∃ D,mg "YardError"=some (.ref D)):FnOk P w K mg base CX0 (n+3) f fd ["_law_at"] (lSp K qch):=by
  refine F.okD sc__law_made (fun ds R h=>?_) (fun cdv A outer s H E ds R hr h=>?_)
  · obtain ⟨k,rfl,_⟩:=h;rfl
  obtain ⟨k,rfl,q⟩:=h
  refine ⟨_,(qal (qdE PassesOwn.never rfl (qd9 (PF.d (qcc (qac (qgg Z_NoNumber rfl rfl) (qac (qgg Z_NoRow rfl rfl) (qac (qgg Z_NoChange rfl rfl) (qac (qgg Z_BelowNought rfl rfl) qap qak) qak) qak) qak)))) (qaA (i:=1) sc__law_made.nd rfl (Or.inl rfl)) (qat (qdZ (qdw (qcT (PD.q (qbj Ex Is e_YardError (by decide +kernel) rfl rfl z_isinstance (dv 1) qaa qaa)) (fun _=>rfl))) (qat (qaO qcW)) qbI)))
      (qal (qdE PassesOwn.never rfl (qd9 (PF.d (qcc (qac (qeG Z_NoText rfl rfl (hr.mono (by omega)) (dv 0) qaa) (qac (qeG Z_NoName rfl rfl (hr.mono (by omega)) (dv 0) qaa) (qac (qeG Z_Twice rfl rfl (hr.mono (by omega)) (dv 0) qaa) (qac (qeG Z_TooGreat rfl rfl (hr.mono (by omega)) (dv 0) qaa) qap qak) qak) qak) qak)))) (qaA (i:=1) sc__law_made.nd rfl (Or.inl rfl)) (qat (qdZ (PWD.td (qf6 (qdw (qcT (PD.q (qbj Ex Is e_YardError (by decide +kernel) rfl rfl z_isinstance (dv 1) qaa qaa)) (fun _=>rfl))) (qey (qa1 (qiq hr.units) (PD.q (qho Ex Is (dv 1))) (dvq 0) (qax _))))) (qat (qaO qcW)) qbI)))
      (qat (qaO (qeJ (qfZ qkA (PD.q (qho Ex Is (qeG Z_NoText rfl rfl (hr.mono (by omega)) qeo qag))) (PD.q qeo) (qax _)) (qeR (qfZ qkA (PD.q (qho Ex Is (qeG Z_TooGreat rfl rfl (hr.mono (by omega)) qeo qag))) (PD.q qeo) (qax _)))))))),?_⟩
  refine ⟨fun i ρ=>∃ u1:Option Sl,ρ=[some (.v (.int k)),u1],⟨_,rfl⟩,?_,?_⟩
  · rintro i d ρ hd ⟨u1,rfl⟩
    have hm:d∈[D.exc "NoNumber" [],.exc "NoRow" [],.exc "NoChange" [],.exc "BelowNought" []]:=List.mem_of_getElem? hd
    simp only [List.mem_cons,List.not_mem_nil,or_false] at hm
    rcases hm with rfl | rfl | rfl | rfl <;> exact ⟨_,_,rfl,by decide +kernel,fun h=>absurd h (by decide +kernel),fun _=>⟨_,rfl⟩⟩
  rintro ρ ⟨u1,rfl⟩
  have hn:(!((k == k):Bool))=false:=by rw [beq_self_eq_true];rfl
  refine ⟨trivial,trivial,trivial,trivial,fun i ρ=>∃ u1:Option Sl,ρ=[some (.v (.int k)),u1],⟨_,rfl⟩,?_,?_⟩
  · rintro i d ρ hd ⟨u1,rfl⟩
    have hm:d∈[D.exc "NoText" [.int k],.exc "NoName" [.int k],.exc "Twice" [.int k],.exc "TooGreat" [.int k]]:=List.mem_of_getElem? hd
    simp only [List.mem_cons,List.not_mem_nil,or_false] at hm
    rcases hm with rfl | rfl | rfl | rfl <;> exact ⟨_,_,rfl,by decide +kernel,fun h=>absurd h (by decide +kernel),fun _=>⟨_,_,rfl,by decide +kernel,trivial,fun h=>absurd (hn.symm.trans h) (by decide),fun _=>⟨_,rfl⟩⟩⟩
  rintro ρ ⟨u1,rfl⟩
  refine ⟨trivial,_,_,rfl,by decide +kernel,trivial,fun _=>?_,fun h=>tf h⟩
  exact ⟨trivial,_,_,rfl,by decide +kernel,trivial,q⟩
def qcq:SpD:=fun ds R=>∃ (ts:List Int) (b:Int),ds=[.lst (ts.map D.int),.int b,.tup [.tup ((ts.map (· / qa5 ts b)).map D.int),.int (b / qa5 ts b)]]∧0<b∧b.natAbs<2 ^ 9000∧ts.length≤1000∧(∀ x∈ts,x.natAbs<2 ^ 9000)∧R (.bl true)
theorem qdr {n:Nat} {f:Addr} {fd:FuncData} (F:Fun K "_law_same" "_law_same" qbf f fd) (Q__law_shared:Cl P w K mg base n "_law_shared" ["_law_numbers"] qbE) (Q__law_whole:Cl P w K mg base n "_law_whole" ["_law_seen"] qbq) (z_zip:mg "zip"=none) (z_isinstance:mg "isinstance"=none) (z_tuple:mg "tuple"=none) (z_len:mg "len"=none) (z_list:mg "list"=none):FnOk P w K mg base CX0 (n+1) f fd ["_law_tops","_law_bottom","_law_seen"] (lSp K qcq):=by
  refine F.okD sc__law_same (fun ds R h=>?_) (fun cdv A outer s H E ds R hr h=>?_)
  · obtain ⟨ts,b,rfl,_⟩:=h;rfl
  obtain ⟨ts,b,rfl,hb,hbb,hl,hts,q⟩:=h
  refine ⟨_,(qb8 (qdZ (PWD.td (qf6 (qdw (qcT (PD.q (qgk rfl z_isinstance (dvq 2) (qcg (v:=.ty "tuple") rfl z_tuple PyProof.Rows.boot_tuple rfl) qaa qaa)) (fun _=>rfl))) (qf6 (qa1 (qiq hr.units) (PD.q (qaQ qeM rfl z_len PySem.boot_len (qaD (dvq 2) qaT qaa) qaa qah)) (PD.q qaf) (qax _)) (qey (qdw (qcT (PD.q (qav Q__law_whole hr rfl (qac (qeC (dvq 2) (PD.q qaf) (fun _ _=>rfl)) qap qau) qau qah)) (fun _=>rfl))))))) (qat (qaO qcW)) qbI)
      (qb8 (qdZ (PWD.td (qf6 (qdw (qcT (PD.q (qgk rfl z_isinstance (PD.q (qeC (dvq 2) (PD.q qaf) (fun _ _=>rfl))) (qcg (v:=.ty "tuple") rfl z_tuple PyProof.Rows.boot_tuple rfl) qau qaa)) (fun _=>rfl))) (qf6 (qa1 (qiq hr.units) (PD.q (qaQ qeM rfl z_len PySem.boot_len (qaD (PD.q (qeC (dvq 2) (PD.q qaf) (fun _ _=>rfl))) qaT qau) qau qah)) (PD.q (qaQ qeM rfl z_len PySem.boot_len (qaD (dvq 0) qaT qaa) qaa qah)) (qax _)) (qey (qa1 qgN (PD.q (qeC (dvq 2) (PD.q qaf) (fun _ _=>rfl))) (PD.q qaf) (qax _)))))) (qat (qaO qcW)) qbI)
      (qal (qdE PassesOwn.never rfl (qi1 rfl z_zip (qac (dv 0) (qac (qeC (dvq 2) (PD.q qaf) (fun _ _=>rfl)) qap qau) qaa)) (qe9 (n:=2) rfl (qaI (qaA (i:=3) sc__law_same.nd rfl (Or.inl rfl)) (qaI (qaA (i:=4) sc__law_same.nd rfl (Or.inl rfl)) qde))) (qat (qdZ (PWD.td (qf6 (qdw (qcT (PD.q (qav Q__law_whole hr rfl (qac (dv 4) qap qaa) qaa qah)) (fun _=>rfl))) (qey (qa1 (qiq hr.units) (PD.q (qaH qaU (dvq 3) (PD.q (qeC (dvq 2) (PD.q qaf) (fun _ _=>rfl))))) (PD.q (qaH qaU (dvq 4) (dvq 1))) (qax _))))) (qat (qaO qcW)) qbI)))
      (qat (qaO (qfZ (qhY hr.units) (PD.q (qav Q__law_shared hr rfl (qac (qaH qbM (PD.q (PF.d (qiY rfl z_list (PD.q (qeC (dvq 2) (PD.q qaf) (fun _ _=>rfl))) qau))) (PD.q (PF.d (qcc (qac (qeC (dvq 2) (PD.q qaf) (fun _ _=>rfl)) qap qau))))) qap qar) qar qah)) (PD.q qaf) (qax _))))))),?_⟩
  obtain ⟨g1,g2⟩:=qgj (ts:=ts) (b:=b)
  have g0:=qei (ts:=ts) hb
  have hq0:1≤b / qa5 ts b:=Int.le_ediv_of_mul_le g0 (by rw [Int.one_mul];exact Int.le_of_dvd hb g2)
  have bg:∀ {x:Int},qa5 ts b∣x→x.natAbs<2 ^ 9000→(x / qa5 ts b).natAbs<2 ^ 9000:=fun {x} h1 h2=>by
    have:=Int.natAbs_ediv_le_natAbs x (qa5 ts b)
    omega
  refine ⟨fun ρ=>ρ=[some (.v (.lst (ts.map D.int))),some (.v (.int b)),some (.v (.tup [.tup ((ts.map (· / qa5 ts b)).map D.int),.int (b / qa5 ts b)])),none,none],⟨true,qg4 _,fun h=>ff h,fun _=>⟨fun h=>ff h,fun _=>⟨_,rfl,_,rfl,fun h=>ff h,fun _=>rfl⟩⟩⟩,?_⟩
  rintro ρ rfl
  refine ⟨fun ρ=>ρ=[some (.v (.lst (ts.map D.int))),some (.v (.int b)),some (.v (.tup [.tup ((ts.map (· / qa5 ts b)).map D.int),.int (b / qa5 ts b)])),none,none],⟨_,rfl,true,qg4 _,fun h=>ff h,fun _=>?_⟩,?_⟩
  · refine ⟨_,rfl,fun h=>?_,fun _=>⟨_,rfl,fun h=>?_,fun _=>rfl⟩⟩
    · rw [List.length_map,List.length_map,List.length_map,beq_self_eq_true] at h
      cases h
    · exact absurd (dP h) (by omega)
  rintro ρ rfl
  refine ⟨_,rfl,_,_,rfl,rfl,fun i ρ=>∃ u3 u4:Option Sl,ρ=[some (.v (.lst (ts.map D.int))),some (.v (.int b)),some (.v (.tup [.tup ((ts.map (· / qa5 ts b)).map D.int),.int (b / qa5 ts b)])),u3,u4],⟨_,_,rfl⟩,?_,?_⟩
  · rintro i d ρ hd ⟨u3,u4,rfl⟩
    obtain ⟨x,y,h1,h2,rfl⟩:=qfN hd
    obtain ⟨t,rfl,ht⟩:=qby h1
    obtain ⟨v,rfl,hv⟩:=qby h2
    rw [List.getElem?_map,ht] at hv
    obtain rfl:t / qa5 ts b=v:=Option.some.inj hv
    have htm:=List.mem_of_getElem? ht
    obtain ⟨c,hc⟩:=g1 t htm
    obtain ⟨c',hc'⟩:=id g2
    refine ⟨rfl,_,rfl,fun h=>ff h,fun _=>⟨_,rfl,qaW (m:=9000) (n:=9000) (by decide) (by decide) (hts t htm) (bg g2 hbb) (by decide),qaW (m:=9000) (n:=9000) (by decide) (by decide) (bg (g1 t htm) (hts t htm)) hbb (by decide),fun h=>?_,fun _=>⟨_,_,rfl⟩⟩⟩
    have e:t*(b / qa5 ts b)=t / qa5 ts b*b:=by
      have h1:t / qa5 ts b*qa5 ts b=t:=Int.ediv_mul_cancel (g1 t htm)
      have h2:b / qa5 ts b*qa5 ts b=b:=Int.ediv_mul_cancel g2
      generalize hz:qa5 ts b=z at *
      generalize t / z=p at *
      generalize b / z=q' at *
      rw [← h1,← h2,Int.mul_assoc,Int.mul_comm z q']
    rw [e,beq_self_eq_true] at h
    cases h
  rintro ρ ⟨u3,u4,rfl⟩
  refine ⟨_,rfl,_,rfl,_,rfl,?_⟩
  refine ⟨by show ((ts.map (· / qa5 ts b)).map D.int).length+1≤sizeLine;rw [List.length_map,List.length_map,sizeLine_eq];omega,_,qfz D.int (ts.map (· / qa5 ts b)) (b / qa5 ts b),_,_,rfl,.inl rfl,?_⟩
  rw [qgw hb]
  exact q
abbrev sp_law:=qiG
abbrev qkp:=qgW
theorem qkO {i:Int} (h0:0≤i) (h1:i<3):∃ z:Int,atI [D.int 50,.int (10 ^ Int.toNat 60),.int (10 ^ 1000)] i=some (.int z)∧0<z∧z<2 ^ 3400:=by
  have c:i=0∨i=1∨i=2:=by omega
  rcases c with rfl | rfl | rfl
  · exact ⟨50,rfl,by decide,by decide +kernel⟩
  · exact ⟨10 ^ 60,rfl,by decide +kernel,by decide +kernel⟩
  · exact ⟨10 ^ 1000,rfl,by decide +kernel,by decide +kernel⟩
theorem qg7 {x s:Int} {m:Nat} (h0:0≤x) (h:x<2 ^ m) (k:Dr s 2):(x*(1 - 2*s)).natAbs<2 ^ m:=by
  have e:s=0∨s=1:=by omega
  have h':x.natAbs<2 ^ m:=by
    have:((x.natAbs:Nat):Int)<((2 ^ m:Nat):Int):=by rw [Int.natAbs_of_nonneg h0];exact_mod_cast h
    exact_mod_cast this
  rw [Int.natAbs_mul]
  have:(1 - 2*s).natAbs=1:=by omega
  rw [this,Nat.mul_one]
  exact h'
theorem qih {x:Int} {m:Nat} (h0:0≤x) (h:x<2 ^ m):x.natAbs<2 ^ m:=by
  have:((x.natAbs:Nat):Int)<((2 ^ m:Nat):Int):=by rw [Int.natAbs_of_nonneg h0];exact_mod_cast h
  exact_mod_cast this
theorem qcK {x y:Int} {m k:Nat} (hx:x.natAbs<2 ^ m) (hy:y.natAbs<2 ^ k):(x*y).natAbs<2 ^ (m+k):=by
  rw [Int.natAbs_mul,Nat.pow_add]
  exact Nat.mul_lt_mul'' hx hy
theorem qbz {x:Int} {m k:Nat} (h:x.natAbs<2 ^ m) (hm:m≤k:=by decide):x.natAbs<2 ^ k:=Nat.lt_of_lt_of_le h (Nat.pow_le_pow_right (by decide) hm)
theorem qer {x:Int} (h0:0≤x) (h:x<2 ^ 3400):(1+x).natAbs<2 ^ 3401:=by
  have e:(2:Int) ^ 3401=2*2 ^ 3400:=by decide +kernel
  have p:(1:Int)≤2 ^ 3400:=by decide +kernel
  exact qih (by omega) (by rw [e];omega)
theorem qjR {a d:Int} (h:0<d):a≤-(-a / d)*d∧(-(-a / d) - 1)*d<a:=by
  have h1:=Int.ediv_mul_le (-a) (b:=d) (by omega)
  have h2:=Int.lt_ediv_add_one_mul_self (-a) h
  rw [Int.add_mul,Int.one_mul] at h2
  rw [Int.neg_mul,Int.sub_mul,Int.neg_mul,Int.one_mul]
  omega
abbrev S02 (ns:List Int) (wide whole low count times z:Int) (u7 u8 u9 u10 u11 u12 u13 u14:Option Sl):Rho:=[some (.v (.fzl (ns.map D.int))),some (.v (.int wide)),some (.v (.int whole)),some (.v (.int low)),some (.v (.int count)),some (.v (.int times)),some (.v (.int z)),u7,u8,u9,u10,u11,u12,u13,u14]
theorem qjs {n:Nat} {f:Addr} {fd:FuncData} (F:Fun K "law" "law" qe6 f fd) (Q__law_draws:Cl P w K mg base n "_law_draws" ["_law_cell_here","_law_salt","_law_sizes"] qbV) (Q_up:Cl P w K mg base n "up" ["top","bottom"] qj4) (Q__law_same:Cl P w K mg base n "_law_same" ["_law_tops","_law_bottom","_law_seen"] qcq) (Q__law_cell:Cl P w K mg base n "_law_cell" ["_law_script","_law_k"] qcp) (Q__law_made:Cl P w K mg base n "_law_made" ["_law_at"] qch) (Q_lowest:Cl P w K mg base n "lowest" ["tops","bottom"] qcV) (Q__law_great:Cl P w K mg base n "_law_great" [] qbX) (Q__law_up_refused:Cl P w K mg base n "_law_up_refused" ["_law_top","_law_bottom"] qa4) (Q__law_lowest_refused:Cl P w K mg base n "_law_lowest_refused" ["_law_tops","_law_bottom"] qaK) (Q__law_whole:Cl P w K mg base n "_law_whole" ["_law_seen"] qbq) (z_range:mg "range"=none) (z_tuple:mg "tuple"=none):FnOk P w K mg base CX0 (n+1) f fd ["_law_script"] (lSp K qkp):=by
  refine F.okD sc_law (fun ds R h=>?_) (fun cdv A outer s H E ds R hr h=>?_)
  · obtain ⟨ns,rfl,_⟩:=h;rfl
  obtain ⟨ns,rfl,hz,q⟩:=h
  refine ⟨_,(qal (qhi (qav Q__law_draws hr rfl (qac (qav Q__law_cell hr rfl (qac (dv 0) (qac qaf qap qag) qaa) qaa (qai qag qah)) (qac qaf (qac (PF.d (qcc (qac qaf (qac qaf (qac qaf (qac qaf (qac qaf qap qag) qag) qag) qag) qag))) qap qa0) qag) qak) qak (qai qag (qai qa0 qah))) (qe9 (n:=5) rfl (qaI (qaA (i:=1) sc_law.nd rfl (Or.inl rfl)) (qaI (qaA (i:=2) sc_law.nd rfl (Or.inl rfl)) (qaI (qaA (i:=3) sc_law.nd rfl (Or.inl rfl)) (qaI (qaA (i:=4) sc_law.nd rfl (Or.inl rfl)) (qaI (qaA (i:=5) sc_law.nd rfl (Or.inl rfl)) qde)))))))
      (qal (qay (i:=6) sc_law.nd rfl (Or.inl rfl) (qeC (PD.q (PF.d (qcc (qac qaf (qac (qaH qhm (PD.q qaf) (PD.q qaf)) (qac (qhl Q__law_great hr rfl) qap qak) qar) qag)))) (dvq 1) (fun _ _=>rfl)))
      (qb8 (qdZ (qdw (qcT (PD.q (qav Q__law_made hr rfl (qac (qaH qbM (PD.q qaf) (dvq 4)) qap qar) qar qah)) (fun _=>rfl))) (qat (qaO qcW)) qbI)
      (qal (qhi (qav Q__law_draws hr rfl (qac (qav Q__law_cell hr rfl (qac (dv 0) (qac qaf qap qag) qaa) qaa (qai qag qah)) (qac qaf (qac (PF.d (qcc (qac qaf (qac (dv 6) qap qaa) qag))) qap qa0) qag) qak) qak (qai qag (qai qa0 qah))) (qe9 (n:=2) rfl (qaI (qaA (i:=7) sc_law.nd rfl (Or.inl rfl)) (qaI (qaA (i:=8) sc_law.nd rfl (Or.inl rfl)) qde))))
      (qal (qay (i:=9) sc_law.nd rfl (Or.inl rfl) (qaH qbM (PD.q qaf) (PD.q (qeC (PD.q (qav Q__law_draws hr rfl (qac (qav Q__law_cell hr rfl (qac (dv 0) (qac qaf qap qag) qaa) qaa (qai qag qah)) (qac qaf (qac (PF.d (qcc (qac (dv 6) qap qaa))) qap qa0) qag) qak) qak (qai qag (qai qa0 qah)))) (PD.q qaf) (fun _ _=>rfl)))))
      (qal (qay (i:=8) sc_law.nd rfl (Or.inl rfl) (qaH qaU (dvq 8) (PD.q (qaH qf8 (PD.q qaf) (PD.q (qaH qaU (PD.q qaf) (dvq 7)))))))
      (qb8 (qdZ (qa1 (qhY hr.units) (dvq 2) (PD.q qaf) (qax _)) (qat (qay (i:=8) sc_law.nd rfl (Or.inl rfl) (qaH qaU (dvq 8) (dvq 9)))) qbI)
      (qal (qh5 (i:=10) sc_law.nd rfl (Or.inl rfl) (qcc qap))
      (qal (qdE PassesOwn.never rfl (qec rfl z_range (qac (dv 4) qap qaa)) (qaA (i:=11) sc_law.nd rfl (Or.inl rfl)) (qal (qhi (qav Q__law_draws hr rfl (qac (qav Q__law_cell hr rfl (qac (dv 0) (qac (qaH qbM (PD.q qaf) (dvq 11)) qap qar) qaa) qaa (qai qar qah)) (qac (qaH qbM (PD.q qaf) (dvq 11)) (qac (PF.d (qcc (qac qaf (qac (dv 6) qap qaa) qag))) qap qa0) qar) qak) qak (qai qar (qai qa0 qah))) (qe9 (n:=2) rfl (qaI (qaA (i:=7) sc_law.nd rfl (Or.inl rfl)) (qaI (qaA (i:=12) sc_law.nd rfl (Or.inl rfl)) qde))))
      (qat (qcN 10 (qaH qaU (dvq 12) (PD.q (qaH qf8 (PD.q qaf) (PD.q (qaH qaU (PD.q qaf) (dvq 7)))))) (qfd qar) qar))))
      (qb8 (qdZ (qa1 (qhY hr.units) (dvq 5) (PD.q qaf) (qax _)) (qal (qay (i:=13) sc_law.nd rfl (Or.inr rfl) (qaH qbM (PD.q qaf) (PD.q (qeC (PD.q (qav Q__law_draws hr rfl (qac (qav Q__law_cell hr rfl (qac (dv 0) (qac qaf qap qag) qaa) qaa (qai qag qah)) (qac qaf (qac (PF.d (qcc (qac (dv 6) qap qaa))) qap qa0) qag) qak) qak (qai qag (qai qa0 qah)))) (PD.q qaf) (fun _ _=>rfl)))))
      (qhQ 10 (qal (qgv (i:=10) (k:=1) (N':=["_law_number","_law_shared_here"]) (cap:=[none,some 13]) rfl sc_law.nd rfl (Or.inl rfl) (.ok (show qdG ["_law_script","_law_wide","_law_whole_here","_law_low","_law_count","_law_times","_law_size","_law_sign","_law_top","_law_bottom","_law_tops","_law_k","_law_number","_law_shared_here","_law_seen"] (qab qe6) _ ["_law_number","_law_shared_here"] [none,some 13]=true by decide +kernel)) (by decide +kernel) (qff (by decide)) (qd9 (dv 10)) (fun _ _ _ _ _=>(qaA (i:=0) (show List.Nodup (["_law_number","_law_shared_here"]:List Str) by decide +kernel) rfl (Or.inl rfl))) (fun _ _ _ _ _=>(qaH qaU (dvq 0) (dvq 1))))
      (qat (qay (i:=9) sc_law.nd rfl (Or.inl rfl) (qaH qaU (dvq 9) (dvq 13))))))) qbI)
      (qb8 (qdZ (qa1 (qhY hr.units) (dvq 3) (PD.q qaf) (qax _)) (qal (qay (i:=9) sc_law.nd rfl (Or.inl rfl) (qaH qf8 (PD.q qaf) (dvq 9)))
      (qat (qaO (qeJ (qav Q__law_up_refused hr rfl (qac (dv 8) (qac (dv 9) qap qaa) qaa) qaa (qai qaa qah)) (qeR (qav Q__law_lowest_refused hr rfl (qac (qb5 qcJ rfl z_tuple PyProof.Rows.boot_tuple (qaD (dvq 10) qaT qaa) qaa qah) (qac (dv 9) qap qaa) qak) qak (qai qaa qah))))))) qbI)
      (qal (qay (i:=14) sc_law.nd rfl (Or.inl rfl) (qav Q_up hr rfl (qac (dv 8) (qac (dv 9) qap qaa) qaa) qaa (qai qaa qah)))
      (qb8 (qdZ (PWD.td (qf6 (qdw (qcT (PD.q (qav Q__law_whole hr rfl (qac (dv 14) qap qaa) qaa qah)) (fun _=>rfl))) (qf6 (qa1 qgN (PD.q (qaH qaU (dvq 14) (dvq 9))) (dvq 8) (qax _)) (qey (qa1 qkX (PD.q (qaH qaU (PD.q (qaH qf8 (dvq 14) (PD.q qaf))) (dvq 9))) (dvq 8) (qax _)))))) (qat (qaO qcW)) qbI)
      (qhQ 10 (qat (qaO (qav Q__law_same hr rfl (qac (dv 10) (qac (dv 9) (qac (qav Q_lowest hr rfl (qac (qb5 qcJ rfl z_tuple PyProof.Rows.boot_tuple (qaD (dvq 10) qaT qaa) qaa qah) (qac (dv 9) qap qaa) qak) qak (qai qaa qah)) qap qak) qaa) qaa) qaa (qai qaa (qai qak qah))))))))))))))))))),?_⟩
  refine ⟨ns,0,rfl,hz,by decide,fun c0=>?_⟩
  refine ⟨c0,3,[3,3,4,9,2],rfl,by decide,by decide,by decide,by decide +kernel,fun es hD=>?_⟩
  obtain ⟨wide,whole,low,count,times,rfl,d1,d2,d3,d4,d5⟩:=qjw hD
  obtain ⟨z,hzp,z0,z1⟩:=qkO d1.1 d1.2
  have z9:z<2 ^ 9000:=Int.lt_trans z1 (by decide +kernel)
  refine ⟨rfl,⟨by decide,by decide,by decide⟩,(),rfl,_,hzp,?_⟩
  refine ⟨fun ρ=>ρ=S02 ns wide whole low count times z none none none none none none none none,⟨1+count,rfl,fun h=>ff h,fun _=>rfl⟩,?_⟩
  rintro ρ rfl
  refine ⟨ns,1,rfl,hz,by decide,fun c1=>?_⟩
  refine ⟨c1,5,[2,z],rfl,by show 2≤1000;decide,by decide,by decide,fun x hx=>?_,fun es hD=>?_⟩
  · simp only [List.mem_cons,List.not_mem_nil,or_false] at hx
    rcases hx with rfl | rfl
    · exact ⟨by decide,by decide +kernel⟩
    · exact ⟨z0,z9⟩
  obtain ⟨sign,top,rfl,e1,e2⟩:=qha hD
  refine ⟨rfl,ns,2,rfl,hz,by decide,fun c2=>?_⟩
  refine ⟨c2,7,[z],rfl,by show 1≤1000;decide,by decide,by decide,fun x hx=>?_,fun es hD=>?_⟩
  · rw [List.mem_singleton.mp hx];exact ⟨z0,z9⟩
  obtain ⟨bot0,rfl,e3⟩:=qgZ hD
  have hb0:0<1+bot0:=by have:=e3.1;omega
  have hb1:=qer e3.1 (Int.lt_trans e3.2 z1)
  have ht0:=qg7 e2.1 (Int.lt_trans e2.2 z1) e1
  refine ⟨_,rfl,qbB (by decide) (by decide),qbr (by have:=e1.2;omega) (by have:=e1.1;omega),?_⟩
  generalize top*(1 - 2*sign)=t at ht0
  generalize hbd:1+bot0=bot at hb0 hb1
  refine ⟨fun ρ=>∃ t':Int,t'.natAbs<2 ^ 6801∧ρ=S02 ns wide whole low count times z (some (.v (.int sign))) (some (.v (.int t'))) (some (.v (.int bot))) none none none none none,⟨fun _=>⟨qaW (m:=3400) (n:=3401) (by decide) (by decide) ht0 hb1 (by decide),_,qcK ht0 hb1,rfl⟩,fun _=>⟨t,qbz ht0,rfl⟩⟩,?_⟩
  rintro ρ ⟨t',ht',rfl⟩
  have hc8:count.toNat≤8:=by have:=d4.2;omega
  have hzs:∀ x∈[2,z],0<x∧x<2 ^ 9000:=fun x hx=>by
    simp only [List.mem_cons,List.not_mem_nil,or_false] at hx
    rcases hx with rfl | rfl
    · exact ⟨by decide,by decide +kernel⟩
    · exact ⟨z0,z9⟩
  refine ⟨⟨by have:=d4.1;omega,by have:=d4.2;omega⟩,fun i ρ=>∃ (ts:List Int) (u7 u11 u12:Option Sl),ts.length=i∧(∀ x∈ts,x.natAbs<2 ^ 3400)∧ρ=S02 ns wide whole low count times z u7 (some (.v (.int t'))) (some (.v (.int bot))) (some (.own (ts.map D.int))) u11 u12 none none,⟨[],_,_,_,rfl,fun x hx=>absurd hx List.not_mem_nil,rfl⟩,?_,?_⟩
  · rintro i d ρ hd ⟨ts,u7,u11,u12,hl,hts,rfl⟩
    obtain ⟨hi,rfl⟩:=qdA hd
    refine ⟨ns,3+(0+(i:Int)),rfl,hz,by omega,fun c3=>?_⟩
    refine ⟨c3,20+(0+(i:Int)),[2,z],rfl,by show 2≤1000;decide,by omega,by omega,hzs,fun es hD=>?_⟩
    obtain ⟨sg,nu,rfl,f1,f2⟩:=qha hD
    refine ⟨rfl,qbB (by decide) (by decide),qbr (by have:=f1.2;omega) (by have:=f1.1;omega),?_,_,qfz D.int ts (nu*(1 - 2*sg)),ts++[nu*(1 - 2*sg)],_,_,_,by rw [List.length_append,hl];rfl,fun x hx=>?_,rfl⟩
    · rw [List.length_map];exact qbk (by omega)
    · rcases List.mem_append.mp hx with hx | hx
      · exact hts x hx
      · rw [List.mem_singleton.mp hx]
        exact qg7 f2.1 (Int.lt_trans f2.2 z1) f1
  rintro ρ ⟨ts,u7,u11,u12,hl,hts,rfl⟩
  have hl8:ts.length≤8:=by rw [hl,qbt];omega
  refine ⟨fun ρ=>∃ (ts:List Int) (b:Int) (u7 u11 u12 u13:Option Sl),ts.length≤8∧(∀ x∈ts,x.natAbs<2 ^ 6802)∧0<b∧b.natAbs<2 ^ 6802∧ρ=S02 ns wide whole low count times z u7 (some (.v (.int t'))) (some (.v (.int b))) (some (.own (ts.map D.int))) u11 u12 u13 none,⟨fun _=>?_,fun _=>⟨ts,bot,_,_,_,_,hl8,fun x hx=>qbz (hts x hx),hb0,qbz hb1,rfl⟩⟩,?_⟩
  · refine ⟨ns,12,rfl,hz,by decide,fun c2=>?_⟩
    refine ⟨c2,9,[z],rfl,by show 1≤1000;decide,by decide,by decide,fun x hx=>hzs x (List.mem_cons_of_mem _ hx),fun es hD=>?_⟩
    obtain ⟨sh0,rfl,e4⟩:=qgZ hD
    have hs0:0<1+sh0:=by have:=e4.1;omega
    have hs1:=qer e4.1 (Int.lt_trans e4.2 z1)
    refine ⟨_,rfl,?_⟩
    refine qdx (f:=D.int) (fun x=>x*(1+sh0)) (qbk (by omega)) (fun x hx=>⟨qaW (m:=3400) (n:=3401) (by decide) (by decide) (hts x hx) hs1 (by decide),rfl⟩) ?_
    refine ⟨qaW (m:=3401) (n:=3401) (by decide) (by decide) hb1 hs1 (by decide),ts.map (·*(1+sh0)),bot*(1+sh0),_,_,_,_,by rw [List.length_map];exact hl8,fun x hx=>?_,Int.mul_pos hb0 hs0,qcK hb1 hs1,rfl⟩
    obtain ⟨y,hy,rfl⟩:=List.mem_map.mp hx
    exact qbz (qcK (hts y hy) hs1)
  rintro ρ ⟨ts,b,u7,u11,u12,u13,hl,hts,hb,hbb,rfl⟩
  have b9:b<2 ^ 9000:=by
    have h1:b.natAbs<2 ^ 9000:=qbz hbb
    have h2:((b.natAbs:Nat):Int)<((2 ^ 9000:Nat):Int):=by exact_mod_cast h1
    rw [Int.natAbs_of_nonneg (by omega)] at h2
    exact_mod_cast h2
  refine ⟨fun ρ=>ρ=S02 ns wide whole low count times z u7 (some (.v (.int t'))) (some (.v (.int b))) (some (.own (ts.map D.int))) u11 u12 u13 none,⟨fun _=>?_,fun _=>rfl⟩,?_⟩
  · exact ⟨t',1 - b,rfl,by omega,fun _=>⟨ts,1 - b,rfl,by omega,q⟩,fun h=>tf h⟩
  rintro ρ rfl
  obtain ⟨k1,k2⟩:=qjR (a:=t') hb
  refine ⟨t',b,rfl,by omega,b9,?_⟩
  have hu:(-(-t' / b)).natAbs<2 ^ 6801:=by
    have:=Int.natAbs_ediv_le_natAbs (-t') b
    omega
  generalize hup:-(-t' / b)=u at *
  refine ⟨fun ρ=>ρ=S02 ns wide whole low count times z u7 (some (.v (.int t'))) (some (.v (.int b))) (some (.own (ts.map D.int))) u11 u12 u13 (some (.v (.int u))),⟨u,rfl,fun h=>ff h,fun _=>?_⟩,?_⟩
  · refine ⟨qaW (m:=6801) (n:=6802) (by decide) (by decide) hu hbb (by decide),fun h=>absurd (dP h) (by omega),fun _=>⟨qaW (m:=6802) (n:=6802) (by decide) (by decide) ?_ hbb (by decide),fun h=>absurd (dP h) (by omega),fun _=>rfl⟩⟩
    have:(u - 1).natAbs≤u.natAbs+1:=by omega
    have h2:(2:Nat) ^ 6802=2*2 ^ 6801:=by decide +kernel
    have h3:(1:Nat)≤2 ^ 6801:=Nat.one_le_two_pow
    omega
  rintro ρ rfl
  exact ⟨ts,b,rfl,hb,b9,by omega,ts,b,rfl,hb,qbz hbb,by omega,fun x hx=>qbz (hts x hx),q⟩
end
theorem qlr {A:Type} {p:List A→Prop} (h:p []):∀ us:List A,us.length=0→p us
  | [],_=>h
theorem qi9 {A:Type} {p:List A→Prop} (h:∀ a0,p [a0]):∀ us:List A,us.length=1→p us
  | [a0],_=>h a0
theorem qeY {A:Type} {p:List A→Prop} (h:∀ a0 a1,p [a0,a1]):∀ us:List A,us.length=2→p us
  | [a0,a1],_=>h a0 a1
theorem qj1 {A:Type} {p:List A→Prop} (h:∀ a0 a1 a2,p [a0,a1,a2]):∀ us:List A,us.length=3→p us
  | [a0,a1,a2],_=>h a0 a1 a2
theorem all_mk {l:PySem.W.OpenLaw} {w:World} {K:PySem.W.Frag} {h:Heap} {mg:Str→Option Value} {fa:Addr} (X:K.In h) (G:h.Ns mainGlobals mg) (hfa:mg "law"=some (.ref fa))

    (a1:Has K qaG "common_of_two")
    (a2:Has K qb1 "common")
    (a3:Has K qiU "up")
    (a4:Has K qbh "lowest")
    (a5:Has K qaX "_law_whole")
    (a6:Has K qa9 "_law_cell")
    (a7:Has K qaY "_law_mixed")
    (a8:Has K qaV "_law_draws")
    (a9:Has K qaP "_law_shared")
    (a10:Has K qbc "_law_only")
    (a11:Has K qaz "_law_up_refused")
    (a12:Has K qas "_law_lowest_refused")
    (a13:Has K qbf "_law_same")
    (a14:Has K qaZ "_law_great")
    (a15:Has K qa7 "_law_made")
    (a16:Has K qe6 "law")
    (y_abs:PySem.W.nsIn K mainGlobals "abs"=some none)
    (y_tuple:PySem.W.nsIn K mainGlobals "tuple"=some none)
    (y_isinstance:PySem.W.nsIn K mainGlobals "isinstance"=some none)
    (y_int:PySem.W.nsIn K mainGlobals "int"=some none)
    (y_bool:PySem.W.nsIn K mainGlobals "bool"=some none)
    (y_len:PySem.W.nsIn K mainGlobals "len"=some none)
    (y_enumerate:PySem.W.nsIn K mainGlobals "enumerate"=some none)
    (y_ValueError:PySem.W.nsIn K mainGlobals "ValueError"=some none)
    (y_zip:PySem.W.nsIn K mainGlobals "zip"=some none)
    (y_list:PySem.W.nsIn K mainGlobals "list"=some none)
    (y_range:PySem.W.nsIn K mainGlobals "range"=some none)
    (ex9:qdS K qf2 exN=true)
    (ei_NoNumber:initOf K "NoNumber"=some none)
    (ei_NoRow:initOf K "NoRow"=some none)
    (ei_NoChange:initOf K "NoChange"=some none)
    (ei_BelowNought:initOf K "BelowNought"=some none)
    {EC_NoText fi_NoText:Addr} {eod_NoText ean_NoText:Option Addr} {ekV_NoText edc_NoText epm_NoText ecd_NoText ect_NoText:Value} {esl_NoText:Array (Option Value)} (eg_NoText:PySem.W.nsIn K mainGlobals "NoText"=some (some (.ref EC_NoText))) (ef_NoText:PySem.W.findIn K (.ref EC_NoText) "__init__"=some (some (.ref fi_NoText))) (el_NoText:K.lookup fi_NoText=some ⟨.type "function",eod_NoText,.func (PySem.W.fnOf "__init__" "NoText.__init__" (qaC qbo) (qao qbo) (qab qbo) .none ekV_NoText edc_NoText epm_NoText ean_NoText ecd_NoText ect_NoText),esl_NoText⟩) (ec_NoText:PySem.W.codeIn K ecd_NoText "NoText.__init__"=true) (ek_NoText:PySem.W.keepIn K (.ref fi_NoText)=true) (ei_NoText:initOf K "NoText"=some (some (.ref fi_NoText)))
    {EC_NoName fi_NoName:Addr} {eod_NoName ean_NoName:Option Addr} {ekV_NoName edc_NoName epm_NoName ecd_NoName ect_NoName:Value} {esl_NoName:Array (Option Value)} (eg_NoName:PySem.W.nsIn K mainGlobals "NoName"=some (some (.ref EC_NoName))) (ef_NoName:PySem.W.findIn K (.ref EC_NoName) "__init__"=some (some (.ref fi_NoName))) (el_NoName:K.lookup fi_NoName=some ⟨.type "function",eod_NoName,.func (PySem.W.fnOf "__init__" "NoName.__init__" (qaC qbm) (qao qbm) (qab qbm) .none ekV_NoName edc_NoName epm_NoName ean_NoName ecd_NoName ect_NoName),esl_NoName⟩) (ec_NoName:PySem.W.codeIn K ecd_NoName "NoName.__init__"=true) (ek_NoName:PySem.W.keepIn K (.ref fi_NoName)=true) (ei_NoName:initOf K "NoName"=some (some (.ref fi_NoName)))
    {EC_Twice fi_Twice:Addr} {eod_Twice ean_Twice:Option Addr} {ekV_Twice edc_Twice epm_Twice ecd_Twice ect_Twice:Value} {esl_Twice:Array (Option Value)} (eg_Twice:PySem.W.nsIn K mainGlobals "Twice"=some (some (.ref EC_Twice))) (ef_Twice:PySem.W.findIn K (.ref EC_Twice) "__init__"=some (some (.ref fi_Twice))) (el_Twice:K.lookup fi_Twice=some ⟨.type "function",eod_Twice,.func (PySem.W.fnOf "__init__" "Twice.__init__" (qaC qbJ) (qao qbJ) (qab qbJ) .none ekV_Twice edc_Twice epm_Twice ean_Twice ecd_Twice ect_Twice),esl_Twice⟩) (ec_Twice:PySem.W.codeIn K ecd_Twice "Twice.__init__"=true) (ek_Twice:PySem.W.keepIn K (.ref fi_Twice)=true) (ei_Twice:initOf K "Twice"=some (some (.ref fi_Twice)))
    {EC_TooGreat fi_TooGreat:Addr} {eod_TooGreat ean_TooGreat:Option Addr} {ekV_TooGreat edc_TooGreat epm_TooGreat ecd_TooGreat ect_TooGreat:Value} {esl_TooGreat:Array (Option Value)} (eg_TooGreat:PySem.W.nsIn K mainGlobals "TooGreat"=some (some (.ref EC_TooGreat))) (ef_TooGreat:PySem.W.findIn K (.ref EC_TooGreat) "__init__"=some (some (.ref fi_TooGreat))) (el_TooGreat:K.lookup fi_TooGreat=some ⟨.type "function",eod_TooGreat,.func (PySem.W.fnOf "__init__" "TooGreat.__init__" (qaC qaR) (qao qaR) (qab qaR) .none ekV_TooGreat edc_TooGreat epm_TooGreat ean_TooGreat ecd_TooGreat ect_TooGreat),esl_TooGreat⟩) (ec_TooGreat:PySem.W.codeIn K ecd_TooGreat "TooGreat.__init__"=true) (ek_TooGreat:PySem.W.keepIn K (.ref fi_TooGreat)=true) (ei_TooGreat:initOf K "TooGreat"=some (some (.ref fi_TooGreat))) :
    ∃ fd:FuncData,(∀ (s:Shared) (v:Value),BindsTo s fd ⟨[v],[]⟩ [("_law_script",v)])∧∀ base:Heap,K.In base→base.Ns mainGlobals mg→FnOk l.prog w K mg base CX0 5 fa fd ["_law_script"] (sp_law K):=by
  obtain ⟨f1,d1,F1,m1,_⟩:=a1.fn X G
  obtain ⟨f2,d2,F2,m2,_⟩:=a2.fn X G
  obtain ⟨f3,d3,F3,m3,_⟩:=a3.fn X G
  obtain ⟨f4,d4,F4,m4,_⟩:=a4.fn X G
  obtain ⟨f5,d5,F5,m5,_⟩:=a5.fn X G
  obtain ⟨f6,d6,F6,m6,_⟩:=a6.fn X G
  obtain ⟨f7,d7,F7,m7,_⟩:=a7.fn X G
  obtain ⟨f8,d8,F8,m8,_⟩:=a8.fn X G
  obtain ⟨f9,d9,F9,m9,_⟩:=a9.fn X G
  obtain ⟨f10,d10,F10,m10,_⟩:=a10.fn X G
  obtain ⟨f11,d11,F11,m11,_⟩:=a11.fn X G
  obtain ⟨f12,d12,F12,m12,_⟩:=a12.fn X G
  obtain ⟨f13,d13,F13,m13,_⟩:=a13.fn X G
  obtain ⟨f14,d14,F14,m14,_⟩:=a14.fn X G
  obtain ⟨f15,d15,F15,m15,_⟩:=a15.fn X G
  obtain ⟨f16,d16,F16,m16,_,_,_,e⟩:=a16.fn X G
  cases hfa.symm.trans m16
  refine ⟨d16,fun s v=>by rw [e];exact .of_eq rfl,fun base _ _=>?_⟩
  have z_abs:=PySem.W.mg_none_of X G y_abs
  have z_tuple:=PySem.W.mg_none_of X G y_tuple
  have z_isinstance:=PySem.W.mg_none_of X G y_isinstance
  have z_int:=PySem.W.mg_none_of X G y_int
  have z_bool:=PySem.W.mg_none_of X G y_bool
  have z_len:=PySem.W.mg_none_of X G y_len
  have z_enumerate:=PySem.W.mg_none_of X G y_enumerate
  have z_ValueError:=PySem.W.mg_none_of X G y_ValueError
  have z_zip:=PySem.W.mg_none_of X G y_zip
  have z_list:=PySem.W.mg_none_of X G y_list
  have z_range:=PySem.W.mg_none_of X G y_range
  have Ex:=qhL X G ex9
  have Is:=qhy X G ex9
  have e_YardError:=qa6 X G ex9 (nm:="YardError") (by decide +kernel)
  have e_NoNumber:=qa6 X G ex9 (nm:="NoNumber") (by decide +kernel)
  have e_NoName:=qa6 X G ex9 (nm:="NoName") (by decide +kernel)
  have e_Twice:=qa6 X G ex9 (nm:="Twice") (by decide +kernel)
  have e_TooGreat:=qa6 X G ex9 (nm:="TooGreat") (by decide +kernel)
  have e_NoText:=qa6 X G ex9 (nm:="NoText") (by decide +kernel)
  have e_NoRow:=qa6 X G ex9 (nm:="NoRow") (by decide +kernel)
  have e_NoChange:=qa6 X G ex9 (nm:="NoChange") (by decide +kernel)
  have e_BelowNought:=qa6 X G ex9 (nm:="BelowNought") (by decide +kernel)
  have Z_NoNumber:Rz0 K mg "NoNumber":=qcQ X G ex9 (by decide +kernel) ei_NoNumber
  have Z_NoRow:Rz0 K mg "NoRow":=qcQ X G ex9 (by decide +kernel) ei_NoRow
  have Z_NoChange:Rz0 K mg "NoChange":=qcQ X G ex9 (by decide +kernel) ei_NoChange
  have Z_BelowNought:Rz0 K mg "BelowNought":=qcQ X G ex9 (by decide +kernel) ei_BelowNought
  have Z_NoText:Rz1 l.prog w K mg base "NoText":=qc1 X G ex9 (by decide +kernel) ei_NoText el_NoText rfl ec_NoText ek_NoText qeK rfl (Or.inl rfl) (Or.inl rfl) (fun _=>rfl) (fun _ _ _ _ _ _=>qeY fun _ _=>rfl)
  have Z_NoName:Rz1 l.prog w K mg base "NoName":=qc1 X G ex9 (by decide +kernel) ei_NoName el_NoName rfl ec_NoName ek_NoName qeB rfl (Or.inl rfl) (Or.inl rfl) (fun _=>rfl) (fun _ _ _ _ _ _=>qeY fun _ _=>rfl)
  have Z_Twice:Rz1 l.prog w K mg base "Twice":=qc1 X G ex9 (by decide +kernel) ei_Twice el_Twice rfl ec_Twice ek_Twice qfM rfl (Or.inl rfl) (Or.inl rfl) (fun _=>rfl) (fun _ _ _ _ _ _=>qeY fun _ _=>rfl)
  have Z_TooGreat:Rz1 l.prog w K mg base "TooGreat":=qc1 X G ex9 (by decide +kernel) ei_TooGreat el_TooGreat rfl ec_TooGreat ek_TooGreat qdk rfl (Or.inl rfl) (Or.inl rfl) (fun _=>rfl) (fun _ _ _ _ _ _=>qeY fun _ _=>rfl)
  have H1:=qbY (P:=l.prog) (w:=w) (mg:=mg) (base:=base) (n:=0) F1 z_abs
  have Q1:=F1.cl m1 H1 <| fun _ _ _ _ _ _=>qeY fun _ _=>rfl
  have H2:=qfh (n:=1) F2 (Q1.mono (by decide))
  have Q2:=F2.cl m2 H2 <| fun _ _ _ _ _ _=>qi9 fun _=>rfl
  have H3:=qj8 (P:=l.prog) (w:=w) (mg:=mg) (base:=base) (n:=0) F3
  have Q3:=F3.cl m3 H3 <| fun _ _ _ _ _ _=>qeY fun _ _=>rfl
  have HX3:=qix (P:=l.prog) (w:=w) (mg:=mg) (base:=base) (n:=0) F3 Z_NoNumber
  have U3:=F3.clX m3 (H3.orX HX3) <| fun _ _ _ _ _ _=>qeY fun _ _=>rfl
  have H4:=qfS (P:=l.prog) (w:=w) (mg:=mg) (base:=base) (n:=2) F4 (Q1.mono (by decide)) (Q2.mono (by decide)) z_tuple
  have Q4:=F4.cl m4 H4 <| fun _ _ _ _ _ _=>qeY fun _ _=>rfl
  have HX4:=qeS (P:=l.prog) (w:=w) (mg:=mg) (base:=base) (n:=2) F4 (Q1.mono (by decide)) (Q2.mono (by decide)) z_tuple Z_NoNumber
  have U4:=F4.clX m4 (H4.orX HX4) <| fun _ _ _ _ _ _=>qeY fun _ _=>rfl
  have H5:=qcO (P:=l.prog) (w:=w) (mg:=mg) (base:=base) (n:=0) F5 z_isinstance z_int z_bool
  have Q5:=F5.cl m5 H5 <| fun _ _ _ _ _ _=>qi9 fun _=>rfl
  have H6:=qdn (P:=l.prog) (w:=w) (mg:=mg) (base:=base) (n:=0) F6 z_len
  have Q6:=F6.cl m6 H6 <| fun _ _ _ _ _ _=>qeY fun _ _=>rfl
  have H7:=qcR (P:=l.prog) (w:=w) (mg:=mg) (base:=base) (n:=0) F7 z_abs
  have Q7:=F7.cl m7 H7 <| fun _ _ _ _ _ _=>qj1 fun _ _ _=>rfl
  have H8:=qc6 (n:=1) F8 (Q7.mono (by decide)) z_abs z_enumerate
  have Q8:=F8.cl m8 H8 <| fun _ _ _ _ _ _=>qj1 fun _ _ _=>rfl
  have H9:=qct (P:=l.prog) (w:=w) (mg:=mg) (base:=base) (n:=0) F9 z_abs
  have Q9:=F9.cl m9 H9 <| fun _ _ _ _ _ _=>qi9 fun _=>rfl
  have HH10:=qcU (P:=l.prog) (w:=w) (mg:=mg) (base:=base) F10 z_isinstance z_ValueError Ex Is e_NoRow e_NoChange e_BelowNought e_NoText e_NoName e_Twice e_TooGreat e_NoNumber e_YardError
  have V10:=F10.clH m10 HH10 <| fun _ _ _ _ _ _=>qi9 fun _=>rfl
  have H11:=qbG (P:=l.prog) (w:=w) (mg:=mg) (base:=base) (n:=0) F11 (U3.mono (by decide)) V10 Ex Is e_YardError
  have Q11:=F11.cl m11 (H11.imp qe1) <| fun _ _ _ _ _ _=>qeY fun _ _=>rfl
  have H12:=qbi (P:=l.prog) (w:=w) (mg:=mg) (base:=base) (n:=2) F12 (U4.mono (by decide)) V10 Ex Is e_NoNumber
  have Q12:=F12.cl m12 (H12.imp qe1) <| fun _ _ _ _ _ _=>qeY fun _ _=>rfl
  have H13:=qdr (n:=1) F13 (Q9.mono (by decide)) (Q5.mono (by decide)) z_zip z_isinstance z_tuple z_len z_list
  have Q13:=F13.cl m13 H13 <| fun _ _ _ _ _ _=>qj1 fun _ _ _=>rfl
  have H14:=qc9 (P:=l.prog) (w:=w) (mg:=mg) (base:=base) (n:=0) F14 z_range
  have Q14:=F14.cl m14 H14 <| fun _ _ _ _ _ _=>qlr rfl
  have H15:=qdt (P:=l.prog) (w:=w) (mg:=mg) (base:=base) (n:=0) F15 z_isinstance Z_NoNumber Z_NoRow Z_NoChange Z_BelowNought Z_NoText Z_NoName Z_Twice Z_TooGreat Ex Is e_YardError
  have Q15:=F15.cl m15 H15 <| fun _ _ _ _ _ _=>qi9 fun _=>rfl
  have H16:=qjs (n:=4) F16 (Q8.mono (by decide)) (Q3.mono (by decide)) (Q13.mono (by decide)) (Q6.mono (by decide)) (Q15.mono (by decide)) (Q4.mono (by decide)) (Q14.mono (by decide)) (Q11.mono (by decide)) (Q12.mono (by decide)) (Q5.mono (by decide)) z_range z_tuple
  exact H16.imp qgc
theorem walk {l:PySem.W.OpenLaw} {q:Program} {loose:List Str} {XP:(Str→Option Value)→Heap→Prop} {YP:World→Heap→Prop} {d:DefRec} {K:Params→PySem.W.Frag} (hn:l.most=some 63) (hdf:d.params.defaults=[]) (him:PyProof.Rows.importsNone q=true)
    (hY:∀ (w:World) (h:Heap),YP w h→(K w.params).In h) (hN:∀ w:World,PySem.W.nsIn (K w.params) mainGlobals "least_grown"=some none∧PySem.W.nsIn (K w.params) mainGlobals "greatest_first"=some none)
    (F:∀ (w:World) (mg:Str→Option Value) (fa:Addr) (h:Heap),(K w.params).In h→h.Ns mainGlobals mg→mg d.name=some (.ref fa) →
      ∃ fd:FuncData,(∀ (s:Shared) (u:Value),BindsTo s fd ⟨[u],[]⟩ [("_law_script",u)])∧∀ base:Heap,(K w.params).In base→base.Ns mainGlobals mg→FnOk l.prog w (K w.params) mg base CX0 5 fa fd ["_law_script"] (sp_law (K w.params))) :
    PySem.W.WalkO q loose XP YP l.row.toRowW d [] (fun f vs=>PySem.call f vs) :=
  L2.walk_of (n:=63) (k:=5) (x:="_law_script") (CX:=fun _=>CX0) (sp:=fun w=>sp_law (K w.params)) hn (by decide) hdf him ⟨rfl,by decide,by decide⟩ hY F (fun w H a ns hl _ hS=>⟨a,ns,rfl,hS,hl,(fun t ht=>by rw [qfx (hN w)] at ht;cases ht),fun _=>rfl⟩) fun _ _ _ _ _ z=>z
end Kx
namespace Kx
open PySem PySem.W L2
def KK:Params→Frag:=fun P =>
  (nat_lit 2,⟨.none,none,(.dict #[] 0),#[]⟩) ::
  (nat_lit 3,⟨(.type "dict"),none,(.dict #[dE P "__name__" 165 ((.str "law_cutyard_k02_up_and_lowest" 407)),dE P "__doc__" 166 (.none),dE P "__package__" 167 (.none),dE P "__loader__" 168 ((.builtin "__main__.__loader__#opaque")),dE P "__spec__" 169 (.none),dE P "__annotations__" 170 ((.ref 6)),dE P "__builtins__" 171 ((.ref 4)),dE P "__file__" 173 ((.str "/claim/cut.py" 172)),dE P "__cached__" 174 (.none),dE P "YardError" 206 ((.ref 24)),dE P "NoNumber" 222 ((.ref 37)),dE P "NoName" 247 ((.ref 56)),dE P "Twice" 272 ((.ref 75)),dE P "TooGreat" 297 ((.ref 94)),dE P "NoText" 322 ((.ref 113)),dE P "NoRow" 338 ((.ref 125)),dE P "NoChange" 354 ((.ref 137)),dE P "BelowNought" 370 ((.ref 149)),dE P "common_of_two" 383 ((.ref 158)),dE P "common" 392 ((.ref 165)),dE P "up" 400 ((.ref 172)),dE P "lowest" 406 ((.ref 177)),dE P "_law_whole" 415 ((.ref 184)),dE P "_law_cell" 423 ((.ref 191)),dE P "_law_mixed" 435 ((.ref 198)),dE P "_law_draws" 449 ((.ref 205)),dE P "_law_shared" 460 ((.ref 212)),dE P "_law_only" 468 ((.ref 219)),dE P "_law_up_refused" 477 ((.ref 226)),dE P "_law_lowest_refused" 486 ((.ref 233)),dE P "_law_same" 497 ((.ref 240)),dE P "_law_great" 505 ((.ref 247)),dE P "_law_made" 513 ((.ref 254)),dE P "law" 519 ((.ref 259))] 34),#[]⟩) ::
  (nat_lit 15,⟨(.type "tuple"),none,(.seq #[(.type "ValueError")] 0),#[]⟩) ::
  (nat_lit 22,⟨(.type "tuple"),none,(.seq #[] 0),#[]⟩) ::
  (nat_lit 23,⟨(.type "dict"),none,(.dict #[dE P "__module__" 196 ((.str "cutyard.errors" 187)),dE P "__firstlineno__" 200 ((.int 2 199)),dE P "__static_attributes__" 201 ((.ref 22)),dE P "__weakref__" 203 ((.ref 25)),dE P "__doc__" 204 (.none)] 3),#[]⟩) ::
  (nat_lit 24,⟨(.type "type"),none,(.cls ⟨"YardError",[(.type "ValueError")],[(.ref 24),(.type "ValueError"),(.type "Exception"),(.type "BaseException"),(.type "object")],23,"YardError",true,[],[(.ref 37),(.ref 56),(.ref 75),(.ref 94),(.ref 113),(.ref 125),(.ref 137),(.ref 149)],false,none,false⟩),#[(some (.ref 15)),none,(some (.str "YardError" 189)),(some (.str "YardError" 197)),(some (.builtin "ValueError.__new__")),(some (.bool true))]⟩) ::
  (nat_lit 25,⟨(.type "getset_descriptor"),none,(.fields #[(.str "__weakref__" 202),(.ref 24),(.builtin "ExceptionGroup.__weakref__"),.none]),#[]⟩) ::
  (nat_lit 28,⟨(.type "tuple"),none,(.seq #[(.ref 24)] 0),#[]⟩) ::
  (nat_lit 35,⟨(.type "tuple"),none,(.seq #[] 0),#[]⟩) ::
  (nat_lit 36,⟨(.type "dict"),none,(.dict #[dE P "__module__" 214 ((.str "cutyard.errors" 187)),dE P "__firstlineno__" 218 ((.int 4 217)),dE P "__static_attributes__" 219 ((.ref 35)),dE P "__doc__" 220 (.none)] 2),#[]⟩) ::
  (nat_lit 37,⟨(.type "type"),none,(.cls ⟨"NoNumber",[(.ref 24)],[(.ref 37),(.ref 24),(.type "ValueError"),(.type "Exception"),(.type "BaseException"),(.type "object")],36,"NoNumber",true,[],[],false,none,false⟩),#[(some (.ref 28)),none,(some (.str "NoNumber" 207)),(some (.str "NoNumber" 215)),(some (.builtin "ValueError.__new__")),(some (.bool true))]⟩) ::
  (nat_lit 40,⟨(.type "tuple"),none,(.seq #[(.ref 24)] 0),#[]⟩) ::
(nat_lit 52,cO "__init__" 235 "NoName.__init__" 236 237 8 2 3 47 181 48 (.ref 49) (.ref 50) 51 240 241) ::
  (nat_lit 53,fO qbm "__init__" "NoName.__init__" "cutyard.errors" 187 52) ::
  (nat_lit 54,⟨(.type "tuple"),none,(.seq #[(.str "at" 243)] 0),#[]⟩) ::
  (nat_lit 55,⟨(.type "dict"),none,(.dict #[dE P "__module__" 230 ((.str "cutyard.errors" 187)),dE P "__firstlineno__" 234 ((.int 6 233)),dE P "__init__" 242 ((.ref 53)),dE P "__static_attributes__" 244 ((.ref 54)),dE P "__doc__" 245 (.none)] 2),#[]⟩) ::
  (nat_lit 56,⟨(.type "type"),none,(.cls ⟨"NoName",[(.ref 24)],[(.ref 56),(.ref 24),(.type "ValueError"),(.type "Exception"),(.type "BaseException"),(.type "object")],55,"NoName",true,[],[],false,none,false⟩),#[(some (.ref 40)),none,(some (.str "NoName" 223)),(some (.str "NoName" 231)),(some (.builtin "ValueError.__new__")),(some (.bool true))]⟩) ::
  (nat_lit 59,⟨(.type "tuple"),none,(.seq #[(.ref 24)] 0),#[]⟩) ::
(nat_lit 71,cO "__init__" 260 "Twice.__init__" 261 262 12 2 3 66 181 67 (.ref 68) (.ref 69) 70 265 266) ::
  (nat_lit 72,fO qbJ "__init__" "Twice.__init__" "cutyard.errors" 187 71) ::
  (nat_lit 73,⟨(.type "tuple"),none,(.seq #[(.str "at" 268)] 0),#[]⟩) ::
  (nat_lit 74,⟨(.type "dict"),none,(.dict #[dE P "__module__" 255 ((.str "cutyard.errors" 187)),dE P "__firstlineno__" 259 ((.int 10 258)),dE P "__init__" 267 ((.ref 72)),dE P "__static_attributes__" 269 ((.ref 73)),dE P "__doc__" 270 (.none)] 2),#[]⟩) ::
  (nat_lit 75,⟨(.type "type"),none,(.cls ⟨"Twice",[(.ref 24)],[(.ref 75),(.ref 24),(.type "ValueError"),(.type "Exception"),(.type "BaseException"),(.type "object")],74,"Twice",true,[],[],false,none,false⟩),#[(some (.ref 59)),none,(some (.str "Twice" 248)),(some (.str "Twice" 256)),(some (.builtin "ValueError.__new__")),(some (.bool true))]⟩) ::
  (nat_lit 78,⟨(.type "tuple"),none,(.seq #[(.ref 24)] 0),#[]⟩) ::
(nat_lit 90,cO "__init__" 285 "TooGreat.__init__" 286 287 16 2 3 85 181 86 (.ref 87) (.ref 88) 89 290 291) ::
  (nat_lit 91,fO qaR "__init__" "TooGreat.__init__" "cutyard.errors" 187 90) ::
  (nat_lit 92,⟨(.type "tuple"),none,(.seq #[(.str "at" 293)] 0),#[]⟩) ::
  (nat_lit 93,⟨(.type "dict"),none,(.dict #[dE P "__module__" 280 ((.str "cutyard.errors" 187)),dE P "__firstlineno__" 284 ((.int 14 283)),dE P "__init__" 292 ((.ref 91)),dE P "__static_attributes__" 294 ((.ref 92)),dE P "__doc__" 295 (.none)] 2),#[]⟩) ::
  (nat_lit 94,⟨(.type "type"),none,(.cls ⟨"TooGreat",[(.ref 24)],[(.ref 94),(.ref 24),(.type "ValueError"),(.type "Exception"),(.type "BaseException"),(.type "object")],93,"TooGreat",true,[],[],false,none,false⟩),#[(some (.ref 78)),none,(some (.str "TooGreat" 273)),(some (.str "TooGreat" 281)),(some (.builtin "ValueError.__new__")),(some (.bool true))]⟩) ::
  (nat_lit 97,⟨(.type "tuple"),none,(.seq #[(.ref 24)] 0),#[]⟩) ::
(nat_lit 109,cO "__init__" 310 "NoText.__init__" 311 312 20 2 3 104 181 105 (.ref 106) (.ref 107) 108 315 316) ::
  (nat_lit 110,fO qbo "__init__" "NoText.__init__" "cutyard.errors" 187 109) ::
  (nat_lit 111,⟨(.type "tuple"),none,(.seq #[(.str "at" 318)] 0),#[]⟩) ::
  (nat_lit 112,⟨(.type "dict"),none,(.dict #[dE P "__module__" 305 ((.str "cutyard.errors" 187)),dE P "__firstlineno__" 309 ((.int 18 308)),dE P "__init__" 317 ((.ref 110)),dE P "__static_attributes__" 319 ((.ref 111)),dE P "__doc__" 320 (.none)] 2),#[]⟩) ::
  (nat_lit 113,⟨(.type "type"),none,(.cls ⟨"NoText",[(.ref 24)],[(.ref 113),(.ref 24),(.type "ValueError"),(.type "Exception"),(.type "BaseException"),(.type "object")],112,"NoText",true,[],[],false,none,false⟩),#[(some (.ref 97)),none,(some (.str "NoText" 298)),(some (.str "NoText" 306)),(some (.builtin "ValueError.__new__")),(some (.bool true))]⟩) ::
  (nat_lit 116,⟨(.type "tuple"),none,(.seq #[(.ref 24)] 0),#[]⟩) ::
  (nat_lit 123,⟨(.type "tuple"),none,(.seq #[] 0),#[]⟩) ::
  (nat_lit 124,⟨(.type "dict"),none,(.dict #[dE P "__module__" 330 ((.str "cutyard.errors" 187)),dE P "__firstlineno__" 334 ((.int 22 333)),dE P "__static_attributes__" 335 ((.ref 123)),dE P "__doc__" 336 (.none)] 2),#[]⟩) ::
  (nat_lit 125,⟨(.type "type"),none,(.cls ⟨"NoRow",[(.ref 24)],[(.ref 125),(.ref 24),(.type "ValueError"),(.type "Exception"),(.type "BaseException"),(.type "object")],124,"NoRow",true,[],[],false,none,false⟩),#[(some (.ref 116)),none,(some (.str "NoRow" 323)),(some (.str "NoRow" 331)),(some (.builtin "ValueError.__new__")),(some (.bool true))]⟩) ::
  (nat_lit 128,⟨(.type "tuple"),none,(.seq #[(.ref 24)] 0),#[]⟩) ::
  (nat_lit 135,⟨(.type "tuple"),none,(.seq #[] 0),#[]⟩) ::
  (nat_lit 136,⟨(.type "dict"),none,(.dict #[dE P "__module__" 346 ((.str "cutyard.errors" 187)),dE P "__firstlineno__" 350 ((.int 24 349)),dE P "__static_attributes__" 351 ((.ref 135)),dE P "__doc__" 352 (.none)] 2),#[]⟩) ::
  (nat_lit 137,⟨(.type "type"),none,(.cls ⟨"NoChange",[(.ref 24)],[(.ref 137),(.ref 24),(.type "ValueError"),(.type "Exception"),(.type "BaseException"),(.type "object")],136,"NoChange",true,[],[],false,none,false⟩),#[(some (.ref 128)),none,(some (.str "NoChange" 339)),(some (.str "NoChange" 347)),(some (.builtin "ValueError.__new__")),(some (.bool true))]⟩) ::
  (nat_lit 140,⟨(.type "tuple"),none,(.seq #[(.ref 24)] 0),#[]⟩) ::
  (nat_lit 147,⟨(.type "tuple"),none,(.seq #[] 0),#[]⟩) ::
  (nat_lit 148,⟨(.type "dict"),none,(.dict #[dE P "__module__" 362 ((.str "cutyard.errors" 187)),dE P "__firstlineno__" 366 ((.int 26 365)),dE P "__static_attributes__" 367 ((.ref 147)),dE P "__doc__" 368 (.none)] 2),#[]⟩) ::
  (nat_lit 149,⟨(.type "type"),none,(.cls ⟨"BelowNought",[(.ref 24)],[(.ref 149),(.ref 24),(.type "ValueError"),(.type "Exception"),(.type "BaseException"),(.type "object")],148,"BelowNought",true,[],[],false,none,false⟩),#[(some (.ref 140)),none,(some (.str "BelowNought" 355)),(some (.str "BelowNought" 363)),(some (.builtin "ValueError.__new__")),(some (.bool true))]⟩) ::
(nat_lit 157,cO "common_of_two" 373 "common_of_two" 374 375 29 2 3 152 181 153 (.ref 154) (.ref 155) 156 381 382) ::
  (nat_lit 158,fO qaG "common_of_two" "common_of_two" "cutyard.wholes" 371 157) ::
(nat_lit 164,cO "common" 384 "common" 385 386 37 1 3 159 181 160 (.ref 161) (.ref 162) 163 390 391) ::
  (nat_lit 165,fO qb1 "common" "common" "cutyard.wholes" 371 164) ::
(nat_lit 171,cO "up" 393 "up" 394 395 42 2 3 166 181 167 (.ref 168) (.ref 169) 170 398 399) ::
  (nat_lit 172,fO qiU "up" "up" "cutyard.wholes" 371 171) ::
(nat_lit 176,cO "lowest" 401 "lowest" 402 403 46 2 3 173 181 174 .none .none 175 404 405) ::
  (nat_lit 177,fO qbh "lowest" "lowest" "cutyard.wholes" 371 176) ::
(nat_lit 183,cO "_law_whole" 409 "_law_whole" 410 411 52 1 3 178 181 179 (.ref 180) (.ref 181) 182 413 414) ::
  (nat_lit 184,fO qaX "_law_whole" "_law_whole" "law_cutyard_k02_up_and_lowest" 407 183) ::
(nat_lit 190,cO "_law_cell" 416 "_law_cell" 417 418 54 2 3 185 181 186 (.ref 187) (.ref 188) 189 421 422) ::
  (nat_lit 191,fO qa9 "_law_cell" "_law_cell" "law_cutyard_k02_up_and_lowest" 407 190) ::
(nat_lit 197,cO "_law_mixed" 424 "_law_mixed" 425 426 60 3 3 192 181 193 (.ref 194) (.ref 195) 196 433 434) ::
  (nat_lit 198,fO qaY "_law_mixed" "_law_mixed" "law_cutyard_k02_up_and_lowest" 407 197) ::
(nat_lit 204,cO "_law_draws" 436 "_law_draws" 437 438 69 3 3 199 181 200 (.ref 201) (.ref 202) 203 447 448) ::
  (nat_lit 205,fO qaV "_law_draws" "_law_draws" "law_cutyard_k02_up_and_lowest" 407 204) ::
(nat_lit 211,cO "_law_shared" 450 "_law_shared" 451 452 80 1 3 206 181 207 (.ref 208) (.ref 209) 210 458 459) ::
  (nat_lit 212,fO qaP "_law_shared" "_law_shared" "law_cutyard_k02_up_and_lowest" 407 211) ::
(nat_lit 218,cO "_law_only" 461 "_law_only" 462 463 89 1 3 213 181 214 (.ref 215) (.ref 216) 217 466 467) ::
  (nat_lit 219,fO qbc "_law_only" "_law_only" "law_cutyard_k02_up_and_lowest" 407 218) ::
(nat_lit 225,cO "_law_up_refused" 469 "_law_up_refused" 470 471 93 2 3 220 181 221 (.ref 222) (.ref 223) 224 475 476) ::
  (nat_lit 226,fO qaz "_law_up_refused" "_law_up_refused" "law_cutyard_k02_up_and_lowest" 407 225) ::
(nat_lit 232,cO "_law_lowest_refused" 478 "_law_lowest_refused" 479 480 99 2 3 227 181 228 (.ref 229) (.ref 230) 231 484 485) ::
  (nat_lit 233,fO qas "_law_lowest_refused" "_law_lowest_refused" "law_cutyard_k02_up_and_lowest" 407 232) ::
(nat_lit 239,cO "_law_same" 487 "_law_same" 488 489 105 3 3 234 181 235 (.ref 236) (.ref 237) 238 495 496) ::
  (nat_lit 240,fO qbf "_law_same" "_law_same" "law_cutyard_k02_up_and_lowest" 407 239) ::
(nat_lit 246,cO "_law_great" 498 "_law_great" 499 500 114 0 3 241 181 242 (.ref 243) (.ref 244) 245 503 504) ::
  (nat_lit 247,fO qaZ "_law_great" "_law_great" "law_cutyard_k02_up_and_lowest" 407 246) ::
(nat_lit 253,cO "_law_made" 506 "_law_made" 507 508 119 1 3 248 181 249 (.ref 250) (.ref 251) 252 511 512) ::
  (nat_lit 254,fO qa7 "_law_made" "_law_made" "law_cutyard_k02_up_and_lowest" 407 253) ::
(nat_lit 258,cO "law" 514 "law" 515 516 127 1 3 255 181 256 .none .none 257 517 518) ::
  (nat_lit 259,fO qe6 "law" "law" "law_cutyard_k02_up_and_lowest" 407 258)::[]
end Kx
def PySem.W.Fast.tw13247685402207407135:=PySem.Challenge.pw_cutyard_k02_up_and_lowest
theorem PySem.W.Fast.te13247685402207407135:PySem.Challenge.pw_cutyard_k02_up_and_lowest=PySem.W.Fast.tw13247685402207407135:=rfl
def PySem.W.Fast.tw5385739360559341639:=Kx.KK
theorem PySem.W.Fast.te5385739360559341639:Kx.KK=PySem.W.Fast.tw5385739360559341639:=rfl
theorem PySem.W.Fast.tw10389814261087491368:True:=trivial
theorem PySem.W.Fast.tw13250250270432615447:True:=trivial
theorem PySem.W.Fast.tw15355488552539258567:True:=trivial
theorem PySem.W.Fast.tw15958710673340973533:True:=trivial
theorem PySem.W.Fast.tw18146083552505850029:True:=trivial
theorem PySem.W.Fast.tw3503289870046049353:True:=trivial
theorem PySem.W.Fast.tw5761237288568842384:True:=trivial
theorem PySem.W.Fast.tw6208605716785681793:True:=trivial
theorem PySem.W.Fast.tw6644807433783335033:True:=trivial
theorem PySem.W.Fast.tw6685186798128126014:True:=trivial
theorem PySem.W.Fast.tw7334331641821760840:True:=trivial
theorem PySem.W.Fast.tw8303572331868829925:True:=trivial
theorem PySem.W.Fast.tw8319270234981232784:True:=trivial
theorem PySem.W.Fast.tw8754137636042085386:True:=trivial
theorem PySem.W.Fast.tw9753990209099187817:True:=trivial
open PySem PySem.W PyProof.Rows
set_option maxRecDepth 100000 in
set_option maxHeartbeats 0 in
theorem PySem.Challenge.cw_cutyard_k02_up_and_lowest_holds : PySem.Challenge.rw_cutyard_k02_up_and_lowest.Holds := by
  w_on;o_law;o_head (kHook Kx.KK (2::3::15::22::23::24::25::28::35::36::37::40::52::53::54::55::56::59::71::72::73::74::75::78::90::91::92::93::94::97::109::110::111::112::113::116::123::124::125::128::135::136::137::140::147::148::149::157::158::164::165::171::172::176::177::183::184::190::191::197::198::204::205::211::212::218::219::225::226::232::233::239::240::246::247::253::254::258::259::[]) (fun _=>by kernel_rfl));(case hw=>w_witness2)
  k_fill
  refine Kx.walk (l:=PySem.Challenge.rw_cutyard_k02_up_and_lowest) rfl rfl (by decide +kernel) (fun w h Y=>PySem.W.kIn_of Y) (fun w=>⟨?N1,?N2⟩) ?F
  (case N1=>k_is);(case N2=>k_is)
  case F =>
    intro w mg fa h KX G hmg
    refine' Kx.all_mk KX G hmg ?a1 ?a2 ?a3 ?a4 ?a5 ?a6 ?a7 ?a8 ?a9 ?a10 ?a11 ?a12 ?a13 ?a14 ?a15 ?a16 ?y_abs ?y_tuple ?y_isinstance ?y_int ?y_bool ?y_len ?y_enumerate ?y_ValueError ?y_zip ?y_list ?y_range ?ex9 ?ei_NoNumber ?ei_NoRow ?ei_NoChange ?ei_BelowNought ?eg_NoText ?ef_NoText ?el_NoText ?ec_NoText ?ek_NoText ?ei_NoText ?eg_NoName ?ef_NoName ?el_NoName ?ec_NoName ?ek_NoName ?ei_NoName ?eg_Twice ?ef_Twice ?el_Twice ?ec_Twice ?ek_Twice ?ei_Twice ?eg_TooGreat ?ef_TooGreat ?el_TooGreat ?ec_TooGreat ?ek_TooGreat ?ei_TooGreat
    (case y_abs=>k_is)
    (case y_tuple=>k_is)
    (case y_isinstance=>k_is)
    (case y_int=>k_is)
    (case y_bool=>k_is)
    (case y_len=>k_is)
    (case y_enumerate=>k_is)
    (case y_ValueError=>k_is)
    (case y_zip=>k_is)
    (case y_list=>k_is)
    (case y_range=>k_is)
    (case ei_NoNumber=>kernel_rfl)
    (case ei_NoRow=>kernel_rfl)
    (case ei_NoChange=>kernel_rfl)
    (case ei_BelowNought=>kernel_rfl)
    (case eg_NoText=>k_is);(case ef_NoText=>k_is);(case el_NoText=>k_is);(case ec_NoText=>k_is);(case ek_NoText=>k_is);(case ei_NoText=>kernel_rfl)
    (case eg_NoName=>k_is);(case ef_NoName=>k_is);(case el_NoName=>k_is);(case ec_NoName=>k_is);(case ek_NoName=>k_is);(case ei_NoName=>kernel_rfl)
    (case eg_Twice=>k_is);(case ef_Twice=>k_is);(case el_Twice=>k_is);(case ec_Twice=>k_is);(case ek_Twice=>k_is);(case ei_Twice=>kernel_rfl)
    (case eg_TooGreat=>k_is);(case ef_TooGreat=>k_is);(case el_TooGreat=>k_is);(case ec_TooGreat=>k_is);(case ek_TooGreat=>k_is);(case ei_TooGreat=>kernel_rfl)
    (case ex9=>kernel_rfl)
    all_goals (refine' L2.Has.of ?a ?l ?c;(case a=>k_is);(case l=>k_is);(case c=>k_is))

