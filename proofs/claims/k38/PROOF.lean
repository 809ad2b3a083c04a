import PyProof.Rows.All
import Wide.All
import OpenK.AllK
import Wide.FinOn
import Lean
import PyProof.EqAt
import PyProof.EqKinds
import PyProof.TupleCall
import PyProof.NeKinds
import KE.KLam
import KE.KMinKey
import KE.KSortTup
import PyProof.AutoListH
import PyProof.MeetsStr
import PyProof.StrLawsJoin
import PyProof.FitsReplace
import PyProof.Rows.TupDisplay
import PyProof.ListRange
import PyProof.ZipIter
import PyProof.ListNew
import KE.KSortKey
import PySem.Challenge.RW_cutyard_k38_regained
set_option Elab.async false
set_option linter.all false
set_option maxRecDepth 100000
namespace L2
open PySem PySem.Spec PyProof.Rows
abbrev Key:=Sum Int Str
def qjZ:Key→Value→Bool
  | .inl k,v=>Value.isInt k v
  | .inr x,v=>Value.isStrOf x v
def qmb (w:World):Key→Int
  | .inl k=>hashInt k
  | .inr x=>hashStr w x
theorem qaE:∀ {k:Key} {v:Value},qjZ k v=true→(∃ i t,k=Sum.inl i∧v=Value.int i t)∨(∃ x t,k=Sum.inr x∧v=Value.str x t)
  | .inl i,v,h=>by
    obtain ⟨t,e⟩:=Value.isInt_shape (k:=i) (v:=v) h
    exact .inl ⟨i,t,rfl,e⟩
  | .inr x,v,h=>by
    obtain ⟨t,e⟩:=Value.isStrOf_shape (x:=x) (v:=v) h
    exact .inr ⟨x,t,rfl,e⟩
theorem qkk (a b:Int):decide ((Sum.inl a:Key)=Sum.inl b)=(a == b):=by
  by_cases e:a=b
  · subst e;simp
  · have h:¬ (Sum.inl a:Key)=Sum.inl b:=fun q=>e (Sum.inl.inj q)
    rw [decide_eq_false h]
    exact (beq_eq_false_iff_ne.mpr e).symm
theorem qjF (a b:Str):decide ((Sum.inr a:Key)=Sum.inr b)=decide (a=b):=by
  by_cases e:a=b
  · subst e;simp
  · have h:¬ (Sum.inr a:Key)=Sum.inr b:=fun q=>e (Sum.inr.inj q)
    rw [decide_eq_false h,decide_eq_false e]
theorem qjL (a:Int) (b:Str):decide ((Sum.inl a:Key)=Sum.inr b)=false:=decide_eq_false (fun q=>nomatch q)
theorem qjI (a:Str) (b:Int):decide ((Sum.inr a:Key)=Sum.inl b)=false:=decide_eq_false (fun q=>nomatch q)
def qeU (prog:Program) (w:World):PySem.KeyKind prog w Key where
  is:=qjZ
  hash:=qmb w
  inj:=fun v a b ha hb=>by
    rcases qaE ha with ⟨i,t,rfl,rfl⟩ | ⟨x,t,rfl,rfl⟩
    · rcases qaE hb with ⟨j,u,rfl,e⟩ | ⟨y,u,rfl,e⟩
      · injection e with e1 _;rw [e1]
      · exact nomatch e
    · rcases qaE hb with ⟨j,u,rfl,e⟩ | ⟨y,u,rfl,e⟩
      · exact nomatch e
      · injection e with e1 _;rw [e1]
  byValue:=fun k v h=>by
    rcases qaE h with ⟨i,t,rfl,rfl⟩ | ⟨x,t,rfl,rfl⟩ <;> rfl
  pyHash:=fun hv h=>by
    rcases qaE hv with ⟨i,t,rfl,rfl⟩ | ⟨x,t,rfl,rfl⟩
    · exact wpAny_pyHash_int h
    · exact wpAny_pyHash_str h
  eqBool:=fun hu hv h=>by
    rcases qaE hu with ⟨i,t,rfl,rfl⟩ | ⟨x,t,rfl,rfl⟩
    · rcases qaE hv with ⟨j,u,rfl,rfl⟩ | ⟨y,u,rfl,rfl⟩
      · rw [qkk] at h;exact wpAny_eqBool_int h
      · rw [qjL] at h;exact SeqAt.EqAt.int_str i t y u _ _ _ _ h
    · rcases qaE hv with ⟨j,u,rfl,rfl⟩ | ⟨y,u,rfl,rfl⟩
      · rw [qjI] at h;exact SeqAt.EqAt.str_int x t j u _ _ _ _ h
      · rw [qjF] at h;exact wpAny_eqBool_str h
  «strs»:=fun k x t v h=>by
    rcases qaE h with ⟨i,u,rfl,e⟩ | ⟨y,u,rfl,e⟩
    · exact nomatch e
    · injection e with e1 _
      subst e1
      cases v <;> rfl
inductive V where
  | non | bl (b:Bool) | int (i:Int) | str (x:Str) | byt (b:Array UInt8) | flt (b:UInt64) | ref (a:Addr) | ty (n:String)
  deriving DecidableEq
def RelV:V→Value→Prop
  | .non,u=>u=Value.none
  | .bl b,u=>u=Value.bool b
  | .int i,u=>∃ t,u=Value.int i t
  | .str x,u=>∃ t,u=Value.str x t
  | .byt b,u=>∃ t,u=Value.bytes b t
  | .flt b,u=>∃ t,u=Value.float b t
  | .ref a,u=>u=Value.ref a
  | .ty n,u=>u=Value.type n
abbrev Vals:List V→List Value→Prop:=Paired RelV
theorem Vals.length {xs:List V} {us:List Value} (r:Vals xs us):xs.length=us.length:=Paired.length r
theorem Vals.get:∀ {xs:List V} {us:List Value} {i:Nat} {x:V},Vals xs us→xs[i]?=some x→∃ u,us[i]?=some u∧RelV x u
  | _,_,_,_,.nil,e=>by simp at e
  | _,_,0,_,.cons r _,e=>by simp at e;subst e;exact ⟨_,rfl,r⟩
  | _,_,i+1,x,.cons _ t,e=>by
    obtain ⟨u,h1,h2⟩:=Vals.get (i:=i) (x:=x) t (by simpa using e)
    exact ⟨u,by simpa using h1,h2⟩
theorem Vals.set {x:V} {u:Value} (r:RelV x u):∀ {xs:List V} {us:List Value} (i:Nat),Vals xs us→Vals (xs.set i x) (us.set i u)
  | _,_,_,.nil=>.nil
  | _,_,0,.cons _ t=>.cons r t
  | _,_,i+1,.cons q t=>.cons q (Vals.set r i t)
theorem Vals.append:∀ {xs ys:List V} {us ws:List Value},Vals xs us→Vals ys ws→Vals (xs++ys) (us++ws)
  | _,_,_,_,.nil,s=>s
  | _,_,_,_,.cons r t,s=>.cons r (Vals.append t s)
theorem Vals.take:∀ {xs:List V} {us:List Value} (n:Nat),Vals xs us→Vals (xs.take n) (us.take n)
  | _,_,0,_=>.nil
  | _,_,_+1,.nil=>.nil
  | _,_,n+1,.cons r t=>.cons r (Vals.take n t)
theorem Vals.drop:∀ {xs:List V} {us:List Value} (n:Nat),Vals xs us→Vals (xs.drop n) (us.drop n)
  | _,_,0,r=>r
  | _,_,_+1,.nil=>.nil
  | _,_,n+1,.cons _ t=>Vals.drop n t
def RelO:Option V→Option Value→Prop
  | some v,some u=>RelV v u
  | none,none=>True
  | _,_=>False
def KV {κ:Type}:List (κ × V)→List (κ × Value)→Prop:=Paired fun (p:κ × V) (q:κ × Value)=>p.1=q.1∧RelV p.2 q.2
def kV:Key→V
  | .inl i=>.int i
  | .inr x=>.str x
inductive HO where
    | lst (xs:List V)
    | tup (xs:List V)
    | dK (kvs:List (Key × V)) | dT (kvs:List (List Key × V))
    | set (S:Int→Bool) (n:Nat)
    | ins (C dx:Addr) (fs:List (Str × V))
    | own (x:Addr)
    | xd (fs:List (Str × V))
    | met (f x:Addr)
    | rng (lo hi:Int)
    | frz (o:Obj) (u:HO)
    | tbl (ps:Array Value)
    | ext (φ:Heap→Prop)
abbrev Hp:=Addr→Option HO
def upd (H:Hp) (a:Addr) (o:HO):Hp:=fun b=>if b=a then some o else H b
theorem qac {H:Hp} {a:Addr} {o:HO}:upd H a o a=some o:=by unfold upd;rw [if_pos rfl]
theorem qad {H:Hp} {a b:Addr} {o:HO} (h:b≠a):upd H a o b=H b:=by unfold upd;rw [if_neg h]
theorem qhL {H:Hp} {a b:Addr} {o u:HO} (h:H a=some o) (h':H b=some u) (d:o≠u):a≠b:=by
  intro e;subst e;rw [h] at h';exact d (Option.some.inj h')
theorem qak {H:Hp} {a b:Addr} {o:HO} (h:H a=some o) (h':H b=none):a≠b:=by
  intro e;subst e;rw [h] at h';cases h'
def IsTupD (h:Heap) (a:Addr) (items:Array Value):Prop:=∃ o,h.get? a=some o∧(o.cls=.type "tuple"∧o.dict=none)∧∃ n,o.data=.seq items n
theorem IsTupD.tup {h:Heap} {a:Addr} {items:Array Value} (x:IsTupD h a items):IsTup h a items:=let ⟨o,e,c,d⟩:=x;⟨o,e,c.1,d⟩
theorem IsTupD.lt {h:Heap} {a:Addr} {items:Array Value} (x:IsTupD h a items):a<h.objs.size:=x.tup.lt
theorem IsTupD.new (h:Heap) (items:Array Value):IsTupD (h.push { cls:=.type "tuple",data:=.seq items }) h.objs.size items:=⟨_,Heap.get?_push_size _ rfl,⟨rfl,rfl⟩,_,rfl⟩
section
variable (P : Program) (w : World)
def ObjOk (H:Hp) (h:Heap) (a:Addr):HO→Prop
  | .lst xs=>xs.length≤sizeLine∧∃ (its:List Value) (n:Nat),Vals xs its∧h.get? a=some { cls:=.type "list",data:=.seq its.toArray n }
  | .tup xs=>xs.length≤sizeLine∧∃ its:List Value,Vals xs its∧IsTupD h a its.toArray
  | .dK kvs=>kvs.length≤sizeLine∧(a == sysModules)=false∧∃ vs,KV kvs vs∧h.DictOf (qeU P w) a vs
  | .dT kvs=>kvs.length≤sizeLine∧(a == sysModules)=false∧∃ xs:List (List Key × Addr × Value),
      Paired (fun (p:List Key × V) (q:List Key × Addr × Value)=>p.1=q.1∧H q.2.1=some (.tup (p.1.map kV))∧RelV p.2 q.2.2) kvs xs ∧
      ∃ o es ep,h.get? a=some o∧o.ExactDict∧o.data=.dict es ep∧es.toList=xs.map (entryOfKey (tupleKind (qeU P w)))∧(xs.map (·.1)).Nodup
  | .set S n=>h.SetOf (intKind P w) a S n
  | .ins C dx fs=>H dx=some (.own a)∧fs.length≤1000∧dx≠a∧h.get? a=some (PySem.W.instObj C dx) ∧
      ∃ mA,h.Ns1 dx mA∧(∀ f,RelO (fs.lookup f) (mA f))∧PySem.Within mA (fs.map (·.1))
  | .own _=>∃ o,h.get? a=some o
  | .xd fs=>∃ mA,h.Ns1 a mA∧∀ f,RelO (fs.lookup f) (mA f)
  | .rng lo hi=>∃ t u v,h.get? a=some { cls:=.type "range",data:=.fields #[.int lo t,.int hi u,.int 1 v] }
  | .frz o u=>h.get? a=some o∧ObjOk H h a u
  | .tbl ps=>h.get? a=some { cls:=.none,data:=.fields #[] }∨∃ (c:Addr) (o:Obj) (vs:Array Value) (x y:Value) (q:Str) (t t':Tok),ps=#[x,y,.str q t]∧H c=some (.frz o (.own a)) ∧
      h.get? a=some { cls:=.none,data:=.fields #[x,y,.ref c] }∧o.data=.fields vs∧vs[1]?=some (.str q t')
  | .met f x=>h.get? a=some (PySem.W.methodObj (.ref f) (.ref x))
  | .ext φ=>φ h∧(∃ o,h.get? a=some o)∧∀ h1 h2:Heap,φ h1→(∀ o,h1.get? a=some o→h2.get? a=some o)→φ h2
def HOk (H:Hp) (h:Heap):Prop:=∀ a o,H a=some o→ObjOk P w H h a o
end
section
variable {P : Program} {w : World} {H H' : Hp} {h h' : Heap} {a : Addr} {o : HO}
theorem ObjOk.lt (x:ObjOk P w H h a o):a<h.objs.size:=by
  cases o with
  | lst xs=>obtain ⟨_,_,_,_,e⟩:=x;exact Heap.lt_size e
  | tup xs=>obtain ⟨_,_,_,p⟩:=x;exact p.lt
  | dK kvs=>obtain ⟨_,_,_,_,o,_,_,e,_⟩:=x;exact Heap.lt_size e
  | dT kvs=>obtain ⟨_,_,_,_,o,_,_,e,_⟩:=x;exact Heap.lt_size e
  | set S n=>obtain ⟨o,_,_,_,e,_⟩:=x;exact Heap.lt_size e
  | ins C dx fs=>obtain ⟨_,_,_,e,_⟩:=x;exact Heap.lt_size e
  | own y=>obtain ⟨_,e⟩:=x;exact Heap.lt_size e
  | xd fs=>obtain ⟨_,⟨_,_,_,e,_⟩,_⟩:=x;exact Heap.lt_size e
  | rng lo hi=>obtain ⟨_,_,_,e⟩:=x;exact Heap.lt_size e
  | frz ob u=>obtain ⟨e,_⟩:=x;exact Heap.lt_size e
  | tbl ps=>rcases x with x | ⟨_,_,_,_,_,_,_,_,_,_,x,_⟩ <;> exact Heap.lt_size x
  | met f y=>exact Heap.lt_size (show h.get? a=some _ from x)
  | ext φ=>obtain ⟨_,⟨_,e⟩,_⟩:=x;exact Heap.lt_size e
theorem Paired.mapP {α β:Type} {F G:α→β→Prop}:∀ {l₁:List α} {l₂:List β},Paired F l₁ l₂→(∀ a b,F a b→G a b)→Paired G l₁ l₂
  | _,_,.nil,_=>.nil
  | _,_,.cons r t,f=>.cons (f _ _ r) (Paired.mapP t f)
theorem ObjOk.stay (x:ObjOk P w H h a o) (k:∀ b u,(b=a∨H b=some (.own a))→h.get? b=some u→h'.get? b=some u)
    (ho:∀ b,H b=some (.own a)→H' b=some (.own a)) (ht:∀ b xs,H b=some (.tup xs)→H' b=some (.tup xs)) (hf:∀ b o u,H b=some (.frz o u)→H' b=some (.frz o u)):ObjOk P w H' h' a o:=by
  induction o with
  | lst xs=>obtain ⟨z,its,n,r,e⟩:=x;exact ⟨z,its,n,r,k _ _ (.inl rfl) e⟩
  | tup xs=>obtain ⟨z,its,r,ob,e,c⟩:=x;exact ⟨z,its,r,ob,k _ _ (.inl rfl) e,c⟩
  | dK kvs=>obtain ⟨z,y,vs,r,ob,es,ep,e,c⟩:=x;exact ⟨z,y,vs,r,ob,es,ep,k _ _ (.inl rfl) e,c⟩
  | dT kvs =>
    obtain ⟨z,y,xs,r,ob,es,ep,e,c⟩:=x
    exact ⟨z,y,xs,Paired.mapP r fun p q z=>⟨z.1,ht _ _ z.2.1,z.2.2⟩,ob,es,ep,k _ _ (.inl rfl) e,c⟩
  | set S n=>obtain ⟨ob,es,ep,t,e,c⟩:=x;exact ⟨ob,es,ep,t,k _ _ (.inl rfl) e,c⟩
  | ins C dx fs =>
    obtain ⟨d,z,ne,e,mA,⟨od,es,ep,e2,c⟩,r⟩:=x
    exact ⟨ho _ d,z,ne,k _ _ (.inl rfl) e,mA,⟨od,es,ep,k _ _ (.inr d) e2,c⟩,r⟩
  | own y=>obtain ⟨ob,e⟩:=x;exact ⟨ob,k _ _ (.inl rfl) e⟩
  | xd fs=>obtain ⟨mA,⟨od,es,ep,e,c⟩,r⟩:=x;exact ⟨mA,⟨od,es,ep,k _ _ (.inl rfl) e,c⟩,r⟩
  | rng lo hi=>obtain ⟨t,u,v,e⟩:=x;exact ⟨t,u,v,k _ _ (.inl rfl) e⟩
  | frz ob u ih=>obtain ⟨e,q⟩:=x;exact ⟨k _ _ (.inl rfl) e,ih q⟩
  | tbl ps =>
    rcases x with x | ⟨c,o,vs,y,z,q,t,t',e1,e2,e3,e4⟩
    · exact .inl (k a _ (.inl rfl) x)
    · exact .inr ⟨c,o,vs,y,z,q,t,t',e1,hf _ _ _ e2,k a _ (.inl rfl) e3,e4⟩
  | met f y =>
    have e:h.get? a=some (PySem.W.methodObj (.ref f) (.ref y)):=x
    show h'.get? a=some (PySem.W.methodObj (.ref f) (.ref y))
    exact k a _ (.inl rfl) e
  | ext φ=>obtain ⟨p,⟨o,e⟩,st⟩:=x;exact ⟨st _ _ p fun o q=>k _ _ (.inl rfl) q,⟨o,k _ _ (.inl rfl) e⟩,st⟩
theorem HOk.lt (x:HOk P w H h) (e:H a=some o):a<h.objs.size:=(x a o e).lt
theorem HOk.fresh (x:HOk P w H h) (e:h.objs.size≤a):H a=none:=by
  cases q:H a with
  | none=>rfl
  | some u=>exact absurd (Nat.lt_of_lt_of_le (x.lt q) e) (Nat.lt_irrefl _)
theorem HOk.kept (x:HOk P w H h) (k:∀ b u,h.get? b=some u→h'.get? b=some u):HOk P w H h':=fun a o e =>
  (x a o e).stay (fun b u _ q=>k b u q) (fun _ q=>q) (fun _ _ q=>q) fun _ _ _ q=>q
theorem HOk.laid (x:HOk P w H h) (k:∀ b u,h.get? b=some u→h'.get? b=some u) (hp:h.objs.size≤a) (new:ObjOk P w (upd H a o) h' a o):HOk P w (upd H a o) h':=fun b u e=>by
  have hn:=x.fresh hp
  by_cases hb:b=a
  · subst hb;rw [qac] at e;cases e;exact new
  · rw [qad hb] at e
    exact (x b u e).stay (fun c v _ q=>k c v q) (fun c q=>by rw [qad (qak q hn)];exact q) (fun c xs q=>by rw [qad (qak q hn)];exact q) fun c ob w' q=>by rw [qad (qak q hn)];exact q
end
def Rd (H:Hp) (a:Addr) (u:HO):Prop:=H a=some u∨∃ o,H a=some (.frz o u)
theorem Rd.ok {P:Program} {w:World} {H:Hp} {h:Heap} {a:Addr} {u:HO} (r:Rd H a u) (x:HOk P w H h):ObjOk P w H h a u:=by
  rcases r with r | ⟨o,r⟩
  · exact x a u r
  · obtain ⟨_,q⟩:=x a _ r
    exact q
def Mut:Option HO→Prop
  | some (.lst _)=>True
  | some (.dK _)=>True
  | some (.dT _)=>True
  | some (.set _ _)=>True
  | some (.ins _ _ _)=>True
  | some (.ext _)=>True
  | _=>False
section
variable {P : Program} {w : World} {H : Hp} {h h' : Heap} {x e : Addr} {o' : HO}
theorem HOk.write (ok:HOk P w H h) (mu:Mut (H x)) (he:e=x∨H e=some (.own x)) (k:∀ b u,b≠e→h.get? b=some u→h'.get? b=some u) (heo:∃ u,h'.get? e=some u)
    (new:ObjOk P w (upd H x o') h' x o'):HOk P w (upd H x o') h':=fun b u q=>by
  have nown:∀ c y,H c=some (.own y)→c≠x:=fun c y r z=>by subst z;rw [r] at mu;exact mu
  have ntup:∀ c xs,H c=some (.tup xs)→c≠x:=fun c xs r z=>by subst z;rw [r] at mu;exact mu
  have nfrz:∀ c ob w',H c=some (.frz ob w')→c≠x:=fun c ob w' r z=>by subst z;rw [r] at mu;exact mu
  by_cases hb:b=x
  · subst hb;rw [qac] at q;cases q;exact new
  · rw [qad hb] at q
    by_cases hbe:b=e
    · have q':H b=some (.own x):=by
        rcases he with z | z
        · exact absurd (hbe.trans z) hb
        · rw [hbe];exact z
      rw [q] at q';cases q'
      obtain ⟨v,hv⟩:=heo
      exact ⟨v,by rw [hbe];exact hv⟩
    · refine (ok b u q).stay (fun c v hc r=>k c v ?_ r) (fun c r=>by rw [qad (nown c b r)];exact r) (fun c xs r=>by rw [qad (ntup c xs r)];exact r) fun c ob w' r=>by rw [qad (nfrz c ob w' r)];exact r
      rcases hc with rfl | hc
      · exact hbe
      · rintro rfl
        rcases he with z | z
        · exact nown c b hc z
        · rw [hc] at z;cases z;exact hb rfl
end
structure Un (fs ex:List Addr) (H H':Hp) (h h':Heap):Prop where
  keep:∀ b o,h.get? b=some o→H b=none→b∉fs→b∉ex→h'.get? b=some o
  slot:∀ b o,h.get? b=some o→H b=none→b∈fs→b∉ex→∃ sl,h'.get? b=some { o with slots:=sl }
  free:∀ b o,h.get? b=some o→H b=none→b∉ex→H' b=none
  there:∀ b o,h.get? b=some o→b∉ex→∃ o',h'.get? b=some o'
  tups:∀ b xs,H b=some (.tup xs)→H' b=some (.tup xs)
  frzs:∀ b o u,H b=some (.frz o u)→H' b=some (.frz o u)
  tbls:∀ b ps,H b=some (.tbl ps)→H' b=some (.tbl ps)
section
variable {fs fs' ex ex' : List Addr} {H H1 H2 : Hp} {h h1 h2 h' : Heap} {a x e : Addr} {o : HO}
theorem Un.any (u:Un fs ex H H1 h h1) {b:Addr} {ob:Obj} (q:h.get? b=some ob) (n:H b=none) (hx:b∉ex):∃ sl,h1.get? b=some { ob with slots:=sl }:=by
  by_cases hb:b∈fs
  · exact u.slot b ob q n hb hx
  · exact ⟨ob.slots,u.keep b ob q n hb hx⟩
theorem Un.kept (k:∀ b u,h.get? b=some u→h'.get? b=some u):Un fs ex H H h h' :=
  ⟨fun b ob q _ _ _=>k b ob q,fun b ob q _ _ _=>⟨ob.slots,k b ob q⟩,fun _ _ _ n _=>n,fun b ob q _=>⟨ob,k b ob q⟩,fun _ _ q=>q,fun _ _ _ q=>q,fun _ _ q=>q⟩
theorem Un.refl:Un fs ex H H h h:=Un.kept fun _ _ q=>q
theorem Un.laid (k:∀ b u,h.get? b=some u→h'.get? b=some u) (hp:h.objs.size≤a) (hn:H a=none):Un fs ex H (upd H a o) h h' where
  keep:=fun b u q _ _ _=>k b u q
  slot:=fun b u q _ _ _=>⟨u.slots,k b u q⟩
  free:=fun b u q n _=>by rw [qad (Nat.ne_of_lt (Nat.lt_of_lt_of_le (Heap.lt_size q) hp))];exact n
  there:=fun b u q _=>⟨u,k b u q⟩
  tups:=fun b xs q=>by rw [qad (qak q hn)];exact q
  frzs:=fun b u xs q=>by rw [qad (qak q hn)];exact q
  tbls:=fun b ps q=>by rw [qad (qak q hn)];exact q
theorem Un.write (mu:Mut (H x)) (he:e=x∨H e=some (.own x)) (k:∀ b u,b≠e→h.get? b=some u→h'.get? b=some u) (heo:∃ u,h'.get? e=some u):Un fs ex H (upd H x o) h h':=by
  have hx:∀ b,H b=none→b≠x:=fun b n z=>by subst z;rw [n] at mu;exact mu
  have hb:∀ b,H b=none→b≠e:=fun b n z=>by
    subst z
    rcases he with r | r
    · exact hx b n r
    · rw [n] at r;cases r
  have hm:∀ b u,H b=some u→¬ Mut (some u)→b≠x:=fun b u q nm z=>by subst z;rw [q] at mu;exact nm mu
  refine ⟨fun b u q n _ _=>k b u (hb b n) q,fun b u q n _ _=>⟨u.slots,k b u (hb b n) q⟩,fun b u q n _=>by rw [qad (hx b n)];exact n,fun b u q _=>?_,
    fun b xs q=>by rw [qad (hm b _ q fun z=>z)];exact q,fun b u xs q=>by rw [qad (hm b _ q fun z=>z)];exact q,fun b ps q=>by rw [qad (hm b _ q fun z=>z)];exact q⟩
  by_cases hbe:b=e
  · subst hbe;exact heo
  · exact ⟨u,k b u hbe q⟩
end
def trk (h:Heap) (H:Hp):List Addr:=(List.range h.objs.size).filter fun a=>(H a).isSome
def qg9 (h:Heap) (H:Hp):Heap:=PySem.W.hideAll h (trk h H)
theorem qf5 (h:Heap) (H:Hp):(qg9 h H).objs.size=h.objs.size:=PySem.W.hideAll_size _ _
theorem qhY {h:Heap} {H:Hp} {b:Addr} {o:Obj} (e:h.get? b=some o) (n:H b=none):(qg9 h H).get? b=some o :=
  PySem.W.hideAll_get _ e fun hm=>by
    have q:(H b).isSome=true:=(List.mem_filter.mp hm).2
    rw [n] at q;simp at q
theorem qiZ {h:Heap} {H:Hp} {b:Addr} {o:Obj} (e:(qg9 h H).get? b=some o):h.get? b=some o∧H b=none:=by
  have e':h.get? b=some o:=PySem.W.of_hideAll (trk h H) e
  refine ⟨e',?_⟩
  cases q:H b with
  | none=>rfl
  | some x =>
    have hm:b∈trk h H:=List.mem_filter.mpr ⟨List.mem_range.mpr (Heap.lt_size e'),by simp [q]⟩
    have z:(qg9 h H).get? b=none:=PySem.W.hideAll_none (trk h H) hm
    rw [z] at e;cases e
def qdJ (g h:Heap) (L:Addr):List (Addr × Obj):=(List.range h.objs.size).filterMap fun a=>if a=L∨(g.get? a).isSome=true then none else (h.get? a).map fun o=>(a,o)
theorem qeD {g h:Heap} {L a:Addr} {o:Obj} (h1:a≠L) (h2:g.get? a=none) (h3:h.get? a=some o):(a,o)∈qdJ g h L :=
  List.mem_filterMap.mpr ⟨a,List.mem_range.mpr (Heap.lt_size h3),by simp [h1,h2,h3]⟩
theorem qdg {g h:Heap} {L:Addr} {p:Addr × Obj} (hp:p∈qdJ g h L):p.1≠L∧g.get? p.1=none∧h.get? p.1=some p.2:=by
  obtain ⟨b,_,e⟩:=List.mem_filterMap.mp hp
  split at e
  · cases e
  · rename_i hn
    cases q:h.get? b with
    | none=>rw [q] at e;simp at e
    | some u =>
      rw [q] at e
      simp only [Option.map_some,Option.some.injEq] at e
      subst e
      refine ⟨fun z=>hn (.inl z),?_,q⟩
      show g.get? b=none
      cases r:g.get? b with
      | none=>rfl
      | some v=>exact (hn (.inr (by simp [r]))).elim
theorem qhO {g h:Heap} {L:Addr}:News g L h (qdJ g h L):=fun p hp=>let ⟨a,b,c⟩:=qdg hp;⟨c,a,b⟩
structure Mod (K:PySem.W.Frag) (mg:Str→Option Value) (base:Heap):Prop where
  kin:K.In base
  glob:base.Ns mainGlobals mg
  blt:∃ mb,base.Ns builtinsNs mb∧∀ x:Str,x≠"__name__"→mb x=bootBuiltins x
  nolimit:base.NoLimit
  bmod:∃ bm ob,mg "__builtins__"=some (.ref bm)∧bm≠builtinsNs∧base.get? bm=some ob∧ob.cls=.type "module"∧ob.dict=some builtinsNs∧ob.data=.plain
  seer:base.NoSeer
  dig:∃ mc,base.Ns cStatics mc∧mc "sys.int_max_str_digits"=none
structure Cx where
  prog:Program
  w:World
  K:PySem.W.Frag
  mg:Str→Option Value
  base:Heap
  A:Around
  N:List Str
  s₀:Shared
  H₀:Hp
  env:Env
  outer:List Env
  stack:List Env
  ex:List Addr
  fn:Str→Bool
  calm:Bool
  pn:List (Addr × Obj)
  xe:Value→Shared→Prop
def frs (l:List Env):List Addr:=l.filterMap (·.frame)
abbrev Cx.fs (X:Cx):List Addr:=frs X.outer
def Vis (sc:Scope) (x:Str):Prop:=sc.names.lookup x=some .local∨sc.names.lookup x=some .cell∨sc.names.lookup x=some .free
def Loc (sc:Scope) (x:Str):Prop:=sc.names.lookup x=some .local∨sc.names.lookup x=some .cell
def ql5 (env:Env) (h:Heap) (m:Str→Option Value) (x:Str) (u:Value):Prop :=
  (env.kindOf x=some .local∧m x=some u)∨((env.kindOf x=some .cell∨env.kindOf x=some .free)∧∃ c,env.cells.lookup x=some c∧h.IsCell c (some u))
structure Cx.Ok (X:Cx):Prop where
  mod:Mod X.K X.mg X.base
  kind:X.env.scope.kind=.function
  glob:X.env.globals=mainGlobals
  blt:X.env.builtins=builtinsNs
  above:X.s₀.heap.objs.size≤X.env.locals
  inj:∀ x y c,X.env.cells.lookup x=some c→X.env.cells.lookup y=some c→x=y
  has:∀ x,(X.env.kindOf x=some .cell∨X.env.kindOf x=some .free)→∃ c,X.env.cells.lookup x=some c
  cab:∀ x c,X.fn x=true→X.env.cells.lookup x=some c→X.s₀.heap.objs.size≤c
  hd:X.calm=true→X.A.handled=none
  frames:X.A.frames=some X.stack
  stk:X.stack=X.outer∨(X.stack=X.env::X.outer∧X.env.frame=some X.env.locals)
  exf:∀ b∈X.ex,b≠X.env.locals∧∀ x c,X.env.cells.lookup x=some c→c≠b
  bs:∀ b o,X.base.get? b=some o→X.s₀.heap.get? b=some o∧X.H₀ b=none
  bsz:X.base.objs.size≤X.s₀.heap.objs.size
  noex:∀ b o,X.base.get? b=some o→b∉X.ex
  exfs:∀ b∈X.ex,b∉X.fs
  funs:X.s₀.heap.FunFrames X.base X.outer
  frf:∀ b∈X.fs,X.H₀ b=none
structure Inv (X:Cx) (pins:List (Addr × Obj)) (σ:List (Option V)) (H:Hp) (s:Shared):Prop where
  ok:X.Ok
  os:s.os=X.s₀.os
  bare:AllBare s.gens
  base:Un X.fs X.ex X.H₀ H X.s₀.heap s.heap
  loc:∃ m,s.heap.Ns X.env.locals m∧∀ (i:Nat) (x:Str) (v:V),X.N[i]?=some x→σ[i]?=some (some v)→Vis X.env.scope x→∃ u,RelV v u∧ql5 X.env s.heap m x u
  cell:∀ x c,X.env.cells.lookup x=some c→∃ v,s.heap.IsCell c v
  free:H X.env.locals=none
  freeC:∀ x c,X.env.cells.lookup x=some c→H c=none
  pin:∀ p∈X.pn++pins,s.heap.get? p.1=some p.2∧H p.1=none∧p.1≠X.env.locals∧p.1∉X.fs∧∀ v,p.2.data≠.cell v
  hok:HOk X.prog X.w H s.heap
  len:σ.length=X.N.length
section
variable {X : Cx} {pins : List (Addr × Obj)} {σ : List (Option V)} {H H' : Hp} {s : Shared} {h' : Heap}
theorem Cx.Ok.nofr (ok:X.Ok) {b:Addr} {o:Obj} (e:X.base.get? b=some o):b∉X.fs:=fun hb=>by
  have:=(ok.funs.mem hb).1
  rw [e] at this;cases this
theorem Inv.bs (I:Inv X pins σ H s):∀ b o,X.base.get? b=some o→s.heap.get? b=some o∧H b=none:=fun b o e =>
  ⟨I.base.keep b o (I.ok.bs b o e).1 (I.ok.bs b o e).2 (I.ok.nofr e) (I.ok.noex b o e),I.base.free b o (I.ok.bs b o e).1 (I.ok.bs b o e).2 (I.ok.noex b o e)⟩
theorem Inv.bk (I:Inv X pins σ H s):∀ b o,X.base.get? b=some o→s.heap.get? b=some o:=fun b o e=>(I.bs b o e).1
theorem Inv.mod (I:Inv X pins σ H s):Mod X.K X.mg X.base:=I.ok.mod
theorem Inv.kIn (I:Inv X pins σ H s):X.K.In s.heap:=I.ok.mod.kin.keeps I.bk
theorem Inv.nolimit (I:Inv X pins σ H s):s.heap.NoLimit:=I.ok.mod.nolimit.keeps I.bk
theorem Inv.lt (I:Inv X pins σ H s):X.env.locals<s.heap.objs.size:=let ⟨_,hn,_⟩:=I.loc;hn.lt
theorem Inv.sz (I:Inv X pins σ H s):X.s₀.heap.objs.size≤s.heap.objs.size:=Nat.le_trans I.ok.above (Nat.le_of_lt I.lt)
theorem Inv.nofs (I:Inv X pins σ H s) {a:Addr} (h:s.heap.objs.size≤a):a∉X.fs:=fun hb=>by
  obtain ⟨_,o,ho,_⟩:=I.ok.funs.mem hb
  exact absurd (Nat.lt_of_lt_of_le (Heap.lt_size ho) (Nat.le_trans I.sz h)) (Nat.lt_irrefl _)
theorem Inv.cne (I:Inv X pins σ H s):∀ x c,X.env.cells.lookup x=some c→c≠X.env.locals:=fun x c e z=>by
  obtain ⟨v,o,ho,hd⟩:=I.cell x c e
  obtain ⟨m,⟨o',es,ep,ho',hd',_⟩,_⟩:=I.loc
  rw [z,ho'] at ho;cases ho;rw [hd'] at hd;cases hd
theorem Inv.funs (I:Inv X pins σ H s):s.heap.FunFrames X.base X.outer:=by
  have all:∀ (l:List Env),(∀ b∈frs l,b∈X.fs)→X.s₀.heap.FunFrames X.base l→s.heap.FunFrames X.base l:=by
    intro l
    induction l with
    | nil=>intro _ _;trivial
    | cons env r ih =>
      intro hs hl
      obtain ⟨hk,⟨L,o,hf,hn,ho,hd⟩,hr⟩:=hl
      have hL:L∈X.fs:=hs L (by unfold frs;rw [List.filterMap_cons,hf];exact List.mem_cons_self)
      obtain ⟨sl,e⟩:=I.base.slot L o ho (I.ok.frf L hL) hL fun z=>I.ok.exfs L z hL
      exact ⟨hk,⟨L,_,hf,hn,e,hd⟩,ih (fun b hb=>hs b (by unfold frs;rw [List.filterMap_cons,hf];exact List.mem_cons_of_mem _ hb)) hr⟩
  exact all X.outer (fun _ hb=>hb) I.ok.funs
theorem Inv.stack (I:Inv X pins σ H s):s.heap.FunFrames X.base X.stack:=by
  rcases I.ok.stk with e | ⟨e,hf⟩
  · rw [e];exact I.funs
  · rw [e]
    obtain ⟨m,hn,_⟩:=I.loc
    refine .cons (by rw [I.ok.kind];decide) hf hn ?_ I.funs
    exact Heap.get?_none_of_le (Nat.le_trans I.ok.bsz I.ok.above)
theorem Inv.stkSub (I:Inv X pins σ H s):∀ b∈frs X.stack,b∈X.env.locals::X.fs:=fun b hb=>by
  rcases I.ok.stk with e | ⟨e,hf⟩
  · rw [e] at hb;exact List.mem_cons_of_mem _ hb
  · rw [e] at hb
    unfold frs at hb
    rw [List.filterMap_cons,hf] at hb
    exact hb
theorem Inv.stkFree (I:Inv X pins σ H s):∀ b∈frs X.stack,H b=none:=fun b hb=>by
  rcases List.mem_cons.mp (I.stkSub b hb) with e | hb
  · rw [e];exact I.free
  · obtain ⟨_,o,ho,_⟩:=I.ok.funs.mem hb
    exact I.base.free b o ho (I.ok.frf b hb) fun z=>I.ok.exfs b z hb
theorem Inv.step {g':Array GenState} {t':Nat} {d':Drawn} {ch:List Addr} (I:Inv X pins σ H s)
    (hch:∀ b∈ch,(b∈X.ex∨X.s₀.heap.objs.size≤b)∧b≠X.env.locals∧(∀ x c,X.env.cells.lookup x=some c→c≠b)∧∀ p∈X.pn++pins,p.1≠b)
    (keep:∀ b o,b≠X.env.locals→b∉X.fs→b∉ch→s.heap.get? b=some o→H b=none→h'.get? b=some o)
    (slot:∀ b o,b≠X.env.locals→b∈X.fs→b∉ch→s.heap.get? b=some o→H b=none→∃ sl,h'.get? b=some { o with slots:=sl }) (free:∀ b o,b∉ch→s.heap.get? b=some o→H b=none→H' b=none)
    (there:∀ b o,b∉ch→s.heap.get? b=some o→∃ o',h'.get? b=some o')
    (tups:∀ b xs,H b=some (.tup xs)→H' b=some (.tup xs)) (frzs:∀ b o u,H b=some (.frz o u)→H' b=some (.frz o u)) (tbls:∀ b ps,H b=some (.tbl ps)→H' b=some (.tbl ps))
    (ns:∀ m,s.heap.Ns X.env.locals m→h'.Ns X.env.locals m) (hok:HOk X.prog X.w H' h') (hg:AllBare g') :
    Inv X pins σ H' { s with heap:=h',gens:=g',drawn:=d',toks:=t' }:=by
  have neL:∀ b o,X.s₀.heap.get? b=some o→b≠X.env.locals:=fun b o e=>Nat.ne_of_lt (Nat.lt_of_lt_of_le (Heap.lt_size e) I.ok.above)
  have neC:∀ b o,X.s₀.heap.get? b=some o→b∉X.ex→b∉ch:=fun b o e hx hb=>by
    rcases (hch b hb).1 with z | z
    · exact hx z
    · exact absurd (Nat.lt_of_lt_of_le (Heap.lt_size e) z) (Nat.lt_irrefl _)
  have cellK:∀ x c,X.env.cells.lookup x=some c→∀ v,s.heap.IsCell c v→h'.IsCell c v:=fun x c e v hq0=>by
    obtain ⟨o,ho,hd⟩:=hq0
    have nch:c∉ch:=fun z=>(hch c z).2.2.1 x c e rfl
    by_cases hc:c∈X.fs
    · obtain ⟨sl,q⟩:=slot c o (I.cne x c e) hc nch ho (I.freeC x c e)
      exact ⟨_,q,hd⟩
    · exact ⟨o,keep c o (I.cne x c e) hc nch ho (I.freeC x c e),hd⟩
  refine ⟨I.ok,I.os,hg,⟨fun b o e n hb hx=>?_,fun b o e n hb hx=>?_,fun b o e n hx=>?_,fun b o e hx=>?_,fun b xs e=>tups b xs (I.base.tups b xs e),fun b o xs e=>frzs b o xs (I.base.frzs b o xs e),fun b ps e=>tbls b ps (I.base.tbls b ps e)⟩,?_,fun x c e=>?_,?_,fun x c e=>?_,fun p hp=>?_,hok,I.len⟩
  · exact keep b o (neL b o e) hb (neC b o e hx) (I.base.keep b o e n hb hx) (I.base.free b o e n hx)
  · obtain ⟨sl,e1⟩:=I.base.slot b o e n hb hx
    obtain ⟨sl',e2⟩:=slot b _ (neL b o e) hb (neC b o e hx) e1 (I.base.free b o e n hx)
    exact ⟨sl',e2⟩
  · obtain ⟨o',e1⟩:=I.base.there b o e hx
    exact free b o' (neC b o e hx) e1 (I.base.free b o e n hx)
  · obtain ⟨o',e1⟩:=I.base.there b o e hx
    exact there b o' (neC b o e hx) e1
  · obtain ⟨m,hn,hl⟩:=I.loc
    refine ⟨m,ns m hn,fun i x v e1 e2 e3=>?_⟩
    obtain ⟨u,r,l⟩:=hl i x v e1 e2 e3
    refine ⟨u,r,?_⟩
    rcases l with l | ⟨k,c,e,z⟩
    · exact .inl l
    · exact .inr ⟨k,c,e,cellK x c e _ z⟩
  · obtain ⟨v,z⟩:=I.cell x c e
    exact ⟨v,cellK x c e v z⟩
  · obtain ⟨m,⟨o,_,_,ho,_⟩,_⟩:=I.loc
    exact free _ o (fun z=>(hch _ z).2.1 rfl) ho I.free
  · obtain ⟨v,o,ho,hd⟩:=I.cell x c e
    exact free c o (fun z=>(hch c z).2.2.1 x c e rfl) ho (I.freeC x c e)
  · obtain ⟨e,n,ne,nf,d⟩:=I.pin p hp
    have nch:p.1∉ch:=fun z=>(hch p.1 z).2.2.2 p hp rfl
    exact ⟨keep p.1 p.2 ne nf nch e n,free p.1 p.2 nch e n,ne,nf,d⟩
theorem Inv.un {t':Nat} (I:Inv X pins σ H s) (u:Un X.fs [] H H' s.heap h') (hok:HOk X.prog X.w H' h'):Inv X pins σ H' { s with heap:=h',toks:=t' }:=by
  obtain ⟨m,⟨o,es,ep,ho,r⟩,_⟩:=id I.loc
  obtain ⟨sl,hL⟩:=u.any ho I.free (by simp)
  exact I.step (g':=s.gens) (d':=s.drawn) (ch:=[]) (fun _ z=>nomatch z) (fun b o _ hb _ e n=>u.keep b o e n hb (by simp)) (fun b o _ hb _ e n=>u.slot b o e n hb (by simp)) (fun b o _ e n=>u.free b o e n (by simp)) (fun b o _ e=>u.there b o e (by simp)) u.tups u.frzs u.tbls (fun m' hm=>by
    obtain ⟨o',es',ep',ho',r'⟩:=hm
    rw [ho] at ho';cases ho'
    exact ⟨_,es',ep',hL,r'⟩) hok I.bare
theorem Inv.call {g':Array GenState} {t':Nat} {d':Drawn} {ch:List Addr} (I:Inv X pins σ H s) (u:Un (frs X.stack) ch H H' s.heap h') (hok:HOk X.prog X.w H' h') (hg:AllBare g')
    (hch:∀ b∈ch,(b∈X.ex∨X.s₀.heap.objs.size≤b)∧b≠X.env.locals∧(∀ x c,X.env.cells.lookup x=some c→c≠b)∧∀ p∈X.pn++pins,p.1≠b) :
    Inv X pins σ H' { s with heap:=h',gens:=g',drawn:=d',toks:=t' }:=by
  obtain ⟨m,⟨o,es,ep,ho,r⟩,_⟩:=id I.loc
  obtain ⟨sl,hL⟩:=u.any ho I.free fun z=>(hch _ z).2.1 rfl
  exact I.step (ch:=ch) hch (fun b o hL hb hc e n=>u.keep b o e n (fun z=>(List.mem_cons.mp (I.stkSub b z)).elim hL hb) hc) (fun b o _ _ hc e n=>u.any e n hc) (fun b o hc e n=>u.free b o e n hc) (fun b o hc e=>u.there b o e hc) u.tups u.frzs u.tbls (fun m' hm=>by
    obtain ⟨o',es',ep',ho',r'⟩:=hm
    rw [ho] at ho';cases ho'
    exact ⟨_,es',ep',hL,r'⟩) hok hg
theorem Inv.turned {t':Nat} {it:Addr} (I:Inv X pins σ H s) (k:∀ b o,b≠it→s.heap.get? b=some o→h'.get? b=some o) (hn:H it=none) (hL:it≠X.env.locals)
    (h1:it∈X.ex∨X.s₀.heap.objs.size≤it) (h2:∀ x c,X.env.cells.lookup x=some c→c≠it) (h3:∀ p∈X.pn++pins,p.1≠it):Inv X pins σ H { s with heap:=h',toks:=t' }:=by
  have nit:∀ b u,H b=some u→b≠it:=fun b u e z=>by rw [z,hn] at e;cases e
  refine I.step (g':=s.gens) (d':=s.drawn) (ch:=[it]) (fun b hb=>?_) (fun b o _ _ hc e _=>k b o (fun z=>hc (by simp [z])) e) (fun b o _ _ hc e _=>⟨o.slots,k b o (fun z=>hc (by simp [z])) e⟩) (fun _ _ _ _ n=>n)
    (fun b o hc e=>⟨o,k b o (fun z=>hc (by simp [z])) e⟩) (fun _ _ e=>e) (fun _ _ _ e=>e) (fun b ps e=>e) (fun m hm=>?_) (fun b u e=>?_) I.bare
  · have e:b=it:=by simpa using hb
    subst e
    exact ⟨h1,hL,h2,h3⟩
  · obtain ⟨o,es,ep,ho,r⟩:=hm
    exact ⟨o,es,ep,k _ o (Ne.symm hL) ho,r⟩
  · refine (I.hok b u e).stay (fun c v hc q=>k c v ?_ q) (fun _ q=>q) (fun _ _ q=>q) fun _ _ _ q=>q
    rcases hc with z | z
    · rw [z];exact nit b u e
    · exact nit c _ z
theorem Inv.tok (I:Inv X pins σ H s) (t:Nat):Inv X pins σ H { s with toks:=t }:=I.un (h':=s.heap) (t':=t) Un.refl I.hok
theorem Inv.kept {t':Nat} (I:Inv X pins σ H s) (k:∀ b u,s.heap.get? b=some u→h'.get? b=some u):Inv X pins σ H { s with heap:=h',toks:=t' }:=I.un (Un.kept k) (I.hok.kept k)
theorem Inv.laid {a:Addr} {o:HO} {t':Nat} (I:Inv X pins σ H s) (k:∀ b u,s.heap.get? b=some u→h'.get? b=some u) (hp:s.heap.objs.size≤a) (new:ObjOk X.prog X.w (upd H a o) h' a o) :
    Inv X pins σ (upd H a o) { s with heap:=h',toks:=t' }:=I.un (Un.laid k hp (I.hok.fresh hp)) (I.hok.laid k hp new)
theorem Inv.write {x e:Addr} {o:HO} {t':Nat} (I:Inv X pins σ H s) (mu:Mut (H x)) (he:e=x∨H e=some (.own x)) (k:∀ b u,b≠e→s.heap.get? b=some u→h'.get? b=some u) (heo:∃ u,h'.get? e=some u)
    (new:ObjOk X.prog X.w (upd H x o) h' x o):Inv X pins σ (upd H x o) { s with heap:=h',toks:=t' }:=I.un (Un.write mu he k heo) (I.hok.write mu he k heo new)
theorem Inv.pins_of {pins':List (Addr × Obj)} (I:Inv X pins σ H s) (h:∀ p∈pins',s.heap.get? p.1=some p.2∧H p.1=none∧p.1≠X.env.locals∧p.1∉X.fs∧∀ v,p.2.data≠.cell v):Inv X pins' σ H s :=
  ⟨I.ok,I.os,I.bare,I.base,I.loc,I.cell,I.free,I.freeC,fun p hp=>(List.mem_append.mp hp).elim (fun z=>I.pin p (List.mem_append_left _ z)) (h p),I.hok,I.len⟩
theorem qfa {N:List Str} (hN:N.Nodup) {i j:Nat} {x:Str} (a:N[i]?=some x) (b:N[j]?=some x):i=j:=by
  obtain ⟨h1,e1⟩:=List.getElem?_eq_some_iff.mp a
  obtain ⟨h2,e2⟩:=List.getElem?_eq_some_iff.mp b
  exact (List.getElem_inj hN).mp (e1.trans e2.symm)
theorem qel {M:Model} {A:Around} {E:Value→Shared→Prop} {i:Nat} {x:Str} {v:V} {u:Value} {Q:Unit→Shared→Prop} (I:Inv X pins σ H s) (hN:X.N.Nodup) (hi:X.N[i]?=some x) (hx:Loc X.env.scope x) (r:RelV v u)
    (h:∀ s',Inv X pins (σ.set i (some v)) H s'→(∃ a,Heap.SameBut a s.heap s'.heap∧(a=X.env.locals∨X.env.cells.lookup x=some a))→Q () s') (hf:X.fn x=true∨X.env.scope.names.lookup x=some .local:=by first | exact .inl rfl | exact .inr rfl | assumption):wpAny M A (storeName X.env x u) Q E s:=by
  obtain ⟨m,hn,hl⟩:=id I.loc
  have hcls:(X.env.scope.kind == .class || (X.env.scope.kind == .module && X.env.locals != X.env.globals))=false:=by rw [I.ok.kind];rfl
  have hiσ:i<σ.length:=by rw [I.len];exact (List.getElem?_eq_some_iff.mp hi).1
  have cne:=I.cne
  have tracked:∀ {a:Addr} {h':Heap},(∃ o,s.heap.get? a=some o∧H a=none)→Heap.SameBut a s.heap h'→HOk X.prog X.w H h':=fun {a h'} ha hs b ob e=>by
    obtain ⟨_,_,hfree⟩:=ha
    refine (I.hok b ob e).stay (fun c w' hc q=>(hs.2 c ?_).trans q) (fun _ q=>q) (fun _ _ q=>q) fun _ _ _ q=>q
    rintro rfl
    rcases hc with rfl | hc
    · rw [hfree] at e;cases e
    · rw [hfree] at hc;cases hc
  rcases hx with hk | hk
  · refine wpAny_storeName_local hk hn (fun h' hn' hs=>?_) hcls
    obtain ⟨oL,_,_,hoL,_⟩:=id hn
    refine h _ ⟨I.ok,I.os,I.bare,⟨fun b o e n hb hx=>?_,fun b o e n hb hx=>?_,I.base.free,fun b o e hx=>?_,I.base.tups,I.base.frzs,I.base.tbls⟩,⟨_,hn',fun j y v' e1 e2 e3=>?_⟩,fun y c e=>?_,I.free,I.freeC,fun p hp=>?_,tracked ⟨oL,hoL,I.free⟩ hs,by simpa using I.len⟩ ⟨_,hs,.inl rfl⟩
    · exact (hs.2 b (Nat.ne_of_lt (Nat.lt_of_lt_of_le (Heap.lt_size e) I.ok.above))).trans (I.base.keep b o e n hb hx)
    · obtain ⟨sl,e1⟩:=I.base.slot b o e n hb hx
      exact ⟨sl,(hs.2 b (Nat.ne_of_lt (Nat.lt_of_lt_of_le (Heap.lt_size e) I.ok.above))).trans e1⟩
    · obtain ⟨o',e1⟩:=I.base.there b o e hx
      exact ⟨o',(hs.2 b (Nat.ne_of_lt (Nat.lt_of_lt_of_le (Heap.lt_size e) I.ok.above))).trans e1⟩
    · by_cases hj:j=i
      · subst hj
        rw [hi] at e1;cases e1
        rw [List.getElem?_set_self hiσ] at e2
        cases e2
        exact ⟨u,r,.inl ⟨hk,by simp⟩⟩
      · rw [List.getElem?_set_ne (Ne.symm hj)] at e2
        obtain ⟨u',r',q⟩:=hl j y v' e1 e2 e3
        refine ⟨u',r',?_⟩
        rcases q with ⟨k,e⟩ | ⟨k,c,e,z⟩
        · refine .inl ⟨k,?_⟩
          have:y≠x:=fun e=>hj (qfa hN e1 (e ▸ hi))
          simp [this,e]
        · exact .inr ⟨k,c,e,z.sameBut hs (cne y c e)⟩
    · obtain ⟨w',z⟩:=I.cell y c e
      exact ⟨w',z.sameBut hs (cne y c e)⟩
    · obtain ⟨e,n,ne,nf,d⟩:=I.pin p hp
      exact ⟨(hs.2 p.1 ne).trans e,n,ne,nf,d⟩
  · have hfn:X.fn x=true:=by
      rcases hf with z | z
      · exact z
      · rw [z] at hk;cases hk
    obtain ⟨c,hc⟩:=I.ok.has x (.inl hk)
    obtain ⟨w',z⟩:=I.cell x c hc
    refine wpAny_storeName_cell I.ok.kind hk hc z (fun h' hc' hs=>?_)
    obtain ⟨oc,hoc,hocd⟩:=id z
    refine h { s with heap:=h' } ⟨I.ok,I.os,I.bare,⟨fun b o e n hb hx=>?_,fun b o e n hb hx=>?_,I.base.free,fun b o e hx=>?_,I.base.tups,I.base.frzs,I.base.tbls⟩,⟨m,hn.sameBut hs (Ne.symm (cne x c hc)),fun j y v' e1 e2 e3=>?_⟩,fun y c' e=>?_,I.free,I.freeC,fun p hp=>?_,tracked ⟨oc,hoc,I.freeC x c hc⟩ hs,by simpa using I.len⟩ ⟨c,hs,.inr hc⟩
    · exact (hs.2 b (Nat.ne_of_lt (Nat.lt_of_lt_of_le (Heap.lt_size e) (I.ok.cab x c hfn hc)))).trans (I.base.keep b o e n hb hx)
    · obtain ⟨sl,e1⟩:=I.base.slot b o e n hb hx
      exact ⟨sl,(hs.2 b (Nat.ne_of_lt (Nat.lt_of_lt_of_le (Heap.lt_size e) (I.ok.cab x c hfn hc)))).trans e1⟩
    · obtain ⟨o',e1⟩:=I.base.there b o e hx
      exact ⟨o',(hs.2 b (Nat.ne_of_lt (Nat.lt_of_lt_of_le (Heap.lt_size e) (I.ok.cab x c hfn hc)))).trans e1⟩
    · by_cases hj:j=i
      · subst hj
        rw [hi] at e1;cases e1
        rw [List.getElem?_set_self hiσ] at e2
        cases e2
        exact ⟨u,r,.inr ⟨.inl hk,c,hc,hc'⟩⟩
      · rw [List.getElem?_set_ne (Ne.symm hj)] at e2
        obtain ⟨u',r',q⟩:=hl j y v' e1 e2 e3
        refine ⟨u',r',?_⟩
        rcases q with q | ⟨k,c',e,z'⟩
        · exact .inl q
        · refine .inr ⟨k,c',e,z'.sameBut hs ?_⟩
          rintro rfl
          exact hj (qfa hN e1 (I.ok.inj _ _ _ e hc ▸ hi))
    · by_cases hcc:c'=c
      · subst hcc;exact ⟨_,hc'⟩
      · obtain ⟨w2,z2⟩:=I.cell y c' e
        exact ⟨w2,z2.sameBut hs hcc⟩
    · obtain ⟨e,n,ne,nf,d⟩:=I.pin p hp
      refine ⟨(hs.2 p.1 ?_).trans e,n,ne,nf,d⟩
      intro q
      rw [q,hoc] at e
      have q':oc=p.2:=Option.some.inj e
      exact d w' (by rw [← q'];exact hocd)
theorem qfu {M:Model} {A:Around} {E:Value→Shared→Prop} {i:Nat} {x:Str} {v:V} {u:Value} {Q:Unit→Shared→Prop} (I:Inv X pins σ H s) (hN:X.N.Nodup) (hi:X.N[i]?=some x) (hx:Loc X.env.scope x) (r:RelV v u)
    (h:∀ s',Inv X pins (σ.set i (some v)) H s'→Q () s') (hf:X.fn x=true∨X.env.scope.names.lookup x=some .local:=by first | exact .inl rfl | exact .inr rfl | assumption):wpAny M A (storeName X.env x u) Q E s :=
  qel I hN hi hx r (fun s' I' _=>h s' I') hf
theorem Inv.call' {s':Shared} {ch:List Addr} (I:Inv X pins σ H s) (ho:s'.os=s.os) (u:Un (frs X.stack) ch H H' s.heap s'.heap) (hok:HOk X.prog X.w H' s'.heap) (hg:AllBare s'.gens)
    (hch:∀ b∈ch,(b∈X.ex∨X.s₀.heap.objs.size≤b)∧b≠X.env.locals∧(∀ x c,X.env.cells.lookup x=some c→c≠b)∧∀ p∈X.pn++pins,p.1≠b):Inv X pins σ H' s':=by
  obtain ⟨h',g',d',t',o'⟩:=s'
  have e:o'=s.os:=ho
  subst e
  exact I.call (g':=g') (t':=t') (d':=d') u hok hg hch
end
abbrev XK:=Value→Option Addr→Hp→Prop
abbrev St:=List (Option V)
abbrev VK:=V→Hp→Prop
abbrev TE:=St→Hp→VK→Prop
abbrev TT:=St→Hp→(Bool→Hp→Prop)→Prop
abbrev TA:=St→Hp→(List V→Hp→Prop)→Prop
structure Ends where
  nx:St→Hp→Prop
  rt:VK
  bk:St→Hp→Prop:=fun _ _=>False
  ct:St→Hp→Prop:=fun _ _=>False
abbrev TS:=Ends→St→Hp→Prop
def EP (X:Cx) (pins:List (Addr × Obj)) (σ:St) (Q:VK) (u:Value) (s':Shared):Prop:=∃ v H',Inv X pins σ H' s'∧RelV v u∧Q v H'
def TP (X:Cx) (pins:List (Addr × Obj)) (σ:St) (Q:Bool→Hp→Prop) (b:Bool) (s':Shared):Prop:=∃ H',Inv X pins σ H' s'∧Q b H'
def AP (X:Cx) (pins:List (Addr × Obj)) (σ:St) (Q:List V→Hp→Prop) (us:List Value) (s':Shared):Prop:=∃ vs H',Inv X pins σ H' s'∧Vals vs us∧Q vs H'
def SP (X:Cx) (pins:List (Addr × Obj)) (D:Ends) (f:Flow) (s':Shared):Prop :=
  match f with
  | .next=>∃ σ' H',Inv X pins σ' H' s'∧D.nx σ' H'
  | .brk=>∃ σ' H',Inv X pins σ' H' s'∧D.bk σ' H'
  | .cont=>∃ σ' H',Inv X pins σ' H' s'∧D.ct σ' H'
  | .ret u=>∃ v σ' H',Inv X pins σ' H' s'∧RelV v u∧D.rt v H'
def PE (X:Cx) (e:Expr) (t:TE):Prop :=
  ∀ (pins:List (Addr × Obj)) (s:Shared) (σ:St) (H:Hp) (Q:VK),Inv X pins σ H s→t σ H Q→wpAny (model X.prog X.w) X.A (eval e X.env) (EP X pins σ Q) X.xe s
def PT (X:Cx) (e:Expr) (t:TT):Prop :=
  ∀ (pins:List (Addr × Obj)) (s:Shared) (σ:St) (H:Hp) (Q:Bool→Hp→Prop),Inv X pins σ H s→t σ H Q→wpAny (model X.prog X.w) X.A (isTrue e X.env (eval e X.env)) (TP X pins σ Q) X.xe s
def PW (X:Cx) (e:Expr) (t:TT):Prop :=
  ∀ (whole:Sem Value) (pins:List (Addr × Obj)) (s:Shared) (σ:St) (H:Hp) (Q:Bool→Hp→Prop),Inv X pins σ H s→t σ H Q→wpAny (model X.prog X.w) X.A (isTrue e X.env whole) (TP X pins σ Q) X.xe s
theorem PW.pt {X:Cx} {e:Expr} {t:TT} (h:PW X e t):PT X e t:=h _
def PA (X:Cx) (es:List Expr) (t:TA):Prop :=
  ∀ (pos:Pos) (pins:List (Addr × Obj)) (s:Shared) (σ:St) (H:Hp) (Q:List V→Hp→Prop),Inv X pins σ H s→t σ H Q→wpAny (model X.prog X.w) X.A (spliced (backTo pos (starEach es X.env))) (AP X pins σ Q) X.xe s
def PS (X:Cx) (st:Stmt) (t:TS):Prop :=
  ∀ (pins:List (Addr × Obj)) (s:Shared) (σ:St) (H:Hp) (D:Ends),Inv X pins σ H s→t D σ H→wpAny (model X.prog X.w) X.A (exec st X.env) (SP X pins D) X.xe s
def PSs (X:Cx) (st:List Stmt) (t:TS):Prop :=
  ∀ (pins:List (Addr × Obj)) (s:Shared) (σ:St) (H:Hp) (D:Ends),Inv X pins σ H s→t D σ H→wpAny (model X.prog X.w) X.A (execs st X.env) (SP X pins D) X.xe s
theorem thn {α:Type} {t:Sem α} {Q Q':α→Shared→Prop} {M:Model} {A:Around} {E:Value→Shared→Prop} {s:Shared} (h:wpAny M A t Q E s) (hQ:∀ a s,Q a s→Q' a s):wpAny M A t Q' E s:=wpAny_mono h hQ fun _ _ x=>x
section
variable {X : Cx}
def qlE (i:Nat):TE:=fun σ H Q=>∃ v,σ[i]?=some (some v)∧Q v H
def tC (v:V):TE:=fun _ H Q=>Q v H
theorem qks {i:Nat} {x:Str} {pos:Pos} (hN:X.N[i]?=some x) (hv:Vis X.env.scope x) (hd:(x == ("__debug__":Str))=false:=by decide) (hcd:(x == ("__classdict__":Str))=false:=by decide):PE X (.Name x pos) (qlE i):=by
  intro pins s σ H Q I h
  obtain ⟨v,e,h⟩:=h
  obtain ⟨m,hn,hl⟩:=I.loc
  obtain ⟨u,r,l⟩:=hl i x v hN e hv
  have fin:EP X pins σ Q u s:=⟨v,H,I,r,h⟩
  rcases l with ⟨hk,hm⟩ | ⟨hk,c,hc,hcell⟩
  · exact wpAny_Name (wpAny_loadName_local I.ok.kind hk hn hm fin) hd
  · rcases hk with hk | hk
    · exact wpAny_Name (wpAny_loadName_cell I.ok.kind hk hc hcell fin) hd
    · exact wpAny_Name (wpAny_loadName_free I.ok.kind hk hc hcell fin hcd) hd
theorem qbi {i j pos}:PE X (.Constant (.int i) j pos) (tC (.int i)):=fun _ _ _ H _ I h=>wpAny_Constant_int ⟨.int i,H,I.tok _,⟨_,rfl⟩,h⟩
theorem qli {b j pos}:PE X (.Constant (.bool b) j pos) (tC (.bl b)):=fun _ _ _ H _ I h=>Constant_bool ⟨.bl b,H,I,rfl,h⟩
theorem qib {j pos}:PE X (.Constant .none j pos) (tC .non):=fun _ _ _ H _ I h=>Constant_none ⟨.non,H,I,rfl,h⟩
def Gl (X:Cx) (x:Str):Prop:=X.env.kindOf x=some .globalImplicit
theorem qgL {E:Value→Shared→Prop} {pins:List (Addr × Obj)} {s:Shared} {σ:St} {H:Hp} {x:Str} {u:Value} {pos:Pos} {Q:Value→Shared→Prop} (I:Inv X pins σ H s) (hg:Gl X x) (hm:X.mg x=some u) (h:Q u s)
    (hd:(x == ("__debug__":Str))=false:=by decide):wpAny (model X.prog X.w) X.A (eval (.Name x pos) X.env) Q E s :=
  Calls.Name_function_global I.ok.kind hg (Calls.loadGlobal_global (by rw [I.ok.glob];exact I.mod.glob.keeps I.bk) hm h) hd
theorem qcS {E:Value→Shared→Prop} {pins:List (Addr × Obj)} {s:Shared} {σ:St} {H:Hp} {x:Str} {u:Value} {pos:Pos} {Q:Value→Shared→Prop} (I:Inv X pins σ H s) (hg:Gl X x) (hm:X.mg x=none) (hv:bootBuiltins x=some u) (h:Q u s)
    (hn:x≠"__name__":=by decide) (hd:(x == ("__debug__":Str))=false:=by decide):wpAny (model X.prog X.w) X.A (eval (.Name x pos) X.env) Q E s:=by
  obtain ⟨mb,h1,h2⟩:=I.mod.blt
  exact Calls.Name_function_global I.ok.kind hg (Calls.loadGlobal_builtin (by rw [I.ok.glob];exact I.mod.glob.keeps I.bk) hm (by rw [I.ok.blt];exact h1.keeps I.bk) ((h2 x hn).trans hv) h) hd
theorem qcW {x:Str} {v:V} {u:Value} {pos:Pos} (hg:Gl X x) (hm:X.mg x=none) (hv:bootBuiltins x=some u) (r:RelV v u) (hn:x≠"__name__":=by decide) (hd:(x == ("__debug__":Str))=false:=by decide):PE X (.Name x pos) (tC v) :=
  fun _ _ _ H _ I h=>qcS I hg hm hv ⟨v,H,I,r,h⟩ hn hd
variable {a b : Expr} {ta tb : TE} {pos : Pos}
variable {tA tB' : TT} {rest : List Expr}
def qmo (t u:TT):TT:=fun σ H Q=>t σ H fun c H1=>if c=true then u σ H1 Q else Q false H1
def tOr (t u:TT):TT:=fun σ H Q=>t σ H fun c H1=>if c=true then Q true H1 else u σ H1 Q
def qmu (t:TT):TT:=fun σ H Q=>t σ H fun c H1=>Q (!c) H1
theorem qiN (ha:PT X a tA):PW X (.BoolOp .And [a] pos) tA:=by
  intro wh pins s σ H Q I h
  refine isTrue_and (thn (ha pins s σ H Q I h) fun c s1 e=>?_)
  cases c with
  | true=>exact isTrue_and_nil e
  | false=>exact e
theorem qjo (ha:PT X a tA):PW X (.BoolOp .Or [a] pos) tA:=by
  intro wh pins s σ H Q I h
  refine isTrue_or (thn (ha pins s σ H Q I h) fun c s1 e=>?_)
  cases c with
  | false=>exact isTrue_or_nil e
  | true=>exact e
theorem qjt (ha:PT X a tA) (hb:PW X (.BoolOp .And (b::rest) pos) tB'):PW X (.BoolOp .And (a::b::rest) pos) (qmo tA tB'):=by
  intro wh pins s σ H Q I h
  refine isTrue_and (thn (ha pins s σ H _ I h) fun c s1 hq0=>?_)
  obtain ⟨H1,I1,q1⟩:=hq0
  cases c with
  | true=>exact hb wh pins s1 σ H1 Q I1 q1
  | false=>exact ⟨H1,I1,q1⟩
theorem qkF (ha:PT X a tA) (hb:PW X (.BoolOp .Or (b::rest) pos) tB'):PW X (.BoolOp .Or (a::b::rest) pos) (tOr tA tB'):=by
  intro wh pins s σ H Q I h
  refine isTrue_or (thn (ha pins s σ H _ I h) fun c s1 hq0=>?_)
  obtain ⟨H1,I1,q1⟩:=hq0
  cases c with
  | true=>exact ⟨H1,I1,q1⟩
  | false=>exact hb wh pins s1 σ H1 Q I1 q1
theorem qj8 (ha:PT X a tA):PT X (.UnaryOp .Not a pos) (qmu tA):=by
  intro pins s σ H Q I h
  exact isTrue_not (ha pins s σ H (fun c H1=>Q (!c) H1) I h)
def qk4 (ta tb:TE):TE:=fun σ H Q=>ta σ H fun x H1=>∃ c,x=.bl c∧if c=true then tb σ H1 Q else Q (.bl false) H1
def qk2 (ta:TE):TE:=fun σ H Q=>ta σ H fun x H1=>∃ c,x=.bl c∧Q (.bl (!c)) H1
theorem qjj {op} {t:TE} (h:PE X a t):PE X (.BoolOp op [a] pos) t:=fun pins s σ H Q I hw=>BoolOp_one (h pins s σ H Q I hw)
theorem qjM (ha:PE X a ta) (hb:PE X (.BoolOp .And (b::rest) pos) tb):PE X (.BoolOp .And (a::b::rest) pos) (qk4 ta tb):=by
  intro pins s σ H Q I h
  refine BoolOp_and (thn (ha pins s σ H _ I h) fun v s1 hq0=>?_)
  obtain ⟨x,H1,I1,r1,q1⟩:=hq0
  obtain ⟨c,rfl,q1⟩:=q1
  cases r1
  refine wpAny_truthy_bool ?_
  cases c with
  | true=>exact hb pins s1 σ H1 Q I1 q1
  | false=>exact ⟨.bl false,H1,I1,rfl,q1⟩
theorem qke (ha:PE X a ta):PE X (.UnaryOp .Not a pos) (qk2 ta):=by
  intro pins s σ H Q I h
  refine UnaryOp_ (thn (ha pins s σ H _ I h) fun v s1 hq0=>?_)
  obtain ⟨x,H1,I1,r1,q1⟩:=hq0
  obtain ⟨c,rfl,q1⟩:=q1
  cases r1
  exact not_of (wpAny_truthy_bool ⟨.bl (!c),H1,I1,rfl,q1⟩)
def tIf (t:TT) (ta tb:TE):TE:=fun σ H Q=>t σ H fun c H1=>if c=true then ta σ H1 Q else tb σ H1 Q
theorem qfq {c:Expr} (hc:PT X c tA) (ha:PE X a ta) (hb:PE X b tb):PE X (.IfExp c a b pos) (tIf tA ta tb):=by
  intro pins s σ H Q I h
  refine wpAny_IfExp (thn (hc pins s σ H _ I h) fun d s1 hq0=>?_)
  obtain ⟨H1,I1,q1⟩:=hq0
  cases d with
  | true=>exact ha pins s1 σ H1 Q I1 q1
  | false=>exact hb pins s1 σ H1 Q I1 q1
end
def SqL (K:PySem.W.Frag) (H:Hp) (a:Addr) (xs:List V):Prop :=
  Rd H a (.lst xs) ∨
    ∃ (o:Obj) (its:Array Value) (n:Nat),K.lookup a=some o∧o.cls=.type "list"∧o.dict=none∧o.data=.seq its n∧its.size≤sizeLine∧Vals xs its.toList
def SqT (K:PySem.W.Frag) (H:Hp) (a:Addr) (xs:List V):Prop :=
  Rd H a (.tup xs) ∨
    ∃ (o:Obj) (its:Array Value) (n:Nat),K.lookup a=some o∧o.cls=.type "tuple"∧o.data=.seq its n∧its.size≤sizeLine∧Vals xs its.toList
def qmr:Value→Option V
  | .none=>some .non
  | .bool b=>some (.bl b)
  | .int i _=>some (.int i)
  | .str x _=>some (.str x)
  | .bytes b _=>some (.byt b)
  | .float b _=>some (.flt b)
  | .ref a=>some (.ref a)
  | .type n=>some (.ty n)
  | _=>none
theorem RelV.abs {x:V} {u:Value} (r:RelV x u):qmr u=some x:=by
  cases x with
  | non=>cases r;rfl
  | bl _=>cases r;rfl
  | int _=>obtain ⟨t,rfl⟩:=r;rfl
  | str _=>obtain ⟨t,rfl⟩:=r;rfl
  | byt _=>obtain ⟨t,rfl⟩:=r;rfl
  | flt _=>obtain ⟨t,rfl⟩:=r;rfl
  | ref _=>cases r;rfl
  | ty _=>cases r;rfl
theorem RelV.inj {x y:V} {u:Value} (r:RelV x u) (q:RelV y u):x=y:=Option.some.inj (r.abs.symm.trans q.abs)
theorem Vals.inj:∀ {xs ys:List V} {us:List Value},Vals xs us→Vals ys us→xs=ys
  | _,_,_,.nil,.nil=>rfl
  | _,_,_,.cons r t,.cons r' t'=>by rw [r.inj r',Vals.inj t t']
section
variable {X : Cx} {pins : List (Addr × Obj)} {σ : St} {H : Hp} {s : Shared} {a : Addr} {xs ys : List V}
theorem SqL.of {K:PySem.W.Frag} (h:H a=some (.lst xs)):SqL K H a xs:=.inl (.inl h)
theorem SqT.of {K:PySem.W.Frag} (h:H a=some (.tup xs)):SqT K H a xs:=.inl (.inl h)
theorem Inv.list (I:Inv X pins σ H s) (h:SqL X.K H a xs):∃ its:List Value,Vals xs its∧PlainL s.heap a its.toArray∧xs.length≤sizeLine:=by
  rcases h with h | ⟨o,its,n,hk,hc,hd,hs,hz,r⟩
  · obtain ⟨z,its,n,r,e⟩:=h.ok I.hok
    exact ⟨its,r,⟨_,n,e,rfl,rfl,rfl⟩,z⟩
  · refine ⟨its.toList,r,⟨o,n,I.kIn a o hk,hc,hd,by simpa using hs⟩,?_⟩
    have e:=r.length
    simp only [Array.length_toList] at e
    omega
theorem Inv.tuple (I:Inv X pins σ H s) (h:SqT X.K H a xs):∃ its:List Value,Vals xs its∧IsTup s.heap a its.toArray∧xs.length≤sizeLine:=by
  rcases h with h | ⟨o,its,n,hk,hc,hs,hz,r⟩
  · obtain ⟨z,its,r,p⟩:=h.ok I.hok
    exact ⟨its,r,p.tup,z⟩
  · refine ⟨its.toList,r,⟨o,I.kIn a o hk,hc,n,by simpa using hs⟩,?_⟩
    have e:=r.length
    simp only [Array.length_toList] at e
    omega
theorem Inv.list_inj (I:Inv X pins σ H s) (h:SqL X.K H a xs) (h':SqL X.K H a ys):xs=ys:=by
  obtain ⟨its,r,⟨o,n,e,_,_,d⟩,_⟩:=I.list h
  obtain ⟨its',r',⟨o',n',e',_,_,d'⟩,_⟩:=I.list h'
  rw [e] at e';cases e'
  rw [d] at d'
  injection d' with d1 _
  have:its=its':=by simpa using congrArg Array.toList d1
  subst this
  exact r.inj r'
theorem Inv.tuple_inj (I:Inv X pins σ H s) (h:SqT X.K H a xs) (h':SqT X.K H a ys):xs=ys:=by
  obtain ⟨its,r,⟨o,e,_,n,d⟩,_⟩:=I.tuple h
  obtain ⟨its',r',⟨o',e',_,n',d'⟩,_⟩:=I.tuple h'
  rw [e] at e';cases e'
  rw [d] at d'
  injection d' with d1 _
  have:its=its':=by simpa using congrArg Array.toList d1
  subst this
  exact r.inj r'
end
abbrev Cx.wish (X:Cx) (E:Value→Shared→Prop):Cx:={ X with xe:=E }
abbrev Cx.nox (X:Cx):Cx:=X.wish fun _ _=>False
theorem Cx.Ok.wish {X:Cx} (ok:X.Ok) (E:Value→Shared→Prop):(X.wish E).Ok :=
  ⟨ok.mod,ok.kind,ok.glob,ok.blt,ok.above,ok.inj,ok.has,ok.cab,ok.hd,ok.frames,ok.stk,ok.exf,ok.bs,ok.bsz,ok.noex,ok.exfs,ok.funs,ok.frf⟩
theorem Cx.Ok.unwish {X:Cx} {E:Value→Shared→Prop} (ok:(X.wish E).Ok):X.Ok :=
  ⟨ok.mod,ok.kind,ok.glob,ok.blt,ok.above,ok.inj,ok.has,ok.cab,ok.hd,ok.frames,ok.stk,ok.exf,ok.bs,ok.bsz,ok.noex,ok.exfs,ok.funs,ok.frf⟩
section
variable {X : Cx} {pins : List (Addr × Obj)} {σ : St} {H : Hp} {s : Shared} {E : Value → Shared → Prop}
theorem Inv.wish (I:Inv X pins σ H s) (E:Value→Shared→Prop):Inv (X.wish E) pins σ H s:=⟨I.ok.wish E,I.os,I.bare,I.base,I.loc,I.cell,I.free,I.freeC,I.pin,I.hok,I.len⟩
theorem Inv.unwish (I:Inv (X.wish E) pins σ H s):Inv X pins σ H s:=⟨I.ok.unwish,I.os,I.bare,I.base,I.loc,I.cell,I.free,I.freeC,I.pin,I.hok,I.len⟩
theorem SP.unwish {D:Ends} {f:Flow} {s':Shared} (h:SP (X.wish E) pins D f s'):SP X pins D f s':=by
  cases f with
  | next=>obtain ⟨σ',H',I,q⟩:=h;exact ⟨σ',H',I.unwish,q⟩
  | brk=>obtain ⟨σ',H',I,q⟩:=h;exact ⟨σ',H',I.unwish,q⟩
  | cont=>obtain ⟨σ',H',I,q⟩:=h;exact ⟨σ',H',I.unwish,q⟩
  | ret u=>obtain ⟨v,σ',H',I,r,q⟩:=h;exact ⟨v,σ',H',I.unwish,r,q⟩
theorem PSs.nox {st:List Stmt} {t:TS} (h:PSs X.nox st t):PSs X st t:=fun pins s σ H D I hw =>
  wpAny_mono (h pins s σ H D (I.wish _) hw) (fun _ _ q=>q.unwish) fun _ _ z=>False.elim z
end
section
variable {X : Cx} {st : Stmt} {rest : List Stmt} {t u : TS} {e : Expr} {te : TE} {pos : Pos}
def qk1:TS:=fun D σ H=>D.nx σ H
def qlO (t u:TS):TS:=fun D σ H=>t { D with nx:=u D } σ H
theorem pss_nil:PSs X [] qk1:=fun _ _ σ H _ I h=>wpAny_execs_nil ⟨σ,H,I,h⟩
theorem qax (h1:PS X st t) (h2:PSs X rest u):PSs X (st::rest) (qlO t u):=by
  intro pins s σ H D I h
  refine wpAny_execs_cons (thn (h1 pins s σ H { D with nx:=u D } I h) fun f s1 q=>?_)
  cases f with
  | next =>
    obtain ⟨σ',H',I',q⟩:=q
    exact h2 pins s1 σ' H' D I' q
  | ret v=>exact q
  | brk=>exact q
  | cont=>exact q
theorem qbm (h1:PS X st t):PSs X [st] t:=by
  intro pins s σ H D I h
  refine wpAny_execs_cons (thn (h1 pins s σ H D I h) fun f s1 q=>?_)
  cases f with
  | next=>exact wpAny_execs_nil q
  | ret v=>exact q
  | brk=>exact q
  | cont=>exact q
theorem Inv.quiet {pins:List (Addr × Obj)} {σ:St} {H:Hp} {s:Shared} (I:Inv X pins σ H s):interactive X.env=false:=by simp [interactive,I.ok.kind]
def qld (te:TE):TS:=fun D σ H=>te σ H fun _ H1=>D.nx σ H1
theorem qeY (he:PE X e te) (hs:swapsWith e none pos.line X.env=pure false:=by rfl):PS X (.Expr e pos) (qld te):=by
  intro pins s σ H D I h
  exact wpAny_Expr_any (thn (he pins s σ H _ I h) fun v s1 hq0=>by obtain ⟨x,H1,I1,r1,q1⟩:=hq0;exact ⟨σ,H1,I1,q1⟩) I.quiet hs
def ql8 (te:TE):TS:=fun D σ H=>te σ H D.rt
theorem qfr (he:PE X e te):PS X (.Return (some e) pos) (ql8 te):=by
  intro pins s σ H D I h
  exact wpAny_Return_some (thn (he pins s σ H _ I h) fun v s1 hq0=>by obtain ⟨x,H1,I1,r1,q1⟩:=hq0;exact ⟨x,σ,H1,I1,r1,q1⟩)
def qmi (c:TT) (t u:TS):TS:=fun D σ H=>c σ H fun b H1=>if b=true then t D σ H1 else u D σ H1
theorem qj2 {c:Expr} {a b:List Stmt} {tc:TT} (hc:PT X c tc) (ha:PSs X a t) (hb:PSs X b u):PS X (.If c a b pos) (qmi tc t u):=by
  intro pins s σ H D I h
  refine wpAny_If (thn (hc pins s σ H _ I h) fun d s1 hq0=>?_)
  obtain ⟨H1,I1,q1⟩:=hq0
  cases d with
  | true=>exact ha pins s1 σ H1 D I1 q1
  | false=>exact hb pins s1 σ H1 D I1 q1
end
abbrev TG:=V→St→Hp→(St→Hp→Prop)→Prop
abbrev TGs:=List V→St→Hp→(St→Hp→Prop)→Prop
def PG (X:Cx) (target:Expr) (t:TG):Prop :=
  ∀ (pins:List (Addr × Obj)) (s:Shared) (σ:St) (H:Hp) (v:V) (u:Value) (Q:St→Hp→Prop),Inv X pins σ H s→RelV v u→t v σ H Q →
    wpAny (model X.prog X.w) X.A (assign target X.env u) (fun _ s'=>∃ σ' H',Inv X pins σ' H' s'∧Q σ' H') X.xe s
def PGs (X:Cx) (ts:List Expr) (t:TGs):Prop :=
  ∀ (pins:List (Addr × Obj)) (s:Shared) (σ:St) (H:Hp) (vs:List V) (us:List Value) (Q:St→Hp→Prop),Inv X pins σ H s→Vals vs us→t vs σ H Q →
    wpAny (model X.prog X.w) X.A (assignInOrder ((assignEach ts X.env).map (·.2)) us) (fun _ s'=>∃ σ' H',Inv X pins σ' H' s'∧Q σ' H') X.xe s
abbrev qkN:=V→V→V→Hp→(Hp→Prop)→Prop
def qlm (X:Cx) (t:qkN):Prop :=
  ∀ (pins:List (Addr × Obj)) (s:Shared) (σ:St) (H:Hp) (o i v:V) (ov iv u:Value) (Q:Hp→Prop),Inv X pins σ H s→RelV o ov→RelV i iv→RelV v u→t o i v H Q →
    wpAny (model X.prog X.w) X.A (setItem ov iv u) (fun _ s'=>∃ H',Inv X pins σ H' s'∧Q H') X.xe s
section
variable {X : Cx} {pos : Pos}
def qfU (i:Nat):TG:=fun v σ H Q=>Q (σ.set i (some v)) H
theorem qdT {i:Nat} {x:Str} (hN:X.N.Nodup) (hi:X.N[i]?=some x) (hx:Loc X.env.scope x) (hf:X.fn x=true∨X.env.scope.names.lookup x=some .local:=by first | exact .inl rfl | exact .inr rfl | assumption):PG X (.Name x pos) (qfU i):=by
  intro pins s σ H v u Q I r h
  exact wpAny_assign_Name (qfu I hN hi hx r (fun s' I'=>⟨_,H,I',h⟩) hf)
def qlI:TGs:=fun vs σ H Q=>vs=[]∧Q σ H
def qkL (t:TG) (u:TGs):TGs:=fun vs σ H Q=>∃ v r,vs=v::r∧t v σ H fun σ' H'=>u r σ' H' Q
theorem pgs_nil:PGs X [] qlI:=by
  intro pins s σ H vs us Q I r h
  obtain ⟨e,h⟩:=h
  subst e
  cases r
  exact assignInOrder_nil ⟨σ,H,I,h⟩
theorem qg1 {e:Expr} {es:List Expr} {t:TG} {u:TGs} (h1:PG X e t) (h2:PGs X es u)
    (hs:(assignEach (e::es) X.env).map (·.2)=assign e X.env::(assignEach es X.env).map (·.2):=by rfl):PGs X (e::es) (qkL t u):=by
  intro pins s σ H vs us Q I r h
  obtain ⟨v,vr,e1,h⟩:=h
  subst e1
  cases r with
  | cons r rr =>
    rw [hs]
    refine assignInOrder_cons (thn (h1 pins s σ H _ _ _ I r h) fun _ s1 hq0=>?_)
    obtain ⟨σ1,H1,I1,q1⟩:=hq0
    exact h2 pins s1 σ1 H1 _ _ Q I1 rr q1
def qlG (K:PySem.W.Frag) (n:Nat) (t:TGs):TG:=fun v σ H Q=>∃ a xs,v=.ref a∧SqT K H a xs∧xs.length=n∧t xs σ H Q
theorem qjO {es:List Expr} {k:Nat} {t:TGs} {n:Nat} (hc:X.calm=true) (h:PGs X es t)
    (hn:(assignEach es X.env).length=n:=by rfl) (hst:(assignEach es X.env).findIdx? (·.1)=none:=by rfl):PG X (.Tuple es k pos) (qlG X.K n t):=by
  intro pins s σ H v u Q I r hw
  obtain ⟨a,xs,e1,hq,hl,hw⟩:=hw
  subst e1
  cases r
  obtain ⟨its,rv,ht,hz⟩:=I.tuple hq
  refine assign_Tuple_tuple (I.ok.hd hc) ht (by simp [hn,← hl,rv.length]) hst fun h' hx=>?_
  have I1:Inv X pins σ H { s with heap:=h' }:=I.kept (t':=s.toks) fun b o e=>hx b o (Nat.ne_of_lt (Heap.lt_size e)) e
  exact h pins _ σ H xs _ Q I1 (by simpa using rv) hw
def qmq (to ti:TE) (t:qkN):TG:=fun v σ H Q=>to σ H fun o H1=>ti σ H1 fun i H2=>t o i v H2 fun H3=>Q σ H3
theorem qcy {o i:Expr} {to ti:TE} {t:qkN} (ho:PE X o to) (hi:PE X i ti) (hs:qlm X t)
    (ha:∀ v,assign (.Subscript o i pos) X.env v=(do
      let ov ← holding [v] (eval o X.env)
      let iv ← holding [v,ov] (eval i X.env)
      standAt pos
      holding [v,ov,iv] (setItem ov iv v)
      release [v,ov,iv] []):=by intro _;rfl):PG X (.Subscript o i pos) (qmq to ti t):=by
  intro pins s σ H v u Q I r h
  rw [ha]
  refine wpAny_bind (wpAny_holding (thn (ho pins s σ H _ I h) fun ov s1 hq0=>?_))
  obtain ⟨x,H1,I1,r1,q1⟩:=hq0
  refine wpAny_bind (wpAny_holding (thn (hi pins s1 σ H1 _ I1 q1) fun iv s2 hq1=>?_))
  obtain ⟨y,H2,I2,r2,q2⟩:=hq1
  refine wpAny_bind (wpAny_standAt (wpAny_bind (wpAny_holding (thn (hs pins s2 σ H2 x y v ov iv u _ I2 r1 r2 r q2) fun _ s3 hq2=>?_))))
  obtain ⟨H3,I3,q3⟩:=hq2
  exact wpAny_release ⟨σ,H3,I3,q3⟩
def qka (te:TE) (g:TG):TS:=fun D σ H=>te σ H fun x H1=>g x σ H1 D.nx
theorem qb0 {tg e:Expr} {te:TE} {g:TG} (he:PE X e te) (hg:PG X tg g) (hs:swapsWithSole [tg] e pos.line X.env=pure false:=by rfl) (hw:swappedStores [tg] e X.env=pure none:=by rfl)
    (h1:(assignEach [tg] X.env).map (·.2)=[assign tg X.env]:=by rfl):PS X (.Assign [tg] e pos) (qka te g):=by
  intro pins s σ H D I h
  refine wpAny_Assign_stores (thn (he pins s σ H _ I h) fun v s1 hq0=>?_) hs hw
  obtain ⟨x,H1,I1,r1,q1⟩:=hq0
  rw [h1]
  exact thn (hg pins s1 σ H1 x v _ I1 r1 q1) fun _ s2 q=>q
theorem qbE {i:Nat} {x:Str} {e:Expr} {te:TE} {pos':Pos} (hN:X.N.Nodup) (hi:X.N[i]?=some x) (hx:Loc X.env.scope x) (he:PE X e te) (hs:swapsWith e (some (.Name x pos')) pos.line X.env=pure false:=by rfl) (hf:X.fn x=true∨X.env.scope.names.lookup x=some .local:=by first | exact .inl rfl | exact .inr rfl | assumption) :
    PS X (.Assign [.Name x pos'] e pos) (qka te (qfU i)):=by
  intro pins s σ H D I h
  refine wpAny_Assign_Name (thn (he pins s σ H _ I h) fun v s1 hq0=>?_) hs
  obtain ⟨y,H1,I1,r1,q1⟩:=hq0
  exact qfu I1 hN hi hx r1 (fun s2 I2=>⟨_,H1,I2,q1⟩) hf
end
section
variable {X : Cx} {pos : Pos}
def qjU (c:TT) (tb:TS):TS:=fun D σ H=>∃ W:Nat→St→Hp→Prop,(∃ m,W m σ H)∧∀ m σ H,W m σ H →
  c σ H fun b H1=>if b=true then ∃ N:St→Hp→Prop,(∀ σ' H',N σ' H'→∃ m',m'<m∧W m' σ' H')∧tb { D with nx:=N,ct:=N,bk:=D.nx } σ H1 else D.nx σ H1
theorem qhr {c:Expr} {body:List Stmt} {tc:TT} {tb:TS} (hp:PassesOwn (model X.prog X.w) X.A X.env X.xe) (hc:PT X c tc) (hb:PSs X body tb):PS X (.While c body [] pos) (qjU tc tb):=by
  intro pins s σ H D I h
  obtain ⟨W,⟨m0,w0⟩,turn⟩:=h
  refine wpAny_While (codeAny_whileLoop (fun n s'=>∃ σ' H',Inv X pins σ' H' s'∧W n σ' H') ?_ m0 ⟨σ,H,I,w0⟩)
  rintro n s1 ⟨σ1,H1,I1,w1⟩
  refine wpAny_passesOwn hp (thn (hc pins s1 σ1 H1 _ I1 (turn n σ1 H1 w1)) fun b s2 hq0=>?_)
  obtain ⟨H2,I2,q2⟩:=hq0
  cases b with
  | true =>
    obtain ⟨N,hN,q2⟩:=q2
    rw [if_pos rfl]
    refine wpAny_passesOwn hp (thn (hb pins s2 σ1 H2 _ I2 q2) fun f s3 q3=>?_)
    cases f with
    | next =>
      obtain ⟨σ3,H3,I3,n3⟩:=q3
      obtain ⟨m',hm,w3⟩:=hN σ3 H3 n3
      exact ⟨m',hm,σ3,H3,I3,w3⟩
    | cont =>
      obtain ⟨σ3,H3,I3,n3⟩:=q3
      obtain ⟨m',hm,w3⟩:=hN σ3 H3 n3
      exact ⟨m',hm,σ3,H3,I3,w3⟩
    | brk=>exact q3
    | ret v=>exact q3
  | false =>
    rw [if_neg Bool.false_ne_true]
    exact wpAny_execs_nil ⟨σ1,H2,I2,q2⟩
end
structure It where
  go:Nat→Hp→Prop
  yld:Nat→Hp→V→Hp→Prop
  stop:Nat→Hp→Prop
def FpOk (X:Cx) (pins:List (Addr × Obj)) (H:Hp) (b:Addr):Prop :=
  H b=none∧b≠X.env.locals∧b∉X.fs∧(b∈X.ex∨X.s₀.heap.objs.size≤b)∧(∀ x c,X.env.cells.lookup x=some c→c≠b)∧∀ p∈X.pn++pins,p.1≠b
theorem Inv.fpOk {X:Cx} {pins:List (Addr × Obj)} {σ:St} {H H':Hp} {s:Shared} {b:Addr} (I:Inv X pins σ H s) (hb:s.heap.objs.size≤b) (hn:H' b=none):FpOk X pins H' b:=by
  refine ⟨hn,Nat.ne_of_gt (Nat.lt_of_lt_of_le I.lt hb),I.nofs hb,.inr (Nat.le_trans I.sz hb),fun x c e z=>?_,fun p hp z=>?_⟩
  · obtain ⟨v,q⟩:=I.cell x c e
    exact absurd (Nat.lt_of_lt_of_le q.lt (by rw [z];exact hb)) (Nat.lt_irrefl _)
  · exact absurd (Nat.lt_of_lt_of_le (Heap.lt_size (I.pin p hp).1) (by rw [z];exact hb)) (Nat.lt_irrefl _)
structure Turn (P:Program) (w:World) (K:PySem.W.Frag) (tg:Expr) (J:It) (fp:List Addr) (it:Addr) (tn:Nat→Heap→Prop):Prop where
  mem:it∈fp
  obj:∀ i h,tn i h→∀ b∈fp,∃ o,h.get? b=some o∧∀ v,o.data≠.cell v
  keep:∀ i h h',tn i h→(∀ b∈fp,∀ o,h.get? b=some o→h'.get? b=some o)→tn i h'
  item:∀ (X:Cx),X.prog=P→X.w=w→X.K=K→X.calm=true→∀ (i:Nat) (pins:List (Addr × Obj)) (s:Shared) (σ:St) (H:Hp) (E:Value→Shared→Prop),Inv X pins σ H s→(∀ b∈fp,FpOk X pins H b)→tn i s.heap→J.go i H →
    wpAny (model P w) X.A (pyNext (.ref it)) (fun r s1=>∃ u,r=some u ∧
      wpAny (model P w) X.A (letOwnedTupleGo tg (.ref it) u) (fun _ s2=>∃ x H',Inv X pins σ H' s2∧RelV x u∧J.yld i H x H'∧tn (i+1) s2.heap∧∀ b∈fp,H' b=none) E s1) E s
  done:∀ (X:Cx),X.prog=P→X.w=w→X.K=K→X.calm=true→∀ (i:Nat) (pins:List (Addr × Obj)) (s:Shared) (σ:St) (H:Hp) (E:Value→Shared→Prop),Inv X pins σ H s→(∀ b∈fp,FpOk X pins H b)→tn i s.heap→J.stop i H →
    wpAny (model P w) X.A (pyNext (.ref it)) (fun r s1=>r=none∧Inv X pins σ H s1) E s
  self:∀ (A:Around) (i:Nat) (s:Shared) (Q:Value→Shared→Prop) (E:Value→Shared→Prop),tn i s.heap→Q (.ref it) s→wpAny (model P w) A (pyIter (.ref it)) Q E s
abbrev TI:=St→Hp→(It→Hp→Prop)→Prop
def PIE (X:Cx) (pins:List (Addr × Obj)) (σ:St) (tg:Expr) (R:It→Hp→Prop) (itv:Value) (s2:Shared):Prop :=
  ∃ (it:Addr) (fp:List Addr) (tn:Nat→Heap→Prop) (J:It) (H':Hp),itv=.ref it∧Inv X pins σ H' s2∧Turn X.prog X.w X.K tg J fp it tn∧tn 0 s2.heap∧(∀ b∈fp,FpOk X pins H' b)∧R J H'
def PI (X:Cx) (tg iter:Expr) (wi:TI):Prop :=
  ∀ (pins:List (Addr × Obj)) (s:Shared) (σ:St) (H:Hp) (R:It→Hp→Prop),Inv X pins σ H s→wi σ H R →
    wpAny (model X.prog X.w) X.A (eval iter X.env) (fun v s1=>wpAny (model X.prog X.w) X.A (pyIter v) (PIE X pins σ tg R) X.xe s1) X.xe s
theorem qiq {M:Model} {A:Around} {E:Value→Shared→Prop} {s:Shared} {tg:Expr} {it:Addr} {u:Value} {o:Obj} {n:String} {vs:Array Value} {Q:Unit→Shared→Prop} (ho:s.heap.get? it=some o) (hc:o.cls=.type n) (hd:o.data=.fields vs)
    (hn:["enumerate","zip","dict_itemiterator","dict_reverseitemiterator","odict_iterator","itertools.zip_longest","itertools.pairwise"].contains n=false) (hQ:Q () s):wpAny M A (letOwnedTupleGo tg (.ref it) u) Q E s:=by
  unfold letOwnedTupleGo
  cases tg <;> first
    | exact wpAny_pure hQ
    | (cases u <;> first
        | exact wpAny_pure hQ
        | (refine wpAny_bind (wpAny_load ho ?_)
           rw [hc,hd]
           show wpAny M A (if (["enumerate","zip","dict_itemiterator","dict_reverseitemiterator","odict_iterator","itertools.zip_longest","itertools.pairwise"].contains n && vs[0]? == some (rawInt _))=true then _ else _) Q E s
           rw [if_neg (by intro h;rw [hn,Bool.false_and] at h;cases h)]
           exact wpAny_pure hQ))
def Itl (K:PySem.W.Frag) (a:Addr):It :=
  ⟨fun i H=>∃ xs x,SqL K H a xs∧xs[i]?=some x,fun i H x H'=>H'=H∧∀ xs,SqL K H a xs→xs[i]?=some x,fun i H=>∃ xs,SqL K H a xs∧xs.length≤i⟩
def Itt (K:PySem.W.Frag) (a:Addr):It :=
  ⟨fun i H=>∃ xs x,SqT K H a xs∧xs[i]?=some x,fun i H x H'=>H'=H∧∀ xs,SqT K H a xs→xs[i]?=some x,fun i H=>∃ xs,SqT K H a xs∧xs.length≤i⟩
def Itr (lo:Int) (n:Nat):It:=⟨fun i _=>i<n,fun i H x H'=>H'=H∧x=.int (lo+i),fun i _=>n≤i⟩
theorem qen {P:Program} {w:World} {K:PySem.W.Frag} {tg:Expr} (a it:Addr):Turn P w K tg (Itl K a) [it] it (fun i h=>h.IsListIter it a i) where
  mem:=by simp
  obj:=fun i h st b hb=>by
    have e:b=it:=by simpa using hb
    subst e
    obtain ⟨o,e,c,d⟩:=st
    exact ⟨o,e,fun v z=>by rw [d] at z;cases z⟩
  keep:=fun i h h' st k=>st.at fun o e=>k it (by simp) o e
  item:=by
    intro X hP hw hK hc i pins s σ H E I hf st hg
    subst hP hw hK
    obtain ⟨xs,x,hq,hx⟩:=hg
    obtain ⟨its,rv,p,hz⟩:=I.list hq
    obtain ⟨u,hu,ru⟩:=rv.get hx
    obtain ⟨f0,f1,f2,f3,f4,f5⟩:=hf it (by simp)
    refine wpAny_pyNext_list_item st p.isList (x:=u) (by simpa using hu) fun h' st' sb=>?_
    have I1:Inv X pins σ H { s with heap:=h' }:=I.turned (t':=s.toks) (fun b o hb e=>(sb.2 b hb).trans e) f0 f1 f3 f4 f5
    obtain ⟨o,e,c,d⟩:=id st'
    exact ⟨u,rfl,qiq (s:={ s with heap:=h' }) e c d (by decide) ⟨x,H,I1,ru,⟨rfl,fun ys hy=>by rw [I.list_inj hy hq];exact hx⟩,st',fun b hb=>(hf b hb).1⟩⟩
  done:=by
    intro X hP hw hK hc i pins s σ H E I hf st hg
    subst hP hw hK
    obtain ⟨xs,hq,hx⟩:=hg
    obtain ⟨its,rv,p,hz⟩:=I.list hq
    obtain ⟨f0,f1,f2,f3,f4,f5⟩:=hf it (by simp)
    have hl:=rv.length
    exact wpAny_pyNext_list_end (I.ok.hd hc) st p.isList (by simp;omega) fun h' eb=>⟨rfl,I.turned (t':=s.toks) (fun b o hb e=>eb b o hb e) f0 f1 f3 f4 f5⟩
  self:=fun _ _ _ _ _ st h=>wpAny_pyIter_listiter st h
theorem qdu {P:Program} {w:World} {K:PySem.W.Frag} {tg:Expr} (a it:Addr):Turn P w K tg (Itt K a) [it] it (fun i h=>h.IsTupleIter it a i) where
  mem:=by simp
  obj:=fun i h st b hb=>by
    have e:b=it:=by simpa using hb
    subst e
    obtain ⟨o,e,c,d⟩:=st
    exact ⟨o,e,fun v z=>by rw [d] at z;cases z⟩
  keep:=fun i h h' st k=>st.at fun o e=>k it (by simp) o e
  item:=by
    intro X hP hw hK hc i pins s σ H E I hf st hg
    subst hP hw hK
    obtain ⟨xs,x,hq,hx⟩:=hg
    obtain ⟨its,rv,p,hz⟩:=I.tuple hq
    obtain ⟨u,hu,ru⟩:=rv.get hx
    obtain ⟨f0,f1,f2,f3,f4,f5⟩:=hf it (by simp)
    refine wpAny_pyNext_tuple_item st (show s.heap.IsTuple a its.toArray from p) (x:=u) (by simpa using hu) fun h' st' sb=>?_
    have I1:Inv X pins σ H { s with heap:=h' }:=I.turned (t':=s.toks) (fun b o hb e=>(sb.2 b hb).trans e) f0 f1 f3 f4 f5
    obtain ⟨o,e,c,d⟩:=id st'
    exact ⟨u,rfl,qiq (s:={ s with heap:=h' }) e c d (by decide) ⟨x,H,I1,ru,⟨rfl,fun ys hy=>by rw [I.tuple_inj hy hq];exact hx⟩,st',fun b hb=>(hf b hb).1⟩⟩
  done:=by
    intro X hP hw hK hc i pins s σ H E I hf st hg
    subst hP hw hK
    obtain ⟨xs,hq,hx⟩:=hg
    obtain ⟨its,rv,p,hz⟩:=I.tuple hq
    obtain ⟨f0,f1,f2,f3,f4,f5⟩:=hf it (by simp)
    have hl:=rv.length
    exact wpAny_pyNext_tuple_end (I.ok.hd hc) st (show s.heap.IsTuple a its.toArray from p) (by simp;omega) fun h' eb=>⟨rfl,I.turned (t':=s.toks) (fun b o hb e=>eb b o hb e) f0 f1 f3 f4 f5⟩
  self:=fun _ _ _ _ _ st h=>wpAny_pyIter_tupleiter st h
theorem qfJ {P:Program} {w:World} {K:PySem.W.Frag} {tg:Expr} (it:Addr) (lo:Int) (n:Nat):Turn P w K tg (Itr lo n) [it] it (fun i h=>IsRangeIter h it (lo+(i:Nat)*1) ((n:Int) - (i:Nat)) 1) where
  mem:=by simp
  obj:=fun i h st b hb=>by
    have e:b=it:=by simpa using hb
    subst e
    exact ⟨_,st,fun v z=>by
      have z':Data.fields _=Data.cell v:=z
      cases z'⟩
  keep:=fun i h h' st k=>k it (by simp) _ st
  item:=by
    intro X hP hw hK hc i pins s σ H E I hf st hg
    subst hP hw hK
    obtain ⟨f0,f1,f2,f3,f4,f5⟩:=hf it (by simp)
    have W:=Walks.range (prog:=X.prog) (w:=X.w) (I.ok.hd hc) it lo 1 n
    refine W.item i s _ _ hg st fun v h' tk hv st' kk=>?_
    obtain ⟨t,rfl⟩:=hv
    have I1:Inv X pins σ H { s with heap:=h',toks:=tk }:=I.turned (fun b o hb e=>kk b o (by simpa using hb) e) f0 f1 f3 f4 f5
    refine ⟨_,rfl,qiq (s:={ s with heap:=h',toks:=tk }) (n:="range_iterator") st' rfl rfl (by decide) ⟨.int (lo+i),H,I1,⟨t,?_⟩,⟨rfl,rfl⟩,st',fun b hb=>(hf b hb).1⟩⟩
    rw [Int.mul_one]
  done:=by
    intro X hP hw hK hc i pins s σ H E I hf st hg
    subst hP hw hK
    obtain ⟨f0,f1,f2,f3,f4,f5⟩:=hf it (by simp)
    exact wpAny_pyNext_range_end (I.ok.hd hc) st (by have:n≤i:=hg;omega) fun h' eb=>⟨rfl,I.turned (t':=s.toks) (fun b o hb e=>eb b o hb e) f0 f1 f3 f4 f5⟩
  self:=fun _ _ _ _ _ st h=>wpAny_pyIter_rangeiter st h
section
variable {X : Cx} {tg : Expr}
def qlh (K:PySem.W.Frag) (tl:TE):TI:=fun σ H R=>tl σ H fun x H1=>∃ a,x=.ref a∧(∃ xs,SqL K H1 a xs)∧R (Itl K a) H1
def qlK (K:PySem.W.Frag) (tl:TE):TI:=fun σ H R=>tl σ H fun x H1=>∃ a,x=.ref a∧(∃ xs,SqT K H1 a xs)∧R (Itt K a) H1
theorem qi9 {l:Expr} {tl:TE} (hl:PE X l tl):PI X tg l (qlh X.K tl):=by
  intro pins s σ H R I h
  refine thn (hl pins s σ H _ I h) fun v s1 hq0=>?_
  obtain ⟨x,H1,I1,r1,q1⟩:=hq0
  obtain ⟨a,e,⟨xs,hq⟩,q⟩:=q1
  subst e
  cases r1
  obtain ⟨its,rv,p,hz⟩:=I1.list hq
  refine wpAny_pyIter_list p.isList ?_
  refine ⟨s1.heap.objs.size,[s1.heap.objs.size],_,_,H1,rfl,I1.kept (t':=s1.toks) fun b o e=>Heap.get?_push_of_some _ e,qen a _,⟨_,Heap.get?_push_size _ rfl,rfl,rfl⟩,fun b hb=>?_,q⟩
  have e:b=s1.heap.objs.size:=by simpa using hb
  subst e
  exact I1.fpOk (Nat.le_refl _) (I1.hok.fresh (Nat.le_refl _))
theorem qkq {l:Expr} {tl:TE} (hl:PE X l tl):PI X tg l (qlK X.K tl):=by
  intro pins s σ H R I h
  refine thn (hl pins s σ H _ I h) fun v s1 hq0=>?_
  obtain ⟨x,H1,I1,r1,q1⟩:=hq0
  obtain ⟨a,e,⟨xs,hq⟩,q⟩:=q1
  subst e
  cases r1
  obtain ⟨its,rv,p,hz⟩:=I1.tuple hq
  refine wpAny_pyIter_tuple (show s1.heap.IsTuple a its.toArray from p) ?_
  refine ⟨s1.heap.objs.size,[s1.heap.objs.size],_,_,H1,rfl,I1.kept (t':=s1.toks) fun b o e=>Heap.get?_push_of_some _ e,qdu a _,⟨_,Heap.get?_push_size _ rfl,rfl,rfl⟩,fun b hb=>?_,q⟩
  have e:b=s1.heap.objs.size:=by simpa using hb
  subst e
  exact I1.fpOk (Nat.le_refl _) (I1.hok.fresh (Nat.le_refl _))
theorem qhv {pins:List (Addr × Obj)} {σ:St} {H:Hp} {s:Shared} {R:It→Hp→Prop} {E:Value→Shared→Prop} {lo hi:Int} {t u v:Tok} {tk:Nat} (I:Inv X pins σ H s) (h1:-(2 ^ 62)≤lo) (h2:lo<2 ^ 62) (h3:-(2 ^ 62)≤hi) (h4:hi<2 ^ 62)
    (q:R (Itr lo (hi - lo).toNat) H):wpAny (model X.prog X.w) X.A (pyIter (.ref s.heap.objs.size)) (PIE X pins σ tg R) E { s with heap:=s.heap.push { cls:=.type "range",data:=.fields #[.int lo t,.int hi u,.int 1 v] },toks:=tk }:=by
  refine wpAny_pyIter_range (IsRange.new ..) (small_one h1 h2 h3 h4) ?_
  have I1:Inv X pins σ H { s with heap:=s.heap.push { cls:=.type "range",data:=.fields #[.int lo t,.int hi u,.int 1 v] },toks:=tk }:=I.kept fun b o e=>Heap.get?_push_of_some _ e
  refine ⟨(s.heap.push { cls:=.type "range",data:=.fields #[.int lo t,.int hi u,.int 1 v] }).objs.size,[(s.heap.push { cls:=.type "range",data:=.fields #[.int lo t,.int hi u,.int 1 v] }).objs.size],_,_,H,rfl,
    I1.kept (t':=tk) fun b o e=>Heap.get?_push_of_some _ e,qfJ _ lo (hi - lo).toNat,?_,fun b hb=>?_,q⟩
  · have e1:lo+((0:Nat):Int)*1=lo:=by simp
    have e2:(((hi - lo).toNat:Nat):Int) - ((0:Nat):Int)=Builtin.Range.rangeSize lo hi 1:=by rw [rangeSize_one];split <;> omega
    show IsRangeIter _ _ (lo+((0:Nat):Int)*1) ((((hi - lo).toNat:Nat):Int) - ((0:Nat):Int)) 1
    rw [e1,e2]
    exact Heap.get?_push_size _ rfl
  · have e:b=(s.heap.push { cls:=.type "range",data:=.fields #[.int lo t,.int hi u,.int 1 v] }).objs.size:=by simpa using hb
    subst e
    exact I1.fpOk (Nat.le_refl _) (I1.hok.fresh (Nat.le_refl _))
def qkE (ta:TA):TI:=fun σ H R=>ta σ H fun vs H1=>∃ j:Int,vs=[.int j]∧-(2 ^ 62)≤j∧j<2 ^ 62∧R (Itr 0 j.toNat) H1
theorem qec {a:Expr} {ta:TA} {p pos:Pos} (hg:Gl X "range") (hm:X.mg "range"=none) (ha:PA X [a] ta) (hs:starEach [a] X.env=[(false,eval a X.env)]:=by rfl):PI X tg (.Call (.Name "range" p) [a] [] pos) (qkE ta):=by
  intro pins s σ H R I h
  refine Call_ (qcS I hg hm boot_range (PyProof.Rows.callWith_type1 (thn (ha pos pins s σ H _ I h) fun us s1 hq0=>?_) hs rfl))
  obtain ⟨vs,H1,I1,r1,q1⟩:=hq0
  obtain ⟨j,e,q1,q2,q⟩:=q1
  subst e
  cases r1 with
  | cons r rr =>
    cases rr
    obtain ⟨t,rfl⟩:=r
    exact call_range_1 (qhv I1 (by omega) (by omega) q1 q2 (by simpa using q))
def qlV (wi:TI) (g:TG) (tb:TS):TS:=fun D σ H=>wi σ H fun J H1=>∃ W:Nat→Nat→St→Hp→Prop,(∃ m,W 0 m σ H1)∧∀ i m σ H,W i m σ H →
  (J.stop i H∧D.nx σ H)∨(J.go i H∧∃ N:St→Hp→Prop,(∀ σ' H',N σ' H'→∃ m',m'<m∧W (i+1) m' σ' H')∧∀ x H',J.yld i H x H'→g x σ H' fun σ2 H2=>tb { D with nx:=N,ct:=N,bk:=D.nx } σ2 H2)
def qej (fp:List Addr) (h:Heap):List (Addr × Obj):=fp.filterMap fun b=>(h.get? b).map fun o=>(b,o)
theorem qbQ {fp:List Addr} {h:Heap} {b:Addr} {o:Obj} (hb:b∈fp) (e:h.get? b=some o):(b,o)∈qej fp h:=List.mem_filterMap.mpr ⟨b,hb,by rw [e];rfl⟩
theorem qgY {fp:List Addr} {h:Heap} {p:Addr × Obj} (hp:p∈qej fp h):p.1∈fp∧h.get? p.1=some p.2:=by
  obtain ⟨b,hb,e⟩:=List.mem_filterMap.mp hp
  cases q:h.get? b with
  | none=>rw [q] at e;cases e
  | some o =>
    rw [q] at e
    have e':(b,o)=p:=Option.some.inj e
    subst e'
    exact ⟨hb,q⟩
theorem Inv.pinned {pins:List (Addr × Obj)} {σ:St} {H:Hp} {s:Shared} {fp:List Addr} (I:Inv X pins σ H s) (hf:∀ b∈fp,FpOk X pins H b) (ho:∀ b∈fp,∃ o,s.heap.get? b=some o∧∀ v,o.data≠.cell v):Inv X (pins++qej fp s.heap) σ H s :=
  I.pins_of fun p hp=>(List.mem_append.mp hp).elim (fun z=>I.pin p (List.mem_append_right _ z)) fun z=>by
    obtain ⟨hb,e⟩:=qgY z
    obtain ⟨f0,f1,f2,_⟩:=hf p.1 hb
    obtain ⟨o,e',d⟩:=ho p.1 hb
    rw [e] at e';cases e'
    exact ⟨e,f0,f1,f2,d⟩
theorem Inv.unpinned {pins pl:List (Addr × Obj)} {σ:St} {H:Hp} {s:Shared} (I:Inv X (pins++pl) σ H s):Inv X pins σ H s:=I.pins_of fun p hp=>I.pin p (List.mem_append_right _ (List.mem_append_left _ hp))
theorem qig {iter:Expr} {body:List Stmt} {wi:TI} {g:TG} {tb:TS} {pos:Pos} (hp:PassesOwn (model X.prog X.w) X.A X.env X.xe) (hc:X.calm=true) (hi:PI X tg iter wi) (hg:PG X tg g) (hb:PSs X body tb)
    (hs:∀ x,foldedSetIterable iter X.env x=pure x:=by intro _;rfl):PS X (.For tg iter body [] pos) (qlV wi g tb):=by
  intro pins s σ H D I h
  refine wpAny_For (thn (hi pins s σ H _ I h) fun v s1 h1=>thn h1 fun itv s2 h2=>?_) hs
  obtain ⟨it,fp,tn,J,H2,e,I2,T,st2,f2,W,⟨m0,w0⟩,turn⟩:=h2
  subst e
  have stat:∀ {H':Hp},(∀ b∈fp,H' b=none)→∀ b∈fp,FpOk X pins H' b:=fun hn b hb=>⟨hn b hb,(f2 b hb).2⟩
  refine codeAny_forLoop_any (fun n s'=>∃ i σ' H',Inv X pins σ' H' s'∧tn i s'.heap∧(∀ b∈fp,H' b=none)∧W i n σ' H') ?_ m0 ⟨0,σ,H2,I2,st2,fun b hb=>(f2 b hb).1,w0⟩
  rintro n s3 ⟨i,σ3,H3,I3,st3,fr3,w3⟩
  rcases turn i n σ3 H3 w3 with ⟨stop,qn⟩ | ⟨go,N,hN,step⟩
  · refine wpAny_passesOwn hp (thn (T.done X rfl rfl rfl hc i pins s3 σ3 H3 X.xe I3 (stat fr3) st3 stop) fun r s4 hq0=>?_)
    obtain ⟨hr,I4⟩:=hq0
    subst hr
    exact wpAny_execs_nil ⟨σ3,H3,I4,qn⟩
  · refine wpAny_passesOwn hp (thn (T.item X rfl rfl rfl hc i pins s3 σ3 H3 X.xe I3 (stat fr3) st3 go) fun r s4 hq1=>?_)
    obtain ⟨u,hr,h4⟩:=hq1
    subst hr
    refine wpAny_passesOwn hp (thn h4 fun _ s5 hq2=>?_)
    obtain ⟨x,H5,I5,r5,y5,st5,fr5⟩:=hq2
    have I5':=I5.pinned (stat fr5) (T.obj _ _ st5)
    refine wpAny_passesOwn hp (thn (hg _ s5 σ3 H5 x u _ I5' r5 (step x H5 y5)) fun _ s6 hq3=>?_)
    obtain ⟨σ6,H6,I6,q6⟩:=hq3
    refine wpAny_passesOwn hp (thn (hb _ s6 σ6 H6 _ I6 q6) fun f s7 q7=>?_)
    have again:∀ {σ7:St} {H7:Hp},Inv X (pins++qej fp s5.heap) σ7 H7 s7→N σ7 H7→∃ m,m<n∧∃ i σ' H',Inv X pins σ' H' s7∧tn i s7.heap∧(∀ b∈fp,H' b=none)∧W i m σ' H':=fun {σ7 H7} I7 n7=>by
      obtain ⟨m',hm,w7⟩:=hN σ7 H7 n7
      refine ⟨m',hm,i+1,σ7,H7,I7.unpinned,T.keep _ _ _ st5 fun b hb o e=>(I7.pin (b,o) (List.mem_append_right _ (List.mem_append_right _ (qbQ hb e)))).1,fun b hb=>?_,w7⟩
      obtain ⟨o,e,d⟩:=T.obj _ _ st5 b hb
      exact (I7.pin (b,o) (List.mem_append_right _ (List.mem_append_right _ (qbQ hb e)))).2.1
    cases f with
    | next=>obtain ⟨σ7,H7,I7,n7⟩:=q7;exact again I7 n7
    | cont=>obtain ⟨σ7,H7,I7,n7⟩:=q7;exact again I7 n7
    | brk=>obtain ⟨σ7,H7,I7,q7⟩:=q7;exact ⟨σ7,H7,I7.unpinned,q7⟩
    | ret v=>obtain ⟨x7,σ7,H7,I7,r7,q7⟩:=q7;exact ⟨x7,σ7,H7,I7.unpinned,r7,q7⟩
end
abbrev R2:=V→V→Hp→VK→Prop
def OpR (X:Cx) (f:Value→Value→Sem Value) (r:R2):Prop :=
  ∀ (pins:List (Addr × Obj)) (s:Shared) (σ:St) (H:Hp) (x y:V) (v u:Value) (Q:VK),Inv X pins σ H s→RelV x v→RelV y u→r x y H Q →
    wpAny (model X.prog X.w) X.A (f v u) (EP X pins σ Q) X.xe s
def UnR (X:Cx) (f:Value→Sem Value) (r:V→Hp→VK→Prop):Prop :=
  ∀ (pins:List (Addr × Obj)) (s:Shared) (σ:St) (H:Hp) (x:V) (v:Value) (Q:VK),Inv X pins σ H s→RelV x v→r x H Q →
    wpAny (model X.prog X.w) X.A (f v) (EP X pins σ Q) X.xe s
def qcc (X:Cx) (f:Value) (r:List V→Hp→VK→Prop):Prop :=
  ∀ (pins:List (Addr × Obj)) (s:Shared) (σ:St) (H:Hp) (xs:List V) (us:List Value) (Q:VK),Inv X pins σ H s→Vals xs us→r xs H Q →
    wpAny (model X.prog X.w) X.A (call f us) (EP X pins σ Q) X.xe s
def qlR (X:Cx) (r:V→Hp→(Bool→Hp→Prop)→Prop):Prop :=
  ∀ (pins:List (Addr × Obj)) (s:Shared) (σ:St) (H:Hp) (x:V) (v:Value) (Q:Bool→Hp→Prop),Inv X pins σ H s→RelV x v→r x H Q →
    wpAny (model X.prog X.w) X.A (truthy v) (TP X pins σ Q) X.xe s
def tOp (r:R2) (ta tb:TE):TE:=fun σ H Q=>ta σ H fun x H1=>tb σ H1 fun y H2=>r x y H2 Q
def tUn (r:V→Hp→VK→Prop) (ta:TE):TE:=fun σ H Q=>ta σ H fun x H1=>r x H1 Q
def rI (C:Int→Int→Prop) (g:Int→Int→V):R2:=fun x y H Q=>∃ i j,x=.int i∧y=.int j∧C i j∧Q (g i j) H
def rI0 (g:Int→Int→V):R2:=fun x y H Q=>∃ i j,x=.int i∧y=.int j∧Q (g i j) H
def rU (g:Int→V):V→Hp→VK→Prop:=fun x H Q=>∃ i,x=.int i∧Q (g i) H
section
variable {X : Cx} {a b c : Expr} {ta tb tc : TE} {pos : Pos}
theorem qkM (ha:PE X a ta) (hb:PE X b tb) {pins:List (Addr × Obj)} {s:Shared} {σ:St} {H:Hp} {R:V→V→Hp→Prop} (I:Inv X pins σ H s)
    (h:ta σ H fun x H1=>tb σ H1 fun y H2=>R x y H2) {Q:Value→Shared→Prop} {f:Value→Value→Sem Value}
    (hf:∀ v u s2 x y H2,Inv X pins σ H2 s2→RelV x v→RelV y u→R x y H2→wpAny (model X.prog X.w) X.A (f v u) Q X.xe s2) :
    wpAny (model X.prog X.w) X.A (eval a X.env) (fun v s₁=>wpAny (model X.prog X.w) X.A (eval b X.env) (fun u s₂=>wpAny (model X.prog X.w) X.A (f v u) Q X.xe s₂) X.xe s₁) X.xe s:=by
  refine thn (ha pins s σ H _ I h) fun v s1 hq0=>?_
  obtain ⟨x,H1,I1,r1,q1⟩:=hq0
  refine thn (hb pins s1 σ H1 _ I1 q1) fun u s2 hq1=>?_
  obtain ⟨y,H2,I2,r2,q2⟩:=hq1
  exact hf v u s2 x y H2 I2 r1 r2 q2
theorem qfA {op:Operator} {r:R2} (ho:OpR X (binaryOp op) r) (ha:PE X a ta) (hb:PE X b tb):PE X (.BinOp a op b pos) (tOp r ta tb):=by
  intro pins s σ H Q I h
  exact wpAny_BinOp (qkM ha hb I h fun v u s2 x y H2 I2 rx ry q=>ho pins s2 σ H2 x y v u Q I2 rx ry q)
theorem qkU {op:UnaryOp} {r:V→Hp→VK→Prop} (ho:UnR X (unaryOp op) r) (ha:PE X a ta):PE X (.UnaryOp op a pos) (tUn r ta):=by
  intro pins s σ H Q I h
  exact UnaryOp_ (thn (ha pins s σ H _ I h) fun v s1 hq0=>by obtain ⟨x,H1,I1,r1,q1⟩:=hq0;exact ho pins s1 σ H1 x v Q I1 r1 q1)
theorem opI {f:Value→Value→Sem Value} {C:Int→Int→Prop} {g:Int→Int→Int}
    (rule:∀ (i j:Int) (t u:Tok) (s:Shared) (Q:Value→Shared→Prop) (E:Value→Shared→Prop),C i j→Q (.int (g i j) s.toks) { s with toks:=s.toks+1 }→wpAny (model X.prog X.w) X.A (f (.int i t) (.int j u)) Q E s) :
    OpR X f (rI C fun i j=>.int (g i j)):=by
  intro pins s σ H x y v u Q I rx ry h
  obtain ⟨i,j,rfl,rfl,hc,q⟩:=h
  obtain ⟨t,rfl⟩:=rx
  obtain ⟨t',rfl⟩:=ry
  exact rule i j t t' s _ _ hc ⟨.int (g i j),H,I.tok _,⟨_,rfl⟩,q⟩
theorem qly {f:Value→Value→Sem Value} {g:Int→Int→Int}
    (rule:∀ (i j:Int) (t u:Tok) (s:Shared) (Q:Value→Shared→Prop) (E:Value→Shared→Prop),Q (.int (g i j) s.toks) { s with toks:=s.toks+1 }→wpAny (model X.prog X.w) X.A (f (.int i t) (.int j u)) Q E s) :
    OpR X f (rI0 fun i j=>.int (g i j)):=by
  intro pins s σ H x y v u Q I rx ry h
  obtain ⟨i,j,rfl,rfl,q⟩:=h
  obtain ⟨t,rfl⟩:=rx
  obtain ⟨t',rfl⟩:=ry
  exact rule i j t t' s _ _ ⟨.int (g i j),H,I.tok _,⟨_,rfl⟩,q⟩
theorem qkR {f:Value→Value→Sem Value} {g:Int→Int→Bool}
    (rule:∀ (i j:Int) (t u:Tok) (s:Shared) (Q:Value→Shared→Prop) (E:Value→Shared→Prop),Q (.bool (g i j)) s→wpAny (model X.prog X.w) X.A (f (.int i t) (.int j u)) Q E s) :
    OpR X f (rI0 fun i j=>.bl (g i j)):=by
  intro pins s σ H x y v u Q I rx ry h
  obtain ⟨i,j,rfl,rfl,q⟩:=h
  obtain ⟨t,rfl⟩:=rx
  obtain ⟨t',rfl⟩:=ry
  exact rule i j t t' s _ _ ⟨.bl (g i j),H,I,rfl,q⟩
def qlw (i j:Int):Prop:=0≤j∧j≤1000000∧i.natAbs<2 ^ 64
theorem qia:OpR X (binaryOp .Add) (rI0 fun i j=>.int (i+j)):=qly fun _ _ _ _ _ _ _ q=>add_int q
theorem qh6:OpR X (binaryOp .Sub) (rI0 fun i j=>.int (i - j)):=qly fun _ _ _ _ _ _ _ q=>sub_int q
theorem qjl:OpR X (binaryOp .Mod) (rI (fun _ j=>0<j) fun i j=>.int (i % j)):=opI fun i j _ _ _ _ _ hc q=>by
  have h1:(0:Int)<j:=hc
  exact mod_int' (by omega) (by rw [Int.fmod_eq_emod_of_nonneg i (by omega)];exact q)
theorem qjK:OpR X (binaryOp .Pow) (rI qlw fun i j=>.int (i ^ j.toNat)):=opI fun _ _ _ _ _ _ _ hc q=>pow_int_small hc.1 hc.2.1 hc.2.2 q
theorem unI {f:Value→Sem Value} {g:Int→Int}
    (rule:∀ (i:Int) (t:Tok) (s:Shared) (Q:Value→Shared→Prop) (E:Value→Shared→Prop),Q (.int (g i) s.toks) { s with toks:=s.toks+1 }→wpAny (model X.prog X.w) X.A (f (.int i t)) Q E s) :
    UnR X f (rU fun i=>.int (g i)):=by
  intro pins s σ H x v Q I rx h
  obtain ⟨i,rfl,q⟩:=h
  obtain ⟨t,rfl⟩:=rx
  exact rule i t s _ _ ⟨.int (g i),H,I.tok _,⟨_,rfl⟩,q⟩
theorem qjx:UnR X (unaryOp .USub) (rU fun i=>.int (-i)):=unI fun _ _ _ _ _ q=>neg_int q
end
section
variable {X : Cx} {a b c : Expr} {ta tb tc : TE} {pos : Pos}
theorem qj1 {pins:List (Addr × Obj)} {σ:St} {H:Hp} {s:Shared} {Q:VK} {k k':Bool} (I:Inv X pins σ H s) (q:Q (.bl k) H) (e:k=k'):EP X pins σ Q (.bool k') s:=by
  subst e
  exact ⟨.bl k,H,I,rfl,q⟩
theorem qlk:OpR X (compareOp .Lt) (rI0 fun i j=>.bl (decide (i<j))):=qkR fun _ _ _ _ _ _ _ q=>lt_int q
theorem qkI:OpR X (compareOp .LtE) (rI0 fun i j=>.bl (decide (i≤j))):=qkR fun _ _ _ _ _ _ _ q=>le_int q
theorem qiC:OpR X (compareOp .Gt) (rI0 fun i j=>.bl (decide (j<i))):=qkR fun _ _ _ _ _ _ _ q=>gt_int q
theorem qiB:OpR X (compareOp .IsNot) (fun x y H Q=>y=.non∧Q (.bl (!decide (x=.non))) H):=by
  intro pins s σ H x y v u Q I rx ry h
  obtain ⟨rfl,q⟩:=h
  cases ry
  refine isnot_none_gen (qj1 I q ?_)
  cases x <;> first
    | (cases rx;rfl)
    | (obtain ⟨t,rfl⟩:=rx;rfl)
theorem qaZ (b:Expr) {op:CmpOp} (h:op≠.In:=by decide) (h2:op≠.NotIn:=by decide):behindInMarks op b=false:=by
  have e1:(op == CmpOp.In)=false:=by cases op <;> first | rfl | exact absurd rfl h
  have e2:(op == CmpOp.NotIn)=false:=by cases op <;> first | rfl | exact absurd rfl h2
  cases b <;> simp [behindInMarks,e1,e2]
theorem qiQ {op:CmpOp} {r:R2} (ho:OpR X (compareOp op) r) (ha:PE X a ta) (hb:PE X b tb) (hm:behindInMarks op b=false):PE X (.Compare a [op] [b] pos) (tOp r ta tb):=by
  intro pins s σ H Q I h
  exact wpAny_Compare1 (qkM ha hb I h fun v u s2 x y H2 I2 rx ry q=>ho pins s2 σ H2 x y v u Q I2 rx ry q) hm
def qik (t:TE):TT:=fun σ H Q=>t σ H fun x H'=>∃ k,x=.bl k∧Q k H'
theorem qdD {op:CmpOp} {r:R2} (ho:OpR X (compareOp op) r) (ha:PE X a ta) (hb:PE X b tb) (hm:behindInMarks op b=false):PT X (.Compare a [op] [b] pos) (qik (tOp r ta tb)):=by
  intro pins s σ H Q I h
  refine wpAny_isTrue_Compare1 (thn (ha pins s σ H _ I h) fun v s1 ⟨x,H1,I1,r1,q1⟩=>thn (hb pins s1 σ H1 _ I1 q1) fun u s2 ⟨y,H2,I2,r2,q2⟩ =>
    thn (ho pins s2 σ H2 x y v u _ I2 r1 r2 q2) fun c s3 ⟨z,H3,I3,r3,k,e,q3⟩=>?_) hm
  subst e
  cases r3
  exact wpAny_truthy_bool ⟨H3,I3,q3⟩
def qjr (r r':R2) (ta tb tc:TE):TE:=fun σ H Q=>ta σ H fun x H1=>tb σ H1 fun y H2=>r x y H2 fun z H3=>∃ k,z=.bl k ∧
  (if k=true then tc σ H3 fun w' H4=>r' y w' H4 Q else Q (.bl false) H3)
theorem qhT {op op':CmpOp} {r r':R2} (ho:OpR X (compareOp op) r) (ho':OpR X (compareOp op') r') (ha:PE X a ta) (hb:PE X b tb) (hc:PE X c tc)
    (hm:lastMarks [op,op'] [b,c]=false:=by with_unfolding_all rfl):PT X (.Compare a [op,op'] [b,c] pos) (qik (qjr r r' ta tb tc)):=by
  intro pins s σ H Q I h
  refine isTrue_chain (thn (ha pins s σ H _ I h) fun v s1 ⟨x,H1,I1,r1,q1⟩=>test_link (thn (hb pins s1 σ H1 _ I1 q1) fun u s2 ⟨y,H2,I2,r2,q2⟩ =>
    thn (ho pins s2 σ H2 x y v u _ I2 r1 r2 q2) fun d s3 ⟨z,H3,I3,r3,k,e,q3⟩=>?_)) hm
  subst e
  cases r3
  refine wpAny_truthy_bool ?_
  cases k with
  | false =>
    obtain ⟨k',e',q'⟩:=q3
    cases e'
    exact ite_ff ⟨H3,I3,q'⟩
  | true =>
    refine ite_tt (test_last (thn (hc pins s3 σ H3 _ I3 q3) fun w' s4 ⟨z',H4,I4,r4,q4⟩=>thn (ho' pins s4 σ H4 y z' u w' _ I4 r2 r4 q4) fun d' s5 ⟨z2,H5,I5,r5,k2,e2,q5⟩=>?_))
    subst e2
    cases r5
    exact wpAny_truthy_bool ⟨H5,I5,q5⟩
def qk0 (K:PySem.W.Frag) (x:V) (H:Hp) (k:Bool):Prop :=
  match x with
  | .non=>k=false
  | .bl b=>k=b
  | .int i=>k=(i != 0)
  | .str y=>y.length≤sizeLine∧k=((y.length:Int) != 0)
  | .byt y=>y.size≤sizeLine∧k=((y.size:Int) != 0)
  | .ref p=>(∃ xs,SqL K H p xs∧k=!xs.isEmpty)∨(∃ xs,SqT K H p xs∧k=!xs.isEmpty)∨∃ kvs,H p=some (.dK kvs)∧k=!kvs.isEmpty
  | _=>False
theorem qfP {κ:Type} {kvs:List (κ × V)} {vs:List (κ × Value)} (r:KV kvs vs):(!vs.isEmpty)=!kvs.isEmpty:=by
  cases r <;> rfl
theorem qdv {xs:List V} {its:List Value} (r:Vals xs its):(!its.toArray.isEmpty)=!xs.isEmpty:=by
  cases r <;> simp
theorem qdd:(sizeLine:Nat)<2 ^ 63:=by rw [sizeLine_eq];decide
theorem qjk:qlR X (fun x H Q=>∃ k,qk0 X.K x H k∧Q k H):=by
  intro pins s σ H x v Q I rx h
  obtain ⟨k,e,q⟩:=h
  have hl:=qdd
  have hs:sizeLine=16777216:=sizeLine_eq
  cases x with
  | non =>
    cases rx
    have e':k=false:=e
    subst e'
    exact truthy_none ⟨H,I,q⟩
  | bl b =>
    cases rx
    have e':k=b:=e
    subst e'
    exact wpAny_truthy_bool ⟨H,I,q⟩
  | int i =>
    obtain ⟨t,rfl⟩:=rx
    have e':k=(i != 0):=e
    subst e'
    exact PySem.P.truthy_int ⟨H,I,q⟩
  | str y =>
    obtain ⟨t,rfl⟩:=rx
    obtain ⟨hy,e'⟩:y.length≤sizeLine∧k=((y.length:Int) != 0):=e
    subst e'
    exact PySem.P.truthy_str (by omega) ⟨H,I.tok _,q⟩
  | byt y =>
    obtain ⟨t,rfl⟩:=rx
    obtain ⟨hy,e'⟩:y.size≤sizeLine∧k=((y.size:Int) != 0):=e
    subst e'
    exact PySem.W.truthy_bytes (by omega) ⟨H,I.tok _,q⟩
  | ref p =>
    cases rx
    have e':(∃ xs,SqL X.K H p xs∧k=!xs.isEmpty)∨(∃ xs,SqT X.K H p xs∧k=!xs.isEmpty)∨∃ kvs,H p=some (.dK kvs)∧k=!kvs.isEmpty:=e
    rcases e' with ⟨xs,hx,e'⟩ | ⟨xs,hx,e'⟩ | ⟨kvs,hx,e'⟩
    · subst e'
      obtain ⟨its,r,pl,hz⟩:=I.list hx
      have hlen:=r.length
      exact wpAny_truthy_list pl.isList (by simp only [List.size_toArray];omega) ⟨H,I.tok _,by rw [qdv r];exact q⟩
    · subst e'
      obtain ⟨its,r,pl,hz⟩:=I.tuple hx
      have hlen:=r.length
      exact truthy_tuple pl (by simp only [List.size_toArray];omega) ⟨H,I.tok _,by rw [qdv r];exact q⟩
    · subst e'
      obtain ⟨hz,hS,vs,r,m⟩:kvs.length≤sizeLine∧(p == sysModules)=false∧∃ vs,KV kvs vs∧s.heap.DictOf (qeU X.prog X.w) p vs:=I.hok p _ hx
      have hlen:kvs.length=vs.length:=Paired.length r
      exact wpAny_truthy_dict hS m (by omega) ⟨H,I.tok _,by rw [qfP r];exact q⟩
  | _=>exact (show False from e).elim
theorem qhs (ha:PE X a ta) (he:∀ whole,isTrue a X.env whole=(do let v ← whole;standAt a.pos;holding [v] (truthy v))) :
    PT X a (fun σ H Q=>ta σ H fun x H'=>∃ k,qk0 X.K x H' k∧Q k H'):=by
  intro pins s σ H Q I h
  exact isTrue_plain (thn (ha pins s σ H _ I h) fun v s1 hq0=>by obtain ⟨x,H1,I1,r1,q1⟩:=hq0;exact qjk pins s1 σ H1 x v Q I1 r1 q1) (he _)
theorem qfE:OpR X (binaryOp .Add) (fun x y H Q=>∃ i j,x=.str i∧y=.str j∧i.length+j.length≤sizeLine∧Q (.str (i++j)) H):=by
  intro pins s σ H x y v u Q I rx ry h
  obtain ⟨i,j,rfl,rfl,hz,q⟩:=h
  obtain ⟨t,rfl⟩:=rx
  obtain ⟨t',rfl⟩:=ry
  exact add_str (fun t' tk=>⟨.str (i++j),H,I.tok _,⟨_,rfl⟩,q⟩) hz
theorem qeJ {x:V} {us:List Value} (r:Vals [x] us):∃ u,us=[u]∧RelV x u:=by
  cases r with
  | cons r1 r2=>cases r2;exact ⟨_,rfl,r1⟩
theorem qk8 {x y:V} {us:List Value} (r:Vals [x,y] us):∃ u w',us=[u,w']∧RelV x u∧RelV y w':=by
  cases r with
  | cons r1 r2 =>
    cases r2 with
    | cons r3 r4=>cases r4;exact ⟨_,_,rfl,r1,r3⟩
theorem qg6:qcc X (.builtin "abs") (fun xs H Q=>∃ i,xs=[.int i]∧Q (.int (if i<0 then -i else i)) H):=by
  intro pins s σ H xs us Q I r h
  obtain ⟨i,rfl,q⟩:=h
  obtain ⟨u,rfl,t,rfl⟩:=qeJ r
  exact call_abs_int fun u tk=>⟨.int (if i<0 then -i else i),H,I.tok _,⟨_,rfl⟩,q⟩
theorem qgN (hc:X.calm=true):qcc X (.builtin "max") (fun xs H Q=>∃ i j,xs=[.int i,.int j]∧Q (.int (if j>i then j else i)) H):=by
  intro pins s σ H xs us Q I r h
  obtain ⟨i,j,rfl,q⟩:=h
  obtain ⟨u,w',rfl,⟨t,rfl⟩,⟨t',rfl⟩⟩:=qk8 r
  refine max_two_ints (I.ok.hd hc) fun h' tk k=>⟨_,H,I.kept k,?_,q⟩
  by_cases hj:j>i
  · rw [if_pos hj,if_pos hj];exact ⟨_,rfl⟩
  · rw [if_neg hj,if_neg hj];exact ⟨_,rfl⟩
theorem qes:qcc X (.type "int") (fun xs H Q=>(∃ i,xs=[.int i]∧Q (.int i) H)∨∃ k,xs=[.bl k]∧Q (.int (if k then 1 else 0)) H):=by
  intro pins s σ H xs us Q I r h
  rcases h with ⟨i,rfl,q⟩ | ⟨k,rfl,q⟩
  · obtain ⟨u,rfl,t,rfl⟩:=qeJ r
    exact call_int_int ⟨.int i,H,I,⟨_,rfl⟩,q⟩
  · obtain ⟨u,rfl,r1⟩:=qeJ r
    cases r1
    exact call_int_bool ⟨.int (if k then 1 else 0),H,I.tok _,⟨_,rfl⟩,q⟩
end
structure ObjM (h:Heap) (x dx C:Addr) (mA:Str→Option Value):Prop where
  obj:h.get? x=some (PySem.W.instObj C dx)
  ns:h.Ns1 dx mA
  ne:dx≠x
theorem qgd {h:Heap} {dx:Addr} {mA:Str→Option Value} (n:h.Ns1 dx mA):∃ od,h.get? dx=some od∧∀ name,PySem.W.lookIn name od=some (mA name):=by
  obtain ⟨o,es,ep,ho,hd,hk,_,hm⟩:=n
  refine ⟨o,ho,fun name=>?_⟩
  have e:=hm name
  unfold nsFind findBy at e
  rw [← Array.find?_toList] at e
  unfold PySem.W.lookIn
  rw [hd]
  dsimp only
  split
  · rename_i y q
    rw [q] at e
    exact congrArg some e
  · rename_i q
    rw [q] at e
    have a:es.toList.any (·.refKey)=false:=by
      rw [List.any_eq_false]
      intro y hy
      obtain ⟨z,t,hkey⟩:=hk y (Array.mem_toList_iff.mp hy)
      simp [DictEntry.refKey,hkey]
    have a':¬ es.toList.any (·.refKey)=true:=by rw [a];exact Bool.false_ne_true
    rw [if_neg a']
    exact congrArg some e
theorem ObjM.look {h:Heap} {x dx C:Addr} {mA:Str→Option Value} (I:ObjM h x dx C mA):∃ od,PySem.W.InstAt h x (PySem.W.instObj C dx) C (some od)∧∀ name,PySem.W.lookIn name od=some (mA name) :=
  let ⟨od,ho,hl⟩:=qgd I.ns
  ⟨od,⟨I.obj,rfl,rfl,ho⟩,hl⟩
section
variable {prog : Program} {w : World} {A : Around} {E : Value → Shared → Prop} {s : Shared} {K : PySem.W.Frag} {x dx C f : Addr} {mA : Str → Option Value} {name : Str} {v : Value}
theorem qiy {expr:Bool} {Q:Value→Shared→Prop} (X:K.In s.heap) (I:ObjM s.heap x dx C mA) (hg:PySem.W.plainGet K C name=true) (hh:PySem.W.hasDictIn K C=true)
    (ha:PySem.W.findIn K (.ref C) name=some none) (hv:mA name=some v) (hv':PySem.W.handedIn v=true) (h:Q v { s with toks:=s.toks+1 }) :
    wpAny (model prog w) A (getAttr (.ref x) name expr) Q E s:=by
  obtain ⟨od,J,hl⟩:=I.look
  exact PySem.W.get_value X J (PySem.W.plainGet_of hg).1 (PySem.W.findObj_own hh ha rfl (by rw [hl,hv])) hv' h
theorem qhp {pl:Sem Bool} {Q:Value × List Value→Shared→Prop} (X:K.In s.heap) (I:ObjM s.heap x dx C mA) (hg:PySem.W.plainGet K C name=true)
    (hf:PySem.W.findIn K (.ref C) name=some (some (.ref f))) (ht:PySem.W.isFn K (.ref f)=true) (hv:mA name=none) (h:Q (.ref f,[.ref x]) s) :
    wpAny (model prog w) A (getMethod (.ref x) name pl) Q E s:=by
  obtain ⟨od,J,hl⟩:=I.look
  exact PySem.W.method_fn X J (PySem.W.plainGet_of hg).1 (PySem.W.plainGet_of hg).2 hf (beq_iff_eq.mp ht) (by show (PySem.W.lookIn name od).map (·.isSome)=some false;rw [hl,hv];rfl) h
theorem qjd {ns:List Str} {Q:Unit→Shared→Prop} (X:K.In s.heap) (I:ObjM s.heap x dx C mA)
    (hs:PySem.W.findIn K (.ref C) "__setattr__"=some (some (.builtin "object.__setattr__"))) (hp:PySem.W.plainOver K C=true) (ht:PySem.W.takerIn K C name=some none) (hh:PySem.W.hasDictIn K C=true)
    (hw:PySem.Within mA ns) (hsz:ns.length≤sizeLine)
    (h:∀ h',ObjM h' x dx C (fun y=>if y=name then some v else mA y)→Heap.SameBut dx s.heap h'→Q () { s with heap:=h',toks:=s.toks+2 }) :
    wpAny (model prog w) A (setAttr (.ref x) name v) Q E s:=by
  obtain ⟨od,J,hl⟩:=I.look
  refine PySem.W.set_plain X J hs (PySem.W.osa_open (s:={ s with toks:=s.toks+1 }) (r:=none) X J hp ht fun b=>?_)
  obtain ⟨cd,hc,hd'⟩:=PySem.W.any_some hh
  have hx:s.heap.get? x=some ⟨.ref C,some dx,.plain,#[]⟩:=I.obj
  refine wpAny_bind (wpAny_pure (wpAny_bind (wpAny_bind (wpAny_loadPart hx (wpAny_bind (PySem.W.Looks.here (s:={ s with toks:=s.toks+1 }) (PySem.W.looks_clsIn X hc) ?_))))))
  rw [hd']
  refine wpAny_pure (a:=some dx) (wpAny_bind (wpAny_pure (wpAny_bind ?_)))
  refine wpAny_nsSet1 (s:={ s with toks:=s.toks+1 }) I.ns fun h' hn2 hs2=>?_
  obtain ⟨oD,esD,epD,hoD,hdD,hcD⟩:=hn2.count (PySem.Within.cons name v hw)
  refine wpAny_bind (wpAny_lookBehind hoD (by rw [hdD];exact pastItsLine_dict (Nat.le_trans hcD (by rw [List.length_cons];omega))) ?_)
  exact wpAny_pure (h _ ⟨(hs2.2 _ (Ne.symm I.ne)).trans I.obj,hn2,I.ne⟩ hs2)
theorem qhK {R:Result→Shared→Prop} {vs:List Value} {kw:List (Str × Value)} (X:K.In s.heap) (hm:PySem.W.makesIn K C=true)
    (hi:PySem.W.findIn K (.ref C) "__init__"=some (some (.ref f))) (hf:PySem.W.typeIn K (.ref f)=some (.type "function"))
    (h:codeAny (model prog w) (A.under (.builtin "type.__call__" ⟨.ref C::vs,kw⟩)) (.call (.ref f) ⟨.ref (s.heap.objs.size+1)::vs,kw⟩) (PySem.W.InitBack (s.heap.objs.size+1) R)
      { s with heap:=(s.heap.push PySem.W.emptyDict).push (PySem.W.instObj C s.heap.objs.size) }) :
    codeAny (model prog w) A (.call (.ref C) ⟨vs,kw⟩) R s:=by
  obtain ⟨hh,g,d,t,os⟩:=s
  exact PySem.W.make_core (PySem.W.makes_of X hm) (PySem.W.looks_findIn X hi) (fun self=>PySem.W.bind_fn X self hf) (.inl rfl) h
end
def qcI (f:Str) (v:V):List (Str × V)→List (Str × V)
  | []=>[(f,v)]
  | (g,x)::r=>if g=f then (g,v)::r else (g,x)::qcI f v r
theorem qaF (f g:Str) (v:V):∀ fs:List (Str × V),(qcI f v fs).lookup g=if g=f then some v else fs.lookup g
  | []=>by
    show List.lookup g [(f,v)]=_
    by_cases h:g=f
    · have hb:(g == f)=true:=beq_iff_eq.mpr h
      simp only [List.lookup,hb,if_pos h]
    · have hb:(g == f)=false:=beq_eq_false_iff_ne.mpr h
      simp only [List.lookup,hb,if_neg h]
  | (k,x)::r=>by
    have ih:=qaF f g v r
    rw [show qcI f v ((k,x)::r)=(if k=f then (k,v)::r else (k,x)::qcI f v r) from rfl]
    by_cases hk:k=f
    · rw [if_pos hk]
      by_cases h:g=k
      · have hb:(g == k)=true:=beq_iff_eq.mpr h
        simp only [List.lookup,hb,if_pos (h.trans hk)]
      · have hb:(g == k)=false:=beq_eq_false_iff_ne.mpr h
        simp only [List.lookup,hb,if_neg (fun e:g=f=>h (e.trans hk.symm))]
    · rw [if_neg hk]
      by_cases h:g=k
      · have hb:(g == k)=true:=beq_iff_eq.mpr h
        simp only [List.lookup,hb,if_neg (fun e:g=f=>hk (h.symm.trans e))]
      · have hb:(g == k)=false:=beq_eq_false_iff_ne.mpr h
        simp only [List.lookup,hb]
        exact ih
theorem qc5 (f:Str) (v:V):∀ fs:List (Str × V),f∈(qcI f v fs).map (·.1)∧∀ g,g∈fs.map (·.1)→g∈(qcI f v fs).map (·.1)
  | []=>⟨by simp [qcI],fun g h=>by simp at h⟩
  | (k,x)::r=>by
    obtain ⟨i1,i2⟩:=qc5 f v r
    rw [show qcI f v ((k,x)::r)=(if k=f then (k,v)::r else (k,x)::qcI f v r) from rfl]
    by_cases hk:k=f
    · rw [if_pos hk]
      subst hk
      exact ⟨by simp,fun g h=>by simpa using h⟩
    · rw [if_neg hk]
      refine ⟨?_,fun g h=>?_⟩
      · rw [List.map_cons]
        exact List.mem_cons_of_mem _ i1
      · rw [List.map_cons] at h ⊢
        rcases List.mem_cons.mp h with e | e
        · exact List.mem_cons.mpr (.inl e)
        · exact List.mem_cons_of_mem _ (i2 g e)
theorem qcR (f:Str) (v:V):∀ fs:List (Str × V),(qcI f v fs).length≤fs.length+1
  | []=>by simp [qcI]
  | (k,x)::r=>by
    have ih:=qcR f v r
    rw [show qcI f v ((k,x)::r)=(if k=f then (k,v)::r else (k,x)::qcI f v r) from rfl]
    by_cases hk:k=f
    · rw [if_pos hk,List.length_cons,List.length_cons];omega
    · rw [if_neg hk,List.length_cons,List.length_cons];omega
theorem RelO.some_of {v:V} {o:Option Value} (r:RelO (some v) o):∃ u,o=some u∧RelV v u:=by
  cases o with
  | none=>exact (show False from r).elim
  | some u=>exact ⟨u,rfl,r⟩
theorem RelO.none_of {o:Option Value} (r:RelO none o):o=none:=by
  cases o with
  | none=>rfl
  | some u=>exact (show False from r).elim
theorem qg0 {v:V} {u:Value} (r:RelV v u):PySem.W.handedIn u=true:=by
  cases v with
  | non=>cases (show u=Value.none from r);rfl
  | bl b=>cases (show u=Value.bool b from r);rfl
  | int i=>obtain ⟨t,e⟩:=(show ∃ t,u=Value.int i t from r);cases e;rfl
  | str x=>obtain ⟨t,e⟩:=(show ∃ t,u=Value.str x t from r);cases e;rfl
  | byt b=>obtain ⟨t,e⟩:=(show ∃ t,u=Value.bytes b t from r);cases e;rfl
  | flt b=>obtain ⟨t,e⟩:=(show ∃ t,u=Value.float b t from r);cases e;rfl
  | ref a=>cases (show u=Value.ref a from r);rfl
  | ty n=>cases (show u=Value.type n from r);rfl
section
variable {P : Program} {w : World} {H H' : Hp} {h h' : Heap} {a C dx : Addr} {fs fs' : List (Str × V)}
theorem qeH (hok:HOk P w H h) (e:H a=some (.ins C dx fs)):∃ mA,ObjM h a dx C mA∧(∀ f,RelO (fs.lookup f) (mA f))∧PySem.Within mA (fs.map (·.1))∧fs.length≤1000∧H dx=some (.own a):=by
  obtain ⟨d,z,ne,ob,mA,n,r,q⟩:=(show ObjOk P w H h a (.ins C dx fs) from hok a _ e)
  exact ⟨mA,⟨ob,n,ne⟩,r,q,z,d⟩
end
structure Cls (K:PySem.W.Frag) (C:Addr):Prop where
  pg:PySem.W.plainGet K C Str.empty=true
  hd:PySem.W.hasDictIn K C=true
  po:PySem.W.plainOver K C=true
  sa:PySem.W.findIn K (.ref C) "__setattr__"=some (some (.builtin "object.__setattr__"))
theorem Cls.get {K:PySem.W.Frag} {C:Addr} (c:Cls K C) (f:Str):PySem.W.plainGet K C f=true:=c.pg
def NoAttr (K:PySem.W.Frag) (C:Addr) (f:Str):Prop:=PySem.W.findIn K (.ref C) f=some none
theorem NoAttr.taker {K:PySem.W.Frag} {C:Addr} {f:Str} (n:NoAttr K C f):PySem.W.takerIn K C f=some none:=by
  unfold PySem.W.takerIn
  rw [show PySem.W.findIn K (.ref C) f=some none from n]
  rfl
structure Meth (K:PySem.W.Frag) (C:Addr) (m:Str) (f:Addr):Prop where
  at_:PySem.W.findIn K (.ref C) m=some (some (.ref f))
  fn:PySem.W.isFn K (.ref f)=true
  kp:PySem.W.keepIn K (.ref f)=true
section
variable {X : Cx} {pins : List (Addr × Obj)} {σ : St} {H : Hp} {s : Shared} {a C dx : Addr} {fs : List (Str × V)} {f : Str} {v : V} {A : Around} {E : Value → Shared → Prop}
theorem qfS {b:Bool} {Q:Value→Shared→Prop} (I:Inv X pins σ H s) (e:H a=some (.ins C dx fs)) (c:Cls X.K C) (n:NoAttr X.K C f) (l:fs.lookup f=some v)
    (h:∀ u s',Inv X pins σ H s'→RelV v u→Q u s'):wpAny (model X.prog X.w) A (getAttr (.ref a) f b) Q E s:=by
  obtain ⟨mA,O,r,_,_,_⟩:=qeH I.hok e
  obtain ⟨u,hu,ru⟩:=RelO.some_of (v:=v) (o:=mA f) (by rw [← l];exact r f)
  exact qiy I.kIn O (c.get f) c.hd n hu (qg0 ru) (h u _ (I.tok _) ru)
theorem qfH {m:Str} {g:Addr} {pl:Sem Bool} {Q:Value × List Value→Shared→Prop} (I:Inv X pins σ H s) (e:H a=some (.ins C dx fs)) (c:Cls X.K C) (k:Meth X.K C m g) (l:fs.lookup m=none)
    (h:Q (.ref g,[.ref a]) s):wpAny (model X.prog X.w) A (getMethod (.ref a) m pl) Q E s:=by
  obtain ⟨mA,O,r,_,_,_⟩:=qeH I.hok e
  have hn:mA m=none:=RelO.none_of (by rw [← l];exact r m)
  exact qhp I.kIn O (c.get m) k.at_ k.fn hn h
theorem qfD {y:V} {u:Value} {Q:Unit→Shared→Prop} (I:Inv X pins σ H s) (e:H a=some (.ins C dx fs)) (c:Cls X.K C) (n:NoAttr X.K C f) (hl:fs.length<1000) (ry:RelV y u)
    (h:∀ s',Inv X pins σ (upd H a (.ins C dx (qcI f y fs))) s'→Q () s'):wpAny (model X.prog X.w) A (setAttr (.ref a) f u) Q E s:=by
  obtain ⟨mA,O,r,wi,_,ho⟩:=qeH I.hok e
  have hz:(fs.map (·.1)).length≤sizeLine:=by rw [List.length_map,sizeLine_eq];omega
  refine qjd I.kIn O c.sa c.po n.taker c.hd wi hz fun h' O' sb=>h _ ?_
  have hd:∃ o,h'.get? dx=some o:=let ⟨o,_,_,e',_⟩:=O'.ns;⟨o,e'⟩
  refine I.write (x:=a) (e:=dx) (by rw [e];exact True.intro) (.inr ho) (fun b q hb z=>(sb.2 b hb).trans z) hd ?_
  refine ⟨by rw [qad O.ne];exact ho,?_,O.ne,O'.obj,_,O'.ns,fun g=>?_,fun g hg=>?_⟩
  · have:=qcR f y fs;omega
  · show RelO ((qcI f y fs).lookup g) (if g=f then some u else mA g)
    rw [qaF]
    by_cases q:g=f
    · rw [if_pos q,if_pos q];exact ry
    · rw [if_neg q,if_neg q];exact r g
  · by_cases q:g=f
    · rw [q];exact (qc5 f y fs).1
    · refine (qc5 f y fs).2 g (wi g fun z=>hg ?_)
      show (if g=f then some u else mA g)=none
      rw [if_neg q];exact z
theorem Inv.made (I:Inv X pins σ H s):Inv X pins σ (upd (upd H s.heap.objs.size (.own (s.heap.objs.size+1))) (s.heap.objs.size+1) (.ins C s.heap.objs.size []))
    { s with heap:=(s.heap.push PySem.W.emptyDict).push (PySem.W.instObj C s.heap.objs.size) }:=by
  have e1:(s.heap.push PySem.W.emptyDict).get? s.heap.objs.size=some PySem.W.emptyDict:=Heap.get?_push_size s.heap rfl
  have e2:((s.heap.push PySem.W.emptyDict).push (PySem.W.instObj C s.heap.objs.size)).get? (s.heap.objs.size+1)=some (PySem.W.instObj C s.heap.objs.size):=by
    have:=Heap.get?_push_size (s.heap.push PySem.W.emptyDict) (o:=PySem.W.instObj C s.heap.objs.size) rfl
    rwa [Heap.size_push] at this
  have e3:(s.heap.push PySem.W.emptyDict).Ns s.heap.objs.size (fun _=>none):=⟨PySem.W.emptyDict,#[],_,e1,rfl,(fun e he=>absurd he (by simp)),fun _=>rfl⟩
  have I1:=I.laid (a:=s.heap.objs.size) (o:=.own (s.heap.objs.size+1)) (h':=s.heap.push PySem.W.emptyDict) (t':=s.toks) (fun b u q=>Heap.get?_push_of_some _ q) (Nat.le_refl _) ⟨_,e1⟩
  refine I1.laid (a:=s.heap.objs.size+1) (o:=.ins C s.heap.objs.size []) (t':=s.toks) (fun b u q=>Heap.get?_push_of_some _ q) (Nat.le_of_eq (Heap.size_push _ _)) ?_
  have ne:s.heap.objs.size≠s.heap.objs.size+1:=Nat.ne_of_lt (Nat.lt_succ_self _)
  refine ⟨by rw [qad ne,qac],Nat.zero_le _,ne,e2,fun _=>none,(Heap.Ns1.of_empty e3).at fun o q=>Heap.get?_push_of_some _ q,fun _=>True.intro,fun y hy=>absurd rfl hy⟩
theorem qje {prog:Program} {w:World} {env:Env} {e:Expr} {f:Str} {pos:Pos} {s:Shared} {Q:Value→Shared→Prop} (hb:attributeBase e f env (eval e env)=eval e env)
    (h:wpAny (model prog w) A (eval e env) (fun o s₁=>wpAny (model prog w) A (getAttr o f true) Q E s₁) E s):wpAny (model prog w) A (eval (.Attribute e f pos) env) Q E s :=
  Attribute_any_ h (by rw [arm_eval_Attribute,hb])
end
def qmw (K:PySem.W.Frag) (ta:TE) (f:Str):TE:=fun σ H Q=>ta σ H fun x H1=>∃ a C dx fs v,x=.ref a∧H1 a=some (.ins C dx fs)∧Cls K C∧NoAttr K C f∧fs.lookup f=some v∧Q v H1
def qmA (K:PySem.W.Frag) (ta tv:TE) (f:Str):TS:=fun D σ H=>tv σ H fun y H1=>ta σ H1 fun x H2=>∃ a C dx fs,x=.ref a∧H2 a=some (.ins C dx fs)∧Cls K C∧NoAttr K C f∧fs.length<1000 ∧
  D.nx σ (upd H2 a (.ins C dx (qcI f y fs)))
section
variable {X : Cx} {o e value : Expr} {f : Str} {pos pos' tpos : Pos} {ta tv : TE}
theorem qa0 (he:PE X e ta) (hb:attributeBase e f X.env (eval e X.env)=eval e X.env):PE X (.Attribute e f pos) (qmw X.K ta f):=by
  intro pins s σ H Q I h
  refine qje hb (thn (he pins s σ H _ I h) fun u s1 hq0=>?_)
  obtain ⟨x,H1,I1,rx,a,C,dx,fs,v,ex,ea,c,n,l,q⟩:=hq0
  subst ex
  obtain rfl:u=Value.ref a:=rx
  exact qfS I1 ea c n l fun u' s2 I2 ru=>⟨v,H1,I2,ru,q⟩
theorem qh1 (ha:PE X o ta) (hv:PE X value tv) (hs:swapsWith value (some (.Attribute o f pos')) pos.line X.env=pure false):PS X (.Assign [.Attribute o f pos'] value pos) (qmA X.K ta tv f):=by
  intro pins s σ H D I h
  refine plainObj_wpAny_Assign_Attribute (thn (hv pins s σ H _ I h) fun u s1 ⟨y,H1,I1,ry,q⟩=>thn (ha pins s1 σ H1 _ I1 q) fun ov s2 ⟨x,H2,I2,rx,a,C,dx,fs,ex,ea,c,n,l,q2⟩=>?_) hs
  subst ex
  obtain rfl:ov=Value.ref a:=rx
  exact qfD I2 ea c n l ry fun s3 I3=>⟨σ,_,I3,q2⟩
end
section
variable {X : Cx} {pins : List (Addr × Obj)} {σ : St} {H : Hp} {s : Shared} {A : Around} {E : Value → Shared → Prop} {Q : Value → Shared → Prop} {c : Value} {b : Bool}
inductive TyOf (K:PySem.W.Frag) (H:Hp):V→Value→Prop where
  | non:TyOf K H .non (.type "NoneType")
  | bl (x:Bool):TyOf K H (.bl x) (.type "bool")
  | int (i:Int):TyOf K H (.int i) (.type "int")
  | str (x:Str):TyOf K H (.str x) (.type "str")
  | flt (x:UInt64):TyOf K H (.flt x) (.type "float")
  | lst {a:Addr} {xs:List V} (e:H a=some (.lst xs)):TyOf K H (.ref a) (.type "list")
  | frz {a:Addr} {o:Obj} {xs:List V} (e:H a=some (.frz o (.lst xs))):TyOf K H (.ref a) (.type "list")
  | tup {a:Addr} {xs:List V} (e:H a=some (.tup xs)):TyOf K H (.ref a) (.type "tuple")
  | dK {a:Addr} {kvs:List (Key × V)} (e:H a=some (.dK kvs)):TyOf K H (.ref a) (.type "dict")
  | dT {a:Addr} {kvs:List (List Key × V)} (e:H a=some (.dT kvs)):TyOf K H (.ref a) (.type "dict")
  | ins {a C dx:Addr} {fs:List (Str × V)} (e:H a=some (.ins C dx fs)) (cl:Cls K C) (ha:PySem.W.findIn K (.ref C) "__class__"=some (some (.builtin "object.__class__")))
      (hn:PySem.W.specialIn K (.builtin "object.__class__") "__get__"=some (some (.builtin "getset_descriptor.__get__"))) (htk:PySem.W.takesIn K (.builtin "object.__class__")=some true)
      (hm:PySem.W.mroIn K C (.type "object")=some true):TyOf K H (.ref a) (.ref C)
end
structure Room (k:Nat) (A:Around):Prop where
  hd:A.handled=none
  dp:A.depth+3*k+5<recursionLimit
  un:A.units+16*k+200<cLine
theorem Room.mono {j k:Nat} {A:Around} (r:Room k A) (h:j≤k):Room j A:=⟨r.hd,by have:=r.dp;omega,by have:=r.un;omega⟩
theorem Room.deeper {k:Nat} {A:Around} (r:Room (k+1) A) (env:Env):Room k (A.deeper env) :=
  ⟨r.hd,by have:=r.dp;show A.depth+1+3*k+5<_;omega,by have:=r.un;show A.units+3+16*k+200<_;omega⟩
theorem qfw {A:Around} {C:Addr} {us:List Value} {kw:List (Str × Value)}:(A.under (.builtin "type.__call__" ⟨.ref C::us,kw⟩)).depth=A.depth+1:=by
  first | rfl | simp [Around.under,Code.weight,Code.isCreation,Code.isGuard,Code.isCaller,Code.frames,Code.isFrame,guardIds]
theorem qfR {A:Around} {C:Addr} {us:List Value} {kw:List (Str × Value)}:(A.under (.builtin "type.__call__" ⟨.ref C::us,kw⟩)).units=A.units+1:=by
  first | rfl | simp [Around.under,Code.cUnits,Code.frames,Code.isFrame]
theorem Room.make {k:Nat} {A:Around} (r:Room (k+1) A) (C:Addr) (us:List Value) (kw:List (Str × Value)):Room k (A.under (.builtin "type.__call__" ⟨.ref C::us,kw⟩)) :=
  ⟨r.hd,by have:=r.dp;rw [qfw];omega,by have:=r.un;rw [qfR];omega⟩
theorem Room.depth {k:Nat} {A:Around} (r:Room k A):A.depth<recursionLimit:=by have:=r.dp;omega
theorem Room.units {k:Nat} {A:Around} (r:Room k A):A.units+64<cLine:=by have:=r.un;omega
def qlJ:TA:=fun _ H Q=>Q [] H
def qkQ (ta:TE) (tr:TA):TA:=fun σ H Q=>ta σ H fun x H1=>tr σ H1 fun xs H2=>Q (x::xs) H2
section
variable {X : Cx} {e : Expr} {es : List Expr} {te : TE} {t : TA} {pos : Pos}
theorem pa_nil:PA X [] qlJ:=fun _ _ _ _ H Q I h=>Calls.spliced_nil ⟨[],H,I,.nil,h⟩
theorem qam (ha:PE X e te) (hr:PA X es t) (hs:starEach (e::es) X.env=(false,eval e X.env)::starEach es X.env:=by rfl):PA X (e::es) (qkQ te t):=by
  intro pos pins s σ H Q I h
  rw [hs]
  show wpAny _ _ (spliced ((false,eval e X.env)::backTo pos (starEach es X.env))) _ _ s
  refine Calls.spliced_cons (thn (ha pins s σ H _ I h) fun u s1 hq0=>?_)
  obtain ⟨x,H1,I1,r1,q1⟩:=hq0
  exact thn (hr pos pins s1 σ H1 _ I1 q1) fun us s2 hq1=>by obtain ⟨xs,H2,I2,r2,q2⟩:=hq1;exact ⟨x::xs,H2,I2,.cons r1 r2,q2⟩
def ql1 (t:TA):TE:=fun σ H Q=>t σ H fun xs H1=>xs.length≤sizeLine∧∀ p,H1 p=none→Q (.ref p) (upd H1 p (.tup xs))
def qlL (t:TA):TE:=fun σ H Q=>t σ H fun xs H1=>xs.length≤sizeLine∧∀ p,H1 p=none→Q (.ref p) (upd H1 p (.lst xs))
theorem qkd {x1} (h:PA X es t):PE X (.Tuple es x1 pos) (ql1 t):=by
  intro pins s σ H Q I hq
  refine wpAny_Tuple_spliced (thn (h pos pins s σ H _ I hq) fun us s1 ⟨xs,H1,I1,r,z,q⟩=>⟨by rw [← r.length];exact z,?_⟩)
  have hf:H1 s1.heap.objs.size=none:=I1.hok.fresh (Nat.le_refl _)
  refine ⟨.ref s1.heap.objs.size,upd H1 s1.heap.objs.size (.tup xs),I1.laid (t':=s1.toks) (fun b u e=>Heap.get?_push_of_some _ e) (Nat.le_refl _) ?_,rfl,q _ hf⟩
  exact ⟨z,us,r,⟨_,Heap.get?_push_size _ rfl,⟨rfl,rfl⟩,_,rfl⟩⟩
theorem qii (h:PA X es t):PE X (.List es pos) (qlL t):=by
  intro pins s σ H Q I hq
  refine wpAny_List_spliced (thn (h pos pins s σ H _ I hq) fun us s1 ⟨xs,H1,I1,r,z,q⟩=>⟨by rw [← r.length];exact z,?_⟩)
  have hf:H1 s1.heap.objs.size=none:=I1.hok.fresh (Nat.le_refl _)
  refine ⟨.ref s1.heap.objs.size,upd H1 s1.heap.objs.size (.lst xs),I1.laid (t':=s1.toks) (fun b u e=>Heap.get?_push_of_some _ e) (Nat.le_refl _) ?_,rfl,q _ hf⟩
  exact ⟨z,us,0,r,Heap.get?_push_size _ rfl⟩
end
abbrev Sp:=List V→Hp→VK→XK→Prop
abbrev CXT:=List Env→Hp→Shared→XK→Value→Shared→Prop
structure Env0 (P:Program) (w:World) (K:PySem.W.Frag) (mg:Str→Option Value) (base:Heap) (A:Around) (outer:List Env) (s:Shared) (H:Hp):Prop where
  frames:A.frames=some outer
  mod:Mod K mg base
  bs:∀ b o,base.get? b=some o→s.heap.get? b=some o∧H b=none
  bsz:base.objs.size≤s.heap.objs.size
  funs:s.heap.FunFrames base outer
  frf:∀ b∈frs outer,H b=none
  hok:HOk P w H s.heap
  bare:AllBare s.gens
def CE (outer:List Env) (P:Program) (w:World) (H:Hp) (s:Shared) (Q:VK) (u:Value) (s':Shared):Prop :=
  ∃ v H',s'.os=s.os∧AllBare s'.gens∧Un (frs outer) [] H H' s.heap s'.heap∧HOk P w H' s'.heap∧RelV v u∧Q v H'
def CR (CX:CXT) (outer:List Env) (P:Program) (w:World) (H:Hp) (s:Shared) (Q:VK) (E:XK) (r:Result) (s':Shared):Prop :=
  match r with
  | .ok (.ret u)=>CE outer P w H s Q u s'
  | .ok _=>False
  | .error e=>CX outer H s E e s'
structure FnOk (P:Program) (w:World) (K:PySem.W.Frag) (mg:Str→Option Value) (base:Heap) (CX:CXT) (k:Nat) (f:Addr) (fd:FuncData) (ps:List Str) (sp:Sp):Prop where
  len:∀ vs H Q E,sp vs H Q E→vs.length=ps.length
  run:∀ (A:Around) (outer:List Env) (s:Shared) (H:Hp) (args:Args) (us:List Value) (vs:List V) (Q:VK) (E:XK),Room k A→Env0 P w K mg base A outer s H→BindsTo s fd args (ps.zip us)→Vals vs us→sp vs H Q E →
    codeAny (model P w) A (.call (.ref f) args) (CR CX outer P w H s Q E) s
theorem FnOk.mono {P:Program} {w:World} {K:PySem.W.Frag} {mg:Str→Option Value} {base:Heap} {CX:CXT} {j k:Nat} {f:Addr} {fd:FuncData} {ps:List Str} {sp:Sp} (F:FnOk P w K mg base CX j f fd ps sp) (h:j≤k) :
    FnOk P w K mg base CX k f fd ps sp:=⟨F.len,fun A outer s H args us vs Q E hr=>F.run A outer s H args us vs Q E (hr.mono h)⟩
theorem FnOk.imp {P:Program} {w:World} {K:PySem.W.Frag} {mg:Str→Option Value} {base:Heap} {CX:CXT} {k:Nat} {f:Addr} {fd:FuncData} {ps:List Str} {sp sp':Sp} (F:FnOk P w K mg base CX k f fd ps sp)
    (h:∀ vs H Q E,sp' vs H Q E→sp vs H Q E):FnOk P w K mg base CX k f fd ps sp' :=
  ⟨fun vs H Q E q=>F.len vs H Q E (h _ _ _ _ q),fun A outer s H args us vs Q E hr he hb hv hs=>F.run A outer s H args us vs Q E hr he hb hv (h _ _ _ _ hs)⟩
theorem Env0.make {P:Program} {w:World} {K:PySem.W.Frag} {mg:Str→Option Value} {base:Heap} {A:Around} {outer:List Env} {s:Shared} {H:Hp} (e:Env0 P w K mg base A outer s H) (C:Addr) (us:List Value) (kw:List (Str × Value)) :
    Env0 P w K mg base (A.under (.builtin "type.__call__" ⟨.ref C::us,kw⟩)) outer s H:=⟨by first | exact e.frames | (simpa [Around.under,Code.envs,Code.isFrame,pushEnvs] using e.frames),e.mod,e.bs,e.bsz,e.funs,e.frf,e.hok,e.bare⟩
section
variable {X : Cx} {pins : List (Addr × Obj)} {σ : St} {H : Hp} {s s' : Shared}
theorem Inv.env0 (I:Inv X pins σ H s):Env0 X.prog X.w X.K X.mg X.base X.A X.stack s H :=
  ⟨I.ok.frames,I.ok.mod,I.bs,Nat.le_trans I.ok.bsz I.sz,I.stack,I.stkFree,I.hok,I.bare⟩
theorem Inv.after {Q:VK} {u:Value} (I:Inv X pins σ H s) (h:CE X.stack X.prog X.w H s Q u s'):EP X pins σ Q u s':=by
  obtain ⟨v,H',os,bare,un,hok,r,q⟩:=h
  obtain ⟨hh,g,d,t,os'⟩:=s'
  obtain rfl:os'=s.os:=os
  exact ⟨v,H',I.call (h':=hh) (g':=g) (d':=d) (t':=t) (ch:=[]) un hok bare (fun b z=>absurd z (by simp)),r,q⟩
end
def qkY (sp:Sp) (dvs:List V) (E:XK) (t:TA):TE:=fun σ H Q=>t σ H fun vs H1=>sp (vs++dvs) H1 Q E
def qle (C:Addr) (m:Str) (sp:Sp) (dvs:List V) (E:XK) (ta:TE) (t:TA):TE:=fun σ H Q=>ta σ H fun x H1=>∃ a dx fs,x=.ref a∧H1 a=some (.ins C dx fs)∧fs.lookup m=none ∧
  t σ H1 fun vs H2=>sp (x::(vs++dvs)) H2 Q E
def qkV (C:Addr) (sp:Sp) (dvs:List V) (E:XK) (t:TA):TE:=fun σ H Q=>t σ H fun vs H1=>∀ x dx,H1 x=none→H1 dx=none→dx≠x →
  sp (.ref x::(vs++dvs)) (upd (upd H1 dx (.own x)) x (.ins C dx [])) (fun v H2=>v=.non∧Q (.ref x) H2) E
def Binds (K:PySem.W.Frag) (fd:FuncData) (ps:List Str) (ds:List Value):Prop :=
  ∀ (s:Shared) (us:List Value),K.In s.heap→(us++ds).length=ps.length→BindsTo s fd ⟨us,[]⟩ (ps.zip (us++ds))
theorem Binds.all {K:PySem.W.Frag} {fd:FuncData} {ps:List Str} (h:∀ us:List Value,us.length=ps.length→bindArgs fd ⟨us,[]⟩=pure (ps.zip us)):Binds K fd ps []:=fun s us _ hl=>by
  rw [List.append_nil] at hl ⊢
  exact .of_eq (h us hl)
def qcV (CX:CXT) (X:Cx) (E:XK):Prop:=∀ (pins:List (Addr × Obj)) (σ:St) (H:Hp) (s:Shared) (e:Value) (s':Shared),Inv X pins σ H s→CX X.stack H s E e s'→X.xe e s'
section
variable {X : Cx} {CX : CXT} {k : Nat} {f C : Addr} {fd : FuncData} {ps : List Str} {sp : Sp} {dvs : List V} {ds : List Value} {E : XK} {x m : Str} {p pos apos : Pos} {e o : Expr} {es : List Expr} {ta : TE} {t : TA}
theorem qij {pins:List (Addr × Obj)} {σ:St} {H:Hp} {s:Shared} {Q:VK} {us:List Value} {vs:List V} (F:FnOk X.prog X.w X.K X.mg X.base CX k f fd ps sp) (hr:Room k X.A) (hb:Binds X.K fd ps ds) (hd:Vals dvs ds) (hx:qcV CX X E)
    (I:Inv X pins σ H s) (r:Vals vs us) (h:sp (vs++dvs) H Q E):wpAny (model X.prog X.w) X.A (call (.ref f) us) (EP X pins σ Q) X.xe s:=by
  have r2:Vals (vs++dvs) (us++ds):=r.append hd
  have hl:(us++ds).length=ps.length:=by rw [← r2.length];exact F.len _ _ _ _ h
  refine wpAny_call (codeAny_mono (F.run X.A X.stack s H ⟨us,[]⟩ (us++ds) (vs++dvs) Q E hr I.env0 (hb s us I.kIn hl) r2 h) fun r s' hq=>?_)
  cases r with
  | error e=>exact hx pins σ H s e s' I hq
  | ok fl =>
    cases fl with
    | ret u=>exact I.after hq
    | next=>exact False.elim hq
    | brk=>exact False.elim hq
    | cont=>exact False.elim hq
theorem qbo (F:FnOk X.prog X.w X.K X.mg X.base CX k f fd ps sp) (hr:Room k X.A) (hg:Gl X x) (hm:X.mg x=some (.ref f)) (hk:PySem.W.keepIn X.K (.ref f)=true) (hb:Binds X.K fd ps ds) (hd:Vals dvs ds) (hx:qcV CX X E)
    (ha:PA X (e::es) t) (hdb:(x == ("__debug__":Str))=false:=by decide) (he:starEach (e::es) X.env=(false,eval e X.env)::starEach es X.env:=by rfl) (hpl:(backTo pos (starEach es X.env)).any (·.1)=false:=by rfl) :
    PE X (.Call (.Name x p) (e::es) [] pos) (qkY sp dvs E t):=by
  intro pins s σ H Q I h
  refine wpAny_Call_Name_kw (qgL I hg hm ?_ hdb)
  refine PySem.W.callWith_K (h₀:=X.base) I.ok.mod.kin hk (thn (ha pos pins s σ H _ I h) fun us s1 ⟨vs,H1,I1,r,q⟩=>⟨I1.kIn,?_⟩) he hpl
  exact qij F hr hb hd hx I1 r q
theorem qgG {pl:Sem Bool} (he:PE X o ta) (c:Cls X.K C) (hm:Meth X.K C m f) (F:FnOk X.prog X.w X.K X.mg X.base CX k f fd ps sp) (hr:Room k X.A) (hb:Binds X.K fd ps ds) (hd:Vals dvs ds) (hx:qcV CX X E) (ha:PA X (e::es) t)
    (hst:starEach (e::es) X.env=(false,eval e X.env)::starEach es X.env:=by rfl) (hpl:(backTo pos (starEach es X.env)).any (·.1)=false:=by rfl)
    (ht:eval (.Call (.Attribute o m apos) (e::es) [] pos) X.env=(do
      let ov ← eval o X.env
      standAt apos.atName
      let (f,first) ← holding [ov] (getMethod ov m pl)
      callWith pos f first (backTo pos (starEach (e::es) X.env)) (backToKw pos (keywordEach [] X.env))):=by rfl) :
    PE X (.Call (.Attribute o m apos) (e::es) [] pos) (qle C m sp dvs E ta t):=by
  intro pins s σ H Q I h
  refine PySem.W.methodCall_KW (pl:=pl) (thn (he pins s σ H _ I h) fun u s1 ⟨x,H1,I1,rx,a,dx,fs,ex,ea,l,q⟩=>?_) ht
  subst ex
  obtain rfl:u=Value.ref a:=rx
  refine qfH I1 ea c hm l ?_
  refine PySem.W.callWith_K (first:=[.ref a]) (h₀:=X.base) I.ok.mod.kin hm.kp (thn (ha pos pins s1 σ H1 _ I1 q) fun us s2 ⟨vs,H2,I2,r,q2⟩=>⟨I2.kIn,?_⟩) hst hpl
  exact qij (us:=.ref a::us) (vs:=.ref a::vs) F hr hb hd hx I2 (.cons rfl r) q2
structure Mk (K:PySem.W.Frag) (C f:Addr):Prop where
  makes:PySem.W.makesIn K C=true
  init:PySem.W.findIn K (.ref C) "__init__"=some (some (.ref f))
  fn:PySem.W.isFn K (.ref f)=true
  kp:PySem.W.keepIn K (.ref C)=true
theorem qhP {pins:List (Addr × Obj)} {σ:St} {H:Hp} {s:Shared} {Q:VK} {us:List Value} {vs:List V} (M:Mk X.K C f) (F:FnOk X.prog X.w X.K X.mg X.base CX k f fd ps sp) (hr:Room (k+1) X.A) (hb:Binds X.K fd ps ds) (hd:Vals dvs ds)
    (hx:qcV CX X E) (I:Inv X pins σ H s) (r:Vals vs us)
    (h:∀ x dx,H x=none→H dx=none→dx≠x→sp (.ref x::(vs++dvs)) (upd (upd H dx (.own x)) x (.ins C dx [])) (fun v H2=>v=.non∧Q (.ref x) H2) E) :
    wpAny (model X.prog X.w) X.A (call (.ref C) us) (EP X pins σ Q) X.xe s:=by
  have hq:=h (s.heap.objs.size+1) s.heap.objs.size (I.hok.fresh (Nat.le_succ _)) (I.hok.fresh (Nat.le_refl _)) (Nat.ne_of_lt (Nat.lt_succ_self _))
  have I2:=Inv.made (C:=C) I
  have r2:Vals (V.ref (s.heap.objs.size+1)::(vs++dvs)) (Value.ref (s.heap.objs.size+1)::(us++ds)):=.cons rfl (r.append hd)
  have hl:(Value.ref (s.heap.objs.size+1)::us++ds).length=ps.length:=by
    have e:=r2.length
    rw [F.len _ _ _ _ hq] at e
    exact e.symm
  refine wpAny_call (qhK (f:=f) I.kIn M.makes M.init (beq_iff_eq.mp M.fn) (codeAny_mono (F.run _ X.stack _ _ ⟨Value.ref (s.heap.objs.size+1)::us,[]⟩ (Value.ref (s.heap.objs.size+1)::(us++ds)) _ _ E (hr.make C us [])
    (I2.env0.make C us []) (hb _ (Value.ref (s.heap.objs.size+1)::us) I2.kIn hl) r2 hq) fun r s' hq'=>?_))
  cases r with
  | error e=>exact hx pins σ _ _ e s' I2 hq'
  | ok fl =>
    cases fl with
    | ret u =>
      obtain ⟨v,H',I3,rv,ev,q3⟩:=I2.after hq'
      subst ev
      exact ⟨rv,⟨V.ref (s.heap.objs.size+1),H',I3,rfl,q3⟩⟩
    | next=>exact False.elim hq'
    | brk=>exact False.elim hq'
    | cont=>exact False.elim hq'
theorem qiX (M:Mk X.K C f) (F:FnOk X.prog X.w X.K X.mg X.base CX k f fd ps sp) (hr:Room (k+1) X.A) (hg:Gl X x) (hm:X.mg x=some (.ref C)) (hb:Binds X.K fd ps ds) (hd:Vals dvs ds) (hx:qcV CX X E)
    (ha:PA X (e::es) t) (hdb:(x == ("__debug__":Str))=false:=by decide) (he:starEach (e::es) X.env=(false,eval e X.env)::starEach es X.env:=by rfl) (hpl:(backTo pos (starEach es X.env)).any (·.1)=false:=by rfl) :
    PE X (.Call (.Name x p) (e::es) [] pos) (qkV C sp dvs E t):=by
  intro pins s σ H Q I h
  refine wpAny_Call_Name_kw (qgL I hg hm ?_ hdb)
  refine PySem.W.callWith_K (h₀:=X.base) I.ok.mod.kin M.kp (thn (ha pos pins s σ H _ I h) fun us s1 ⟨vs,H1,I1,r,q⟩=>⟨I1.kIn,?_⟩) he hpl
  exact qhP M F hr hb hd hx I1 r q
end
section
variable {X : Cx} {CX : CXT} {k : Nat} {f C : Addr} {fd : FuncData} {ps ks : List Str} {sp : Sp} {E : XK} {x m : Str} {p pos apos kpos : Pos} {e o : Expr} {es : List Expr} {kws : List Keyword} {te ta : TE} {t tk : TA} {nm : Option Str}
variable {g : List Value → List Value → List Value} {gV : List V → List V → List V}
end
structure FnScope (N P:List Str) (sc:Scope):Prop where
  kind:sc.kind=.function
  co:sc.isCoroutine=false
  gen:sc.isGenerator=false
  nd:N.Nodup
  pre:N.take P.length=P
  par:∀ x∈P,sc.names.lookup x=some .local∨sc.names.lookup x=some .cell
  nofree:∀ y∈sc.names,y.2≠.free
theorem qeo {kindOf:Str→Option NameKind} {x:Str}:∀ {binds:List (Str × Value)} {m:Str→Option Value},(∀ v,(x,v)∉binds)→bindL kindOf binds m x=m x
  | [],_,_=>rfl
  | (n,v)::r,m,h=>by
    unfold bindL
    rw [qeo fun w hw=>h w (List.mem_cons_of_mem _ hw)]
    split
    · have:x≠n:=by rintro rfl;exact h v List.mem_cons_self
      simp [this]
    · rfl
theorem qd7 {kindOf:Str→Option NameKind} {x:Str}:∀ {binds:List (Str × Value)} {m:Str→Option Value},(∀ v,(x,v)∉binds)→bindC kindOf binds m x=m x
  | [],_,_=>rfl
  | (n,v)::r,m,h=>by
    unfold bindC
    rw [qd7 fun w hw=>h w (List.mem_cons_of_mem _ hw)]
    split
    · rfl
    · have:x≠n:=by rintro rfl;exact h v List.mem_cons_self
      simp [this]
theorem qek {kindOf:Str→Option NameKind} {x:Str} {v:Value}:∀ {P:List Str} {vs:List Value} {i:Nat} {m:Str→Option Value},P.Nodup→P[i]?=some x→vs[i]?=some v→kindOf x=some .local →
    bindL kindOf (P.zip vs) m x=some v
  | [],_,_,_,_,h,_,_=>by simp at h
  | _::_,[],_,_,_,_,h,_=>by simp at h
  | p::P,w::vs,0,m,nd,h1,h2,hk=>by
    simp at h1 h2;subst h1;subst h2
    show bindL kindOf ((p,w)::P.zip vs) m p=_
    unfold bindL
    rw [qeo fun v hv=>(List.nodup_cons.mp nd).1 (List.of_mem_zip hv).1,if_pos hk]
    simp
  | p::P,w::vs,i+1,m,nd,h1,h2,hk=>by
    show bindL kindOf ((p,w)::P.zip vs) m x=_
    unfold bindL
    exact qek (i:=i) (List.nodup_cons.mp nd).2 (by simpa using h1) (by simpa using h2) hk
theorem qeb {kindOf:Str→Option NameKind} {x:Str} {v:Value}:∀ {P:List Str} {vs:List Value} {i:Nat} {m:Str→Option Value},P.Nodup→P[i]?=some x→vs[i]?=some v→kindOf x≠some .local →
    bindC kindOf (P.zip vs) m x=some v
  | [],_,_,_,_,h,_,_=>by simp at h
  | _::_,[],_,_,_,_,h,_=>by simp at h
  | p::P,w::vs,0,m,nd,h1,h2,hk=>by
    simp at h1 h2;subst h1;subst h2
    show bindC kindOf ((p,w)::P.zip vs) m p=_
    unfold bindC
    rw [qd7 fun v hv=>(List.nodup_cons.mp nd).1 (List.of_mem_zip hv).1,if_neg hk]
    simp
  | p::P,w::vs,i+1,m,nd,h1,h2,hk=>by
    show bindC kindOf ((p,w)::P.zip vs) m x=_
    unfold bindC
    exact qeb (i:=i) (List.nodup_cons.mp nd).2 (by simpa using h1) (by simpa using h2) hk
def start (N:List Str) (vs:List V):St:=vs.map some++List.replicate (N.length - vs.length) none
def qhV (CX:CXT) (P:Program) (w:World) (K:PySem.W.Frag) (mg:Str→Option Value) (base:Heap) (N:List Str) (qual:Str) (scope:Scope) (f:Addr) (cd:Value) (A:Around) (outer:List Env) (s:Shared) (H:Hp) (E:XK):Cx where
  prog:=P
  w:=w
  K:=K
  mg:=mg
  base:=base
  A:=A.deeper (envOfC qual scope s.heap.objs.size f cd)
  N:=N
  s₀:=s
  H₀:=H
  env:=envOfC qual scope s.heap.objs.size f cd
  outer:=outer
  stack:=envOfC qual scope s.heap.objs.size f cd::outer
  ex:=[]
  calm:=true
  fn:=fun _=>true
  pn:=[]
  xe:=fun e s'=>wpAny (model P w) (A.deeper (envOfC qual scope s.heap.objs.size f cd)) (leaving (envOfC qual scope s.heap.objs.size f cd) e) (fun _ s''=>CX outer H s E e s'') (fun e' s''=>CX outer H s E e' s'') s'
theorem qdU {sc:Scope} {n:Nat} {x:Str} (h:sc.names.lookup x=some .cell):∃ c,(cellsFrom n sc.names []).lookup x=some c:=by
  have q:=PySem.W.cellsFrom_some sc.names n [] (.inl h)
  exact Option.isSome_iff_exists.mp q
theorem qgh {CX:CXT} {P:Program} {w:World} {K:PySem.W.Frag} {mg:Str→Option Value} {base:Heap} {N ps:List Str} {qual:Str} {scope:Scope} {f:Addr} {cd:Value} {A:Around} {outer:List Env} {s s1:Shared} {H:Hp} {E:XK} {us:List Value} {vs:List V}
    (S:FnScope N ps scope) (hd:A.handled=none) (e0:Env0 P w K mg base A outer s H) (hl:vs.length=ps.length) (r:Vals vs us)
    (x:InCallC s s.heap.objs.size (bindL (envOfC qual scope s.heap.objs.size f cd).kindOf (ps.zip us) fun _=>none) (cellsFrom (s.heap.objs.size+1) scope.names []) (bindC (envOfC qual scope s.heap.objs.size f cd).kindOf (ps.zip us) fun _=>none) s1) :
    Inv (qhV CX P w K mg base N qual scope f cd A outer s H E) [] (start N vs) H s1:=by
  have hpl:ps.length≤N.length:=by have:=congrArg List.length S.pre;rw [List.length_take] at this;omega
  obtain ⟨h1,tk,rfl,hk⟩:=x.done
  have noA:∀ b:Addr,b∉(qhV CX P w K mg base N qual scope f cd A outer s H E).ex:=fun b z=>absurd (show b∈([]:List Addr) from z) (by simp)
  refine ⟨⟨e0.mod,S.kind,rfl,rfl,Nat.le_refl _,fun y z c h1 h2=>?_,fun y hy=>?_,fun y c _ h=>?_,fun _=>hd,Around.frames_deeper e0.frames,.inr ⟨rfl,rfl⟩,fun b z=>absurd z (noA b),e0.bs,e0.bsz,fun b _ _=>noA b,fun b z=>absurd z (noA b),e0.funs,e0.frf⟩,
    rfl,e0.bare,Un.kept hk,⟨_,x.toInCall.ns,fun i y v h1 h2 h3=>?_⟩,fun y c h=>⟨_,x.cell y c h⟩,e0.hok.fresh (Nat.le_refl _),fun y c h=>?_,fun p hp=>absurd (show p∈([]:List (Addr × Obj)) from hp) (by simp),e0.hok.kept hk,?_⟩
  · exact name_of_addr x.apart (PySem.mem_of_lookup h1) (PySem.mem_of_lookup h2)
  · have hy:scope.names.lookup y=some .cell∨scope.names.lookup y=some .free:=hy
    rcases hy with hy | hy
    · exact qdU hy
    · exact absurd rfl (S.nofree _ (PySem.mem_of_lookup hy))
  · exact Nat.le_of_lt (x.above y c (PySem.mem_of_lookup h))
  · have hi:i<vs.length:=by
      unfold start at h2
      by_cases hi:i<vs.length
      · exact hi
      · rw [List.getElem?_append_right (by simpa using hi)] at h2
        rw [List.getElem?_replicate] at h2
        split at h2 <;> cases h2
    have ha:vs[i]?=some v:=by
      unfold start at h2
      rw [List.getElem?_append_left (by simpa using hi),List.getElem?_map] at h2
      cases e:vs[i]? with
      | none=>rw [e] at h2;cases h2
      | some a=>rw [e] at h2;cases h2;rfl
    obtain ⟨u,hu,rv⟩:=r.get ha
    have hp:ps[i]?=some y:=by
      rw [← S.pre,List.getElem?_take_of_lt (by omega)];exact h1
    have ndP:ps.Nodup:=by rw [← S.pre];exact S.nd.sublist (List.take_sublist _ _)
    refine ⟨u,rv,?_⟩
    rcases S.par y (List.mem_of_getElem? hp) with k | k
    · exact .inl ⟨k,qek ndP hp hu k⟩
    · obtain ⟨c,e⟩:=qdU (n:=s.heap.objs.size+1) k
      refine .inr ⟨.inl k,c,e,?_⟩
      have q:=x.cell y c e
      rw [qeb ndP hp hu (by show scope.names.lookup y≠_;rw [k];decide)] at q
      exact q
  · exact e0.hok.fresh (Nat.le_of_lt (x.above y c (PySem.mem_of_lookup h)))
  · unfold start
    show _=N.length
    rw [List.length_append,List.length_map,List.length_replicate]
    omega
theorem qkh {CX:CXT} {P:Program} {w:World} {K:PySem.W.Frag} {mg:Str→Option Value} {base:Heap} {k:Nat} {f:Addr} {name qual:Str} {params:Arguments} {body:List Stmt} {scope:Scope} {dV kV doc pm cdv ct oc:Value} {an od:Option Addr}
    {osl:Array (Option Value)} {N ps:List Str} {sp:Sp} (lk:K.lookup f=some ⟨oc,od,.func (PySem.W.fnOf name qual params body scope dV kV doc pm an cdv ct),osl⟩) (hcd:PySem.W.codeIn K cdv qual=true) (S:FnScope N ps scope)
    (len:∀ vs H Q E,sp vs H Q E→vs.length=ps.length)
    (hbody:∀ (A:Around) (outer:List Env) (s:Shared) (H:Hp) (vs:List V) (Q:VK) (E:XK),Room k (A.deeper (envOfC qual scope s.heap.objs.size f cdv))→sp vs H Q E →
      ∃ t,PSs (qhV CX P w K mg base N qual scope f cdv A outer s H E) body t∧t { nx:=fun _ H'=>Q .non H',rt:=Q } (start N vs) H) :
    FnOk P w K mg base CX (k+1) f (PySem.W.fnOf name qual params body scope dV kV doc pm an cdv ct) ps sp:=by
  refine ⟨len,fun A outer s H args us vs Q E hr e0 hb r hsp=>?_⟩
  have hl:=len _ _ _ _ hsp
  have KX:K.In s.heap:=e0.mod.kin.keeps fun b o e=>(e0.bs b o e).1
  have lim:s.heap.NoLimit:=e0.mod.nolimit.keeps fun b o e=>(e0.bs b o e).1
  have hkind:∀ y∈ps.zip us,scope.names.lookup y.1=some .local∨(scope.names.lookup y.1=some .cell∧((cellsFrom (s.heap.objs.size+1) scope.names []).lookup y.1).isSome=true):=fun hq0 hy=>by
    obtain ⟨n,v⟩:=hq0
    rcases S.par n (List.of_mem_zip hy).1 with q | q
    · exact .inl q
    · exact .inr ⟨q,PySem.W.cellsFrom_some _ _ _ (.inl q)⟩
  refine codeAny_call_function hr.depth (KX _ _ lk) rfl S.co S.gen rfl (PySem.W.codeRec_of KX hcd) (hb _ _ _ _ ?_)
  refine wpAny_newFunctionEnv_cells S.kind hkind fun env he s1 x=>?_
  subst he
  refine ⟨lim.keeps x.toInCall.keep,codeAny_func ?_⟩
  obtain ⟨t,ht,hq⟩:=hbody A outer s H vs Q E (hr.deeper _) hsp
  have I:Inv (qhV CX P w K mg base N qual scope f cdv A outer s H E) [] (start N vs) H s1:=qgh S hr.hd e0 hl r x
  refine wpAny_mono (ht [] s1 (start N vs) H _ I hq) (fun fl s' hs=>?_) fun e s' hs=>hs
  have fin:∀ {σ':St} {H':Hp} {v:V} {u:Value},Inv (qhV CX P w K mg base N qual scope f cdv A outer s H E) [] σ' H' s'→RelV v u→Q v H'→CE outer P w H s Q u s' :=
    fun {σ' H' v u} J rv q=>⟨v,H',J.os,J.bare,J.base,J.hok,rv,q⟩
  cases fl with
  | ret u =>
    obtain ⟨v,σ',H',J,rv,q⟩:=hs
    exact fin J rv q
  | next =>
    obtain ⟨σ',H',J,q⟩:=hs
    exact fin (v:=V.non) (u:=Value.none) J rfl q
  | brk =>
    obtain ⟨_,_,_,q⟩:=hs
    exact False.elim q
  | cont =>
    obtain ⟨_,_,_,q⟩:=hs
    exact False.elim q
section
variable {X : Cx} {x : Str} {p pos : Pos} {e : Expr} {es : List Expr} {t : TA} {id T : String} {r : List V → Hp → VK → Prop}
def tCB (r:List V→Hp→VK→Prop) (t:TA):TE:=fun σ H Q=>t σ H fun vs H1=>r vs H1 Q
theorem qcJ (hc:qcc X (.builtin id) r) (hg:Gl X x) (hm:X.mg x=none) (hv:bootBuiltins x=some (.builtin id)) (ha:PA X (e::es) t) (hn:x≠"__name__":=by decide) (hdb:(x == ("__debug__":Str))=false:=by decide)
    (he:starEach (e::es) X.env=(false,eval e X.env)::starEach es X.env:=by rfl) (hpl:(backTo pos (starEach es X.env)).any (·.1)=false:=by rfl):PE X (.Call (.Name x p) (e::es) [] pos) (tCB r t):=by
  intro pins s σ H Q I h
  refine wpAny_Call_Name_kw (qcS I hg hm hv ?_ hn hdb)
  exact PyProof.Rows.callWith_builtin1 (thn (ha pos pins s σ H _ I h) fun us s1 hq0=>by obtain ⟨vs,H1,I1,r1,q1⟩:=hq0;exact hc pins s1 σ H1 vs us Q I1 r1 q1) he hpl
theorem qbP (hc:qcc X (.type T) r) (hg:Gl X x) (hm:X.mg x=none) (hv:bootBuiltins x=some (.type T)) (ha:PA X (e::es) t) (hn:x≠"__name__":=by decide) (hdb:(x == ("__debug__":Str))=false:=by decide)
    (he:starEach (e::es) X.env=(false,eval e X.env)::starEach es X.env:=by rfl) (hpl:(backTo pos (starEach es X.env)).any (·.1)=false:=by rfl):PE X (.Call (.Name x p) (e::es) [] pos) (tCB r t):=by
  intro pins s σ H Q I h
  refine wpAny_Call_Name_kw (qcS I hg hm hv ?_ hn hdb)
  exact PyProof.Rows.callWith_type1 (thn (ha pos pins s σ H _ I h) fun us s1 hq0=>by obtain ⟨vs,H1,I1,r1,q1⟩:=hq0;exact hc pins s1 σ H1 vs us Q I1 r1 q1) he hpl
end
end L2
namespace HT
open PySem PyProof.Rows
section
open PySem.SeqAt
open PySem.AutoSeq1 (wpAny_loadPart')
open PySem.MeetsSeq PySem.MeetsSeq2 PySem.MeetsSeq3
end
section
variable {prog : Program} {w : World} {A : Around} {E : Value → Shared → Prop} {s : Shared}
theorem cat_tup {t b:Addr} {vs ws:List Value} {Q:Value→Shared→Prop} (ht:IsTup s.heap t vs.toArray) (hb:IsTup s.heap b ws.toArray) (hv:vs≠[])
    (h1:ws=[]→Q (.ref t) s) (h2:ws≠[]→Q (.ref s.heap.objs.size) { s with heap:=s.heap.push { cls:=.type "tuple",data:=.seq (vs++ws).toArray } })
    (hsz:vs.length+ws.length≤sizeLine):wpAny (model prog w) A (binaryOp .Add (.ref t) (.ref b)) Q E s:=by
  obtain ⟨⟨cls,dd,data,sl⟩,ho,hc,n,hd⟩:=id ht
  obtain ⟨⟨cls2,dd2,data2,sl2⟩,ho2,hc2,n2,hd2⟩:=id hb
  simp only at hc hd hc2 hd2
  subst hc hd hc2 hd2
  have e:vs.toArray++ws.toArray=(vs++ws).toArray:=by simp
  by_cases hw:ws=[]
  · exact concat_meets ⟨_,ho,rfl⟩ ⟨_,ho2,rfl⟩ noFill_tuple_add seq_tuple_add PySem.F.slot_tuple_add PySem.F.entry_tuple_add (PySem.F.args_tuple_add_2 _ _)
      (tuple_addW1 t b vs.toArray ws.toArray n n2 dd dd2 sl sl2 (by simpa using hv) (by simp [hw])) ⟨ho,ho2,h1 hw⟩
  · refine concat_meets ⟨_,ho,rfl⟩ ⟨_,ho2,rfl⟩ noFill_tuple_add seq_tuple_add PySem.F.slot_tuple_add PySem.F.entry_tuple_add (PySem.F.args_tuple_add_2 _ _)
      (tuple_addW2 t b vs.toArray ws.toArray n n2 dd dd2 sl sl2 (by simpa using hv) (by simpa using hw) (by rw [List.size_toArray,List.size_toArray];exact hsz)) ⟨ho,ho2,?_⟩
    rw [e]
    exact h2 hw
def sIx (n d:Nat):Option Int→Nat
  | none=>d
  | some v=>if v<0 then (v+(n:Int)).toNat else min v.toNat n
theorem sIx_nat (n d k:Nat):sIx n d (some (k:Int))=min k n:=by
  show (if (k:Int)<0 then ((k:Int)+(n:Int)).toNat else min (k:Int).toNat n)=min k n
  rw [if_neg (by omega),Int.toNat_natCast]
theorem qkw (n d:Nat) (hd:d≤n) (o:Option Int):sIx n d o≤n:=by
  cases o with
  | none=>exact hd
  | some v =>
    show (if v<0 then (v+(n:Int)).toNat else min v.toNat n)≤n
    by_cases hv:v<0
    · rw [if_pos hv];omega
    · rw [if_neg hv];exact Nat.min_le_right _ _
theorem qgI (v:Int) (n d:Nat):(if v<0 then max (v+(n:Int)) 0 else min v (n:Int))=((sIx n d (some v):Nat):Int):=by
  show (if v<0 then max (v+(n:Int)) 0 else min v (n:Int))=(((if v<0 then (v+(n:Int)).toNat else min v.toNat n):Nat):Int)
  by_cases hv:v<0
  · simp only [if_pos hv];omega
  · simp only [if_neg hv];omega
theorem qfG (lo hi:Option Int) (n:Nat):Builtin.Slice.sliceAdjust lo hi 1 (n:Int)=(((sIx n 0 lo:Nat):Int),((sIx n n hi:Nat):Int)):=by
  have h1:¬ ((1:Int)<0):=by omega
  unfold Builtin.Slice.sliceAdjust
  simp only [h1,if_false]
  refine Prod.ext ?_ ?_
  · cases lo with
    | none=>rfl
    | some v=>exact qgI v n 0
  · cases hi with
    | none=>rfl
    | some v=>exact qgI v n n
theorem qfB (i j:Nat):Builtin.Slice.slicePlaces (i:Int) (j:Int) 1=j - i:=by
  unfold Builtin.Slice.slicePlaces
  have h1:(1:Int)>0:=by omega
  simp only [h1,if_true,Int.ediv_one]
  split <;> omega
theorem qdi {v:Value} {o:Option Int} {Q:Option Int→Shared→Prop} (p:IsPart v o) (h:Q o s):wpAny (model prog w) A (Builtin.Slice.slicePartIndex v) Q E s:=by
  cases p with
  | none=>exact slicePart_none h
  | int i t=>exact slicePart_int h
theorem qbD {sl:Addr} {vl vu:Value} {lo hi:Option Int} {n:Nat} {Q:Int × Int × Nat→Shared→Prop} (hs:s.heap.IsSliceOf sl vl vu .none) (pl:IsPart vl lo) (pu:IsPart vu hi)
    (h:Q (((sIx n 0 lo:Nat):Int),1,sIx n n hi - sIx n 0 lo) s):wpAny (model prog w) A (Builtin.Slice.sliceApplied (.ref sl) (pure (n:Int))) Q E s:=by
  obtain ⟨os,hos,hcs,hds⟩:=id hs
  unfold Builtin.Slice.sliceApplied Builtin.Slice.sliceFields
  refine wpAny_bind (wpAny_bind (wpAny_field hos hds (x:=vl) rfl (wpAny_bind (wpAny_field hos hds (x:=vu) rfl (wpAny_bind (wpAny_field hos hds (x:=.none) rfl (wpAny_pure ?_)))))))
  refine wpAny_bind (slicePart_none ?_)
  show wpAny _ _ (if ((1:Int) == 0)=true then _ else _) _ _ s
  rw [if_neg (by decide)]
  refine wpAny_bind (qdi pl (wpAny_bind (qdi pu (wpAny_bind (wpAny_pure ?_)))))
  show wpAny _ _ (match Builtin.Slice.sliceAdjust lo hi 1 (n:Int) with | (lo,hi)=>pure (lo,(1:Int),Builtin.Slice.slicePlaces lo hi 1)) _ _ s
  rw [qfG lo hi n]
  show wpAny _ _ (pure (((sIx n 0 lo:Nat):Int),(1:Int),Builtin.Slice.slicePlaces ((sIx n 0 lo:Nat):Int) ((sIx n n hi:Nat):Int) 1)) _ _ s
  rw [qfB]
  exact wpAny_pure h
theorem qhZ (xs:Array Value) (i k:Nat):((List.range k).filterMap fun (m:Nat)=>xs[((i:Int)+(m:Int)*1).toNat]?).toArray=((xs.toList.drop i).take k).toArray:=by
  have e:(fun (m:Nat)=>xs[((i:Int)+(m:Int)*1).toNat]?)=fun m=>xs[i+m]?:=by
    funext m
    have:((i:Int)+(m:Int)*1).toNat=i+m:=by omega
    rw [this]
  rw [e]
  have:=pick_run xs i k
  rw [List.filterMap_map] at this
  have e2:((fun x=>xs[x]?) ∘ fun x=>i+x)=fun m=>xs[i+m]?:=rfl
  rw [e2] at this
  rw [this]
theorem getItem_tuple_cut {t sl:Addr} {items:Array Value} {vl vu:Value} {lo hi:Option Int} {Q:Value→Shared→Prop} (ht:IsTup s.heap t items) (hs:s.heap.IsSliceOf sl vl vu .none) (pl:IsPart vl lo) (pu:IsPart vu hi)
    (hw:¬ (sIx items.size 0 lo=0∧sIx items.size items.size hi=items.size))
    (h:Q (.ref s.heap.objs.size) { s with heap:=s.heap.push { cls:=.type "tuple",data:=.seq ((items.toList.drop (sIx items.size 0 lo)).take (sIx items.size items.size hi - sIx items.size 0 lo)).toArray } })
    (hsz:items.size≤sizeLine):wpAny (model prog w) A (getItem (.ref t) (.ref sl)) Q E s:=by
  have htake:sizeOk (.seq ((items.toList.drop (sIx items.size 0 lo)).take (sIx items.size items.size hi - sIx items.size 0 lo)).toArray):=by
    show ((items.toList.drop (sIx items.size 0 lo)).take (sIx items.size items.size hi - sIx items.size 0 lo)).toArray.size≤sizeLine
    rw [List.size_toArray,List.length_take,List.length_drop,Array.length_toList]
    omega
  have hj:sIx items.size items.size hi≤items.size:=qkw _ _ (Nat.le_refl _) hi
  obtain ⟨os,hos,hcs,hds⟩:=id hs
  have hTs:s.TypeIs (.ref sl) "slice":=⟨os,hos,hcs⟩
  unfold getItem
  try with_reducible refine wpAny_holding ?_
  first | refine wpAny_bind (wpAny_pure ?_) | skip
  refine wpAny_bind (wpAny_sequenceKey ht.typeIs (by decide) ?_)
  refine wpAny_bind (wpAny_callSpecial?_slot (name:=Str.ofString "__getitem__") ht.typeIs PyProof.Rows.slot_tuple_getitem
    (wpAny_call_entry PyProof.Rows.slot_tuple_getitem ht.typeIs entry_tuple_getitem ?_ (args_tuple_getitem _ _)))
  show wpAny _ _ (Builtin.Tuple.tupleItemsOf (.ref t) >>= _) _ _ s
  refine wpAny_bind (tupleItemsOf_ ht ?_)
  refine wpAny_bind (wpAny_typeOf hTs ?_)
  rw [if_pos (by decide)]
  refine wpAny_bind (qbD hs pl pu ?_)
  have hno:¬ ((((sIx items.size 0 lo:Nat):Int) == 0 && (1:Int) == 1 && (sIx items.size items.size hi - sIx items.size 0 lo) == items.size)=true):=by
    intro q
    rw [Bool.and_eq_true,Bool.and_eq_true] at q
    have q1:((sIx items.size 0 lo:Nat):Int)=0:=eq_of_beq q.1.1
    have q2:sIx items.size items.size hi - sIx items.size 0 lo=items.size:=eq_of_beq q.2
    exact hw ⟨by omega,by omega⟩
  show wpAny _ _ (if (((sIx items.size 0 lo:Nat):Int) == 0 && (1:Int) == 1 && (sIx items.size items.size hi - sIx items.size 0 lo) == items.size)=true then _ else _) _ _ s
  rw [if_neg hno,qhZ]
  first
    | exact wpAny_bind (m:=Builtin.Tuple.tupleExact _) (wpAny_newObj_type (wpAny_pure ⟨_,rfl,wpAny_pure h⟩) htake)
    | exact wpAny_bind (m:=Builtin.Tuple.tupleExact _) (wpAny_newObj_type (wpAny_bind (wpAny_pure (wpAny_pure ⟨_,rfl,wpAny_pure h⟩))) htake)
    | exact wpAny_bind (wpAny_bind (m:=Builtin.Tuple.tupleExact _) (wpAny_newObj_type (wpAny_pure (wpAny_pure ⟨_,rfl,wpAny_pure h⟩)) htake))
    | exact wpAny_bind (wpAny_bind (m:=Builtin.Tuple.tupleExact _) (wpAny_newObj_type (wpAny_pure ⟨_,rfl,wpAny_pure h⟩) htake))
end
end HT
namespace L2
open PySem PySem.Spec PyProof.Rows
abbrev TO:=St→Hp→(Option Int→Hp→Prop)→Prop
def PO (X:Cx) (e:Option Expr) (t:TO):Prop :=
  ∀ (pins:List (Addr × Obj)) (s:Shared) (σ:St) (H:Hp) (Q:Option Int→Hp→Prop),Inv X pins σ H s→t σ H Q →
    wpAny (model X.prog X.w) X.A (evalPart e X.env) (fun u s'=>∃ o H',Inv X pins σ H' s'∧IsPart u o∧Q o H') X.xe s
def qiF:TO:=fun _ H Q=>Q none H
def qkX (t:TE):TO:=fun σ H Q=>t σ H fun x H1=>∃ i,x=.int i∧Q (some i) H1
section
variable {X : Cx} {e : Expr} {te : TE} {lo hi : Option Expr} {tl th : TO} {pos p2 : Pos}
theorem po_none:PO X none qiF:=by
  intro pins s σ H Q I h
  rw [evalPart_none]
  exact wpAny_pure ⟨none,H,I,.none,h⟩
theorem qgW (h:PE X e te):PO X (some e) (qkX te):=by
  intro pins s σ H Q I hw
  rw [evalPart_some]
  refine thn (h pins s σ H _ I hw) fun u s1 hq0=>?_
  obtain ⟨x,H1,I1,r1,q1⟩:=hq0
  obtain ⟨i,rfl,q⟩:=q1
  obtain ⟨t,rfl⟩:=r1
  exact ⟨some i,H1,I1,.int i t,q⟩
def SlR (X:Cx) (r:V→Option Int→Option Int→Hp→VK→Prop):Prop :=
  ∀ (pins:List (Addr × Obj)) (s:Shared) (σ:St) (H:Hp) (x:V) (v vl vu:Value) (lo hi:Option Int) (sl:Addr) (Q:VK),Inv X pins σ H s→RelV x v→s.heap.IsSliceOf sl vl vu .none→IsPart vl lo→IsPart vu hi→r x lo hi H Q →
    ∃ T id,typeLookup (.type T) "__getitem__"=pure (some (.builtin id))∧s.TypeIs v T∧wpAny (model X.prog X.w) X.A (getItem v (.ref sl)) (EP X pins σ Q) X.xe s
theorem SlR.or {r r':V→Option Int→Option Int→Hp→VK→Prop} (h:SlR X r) (h':SlR X r'):SlR X (fun x lo hi H Q=>r x lo hi H Q∨r' x lo hi H Q):=by
  intro pins s σ H x v vl vu lo hi sl Q I rx hs pl pu q
  rcases q with q | q
  · exact h pins s σ H x v vl vu lo hi sl Q I rx hs pl pu q
  · exact h' pins s σ H x v vl vu lo hi sl Q I rx hs pl pu q
def tSl (r:V→Option Int→Option Int→Hp→VK→Prop) (te:TE) (tl th:TO):TE:=fun σ H Q=>te σ H fun x H1=>tl σ H1 fun l H2=>th σ H2 fun u H3=>r x l u H3 Q
theorem qfg {r:V→Option Int→Option Int→Hp→VK→Prop} (hr:SlR X r) (he:PE X e te) (hl:PO X lo tl) (hu:PO X hi th):PE X (.Subscript e (.Slice lo hi none p2) pos) (tSl r te tl th):=by
  intro pins s σ H Q I h
  refine Subscript_ (thn (he pins s σ H _ I h) fun v s1 ⟨x,H1,I1,r1,q1⟩=>?_)
  refine wpAny_Slice (thn (hl pins s1 σ H1 _ I1 q1) fun vl s2 ⟨l,H2,I2,pl,q2⟩=>thn (hu pins s2 σ H2 _ I2 q2) fun vu s3 ⟨u,H3,I3,pu,q3⟩=>?_)
  rw [evalPart_none]
  refine wpAny_pure ?_
  have I4:Inv X pins σ H3 { s3 with heap:=s3.heap.push { cls:=.type "slice",data:=.fields #[vl,vu,.none] } }:=I3.kept (t':=s3.toks) fun b ob q=>Heap.get?_push_of_some _ q
  obtain ⟨T,id,hT,ht,hg⟩:=hr pins { s3 with heap:=s3.heap.push { cls:=.type "slice",data:=.fields #[vl,vu,.none] } } σ H3 x v vl vu l u s3.heap.objs.size Q I4 r1 (Heap.IsSliceOf.new ..) pl pu q3
  show wpAny (model X.prog X.w) X.A (subscriptTail e (.Slice lo hi none p2) v (.ref s3.heap.objs.size)) (EP X pins σ Q) X.xe { s3 with heap:=s3.heap.push { cls:=.type "slice",data:=.fields #[vl,vu,.none] } }
  exact tail_any (ops:=[.ref s3.heap.objs.size,v]) ht hT hg (by with_unfolding_all rfl)
def qhm (xs:List V) (lo hi:Option Int):List V:=(xs.drop (HT.sIx xs.length 0 lo)).take (HT.sIx xs.length xs.length hi - HT.sIx xs.length 0 lo)
theorem qcZ (xs:List V) (lo hi:Option Int):(qhm xs lo hi).length≤xs.length:=by
  unfold qhm
  rw [List.length_take,List.length_drop]
  omega
def qls (K:PySem.W.Frag):V→Option Int→Option Int→Hp→VK→Prop:=fun x lo hi H Q=>∃ a xs,x=.ref a∧SqT K H a xs ∧
  ¬ (HT.sIx xs.length 0 lo=0∧HT.sIx xs.length xs.length hi=xs.length)∧∀ p,H p=none→Q (.ref p) (upd H p (.tup (qhm xs lo hi)))
theorem sl_tup:SlR X (qls X.K):=by
  intro pins s σ H x v vl vu lo hi sl Q I rx hs pl pu h
  obtain ⟨a,xs,rfl,hx,hw,q⟩:=h
  cases rx
  obtain ⟨its,r,ht,hz⟩:=I.tuple hx
  have hlen:its.toArray.size=xs.length:=by rw [List.size_toArray];exact r.length.symm
  refine ⟨"tuple",_,PyProof.Rows.slot_tuple_getitem.lookup,ht.typeIs,?_⟩
  refine HT.getItem_tuple_cut ht hs pl pu (by rw [hlen];exact hw) ?_ (by rw [hlen];exact hz)
  rw [hlen]
  refine ⟨.ref s.heap.objs.size,_,I.laid (t':=s.toks) (o:=.tup (qhm xs lo hi)) (fun b ob q=>Heap.get?_push_of_some _ q) (Nat.le_refl _) ?_,rfl,q _ (I.hok.fresh (Nat.le_refl _))⟩
  exact ⟨Nat.le_trans (qcZ xs lo hi) hz,_,(r.drop (HT.sIx xs.length 0 lo)).take (HT.sIx xs.length xs.length hi - HT.sIx xs.length 0 lo),IsTupD.new _ _⟩
def qkS (K:PySem.W.Frag):R2:=fun x y H Q=>∃ a b xs ys,x=.ref a∧y=.ref b∧SqT K H a xs∧SqT K H b ys∧xs≠[]∧xs.length+ys.length≤sizeLine ∧
  (ys=[]→Q (.ref a) H)∧(ys≠[]→∀ p,H p=none→Q (.ref p) (upd H p (.tup (xs++ys))))
theorem Vals.nil_iff {xs:List V} {us:List Value} (r:Vals xs us):us=[]↔xs=[]:=by
  cases r with
  | nil=>simp
  | cons _ _=>simp
theorem qiP:OpR X (binaryOp .Add) (qkS X.K):=by
  intro pins s σ H x y v u Q I rx ry h
  obtain ⟨a,b,xs,ys,rfl,rfl,ha,hb,hx,hz,q1,q2⟩:=h
  cases rx
  cases ry
  obtain ⟨its,r1,p1,_⟩:=I.tuple ha
  obtain ⟨its2,r2,p2,_⟩:=I.tuple hb
  refine HT.cat_tup p1 p2 (fun z=>hx (r1.nil_iff.mp z)) (fun z=>⟨.ref a,H,I,rfl,q1 (r2.nil_iff.mp z)⟩) (fun z=>?_) (by rw [← r1.length,← r2.length];exact hz)
  refine ⟨.ref s.heap.objs.size,_,I.laid (t':=s.toks) (o:=.tup (xs++ys)) (fun b ob q=>Heap.get?_push_of_some _ q) (Nat.le_refl _) ?_,rfl,q2 (fun w=>z (r2.nil_iff.mpr w)) _ (I.hok.fresh (Nat.le_refl _))⟩
  exact ⟨by rw [List.length_append];exact hz,_,r1.append r2,IsTupD.new _ _⟩
end
def ixN (n:Nat) (i:Int):Option Nat:=if 0≤i then (if i<n then some i.toNat else none) else if -(n:Int)≤i then some (i+n).toNat else none
def atI {α:Type} (xs:List α) (i:Int):Option α:=(ixN xs.length i).bind fun j=>xs[j]?
theorem qgj {n:Nat} {i:Int} {j:Nat} (h:ixN n i=some j):seqIndex? i n=some j∧j<n∧-(n:Int)≤i∧i<n:=by
  unfold ixN at h
  by_cases h0:0≤i
  · rw [if_pos h0] at h
    by_cases h1:i<n
    · rw [if_pos h1] at h
      have e:i.toNat=j:=Option.some.inj h
      exact ⟨by rw [seqIndex_of h0 h1,e],by omega,by omega,h1⟩
    · rw [if_neg h1] at h;cases h
  · rw [if_neg h0] at h
    by_cases h1:-(n:Int)≤i
    · rw [if_pos h1] at h
      have e:(i+n).toNat=j:=Option.some.inj h
      exact ⟨by rw [seqIndex_neg (by omega) h1,e],by omega,h1,by omega⟩
    · rw [if_neg h1] at h;cases h
theorem qeW {α:Type} {xs:List α} {i:Int} {v:α} (h:atI xs i=some v):∃ j,seqIndex? i xs.length=some j∧xs[j]?=some v∧j<xs.length∧-(xs.length:Int)≤i∧i<xs.length:=by
  unfold atI at h
  cases e:ixN xs.length i with
  | none=>rw [e] at h;cases h
  | some j =>
    rw [e] at h
    obtain ⟨h1,h2,h3,h4⟩:=qgj e
    exact ⟨j,h1,h,h2,h3,h4⟩
theorem qiL {α:Type} {xs:List α} {j:Nat} {v:α} (h:xs[j]?=some v):atI xs (j:Int)=some v:=by
  have hj:j<xs.length:=(List.getElem?_eq_some_iff.mp h).1
  have e:ixN xs.length (j:Int)=some j:=by
    unfold ixN
    rw [if_pos (by omega),if_pos (by omega)];simp
  unfold atI;rw [e];exact h
def qgw (b:Expr):Prop:=∀ o i,subscripted b false o i=operate [o,i] (getItem o i)
def IxR (X:Cx) (r:R2):Prop :=
  ∀ (value slice:Expr) (pins:List (Addr × Obj)) (s:Shared) (σ:St) (H:Hp) (x y:V) (v u:Value) (Q:VK),Inv X pins σ H s→RelV x v→RelV y u→r x y H Q →
    subscripted slice false v u=operate [v,u] (getItem v u)→wpAny (model X.prog X.w) X.A (subscriptTail value slice v u) (EP X pins σ Q) X.xe s
def MtR (X:Cx) (id:String) (r:V→List V→Hp→VK→Prop):Prop :=
  ∀ (pins:List (Addr × Obj)) (s:Shared) (σ:St) (H:Hp) (x:V) (xs:List V) (v:Value) (us:List Value) (Q:VK),Inv X pins σ H s→RelV x v→Vals xs us→r x xs H Q →
    wpAny (model X.prog X.w) X.A (call (.builtin id) (v::us)) (EP X pins σ Q) X.xe s
section
variable {X : Cx} {a b : Expr} {ta tb : TE} {pos : Pos}
theorem qbn {r:R2} (hr:IxR X r) (ha:PE X a ta) (hb:PE X b tb) (hs:qgw b):PE X (.Subscript a b pos) (tOp r ta tb):=by
  intro pins s σ H Q I h
  exact Subscript_ (qkM ha hb I h fun v u s2 x y H2 I2 rx ry q=>hr a b pins s2 σ H2 x y v u Q I2 rx ry q (hs _ _))
def qmn (K:PySem.W.Frag):R2:=fun x y H Q=>∃ p xs i v,x=.ref p∧y=.int i∧SqL K H p xs∧atI xs i=some v∧Q v H
def qmp (K:PySem.W.Frag):R2:=fun x y H Q=>∃ p xs i v,x=.ref p∧y=.int i∧SqT K H p xs∧atI xs i=some v∧Q v H
def qmt:R2:=fun x y H Q=>∃ z i c,x=.str z∧y=.int i∧z.length≤sizeLine∧atI z.cps.toList i=some c∧Q (.str ⟨#[c]⟩) H
theorem qaz:IxR X (qmn X.K):=by
  intro value slice pins s σ H x y v u Q I rx ry h hs
  obtain ⟨p,xs,i,z,rfl,rfl,hq,he,q⟩:=h
  cases rx
  obtain ⟨t,rfl⟩:=ry
  obtain ⟨its,r,pl,hz⟩:=I.list hq
  obtain ⟨j,h1,h2,h3,h4,h5⟩:=qeW he
  obtain ⟨w,ew,rw'⟩:=r.get h2
  have hl:=r.length
  have hn:=qdd
  have fin:EP X pins σ Q w s:=⟨z,H,I,rw',q⟩
  by_cases h0:0≤i
  · have hj:i.toNat=j:=by
      rw [seqIndex_of h0 h5] at h1
      exact Option.some.inj h1
    exact item_listR pl.isList h0 (by omega) (by rw [hj];simpa using ew) fin hs
  · have hj:(i+(its.toArray.size:Int)).toNat=j:=by
      rw [seqIndex_neg (by omega) h4] at h1
      rw [List.size_toArray,← hl]
      exact Option.some.inj h1
    exact subscriptTail_builtinR (x:=w) pl.isList.typeIs slot_list_getitem.lookup
      (wpAny_getItem_list_neg (Q:=fun r s'=>r=w∧EP X pins σ Q r s') pl.isList (by omega) (by rw [List.size_toArray] <;> omega) (by omega) (by rw [hj];simpa using ew) ⟨rfl,fin⟩) hs
theorem qjJ:IxR X (qmp X.K):=by
  intro value slice pins s σ H x y v u Q I rx ry h hs
  obtain ⟨p,xs,i,z,rfl,rfl,hq,he,q⟩:=h
  cases rx
  obtain ⟨t,rfl⟩:=ry
  obtain ⟨its,r,pl,hz⟩:=I.tuple hq
  obtain ⟨j,h1,h2,h3,h4,h5⟩:=qeW he
  obtain ⟨w,ew,rw'⟩:=r.get h2
  have hl:=r.length
  have hn:=qdd
  have fin:EP X pins σ Q w s:=⟨z,H,I,rw',q⟩
  exact subscriptTail_builtinR (x:=w) pl.typeIs slot_tuple_getitem.lookup
    (getItem_tuple (j:=j) (Q:=fun r s'=>r=w∧EP X pins σ Q r s') pl (by omega) (by omega) (by rw [List.size_toArray,← hl];exact h1) (by simpa using ew) ⟨rfl,fin⟩) hs
theorem qjm:IxR X qmt:=by
  intro value slice pins s σ H x y v u Q I rx ry h hs
  obtain ⟨z,i,c,rfl,rfl,hz,he,q⟩:=h
  obtain ⟨t,rfl⟩:=rx
  obtain ⟨t',rfl⟩:=ry
  obtain ⟨j,h1,h2,h3,h4,h5⟩:=qeW he
  have hl:z.cps.toList.length=z.length:=by simp [Str.length]
  rw [hl] at h1 h4 h5
  have hn:=qdd
  exact tail_any (typeIs_str s z t) slot_str_getitem.lookup (getItem_str (c:=c) (by
    have e1:decide (i < -(2 ^ 63:Int))=false:=decide_eq_false (by omega)
    have e2:decide (i≥2 ^ 63)=false:=decide_eq_false (by omega)
    rw [e1,e2,Bool.or_false]) (by rw [h1];simpa using h2) ⟨.str ⟨#[c]⟩,H,I.tok _,⟨_,rfl⟩,q⟩) hs
theorem qfT (its:List Value) (n j:Nat) (u:Value):Obj.mapSeq (·.setIfInBounds j u) { cls:=.type "list",data:=.seq its.toArray n }={ cls:=.type "list",data:=.seq (its.set j u).toArray n }:=by
  simp [Obj.mapSeq]
theorem Inv.lst {pins:List (Addr × Obj)} {σ:St} {H:Hp} {s:Shared} {p:Addr} {xs:List V} (I:Inv X pins σ H s) (h:H p=some (.lst xs)) :
    ∃ (its:List Value) (n:Nat),Vals xs its∧s.heap.get? p=some { cls:=.type "list",data:=.seq its.toArray n }∧xs.length≤sizeLine:=by
  obtain ⟨z,its,n,r,e⟩:=I.hok p _ h
  exact ⟨its,n,r,e,z⟩
theorem Inv.lstUpd {pins:List (Addr × Obj)} {σ:St} {H:Hp} {s:Shared} {p:Addr} {xs ys:List V} {its its':List Value} {n n':Nat} {f:Obj→Obj} (I:Inv X pins σ H s) (h:H p=some (.lst xs))
    (ho:s.heap.get? p=some { cls:=.type "list",data:=.seq its.toArray n }) (hf:f { cls:=.type "list",data:=.seq its.toArray n }={ cls:=.type "list",data:=.seq its'.toArray n' }) (r:Vals ys its') (hz:ys.length≤sizeLine) (t:Nat) :
    Inv X pins σ (upd H p (.lst ys)) { s with heap:=s.heap.update p f,toks:=t }:=by
  have e:(s.heap.update p f).get? p=some { cls:=.type "list",data:=.seq its'.toArray n' }:=by
    rw [Heap.get?_update_self f ho (by rw [hf] <;> rfl),hf]
  refine I.write (x:=p) (e:=p) (by rw [h];trivial) (.inl rfl) (fun b u hb q=>(Heap.get?_update_other _ _ (Ne.symm hb)).trans q) ⟨_,e⟩ ?_
  exact ⟨hz,its',n',r,e⟩
def qkD:V→V→V→Hp→(Hp→Prop)→Prop:=fun o i v H Q=>∃ p xs k j,o=.ref p∧i=.int k∧H p=some (.lst xs)∧ixN xs.length k=some j∧Q (upd H p (.lst (xs.set j v)))
theorem qbg:qlm X qkD:=by
  intro pins s σ H o i v ov iv u Q I ro ri rv h
  obtain ⟨p,xs,k,j,rfl,rfl,hp,hj,q⟩:=h
  cases ro
  obtain ⟨t,rfl⟩:=ri
  obtain ⟨its,n,r,ho,hz⟩:=I.lst hp
  obtain ⟨h1,h2,h3,h4⟩:=qgj hj
  have hl:=r.length
  have hn:=qdd
  have I':Inv X pins σ (upd H p (.lst (xs.set j v))) { s with heap:=s.heap.update p (Obj.mapSeq (·.setIfInBounds j u)) } :=
    I.lstUpd hp ho (qfT its n j u) (r.set rv j) (by rw [List.length_set];exact hz) s.toks
  by_cases h0:0≤k
  · have hk:k.toNat=j:=by
      rw [seqIndex_of h0 h4] at h1
      exact Option.some.inj h1
    exact PySem.W.ki_setAt ho h0 (by omega) (by rw [List.size_toArray,← hl];exact h4) (by rw [hk];exact ⟨_,I',q⟩)
  · have hk:(k+(its.toArray.size:Int)).toNat=j:=by
      rw [seqIndex_neg (by omega) h3] at h1
      rw [List.size_toArray,← hl]
      exact Option.some.inj h1
    exact PySem.W.ki_setBack ho (by omega) (by rw [List.size_toArray,← hl];exact h3) (by omega) (by rw [hk];exact ⟨_,I',q⟩)
theorem qeA (lo hi:Option Int) (n:Nat):(sliceBounds lo hi none n).1=((HT.sIx n 0 lo:Nat):Int)∧(sliceBounds lo hi none n).2.1=((HT.sIx n n hi:Nat):Int)∧(sliceBounds lo hi none n).2.2=1:=by
  refine ⟨?_,?_,rfl⟩
  · cases lo with
    | none=>simp [sliceBounds,HT.sIx]
    | some i =>
      simp only [sliceBounds,HT.sIx,Option.getD_none,show (1:Int)>0 by decide,if_true]
      by_cases h:i<0
      · simp only [h,if_true] <;> omega
      · simp only [h,if_false] <;> omega
  · cases hi with
    | none=>simp [sliceBounds,HT.sIx]
    | some i =>
      simp only [sliceBounds,HT.sIx,Option.getD_none,show (1:Int)>0 by decide,if_true]
      by_cases h:i<0
      · simp only [h,if_true] <;> omega
      · simp only [h,if_false] <;> omega
theorem qdG (its:List Value) (lo hi:Option Int):slicePick its.toArray lo hi none=((its.drop (HT.sIx its.length 0 lo)).take (HT.sIx its.length its.length hi - HT.sIx its.length 0 lo)).toArray:=by
  obtain ⟨h1,h2,h3⟩:=qeA lo hi its.toArray.size
  unfold slicePick
  rw [h1,h2,h3]
  simp only [sliceRange_one,pick_run,List.size_toArray] <;> rfl
def qlD (K:PySem.W.Frag):V→Option Int→Option Int→Hp→VK→Prop:=fun x lo hi H Q=>∃ a xs,x=.ref a∧SqL K H a xs∧∀ p,H p=none→Q (.ref p) (upd H p (.lst (qhm xs lo hi)))
theorem sl_list:SlR X (qlD X.K):=by
  intro pins s σ H x v vl vu lo hi sl Q I rx hs pl pu h
  obtain ⟨a,xs,rfl,hx,q⟩:=h
  cases rx
  obtain ⟨its,r,ht,hz⟩:=I.list hx
  have hlen:=r.length
  refine ⟨"list",_,slot_list_getitem.lookup,ht.isList.typeIs,?_⟩
  refine wpAny_getItem_list_slice ht.isList hs pl pu .none (by simp) ?_ (by rw [List.size_toArray] <;> omega)
  rw [qdG,← hlen]
  refine ⟨.ref s.heap.objs.size,_,I.laid (t':=s.toks) (o:=.lst (qhm xs lo hi)) (fun b ob q=>Heap.get?_push_of_some _ q) (Nat.le_refl _) ?_,rfl,q _ (I.hok.fresh (Nat.le_refl _))⟩
  exact ⟨Nat.le_trans (qcZ xs lo hi) hz,_,0,(r.drop (HT.sIx xs.length 0 lo)).take (HT.sIx xs.length xs.length hi - HT.sIx xs.length 0 lo),Heap.get?_push_size _ rfl⟩
theorem qa2:qcc X (.builtin "len") (fun xs H Q=>∃ p ys,xs=[.ref p]∧(SqL X.K H p ys∨SqT X.K H p ys)∧Q (.int ys.length) H):=by
  intro pins s σ H xs us Q I r h
  obtain ⟨p,ys,rfl,hq,q⟩:=h
  obtain ⟨u,rfl,rx⟩:=qeJ r
  cases rx
  have hn:=qdd
  rcases hq with hq | hq
  · obtain ⟨its,r',pl,hz⟩:=I.list hq
    have hlen:=r'.length
    exact Calls.call_len_list pl.isList (by simp only [List.size_toArray] <;> omega) ⟨.int ys.length,H,I.tok _,⟨s.toks+1,by rw [List.size_toArray,hlen]⟩,q⟩
  · obtain ⟨its,r',pl,hz⟩:=I.tuple hq
    have hlen:=r'.length
    exact len_tuple pl (by simp only [List.size_toArray] <;> omega) ⟨.int ys.length,H,I.tok _,⟨s.toks+1,by rw [List.size_toArray,hlen]⟩,q⟩
theorem qep:qcc X (.builtin "len") (fun xs H Q=>∃ z,xs=[.str z]∧z.length≤sizeLine∧Q (.int z.length) H):=by
  intro pins s σ H xs us Q I r h
  obtain ⟨z,rfl,hz,q⟩:=h
  obtain ⟨u,rfl,t,rfl⟩:=qeJ r
  have hn:=qdd
  exact len_str (by omega) ⟨.int z.length,H,I.tok _,⟨_,rfl⟩,q⟩
theorem qcr:qcc X (.type "list") (fun xs H Q=>∃ p ys,xs=[.ref p]∧(SqL X.K H p ys∨SqT X.K H p ys)∧∀ l,H l=none→Q (.ref l) (upd H l (.lst ys))):=by
  intro pins s σ H xs us Q I r h
  obtain ⟨p,ys,rfl,hq,q⟩:=h
  obtain ⟨u,rfl,rx⟩:=qeJ r
  cases rx
  have fin:∀ (its:List Value),Vals ys its→ys.length≤sizeLine→∀ (h':Heap) (c':Nat),(∀ b o',s.heap.get? b=some o'→h'.get? b=some o') →
      h'.get? s.heap.objs.size=some { cls:=.type "list",dict:=none,data:=.seq its.toArray c',slots:=#[] }→EP X pins σ Q (.ref s.heap.objs.size) { s with heap:=h' }:=fun its r' hz h' c' kp e =>
    ⟨.ref s.heap.objs.size,_,I.laid (t':=s.toks) kp (Nat.le_refl _) (show ObjOk X.prog X.w _ h' _ (.lst ys) from ⟨hz,its,c',r',e⟩),rfl,q _ (I.hok.fresh (Nat.le_refl _))⟩
  rcases hq with hq | hq
  · obtain ⟨its,r',pl,hz⟩:=I.list hq
    have hlen:=r'.length
    obtain ⟨o,ho,hc,n,hd⟩:=pl.isList
    exact call_list_seq p (.inl rfl) ho hc hd (fun h' c' kp e=>fin its r' hz h' c' kp e) (by simp only [List.size_toArray] <;> omega)
  · obtain ⟨its,r',pl,hz⟩:=I.tuple hq
    have hlen:=r'.length
    obtain ⟨o,ho,hc,n,hd⟩:=pl
    exact call_list_seq p (.inr rfl) ho hc hd (fun h' c' kp e=>fin its r' hz h' c' kp e) (by simp only [List.size_toArray] <;> omega)
theorem qaQ:qcc X (.type "tuple") (fun xs H Q=>∃ p ys,xs=[.ref p]∧((SqL X.K H p ys∧∀ l,H l=none→Q (.ref l) (upd H l (.tup ys)))∨(SqT X.K H p ys∧Q (.ref p) H))):=by
  intro pins s σ H xs us Q I r h
  obtain ⟨p,ys,rfl,h⟩:=h
  obtain ⟨u,rfl,rx⟩:=qeJ r
  cases rx
  rcases h with ⟨hq,q⟩ | ⟨hq,q⟩
  · obtain ⟨its,r',pl,hz⟩:=I.list hq
    have hlen:=r'.length
    refine call_tuple_list pl.isList (fun h' kp=>?_) (by simp only [List.size_toArray] <;> omega)
    have I1:Inv X pins σ H { s with heap:=h' }:=I.kept (t':=s.toks) kp
    have I2:Inv X pins σ (upd H h'.objs.size (.tup ys)) { s with heap:=h'.push { cls:=.type "tuple",data:=.seq its.toArray } } :=
      I1.laid (t':=s.toks) (fun b o e=>Heap.get?_push_of_some _ e) (Nat.le_refl _) (show ObjOk X.prog X.w _ _ _ (.tup ys) from ⟨hz,its,r',IsTupD.new _ _⟩)
    exact ⟨.ref h'.objs.size,_,I2,rfl,q _ (I1.hok.fresh (Nat.le_refl _))⟩
  · obtain ⟨its,r',pl,hz⟩:=I.tuple hq
    exact call_tuple_same pl ⟨.ref p,H,I,rfl,q⟩
def tyV (K:PySem.W.Frag) (T:String) (x:V) (H:Hp):Prop:=match x with
  | .str _=>T="str"
  | .int _=>T="int"
  | .ref p=>(T="list"∧∃ xs,SqL K H p xs)∨(T="tuple"∧((∃ xs,H p=some (.tup xs))∨∃ o,K.lookup p=some o∧o.cls=.type "tuple"∧o.dict=none)) ∨
      (T="dict"∧((∃ kvs,H p=some (.dK kvs))∨∃ kvs,H p=some (.dT kvs)))∨(T="set"∧∃ S n,H p=some (.set S n))
  | _=>False
theorem qkm {pins:List (Addr × Obj)} {σ:St} {H:Hp} {s:Shared} {T:String} {x:V} {v:Value} (I:Inv X pins σ H s) (r:RelV x v) (ty:tyV X.K T x H) :
    s.TypeIs v T∧∀ a,v=.ref a→∃ ob,s.heap.get? a=some ob∧ob.dict=none:=by
  cases x with
  | str z =>
    obtain ⟨t,rfl⟩:=r
    cases (show T="str" from ty)
    exact ⟨typeIs_str s z t,fun _ e=>nomatch e⟩
  | int i =>
    obtain ⟨t,rfl⟩:=r
    cases (show T="int" from ty)
    exact ⟨typeIs_int s i t,fun _ e=>nomatch e⟩
  | ref p =>
    cases r
    rcases ty with ⟨rfl,xs,hq⟩ | ⟨rfl,⟨xs,hk⟩ | ⟨o,hk,hc,hd⟩⟩ | ⟨rfl,hk⟩ | ⟨rfl,S,n,hk⟩
    · obtain ⟨its,_,pl,_⟩:=I.list hq
      refine ⟨pl.isList.typeIs,fun a e=>?_⟩
      cases e
      obtain ⟨o,n,e,c,hd,_⟩:=pl
      exact ⟨o,e,hd⟩
    · obtain ⟨_,_,_,o,e,⟨c,hd⟩,_⟩:=I.hok p _ hk
      refine ⟨⟨o,e,c⟩,fun a e2=>?_⟩
      cases e2
      exact ⟨o,e,hd⟩
    · refine ⟨⟨o,I.kIn p o hk,hc⟩,fun a e=>?_⟩
      cases e
      exact ⟨o,I.kIn _ o hk,hd⟩
    · have z:∃ o,s.heap.get? p=some o∧o.ExactDict:=by
        rcases hk with ⟨kvs,hk⟩ | ⟨kvs,hk⟩
        · obtain ⟨_,_,_,_,o,_,_,e,ex,_⟩:=I.hok p _ hk
          exact ⟨o,e,ex⟩
        · obtain ⟨_,_,_,_,o,_,_,e,ex,_⟩:=I.hok p _ hk
          exact ⟨o,e,ex⟩
      obtain ⟨o,e,ex⟩:=z
      refine ⟨⟨o,e,ex.1⟩,fun a e2=>?_⟩
      cases e2
      exact ⟨o,e,ex.2.1⟩
    · obtain ⟨o,_,_,_,e,ex,_⟩:=I.hok p _ hk
      refine ⟨⟨o,e,ex.1⟩,fun a e2=>?_⟩
      cases e2
      exact ⟨o,e,ex.2.1⟩
  | _=>exact False.elim ty
def tBM (K:PySem.W.Frag) (T:String) (r:V→List V→Hp→VK→Prop) (to:TE) (t:TA):TE:=fun σ H Q=>to σ H fun x H1=>tyV K T x H1∧t σ H1 fun xs H2=>r x xs H2 Q
variable {o e : Expr} {es : List Expr} {to : TE} {t : TA} {name : Str} {apos cpos : Pos} {T id : String} {r : V → List V → Hp → VK → Prop}
theorem qkT (pa:PlainAttrs T) (slot:Slot T name id) (hty:typeOf (.builtin id)=pure (.type "method_descriptor")) (hm:MtR X id r) (ho:PE X o to) (ha:PA X (e::es) t)
    (hbase:attributeBase o name X.env (eval o X.env)=eval o X.env:=by rfl)
    (hfew:((backTo cpos (starEach (e::es) X.env)).all (fun x=>!x.1) && (backToKw cpos (keywordEach [] X.env)).all (fun x=>x.1.isSome)
      && decide ((e::es).length+([]:List Keyword).length+(if ([]:List Keyword).isEmpty then 0 else 1)<30))=true:=by rfl)
    (hline:(apos.endLine == cpos.line)=true:=by rfl) (hs:starEach (e::es) X.env=(false,eval e X.env)::starEach es X.env:=by rfl) (hplain:(backTo cpos (starEach es X.env)).any (·.1)=false:=by rfl) :
    PE X (.Call (.Attribute o name apos) (e::es) [] cpos) (tBM X.K T r to t):=by
  intro pins s σ H Q I h
  refine wpAny_Call_method_late hbase hfew hline rfl (thn (ho pins s σ H _ I h) fun v s1 hq0=>?_)
  obtain ⟨x,H1,I1,r1,ty,q1⟩:=hq0
  obtain ⟨h1,h2⟩:=qkm I1 r1 ty
  refine ⟨T,id,pa,slot,hty,h1,h2,?_⟩
  have hA:=ha cpos pins s1 σ H1 _ I1 q1
  rw [hs] at hA ⊢
  refine Calls.callWith_builtin (by show (false || (backTo cpos (starEach es X.env)).any (·.1))=false;rw [hplain] <;> rfl) (Calls.evalArgs_plain ?_)
  exact thn hA fun us s2 hq1=>by obtain ⟨vs,H2,I2,r2,q2⟩:=hq1;exact hm pins s2 σ H2 x vs v us Q I2 r1 r2 q2
end
def MtM (X:Cx) (id:String) (r:V→List V→Hp→VK→Prop):Prop :=
  ∀ (pins:List (Addr × Obj)) (s:Shared) (σ:St) (H:Hp) (x:V) (xs:List V) (v:Value) (us:List Value) (Q:VK),Inv X pins σ H s→RelV x v→Vals xs us→r x xs H Q →
    wpAny (model X.prog X.w) X.A (call (.builtin id) (v::us)) (EP X pins σ Q) X.xe s
theorem Vals.one:∀ {x:V} {us:List Value},Vals [x] us→∃ u,us=[u]∧RelV x u
  | _,_,.cons r .nil=>⟨_,rfl,r⟩
theorem Vals.rep {xs:List V} {us:List Value} (h:Vals xs us):∀ k:Nat,Vals (List.replicate k xs).flatten (List.replicate k us).flatten
  | 0=>.nil
  | k+1=>by
    rw [List.replicate_succ,List.replicate_succ,List.flatten_cons,List.flatten_cons]
    exact Vals.append h (Vals.rep h k)
theorem qc0 (its:List Value):∀ (k:Nat) (acc:List Value),
    List.foldl (fun x1 x2=>x1++x2) acc.toArray (List.replicate k its.toArray)=(acc++(List.replicate k its).flatten).toArray
  | 0,acc=>by simp
  | k+1,acc=>by
    have e:acc.toArray++its.toArray=(acc++its).toArray:=by simp
    have e2:(acc++its)++(List.replicate k its).flatten=acc++(List.replicate (k+1) its).flatten:=by
      rw [List.replicate_succ,List.flatten_cons,List.append_assoc]
    rw [← e2,← qc0 its k (acc++its),← e,List.replicate_succ,List.foldl_cons]
section
variable {X : Cx} {pins : List (Addr × Obj)} {σ : St} {H : Hp} {s : Shared} {l b : Addr} {xs ys zs : List V}
theorem Inv.lset {its its':List Value} {n:Nat} {f:Array Value→Array Value} {t':Nat} (I:Inv X pins σ H s) (hH:H l=some (.lst xs))
    (e:s.heap.get? l=some { cls:=.type "list",data:=.seq its.toArray n }) (hf:f its.toArray=its'.toArray) (hv:Vals ys its') (hz:ys.length≤sizeLine) :
    Inv X pins σ (upd H l (.lst ys)) { s with heap:=s.heap.update l (Obj.mapSeq f),toks:=t' }:=by
  have q:=PySem.IsL.update e f
  rw [hf] at q
  refine I.write (x:=l) (e:=l) (by rw [hH];exact trivial) (.inl rfl) (fun b' u hb hu=>(Heap.get?_update_other s.heap (Obj.mapSeq f) (Ne.symm hb)).trans hu) ⟨_,q⟩ ?_
  exact ⟨hz,its',_,hv,q⟩
theorem Inv.lnew {its:List Value} {t':Nat} (I:Inv X pins σ H s) (hv:Vals ys its) (hz:ys.length≤sizeLine) :
    Inv X pins σ (upd H s.heap.objs.size (.lst ys)) { s with heap:=s.heap.push { cls:=.type "list",data:=.seq its.toArray },toks:=t' } :=
  I.laid (fun _ _ q=>Heap.get?_push_of_some _ q) (Nat.le_refl _) ⟨hz,its,0,hv,Heap.get?_push_size _ rfl⟩
theorem Inv.fresh (I:Inv X pins σ H s):H s.heap.objs.size=none:=I.hok.fresh (Nat.le_refl _)
theorem Inv.lstM (I:Inv X pins σ H s) (hH:H l=some (.lst xs)):xs.length≤sizeLine∧∃ (its:List Value) (n:Nat),Vals xs its∧xs.length=its.length∧s.heap.get? l=some { cls:=.type "list",data:=.seq its.toArray n }:=by
  obtain ⟨z,its,n,r,e⟩:=I.hok l _ hH
  exact ⟨z,its,n,r,r.length,e⟩
theorem qhC {n:Nat} (h:n≤sizeLine):Builtin.List.listTooLong n=false:=by
  unfold Builtin.List.listTooLong
  exact decide_eq_false (by omega)
end
section
variable {X : Cx}
def qiO:V→List V→Hp→VK→Prop:=fun x vs H Q=>∃ l xs y,x=.ref l∧vs=[y]∧H l=some (.lst xs)∧xs.length<sizeLine∧Q .non (upd H l (.lst (xs++[y])))
theorem qea:MtM X "list.append" qiO:=by
  intro pins s σ H x vs v us Q I rx rv h
  obtain ⟨l,xs,y,rfl,rfl,hH,hz,q⟩:=h
  cases rx
  obtain ⟨u,rfl,ru⟩:=rv.one
  obtain ⟨z,its,n,r,hl,e⟩:=I.lstM hH
  refine call_meets F.slot_list_append ⟨_,e,rfl⟩ F.entry_list_append (F.args_list_append_2 _ _) (PySem.list_append l its.toArray n u (by rw [List.size_toArray];omega)) ⟨e,?_⟩
  refine ⟨.non,_,I.lset (its':=its++[u]) hH e (by simp) (r.append (.cons ru .nil)) ?_,rfl,q⟩
  rw [List.length_append,List.length_singleton]
  omega
def qmz:R2:=fun x y H Q=>∃ l b xs zs,x=.ref l∧y=.ref b∧H l=some (.lst xs)∧H b=some (.lst zs)∧xs.length+zs.length≤sizeLine∧∀ p,H p=none→Q (.ref p) (upd H p (.lst (xs++zs)))
theorem qih:OpR X (binaryOp .Add) qmz:=by
  intro pins s σ H x y v u Q I rx ry h
  obtain ⟨l,b,xs,zs,rfl,rfl,hH,hB,hz,q⟩:=h
  cases rx
  cases ry
  obtain ⟨z,its,n,r,hl,e⟩:=I.lstM hH
  obtain ⟨z2,its2,n2,r2,hl2,e2⟩:=I.lstM hB
  refine PySem.P.add_list e e2 ?_ (by rw [List.size_toArray,List.size_toArray];omega)
  have ea:its.toArray++its2.toArray=(its++its2).toArray:=by simp
  rw [ea]
  exact ⟨.ref _,_,I.lnew (t':=s.toks) (r.append r2) (by rw [List.length_append];omega),rfl,q _ I.fresh⟩
def qlT:R2:=fun x y H Q=>∃ l k xs,x=.ref l∧y=.int k∧H l=some (.lst xs)∧-(2 ^ 63)≤k∧k<2 ^ 63∧xs.length*k.toNat≤sizeLine ∧
  ∀ p,H p=none→Q (.ref p) (upd H p (.lst (List.replicate k.toNat xs).flatten))
theorem qeI {α:Type} (xs:List α) (k:Nat):(List.replicate k xs).flatten.length=k*xs.length:=by
  induction k with
  | zero=>simp
  | succ k ih=>rw [List.replicate_succ,List.flatten_cons,List.length_append,ih,Nat.succ_mul,Nat.add_comm]
theorem qic:OpR X (binaryOp .Mult) qlT:=by
  intro pins s σ H x y v u Q I rx ry h
  obtain ⟨l,k,xs,rfl,rfl,hH,h1,h2,hz,q⟩:=h
  cases rx
  obtain ⟨t,rfl⟩:=ry
  obtain ⟨z,its,n,r,hl,e⟩:=I.lstM hH
  have hlen:its.toArray.size*k.toNat≤sizeLine:=by rw [List.size_toArray,← hl];exact hz
  have hcap:¬ its.toArray.size*k.toNat>(2 ^ 63 - 1) / 8:=by
    have:(sizeLine:Nat)≤(2 ^ 63 - 1) / 8:=by decide
    omega
  have hfit:¬ (!Builtin.List.listFitsIndex k)=true:=by
    rw [fitsIndex_both h1 h2]
    exact Bool.false_ne_true
  have hlong:¬ Builtin.List.listTooLong (its.toArray.size*k.toNat)=true:=by
    rw [qhC hlen]
    exact Bool.false_ne_true
  have hnew:List.foldl (fun x1 x2=>x1++x2) #[] (List.replicate (if its.toArray.isEmpty=true then 0 else k.toNat) its.toArray)=(List.replicate k.toNat its).flatten.toArray:=by
    have f0:∀ m:Nat,List.foldl (fun x1 x2=>x1++x2) #[] (List.replicate m its.toArray)=(List.replicate m its).flatten.toArray:=fun m=>by
      have:=qc0 its m []
      rw [List.nil_append] at this
      exact this
    rw [f0]
    cases its with
    | nil=>simp
    | cons a r'=>rw [if_neg (by simp)]
  refine wpAny_binaryOp_repeat_ref (T:="list") (U:="int") (by decide) ⟨_,e,rfl⟩ (fun s'=>typeIs_int s' k t) noFill_list_mul F.fills_int_mul F.slot_int_rmul repeat_list F.slot_int_index.lookup
    (call_meets F.slot_int_rmul (typeIs_int s k t) F.entry_int_rmul (F.args_int_rmul_2 _ _) (int___rmul___int_list k t l its.toArray n)
      ⟨e,rfl,⟨_,e,rfl⟩,call_meets F.slot_list_mul ⟨_,e,rfl⟩ F.entry_list_mul (F.args_list_mul_2 _ _) (AutoListH.list___mul___list_int_3 l its.toArray n k t hfit hcap hlong) ⟨e,?_⟩⟩)
  rw [hnew]
  exact ⟨.ref _,_,I.lnew (t':=s.toks) (r.rep k.toNat) (by rw [qeI,Nat.mul_comm];exact hz),rfl,q _ I.fresh⟩
end
section
variable {prog : Program} {w : World} {A : Around} {E : Value → Shared → Prop} {s : Shared}
end
section
variable {X : Cx}
end
end L2
namespace Att
open PySem PySem.W PySem.Calls PyProof.Rows
theorem qc1 {P:Params} {h:Heap}:∀ (ns:List Int) (vs:List Value),WellAll P h vs (ns.map WData.int)→IntsAre vs ns:=by
  intro ns
  induction ns with
  | nil =>
    intro vs w
    rw [List.map_nil] at w
    cases w
    exact .nil
  | cons n ns ih =>
    intro vs w
    rw [List.map_cons] at w
    cases w with
    | cons a b =>
      cases a
      exact .cons _ _ (ih _ b)
theorem qfZ {l:OpenLaw} {n:Nat} (hn:l.most=some n) {P:Params} {h:Heap} {args:List WData} {vals:List Value}
    (hpre:l.row.toRowW.claim.pre args=true) (hwl:WellAll P h vals args) :
    ∃ a vs ns,vals=[Value.ref a]∧args=[WData.list (ns.map WData.int)]∧h.get? a=some { cls:=.type "list",data:=.seq vs.toArray }∧IntsAre vs ns∧ns.length≤n:=by
  have hsh:WShape.hasAll [] args [.list .int]=true:=(pre_splitW hpre).1
  have hc:l.pre.holds [] { args:=args }=true:=(pre_splitW hpre).2
  obtain ⟨d,r,rfl,h1,h2⟩:=hasAllW_cons hsh
  obtain rfl:=hasAllW_nil h2
  obtain ⟨xs,rfl,h3⟩:=hasW_list h1
  obtain ⟨ns,rfl⟩:=items_int h3
  have hlen:ns.length≤n:=by
    unfold OpenLaw.pre at hc
    have h4:(WTm.not (.lt (.lit (.int (n:Int))) (.len (.arg 0)))).holds [] { args:=[.list (ns.map .int)] }=true:=by
      have h4:=(holds_andW hc).1
      rw [hn] at h4
      exact h4
    have h5:=condW_of h4 (w_not (w_lt w_lit (w_len_list (w_arg rfl))))
    rw [List.length_map] at h5
    refine Nat.le_of_not_lt fun q=>?_
    have q':(n:Int)<((ns.length:Nat):Int):=by omega
    first
      | (rw [decide_eq_true q'] at h5;exact absurd h5 (by decide))
      | (simp at h5;omega)
  cases hwl with
  | cons w1 w2 =>
    cases w2
    cases w1 with
    | list ho hall=>exact ⟨_,_,ns,rfl,rfl,ho,qc1 ns _ hall,hlen⟩
theorem qge (l:OpenLaw) (args:List WData):l.row.toRowW.claim.post args (.bool true) args=true :=
  postW_of (r:=l.row.toRowW) (X:=(true == true))
    (show WShape.has [] (.bool true) .bool=true by first | rfl | decide | simp [WShape.has,WShape.arms,WShape.armsAll])
    (show (WTm.eq .res (.lit (.bool true))).value [] { args:=args,res:=some (.bool true),after:=args }=some (.bool (true == true)) from w_eq_bool (w_res rfl) w_lit) rfl
theorem attach_call {l:OpenLaw} {n:Nat} {q:Program} {loose:List Str} {XP:(Str→Option Value)→Heap→Prop} {YP:World→Heap→Prop} {d:DefRec}
    (hn:l.most=some n) (hdf:d.params.defaults=[])
    (call:∀ (w:World) (s₀ s₁:Shared) (mg mb:Str→Option Value) (fa:Addr) (o:Obj) (pm cd doc:Value) (a:Addr) (vs:List Value) (ns:List Int),
      Ground q loose [] XP w s₀ mg mb s₁.heap→YP w s₁.heap →
      s₁.heap.get? fa=some o→o.data=.func (docDef d.name d.params d.body d.scope pm cd doc)→s₁.heap.CodeRec cd d.name→mg d.name=some (.ref fa) →
      s₁.heap.get? a=some { cls:=.type "list",data:=.seq vs.toArray }→IntsAre vs ns→ns.length≤n→s₁.gens=#[] →
      codeAny (model l.prog w) callerA (.call (.ref fa) ⟨[.ref a],[]⟩) (fun r s'=>r=.ok (.ret (.bool true))∧OldK s₁.heap s'.heap∧s'.os=s₁.os∧AllBare s'.gens) s₁) :
    WalkO q loose XP YP l.row.toRowW d [] (fun f vs=>PySem.call f vs):=by
  intro w s₀ s₁ mg mb G Y fa o pm cd doc dV kV ho hd hcd hD hmg hg args vals as hpre hlay hrd hwl hlo
  obtain rfl:dV=.none:=Dflts.none hD hdf
  obtain rfl:kV=.none:=Dflts.noKw hD
  obtain ⟨a,vs,ns,rfl,rfl,hobj,hints,hlen⟩:=qfZ hn hpre hwl
  refine enter_call (codeAny_mono (call w s₀ s₁ mg mb fa o pm cd doc a vs ns G Y ho (fd_plain hd) hcd hmg hobj hints hlen hg) fun r s' hq=>?_)
  obtain ⟨rfl,h2,h3,h4⟩:=hq
  exact ⟨.inl ⟨.bool true,.bool true,[],rfl,fun _=>rfl,.bool true,qge l _,fun _=>⟨List.Pairwise.nil,fun _ hm=>(nomatch hm)⟩⟩,h2,h3,h4⟩
section
variable {prog : Program} {w : World} {A : Around} {E : Value → Shared → Prop} {s : Shared} {K : Frag}
def noObjs (h:Heap):Heap:={ h with objs:=#[] }
theorem noObjs_get (h:Heap) (b:Addr):(noObjs h).get? b=none:=by
  cases e:(noObjs h).get? b with
  | none=>rfl
  | some o=>exact absurd (Heap.lt_size e) (Nat.not_lt_zero _)
theorem fr_all {h:Heap} {L:Addr} {m:Str→Option Value} (n:h.Ns L m):Fr (noObjs h) L h m :=
  ⟨n,fun b o e=>(by rw [noObjs_get] at e;cases e),Nat.zero_le _⟩
end
end Att
namespace L2
open PySem PySem.Spec PyProof.Rows
theorem qd8:∀ {vs:List Value} {ns:List Int},IntsAre vs ns→Vals (ns.map V.int) vs
  | _,_,.nil=>.nil
  | _,_,.cons n t h=>.cons ⟨t,rfl⟩ (qd8 h)
end L2
/- THE LAST THEOREM (shape;LID,My.* are yours):
   My.Adr: a structure of the addresses that your layer names (classes,functions);My.Txt K t: a structure (Prop) of the equations over K;
   My.txt_mk:{K} {implicit addresses ..} (e1:nsIn K mainGlobals "law"=some (some (.ref f))) (e2:K.lookup f=some ⟨oc,od,.func (fnOf "law" "law" params body scope dV kV doc pm an cdv ct),sl⟩) (e3:codeIn K cdv "law"=true) ..:∃ t,My.Txt K t
set_option maxRecDepth 100000 in
set_option maxHeartbeats 0 in
theorem PySem.Challenge.cw_LID_holds : PySem.Challenge.rw_LID.Holds := by
  w_on;o_law;k_head;(case hw=>w_witness2)
  k_fill
  refine L2.walk_of (l:=PySem.Challenge.rw_LID) (n:=63) (k:=40) (x:="script") (CX:=fun w=>..) (sp:=fun _=>My.sp_law) rfl (by decide) rfl ⟨rfl,by decide,by decide⟩ (fun w h Y=>PySem.W.kIn_of Y) ?F ?S ?C
  case F =>
    intro w mg fa h KX G hmg
    have T:∃ t,My.Txt (L2.KOf KX) t:=by
      dsimp only [L2.KOf]                          -- K must stand as «<heap const> w.params» for k_is
      refine' My.txt_mk ?e1 ?e2 ?e3 ..
      (case e1=>PySem.W.k_is)                    -- in the order: a name -> its address -> its object -> its parts
      (case e2=>PySem.W.k_is)
      ..
    obtain ⟨t,T⟩:=T
    have e0:=hmg.symm.trans (PySem.W.mg_of KX G T.law)
    cases e0                                       -- fa is the law's own address
    exact ⟨_,fun s u=>.of_eq rfl,fun base kb nb=>My.law_fn T kb nb⟩     -- if «.of_eq rfl» comes too early: refine' ⟨_,?b,fun base kb nb=>My.law_fn T kb nb⟩;exact fun s u=>.of_eq rfl
  case S=>exact fun w H a ns hl hO hS=>..
  case C=>exact ..
(the tactic k_is has no namespace: write k_is) -/
namespace L2
open PySem PySem.Spec PyProof.Rows
def qcd (s:Stmt) (j:Nat):Stmt:=match s with
  | .ClassDef _ _ _ body _ _ _ _ _ _ _=>body.getD j (.Pass ⟨0,0,0,0⟩)
  | _=>.Pass ⟨0,0,0,0⟩
def qaW (s:Stmt):Arguments:=match s with
  | .FunctionDef _ a _ _ _ _ _ _ _ _=>a
  | _=>{ posonlyargs:=[],args:=[],vararg:=none,kwonlyargs:=[],kw_defaults:=[],kwarg:=none,defaults:=[] }
def qaI (s:Stmt):List Stmt:=match s with
  | .FunctionDef _ _ b _ _ _ _ _ _ _=>b
  | _=>[]
def qab (s:Stmt):Scope:=match s with
  | .FunctionDef _ _ _ _ _ _ sc _ _ _=>sc
  | _=>{ kind:=.function,names:=[],isGenerator:=false,isCoroutine:=false }
abbrev CX0:CXT:=fun _ _ _ _ _ _=>False
abbrev E0:XK:=fun _ _ _=>False
theorem qcg {X:Cx}:qcV CX0 X E0:=fun _ _ _ _ _ _ _ h=>h.elim
structure Fun (K:PySem.W.Frag) (x qual:Str) (st:Stmt) (f:Addr) (fd:FuncData):Prop where
  ex:∃ (oc:Value) (od:Option Addr) (kV doc pm:Value) (an:Option Addr) (cdv ct:Value) (osl:Array (Option Value)),
    fd=PySem.W.fnOf x qual (qaW st) (qaI st) (qab st) .none kV doc pm an cdv ct∧K.lookup f=some ⟨oc,od,.func fd,osl⟩∧PySem.W.codeIn K cdv qual=true
  kp:PySem.W.keepIn K (.ref f)=true
section
variable {P : Program} {w : World} {K : PySem.W.Frag} {mg : Str → Option Value} {base : Heap}
theorem Fun.ok {x qual:Str} {st:Stmt} {f:Addr} {fd:FuncData} {N ps:List Str} {k:Nat} {sp:Sp} (F:Fun K x qual st f fd) (S:FnScope N ps (qab st)) (len:∀ vs H Q E,sp vs H Q E→vs.length=ps.length)
    (hbody:∀ (cdv:Value) (A:Around) (outer:List Env) (s:Shared) (H:Hp) (vs:List V) (Q:VK) (E:XK),Room k (A.deeper (envOfC qual (qab st) s.heap.objs.size f cdv))→sp vs H Q E →
      ∃ t,PSs (qhV CX0 P w K mg base N qual (qab st) f cdv A outer s H E).nox (qaI st) t∧t { nx:=fun _ H'=>Q .non H',rt:=Q } (start N vs) H):FnOk P w K mg base CX0 (k+1) f fd ps sp:=by
  obtain ⟨oc,od,kV,doc,pm,an,cdv,ct,osl,rfl,lk,hcd⟩:=F.ex
  refine qkh lk hcd S len fun A outer s H vs Q E hr hsp=>?_
  obtain ⟨t,h,q⟩:=hbody cdv A outer s H vs Q E hr hsp
  exact ⟨t,h.nox,q⟩
theorem Fun.binds {x qual:Str} {st:Stmt} {f:Addr} {fd:FuncData} {ps:List Str} (F:Fun K x qual st f fd)
    (h:∀ (kV doc pm:Value) (an:Option Addr) (cdv ct:Value) (us:List Value),us.length=ps.length→bindArgs (PySem.W.fnOf x qual (qaW st) (qaI st) (qab st) .none kV doc pm an cdv ct) ⟨us,[]⟩=pure (ps.zip us)):Binds K fd ps []:=by
  obtain ⟨oc,od,kV,doc,pm,an,cdv,ct,osl,rfl,lk,hcd⟩:=F.ex
  exact .all (h kV doc pm an cdv ct)
theorem qd9 {x qual:Str} {st:Stmt} {f:Addr} {oc:Value} {od an:Option Addr} {osl:Array (Option Value)} {kV doc pm cdv ct:Value} (l:K.lookup f=some ⟨oc,od,.func (PySem.W.fnOf x qual (qaW st) (qaI st) (qab st) .none kV doc pm an cdv ct),osl⟩)
    (c:PySem.W.codeIn K cdv qual=true) (k:PySem.W.keepIn K (.ref f)=true):Fun K x qual st f (PySem.W.fnOf x qual (qaW st) (qaI st) (qab st) .none kV doc pm an cdv ct):=⟨⟨oc,od,kV,doc,pm,an,cdv,ct,osl,rfl,l,c⟩,k⟩
end
theorem qar {n:Nat} (h:n≤1000):n<sizeLine:=Nat.lt_of_le_of_lt h (by decide)
section
variable {X : Cx}
theorem pv (i:Nat) {x:Str} {pos:Pos} (hN:X.N[i]?=some x:=by rfl) (hv:Vis X.env.scope x:=by first | exact Or.inl rfl | exact Or.inr (Or.inl rfl) | exact Or.inr (Or.inr rfl)) (hd:(x == ("__debug__":Str))=false:=by decide)
    (hcd:(x == ("__classdict__":Str))=false:=by decide):PE X (.Name x pos) (qlE i):=qks hN hv hd hcd
end
theorem qlH {A B:Prop} (h:B):if false=true then A else B:=by
  rw [if_neg Bool.false_ne_true]
  exact h
theorem qlr {A B:Prop} (h:A):if true=true then A else B:=by
  rw [if_pos rfl]
  exact h
theorem qkA {c A B:Prop} [Decidable c] (h1:c→A) (h2:¬ c→B):if c then A else B:=by
  by_cases h:c
  · rw [if_pos h]
    exact h1 h
  · rw [if_neg h]
    exact h2 h
def Same (H H':Hp):Prop:=∀ b o,H b=some o→H' b=some o
theorem Same.refl (H:Hp):Same H H:=fun _ _ h=>h
theorem Same.trans {H H1 H2:Hp} (a:Same H H1) (b:Same H1 H2):Same H H2:=fun c o h=>b c o (a c o h)
theorem Same.free {H H':Hp} (e:Same H H') {l:Addr} (h:H' l=Option.none):H l=Option.none:=by
  cases q:H l with
  | none=>rfl
  | some o =>
    rw [e l o q] at h
    cases h
theorem Same.seq {K:PySem.W.Frag} {H H':Hp} {a:Addr} {xs:List V} (e:Same H H') (h:SqL K H a xs):SqL K H' a xs:=by
  rcases h with (h | ⟨o,h⟩) | h
  · exact .inl (.inl (e _ _ h))
  · exact .inl (.inr ⟨o,e _ _ h⟩)
  · exact .inr h
section
variable {κ : Type} [DecidableEq κ]
end
section
variable {P : Program} {w : World} {H : Hp} {h : Heap} {a : Addr}
end
section
variable {X : Cx} {pins : List (Addr × Obj)} {σ : St} {H : Hp} {s : Shared} {a : Addr} {y v : V} {u r : Value} {o : Option V} {A : Around} {E : Value → Shared → Prop}
end
section
variable {X : Cx} {pins : List (Addr × Obj)} {σ : St} {H : Hp} {s : Shared} {a : Addr} {kvs : List (Key × V)} {k : Key} {u : Value} {A : Around} {E : Value → Shared → Prop}
end
section
variable {X : Cx} {o i e value : Expr} {pos pos' tpos : Pos} {td ty tv : TE}
end
section
variable {X : Cx} {pos : Pos}
end
end L2
set_option maxHeartbeats 4000000
namespace L2
open PySem PySem.Spec PyProof.Rows
theorem qfy {env:Env} (names:List (Str × NameKind)) (hf:∀ x∈names,x.2=.free→∃ c,env.cells.lookup x.1=some c):∀ acc:List (Str × Addr),
    ∃ cl:List (Str × Addr),(forIn names acc (fun (x:Str × NameKind) cs=>if (x.2 == .free)=true then do let a ← cellOf env x.1;pure (ForInStep.yield ((x.1,a)::cs)) else pure (ForInStep.yield cs)):Sem (List (Str × Addr)))=pure cl ∧
      (∀ p∈cl,p∈acc∨env.cells.lookup p.1=some p.2)∧(∀ p∈acc,p∈cl)∧∀ x,(x,NameKind.free)∈names→∃ c,(x,c)∈cl:=by
  induction names with
  | nil=>intro acc;exact ⟨acc,rfl,fun p hp=>.inl hp,fun _ hp=>hp,fun x hx=>by simp at hx⟩
  | cons n r ih =>
    intro acc
    obtain ⟨n,k⟩:=n
    have hr:∀ x∈r,x.2=.free→∃ c,env.cells.lookup x.1=some c:=fun x hx=>hf x (List.mem_cons_of_mem _ hx)
    by_cases hk:k=.free
    · subst hk
      obtain ⟨c,hc⟩:=hf (n,.free) List.mem_cons_self rfl
      obtain ⟨cl,e,h1,h2,h3⟩:=ih hr ((n,c)::acc)
      refine ⟨cl,?_,fun p hp=>?_,fun p hp=>h2 p (List.mem_cons_of_mem _ hp),fun x hx=>?_⟩
      · rw [List.forIn_cons,← e]
        have q:cellOf env n=pure c:=by unfold cellOf;rw [hc]
        simp [q]
      · rcases h1 p hp with z | z
        · rcases List.mem_cons.mp z with rfl | z
          · exact .inr hc
          · exact .inl z
        · exact .inr z
      · rcases List.mem_cons.mp hx with z | z
        · cases z;exact ⟨c,h2 _ List.mem_cons_self⟩
        · exact h3 x z
    · obtain ⟨cl,e,h1,h2,h3⟩:=ih hr acc
      refine ⟨cl,?_,h1,h2,fun x hx=>?_⟩
      · rw [List.forIn_cons,← e]
        have q:(k == NameKind.free)=false:=by simpa using hk
        simp [q]
      · rcases List.mem_cons.mp hx with z | z
        · cases z;exact absurd rfl hk
        · exact h3 x z
theorem qdQ {cl:List (Str × Addr)} {cells:List (Str × Addr)} (h:∀ p∈cl,cells.lookup p.1=some p.2):∀ x c,cl.lookup x=some c→cells.lookup x=some c:=fun x c e=>h (x,c) (PySem.mem_of_lookup e)
theorem qfL {cl:List (Str × Addr)} {x:Str} {c:Addr}:(x,c)∈cl→∃ c',cl.lookup x=some c':=by
  induction cl with
  | nil=>intro h;simp at h
  | cons p r ih =>
    intro h
    rw [List.lookup_cons]
    cases e:x == p.1 with
    | true=>exact ⟨_,rfl⟩
    | false =>
      rcases List.mem_cons.mp h with z | z
      · subst z;simp at e
      · exact ih z
theorem qby {scope:Scope} {env:Env} (hf:∀ x∈scope.names,x.2=.free→∃ c,env.cells.lookup x.1=some c) :
    ∃ cl,closureFor scope env=pure cl∧(∀ x c,cl.lookup x=some c→env.cells.lookup x=some c)∧∀ x,(x,NameKind.free)∈scope.names→∃ c,cl.lookup x=some c:=by
  obtain ⟨cl,e,h1,_,h3⟩:=qfy (env:=env) scope.names hf []
  refine ⟨cl,?_,qdQ fun p hp=>(h1 p hp).elim (fun z=>by simp at z) id,fun x hx=>?_⟩
  · unfold closureFor
    simp only
    rw [← e]
    simp
  · obtain ⟨c,hc⟩:=h3 x hx
    exact qfL hc
theorem qbW {env:Env}:∀ {names:List (Str × NameKind)} {x:Str} {k:NameKind},
    (names.map fun (n,k)=>if (k == NameKind.free && env.scope.kind == .function && env.kindOf n == some .cell) then (n,NameKind.cell) else (n,k)).lookup x=some k→(k=.cell∨k=.free)→(x,NameKind.free)∈names∨(x,NameKind.cell)∈names
  | [],_,_,h,_=>by simp at h
  | (n,k)::r,x,kk,h,hk=>by
    have ih:=@qbW env r x kk
    have h:List.lookup x ((if (k == NameKind.free && env.scope.kind == .function && env.kindOf n == some .cell)=true then (n,NameKind.cell) else (n,k))::_)=_:=h
    by_cases hb:(k == NameKind.free && env.scope.kind == .function && env.kindOf n == some .cell)=true
    · rw [if_pos hb] at h
      have kf:k=.free:=by
        simp only [Bool.and_eq_true,beq_iff_eq] at hb
        exact hb.1.1
      rw [List.lookup_cons] at h
      cases e:x == n with
      | true =>
        have:x=n:=by simpa using e
        subst this;subst kf
        exact .inl List.mem_cons_self
      | false =>
        simp only [e] at h
        exact (ih h hk).imp (List.mem_cons_of_mem _) (List.mem_cons_of_mem _)
    · rw [if_neg hb] at h
      rw [List.lookup_cons] at h
      cases e:x == n with
      | true =>
        have kk':k=kk:=by simpa [e] using h
        have:x=n:=by simpa using e
        subst this
        subst kk'
        rcases hk with rfl | rfl
        · exact .inr List.mem_cons_self
        · exact .inl List.mem_cons_self
      | false =>
        simp only [e] at h
        exact (ih h hk).imp (List.mem_cons_of_mem _) (List.mem_cons_of_mem _)
def qaH (X:Cx) (scope:Scope) (N':List Str) (cl:List (Str × Addr)) (C:Addr) (s0:Shared) (H0:Hp) (fp:List Addr):Cx where
  prog:=X.prog
  w:=X.w
  K:=X.K
  mg:=X.mg
  base:=X.base
  A:=X.A
  N:=N'
  s₀:=s0
  H₀:=H0
  env:=compEnvC scope cl C X.env
  outer:=X.stack
  stack:=X.stack
  ex:=fp
  fn:=fun x=>scope.names.lookup x == some .cell
  calm:=X.calm
  pn:=[]
  xe:=fun _ _=>False
def qbG (cap:List (Option Nat)) (σ:St):St:=cap.map fun o=>o.bind fun i=>(σ[i]?).join
structure CompScope (N:List Str) (sc scope:Scope) (N':List Str) (cap:List (Option Nat)):Prop where
  kind:scope.kind=.function
  cel:∀ x∈scope.names,x.2=.cell→scope.names.lookup x.1=some .cell
  names:∀ x∈scope.names,x.2=.local→scope.names.lookup x.1=some .local
  free:∀ x∈scope.names,x.2=.free→sc.names.lookup x.1=some .cell
  fst:∀ x∈scope.names,x.2=.free→scope.names.lookup x.1=some .free
  nd:N'.Nodup
  len:cap.length=N'.length
  at_:∀ p∈cap.zip N',∀ i,p.1=some i→N[i]?=some p.2∧(p.2,NameKind.free)∈scope.names
def qji (X:Cx) (ifs:List Expr) (t:TT):Prop :=
  ∀ (pins:List (Addr × Obj)) (s:Shared) (σ:St) (H:Hp) (Q:Bool→Hp→Prop),Inv X pins σ H s→t σ H Q →
    wpAny (model X.prog X.w) X.A (forIn ifs true fun c r=>if r=true then do let ok ← isTrue c X.env (eval c X.env);pure (ForInStep.yield ok) else pure (ForInStep.yield r)) (TP X pins σ Q) X.xe s
def qmk:TT:=fun _ H Q=>Q true H
theorem qdX {X:Cx}:qji X [] qmk:=fun _ _ _ H _ I h=>wpAny_tests_nil ⟨H,I,h⟩
theorem qhN {X:Cx} {c:Expr} {t:TT} (h:PT X c t):qji X [c] t:=fun pins s σ H Q I hw=>wpAny_tests_one (h pins s σ H Q I hw)
def qe4 (wi:TI) (cap:List (Option Nat)) (g:TG) (tc:TT) (te:TE):TE:=fun σ H Q=>wi σ H fun J H1=>∀ D,H1 D=none→∃ W:Nat→Nat→St→Hp→Prop,(∃ m,W 0 m (qbG cap σ) (upd H1 D (.lst []))) ∧
  ∀ i m σ' H',W i m σ' H'→(J.stop i H'∧Q (.ref D) H')∨(J.go i H'∧∃ N:St→Hp→Prop,(∀ σ2 H2,N σ2 H2→∃ m',m'<m∧W (i+1) m' σ2 H2) ∧
    ∀ x H2,J.yld i H' x H2→g x σ' H2 fun σ3 H3=>tc σ3 H3 fun b H4=>if b=true then te σ3 H4 fun y H5=>∃ ys,H5 D=some (.lst ys)∧ys.length<sizeLine∧N σ3 (upd H5 D (.lst (ys++[y]))) else N σ3 H4)
theorem qe6 {prog:Program} {w:World} {A:Around} {R:Result→Shared→Prop} {s:Shared} {elt target iter:Expr} {ifs:List Expr} {scope:Scope} {pos:Pos} {it acc:Value} {env:Env} (I:Nat→Shared→Prop)
    (turn:∀ n s,I n s→wpAny (model prog w) A (pyNext it) (fun r s₁=>match r with
      | none=>R (.ok .next) s₁
      | some v=>wpAny (model prog w) A (letOwnedTupleGo target it v) (fun _ s₁'=>wpAny (model prog w) A (assign target env v) (fun _ s₂ =>
          wpAny (model prog w) A (forIn ifs true fun c r=>if r=true then do let ok ← isTrue c env (eval c env);pure (ForInStep.yield ok) else pure (ForInStep.yield r)) (fun ok s₃ =>
            if ok=true then wpAny (model prog w) A (eval elt env) (fun x s₄ =>
              wpAny (model prog w) A (call (.builtin "list.append") [acc,x]) (fun _ s₅=>∃ m,m<n∧I m s₅) (fun _ _=>False) s₄) (fun _ _=>False) s₃
            else ∃ m,m<n∧I m s₃) (fun _ _=>False) s₂) (fun _ _=>False) s₁') (fun _ _=>False) s₁) (fun _ _=>False) s)
    (n:Nat) (h:I n s):codeAny (model prog w) A (.compLoop (.ListComp elt [⟨target,iter,ifs,0⟩] scope pos) 0 it acc env) R s:=by
  refine codeAny_loop rfl I (fun n s hI=>?_) n h
  show wpAny _ A ((compTurn (.ListComp elt [⟨target,iter,ifs,0⟩] scope pos) 0 it acc env).onRaise (fun x=>do noteFrame x env;theTreesLotGoes x)) _ _ s
  refine wpAny_noted ?_
  rw [compTurn_list]
  refine wpAny_bind (wpAny_standAt (wpAny_bind (wpAny_mono (turn n s hI) (fun r s₁ h₁=>?_) fun _ _ h'=>h'.elim)))
  cases r with
  | none=>exact wpAny_pure h₁
  | some v =>
    refine wpAny_bind (wpAny_mono h₁ (fun _ s₁' h₁'=>?_) fun _ _ h'=>h'.elim)
    refine wpAny_bind (wpAny_mono h₁' (fun _ s₂ h₂=>wpAny_bind (wpAny_mono h₂ (fun ok s₃ h₃=>?_) fun _ _ h'=>h'.elim)) fun _ _ h'=>h'.elim)
    cases ok with
    | false=>exact wpAny_pure ⟨rfl,h₃⟩
    | true =>
      exact wpAny_bind (wpAny_bind (wpAny_mono h₃ (fun x s₄ h₄=>wpAny_bind (wpAny_mono h₄ (fun _ s₅ h₅=>wpAny_pure (wpAny_pure ⟨rfl,h₅⟩)) fun _ _ h'=>h'.elim)) fun _ _ h'=>h'.elim))
section
variable {X : Cx} {elt tg iter : Expr} {ifs : List Expr} {scope : Scope} {pos : Pos} {N' : List Str} {cap : List (Option Nat)} {wi : TI} {g : TG} {tc : TT} {te : TE}
theorem qaR:∀ (names:List (Str × NameKind)) (n:Nat) (acc:List (Str × Addr)),cellsFrom n names acc=cellsFrom n names []++acc
  | [],_,_=>rfl
  | (x,k)::r,n,acc=>by
    unfold cellsFrom
    split
    · rw [qaR r (n+1) ((x,n)::acc),qaR r (n+1) [(x,n)],List.append_assoc];rfl
    · exact qaR r n acc
theorem qbC:∀ (names:List (Str × NameKind)) (n:Nat) {x:Str} {c:Addr},(x,c)∈cellsFrom n names []→(x,NameKind.cell)∈names
  | [],_,_,_,h=>by simp [cellsFrom] at h
  | (y,k)::r,n,x,c,h=>by
    unfold cellsFrom at h
    split at h
    · rename_i hk
      rw [qaR] at h
      rcases List.mem_append.mp h with h | h
      · exact List.mem_cons_of_mem _ (qbC r _ h)
      · have e:=List.mem_singleton.mp h
        cases e
        have:k=.cell:=by simpa using hk
        subst this
        exact List.mem_cons_self
    · exact List.mem_cons_of_mem _ (qbC r _ h)
theorem qhl {M:Model} {A:Around} {E:Value→Shared→Prop} {s:Shared} {globals:Addr} {cl:List (Str × Addr)} {qual:Str} {outer:Env} {Q:Env→Shared→Prop}
    (hQ:∀ h',h'.Ns s.heap.objs.size (fun _=>none)→(∀ b o,s.heap.get? b=some o→h'.get? b=some o)→CellsOk h' (s.heap.objs.size+1) (cellsFrom (s.heap.objs.size+1) scope.names []) →
      Q { scope:=scope,locals:=s.heap.objs.size,globals:=globals,cells:=cellsFrom (s.heap.objs.size+1) scope.names []++cl,qual:=qual,func:=none,code:=outer.code,frame:=outer.frame,builtins:=outer.builtins } { s with heap:=h' }) :
    wpAny M A (newFunctionEnv scope globals cl [] qual none .none (some outer)) Q E s:=by
  simp only [newFunctionEnv,Option.isSome_some,if_true]
  refine wpAny_bind (wpAny_alloc ?_)
  refine wpAny_bind (wpAny_layCells _ (fun name kind cells=>by cases hkc:kind == NameKind.cell <;> simp [hkc]) _ _ _ _ ?_)
  have ok:=cellsFrom_ok scope.names (s.heap.push { cls:=.type "dict",data:=.dict #[] }) (s.heap.objs.size+1) [] ⟨fun _ _ hm=>(nomatch hm),List.Pairwise.nil⟩ (by rw [Heap.size_push];exact Nat.le_refl _)
  rw [Heap.size_push] at ok
  rw [show ({ s with heap:=s.heap.push { cls:=.type "dict",data:=.dict #[] } }:Shared).heap.objs.size=s.heap.objs.size+1 from Heap.size_push ..,qaR]
  refine wpAny_bind ?_
  rw [List.forIn_nil]
  exact wpAny_pure (wpAny_pure (hQ _ ((Heap.Ns.new s.heap (.type "dict")).keeps (pushCells_keeps _ _)) (fun b o e=>pushCells_keeps _ _ b o (Heap.get?_push_of_some _ e)) ok))
theorem qhM {pins:List (Addr × Obj)} {σ:St} {H:Hp} {s s4:Shared} {cl nw:List (Str × Addr)} {C:Addr} {fp:List Addr} {m:Str→Option Value} (S:CompScope X.N X.env.scope scope N' cap) (I:Inv X pins σ H s)
    (hcl:∀ x c,cl.lookup x=some c→X.env.cells.lookup x=some c) (hfr:∀ x,(x,NameKind.free)∈scope.names→∃ c,cl.lookup x=some c) (hC:s.heap.objs.size≤C) (hos:s4.os=s.os) (hg:s4.gens=s.gens)
    (hk:∀ b o,s.heap.get? b=some o→s4.heap.get? b=some o) (hn:s4.heap.Ns C m) (hfp:∀ b∈fp,FpOk X pins H b) (hfz:∀ b∈fp,b<s.heap.objs.size) (hw:CellsOk s4.heap (C+1) nw) (hwm:∀ x c,(x,c)∈nw→(x,NameKind.cell)∈scope.names) (hwl:∀ x,(x,NameKind.cell)∈scope.names→∃ c,nw.lookup x=some c) :
    Inv (qaH X scope N' (nw++cl) C s H fp) [] (qbG cap σ) H s4:=by
  have hlk:∀ x c,(nw++cl).lookup x=some c→((x,c)∈nw∧C<c)∨(nw.lookup x=none∧X.env.cells.lookup x=some c):=fun x c h=>by
    rw [List.lookup_append] at h
    cases e:nw.lookup x with
    | none=>rw [e] at h;exact .inr ⟨rfl,hcl x c (by simpa using h)⟩
    | some c' =>
      rw [e] at h
      have:c'=c:=by simpa using h
      subst this
      exact .inl ⟨PySem.mem_of_lookup e,(hw.empty _ _ (PySem.mem_of_lookup e)).2⟩
  have hold:∀ x c,X.env.cells.lookup x=some c→c<s.heap.objs.size:=fun x c h=>by obtain ⟨v,q⟩:=I.cell x c h;exact q.lt
  have hfr':∀ x,(x,NameKind.free)∈scope.names→∃ c,(nw++cl).lookup x=some c∧X.env.cells.lookup x=some c:=fun x hx=>by
    obtain ⟨c,hc⟩:=hfr x hx
    refine ⟨c,?_,hcl x c hc⟩
    rw [List.lookup_append]
    cases e:nw.lookup x with
    | none=>simpa using hc
    | some c' =>
      have a1:=S.cel _ (hwm x c' (PySem.mem_of_lookup e)) rfl
      have a2:=S.fst _ hx rfl
      have a1:scope.names.lookup x=some .cell:=a1
      have a2:scope.names.lookup x=some .free:=a2
      rw [a1] at a2;cases a2
  refine ⟨⟨I.ok.mod,S.kind,I.ok.glob,I.ok.blt,hC,fun x y c h1 h2=>?_,fun x hx=>?_,fun x c hx h=>?_,I.ok.hd,I.ok.frames,.inl rfl,
      fun b hb=>⟨Nat.ne_of_lt (Nat.lt_of_lt_of_le (hfz b hb) hC),fun x c e=>?_⟩,I.bs,Nat.le_trans I.ok.bsz I.sz,fun b o e hb=>?_,fun b hb hf=>?_,I.stack,I.stkFree⟩,
    hos,by rw [hg];exact I.bare,Un.kept hk,⟨m,hn,fun i x v h1 h2 h3=>?_⟩,fun x c e=>?_,I.hok.fresh hC,fun x c e=>?_,fun p hp=>absurd (show p∈([]:List (Addr × Obj)) from hp) (by simp),I.hok.kept hk,?_⟩
  · rcases hlk x c h1 with ⟨a1,a2⟩ | ⟨_,a2⟩ <;> rcases hlk y c h2 with ⟨b1,b2⟩ | ⟨_,b2⟩
    · exact name_of_addr hw.apart a1 b1
    · exact absurd (hold y c b2) (Nat.not_lt.mpr (Nat.le_trans hC (Nat.le_of_lt a2)))
    · exact absurd (hold x c a2) (Nat.not_lt.mpr (Nat.le_trans hC (Nat.le_of_lt b2)))
    · exact I.ok.inj x y c a2 b2
  · have q:(x,NameKind.free)∈scope.names∨(x,NameKind.cell)∈scope.names:=by
      rcases hx with hx | hx
      · exact qbW hx (.inl rfl)
      · exact qbW hx (.inr rfl)
    rcases q with q | q
    · obtain ⟨c,h,_⟩:=hfr' x q
      exact ⟨c,h⟩
    · obtain ⟨c,h⟩:=hwl x q
      exact ⟨c,by show (nw++cl).lookup x=_;rw [List.lookup_append,h];rfl⟩
  · have hx:(scope.names.lookup x == some .cell)=true:=hx
    have hx:scope.names.lookup x=some .cell:=by simpa using hx
    obtain ⟨c',h'⟩:=hwl x (PySem.mem_of_lookup hx)
    rcases hlk x c h with ⟨_,a2⟩ | ⟨a1,_⟩
    · exact Nat.le_trans hC (Nat.le_of_lt a2)
    · rw [h'] at a1;cases a1
  · rcases hlk x c e with ⟨_,a2⟩ | ⟨_,a2⟩
    · exact fun z=>absurd (hfz b hb) (Nat.not_lt.mpr (Nat.le_trans hC (by rw [← z];exact Nat.le_of_lt a2)))
    · exact (hfp b hb).2.2.2.2.1 x c a2
  · rcases (hfp b hb).2.2.2.1 with z | z
    · exact I.ok.noex b o e z
    · exact absurd (Nat.lt_of_lt_of_le (Heap.lt_size e) (Nat.le_trans I.ok.bsz z)) (Nat.lt_irrefl _)
  · rcases List.mem_cons.mp (I.stkSub b hf) with z | z
    · exact (hfp b hb).2.1 z
    · exact (hfp b hb).2.2.1 z
  · have h2:(cap.map fun o=>o.bind fun i=>(σ[i]?).join)[i]?=some (some v):=h2
    rw [List.getElem?_map] at h2
    cases ec:cap[i]? with
    | none=>rw [ec] at h2;cases h2
    | some o =>
      rw [ec] at h2
      have h2:(o.bind fun i=>(σ[i]?).join)=some v:=by simpa using h2
      cases o with
      | none=>cases h2
      | some j =>
        have h2:(σ[j]?).join=some v:=h2
        have hj:σ[j]?=some (some v):=by
          cases ej:σ[j]? with
          | none=>rw [ej] at h2;cases h2
          | some y=>rw [ej] at h2;exact congrArg some h2
        have hz:(cap.zip N')[i]?=some (some j,x):=by rw [List.getElem?_zip_eq_some];exact ⟨ec,h1⟩
        obtain ⟨q1,q2⟩:=S.at_ _ (List.mem_of_getElem? hz) j rfl
        obtain ⟨mx,hnx,hl⟩:=I.loc
        have kc:=S.free _ q2 rfl
        obtain ⟨u,r,lk⟩:=hl j x v q1 hj (.inr (.inl kc))
        refine ⟨u,r,?_⟩
        rcases lk with ⟨k1,_⟩ | ⟨_,c,e,z⟩
        · have:X.env.scope.names.lookup x=some .local:=k1
          rw [kc] at this;cases this
        · obtain ⟨c',hc',hd'⟩:=hfr' x q2
          rw [e] at hd';cases hd'
          have kx:(compEnvC scope (nw++cl) C X.env).kindOf x=some .cell∨(compEnvC scope (nw++cl) C X.env).kindOf x=some .free∨(compEnvC scope (nw++cl) C X.env).kindOf x=some .local:=by
            rcases h3 with z | z | z
            · exact .inr (.inr z)
            · exact .inl z
            · exact .inr (.inl z)
          rcases kx with kx | kx | kx
          · exact .inr ⟨.inl kx,c,hc',let ⟨o,ho,hd⟩:=z;⟨o,hk c o ho,hd⟩⟩
          · exact .inr ⟨.inr kx,c,hc',let ⟨o,ho,hd⟩:=z;⟨o,hk c o ho,hd⟩⟩
          · exfalso
            have kl:(relabel scope X.env).names.lookup x=some .local:=kx
            have ml:=PySem.mem_of_lookup kl
            obtain ⟨⟨n,k⟩,hm,e2⟩:=List.mem_map.mp ml
            have e2:(if (k == NameKind.free && X.env.scope.kind == .function && X.env.kindOf n == some .cell)=true then (n,NameKind.cell) else (n,k))=(x,NameKind.local):=e2
            split at e2
            · cases e2
            · cases e2
              have a1:=S.names _ hm rfl
              have a3:scope.names.lookup x=some .free:=S.fst _ q2 rfl
              have a1:scope.names.lookup x=some .local:=a1
              rw [a3] at a1;cases a1
  · rcases hlk x c e with ⟨a1,_⟩ | ⟨_,a2⟩
    · exact ⟨none,(hw.empty x c a1).1⟩
    · obtain ⟨v,o,ho,hd⟩:=I.cell x c a2
      exact ⟨v,o,hk c o ho,hd⟩
  · rcases hlk x c e with ⟨_,a2⟩ | ⟨_,a2⟩
    · exact I.hok.fresh (Nat.le_trans hC (Nat.le_of_lt a2))
    · exact I.freeC x c a2
  · show (qbG cap σ).length=N'.length
    unfold qbG
    rw [List.length_map,S.len]
theorem qdr {pins:List (Addr × Obj)} {σ:St} {H2:Hp} {s2:Shared} {it:Addr} {fp:List Addr} {tn:Nat→Heap→Prop} {J:It} {cl:List (Str × Addr)} {RR:Value→Addr→Result→Shared→Prop} {E:Value→Shared→Prop} (hcalm:X.calm=true) (S:CompScope X.N X.env.scope scope N' cap)
    (hg:∀ (cl:List (Str × Addr)) (C:Addr) (s0:Shared) (H0:Hp),PG (qaH X scope N' cl C s0 H0 fp) tg g) (ht:∀ (cl:List (Str × Addr)) (C:Addr) (s0:Shared) (H0:Hp),qji (qaH X scope N' cl C s0 H0 fp) ifs tc) (he:∀ (cl:List (Str × Addr)) (C:Addr) (s0:Shared) (H0:Hp),PE (qaH X scope N' cl C s0 H0 fp) elt te)
    (I2:Inv X pins σ H2 s2) (T:Turn X.prog X.w X.K tg J fp it tn) (st2:tn 0 s2.heap) (f2:∀ b∈fp,FpOk X pins H2 b)
    (hcl:∀ x c,cl.lookup x=some c→X.env.cells.lookup x=some c) (hfr:∀ x,(x,NameKind.free)∈scope.names→∃ c,cl.lookup x=some c)
    {P:V→Hp→Prop}
    (w:∀ D,H2 D=none→∃ W:Nat→Nat→St→Hp→Prop,(∃ m,W 0 m (qbG cap σ) (upd H2 D (.lst []))) ∧
      ∀ i m σ' H',W i m σ' H'→(J.stop i H'∧P (.ref D) H')∨(J.go i H'∧∃ N:St→Hp→Prop,(∀ σ2 H2,N σ2 H2→∃ m',m'<m∧W (i+1) m' σ2 H2) ∧
        ∀ x H2,J.yld i H' x H2→g x σ' H2 fun σ3 H3=>tc σ3 H3 fun b H4=>if b=true then te σ3 H4 fun y H5=>∃ ys,H5 D=some (.lst ys)∧ys.length<sizeLine∧N σ3 (upd H5 D (.lst (ys++[y]))) else N σ3 H4))
    (hRR:∀ D C H' s' m',X.env.locals≠C→X.s₀.heap.objs.size≤C→(∀ x c,X.env.cells.lookup x=some c→c≠C)→(∀ p∈X.pn++pins,p.1≠C)→H' C=none→s'.heap.Ns C m'→Inv X pins σ H' s'→P (.ref D) H'→RR (.ref D) C (.ok .next) s') :
    wpAny (model X.prog X.w) X.A (newList []) (fun acc s₃=>wpAny (model X.prog X.w) X.A (newFunctionEnv scope X.env.globals cl [] X.env.qual none .none (some X.env)) (fun cenv s₄ =>
      codeAny (model X.prog X.w) X.A (.compStart (.ListComp elt [⟨tg,iter,ifs,0⟩] scope pos) 0 (.ref it) acc { cenv with scope:=relabel scope X.env }) (RR acc cenv.locals) s₄) E s₃) E s2:=by
  refine wpAny_newObj_type ?_ (by show 0≤sizeLine;decide)
  have I3:Inv X pins σ (upd H2 s2.heap.objs.size (.lst [])) { s2 with heap:=s2.heap.push { cls:=.type "list",data:=.seq ([]:List Value).toArray } }:=I2.lnew (t':=s2.toks) .nil (by show 0≤sizeLine;decide)
  have k3:∀ b o,s2.heap.get? b=some o→(s2.heap.push { cls:=.type "list",data:=.seq ([]:List Value).toArray }).get? b=some o:=fun b o e=>Heap.get?_push_of_some _ e
  have z3:(s2.heap.push { cls:=.type "list",data:=.seq ([]:List Value).toArray }).objs.size=s2.heap.objs.size+1:=Heap.size_push ..
  have hD0:H2 s2.heap.objs.size=none:=I2.fresh
  generalize hs3:({ s2 with heap:=s2.heap.push { cls:=.type "list",data:=.seq ([]:List Value).toArray } }:Shared)=s3 at I3 ⊢
  have eh3:s3.heap=s2.heap.push { cls:=.type "list",data:=.seq ([]:List Value).toArray }:=by rw [← hs3]
  have eo3:s3.os=s2.os:=by rw [← hs3]
  generalize hDD:s2.heap.objs.size=D at I3 hD0 z3 ⊢
  rw [← eh3] at k3 z3
  have live:∀ b∈fp,∃ o,s2.heap.get? b=some o∧∀ v,o.data≠.cell v:=fun b hb=>T.obj 0 _ st2 b hb
  have ltD:∀ b∈fp,b<D:=fun b hb=>by obtain ⟨o,e,_⟩:=live b hb;rw [← hDD];exact Heap.lt_size e
  have f3:∀ b∈fp,FpOk X pins (upd H2 D (.lst [])) b:=fun b hb=>⟨by rw [qad (Nat.ne_of_lt (ltD b hb))];exact (f2 b hb).1,(f2 b hb).2⟩
  refine qhl fun h4 hn4 k4 ok4=>?_
  generalize hnw:cellsFrom (s3.heap.objs.size+1) scope.names []=nw at ok4 ⊢
  have st4:tn 0 h4:=T.keep 0 _ _ st2 fun b _ o e=>k4 b o (k3 b o e)
  have I4:Inv (qaH X scope N' (nw++cl) s3.heap.objs.size s3 (upd H2 D (.lst [])) fp) [] (qbG cap σ) (upd H2 D (.lst [])) { s3 with heap:=h4 } :=
    qhM S I3 hcl hfr (Nat.le_refl _) rfl rfl k4 hn4 f3 (fun b hb=>by rw [z3];exact Nat.lt_succ_of_lt (ltD b hb)) ok4 (fun x c h=>qbC _ _ (hnw ▸ h)) fun x h=>hnw ▸ qdU (S.cel _ h rfl)
  obtain ⟨W,⟨m0,w0⟩,turn⟩:=w D hD0
  have fpY:∀ {H':Hp},(∀ b∈fp,H' b=none)→∀ b∈fp,FpOk (qaH X scope N' (nw++cl) s3.heap.objs.size s3 (upd H2 D (.lst [])) fp) [] H' b:=fun hn b hb =>
    ⟨hn b hb,Nat.ne_of_lt (by show b<s3.heap.objs.size;rw [z3];exact Nat.lt_succ_of_lt (ltD b hb)),fun hf=>I4.ok.exfs b hb hf,.inl hb,fun x c e=>(I4.ok.exf b hb).2 x c e,fun p hp=>absurd (show p∈([]:List (Addr × Obj)) from hp) (by simp)⟩
  have loop:∀ s₃:Shared,s₃={ s3 with heap:=h4 } →
      codeAny (model X.prog X.w) X.A (.compLoop (.ListComp elt [⟨tg,iter,ifs,0⟩] scope pos) 0 (.ref it) (.ref D) (compEnvC scope (nw++cl) s3.heap.objs.size X.env)) (RR (.ref D) s3.heap.objs.size) s₃:=by
    rintro s₃ rfl
    refine qe6 (fun n s'=>∃ i σ' H',Inv (qaH X scope N' (nw++cl) s3.heap.objs.size s3 (upd H2 D (.lst [])) fp) [] σ' H' s'∧tn i s'.heap∧(∀ b∈fp,H' b=none)∧W i n σ' H') ?_ m0
      ⟨0,qbG cap σ,upd H2 D (.lst []),I4,st4,fun b hb=>(f3 b hb).1,w0⟩
    rintro n s5 ⟨i,σ5,H5,I5,st5,fr5,w5⟩
    rcases turn i n σ5 H5 w5 with ⟨stop,qn⟩ | ⟨go,N,hN,step⟩
    · refine thn (T.done (qaH X scope N' (nw++cl) s3.heap.objs.size s3 (upd H2 D (.lst [])) fp) rfl rfl rfl hcalm i [] s5 σ5 H5 _ I5 (fpY fr5) st5 stop) fun r s6 hq0=>?_
      obtain ⟨hr,I6⟩:=hq0
      subst hr
      obtain ⟨m6,hn6,_⟩:=I6.loc
      have un:Un (frs X.stack) fp (upd H2 D (.lst [])) H5 s3.heap s6.heap:=I6.base
      refine hRR D s3.heap.objs.size H5 s6 m6 (Nat.ne_of_lt I3.lt) I3.sz (fun x c e=>?_) (fun p hp=>?_) I6.free hn6 ?_ qn
      · obtain ⟨v,q⟩:=I3.cell x c e
        exact Nat.ne_of_lt q.lt
      · exact Nat.ne_of_lt (Heap.lt_size (I3.pin p hp).1)
      · exact I3.call' I6.os un I6.hok I6.bare fun b hb=>⟨(f3 b hb).2.2.2.1,(f3 b hb).2.1,(f3 b hb).2.2.2.2.1,(f3 b hb).2.2.2.2.2⟩
    · refine thn (T.item (qaH X scope N' (nw++cl) s3.heap.objs.size s3 (upd H2 D (.lst [])) fp) rfl rfl rfl hcalm i [] s5 σ5 H5 (fun _ _=>False) I5 (fpY fr5) st5 go) fun r s6 hq1=>?_
      obtain ⟨u,hr,h6⟩:=hq1
      subst hr
      refine thn h6 fun _ s7 hq2=>?_
      obtain ⟨x,H7,I7,r7,y7,st7,fr7⟩:=hq2
      have I7':=I7.pinned (fpY fr7) (T.obj _ _ st7)
      refine thn (hg _ _ _ _ _ s7 σ5 H7 x u _ I7' r7 (step x H7 y7)) fun _ s8 hq3=>?_
      obtain ⟨σ8,H8,I8,q8⟩:=hq3
      refine thn (ht _ _ _ _ _ s8 σ8 H8 _ I8 q8) fun b s9 hq4=>?_
      obtain ⟨H9,I9,q9⟩:=hq4
      have again:∀ {σ9:St} {H9:Hp} {s9:Shared},Inv (qaH X scope N' (nw++cl) s3.heap.objs.size s3 (upd H2 D (.lst [])) fp) ([]++qej fp s7.heap) σ9 H9 s9→N σ9 H9→∃ m,m<n∧∃ i σ' H',Inv (qaH X scope N' (nw++cl) s3.heap.objs.size s3 (upd H2 D (.lst [])) fp) [] σ' H' s9∧tn i s9.heap∧(∀ b∈fp,H' b=none)∧W i m σ' H':=fun {σ9 H9 s9} I9 n9=>by
        obtain ⟨m',hm,w9⟩:=hN σ9 H9 n9
        refine ⟨m',hm,i+1,σ9,H9,I9.unpinned,T.keep _ _ _ st7 fun b hb o e=>(I9.pin (b,o) (List.mem_append_right _ (List.mem_append_right _ (qbQ hb e)))).1,fun b hb=>?_,w9⟩
        obtain ⟨o,e,d⟩:=T.obj _ _ st7 b hb
        exact (I9.pin (b,o) (List.mem_append_right _ (List.mem_append_right _ (qbQ hb e)))).2.1
      cases b with
      | false =>
        rw [if_neg (by decide)] at q9 ⊢
        exact again I9 q9
      | true =>
        rw [if_pos rfl] at q9 ⊢
        refine thn (he _ _ _ _ _ s9 σ8 H9 _ I9 q9) fun yv s10 hq5=>?_
        obtain ⟨y,H10,I10,r10,ys,hD10,hz10,q10⟩:=hq5
        refine thn (qea _ s10 σ8 H10 (.ref D) [y] (.ref D) [yv] (fun _ H'=>N σ8 H') I10 rfl (.cons r10 .nil) ⟨D,ys,y,rfl,rfl,hD10,hz10,q10⟩) fun _ s11 hq6=>?_
        obtain ⟨_,H11,I11,_,q11⟩:=hq6
        exact again I11 q11
  exact codeAny_compStart_list (loop _ rfl) (T.self _ 0 _ _ _ st4 (loop _ rfl))
theorem qgQ (hcalm:X.calm=true) (S:CompScope X.N X.env.scope scope N' cap) (hi:PI X tg iter wi)
    (hg:∀ (cl:List (Str × Addr)) (fp:List Addr) (C:Addr) (s0:Shared) (H0:Hp),PG (qaH X scope N' cl C s0 H0 fp) tg g) (ht:∀ (cl:List (Str × Addr)) (fp:List Addr) (C:Addr) (s0:Shared) (H0:Hp),qji (qaH X scope N' cl C s0 H0 fp) ifs tc)
    (he:∀ (cl:List (Str × Addr)) (fp:List Addr) (C:Addr) (s0:Shared) (H0:Hp),PE (qaH X scope N' cl C s0 H0 fp) elt te) (hs:∀ x,foldedSetIterable iter X.env x=pure x:=by intro _;rfl) :
    PE X (.ListComp elt [⟨tg,iter,ifs,0⟩] scope pos) (qe4 wi cap g tc te):=by
  intro pins s σ H Q I h
  obtain ⟨cl,ecl,hcl,hfr⟩:=qby (scope:=scope) (env:=X.env) fun x hx hf=>I.ok.has x.1 (.inl (S.free x hx hf))
  rw [eval_ListComp]
  refine wpAny_comprehension_free (use:=none) rfl hs ecl S.kind S.names (thn (hi pins s σ H _ I h) fun v s1 h1=>thn h1 fun itv s2 h2=>?_)
  obtain ⟨it,fp,tn,J,H2,e,I2,T,st2,f2,w⟩:=h2
  subst e
  refine qdr (RR:=fun acc C=>compPost (model X.prog X.w) X.A X.xe none (EP X pins σ Q) acc C) hcalm S (fun cl=>hg cl fp) (fun cl=>ht cl fp) (fun cl=>he cl fp) I2 T st2 f2 hcl hfr (P:=Q) w ?_
  intro D C H' s' m' hL hz hcc hpp hC hn I' q
  refine ⟨m',hn,fun h' hs'=>⟨.ref D,H',I'.turned (t':=s'.toks) (fun b o hb e=>(hs'.2 b hb).trans e) hC (Ne.symm hL) (.inr hz) hcc hpp,rfl,q⟩⟩
theorem qeR {i:Nat} {y:Str} {py spos:Pos} (hcalm:X.calm=true) (hN:X.N.Nodup) (hy:X.N[i]?=some y) (hx:Loc X.env.scope y) (S:CompScope X.N X.env.scope scope N' cap) (hi:PI X tg iter wi)
    (hg:∀ (cl:List (Str × Addr)) (fp:List Addr) (C:Addr) (s0:Shared) (H0:Hp),PG (qaH X scope N' cl C s0 H0 fp) tg g) (ht:∀ (cl:List (Str × Addr)) (fp:List Addr) (C:Addr) (s0:Shared) (H0:Hp),qji (qaH X scope N' cl C s0 H0 fp) ifs tc)
    (he:∀ (cl:List (Str × Addr)) (fp:List Addr) (C:Addr) (s0:Shared) (H0:Hp),PE (qaH X scope N' cl C s0 H0 fp) elt te) (hsw:swapsWith (.ListComp elt [⟨tg,iter,ifs,0⟩] scope pos) (some (.Name y py)) spos.line X.env=pure true:=by rfl)
    (hs:∀ x,foldedSetIterable iter X.env x=pure x:=by intro _;rfl) (hf:X.fn y=true∨X.env.scope.names.lookup y=some .local:=by first | exact .inl rfl | exact .inr rfl | assumption) :
    PS X (.Assign [.Name y py] (.ListComp elt [⟨tg,iter,ifs,0⟩] scope pos) spos) (qka (qe4 wi cap g tc te) (qfU i)):=by
  intro pins s σ H D I h
  obtain ⟨cl,ecl,hcl,hfr⟩:=qby (scope:=scope) (env:=X.env) fun x hx hf=>I.ok.has x.1 (.inl (S.free x hx hf))
  rw [exec_Assign_Name_used _ _ _ _ hsw]
  refine wpAny_bind (wpAny_standAt (wpAny_bind ?_))
  show wpAny _ X.A (do let _ ← comprehension (.ListComp elt [⟨tg,iter,ifs,0⟩] scope pos) scope X.env _ (newList []) false (eval iter X.env) (some (assign (.Name y py) X.env))) _ _ s
  refine wpAny_bind (wpAny_mono (wpAny_comprehension_free (use:=some (assign (.Name y py) X.env)) (Q:=fun _ s'=>SP X pins D .next s') rfl hs ecl S.kind S.names
    (thn (hi pins s σ H _ I h) fun v s1 h1=>thn h1 fun itv s2 h2=>?_)) (fun _ s' hq=>wpAny_pure (wpAny_pure hq)) fun _ _ e=>e)
  obtain ⟨it,fp,tn,J,H2,e,I2,T,st2,f2,w⟩:=h2
  subst e
  refine qdr (RR:=fun acc C=>compPost (model X.prog X.w) X.A X.xe (some (assign (.Name y py) X.env)) (fun _ s'=>SP X pins D .next s') acc C) hcalm S (fun cl=>hg cl fp) (fun cl=>ht cl fp) (fun cl=>he cl fp) I2 T st2 f2 hcl hfr (P:=fun v H'=>D.nx (σ.set i (some v)) H') w ?_
  intro Dd C H' s' m' hL hz hcc hpp hC hn I' q
  show wpAny _ X.A (assign (.Name y py) X.env (.ref Dd)) _ _ s'
  refine wpAny_assign_Name (qel (v:=.ref Dd) I' hN hy hx rfl (fun s'' I'' hsb=>?_) hf)
  obtain ⟨a,sb,ha⟩:=hsb
  have hCa:C≠a:=by
    rcases ha with z | z
    · rw [z];exact Ne.symm hL
    · exact Ne.symm (hcc y a z)
  refine ⟨m',hn.sameBut sb hCa,fun h' hs'=>?_⟩
  exact ⟨_,H',I''.turned (t':=s''.toks) (fun b o hb e=>(hs'.2 b hb).trans e) hC (Ne.symm hL) (.inr hz) hcc hpp,q⟩
end
open AutoSeq1 (wpAny_loadPart')
theorem Inv.turnedL {X:Cx} {pins:List (Addr × Obj)} {σ:St} {H:Hp} {s:Shared} {h':Heap} {ch:List Addr} {t':Nat} (I:Inv X pins σ H s) (k:∀ b o,b∉ch→s.heap.get? b=some o→h'.get? b=some o) (hf:∀ b∈ch,FpOk X pins H b) :
    Inv X pins σ H { s with heap:=h',toks:=t' }:=by
  have nit:∀ b u,H b=some u→b∉ch:=fun b u e z=>by rw [(hf b z).1] at e;cases e
  refine I.step (g':=s.gens) (d':=s.drawn) (ch:=ch) (fun b hb=>⟨(hf b hb).2.2.2.1,(hf b hb).2.1,(hf b hb).2.2.2.2.1,(hf b hb).2.2.2.2.2⟩) (fun b o _ _ hc e _=>k b o hc e) (fun b o _ _ hc e _=>⟨o.slots,k b o hc e⟩) (fun _ _ _ _ n=>n)
    (fun b o hc e=>⟨o,k b o hc e⟩) (fun _ _ e=>e) (fun _ _ _ e=>e) (fun b ps e=>e) (fun m hm=>?_) (fun b u e=>?_) I.bare
  · obtain ⟨o,es,ep,ho,r⟩:=hm
    exact ⟨o,es,ep,k _ o (fun z=>(hf _ z).2.1 rfl) ho,r⟩
  · refine (I.hok b u e).stay (fun c v hc q=>k c v ?_ q) (fun _ q=>q) (fun _ _ q=>q) fun _ _ _ q=>q
    rcases hc with z | z
    · rw [z];exact nit b u e
    · exact nit c _ z
def SqI (b:Bool) (h:Heap) (it a:Addr) (i:Nat):Prop:=match b with | true=>h.IsListIter it a i | false=>h.IsTupleIter it a i
def SqO (b:Bool) (h:Heap) (a:Addr) (its:Array Value):Prop:=match b with | true=>h.IsList a its | false=>h.IsTuple a its
def SqB (K:PySem.W.Frag) (b:Bool) (H:Hp) (a:Addr) (xs:List V):Prop:=match b with | true=>SqL K H a xs | false=>SqT K H a xs
def qa8 (b:Bool) (a:Addr):Obj:=match b with
  | true=>{ cls:=.type "list_iterator",data:=.fields #[.ref a,.int 0 0] }
  | false=>{ cls:=.type "tuple_iterator",data:=.fields #[.ref a,.int 0 0] }
theorem SqI.at {b:Bool} {h h':Heap} {it a:Addr} {i:Nat} (x:SqI b h it a i) (k:∀ o,h.get? it=some o→h'.get? it=some o):SqI b h' it a i:=by
  cases b <;> (obtain ⟨o,e,r⟩:=x;exact ⟨o,k o e,r⟩)
theorem SqO.at {b:Bool} {h h':Heap} {a:Addr} {its:Array Value} (x:SqO b h a its) (k:∀ o,h.get? a=some o→h'.get? a=some o):SqO b h' a its:=by
  cases b <;> (obtain ⟨o,e,r⟩:=x;exact ⟨o,k o e,r⟩)
theorem SqI.obj {b:Bool} {h:Heap} {it a:Addr} {i:Nat} (x:SqI b h it a i):∃ o,h.get? it=some o∧∀ v,o.data≠.cell v:=by
  cases b <;> (obtain ⟨o,e,_,d⟩:=x;exact ⟨o,e,fun v z=>by rw [d] at z;cases z⟩)
theorem SqI.lt {b:Bool} {h:Heap} {it a:Addr} {i:Nat} (x:SqI b h it a i):it<h.objs.size:=by obtain ⟨o,e,_⟩:=x.obj;exact Heap.lt_size e
theorem SqO.lt {b:Bool} {h:Heap} {a:Addr} {its:Array Value} (x:SqO b h a its):a<h.objs.size:=by
  cases b <;> (obtain ⟨o,e,_⟩:=x;exact Heap.lt_size e)
theorem Inv.sqb {X:Cx} {pins:List (Addr × Obj)} {σ:St} {H:Hp} {s:Shared} {b:Bool} {a:Addr} {xs:List V} (I:Inv X pins σ H s) (h:SqB X.K b H a xs):∃ its:List Value,Vals xs its∧SqO b s.heap a its.toArray∧xs.length≤sizeLine:=by
  cases b with
  | true=>obtain ⟨its,rv,p,hz⟩:=I.list h;exact ⟨its,rv,p.isList,hz⟩
  | false=>obtain ⟨its,rv,p,hz⟩:=I.tuple h;exact ⟨its,rv,p,hz⟩
theorem Inv.sqb_inj {X:Cx} {pins:List (Addr × Obj)} {σ:St} {H:Hp} {s:Shared} {b:Bool} {a:Addr} {xs ys:List V} (I:Inv X pins σ H s) (h:SqB X.K b H a xs) (h':SqB X.K b H a ys):xs=ys:=by
  cases b with
  | true=>exact I.list_inj h h'
  | false=>exact I.tuple_inj h h'
theorem SqB.same {K:PySem.W.Frag} {b:Bool} {H H':Hp} {a:Addr} {xs:List V} (e:Same H H') (h:SqB K b H a xs):SqB K b H' a xs:=by
  cases b with
  | true=>exact e.seq h
  | false =>
    rcases h with (h | ⟨o,h⟩) | h
    · exact .inl (.inl (e _ _ h))
    · exact .inl (.inr ⟨o,e _ _ h⟩)
    · exact .inr h
section
variable {prog : Program} {w : World} {A : Around} {E : Value → Shared → Prop} {s : Shared}
theorem qdK {b:Bool} {a:Addr} {its:Array Value} {Q:Value→Shared→Prop} (h:SqO b s.heap a its) (q:Q (.ref s.heap.objs.size) { s with heap:=s.heap.push (qa8 b a) }):wpAny (model prog w) A (pyIter (.ref a)) Q E s:=by
  cases b with
  | true=>exact wpAny_pyIter_list h q
  | false=>exact wpAny_pyIter_tuple h q
theorem qb3 {b:Bool} {h:Heap} {it a:Addr} (e:h.get? it=some (qa8 b a)):SqI b h it a 0:=by
  cases b <;> exact ⟨_,e,rfl,rfl⟩
theorem qdR {b:Bool} {it a:Addr} {i:Nat} {its:Array Value} {x:Value} {Q:Value→Shared→Prop} (hit:SqI b s.heap it a i) (hl:SqO b s.heap a its) (hx:its[i]?=some x)
    (hQ:∀ h',SqI b h' it a (i+1)→Heap.SameBut it s.heap h'→Q x { s with heap:=h' }):wpAny (model prog w) A (Builtin.SmallTypes.nextOf (.ref it)) Q E s:=by
  cases b with
  | true=>exact wpAny_nextOf_list_item hit hl hx hQ
  | false =>
    have hit:s.heap.IsTupleIter it a i:=hit
    obtain ⟨o,ho,hc,hd⟩:=id hit
    obtain ⟨ol,hol,_,nl,hdl⟩:=hl
    unfold Builtin.SmallTypes.nextOf
    refine wpAny_bind (wpAny_callSpecial?_slot (name:=Str.ofString "__next__") hit.typeIs F.slot_tuple_iterator_next (wpAny_call_entry F.slot_tuple_iterator_next hit.typeIs F.entry_tuple_iterator_next ?_ (F.args_tuple_iterator_next_1 _)))
    show wpAny _ _ (field (.ref it) 0 >>= _) _ _ s
    refine wpAny_bind (wpAny_field ho hd (x:=.ref a) rfl ?_)
    show wpAny _ _ (if (Value.ref a == Value.none)=true then _ else _) _ _ s
    rw [if_neg (show ¬ ((Value.ref a == Value.none)=true) from Bool.false_ne_true)]
    show wpAny _ _ (field (.ref it) 1 >>= _) _ _ s
    refine wpAny_bind (wpAny_field ho hd (x:=.int i 0) rfl ?_)
    show wpAny _ _ (seqItems? (.ref a) >>= _) _ _ s
    refine wpAny_bind (wpAny_seqItems hol hdl ?_)
    simp only [Int.toNat_natCast,hx]
    refine wpAny_bind (wpAny_setField ho hd (by simp) (wpAny_pure ⟨x,rfl,wpAny_pure (hQ _ ?_ (Heap.SameBut.update ..))⟩))
    exact ⟨_,Heap.get?_update_self _ ho (Obj.isFreed_of_fields (Obj.data_mapFields hd _)),(Obj.cls_mapFields ..).trans hc,by rw [Obj.data_mapFields hd];simp [rawInt]⟩
theorem qfb {b:Bool} {it a:Addr} {i:Nat} {its:Array Value} {Q:Value→Shared→Prop} (hh:A.handled=none) (hit:SqI b s.heap it a i) (hl:SqO b s.heap a its) (hx:its[i]?=none)
    (hE:∀ h' e,Heap.ExtBut it s.heap h'→(∃ o,h'.get? e=some o∧o.cls=.type "StopIteration")→E (.ref e) { s with heap:=h' }):wpAny (model prog w) A (Builtin.SmallTypes.nextOf (.ref it)) Q E s:=by
  cases b with
  | true=>exact wpAny_nextOf_list_end hh hit hl hx hE
  | false =>
    have hit:s.heap.IsTupleIter it a i:=hit
    obtain ⟨o,ho,hc,hd⟩:=id hit
    obtain ⟨ol,hol,_,nl,hdl⟩:=hl
    unfold Builtin.SmallTypes.nextOf
    refine wpAny_bind (wpAny_callSpecial?_slot (name:=Str.ofString "__next__") hit.typeIs F.slot_tuple_iterator_next (wpAny_call_entry F.slot_tuple_iterator_next hit.typeIs F.entry_tuple_iterator_next ?_ (F.args_tuple_iterator_next_1 _)))
    show wpAny _ _ (field (.ref it) 0 >>= _) _ _ s
    refine wpAny_bind (wpAny_field ho hd (x:=.ref a) rfl ?_)
    show wpAny _ _ (if (Value.ref a == Value.none)=true then _ else _) _ _ s
    rw [if_neg (show ¬ ((Value.ref a == Value.none)=true) from Bool.false_ne_true)]
    show wpAny _ _ (field (.ref it) 1 >>= _) _ _ s
    refine wpAny_bind (wpAny_field ho hd (x:=.int i 0) rfl ?_)
    show wpAny _ _ (seqItems? (.ref a) >>= _) _ _ s
    refine wpAny_bind (wpAny_seqItems hol hdl ?_)
    simp only [Int.toNat_natCast,hx]
    refine wpAny_bind (wpAny_rule (wpAny_bind (wpAny_setField ho hd (by simp) ?_)))
    show wpAny _ _ (newExc (.type "StopIteration") [] >>= _) _ _ _
    refine wpAny_bind ?_
    simp only [newExc,newTuple]
    refine wpAny_bind (wpAny_newObj_type ?_ (by size_fits))
    refine wpAny_bind (m:=firstArgMember _ _) (wpAny_of_eq (a:=Value.none) (by first | rfl | (simp only [firstArgMember];rfl)) ?_)
    refine wpAny_newObj_type ?_ (by size_fits)
    simp only [raiseNew]
    refine wpAny_bind (wpAny_handled ?_)
    first | rw [show A.in1.handled=none from hh] | rw [hh]
    refine wpAny_bind (wpAny_pure (wpAny_throw ?_))
    exact hE _ _ (((Heap.SameBut.update ..).extBut.push _).push _) ⟨_,Heap.get?_push_size _ rfl,rfl⟩
theorem qhU (hh:A.handled=none) (b:Bool) (it a:Addr) (hne:a≠it) (its:Array Value):Draws prog w A it [it,a] its.size (fun i v=>its[i]?=some v) (fun i h=>SqI b h it a i∧SqO b h a its) where
  live:=fun _ _ st=>let ⟨o,e,_⟩:=st.1.obj;⟨o,e⟩
  frame:=fun _ _ _ st k=>⟨st.1.at fun o e=>k it (by simp) o e,st.2.at fun o e=>k a (by simp) o e⟩
  item:=fun i s Q E hi st hQ=>qdR st.1 st.2 (x:=its[i]) (by simp [hi]) fun h' q sb=>hQ _ h' s.toks (by simp [hi]) ⟨q,st.2.at fun o e=>(sb.2 a hne).trans e⟩ sb
  done:=fun s Q E st hE=>qfb hh st.1 st.2 (by simp) hE
theorem qgM (l:Addr) (items:Array Value) (n:Nat) (dct:Option Addr) (sl:Array (Option Value)) :
    Meets (Builtin.«enumerate.__new__» ⟨[.type "enumerate",.ref l],[]⟩) (fun _ R s=>s.heap.get? l=some { cls:=.type "tuple",dict:=dct,data:=.seq items n,slots:=sl } ∧
      R (.ok (.ret (.ref (s.heap.push (qa8 false l)).objs.size)))
        { s with heap:=(s.heap.push (qa8 false l)).push { cls:=.type "enumerate",data:=.fields #[.none,.bool false,.ref s.heap.objs.size,rawInt 0,.none,.none] } }) :=
  .of_wp fun prog w A R s h=>by
    obtain ⟨hp,g,d,tk,os⟩:=s;obtain ⟨hl,h⟩:=h
    have hsub:=sub_enumerate
    have hL:Heap.IsTuple (Shared.heap ⟨hp,g,d,tk,os⟩) l items:=⟨_,hl,rfl,n,rfl⟩
    wp_walk using wpAny_loadPart' hl
    refine wpAny_stack_any fun st=>wpAny_pure ?_
    split
    · rename_i c _ _ _ _ _
      cases (c == Value.type "enumerate")
      · (wp_walk using wpAny_loadPart' hl,wpAny_pyIter_tuple hL);exact ⟨_,rfl,h⟩
      · (wp_walk using wpAny_loadPart' hl,wpAny_pyIter_tuple hL);exact ⟨_,rfl,h⟩
    · (wp_walk using wpAny_loadPart' hl,wpAny_pyIter_tuple hL);exact ⟨_,rfl,h⟩
theorem qgz {b:Bool} {l:Addr} {items:Array Value} {Q:Value→Shared→Prop} (hL:SqO b s.heap l items)
    (h:∀ h',IsEnum h' (s.heap.objs.size+1) s.heap.objs.size 0 .none→SqI b h' s.heap.objs.size l 0→h'.objs.size=s.heap.objs.size+2→(∀ b o,s.heap.get? b=some o→h'.get? b=some o)→Q (.ref (s.heap.objs.size+1)) { s with heap:=h' }) :
    wpAny (model prog w) A (call (.type "enumerate") [.ref l]) Q E s:=by
  cases b with
  | true=>exact call_enumerate_list hL h
  | false =>
    obtain ⟨⟨c,dct,dt,sl⟩,hl,hc,n,hd⟩:=hL
    replace hc:c=.type "tuple":=hc
    replace hd:dt=.seq items n:=hd
    subst hc hd
    refine callType_new F.called_enumerate (by decide) (F.typeCall_enumerate_1 _) (F.newCall_enumerate_1 _) (fun obj=>F.args_object_init_2 obj _) F.entry_enumerate_new (qgM l items n dct sl) ⟨hl,?_⟩
    have hz:(s.heap.push (qa8 false l)).objs.size=s.heap.objs.size+1:=Heap.size_push ..
    show _∧_
    rw [hz]
    have he:=Heap.get?_push_size (s.heap.push (qa8 false l)) (o:={ cls:=.type "enumerate",data:=.fields #[.none,.bool false,.ref s.heap.objs.size,rawInt 0,.none,.none] }) rfl
    rw [hz] at he
    have hi:(s.heap.push (qa8 false l)).get? s.heap.objs.size=some (qa8 false l):=Heap.get?_push_size _ rfl
    exact ⟨⟨_,he,rfl⟩,h _ he (qb3 (Heap.get?_push_of_some _ hi)) (by rw [Heap.size_push,hz]) fun b o x=>Heap.get?_push_of_some _ (Heap.get?_push_of_some _ x)⟩
theorem qhW {b:Bool} {e it a:Addr} {i:Nat} {j:Int} {its:Array Value} {old:Value} {Q:Option Value→Shared→Prop} (hh:A.handled=none) (he:IsEnum s.heap e it j old) (hit:SqI b s.heap it a i) (hl:SqO b s.heap a its) (hx:its[i]?=none)
    (hQ:∀ h',Heap.ExtBut it s.heap h'→Q none { s with heap:=h' }):wpAny (model prog w) A (pyNext (.ref e)) Q E s:=by
  have hT:s.TypeIs (.ref e) "enumerate":=⟨_,he,rfl⟩
  unfold pyNext
  refine wpAny_bind (wpAny_attempt (wpAny_callSpecial?_slot (name:=Str.ofString "__next__") hT F.slot_enumerate_next (wpAny_call_entry F.slot_enumerate_next hT F.entry_enumerate_next ?_ (F.args_enumerate_next_1 _))))
  show wpAny _ _ (field (.ref e) 2 >>= _) _ _ _
  refine wpAny_bind (wpAny_field he rfl (x:=.ref it) rfl (wpAny_bind (qfb hh hit hl hx fun h' x he' hx'=>?_)))
  obtain ⟨o,ho,hc⟩:=hx'
  exact wpAny_bind (wpAny_isInstance (T:="StopIteration") (b:=true) ⟨o,ho,hc⟩ isSubtype_stop (wpAny_pure (hQ _ he')))
end
def Ite (K:PySem.W.Frag) (b:Bool) (a:Addr):It :=
  ⟨fun i H=>∃ xs x,SqB K b H a xs∧xs[i]?=some x,fun i H x H'=>∃ t y,H t=none∧x=.ref t∧H'=upd H t (.tup [.int i,y])∧∀ xs,SqB K b H a xs→xs[i]?=some y,fun i H=>∃ xs,SqB K b H a xs∧xs.length≤i⟩
theorem qgE {P:Program} {w:World} {K:PySem.W.Frag} {es:List Expr} {k:Nat} {pos:Pos} (b:Bool) (a e it:Addr) (hei:e≠it):Turn P w K (.Tuple es k pos) (Ite K b a) [e,it] e (fun i h=>(∃ old,IsEnum h e it i old)∧SqI b h it a i) where
  mem:=by simp
  obj:=fun i h st c hc=>by
    obtain ⟨⟨old,he⟩,hs⟩:=st
    rcases List.mem_cons.mp hc with rfl | hc
    · exact ⟨_,he,fun v z=>by have z':Data.fields _=Data.cell v:=z;cases z'⟩
    · rw [List.mem_singleton.mp hc];exact hs.obj
  keep:=fun i h h' st k=>by
    obtain ⟨⟨old,he⟩,hs⟩:=st
    exact ⟨⟨old,k e (by simp) _ he⟩,hs.at fun o q=>k it (by simp) o q⟩
  item:=by
    intro X hP hw hK hc i pins s σ H E I hf st hg
    subst hP hw hK
    obtain ⟨xs,x,hq,hx⟩:=hg
    obtain ⟨⟨old,he⟩,hs⟩:=st
    obtain ⟨its,rv,p,hz⟩:=I.sqb hq
    obtain ⟨u,hu,ru⟩:=rv.get hx
    have hne:a≠it:=fun z=>by
      subst z
      have h1:=p;have h2:=hs
      cases b <;> (obtain ⟨o1,e1,c1,_⟩:=h1;obtain ⟨o2,e2,c2,_⟩:=h2;rw [e1] at e2;cases e2;rw [c1] at c2;exact absurd c2 (by simp))
    have hne2:a≠e:=fun z=>by
      subst z
      have h1:=p
      cases b <;> (obtain ⟨o1,e1,c1,_⟩:=h1;rw [he] at e1;cases e1;exact absurd c1 (by simp))
    have hil:i<its.toArray.size:=by
      have:i<its.length:=(List.getElem?_eq_some_iff.mp hu).1
      simpa using this
    have hh:X.A.in1.handled=none:=I.ok.hd hc
    refine wpAny_pyNext_enum_itemD (qhU hh b it a hne its.toArray) he ⟨hs,p⟩ hil hei (by simp [hei,Ne.symm hne2]) fun y h' tk hP' ho hst hT hsz hk=>?_
    have hy:y=u:=by
      have:its.toArray[i]?=some u:=by simpa using hu
      rw [this] at hP';exact (Option.some.inj hP').symm
    subst hy
    refine ⟨.ref s.heap.objs.size,rfl,wpAny_letOwnedTupleGo_enum ho fun h2 he2 hs2=>?_⟩
    have zn:H s.heap.objs.size=none:=I.fresh
    have I1:Inv X pins σ (upd H s.heap.objs.size (.tup [.int i,x])) { s with heap:=s.heap.push { cls:=.type "tuple",data:=.seq #[.int i tk,y] },toks:=tk } :=
      I.laid (fun c o q=>Heap.get?_push_of_some _ q) (Nat.le_refl _) ⟨by show 2≤sizeLine;decide,[.int i tk,y],.cons ⟨tk,rfl⟩ (.cons ru .nil),_,Heap.get?_push_size _ rfl,⟨rfl,rfl⟩,0,rfl⟩
    have lts:∀ c∈[e,it],c<s.heap.objs.size:=fun c hc=>by
      rcases List.mem_cons.mp hc with rfl | hc
      · exact Heap.lt_size he
      · rw [List.mem_singleton.mp hc];exact hs.lt
    have f1:∀ c∈[e,it],FpOk X pins (upd H s.heap.objs.size (.tup [.int i,x])) c:=fun c hc=>⟨by rw [qad (Nat.ne_of_lt (lts c hc))];exact (hf c hc).1,(hf c hc).2⟩
    have I2:=I1.turnedL (h':=h2) (ch:=[e,it]) (t':=tk+1) (fun c o hc q=>?_) f1
    · refine ⟨.ref s.heap.objs.size,_,I2,rfl,⟨s.heap.objs.size,x,zn,rfl,rfl,fun ys hy=>by rw [I.sqb_inj hy hq];exact hx⟩,⟨⟨_,by simpa using he2⟩,hst.1.at fun o q=>(hs2.2 it (Ne.symm hei)).trans q⟩,fun c hc=>(f1 c hc).1⟩
    · have hce:c≠e:=fun z=>hc (by simp [z])
      have hci:c≠it:=fun z=>hc (by simp [z])
      refine (hs2.2 c hce).trans ?_
      rcases Heap.get?_push_cases q with ⟨z,z'⟩ | q'
      · subst z;subst z';exact hT
      · exact hk c o hce hci q'
  done:=by
    intro X hP hw hK hc i pins s σ H E I hf st hg
    subst hP hw hK
    obtain ⟨xs,hq,hx⟩:=hg
    obtain ⟨⟨old,he⟩,hs⟩:=st
    obtain ⟨its,rv,p,hz⟩:=I.sqb hq
    have hl:=rv.length
    refine qhW (I.ok.hd hc) he hs p (by simp;omega) fun h' eb=>⟨rfl,?_⟩
    exact I.turnedL (ch:=[e,it]) (t':=s.toks) (fun c o hc q=>eb c o (fun z=>hc (by simp [z])) q) hf
  self:=fun _ _ _ _ _ st h=>by obtain ⟨⟨old,he⟩,_⟩:=st;exact wpAny_pyIter_enum he h
end L2
namespace L2
open PySem PySem.Spec PyProof.Rows
open AutoSeq1 (wpAny_loadPart')
section
variable {X : Cx}
end
structure ZAp (z TI TO i1 i2:Addr):Prop where
  a1:TI≠z
  a2:TO≠z
  a3:i1≠z
  a4:i2≠z
  a5:TI≠TO
  a6:TI≠i1
  a7:TI≠i2
  a8:TO≠i1
  a9:TO≠i2
  a0:i1≠i2
theorem SqI.but {b:Bool} {h h':Heap} {it a c:Addr} {i:Nat} (x:SqI b h it a i) (s:Heap.SameBut c h h') (n:it≠c):SqI b h' it a i:=x.at fun o e=>(s.2 it n).trans e
theorem SqO.but {b:Bool} {h h':Heap} {a c:Addr} {its:Array Value} (x:SqO b h a its) (s:Heap.SameBut c h h') (n:a≠c):SqO b h' a its:=x.at fun o e=>(s.2 a n).trans e
theorem SqO.ne {b:Bool} {h:Heap} {a c:Addr} {its:Array Value} {o:Obj} (x:SqO b h a its) (e:h.get? c=some o) (n1:o.cls≠.type "list") (n2:o.cls≠.type "tuple"):a≠c:=fun z=>by
  subst z
  cases b <;> (obtain ⟨o',e',c',_⟩:=x;rw [e] at e';cases e')
  · exact n2 c'
  · exact n1 c'
theorem SqO.ne_it {b b':Bool} {h:Heap} {a it l:Addr} {its:Array Value} {i:Nat} (x:SqO b h a its) (y:SqI b' h it l i):a≠it:=by
  cases b' <;> (obtain ⟨o,e,c,_⟩:=y;exact x.ne e (by rw [c];simp) (by rw [c];simp))
section
variable {prog : Program} {w : World} {A : Around} {E : Value → Shared → Prop} {s : Shared}
theorem qhx {b1 b2:Bool} {z TI TO i1 i2 l1 l2:Addr} {k1 k2:Nat} {xs ys:Array Value} {x y a b:Value} {Q:Value→Shared→Prop} (D:ZAp z TI TO i1 i2)
    (hz:IsZip s.heap z TI TO .none) (hTI:IsPair s.heap TI (.ref i1) (.ref i2)) (hTO:IsPair s.heap TO a b) (n1:l1≠TO) (n2:l2≠TO)
    (h1:SqI b1 s.heap i1 l1 k1) (h2:SqI b2 s.heap i2 l2 k2) (hl1:SqO b1 s.heap l1 xs) (hl2:SqO b2 s.heap l2 ys) (hx:xs[k1]?=some x) (hy:ys[k2]?=some y)
    (hQ:∀ h',IsZip h' z TI TO (rawInt s.heap.objs.size)→IsPair h' TO x y→SqI b1 h' i1 l1 (k1+1)→SqI b2 h' i2 l2 (k2+1)→IsPair h' s.heap.objs.size x y→h'.objs.size=s.heap.objs.size+1 →
      (∀ c o,c∉[z,TO,i1,i2]→s.heap.get? c=some o→h'.get? c=some o)→Q (.ref s.heap.objs.size) { s with heap:=h' }) :
    wpAny (model prog w) A (Builtin.«zip.__next__» ⟨[.ref z],[]⟩) (fun fin s'=>∃ v,fin=.done (.ret v)∧Q v s') E s:=by
  have l1z:l1≠z:=hl1.ne hz (by simp) (by simp)
  have l2z:l2≠z:=hl2.ne hz (by simp) (by simp)
  have l2i1:l2≠i1:=hl2.ne_it h1
  show wpAny _ _ (field (.ref z) 2 >>= _) _ _ _
  refine wpAny_bind (wpAny_field hz rfl (x:=.bool false) rfl ?_)
  show wpAny _ _ (field (.ref z) 3 >>= _) _ _ _
  refine wpAny_bind (wpAny_field hz rfl (x:=.ref TI) rfl (wpAny_bind (wpAny_seqItems hTI rfl ?_)))
  show wpAny _ _ (Builtin.SmallTypes.ownedTupleIsFree (.ref z) >>= _) _ _ _
  refine wpAny_bind ?_
  unfold Builtin.SmallTypes.ownedTupleIsFree
  refine wpAny_bind (wpAny_field hz rfl (x:=.none) rfl (wpAny_pure ?_))
  simp only [if_true]
  refine wpAny_bind (wpAny_rule (wpAny_bind (wpAny_field hz rfl (x:=.ref TO) rfl (wpAny_bind (wpAny_setField_rec hz (by simp) fun g1 z1 s1=>?_)))))
  replace z1:IsZip g1 z TI TO .ellipsis:=z1
  refine wpAny_bind ?_
  simp only [List.zipIdx_cons,List.zipIdx_nil,List.forIn_cons,List.forIn_nil]
  refine wpAny_bind (wpAny_bind (wpAny_onRaise ?_))
  show wpAny _ _ (Builtin.SmallTypes.nextOf (.ref i1) >>= _) _ _ _
  refine wpAny_bind (qdR (h1.but s1 D.a3) (hl1.but s1 l1z) hx fun g2 p2 s2=>wpAny_pure ?_)
  have t2:IsPair g2 TO a b:=s2.extBut _ _ D.a8 (s1.extBut _ _ D.a2 hTO)
  refine wpAny_bind (wpAny_seqItems t2 rfl (wpAny_bind (wpAny_updateSeq_pair t2 fun g3 t3 s3=>wpAny_bind (wpAny_letGo (wpAny_pure ?_)))))
  replace t3:IsPair g3 TO x b:=t3
  refine wpAny_bind (wpAny_bind (wpAny_onRaise ?_))
  show wpAny _ _ (Builtin.SmallTypes.nextOf (.ref i2) >>= _) _ _ _
  refine wpAny_bind (qdR (((h2.but s1 D.a4).but s2 D.a0.symm).but s3 D.a9.symm) (((hl2.but s1 l2z).but s2 l2i1).but s3 n2) hy fun g4 p4 s4=>wpAny_pure ?_)
  have t4:IsPair g4 TO x b:=s4.extBut _ _ D.a9 t3
  refine wpAny_bind (wpAny_seqItems t4 rfl (wpAny_bind (wpAny_updateSeq_pair t4 fun g5 t5 s5=>wpAny_bind (wpAny_letGo (wpAny_pure (wpAny_pure ?_))))))
  replace t5:IsPair g5 TO x y:=t5
  refine wpAny_bind (wpAny_seqItems t5 rfl (wpAny_bind (wpAny_newTuple ?_)))
  have sz:g5.objs.size=s.heap.objs.size:=by rw [s5.1,s4.1,s3.1,s2.1,s1.1]
  have z5:IsZip g5 z TI TO .ellipsis:=s5.extBut _ _ D.a2.symm (s4.extBut _ _ D.a4.symm (s3.extBut _ _ D.a2.symm (s2.extBut _ _ D.a3.symm z1)))
  have k5:∀ c o,c∉[z,TO,i1,i2]→s.heap.get? c=some o→g5.get? c=some o:=fun c o hc e=>by
    have c1:c≠z:=fun q=>hc (by simp [q])
    have c2:c≠TO:=fun q=>hc (by simp [q])
    have c3:c≠i1:=fun q=>hc (by simp [q])
    have c4:c≠i2:=fun q=>hc (by simp [q])
    exact s5.extBut _ _ c2 (s4.extBut _ _ c4 (s3.extBut _ _ c2 (s2.extBut _ _ c3 (s1.extBut _ _ c1 e))))
  have q1:SqI b1 g5 i1 l1 (k1+1):=((p2.but s3 D.a8.symm).but s4 D.a0).but s5 D.a8.symm
  have q2:SqI b2 g5 i2 l2 (k2+1):=p4.but s5 D.a9.symm
  show wpAny _ _ (Builtin.SmallTypes.ownedTupleHandOut (.ref z) (.ref g5.objs.size) >>= _) _ _ _
  refine wpAny_bind ?_
  unfold Builtin.SmallTypes.ownedTupleHandOut
  have z6:IsZip (g5.push { cls:=.type "tuple",data:=.seq #[x,y] }) z TI TO .ellipsis:=Heap.get?_push_of_some _ z5
  refine wpAny_bind (wpAny_setField_rec z6 (by simp) fun g7 z7 s7=>?_)
  replace z7:IsZip g7 z TI TO (rawInt g5.objs.size):=z7
  refine wpAny_setField_rec z7 (by simp) fun g8 z8 s8=>?_
  replace z8:IsZip g8 z TI TO (rawInt g5.objs.size):=z8
  have up:∀ c o,c≠z→g5.get? c=some o→g8.get? c=some o:=fun c o c1 e=>s8.extBut _ _ c1 (s7.extBut _ _ c1 (Heap.get?_push_of_some _ e))
  have zl:g5.objs.size≠z:=Nat.ne_of_gt (Heap.lt_size z5)
  have t8:IsPair g8 g5.objs.size x y:=s8.extBut _ _ zl (s7.extBut _ _ zl (Heap.get?_push_size _ rfl))
  have e8:g8.objs.size=g5.objs.size+1:=by rw [s8.1,s7.1,Heap.size_push]
  rw [sz] at z8 t8 e8
  refine wpAny_pure ⟨_,rfl,?_⟩
  show Q (.ref g5.objs.size) _
  rw [sz]
  exact hQ g8 z8 (up _ _ D.a2 t5) (q1.at fun o e=>up _ o D.a3 e) (q2.at fun o e=>up _ o D.a4 e) t8 e8 fun c o hc e=>up c o (fun q=>hc (by simp [q])) (k5 c o hc e)
theorem qi3 {b1 b2:Bool} {z TI TO i1 i2 l1 l2:Addr} {k1 k2:Nat} {xs ys:Array Value} {a b:Value} {Q:Fin→Shared→Prop} (hh:A.handled=none) (D:ZAp z TI TO i1 i2)
    (hz:IsZip s.heap z TI TO .none) (hTI:IsPair s.heap TI (.ref i1) (.ref i2)) (hTO:IsPair s.heap TO a b) (n1:l1≠TO) (n2:l2≠TO)
    (h1:SqI b1 s.heap i1 l1 k1) (h2:SqI b2 s.heap i2 l2 k2) (hl1:SqO b1 s.heap l1 xs) (hl2:SqO b2 s.heap l2 ys) (hend:xs[k1]?=none∨ys[k2]?=none)
    (hE:∀ h' e,(∀ c o,c∉[z,TO,i1,i2]→s.heap.get? c=some o→h'.get? c=some o)→(∃ o,h'.get? e=some o∧o.cls=.type "StopIteration")→E (.ref e) { s with heap:=h' }) :
    wpAny (model prog w) A (Builtin.«zip.__next__» ⟨[.ref z],[]⟩) Q E s:=by
  have l1z:l1≠z:=hl1.ne hz (by simp) (by simp)
  have l2z:l2≠z:=hl2.ne hz (by simp) (by simp)
  have l2i1:l2≠i1:=hl2.ne_it h1
  show wpAny _ _ (field (.ref z) 2 >>= _) _ _ _
  refine wpAny_bind (wpAny_field hz rfl (x:=.bool false) rfl ?_)
  show wpAny _ _ (field (.ref z) 3 >>= _) _ _ _
  refine wpAny_bind (wpAny_field hz rfl (x:=.ref TI) rfl (wpAny_bind (wpAny_seqItems hTI rfl ?_)))
  show wpAny _ _ (Builtin.SmallTypes.ownedTupleIsFree (.ref z) >>= _) _ _ _
  refine wpAny_bind ?_
  unfold Builtin.SmallTypes.ownedTupleIsFree
  refine wpAny_bind (wpAny_field hz rfl (x:=.none) rfl (wpAny_pure ?_))
  simp only [if_true]
  refine wpAny_bind (wpAny_rule (wpAny_bind (wpAny_field hz rfl (x:=.ref TO) rfl (wpAny_bind (wpAny_setField_rec hz (by simp) fun g1 z1 s1=>?_)))))
  replace z1:IsZip g1 z TI TO .ellipsis:=z1
  refine wpAny_bind ?_
  simp only [List.zipIdx_cons,List.zipIdx_nil,List.forIn_cons,List.forIn_nil]
  refine wpAny_bind (wpAny_bind (wpAny_onRaise ?_))
  show wpAny _ _ (Builtin.SmallTypes.nextOf (.ref i1) >>= _) _ _ _
  cases hx:xs[k1]? with
  | none =>
    refine wpAny_bind (qfb hh (h1.but s1 D.a3) (hl1.but s1 l1z) hx fun g2 e s2 he=>?_)
    obtain ⟨oe,hoe,hce⟩:=he
    have z2:IsZip g2 z TI TO .ellipsis:=s2 _ _ D.a3.symm z1
    have ez:e≠z:=fun q=>by subst q;rw [z2] at hoe;cases hoe;simp at hce
    refine wpAny_setField_rec z2 (by simp) fun g3 _ s3=>hE g3 e (fun c o hc q=>?_) ⟨oe,s3.extBut _ _ ez hoe,hce⟩
    have c1:c≠z:=fun q=>hc (by simp [q])
    exact s3.extBut _ _ c1 (s2 _ _ (fun q=>hc (by simp [q])) (s1.extBut _ _ c1 q))
  | some x =>
    have hy:ys[k2]?=none:=by
      rcases hend with h | h
      · rw [hx] at h;cases h
      · exact h
    refine wpAny_bind (qdR (h1.but s1 D.a3) (hl1.but s1 l1z) hx fun g2 p2 s2=>wpAny_pure ?_)
    have t2:IsPair g2 TO a b:=s2.extBut _ _ D.a8 (s1.extBut _ _ D.a2 hTO)
    refine wpAny_bind (wpAny_seqItems t2 rfl (wpAny_bind (wpAny_updateSeq_pair t2 fun g3 t3 s3=>wpAny_bind (wpAny_letGo (wpAny_pure ?_)))))
    refine wpAny_bind (wpAny_bind (wpAny_onRaise ?_))
    show wpAny _ _ (Builtin.SmallTypes.nextOf (.ref i2) >>= _) _ _ _
    refine wpAny_bind (qfb hh (((h2.but s1 D.a4).but s2 D.a0.symm).but s3 D.a9.symm) (((hl2.but s1 l2z).but s2 l2i1).but s3 n2) hy fun g4 e s4 he=>?_)
    obtain ⟨oe,hoe,hce⟩:=he
    have z4:IsZip g4 z TI TO .ellipsis:=s4 _ _ D.a4.symm (s3.extBut _ _ D.a2.symm (s2.extBut _ _ D.a3.symm z1))
    have ez:e≠z:=fun q=>by subst q;rw [z4] at hoe;cases hoe;simp at hce
    refine wpAny_setField_rec z4 (by simp) fun g5 _ s5=>hE g5 e (fun c o hc q=>?_) ⟨oe,s5.extBut _ _ ez hoe,hce⟩
    have c1:c≠z:=fun q=>hc (by simp [q])
    exact s5.extBut _ _ c1 (s4 _ _ (fun q=>hc (by simp [q])) (s3.extBut _ _ (fun q=>hc (by simp [q])) (s2.extBut _ _ (fun q=>hc (by simp [q])) (s1.extBut _ _ c1 q))))
theorem qjb (b1 b2:Bool) (l1 l2:Addr) (xs ys:Array Value) :
    Meets (Builtin.«zip.__new__» ⟨[.type "zip",.ref l1,.ref l2],[]⟩) (fun _ R s=>SqO b1 s.heap l1 xs∧SqO b2 s.heap l2 ys ∧
      R (.ok (.ret (.ref (s.heap.objs.size+4)))) { s with heap:=((((s.heap.push (qa8 b1 l1)).push (qa8 b2 l2)).push { cls:=.type "tuple",data:=.seq #[.ref s.heap.objs.size,.ref (s.heap.objs.size+1)] }).push { cls:=.type "tuple",data:=.seq #[.none,.none] }).push { cls:=.type "zip",data:=.fields #[.none,.bool false,.bool false,.ref (s.heap.objs.size+2),.ref (s.heap.objs.size+3)] } }) :=
  .of_wp fun prog w A R s h=>by
    obtain ⟨hp,g,d,tk,os⟩:=s;obtain ⟨hl1,hl2,h⟩:=h
    have hsub:=sub_zip
    have hL1:SqO b1 (Shared.heap ⟨hp,g,d,tk,os⟩) l1 xs:=hl1
    have hL2:SqO b2 (Shared.heap ⟨hp.push (qa8 b1 l1),g,d,tk,os⟩) l2 ys:=SqO.at hl2 fun o e=>Heap.get?_push_of_some _ e
    wp_walk using qdK hL1,qdK hL2
    have e1:(hp.push (qa8 b1 l1)).objs.size=hp.objs.size+1:=Heap.size_push ..
    have e2:((hp.push (qa8 b1 l1)).push (qa8 b2 l2)).objs.size=hp.objs.size+2:=by rw [Heap.size_push,e1]
    refine ⟨_,rfl,?_⟩
    simp only [Heap.size_push]
    exact h
theorem qhX {b1 b2:Bool} {l1 l2:Addr} {xs ys:Array Value} {Q:Value→Shared→Prop} (hl1:SqO b1 s.heap l1 xs) (hl2:SqO b2 s.heap l2 ys)
    (h:∀ h',IsZip h' (s.heap.objs.size+4) (s.heap.objs.size+2) (s.heap.objs.size+3) .none→IsPair h' (s.heap.objs.size+2) (.ref s.heap.objs.size) (.ref (s.heap.objs.size+1))→IsPair h' (s.heap.objs.size+3) .none .none →
      SqI b1 h' s.heap.objs.size l1 0→SqI b2 h' (s.heap.objs.size+1) l2 0→(∀ c o,s.heap.get? c=some o→h'.get? c=some o)→Q (.ref (s.heap.objs.size+4)) { s with heap:=h' }) :
    wpAny (model prog w) A (call (.type "zip") [.ref l1,.ref l2]) Q E s:=by
  refine callType_new F.called_zip (by decide) (F.typeCall_zip_2 _ _) (F.newCall_zip_2 _ _) (fun obj=>F.args_object_init_3 obj _ _) F.entry_zip_new (qjb b1 b2 l1 l2 xs ys) ⟨hl1,hl2,?_⟩
  have f1:(qa8 b1 l1).isFreed=false:=by cases b1 <;> rfl
  have f2:(qa8 b2 l2).isFreed=false:=by cases b2 <;> rfl
  have z1:(s.heap.push (qa8 b1 l1)).objs.size=s.heap.objs.size+1:=Heap.size_push ..
  have z2:((s.heap.push (qa8 b1 l1)).push (qa8 b2 l2)).objs.size=s.heap.objs.size+2:=by rw [Heap.size_push,z1]
  generalize hg2:(s.heap.push (qa8 b1 l1)).push (qa8 b2 l2)=g2 at z2 ⊢
  have e0:g2.get? s.heap.objs.size=some (qa8 b1 l1):=by rw [← hg2];exact Heap.get?_push_of_some _ (Heap.get?_push_size _ f1)
  have e1:g2.get? (s.heap.objs.size+1)=some (qa8 b2 l2):=by rw [← hg2,← z1];exact Heap.get?_push_size _ f2
  have k2:∀ c o,s.heap.get? c=some o→g2.get? c=some o:=fun c o q=>by rw [← hg2];exact Heap.get?_push_of_some _ (Heap.get?_push_of_some _ q)
  generalize hg3:g2.push { cls:=.type "tuple",data:=.seq #[.ref s.heap.objs.size,.ref (s.heap.objs.size+1)] }=g3
  have z3:g3.objs.size=s.heap.objs.size+3:=by rw [← hg3,Heap.size_push,z2]
  have e2:IsPair g3 (s.heap.objs.size+2) (.ref s.heap.objs.size) (.ref (s.heap.objs.size+1)):=by rw [← hg3,← z2];exact Heap.get?_push_size _ rfl
  have k3:∀ c o,g2.get? c=some o→g3.get? c=some o:=fun c o q=>by rw [← hg3];exact Heap.get?_push_of_some _ q
  generalize hg4:g3.push { cls:=.type "tuple",data:=.seq #[.none,.none] }=g4
  have z4:g4.objs.size=s.heap.objs.size+4:=by rw [← hg4,Heap.size_push,z3]
  have e3:IsPair g4 (s.heap.objs.size+3) .none .none:=by rw [← hg4,← z3];exact Heap.get?_push_size _ rfl
  have k4:∀ c o,g3.get? c=some o→g4.get? c=some o:=fun c o q=>by rw [← hg4];exact Heap.get?_push_of_some _ q
  generalize hg5:g4.push { cls:=.type "zip",data:=.fields #[.none,.bool false,.bool false,.ref (s.heap.objs.size+2),.ref (s.heap.objs.size+3)] }=g5
  have e4:IsZip g5 (s.heap.objs.size+4) (s.heap.objs.size+2) (s.heap.objs.size+3) .none:=by rw [← hg5,← z4];exact Heap.get?_push_size _ rfl
  have k5:∀ c o,g4.get? c=some o→g5.get? c=some o:=fun c o q=>by rw [← hg5];exact Heap.get?_push_of_some _ q
  show _∧_
  exact ⟨⟨_,e4,rfl⟩,h _ e4 (k5 _ _ (k4 _ _ e2)) (k5 _ _ e3) (qb3 (k5 _ _ (k4 _ _ (k3 _ _ e0)))) (qb3 (k5 _ _ (k4 _ _ (k3 _ _ e1)))) fun c o q=>k5 _ _ (k4 _ _ (k3 _ _ (k2 _ _ q)))⟩
theorem qga {b1 b2:Bool} {z TI TO i1 i2 l1 l2:Addr} {k1 k2:Nat} {xs ys:Array Value} {x y a b:Value} {Q:Option Value→Shared→Prop} (D:ZAp z TI TO i1 i2)
    (hz:IsZip s.heap z TI TO .none) (hTI:IsPair s.heap TI (.ref i1) (.ref i2)) (hTO:IsPair s.heap TO a b) (n1:l1≠TO) (n2:l2≠TO)
    (h1:SqI b1 s.heap i1 l1 k1) (h2:SqI b2 s.heap i2 l2 k2) (hl1:SqO b1 s.heap l1 xs) (hl2:SqO b2 s.heap l2 ys) (hx:xs[k1]?=some x) (hy:ys[k2]?=some y)
    (hQ:∀ h',IsZip h' z TI TO (rawInt s.heap.objs.size)→IsPair h' TO x y→SqI b1 h' i1 l1 (k1+1)→SqI b2 h' i2 l2 (k2+1)→IsPair h' s.heap.objs.size x y→h'.objs.size=s.heap.objs.size+1 →
      (∀ c o,c∉[z,TO,i1,i2]→s.heap.get? c=some o→h'.get? c=some o)→Q (some (.ref s.heap.objs.size)) { s with heap:=h' }):wpAny (model prog w) A (pyNext (.ref z)) Q E s:=by
  have hT:s.TypeIs (.ref z) "zip":=⟨_,hz,rfl⟩
  unfold pyNext
  exact wpAny_bind (wpAny_attempt (wpAny_callSpecial?_slot (name:=Str.ofString "__next__") hT F.slot_zip_next (wpAny_call_entry F.slot_zip_next hT F.entry_zip_next
    (qhx D hz hTI hTO n1 n2 h1 h2 hl1 hl2 hx hy fun h' c1 c2 c3 c4 c5 c6 c7=>wpAny_pure (hQ h' c1 c2 c3 c4 c5 c6 c7)) (F.args_zip_next_1 _))))
theorem qhu {b1 b2:Bool} {z TI TO i1 i2 l1 l2:Addr} {k1 k2:Nat} {xs ys:Array Value} {a b:Value} {Q:Option Value→Shared→Prop} (hh:A.handled=none) (D:ZAp z TI TO i1 i2)
    (hz:IsZip s.heap z TI TO .none) (hTI:IsPair s.heap TI (.ref i1) (.ref i2)) (hTO:IsPair s.heap TO a b) (n1:l1≠TO) (n2:l2≠TO)
    (h1:SqI b1 s.heap i1 l1 k1) (h2:SqI b2 s.heap i2 l2 k2) (hl1:SqO b1 s.heap l1 xs) (hl2:SqO b2 s.heap l2 ys) (hend:xs[k1]?=none∨ys[k2]?=none)
    (hQ:∀ h',(∀ c o,c∉[z,TO,i1,i2]→s.heap.get? c=some o→h'.get? c=some o)→Q none { s with heap:=h' }):wpAny (model prog w) A (pyNext (.ref z)) Q E s:=by
  have hT:s.TypeIs (.ref z) "zip":=⟨_,hz,rfl⟩
  unfold pyNext
  refine wpAny_bind (wpAny_attempt (wpAny_callSpecial?_slot (name:=Str.ofString "__next__") hT F.slot_zip_next (wpAny_call_entry F.slot_zip_next hT F.entry_zip_next (qi3 hh D hz hTI hTO n1 n2 h1 h2 hl1 hl2 hend fun h' e hk he=>?_) (F.args_zip_next_1 _))))
  obtain ⟨o,ho,hc⟩:=he
  exact wpAny_bind (wpAny_isInstance (T:="StopIteration") (b:=true) ⟨o,ho,hc⟩ isSubtype_stop (wpAny_pure (hQ _ hk)))
end
theorem Inv.sqb_ne {X:Cx} {pins:List (Addr × Obj)} {σ:St} {H:Hp} {s:Shared} {b:Bool} {a c:Addr} {xs:List V} (I:Inv X pins σ H s) (h:SqB X.K b H a xs) (f:FpOk X pins H c):a≠c:=fun z=>by
  subst z
  have nk:∀ o,X.K.lookup a=some o→False:=fun o e=>by
    have e':=I.mod.kin a o e
    rcases f.2.2.2.1 with q | q
    · exact I.ok.noex a o e' q
    · exact absurd (Nat.lt_of_lt_of_le (Heap.lt_size e') (Nat.le_trans I.ok.bsz q)) (Nat.lt_irrefl _)
  cases b with
  | true =>
    rcases h with (h | ⟨o,h⟩) | ⟨o,_,_,h,_⟩
    · rw [f.1] at h;cases h
    · rw [f.1] at h;cases h
    · exact nk o h
  | false =>
    rcases h with (h | ⟨o,h⟩) | ⟨o,_,_,h,_⟩
    · rw [f.1] at h;cases h
    · rw [f.1] at h;cases h
    · exact nk o h
def Itz (K:PySem.W.Frag) (b1:Bool) (a1:Addr) (b2:Bool) (a2:Addr):It :=
  ⟨fun i H=>∃ xs ys x y,SqB K b1 H a1 xs∧SqB K b2 H a2 ys∧xs[i]?=some x∧ys[i]?=some y,
   fun i H v H'=>∃ t x y,H t=none∧v=.ref t∧H'=upd H t (.tup [x,y])∧(∀ xs,SqB K b1 H a1 xs→xs[i]?=some x)∧∀ ys,SqB K b2 H a2 ys→ys[i]?=some y,
   fun i H=>∃ xs ys,SqB K b1 H a1 xs∧SqB K b2 H a2 ys∧(xs.length≤i∨ys.length≤i)⟩
theorem qhQ {P:Program} {w:World} {K:PySem.W.Frag} {es:List Expr} {k:Nat} {pos:Pos} (b1 b2:Bool) (a1 a2 z TI TO i1 i2:Addr) (D:ZAp z TI TO i1 i2) :
    Turn P w K (.Tuple es k pos) (Itz K b1 a1 b2 a2) [z,TI,TO,i1,i2] z (fun i h=>IsZip h z TI TO .none∧IsPair h TI (.ref i1) (.ref i2)∧(∃ a b,IsPair h TO a b)∧SqI b1 h i1 a1 i∧SqI b2 h i2 a2 i) where
  mem:=by simp
  obj:=fun i h st c hc=>by
    obtain ⟨h1,h2,⟨a,b,h3⟩,h4,h5⟩:=st
    simp only [List.mem_cons,List.not_mem_nil,or_false] at hc
    rcases hc with rfl | rfl | rfl | rfl | rfl
    · exact ⟨_,h1,fun v q=>by have q':Data.fields _=Data.cell v:=q;cases q'⟩
    · exact ⟨_,h2,fun v q=>by have q':Data.seq _ _=Data.cell v:=q;cases q'⟩
    · exact ⟨_,h3,fun v q=>by have q':Data.seq _ _=Data.cell v:=q;cases q'⟩
    · exact h4.obj
    · exact h5.obj
  keep:=fun i h h' st k=>by
    obtain ⟨h1,h2,⟨a,b,h3⟩,h4,h5⟩:=st
    exact ⟨k z (by simp) _ h1,k TI (by simp) _ h2,⟨a,b,k TO (by simp) _ h3⟩,h4.at fun o q=>k i1 (by simp) o q,h5.at fun o q=>k i2 (by simp) o q⟩
  item:=by
    intro X hP hw hK hc i pins s σ H E I hf st hg
    subst hP hw hK
    obtain ⟨xs,ys,x,y,hq1,hq2,hx,hy⟩:=hg
    obtain ⟨h1,h2,⟨a,b,h3⟩,h4,h5⟩:=st
    obtain ⟨its1,rv1,p1,_⟩:=I.sqb hq1
    obtain ⟨its2,rv2,p2,_⟩:=I.sqb hq2
    obtain ⟨u,hu,ru⟩:=rv1.get hx
    obtain ⟨v,hv,rv⟩:=rv2.get hy
    refine qga D h1 h2 h3 (I.sqb_ne hq1 (hf TO (by simp))) (I.sqb_ne hq2 (hf TO (by simp))) h4 h5 p1 p2 (x:=u) (y:=v) (by simpa using hu) (by simpa using hv) fun h' z1 z2 z3 z4 z5 z6 hk=>?_
    refine ⟨.ref s.heap.objs.size,rfl,wpAny_letOwnedTupleGo_zip z1 fun g2 zz hs2=>?_⟩
    have zn:H s.heap.objs.size=none:=I.fresh
    have I1:Inv X pins σ (upd H s.heap.objs.size (.tup [x,y])) { s with heap:=s.heap.push { cls:=.type "tuple",data:=.seq #[u,v] },toks:=s.toks } :=
      I.laid (fun c o q=>Heap.get?_push_of_some _ q) (Nat.le_refl _) ⟨by show 2≤sizeLine;decide,[u,v],.cons ru (.cons rv .nil),_,Heap.get?_push_size _ rfl,⟨rfl,rfl⟩,0,rfl⟩
    have lts:∀ c∈[z,TI,TO,i1,i2],c<s.heap.objs.size:=fun c hc=>by
      simp only [List.mem_cons,List.not_mem_nil,or_false] at hc
      rcases hc with rfl | rfl | rfl | rfl | rfl
      · exact Heap.lt_size h1
      · exact Heap.lt_size h2
      · exact Heap.lt_size h3
      · exact h4.lt
      · exact h5.lt
    have f1:∀ c∈[z,TI,TO,i1,i2],FpOk X pins (upd H s.heap.objs.size (.tup [x,y])) c:=fun c hc=>⟨by rw [qad (Nat.ne_of_lt (lts c hc))];exact (hf c hc).1,(hf c hc).2⟩
    have I2:=I1.turnedL (h':=g2) (ch:=[z,TI,TO,i1,i2]) (t':=s.toks) (fun c o hc q=>?_) f1
    · refine ⟨.ref s.heap.objs.size,_,I2,rfl,⟨s.heap.objs.size,x,y,zn,rfl,rfl,fun xs' hy'=>by rw [I.sqb_inj hy' hq1];exact hx,fun ys' hy'=>by rw [I.sqb_inj hy' hq2];exact hy⟩,
        ⟨zz,hs2.extBut _ _ D.a1 (hk TI _ (by simp [D.a1,D.a5,D.a6,D.a7]) h2),⟨_,_,hs2.extBut _ _ D.a2 z2⟩,z3.but hs2 D.a3,z4.but hs2 D.a4⟩,fun c hc=>(f1 c hc).1⟩
    · have hcz:c≠z:=fun e=>hc (by simp [e])
      refine (hs2.2 c hcz).trans ?_
      rcases Heap.get?_push_cases q with ⟨e,e'⟩ | q'
      · subst e;subst e';exact z5
      · exact hk c o (fun e=>hc (by
          simp only [List.mem_cons,List.not_mem_nil,or_false] at e ⊢
          rcases e with e | e | e | e
          · exact .inl e
          · exact .inr (.inr (.inl e))
          · exact .inr (.inr (.inr (.inl e)))
          · exact .inr (.inr (.inr (.inr e))))) q'
  done:=by
    intro X hP hw hK hc i pins s σ H E I hf st hg
    subst hP hw hK
    obtain ⟨xs,ys,hq1,hq2,hend⟩:=hg
    obtain ⟨h1,h2,⟨a,b,h3⟩,h4,h5⟩:=st
    obtain ⟨its1,rv1,p1,_⟩:=I.sqb hq1
    obtain ⟨its2,rv2,p2,_⟩:=I.sqb hq2
    have l1:=rv1.length
    have l2:=rv2.length
    have he:its1.toArray[i]?=none∨its2.toArray[i]?=none:=by
      rcases hend with q | q
      · exact .inl (by simp;omega)
      · exact .inr (by simp;omega)
    refine qhu (I.ok.hd hc) D h1 h2 h3 (I.sqb_ne hq1 (hf TO (by simp))) (I.sqb_ne hq2 (hf TO (by simp))) h4 h5 p1 p2 he fun h' hk=>⟨rfl,?_⟩
    refine I.turnedL (ch:=[z,TI,TO,i1,i2]) (t':=s.toks) (fun c o hc q=>hk c o (fun e=>hc ?_) q) hf
    simp only [List.mem_cons,List.not_mem_nil,or_false] at e ⊢
    rcases e with e | e | e | e
    · exact .inl e
    · exact .inr (.inr (.inl e))
    · exact .inr (.inr (.inr (.inl e)))
    · exact .inr (.inr (.inr (.inr e)))
  self:=fun _ _ _ _ _ st h=>wpAny_pyIter_zip st.1 h
theorem zap (n:Nat):ZAp (n+4) (n+2) (n+3) n (n+1) :=
  ⟨(by omega:n+2≠n+4),(by omega:n+3≠n+4),(by omega:n≠n+4),(by omega:n+1≠n+4),(by omega:n+2≠n+3),(by omega:n+2≠n),(by omega:n+2≠n+1),(by omega:n+3≠n),(by omega:n+3≠n+1),(by omega:n≠n+1)⟩
section
variable {X : Cx}
end
end L2
namespace L2
open PySem PySem.Spec PyProof.Rows
section
variable {X : Cx}
theorem qgv:OpR X (binaryOp .Mult) (rI IntMulOk fun i j=>.int (i*j)):=opI fun _ _ _ _ _ _ _ hc q=>mul_int q hc
def CDivB (i j:Int):Prop:=0<j∧j.natAbs.log2<9000
theorem qhq:OpR X (binaryOp .FloorDiv) (rI CDivB fun i j=>.int (i / j)):=opI fun i j _ _ _ _ _ hc q=>by
  have h1:(0:Int)<j:=hc.1
  exact floordiv_int (by omega) (by rw [Int.fdiv_eq_ediv_of_nonneg i (by omega)];exact q) (.inl (PyProof.noPylong_of_log2 hc.2))
end
theorem qch {n k:Nat} (hk:0<k) (h:n<2 ^ k):n.log2<k:=by
  rcases Nat.eq_zero_or_pos n with z | z
  · subst z;simpa using hk
  · exact (Nat.log2_lt (Nat.ne_of_gt z)).mpr h
theorem CDivB.of {i j:Int} (h0:0<j) (h:j<2 ^ 9000):CDivB i j:=⟨h0,qch (by decide) (by
  have e:(j.natAbs:Int)=j:=Int.natAbs_of_nonneg (Int.le_of_lt h0)
  have:(j.natAbs:Int)<((2 ^ 9000:Nat):Int):=by rw [e];exact_mod_cast h
  exact_mod_cast this)⟩
theorem qdz {a:Int} {k:Nat} (hk:0<k) (h:a.natAbs<2 ^ k):Builtin.Int.intBits a≤k:=by
  unfold Builtin.Int.intBits
  split
  · exact Nat.zero_le _
  · exact qch hk h
theorem qht {a b:Int} {m n:Nat} (hm:0<m) (hn:0<n) (ha:a.natAbs<2 ^ m) (hb:b.natAbs<2 ^ n) (h:m+n≤134217728):IntMulOk a b:=PyProof.Rows.mulOk_of_bits (qdz hm ha) (qdz hn hb) h
theorem qbk {a b:Int} (h1:-(2 ^ 64)<a) (h2:a<2 ^ 64):IntMulOk a b:=.of_left (intBits_le_64 h1 h2)
theorem qeG {a b:Int} (h1:-(2 ^ 64)<b) (h2:b<2 ^ 64):IntMulOk a b:=.of_right (intBits_le_64 h1 h2)
section
variable {prog : Program} {w : World} {A : Around} {E : Value → Shared → Prop} {s : Shared}
theorem qd5 {it t:Addr} {items:Array Value} (hne:t≠it):∀ (n i:Nat) (s:Shared) (Q:List Value→Shared→Prop),s.heap.IsListIter it t i→s.heap.IsList t items→i+n≤items.size →
    (∀ h',h'.IsListIter it t (i+n)→Heap.SameBut it s.heap h'→Q ((items.toList.drop i).take n) { s with heap:=h' })→wpAny (model prog w) A (draw (.ref it) n) Q E s
  | 0,i,s,Q,hit,_,_,hQ=>by
    show wpAny _ _ (pure []) Q E s
    exact wpAny_pure (by simpa using hQ s.heap hit (Heap.SameBut.refl ..))
  | n+1,i,s,Q,hit,ht,hle,hQ=>by
    have hlt:i<items.size:=by omega
    show wpAny _ _ (pyNext (.ref it) >>= _) Q E s
    refine wpAny_bind (wpAny_pyNext_list_item hit ht (x:=items[i]) (by simp [hlt]) fun g1 hit1 s1=>?_)
    refine wpAny_bind (wpAny_holding (qd5 hne n (i+1) _ _ hit1 (ht.extBut s1.extBut hne) (by omega) fun g2 hit2 s2=>wpAny_pure ?_))
    have hd:items.toList.drop i=items[i]::items.toList.drop (i+1):=by simp [List.drop_eq_getElem_cons,hlt]
    have:=hQ g2 (by rw [show i+(n+1)=i+1+n by omega];exact hit2) (s1.trans s2)
    rw [hd,List.take_succ_cons] at this
    exact this
theorem qcC {t:Addr} {items:Array Value} {Q:List Value→Shared→Prop} (hh:A.handled=none) (ht:s.heap.IsList t items)
    (hQ:∀ h',Heap.ExtBut s.heap.objs.size s.heap h'→Q items.toList { s with heap:=h' }):wpAny (model prog w) A (unpackItems (.ref t) items.size none) Q E s:=by
  have hlt:t≠s.heap.objs.size:=by obtain ⟨o,ho,_⟩:=ht;exact Nat.ne_of_lt (Heap.lt_size ho)
  unfold unpackItems
  refine wpAny_bind ?_
  unfold notIterableAtAll
  refine wpAny_bind (wpAny_specialOf ht.typeIs slot_list_iter.lookup (wpAny_pure ?_))
  simp only [Bool.false_eq_true,if_false]
  refine wpAny_bind (wpAny_holding (wpAny_pyIter_list ht (wpAny_bind (wpAny_holding (qd5 hlt items.size 0 _ _ ⟨_,Heap.get?_push_size _ rfl,rfl,rfl⟩ (ht.push _) (by omega) fun g1 hit1 s1=>?_)))))
  have hall:List.take items.size (List.drop 0 items.toList)=items.toList:=by
    rw [List.drop_zero];exact List.take_of_length_le (by simp)
  rw [hall,if_neg (by simp)]
  have ht1:g1.IsList t items:=(ht.push _).extBut s1.extBut hlt
  refine wpAny_bind (wpAny_holding (wpAny_pyNext_list_end hh hit1 ht1 (by simp) fun g2 e2=>?_))
  simp only [Option.isSome_none,Bool.false_eq_true,if_false]
  exact wpAny_pure (hQ g2 fun b o hb e=>e2 b o hb (s1.extBut b o hb (Heap.get?_push_of_some _ e)))
end
section
variable {X : Cx} {pos : Pos}
def qlx (K:PySem.W.Frag) (n:Nat) (t:TGs):TG:=fun v σ H Q=>∃ a xs,v=.ref a∧SqL K H a xs∧xs.length=n∧t xs σ H Q
theorem qkp {es:List Expr} {k:Nat} {t:TGs} {n:Nat} (hc:X.calm=true) (h:PGs X es t)
    (hn:(assignEach es X.env).length=n:=by rfl) (hst:(assignEach es X.env).findIdx? (·.1)=none:=by rfl):PG X (.Tuple es k pos) (qlx X.K n t):=by
  intro pins s σ H v u Q I r hw
  obtain ⟨a,xs,e1,hq,hl,hw⟩:=hw
  subst e1
  cases r
  obtain ⟨its,rv,ht,hz⟩:=I.list hq
  rw [assign_Tuple]
  refine wpAny_bind (wpAny_standAt ?_)
  unfold unpack
  have e0:(assignEach es X.env).length=its.toArray.size:=by simp [hn,← hl,rv.length]
  rw [e0,hst]
  refine wpAny_bind (wpAny_holding (qcC (I.ok.hd hc) ht.isList fun h' hx=>?_))
  have I1:Inv X pins σ H { s with heap:=h' }:=I.kept (t':=s.toks) fun b o e=>hx b o (Nat.ne_of_lt (Heap.lt_size e)) e
  exact h pins _ σ H xs _ Q I1 (by simpa using rv) hw
end
inductive IsiV (K:PySem.W.Frag) (H:Hp):V→String→Bool→Prop where
  | int_int (i):IsiV K H (.int i) "int" true
  | int_bool (i):IsiV K H (.int i) "bool" false
  | int_tuple (i):IsiV K H (.int i) "tuple" false
  | int_str (i):IsiV K H (.int i) "str" false
  | bl_int (b):IsiV K H (.bl b) "int" true
  | bl_bool (b):IsiV K H (.bl b) "bool" true
  | bl_tuple (b):IsiV K H (.bl b) "tuple" false
  | str_str (x):IsiV K H (.str x) "str" true
  | str_tuple (x):IsiV K H (.str x) "tuple" false
  | tup_tuple {a xs}:SqT K H a xs→IsiV K H (.ref a) "tuple" true
  | tup_int {a xs}:SqT K H a xs→IsiV K H (.ref a) "int" false
  | lst_tuple {a xs}:SqL K H a xs→IsiV K H (.ref a) "tuple" false
  | lst_list {a xs}:SqL K H a xs→IsiV K H (.ref a) "list" true
def qlo (K:PySem.W.Frag):List V→Hp→VK→Prop:=fun vs H Q=>∃ x T b,vs=[x,.ty T]∧IsiV K H x T b∧Q (.bl b) H
theorem qmy {x y:V} {us:List Value} (r:Vals [x,y] us):∃ u v,us=[u,v]∧RelV x u∧RelV y v:=by
  cases r with
  | cons r rr =>
    cases rr with
    | cons r' rr=>cases rr;exact ⟨_,_,rfl,r,r'⟩
theorem qg3 {X:Cx}:qcc X (.builtin "isinstance") (qlo X.K):=by
  intro pins s σ H xs us Q I r h
  obtain ⟨x,T,b,rfl,hi,q⟩:=h
  obtain ⟨u,v,rfl,ru,rv⟩:=qmy r
  have rv:v=.type T:=rv
  subst rv
  have fin:∀ (c:Bool) (t:Nat),Q (.bl c) H→EP X pins σ Q (.bool c) { s with toks:=t }:=fun c t q=>⟨.bl c,H,I.tok t,rfl,q⟩
  cases hi with
  | int_int i=>obtain ⟨t,rfl⟩:=ru;exact IsiPair.int_int (fin _ s.toks q)
  | int_bool i=>obtain ⟨t,rfl⟩:=ru;exact IsiPair.int_bool (fin _ _ q)
  | int_tuple i=>obtain ⟨t,rfl⟩:=ru;exact IsiPair.int_tuple (fin _ _ q)
  | int_str i=>obtain ⟨t,rfl⟩:=ru;exact IsiPair.int_str (fin _ _ q)
  | bl_int b=>cases ru;exact IsiPair.bool_int (fin _ s.toks q)
  | bl_bool b=>cases ru;exact IsiPair.bool_bool (fin _ s.toks q)
  | bl_tuple b=>cases ru;exact IsiPair.bool_tuple (fin _ _ q)
  | str_str x=>obtain ⟨t,rfl⟩:=ru;exact IsiPair.str_str (fin _ s.toks q)
  | str_tuple x=>obtain ⟨t,rfl⟩:=ru;exact IsiPair.str_tuple (fin _ _ q)
  | tup_tuple h =>
    cases ru
    obtain ⟨its,_,p,_⟩:=I.tuple h
    exact call_isinstance (isinstance_true (Tx:="tuple") F.isi_meta_tuple F.sub_tuple_tuple) ⟨p.typeIs,fin _ s.toks q⟩
  | tup_int h =>
    cases ru
    obtain ⟨its,_,⟨o,e,c,_⟩,_⟩:=I.tuple h
    exact call_isinstance (isinstance_false_tuple (by decide +kernel) F.isi_meta_int F.sub_tuple_int) ⟨⟨o,e,c⟩,fin _ _ q⟩
  | lst_tuple h =>
    cases ru
    obtain ⟨its,_,p,_⟩:=I.list h
    obtain ⟨o,e,c,_⟩:=p.isList
    exact call_isinstance (isinstance_false_list (by decide +kernel) F.isi_meta_tuple F.sub_list_tuple) ⟨⟨o,e,c⟩,fin _ _ q⟩
  | lst_list h =>
    cases ru
    obtain ⟨its,_,p,_⟩:=I.list h
    exact call_isinstance (isinstance_true (Tx:="list") F.isi_meta_list F.sub_list_list) ⟨p.isList.typeIs,fin _ s.toks q⟩
theorem qft {prog:Program} {w:World} {A:Around} (hh:A.handled=none) (b:Bool) (it a:Addr) (hne:a≠it) (its:Array Value):Walks prog w A it [it,a] [it] its.size (fun i v=>its[i]?=some v) (fun i h=>SqI b h it a i∧SqO b h a its) where
  sub:=fun c hc=>by rw [List.mem_singleton.mp hc];simp
  frame:=fun _ _ _ st k=>⟨st.1.at fun o e=>k it (by simp) o e,st.2.at fun o e=>k a (by simp) o e⟩
  item:=fun i s Q E hi st hQ=>by
    cases b with
    | true=>exact wpAny_pyNext_list_item st.1 st.2 (x:=its[i]) (by simp [hi]) fun h' q sb=>hQ _ h' s.toks (by simp [hi]) ⟨q,SqO.at (b:=true) st.2 fun o e=>(sb.2 a hne).trans e⟩ fun c o hc e=>(sb.2 c fun z=>hc (by simp [z])).trans e
    | false=>exact wpAny_pyNext_tuple_item st.1 st.2 (x:=its[i]) (by simp [hi]) fun h' q sb=>hQ _ h' s.toks (by simp [hi]) ⟨q,SqO.at (b:=false) st.2 fun o e=>(sb.2 a hne).trans e⟩ fun c o hc e=>(sb.2 c fun z=>hc (by simp [z])).trans e
  done:=fun s Q E st hQ=>by
    cases b with
    | true=>exact wpAny_pyNext_list_end hh st.1 st.2 (by simp) fun h' eb=>hQ h' s.toks fun c o hc e=>eb c o (fun z=>hc (by simp [z])) e
    | false=>exact wpAny_pyNext_tuple_end hh st.1 st.2 (by simp) fun h' eb=>hQ h' s.toks fun c o hc e=>eb c o (fun z=>hc (by simp [z])) e
  self:=fun i s Q E st hQ=>by
    cases b with
    | true=>exact wpAny_pyIter_listiter st.1 hQ
    | false=>exact wpAny_pyIter_tupleiter st.1 hQ
theorem qlp {x:V} {us:List Value} (r:Vals [x] us):∃ u,us=[u]∧RelV x u:=by
  cases r with
  | cons r rr=>cases rr;exact ⟨_,rfl,r⟩
theorem qcY (val:Nat→Int) (ns:List Int) (h:∀ i n,ns[i]?=some n→val i=n):∀ k,k≤ns.length→preSum val k=(ns.take k).sum
  | 0,_=>by simp [preSum]
  | k+1,hk=>by
    have hlt:k<ns.length:=hk
    have e:=h k ns[k] (by simp [hlt])
    rw [preSum,qcY val ns h k (Nat.le_of_lt hlt),e,List.take_succ_eq_append_getElem hlt,List.sum_append]
    simp
def qmj (K:PySem.W.Frag) (b:Bool):List V→Hp→VK→Prop:=fun vs H Q=>∃ (a:Addr) (ns:List Int),vs=[.ref a]∧SqB K b H a (ns.map V.int)∧Q (.int ns.sum) H
theorem qg7 (b:Bool) {X:Cx} (hc:X.calm=true):qcc X (.builtin "sum") (qmj X.K b):=by
  intro pins s σ H xs us Q I r h
  obtain ⟨a,ns,rfl,hq,q⟩:=h
  obtain ⟨u,rfl,ru⟩:=qlp r
  cases ru
  obtain ⟨its,rv,p,hz⟩:=I.sqb hq
  refine call_sum_walkAnyS (qdK p ?_)
  have hne:a≠s.heap.objs.size:=Nat.ne_of_lt p.lt
  have W:=qft (prog:=X.prog) (w:=X.w) (A:=X.A.in1) (I.ok.hd hc) b s.heap.objs.size a hne its.toArray
  have hv:∀ (i:Nat) (v:Value),its.toArray[i]?=some v→∃ t,v=.int (ns.getD i 0) t:=fun i v e=>by
    have e':its[i]?=some v:=by simpa using e
    have hi:i<ns.length:=by
      have:=(List.getElem?_eq_some_iff.mp e').1
      have:=rv.length
      rw [List.length_map] at this
      omega
    obtain ⟨v',h1,h2⟩:=rv.get (i:=i) (x:=V.int (ns.getD i 0)) (by simp [hi])
    rw [e'] at h1;cases h1
    exact h2
  have ln:its.toArray.size=ns.length:=by have:=rv.length;rw [List.length_map] at this;simp [this]
  refine ⟨s.heap.objs.size,[s.heap.objs.size,a],[s.heap.objs.size],_,its.toArray.size,_,_,fun i=>ns.getD i 0,rfl,W.toS,⟨qb3 (Heap.get?_push_size _ (by cases b <;> rfl)),p.at fun o e=>Heap.get?_push_of_some _ e⟩,fun c hcm=>?_,hv,fun s' t' hm=>?_⟩
  · rw [Heap.size_push]
    rcases List.mem_cons.mp hcm with rfl | hcm
    · exact Nat.lt_succ_self _
    · rw [List.mem_singleton.mp hcm];exact Nat.lt_succ_of_lt p.lt
  · obtain ⟨hh,hg,hd,ho,_⟩:=hm
    obtain ⟨h',g',d',tk',os'⟩:=s'
    have e1:g'=s.gens:=hg
    have e2:d'=s.drawn:=hd
    have e3:os'=s.os:=ho
    subst e1 e2 e3
    refine ⟨.int ns.sum,H,I.kept (h':=h') (t':=tk') fun c o e=>hh c o (fun z=>?_) (Heap.get?_push_of_some _ e),⟨t',?_⟩,q⟩
    · rw [List.mem_singleton.mp z] at e
      exact absurd (Heap.lt_size e) (Nat.lt_irrefl _)
    · rw [ln,qcY (fun i=>ns.getD i 0) ns (fun i n e=>by
        show ns.getD i 0=n
        rw [List.getD_eq_getElem?_getD,e];rfl) ns.length (Nat.le_refl _),List.take_length]
def qmh (K:PySem.W.Frag) (b:Bool) (f:List Bool→Bool):List V→Hp→VK→Prop:=fun vs H Q=>∃ (a:Addr) (bs:List Bool),vs=[.ref a]∧SqB K b H a (bs.map V.bl)∧Q (.bl (f bs)) H
theorem qeZ {prog:Program} {w:World} {A:Around} {its:Array Value} {bs:List Bool} (rv:Vals (bs.map V.bl) its.toList):TruthOf prog w A (fun i v=>its[i]?=some v) (fun i=>bs.getD i false):=by
  intro i v s Q E e q
  have e':its.toList[i]?=some v:=by simpa using e
  have hi:i<bs.length:=by
    have:=(List.getElem?_eq_some_iff.mp e').1
    have:=rv.length
    rw [List.length_map] at this
    omega
  obtain ⟨v',h1,h2⟩:=rv.get (i:=i) (x:=V.bl (bs.getD i false)) (by simp [hi])
  rw [e'] at h1;cases h1
  have h2:v=.bool (bs.getD i false):=h2
  subst h2
  exact wpAny_truthy_bool q
theorem qgm (bs:List Bool):(List.range bs.length).all (fun i=>bs.getD i false)=bs.all id:=by
  rw [Bool.eq_iff_iff]
  simp only [List.all_eq_true,List.mem_range,id]
  constructor
  · intro h x hx
    obtain ⟨i,hi,rfl⟩:=List.mem_iff_getElem.mp hx
    have:=h i hi
    simpa [hi] using this
  · intro h i hi
    have:=h bs[i] (List.getElem_mem hi)
    simpa [hi] using this
theorem qhB (b:Bool) {X:Cx} (hc:X.calm=true):qcc X (.builtin "all") (qmh X.K b fun bs=>bs.all id):=by
  intro pins s σ H xs us Q I r h
  obtain ⟨a,bs,rfl,hq,q⟩:=h
  obtain ⟨u,rfl,ru⟩:=qlp r
  cases ru
  obtain ⟨its,rv,p,hz⟩:=I.sqb hq
  have hne:a≠s.heap.objs.size:=Nat.ne_of_lt p.lt
  have ln:its.toArray.size=bs.length:=by have:=rv.length;rw [List.length_map] at this;simp [this]
  have W:=qft (prog:=X.prog) (w:=X.w) (A:=X.A.in1) (I.ok.hd hc) b s.heap.objs.size a hne its.toArray
  refine call_all_walk (qdK p ⟨s.heap.objs.size,[s.heap.objs.size,a],[s.heap.objs.size],its.toArray.size,_,_,fun i=>bs.getD i false,rfl,W,⟨qb3 (Heap.get?_push_size _ (by cases b <;> rfl)),p.at fun o e=>Heap.get?_push_of_some _ e⟩,qeZ (by simpa using rv),fun h' tk hk=>?_⟩)
  rw [ln,qgm]
  refine ⟨.bl (bs.all id),H,I.kept (h':=h') (t':=tk) fun c o e=>hk c o (fun z=>?_) (Heap.get?_push_of_some _ e),rfl,q⟩
  rw [List.mem_singleton.mp z] at e
  exact absurd (Heap.lt_size e) (Nat.lt_irrefl _)
def qaS (N:List Str) (sc scope:Scope) (N':List Str) (cap:List (Option Nat)):Bool :=
  decide (scope.kind=.function) && scope.names.all (fun x=>decide (x.2=.cell→scope.names.lookup x.1=some .cell)) && scope.names.all (fun x=>decide (x.2=.local→scope.names.lookup x.1=some .local)) &&
    scope.names.all (fun x=>decide (x.2=.free→sc.names.lookup x.1=some .cell∧scope.names.lookup x.1=some .free)) && decide N'.Nodup && decide (cap.length=N'.length) &&
    (cap.zip N').all fun p=>match p.1 with | none=>true | some i=>decide (N[i]?=some p.2∧(p.2,NameKind.free)∈scope.names)
theorem CompScope.ok {N:List Str} {sc scope:Scope} {N':List Str} {cap:List (Option Nat)} (h:qaS N sc scope N' cap=true):CompScope N sc scope N' cap:=by
  unfold qaS at h
  simp only [Bool.and_eq_true,decide_eq_true_eq,List.all_eq_true] at h
  obtain ⟨⟨⟨⟨⟨⟨h1,h2⟩,h3⟩,h4⟩,h5⟩,h6⟩,h7⟩:=h
  refine ⟨h1,h2,h3,fun x hx hf=>(h4 x hx hf).1,fun x hx hf=>(h4 x hx hf).2,h5,h6,fun p hp i hi=>?_⟩
  have:=h7 p hp
  rw [hi] at this
  simpa using this
abbrev qgi (J:It) (B:V→St→Hp→(St→Hp→Prop)→Prop) (End:St→Hp→Prop) (σ:St) (H:Hp):Prop :=
  ∃ W:Nat→Nat→St→Hp→Prop,(∃ m,W 0 m σ H)∧∀ i m σ H,W i m σ H→(J.stop i H∧End σ H)∨(J.go i H∧∃ N:St→Hp→Prop,(∀ σ' H',N σ' H'→∃ m',m'<m∧W (i+1) m' σ' H')∧∀ x H',J.yld i H x H'→B x σ H' N)
section
variable {K : PySem.W.Frag} {B : V → St → Hp → (St → Hp → Prop) → Prop} {End : St → Hp → Prop} {σ : St} {H : Hp}
theorem qdb {b:Bool} {J:It} {xs:List V} (n:Nat) (Pv:Nat→St→Hp→Prop) (h0:Pv 0 σ H)
    (go:∀ i σ H,i<n→Pv i σ H→J.go i H∧∀ x H',J.yld i H x H'→B x σ H' (Pv (i+1))) (stop:∀ σ H,Pv n σ H→J.stop n H∧End σ H):qgi J B End σ H:=by
  refine ⟨fun i m σ H=>m=n - i∧i≤n∧Pv i σ H,⟨n,by simp,Nat.zero_le _,h0⟩,?_⟩
  rintro i m σ H ⟨rfl,hi,p⟩
  by_cases hlt:i<n
  · obtain ⟨g,y⟩:=go i σ H hlt p
    exact .inr ⟨g,Pv (i+1),fun σ' H' p'=>⟨n - (i+1),by omega,rfl,hlt,p'⟩,y⟩
  · have e:i=n:=by omega
    subst e
    exact .inl (stop σ H p)
theorem qki {a:Addr} {xs:List V} (Pv:Nat→St→Hp→Prop) (h0:Pv 0 σ H) (hl:∀ i σ H,i≤xs.length→Pv i σ H→SqT K H a xs) (hs:∀ i x σ H,xs[i]?=some x→Pv i σ H→B x σ H (Pv (i+1))) (hd:∀ σ H,Pv xs.length σ H→End σ H):qgi (Itt K a) B End σ H :=
  qdb (b:=true) (xs:=xs) xs.length Pv h0 (fun i σ H hi p=>⟨⟨xs,xs[i],hl i σ H (Nat.le_of_lt hi) p,by simp [hi]⟩,fun x H' y=>by
    obtain ⟨e,y⟩:=y
    subst e
    exact hs i x σ _ (y xs (hl i σ _ (Nat.le_of_lt hi) p)) p⟩) fun σ H p=>⟨⟨xs,hl _ σ H (Nat.le_refl _) p,Nat.le_refl _⟩,hd σ H p⟩
end
theorem qal {H:Hp} {p:Addr} (h:H p=none) (o:HO):Same H (upd H p o):=fun b u q=>by rw [qad (qak q h)];exact q
theorem qcG {H H':Hp} {p:Addr} (s:Same H H') (h:H p=none) (o:HO):Same H (upd H' p o):=fun b u q=>by rw [qad (qak q h)];exact s b u q
theorem Same.sqt {K:PySem.W.Frag} {H H':Hp} {a:Addr} {xs:List V} (e:Same H H') (h:SqT K H a xs):SqT K H' a xs:=SqB.same (b:=false) e h
theorem qbZ {n:Nat} (h:n≤1000):n≤sizeLine:=Nat.le_of_lt (qar h)
theorem dP {p:Prop} [Decidable p] (h:decide p=true):p:=of_decide_eq_true h
theorem qgB {α:Type} {xs:List α} {i:Nat} {x:α} (h:xs[i]?=some x):xs.take (i+1)=xs.take i++[x]:=by
  obtain ⟨hi,e⟩:=List.getElem?_eq_some_iff.mp h
  rw [List.take_succ_eq_append_getElem hi,e]
theorem qaD {α:Type} {xs:List α} {i:Nat} {x:α} (h:xs[i]?=some x):i<xs.length:=(List.getElem?_eq_some_iff.mp h).1
theorem qbd {α:Type} {xs:List α} {i:Nat} {x:α} {k:Int} (h:xs[i]?=some x) (e:k=(i:Int)):atI xs k=some x:=by
  subst e
  exact qiL h
def dot (es ns:List Int):Int:=(List.zipWith (·*·) es ns).sum
def qcA {α:Type} (xs:List α) (lo hi:Option Int):List α:=(xs.drop (HT.sIx xs.length 0 lo)).take (HT.sIx xs.length xs.length hi - HT.sIx xs.length 0 lo)
inductive EqT (K:PySem.W.Frag) (H:Hp):Nat→V→V→Prop where
  | int {d:Nat} (i:Int):EqT K H d (.int i) (.int i)
  | bl {d:Nat} (b:Bool):EqT K H d (.bl b) (.bl b)
  | str {d:Nat} (x:Str):EqT K H d (.str x) (.str x)
  | non {d:Nat}:EqT K H d .non .non
  | sq {d:Nat} (q:Bool) {a b:Addr} {xs ys:List V}:SqB K q H a xs→SqB K q H b ys→xs.length=ys.length→(∀ (i:Nat) (x y:V),xs[i]?=some x→ys[i]?=some y→EqT K H d x y)→EqT K H (d+1) (.ref a) (.ref b)
theorem Vals.get' {xs:List V} {us:List Value} (r:Vals xs us) {j:Nat} (h:j<us.length):∃ x,xs[j]?=some x∧RelV x us[j]:=by
  have hl:=Vals.length r
  have hj:j<xs.length:=by omega
  obtain ⟨u,hu,ru⟩:=Vals.get (i:=j) (x:=xs[j]) r (by simp [hj])
  refine ⟨xs[j],by simp [hj],?_⟩
  rw [List.getElem?_eq_getElem h] at hu
  cases hu
  exact ru
section
variable {prog : Program} {w : World} {A : Around} {E : Value → Shared → Prop} {s : Shared}
theorem qiI {t b:Addr} {vs ws:List Value} {Q:Value→Shared→Prop} (ht:IsTup s.heap t vs.toArray) (hb:IsTup s.heap b ws.toArray) (hv:vs=[]) (h:Q (.ref b) s):wpAny (model prog w) A (binaryOp .Add (.ref t) (.ref b)) Q E s:=by
  obtain ⟨⟨cls,dd,data,sl⟩,ho,hc,n,hd⟩:=id ht
  obtain ⟨⟨cls2,dd2,data2,sl2⟩,ho2,hc2,n2,hd2⟩:=id hb
  simp only at hc hd hc2 hd2
  subst hc hd hc2 hd2
  exact concat_meets ⟨_,ho,rfl⟩ ⟨_,ho2,rfl⟩ noFill_tuple_add seq_tuple_add PySem.F.slot_tuple_add PySem.F.entry_tuple_add (PySem.F.args_tuple_add_2 _ _) (tuple_addW0 t b vs.toArray ws.toArray n n2 dd dd2 sl sl2 (by simp [hv])) ⟨ho,ho2,h⟩
end
def TSame (K:PySem.W.Frag) (H H':Hp):Prop:=∀ b xs,SqT K H b xs→SqT K H' b xs
theorem TSame.trans {K:PySem.W.Frag} {H H1 H2:Hp} (a:TSame K H H1) (b:TSame K H1 H2):TSame K H H2:=fun c o h=>b c o (a c o h)
theorem Same.ts {K:PySem.W.Frag} {H H':Hp} (s:Same H H'):TSame K H H':=fun b xs h=>s.sqt h
theorem TSame.lst {K:PySem.W.Frag} {H:Hp} {D:Addr} {ys zs:List V} (h:H D=some (.lst ys)):TSame K H (upd H D (.lst zs)):=by
  rintro b xs ((q | ⟨o,q⟩) | q)
  · have:b≠D:=fun e=>by subst e;rw [h] at q;cases q
    exact .inl (.inl (by rw [qad this];exact q))
  · have:b≠D:=fun e=>by subst e;rw [h] at q;cases q
    exact .inl (.inr ⟨o,by rw [qad this];exact q⟩)
  · exact .inr q
structure Steady (J:It) (H:Hp) (n:Nat) (El:Nat→V→Hp→Prop):Prop where
  go:∀ i H',Same H H'→i<n→J.go i H'
  yl:∀ i H' x H2,Same H H'→i<n→J.yld i H' x H2→El i x H2∧Same H' H2
  stop:∀ H',Same H H'→J.stop n H'
theorem qeP {K:PySem.W.Frag} {H:Hp} {a:Addr} {xs:List V} (h:SqL K H a xs):Steady (Itl K a) H xs.length (fun i x _=>xs[i]?=some x) :=
  ⟨fun i H' s hi=>⟨xs,xs[i],s.seq h,by simp [hi]⟩,fun i H' x H2 s hi y=>by
    obtain ⟨e,y⟩:=y
    subst e
    exact ⟨y xs (s.seq h),Same.refl _⟩,fun H' s=>⟨xs,s.seq h,Nat.le_refl _⟩⟩
theorem qd6 {H:Hp} {lo:Int} {n:Nat}:Steady (Itr lo n) H n (fun i x _=>x=.int (lo+i)) :=
  ⟨fun i H' s hi=>hi,fun i H' x H2 s hi y=>by
    obtain ⟨e,y⟩:=y
    subst e y
    exact ⟨rfl,Same.refl _⟩,fun H' s=>Nat.le_refl _⟩
abbrev qk5 (D:Addr) (N:St→Hp→Prop) (y:V) (σ:St) (H:Hp):Prop:=∃ ys,H D=some (.lst ys)∧ys.length<sizeLine∧N σ (upd H D (.lst (ys++[y])))
section
variable {J : It} {B : V → St → Hp → (St → Hp → Prop) → Prop} {End : St → Hp → Prop} {σ : St} {H : Hp} {D : Addr} {n : Nat} {El : Nat → V → Hp → Prop}
theorem qhF (K:PySem.W.Frag) (S:Steady J H n El) (hD:H D=none) (hn:n≤1000) (Sh:St→Prop) (h0:Sh σ) (Pr:Nat→V→Hp→Prop) (mono:∀ i y H1 H2,TSame K H1 H2→Pr i y H1→Pr i y H2)
    (hb:∀ i x σ H' N,i<n→El i x H'→Sh σ→Same H H'→(∀ y σ3 H5,Sh σ3→Same H' H5→Pr i y H5→qk5 D N y σ3 H5)→B x σ H' N)
    (hd:∀ σ H' vs,Sh σ→Same H H'→H' D=some (.lst vs)→vs.length=n→(∀ i y,vs[i]?=some y→Pr i y H')→End σ H'):qgi J B End σ (upd H D (.lst [])):=by
  refine qdb (b:=true) (xs:=[]) n (fun i σ H'=>∃ vs,Sh σ∧Same H H'∧H' D=some (.lst vs)∧vs.length=i∧∀ j y,vs[j]?=some y→Pr j y H') ⟨[],h0,qal hD _,qac,rfl,fun j y h=>by simp at h⟩ ?_ ?_
  · rintro i σ H' hi ⟨vs,hsh,s,hv,hl,hp⟩
    refine ⟨S.go i H' s hi,fun x H2 y=>?_⟩
    obtain ⟨he,s2⟩:=S.yl i H' x H2 s hi y
    refine hb i x σ H2 _ hi he hsh (s.trans s2) fun y σ3 H5 hs3 s5 hy=>?_
    have hv5:=s5 _ _ (s2 _ _ hv)
    refine ⟨vs,hv5,qar (by omega),vs++[y],hs3,qcG ((s.trans s2).trans s5) hD _,qac,by rw [List.length_append,hl];rfl,fun j z hj=>?_⟩
    rcases Nat.lt_or_ge j vs.length with h | h
    · rw [List.getElem?_append_left h] at hj
      exact mono j z _ _ (((s2.trans s5).ts).trans (TSame.lst hv5)) (hp j z hj)
    · rw [List.getElem?_append_right h] at hj
      have hj0:j - vs.length=0:=by
        rcases Nat.eq_zero_or_pos (j - vs.length) with h | h
        · exact h
        · rw [List.getElem?_eq_none (by simp only [List.length_cons,List.length_nil];omega)] at hj;cases hj
      rw [hj0] at hj
      cases hj
      have:j=i:=by omega
      subst this
      exact mono _ _ _ _ (TSame.lst hv5) hy
  · rintro σ H' ⟨vs,hsh,s,hv,hl,hp⟩
    exact ⟨S.stop H' s,hd σ H' vs hsh s hv hl hp⟩
theorem qhS (K:PySem.W.Frag) (S:Steady J H n El) (hD:H D=none) (hn:n≤1000) (Sh:St→Prop) (h0:Sh σ) (ws:List V) (hw:ws.length=n)
    (hb:∀ i x σ H' N,i<n→El i x H'→Sh σ→Same H H'→(∀ y σ3 H5,Sh σ3→Same H' H5→ws[i]?=some y→qk5 D N y σ3 H5)→B x σ H' N)
    (hd:∀ σ H',Sh σ→Same H H'→H' D=some (.lst ws)→End σ H'):qgi J B End σ (upd H D (.lst [])):=by
  refine qhF K S hD hn Sh h0 (fun i y _=>ws[i]?=some y) (fun _ _ _ _ _ h=>h) hb fun σ H' vs hs s hv hl hp=>hd σ H' hs s ?_
  have:vs=ws:=by
    refine List.ext_getElem? fun i=>?_
    rcases Nat.lt_or_ge i vs.length with h | h
    · have e:vs[i]?=some vs[i]:=by simp [h]
      rw [e,hp i _ e]
    · rw [List.getElem?_eq_none h,List.getElem?_eq_none (by omega)]
  rw [← this]
  exact hv
end
section
variable {K : PySem.W.Frag} {B : V → St → Hp → (St → Hp → Prop) → Prop} {End : St → Hp → Prop} {σ : St} {H : Hp} {D a : Addr}
end
section
variable {α : Type} {R R' : V → α → Prop} {vs ws : List V} {rs ss : List α}
end
theorem qi4 (k:Nat) (z:Int):(List.replicate k [V.int z]).flatten=(List.replicate k z).map V.int:=by
  induction k with
  | zero=>rfl
  | succ k ih=>rw [List.replicate_succ,List.flatten_cons,ih];rfl
theorem qdE {α:Type} (xs:List α) (n:Nat):qcA xs none (some (n:Int))=xs.take n:=by
  unfold qcA
  have e1:HT.sIx xs.length 0 none=0:=rfl
  have e2:HT.sIx xs.length xs.length (some (n:Int))=min n xs.length:=HT.sIx_nat _ _ _
  rw [e1,e2,List.drop_zero,Nat.sub_zero]
  rcases Nat.le_total n xs.length with h | h
  · rw [Nat.min_eq_left h]
  · rw [Nat.min_eq_right h,List.take_length,List.take_of_length_le h]
theorem qhJ {α:Type} (xs:List α) (n:Nat):qcA xs (some (n:Int)) none=xs.drop n:=by
  unfold qcA
  have e1:HT.sIx xs.length xs.length none=xs.length:=rfl
  have e2:HT.sIx xs.length 0 (some (n:Int))=min n xs.length:=HT.sIx_nat _ _ _
  rw [e1,e2]
  rcases Nat.le_total n xs.length with h | h
  · rw [Nat.min_eq_left h,List.take_of_length_le (by rw [List.length_drop];omega)]
  · rw [Nat.min_eq_right h,List.drop_length,List.drop_of_length_le h]
    simp
theorem qim (xs:List V) (lo hi:Option Int):qhm xs lo hi=qcA xs lo hi:=rfl
section
variable {α : Type} {R : V → α → Prop} {vs : List V} {rs : List α}
end
theorem qaq {a0 a1 a2 a3} {rest:List Expr} {env:Env}:starEach (.BinOp a0 a1 a2 a3::rest) env=(false,eval (.BinOp a0 a1 a2 a3) env)::starEach rest env:=rfl
theorem qdA {a0 a1 a2} {rest:List Expr} {env:Env}:starEach (.UnaryOp a0 a1 a2::rest) env=(false,eval (.UnaryOp a0 a1 a2) env)::starEach rest env:=rfl
theorem qan {a0 a1 a2 a3} {rest:List Expr} {env:Env}:starEach (.ListComp a0 a1 a2 a3::rest) env=(false,eval (.ListComp a0 a1 a2 a3) env)::starEach rest env:=rfl
theorem qdk {a0 a1 a2 a3} {rest:List Expr} {env:Env}:starEach (.Compare a0 a1 a2 a3::rest) env=(false,eval (.Compare a0 a1 a2 a3) env)::starEach rest env:=rfl
theorem qco {a0 a1 a2 a3} {rest:List Expr} {env:Env}:starEach (.Call a0 a1 a2 a3::rest) env=(false,eval (.Call a0 a1 a2 a3) env)::starEach rest env:=rfl
theorem qao {a0 a1 a2} {rest:List Expr} {env:Env}:starEach (.Constant a0 a1 a2::rest) env=(false,eval (.Constant a0 a1 a2) env)::starEach rest env:=rfl
theorem qbh {a0 a1 a2} {rest:List Expr} {env:Env}:starEach (.Attribute a0 a1 a2::rest) env=(false,eval (.Attribute a0 a1 a2) env)::starEach rest env:=rfl
theorem qai {a0 a1 a2} {rest:List Expr} {env:Env}:starEach (.Subscript a0 a1 a2::rest) env=(false,eval (.Subscript a0 a1 a2) env)::starEach rest env:=rfl
theorem qaa {a0 a1} {rest:List Expr} {env:Env}:starEach (.Name a0 a1::rest) env=(false,eval (.Name a0 a1) env)::starEach rest env:=rfl
theorem qcp {a0 a1} {rest:List Expr} {env:Env}:starEach (.List a0 a1::rest) env=(false,eval (.List a0 a1) env)::starEach rest env:=rfl
theorem qaf {pos:Pos} {env:Env}:(backTo pos (starEach [] env)).any (·.1)=false:=rfl
theorem qaj {pos:Pos} {e:Expr} {es:List Expr} {env:Env} (h:starEach (e::es) env=(false,eval e env)::starEach es env) (hr:(backTo pos (starEach es env)).any (·.1)=false):(backTo pos (starEach (e::es) env)).any (·.1)=false:=by
  rw [h]
  exact hr
theorem qfp {pos : Pos} {e : Expr} {env : Env} (h : starEach [e] env = (false, eval e env) :: starEach [] env) : ((backTo pos (starEach [e] env)).all (fun x => !x.1) && (backToKw pos (keywordEach [] env)).all (fun x => x.1.isSome)
      && decide ([e].length+([]:List Keyword).length+(if ([]:List Keyword).isEmpty then 0 else 1)<30))=true:=by
  rw [h]
  rfl
section
variable {X : Cx} {K : PySem.W.Frag}
theorem qgl (h:X.K=K):qcc X (.builtin "isinstance") (qlo K):=h ▸ qg3
end
end L2
namespace L2
open PySem PySem.Spec PyProof.Rows
def But (L:List Addr) (H H':Hp):Prop:=∀ b o,H b=some o→b∉L→H' b=some o
theorem Same.but {H H':Hp} (s:Same H H') (L:List Addr):But L H H':=fun b o h _=>s b o h
theorem But.trans {L:List Addr} {H H1 H2:Hp} (a:But L H H1) (b:But L H1 H2):But L H H2:=fun c o h n=>b c o (a c o h n) n
theorem But.put {L:List Addr} {H H1:Hp} {p:Addr} (a:But L H H1) (h:p∈L) (o:HO):But L H (upd H1 p o):=fun c u e n=>by
  have z:c≠p:=fun z=>n (by rw [z];exact h)
  rw [qad z]
  exact a c u e n
theorem But.new {L:List Addr} {H H1:Hp} {p:Addr} (a:But L H H1) (h:H1 p=none) (o:HO):But L H (upd H1 p o):=a.trans ((qal h o).but L)
section
variable {X : Cx} {K : PySem.W.Frag}
end
end L2
namespace PySem
open Sem (wp)
open Builtin
open AutoSeq1 (wpAny_loadPart')
theorem qcn:fillsNumberSlot (.type "tuple") "mul"=pure false :=
  fillsNumberSlot_seq (id:="tuple.__mul__") (r:=some (.builtin "tuple.__rmul__")) F.slot_tuple_mul.lookup (by decide +kernel) F.slot_tuple_rmul.lookup (by decide +kernel)
theorem qdI:seqRepeat? (.type "tuple")=pure (some (.builtin "tuple.__mul__")):=by
  unfold seqRepeat?
  rw [seqSlot_of (T:="tuple") (name:="__mul__") (id:="tuple.__mul__") F.slot_tuple_mul.lookup (by decide +kernel),seqSlot_of (T:="tuple") (name:="__rmul__") (id:="tuple.__rmul__") F.slot_tuple_rmul.lookup (by decide +kernel)]
  rfl
theorem qcU (a:Int) (t:Tok) (l:Addr) (items:Array Value) (n:Nat) (dd:Option Addr) (sl:Array (Option Value)) :
    Meets (Builtin.«int.__rmul__» ⟨[.int a t,.ref l],[]⟩) (fun _ R s=>s.heap.get? l=some { cls:=.type "tuple",dict:=dd,data:=.seq items n,slots:=sl }∧R (.ok (.ret Value.notImplemented)) s) :=
  .of_wp fun prog w A R s h=>by obtain ⟨hp,g,d,tk,os⟩:=s;obtain ⟨hl,h⟩:=h;wp_walk;exact ⟨_,rfl,h⟩
theorem qe1 (l:Addr) (items:Array Value) (n:Nat) (dd:Option Addr) (sl:Array (Option Value)) (u:Tok) :
    Meets (Builtin.«tuple.__mul__» ⟨[.ref l,.int 1 u],[]⟩) (fun _ R s=>s.heap.get? l=some { cls:=.type "tuple",dict:=dd,data:=.seq items n,slots:=sl }∧R (.ok (.ret (Value.ref l))) s) :=
  .of_wp fun prog w A R s h=>by obtain ⟨hp,g,d,tk,os⟩:=s;obtain ⟨hl,h⟩:=h;have f1:=AutoSeq1.idx_int;have f2:=AutoSeq1.sub_tuple_tuple;wp_walk using wpAny_loadPart' hl;exact ⟨_,rfl,h⟩
theorem qeV (l:Addr) (items:Array Value) (n:Nat) (dd:Option Addr) (sl:Array (Option Value)) (k:Int) (u:Tok) (hc0:¬ (decide (k < -(2 ^ 63)) || decide (k≥2 ^ 63))=true) (hc1:¬ (items.isEmpty || k == 1)=true) (hc2:(decide (k≤0) || items.isEmpty)=true) :
    Meets (Builtin.«tuple.__mul__» ⟨[.ref l,.int k u],[]⟩) (fun _ R s=>s.heap.get? l=some { cls:=.type "tuple",dict:=dd,data:=.seq items n,slots:=sl }∧R (.ok (.ret (Value.ref s.heap.objs.size))) { s with heap:=s.heap.push { cls:=Value.type "tuple",data:=Data.seq #[] },toks:=s.toks }) :=
  .of_wp fun prog w A R s h=>by obtain ⟨hp,g,d,tk,os⟩:=s;obtain ⟨hl,h⟩:=h;have f1:=AutoSeq1.idx_int;have f2:=AutoSeq1.sub_tuple_tuple;wp_walk using wpAny_loadPart' hl;refine wpAny_ite_false (decide_eq_false hc0) ?_;wp_walk using wpAny_loadPart' hl;exact ⟨_,rfl,h⟩
theorem qeM (l:Addr) (items:Array Value) (n:Nat) (dd:Option Addr) (sl:Array (Option Value)) (k:Int) (u:Tok) (hc0:¬ (decide (k < -(2 ^ 63)) || decide (k≥2 ^ 63))=true) (hc1:¬ (items.isEmpty || k == 1)=true) (hc2:¬ (decide (k≤0) || items.isEmpty)=true) (hc3:¬ (items.size*k>(2 ^ 63 - 1) / 8)) (hc4:¬ Builtin.Tuple.tupleTooMany (items.size*k)=true) (hsz:(List.foldl (fun x1 x2=>x1++x2) #[] (List.replicate k.toNat items)).size≤sizeLine) :
    Meets (Builtin.«tuple.__mul__» ⟨[.ref l,.int k u],[]⟩) (fun _ R s=>s.heap.get? l=some { cls:=.type "tuple",dict:=dd,data:=.seq items n,slots:=sl }∧R (.ok (.ret (Value.ref s.heap.objs.size))) { s with heap:=s.heap.push { cls:=Value.type "tuple",data:=Data.seq (List.foldl (fun x1 x2=>x1++x2) #[] (List.replicate k.toNat items)) },toks:=s.toks }) :=
  .of_wp fun prog w A R s h=>by obtain ⟨hp,g,d,tk,os⟩:=s;obtain ⟨hl,h⟩:=h;have f1:=AutoSeq1.idx_int;have f2:=AutoSeq1.sub_tuple_tuple;wp_walk using wpAny_loadPart' hl;refine wpAny_ite_false (decide_eq_false hc0) ?_;wp_walk using wpAny_loadPart' hl;refine wpAny_ite_false (decide_eq_false hc3) ?_;wp_walk using wpAny_loadPart' hl;exact ⟨_,rfl,h⟩
end PySem
namespace L2
open PySem PySem.Spec PyProof.Rows
inductive D where
  | int (i:Int) | bl (b:Bool) | str (x:Str) | non | tup (xs:List D) | lst (xs:List D) | fzl (xs:List D) | obj (nm:Str) (fs:List (Str × D)) | map (kvs:List (Key × D)) | exc (nm:Str) (ats:List D)
def qlt (a C:Addr) (dx:Option Addr):Heap→Prop:=fun h=>∃ o vs,h.get? a=some o∧o.cls=.ref C∧o.dict=dx∧o.data=.fields vs
inductive Rp (K:PySem.W.Frag) (H:Hp):D→V→Prop where
  | int (i:Int):Rp K H (.int i) (.int i)
  | bl (b:Bool):Rp K H (.bl b) (.bl b)
  | str (x:Str):Rp K H (.str x) (.str x)
  | non:Rp K H .non .non
  | tup {a:Addr} {vs:List V} {ds:List D}:H a=some (.tup vs)→vs.length=ds.length→(∀ (i:Nat) (v:V) (d:D),vs[i]?=some v→ds[i]?=some d→Rp K H d v)→Rp K H (.tup ds) (.ref a)
  | lst {a:Addr} {vs:List V} {ds:List D}:H a=some (.lst vs)→vs.length=ds.length→(∀ (i:Nat) (v:V) (d:D),vs[i]?=some v→ds[i]?=some d→Rp K H d v)→Rp K H (.lst ds) (.ref a)
  | fzl {a:Addr} {vs:List V} {ds:List D}:SqL K H a vs→vs.length=ds.length→(∀ (i:Nat) (v:V) (d:D),vs[i]?=some v→ds[i]?=some d→Rp K H d v)→Rp K H (.fzl ds) (.ref a)
  | obj {a C dx:Addr} {nm:Str} {vs:List (Str × V)} {fs:List (Str × D)}:PySem.W.nsIn K mainGlobals nm=some (some (.ref C))→H a=some (.ins C dx vs)→vs.map (·.1)=fs.map (·.1)→(∀ (i:Nat) (v:Str × V) (d:Str × D),vs[i]?=some v→fs[i]?=some d→Rp K H d.2 v.2)→Rp K H (.obj nm fs) (.ref a)
  | map {a:Addr} {ws:List (Key × V)} {kvs:List (Key × D)}:H a=some (.dK ws)→ws.map (·.1)=kvs.map (·.1)→(∀ (i:Nat) (w:Key × V) (d:Key × D),ws[i]?=some w→kvs[i]?=some d→Rp K H d.2 w.2)→Rp K H (.map kvs) (.ref a)
  | exc0 {a C:Addr} {nm:Str}:PySem.W.nsIn K mainGlobals nm=some (some (.ref C))→H a=some (.ext (qlt a C none))→Rp K H (.exc nm []) (.ref a)
  | exc1 {a C p:Addr} {nm:Str} {v:V} {d:D}:PySem.W.nsIn K mainGlobals nm=some (some (.ref C))→H a=some (.ext (qlt a C (some p)))→H p=some (.xd [("at",v)])→Rp K H d v→Rp K H (.exc nm [d]) (.ref a)
def RpL (K:PySem.W.Frag) (H:Hp) (ds:List D) (vs:List V):Prop:=vs.length=ds.length∧∀ (i:Nat) (v:V) (d:D),vs[i]?=some v→ds[i]?=some d→Rp K H d v
section
variable {K : PySem.W.Frag} {H H' Φ Φ' Φ1 H1 Φ2 H2 : Hp} {d : D} {v : V} {ds es : List D} {vs ws : List V}
theorem Rp.same (s:Same H H') (h:Rp K H d v):Rp K H' d v:=by
  induction h with
  | int i=>exact .int i
  | bl b=>exact .bl b
  | str x=>exact .str x
  | non=>exact .non
  | tup h1 h2 _ ih=>exact .tup (s _ _ h1) h2 ih
  | lst h1 h2 _ ih=>exact .lst (s _ _ h1) h2 ih
  | fzl h1 h2 _ ih=>exact .fzl (s.seq h1) h2 ih
  | obj h0 h1 h2 _ ih=>exact .obj h0 (s _ _ h1) h2 ih
  | map h1 h2 _ ih=>exact .map (s _ _ h1) h2 ih
  | exc0 h0 h1=>exact .exc0 h0 (s _ _ h1)
  | exc1 h0 h1 h2 _ ih=>exact .exc1 h0 (s _ _ h1) (s _ _ h2) ih
theorem RpL.same (s:Same H H') (h:RpL K H ds vs):RpL K H' ds vs:=⟨h.1,fun i v d hv hd=>(h.2 i v d hv hd).same s⟩
theorem RpL.nil:RpL K H [] []:=⟨rfl,fun i v d hv _=>by simp at hv⟩
theorem RpL.cons (r:Rp K H d v) (h:RpL K H ds vs):RpL K H (d::ds) (v::vs):=⟨by simp [h.1],fun i u e hu he=>by
  cases i with
  | zero=>cases hu;cases he;exact r
  | succ i=>exact h.2 i u e hu he⟩
theorem RpL.append (h:RpL K H ds vs) (h':RpL K H es ws):RpL K H (ds++es) (vs++ws):=by
  refine ⟨by rw [List.length_append,List.length_append,h.1,h'.1],fun i u e hu he=>?_⟩
  rcases Nat.lt_or_ge i vs.length with c | c
  · rw [List.getElem?_append_left c] at hu
    rw [List.getElem?_append_left (by rw [← h.1];exact c)] at he
    exact h.2 i u e hu he
  · rw [List.getElem?_append_right c] at hu
    rw [List.getElem?_append_right (by rw [← h.1];exact c),← h.1] at he
    exact h'.2 _ u e hu he
theorem RpL.one (r:Rp K H d v):RpL K H [d] [v]:=.cons r .nil
theorem RpL.take (h:RpL K H ds vs) (k:Nat):RpL K H (ds.take k) (vs.take k):=⟨by rw [List.length_take,List.length_take,h.1],fun i u e hu he=>by
  rcases Nat.lt_or_ge i k with c | c
  · rw [List.getElem?_take_of_lt c] at hu he
    exact h.2 i u e hu he
  · rw [List.getElem?_take_eq_none c] at hu
    cases hu⟩
theorem RpL.drop (h:RpL K H ds vs) (k:Nat):RpL K H (ds.drop k) (vs.drop k):=⟨by rw [List.length_drop,List.length_drop,h.1],fun i u e hu he=>by
  rw [List.getElem?_drop] at hu he
  exact h.2 _ u e hu he⟩
theorem RpL.set (h:RpL K H ds vs) (r:Rp K H d v) (k:Nat):RpL K H (ds.set k d) (vs.set k v):=⟨by rw [List.length_set,List.length_set,h.1],fun i u e hu he=>by
  by_cases c:k=i
  · subst c
    have hk:k<vs.length:=by have:=qaD hu;rwa [List.length_set] at this
    rw [List.getElem?_set_self hk] at hu
    rw [List.getElem?_set_self (by rw [← h.1];exact hk)] at he
    cases hu;cases he
    exact r
  · rw [List.getElem?_set_ne c] at hu he
    exact h.2 i u e hu he⟩
theorem RpL.rep (h:RpL K H ds vs):∀ k:Nat,RpL K H (List.replicate k ds).flatten (List.replicate k vs).flatten
  | 0=>.nil
  | k+1=>by
    rw [List.replicate_succ,List.replicate_succ,List.flatten_cons,List.flatten_cons]
    exact h.append (RpL.rep h k)
theorem RpL.at (h:RpL K H ds vs) {i:Nat} (e:ds[i]?=some d):∃ v,vs[i]?=some v∧Rp K H d v:=by
  have hi:i<vs.length:=by rw [h.1];exact qaD e
  exact ⟨vs[i],by simp [hi],h.2 i _ d (by simp [hi]) e⟩
theorem RpL.at' (h:RpL K H ds vs) {i:Nat} (e:vs[i]?=some v):∃ d,ds[i]?=some d∧Rp K H d v:=by
  have hi:i<ds.length:=by rw [← h.1];exact qaD e
  exact ⟨ds[i],by simp [hi],h.2 i v _ e (by simp [hi])⟩
theorem RpL.cut (h:RpL K H ds vs) (lo hi:Option Int):RpL K H (qcA ds lo hi) (qhm vs lo hi):=by
  rw [qim]
  unfold qcA
  rw [h.1]
  exact (h.drop _).take _
theorem RpL.tup {a:Addr} (h:RpL K H ds vs) (s:H a=some (.tup vs)):Rp K H (.tup ds) (.ref a):=.tup s h.1 h.2
theorem RpL.lst {a:Addr} (h:RpL K H ds vs) (s:H a=some (.lst vs)):Rp K H (.lst ds) (.ref a):=.lst s h.1 h.2
theorem RpL.fzl {a:Addr} (h:RpL K H ds vs) (s:SqL K H a vs):Rp K H (.fzl ds) (.ref a):=.fzl s h.1 h.2
theorem RpL.ints (ns:List Int):RpL K H (ns.map D.int) (ns.map V.int):=⟨by simp,fun i v d hv hd=>by
  rw [List.getElem?_map] at hv hd
  cases e:ns[i]? with
  | none=>rw [e] at hv;cases hv
  | some k=>rw [e] at hv hd;cases hv;cases hd;exact .int k⟩
def OwK:HO→Prop | .lst _=>True | .dK _=>True | .dT _=>True | .ins _ _ _=>True | _=>False
structure Gr (Φ H Φ' H':Hp):Prop where
  f:Same Φ Φ'
  h:Same H H'
  s:Same Φ' H'
  o:∀ p (u:HO),H p=some u→Φ p=none→(k:OwK u:=by trivial)→Φ' p=none
theorem Gr.refl (s:Same Φ H):Gr Φ H Φ H:=⟨Same.refl _,Same.refl _,s,fun _ _ _ h _=>h⟩
theorem Gr.trans (a:Gr Φ H Φ1 H1) (b:Gr Φ1 H1 Φ2 H2):Gr Φ H Φ2 H2:=⟨a.f.trans b.f,a.h.trans b.h,b.s,fun p u hp hn k=>b.o p u (a.h p _ hp) (a.o p u hp hn k) k⟩
theorem Gr.join (a:Gr Φ H Φ1 H1) (b:Gr Φ1 H Φ2 H2):Gr Φ H Φ2 H2:=⟨a.f.trans b.f,b.h,b.s,fun p u hp hn k=>b.o p u hp (a.o p u hp hn k) k⟩
theorem qgD (s:Same Φ H) {p:Addr} (o:HO):Same (upd Φ p o) (upd H p o):=fun b u e=>by
  by_cases c:b=p
  · subst c;rw [qac] at e ⊢;exact e
  · rw [qad c] at e ⊢;exact s b u e
theorem Gr.new (s:Same Φ H) {p:Addr} (hp:H p=none) (o:HO):Gr Φ H (upd Φ p o) (upd H p o) :=
  ⟨qal (s.free hp) o,qal hp o,qgD s o,fun q u hq hn _=>by rw [qad (qak hq hp)];exact hn⟩
theorem Gr.fresh (s:Same Φ H) {p:Addr} (hp:H p=none) (o:HO):Gr Φ H Φ (upd H p o) :=
  ⟨Same.refl _,qal hp o,fun b u e=>qal hp o b u (s b u e),fun _ _ _ h _=>h⟩
theorem Gr.freeze (g:Gr Φ H Φ' H') {p:Addr} {o:HO} (h0:H p=none) (hn:Φ' p=none) (hp:H' p=some o):Gr Φ H (upd Φ' p o) H' :=
  ⟨g.f.trans (qal hn o),g.h,fun b u e=>by
    by_cases c:b=p
    · subst c;rw [qac] at e;cases e;exact hp
    · rw [qad c] at e;exact g.s b u e,fun q u hq hqn k=>by rw [qad (qak hq h0)];exact g.o q u hq hqn k⟩
theorem Gr.adoptT {p:Addr} {xs:List V} (s:Same Φ H) (h:Same H H') (ho:H' p=some (.tup xs)):∃ Φ',Gr Φ H Φ' H'∧Φ' p=some (.tup xs):=by
  have e1:∀ u,Φ p=some u→u=.tup xs:=fun u e=>by have:=h _ _ (s _ _ e);rw [ho] at this;cases this;rfl
  refine ⟨upd Φ p (.tup xs),⟨fun b u e=>?_,h,fun b u e=>?_,fun b u e n k=>?_⟩,qac⟩
  · by_cases c:b=p
    · subst c;rw [qac,e1 u e]
    · rw [qad c];exact e
  · by_cases c:b=p
    · subst c;rw [qac] at e;cases e;exact ho
    · rw [qad c] at e;exact h _ _ (s _ _ e)
  · by_cases c:b=p
    · subst c
      have:=h _ _ e
      rw [ho] at this
      cases this
      exact k.elim
    · rw [qad c];exact n
def RpQ (K:PySem.W.Frag) (Φ H:Hp) (d:D) (v:V):Prop:=Rp K Φ d v∨∃ a vs ds,d=.lst ds∧v=.ref a∧H a=some (.lst vs)∧RpL K Φ ds vs
theorem RpQ.gr (g:Gr Φ H Φ' H') (h:RpQ K Φ H d v):RpQ K Φ' H' d v:=by
  rcases h with h | ⟨a,vs,ds,e,e2,h1,h2⟩
  · exact .inl (h.same g.f)
  · exact .inr ⟨a,vs,ds,e,e2,g.h _ _ h1,h2.same g.f⟩
theorem RpQ.lst (s:Same Φ H) (h:RpQ K Φ H (.lst ds) v):∃ a vs,v=.ref a∧H a=some (.lst vs)∧RpL K Φ ds vs:=by
  rcases h with h | ⟨a,vs,ds,e,e2,h1,h2⟩
  · cases h with | lst h1 h2 h3=>exact ⟨_,_,rfl,s _ _ h1,h2,h3⟩
  · cases e;exact ⟨a,vs,e2,h1,h2⟩
theorem RpQ.fzl (s:Same Φ H) (h:RpQ K Φ H (.fzl ds) v):∃ a vs,v=.ref a∧SqL K H a vs∧RpL K Φ ds vs:=by
  rcases h with h | ⟨a,vs,ds,e,e2,h1,h2⟩
  · cases h with | fzl h1 h2 h3=>exact ⟨_,_,rfl,s.seq h1,h2,h3⟩
  · cases e
theorem RpQ.tup (s:Same Φ H) (h:RpQ K Φ H (.tup ds) v):∃ a vs,v=.ref a∧SqT K H a vs∧Φ a=some (.tup vs)∧RpL K Φ ds vs:=by
  rcases h with h | ⟨a,vs,ds,e,e2,h1,h2⟩
  · cases h with | tup h1 h2 h3=>exact ⟨_,_,rfl,.of (s _ _ h1),h1,h2,h3⟩
  · cases e
theorem RpQ.int {i:Int} (h:RpQ K Φ H (.int i) v):v=.int i:=by
  rcases h with h | ⟨a,vs,ds,e,_⟩
  · cases h;rfl
  · cases e
theorem RpQ.bl {i:Bool} (h:RpQ K Φ H (.bl i) v):v=.bl i:=by
  rcases h with h | ⟨a,vs,ds,e,_⟩
  · cases h;rfl
  · cases e
theorem RpQ.str {i:Str} (h:RpQ K Φ H (.str i) v):v=.str i:=by
  rcases h with h | ⟨a,vs,ds,e,_⟩
  · cases h;rfl
  · cases e
theorem RpQ.non (h:RpQ K Φ H .non v):v=.non:=by
  rcases h with h | ⟨a,vs,ds,e,_⟩
  · cases h;rfl
  · cases e
def qhy:D→Option (List D)
  | .lst ds=>some ds
  | .tup ds=>some ds
  | .fzl ds=>some ds
  | _=>none
theorem RpQ.seq (s:Same Φ H) (h:RpQ K Φ H d v) (e:qhy d=some ds):∃ a vs,v=.ref a∧(SqL K H a vs∨SqT K H a vs)∧RpL K Φ ds vs:=by
  cases d with
  | lst ds=>cases e;obtain ⟨a,vs,e,h1,h2⟩:=h.lst s;exact ⟨a,vs,e,.inl (.of h1),h2⟩
  | tup ds=>cases e;obtain ⟨a,vs,e,h1,_,h2⟩:=h.tup s;exact ⟨a,vs,e,.inr h1,h2⟩
  | fzl ds=>cases e;obtain ⟨a,vs,e,h1,h2⟩:=h.fzl s;exact ⟨a,vs,e,.inl h1,h2⟩
  | _=>cases e
theorem Rp.seq (h:Rp K Φ d v) (e:qhy d=some ds):∃ (b:Bool) (a:Addr) (vs:List V),v=.ref a∧SqB K b Φ a vs∧RpL K Φ ds vs:=by
  cases d with
  | lst ds=>cases e;cases h with | lst h1 h2 h3=>exact ⟨true,_,_,rfl,SqL.of h1,h2,h3⟩
  | tup ds=>cases e;cases h with | tup h1 h2 h3=>exact ⟨false,_,_,rfl,SqT.of h1,h2,h3⟩
  | fzl ds=>cases e;cases h with | fzl h1 h2 h3=>exact ⟨true,_,_,rfl,h1,h2,h3⟩
  | _=>cases e
end
inductive Ow where | lst (xs:List D) | dct (ks:List Key) | dcT (ks:List (List Key))
inductive Sl where | v (d:D) | ob (o:Ow)
abbrev Sl.own (xs:List D):Sl:=.ob (.lst xs)
def OwR (K:PySem.W.Frag) (Φ:Hp):Ow→HO→Prop
  | .lst ds,.lst vs=>RpL K Φ ds vs
  | .dct ks,.dK kvs=>kvs.map (·.1)=ks
  | .dcT ks,.dT kvs=>kvs.map (·.1)=ks
  | _,_=>False
theorem OwR.k {K:PySem.W.Frag} {Φ:Hp} {o:Ow} {u:HO} (r:OwR K Φ o u):OwK u:=by
  cases o with
  | lst ds =>
    cases u with
    | lst vs=>exact True.intro
    | _=>exact r.elim
  | dct ks =>
    cases u with
    | dK kvs=>exact True.intro
    | _=>exact r.elim
  | dcT ks =>
    cases u with
    | dT kvs=>exact True.intro
    | _=>exact r.elim
theorem OwR.same {K:PySem.W.Frag} {Φ Φ':Hp} {o:Ow} {u:HO} (r:OwR K Φ o u) (s:Same Φ Φ'):OwR K Φ' o u:=by
  cases o with
  | lst ds =>
    cases u with
    | lst vs=>exact (show RpL K Φ ds vs from r).same s
    | _=>exact r.elim
  | dct ks =>
    cases u with
    | dK kvs=>exact r
    | _=>exact r.elim
  | dcT ks =>
    cases u with
    | dT kvs=>exact r
    | _=>exact r.elim
abbrev Rho:=List (Option Sl)
def qie:FuncBody→Option Pos
  | .stmts b=>(match b.getLast? with
    | some (.Return (some (.Call _ _ kws _)) _)=>kws.findSome? fun k=>(match k.value with | .Lambda _ _ _ pos=>some pos | _=>none)
    | _=>none)
  | _=>none
def qeT (K:PySem.W.Frag) (x:Str):Option (Addr × Array Value):=match PySem.W.nsIn K mainGlobals x with
  | some (some (.ref f))=>(match K.lookup f with
    | some ⟨_,_,.func fd,_⟩=>(match fd.code with
      | .ref c=>(match K.lookup c with
        | some ⟨_,_,.fields vs,_⟩=>(match (vs[11]?:Option Value),qie fd.body with
          | some (.ref P),some pos=>some (P,#[rawInt pos.line,rawInt pos.col,.str (fd.qualname++".<locals>."++"<lambda>") 0])
          | _,_=>none)
        | _=>none)
      | _=>none)
    | _=>none)
  | _=>none
def qaB (K:PySem.W.Frag):List (Addr × Array Value):=(["least_grown","greatest_first"]:List Str).filterMap (qeT K)
def TabF (K:PySem.W.Frag) (Φ:Hp):Prop:=∀ t∈qaB K,Φ t.1=some (.tbl t.2)
theorem TabF.same {K:PySem.W.Frag} {Φ Φ':Hp} (h:TabF K Φ) (s:Same Φ Φ'):TabF K Φ':=fun t ht=>s _ _ (h t ht)
structure EnvD (K:PySem.W.Frag) (H0 Φ H:Hp) (σ:St) (ρ:Rho):Prop where
  fz:Same Φ H
  len:σ.length=ρ.length
  sl:∀ (i:Nat) (d:D),ρ[i]?=some (some (.v d))→∃ v,σ[i]?=some (some v)∧Rp K Φ d v
  ow:∀ (i:Nat) (o:Ow),ρ[i]?=some (some (.ob o))→∃ p u,σ[i]?=some (some (.ref p))∧H0 p=none∧Φ p=none∧H p=some u∧OwR K Φ o u
  ne:∀ (i j:Nat) (o w:Ow) (p:Addr),ρ[i]?=some (some (.ob o))→ρ[j]?=some (some (.ob w))→σ[i]?=some (some (.ref p))→σ[j]?=some (some (.ref p))→i=j
  tb:TabF K Φ
section
variable {K : PySem.W.Frag} {H0 H H' Φ Φ' Φ1 H1 Φ2 H2 : Hp} {σ : St} {ρ : Rho} {d : D} {v : V} {ds es : List D} {vs ws : List V}
theorem EnvD.owl (E:EnvD K H0 Φ H σ ρ) (i:Nat) (ds:List D) (h:ρ[i]?=some (some (.own ds))):∃ p vs,σ[i]?=some (some (.ref p))∧H0 p=none∧Φ p=none∧H p=some (.lst vs)∧RpL K Φ ds vs:=by
  obtain ⟨p,u,e,h0,hn,hp,r⟩:=E.ow i _ h
  cases u with
  | lst vs=>exact ⟨p,vs,e,h0,hn,hp,r⟩
  | _=>exact (show False from r).elim
theorem EnvD.gr (E:EnvD K H0 Φ H σ ρ) (g:Gr Φ H Φ' H'):EnvD K H0 Φ' H' σ ρ :=
  ⟨g.s,E.len,fun i d h=>let ⟨v,e,r⟩:=E.sl i d h;⟨v,e,r.same g.f⟩,
    fun i ds h=>let ⟨p,vs,e,h0,hn,hp,r⟩:=E.ow i ds h;⟨p,vs,e,h0,g.o p _ hp hn r.k,g.h _ _ hp,r.same g.f⟩,E.ne,E.tb.same g.f⟩
theorem qaY {α:Type} {l:List α} {i j:Nat} {x y:α} (h:(l.set i x)[j]?=some y):(j=i∧i<l.length∧y=x)∨(j≠i∧l[j]?=some y):=by
  by_cases c:i=j
  · subst c
    have hi:i<l.length:=by have:=qaD h;rwa [List.length_set] at this
    rw [List.getElem?_set_self hi] at h
    cases h
    exact .inl ⟨rfl,hi,rfl⟩
  · rw [List.getElem?_set_ne c] at h
    exact .inr ⟨fun e=>c e.symm,h⟩
theorem EnvD.set (E:EnvD K H0 Φ H σ ρ) (r:Rp K Φ d v) (i:Nat):EnvD K H0 Φ H (σ.set i (some v)) (ρ.set i (some (.v d))):=by
  have nn:∀ {j:Nat} {x:Option V},j≠i→σ[j]?=some x→(σ.set i (some v))[j]?=some x:=fun c h=>by rw [List.getElem?_set_ne (Ne.symm c)];exact h
  refine ⟨E.fz,by rw [List.length_set,List.length_set,E.len],fun j e h=>?_,fun j ds h=>?_,fun j k ds es p hj hk sj sk=>?_,E.tb⟩
  · rcases qaY h with ⟨rfl,hi,e1⟩ | ⟨c,h⟩
    · cases e1
      exact ⟨v,by rw [List.getElem?_set_self (by rw [E.len];exact hi)],r⟩
    · obtain ⟨u,hu,ru⟩:=E.sl j e h
      exact ⟨u,nn c hu,ru⟩
  · rcases qaY h with ⟨rfl,hi,e1⟩ | ⟨c,h⟩
    · cases e1
    · obtain ⟨p,vs,e,q⟩:=E.ow j ds h
      exact ⟨p,vs,nn c e,q⟩
  · rcases qaY hj with ⟨rfl,_,e1⟩ | ⟨cj,hj⟩
    · cases e1
    rcases qaY hk with ⟨rfl,_,e1⟩ | ⟨ck,hk⟩
    · cases e1
    rw [List.getElem?_set_ne (Ne.symm cj)] at sj
    rw [List.getElem?_set_ne (Ne.symm ck)] at sk
    exact E.ne j k ds es p hj hk sj sk
theorem EnvD.setOb (E:EnvD K H0 Φ H σ ρ) {p:Addr} {o:Ow} {u:HO} (r:OwR K Φ o u) (h0:H0 p=none) (hn:Φ p=none) (hp:H p=some u) (hnew:∀ (j:Nat) (w:Ow),ρ[j]?=some (some (.ob w))→σ[j]?≠some (some (.ref p))) (i:Nat):EnvD K H0 Φ H (σ.set i (some (.ref p))) (ρ.set i (some (.ob o))):=by
  have nn:∀ {j:Nat} {x:Option V},j≠i→σ[j]?=some x→(σ.set i (some (.ref p)))[j]?=some x:=fun c h=>by rw [List.getElem?_set_ne (Ne.symm c)];exact h
  refine ⟨E.fz,by rw [List.length_set,List.length_set,E.len],fun j e h=>?_,fun j ds h=>?_,fun j k ds es q hj hk sj sk=>?_,E.tb⟩
  · rcases qaY h with ⟨rfl,hi,e1⟩ | ⟨c,h⟩
    · cases e1
    · obtain ⟨u,hu,ru⟩:=E.sl j e h
      exact ⟨u,nn c hu,ru⟩
  · rcases qaY h with ⟨rfl,hi,e1⟩ | ⟨c,h⟩
    · cases e1
      exact ⟨p,u,by rw [List.getElem?_set_self (by rw [E.len];exact hi)],h0,hn,hp,r⟩
    · obtain ⟨p,vs,e,q⟩:=E.ow j ds h
      exact ⟨p,vs,nn c e,q⟩
  · rcases qaY hj with ⟨e1,hl,_⟩ | ⟨cj,hj'⟩
    · rcases qaY hk with ⟨e2,_,_⟩ | ⟨ck,hk'⟩
      · rw [e1,e2]
      · rw [e1,List.getElem?_set_self (by rw [E.len];exact hl)] at sj
        cases sj
        rw [List.getElem?_set_ne (Ne.symm ck)] at sk
        exact absurd sk (hnew k _ hk')
    · rw [List.getElem?_set_ne (Ne.symm cj)] at sj
      rcases qaY hk with ⟨e2,hl,_⟩ | ⟨ck,hk'⟩
      · rw [e2,List.getElem?_set_self (by rw [E.len];exact hl)] at sk
        cases sk
        exact absurd sj (hnew j _ hj')
      · rw [List.getElem?_set_ne (Ne.symm ck)] at sk
        exact E.ne j k _ _ q hj' hk' sj sk
theorem EnvD.putOb (E:EnvD K H0 Φ H σ ρ) {i:Nat} {p:Addr} {o o':Ow} {u:HO} (ho:ρ[i]?=some (some (.ob o))) (hs:σ[i]?=some (some (.ref p))) (r:OwR K Φ o' u):EnvD K H0 Φ (upd H p u) σ (ρ.set i (some (.ob o'))):=by
  obtain ⟨p',vs,e,h0,hn,hp,_⟩:=E.ow i _ ho
  rw [hs] at e
  cases e
  have hi:=qaD ho
  refine ⟨fun b u e=>?_,by rw [List.length_set,E.len],fun j e h=>?_,fun j fs h=>?_,fun j k fs gs q hj hk sj sk=>?_,E.tb⟩
  · rw [qad (qak e hn)]
    exact E.fz b u e
  · rcases qaY h with ⟨rfl,_,e1⟩ | ⟨c,h⟩
    · cases e1
    · exact E.sl j e h
  · rcases qaY h with ⟨rfl,_,e1⟩ | ⟨c,h⟩
    · cases e1
      exact ⟨p,u,hs,h0,hn,qac,r⟩
    · obtain ⟨q,us,e,q0,qn,qp,qr⟩:=E.ow j fs h
      refine ⟨q,us,e,q0,qn,?_,qr⟩
      rw [qad fun z=>c (E.ne j i fs o p h ho (by rw [e,z]) hs)]
      exact qp
  · have old:∀ {j:Nat} {fs:Ow},(ρ.set i (some (.ob o')))[j]?=some (some (.ob fs))→∃ gs,ρ[j]?=some (some (.ob gs)):=fun {j fs} h=>by
      rcases qaY h with ⟨rfl,_,_⟩ | ⟨_,h⟩
      · exact ⟨o,ho⟩
      · exact ⟨fs,h⟩
    obtain ⟨fs',hj⟩:=old hj
    obtain ⟨gs',hk⟩:=old hk
    exact E.ne j k fs' gs' q hj hk sj sk
theorem EnvD.setOwn (E:EnvD K H0 Φ H σ ρ) {p:Addr} (r:RpL K Φ ds vs) (h0:H0 p=none) (hn:Φ p=none) (hp:H p=some (.lst vs)) (hnew:∀ (j:Nat) (w:Ow),ρ[j]?=some (some (.ob w))→σ[j]?≠some (some (.ref p))) (i:Nat):EnvD K H0 Φ H (σ.set i (some (.ref p))) (ρ.set i (some (.own ds))):=E.setOb (o:=.lst ds) (u:=.lst vs) r h0 hn hp hnew i
theorem EnvD.put (E:EnvD K H0 Φ H σ ρ) {i:Nat} {p:Addr} (ho:ρ[i]?=some (some (.own ds))) (hs:σ[i]?=some (some (.ref p))) (r:RpL K Φ es ws):EnvD K H0 Φ (upd H p (.lst ws)) σ (ρ.set i (some (.own es))):=E.putOb (o':=.lst es) (u:=.lst ws) ho hs r
def frz (i:Nat) (ρ:Rho):Rho:=match ρ[i]? with | some (some (.ob (.lst ds)))=>ρ.set i (some (.v (.lst ds))) | _=>ρ
theorem EnvD.frz (E:EnvD K H0 Φ H σ ρ) (g:Gr Φ0 H0 Φ H) (i:Nat):∃ Φ',Gr Φ0 H0 Φ' H∧EnvD K H0 Φ' H σ (frz i ρ):=by
  unfold L2.frz
  split
  · next ds ho =>
    obtain ⟨p,vs,e,h0,hn,hp,r⟩:=E.owl i ds ho
    have s1:=qal hn (.lst vs)
    refine ⟨upd Φ p (.lst vs),g.freeze h0 hn hp,fun b u e=>?_,by rw [List.length_set,E.len],fun j e2 h=>?_,fun j fs h=>?_,fun j k fs gs q hj hk sj sk=>?_,E.tb.same s1⟩
    · by_cases c:b=p
      · subst c;rw [qac] at e;cases e;exact hp
      · rw [qad c] at e;exact E.fz b u e
    · rcases qaY h with ⟨rfl,_,e1⟩ | ⟨c,h⟩
      · cases e1
        exact ⟨_,e,(r.same s1).lst qac⟩
      · obtain ⟨u,hu,ru⟩:=E.sl j e2 h
        exact ⟨u,hu,ru.same s1⟩
    · rcases qaY h with ⟨rfl,_,e1⟩ | ⟨c,h⟩
      · cases e1
      · obtain ⟨q,us,e3,q0,qn,qp,qr⟩:=E.ow j fs h
        refine ⟨q,us,e3,q0,?_,qp,qr.same s1⟩
        rw [qad fun z=>c (E.ne j i fs _ p h ho (by rw [e3,z]) e)]
        exact qn
    · rcases qaY hj with ⟨_,_,e1⟩ | ⟨_,hj⟩
      · cases e1
      rcases qaY hk with ⟨_,_,e1⟩ | ⟨_,hk⟩
      · cases e1
      exact E.ne j k fs gs q hj hk sj sk
  · exact ⟨Φ,g,E⟩
theorem EnvD.weak {ρ':Rho} (E:EnvD K H0 Φ H σ ρ) (hl:ρ'.length=ρ.length) (hw:∀ (i:Nat) x,ρ'[i]?=some (some x)→ρ[i]?=some (some x)):EnvD K H0 Φ H σ ρ' :=
  ⟨E.fz,by rw [E.len,hl],fun i d h=>E.sl i d (hw i _ h),fun i ds h=>E.ow i ds (hw i _ h),fun i j ds es p hi hj=>E.ne i j ds es p (hw i _ hi) (hw j _ hj),E.tb⟩
end
def NF {α:Type} (x:α) (R:α→Prop):Prop:=∃ y,x=y∧R y
theorem NF.get {α:Type} {x:α} {R:α→Prop} (h:NF x R):R x:=by
  obtain ⟨_,rfl,h⟩:=h
  exact h
abbrev TD:=Rho→(D→Prop)→Prop
abbrev TDL:=Rho→(List D→Prop)→Prop
abbrev TDB:=Rho→(Bool→Prop)→Prop
def lE (K:PySem.W.Frag) (t:TD):TE:=fun σ H Q=>∃ H0 Φ ρ R,EnvD K H0 Φ H σ ρ∧t ρ R∧∀ d Φ' H' v,R d→Gr Φ H Φ' H'→Rp K Φ' d v→Q v H'
def lQ (K:PySem.W.Frag) (t:TD):TE:=fun σ H Q=>∃ H0 Φ ρ R,EnvD K H0 Φ H σ ρ∧t ρ R∧∀ d Φ' H' v,R d→Gr Φ H Φ' H'→RpQ K Φ' H' d v→Q v H'
def lF (K:PySem.W.Frag) (t:TDL):TE:=fun σ H Q=>∃ H0 Φ ρ R,EnvD K H0 Φ H σ ρ∧t ρ R∧∀ ds Φ' H' p vs,R ds→Gr Φ H Φ' H'→H p=none→Φ' p=none→H' p=some (.lst vs)→RpL K Φ' ds vs→Q (.ref p) H'
def lA (K:PySem.W.Frag) (n:Nat) (t:TDL):TA:=fun σ H Q=>∃ H0 Φ ρ R,EnvD K H0 Φ H σ ρ∧t ρ R∧∀ ds Φ' H' vs,R ds→Gr Φ H Φ' H'→RpL K Φ' ds vs→ds.length=n→Q vs H'
def lT (K:PySem.W.Frag) (t:TDB):TT:=fun σ H Q=>∃ H0 Φ ρ R,EnvD K H0 Φ H σ ρ∧t ρ R∧∀ b Φ' H',R b→Gr Φ H Φ' H'→Q b H'
structure PD (K:PySem.W.Frag) (X:Cx) (e:Expr) (t:TD):Prop where pe:X.K=K→PE X e (lE K t)
structure PQ (K:PySem.W.Frag) (X:Cx) (e:Expr) (t:TD):Prop where pe:X.K=K→PE X e (lQ K t)
structure PF (K:PySem.W.Frag) (X:Cx) (e:Expr) (t:TDL):Prop where pe:X.K=K→PE X e (lF K t)
structure PAD (K:PySem.W.Frag) (X:Cx) (es:List Expr) (t:TDL):Prop where pa:X.K=K→PA X es (lA K es.length t)
structure PTD (K:PySem.W.Frag) (X:Cx) (e:Expr) (t:TDB):Prop where pt:X.K=K→PT X e (lT K t)
structure PWD (K:PySem.W.Frag) (X:Cx) (e:Expr) (t:TDB):Prop where pw:X.K=K→PW X e (lT K t)
theorem PE.imp {X:Cx} {e:Expr} {t t':TE} (h:PE X e t) (k:∀ σ H Q,t' σ H Q→t σ H Q):PE X e t':=fun pins s σ H Q I hw=>h pins s σ H Q I (k σ H Q hw)
theorem PT.imp {X:Cx} {e:Expr} {t t':TT} (h:PT X e t) (k:∀ σ H Q,t' σ H Q→t σ H Q):PT X e t':=fun pins s σ H Q I hw=>h pins s σ H Q I (k σ H Q hw)
theorem PW.imp {X:Cx} {e:Expr} {t t':TT} (h:PW X e t) (k:∀ σ H Q,t' σ H Q→t σ H Q):PW X e t':=fun wh pins s σ H Q I hw=>h wh pins s σ H Q I (k σ H Q hw)
theorem PA.imp {X:Cx} {e:List Expr} {t t':TA} (h:PA X e t) (k:∀ σ H Q,t' σ H Q→t σ H Q):PA X e t':=fun pos pins s σ H Q I hw=>h pos pins s σ H Q I (k σ H Q hw)
theorem PS.imp {X:Cx} {e:Stmt} {t t':TS} (h:PS X e t) (k:∀ D σ H,t' D σ H→t D σ H):PS X e t':=fun pins s σ H D I hw=>h pins s σ H D I (k D σ H hw)
theorem PSs.imp {X:Cx} {e:List Stmt} {t t':TS} (h:PSs X e t) (k:∀ D σ H,t' D σ H→t D σ H):PSs X e t':=fun pins s σ H D I hw=>h pins s σ H D I (k D σ H hw)
section
variable {K : PySem.W.Frag} {X : Cx} {e a b c : Expr} {es : List Expr} {pos : Pos} {t ta tb : TD} {tf : TDL} {tl : TDL} {tt tu : TDB}
theorem PD.q (h:PD K X e t):PQ K X e t:=⟨fun hK=>(h.pe hK).imp fun σ H Q hq0=>by obtain ⟨H0,Φ,ρ,R,E,t,k⟩:=hq0;exact ⟨H0,Φ,ρ,R,E,t,fun d Φ' H' v r g rr=>k d Φ' H' v r g (.inl rr)⟩⟩
def qkz (t:TDL):TD:=fun ρ R=>t ρ fun ds=>R (.lst ds)
theorem PF.d (h:PF K X e tf):PD K X e (qkz tf):=⟨fun hK=>(h.pe hK).imp fun σ H Q hq0=>by obtain ⟨H0,Φ,ρ,R,E,t,k⟩:=hq0;exact ⟨H0,Φ,ρ,_,E,t,fun ds Φ' H' p vs r g h0 hn hp rr =>
  k (.lst ds) _ H' _ r (g.freeze h0 hn hp) ((rr.same (qal hn _)).lst qac)⟩⟩
def qlq (i:Nat):TD:=fun ρ R=>match ρ[i]? with | some (some (.v d))=>R d | _=>False
def qjY (i:Nat):TD:=fun ρ R=>match ρ[i]? with | some (some (.v d))=>R d | some (some (.ob (.lst ds)))=>R (.lst ds) | _=>False
theorem dv (i:Nat) {x:Str} (hN:X.N[i]?=some x:=by rfl) (hv:Vis X.env.scope x:=by first | exact Or.inl rfl | exact Or.inr (Or.inl rfl) | exact Or.inr (Or.inr rfl)) (hd:(x == ("__debug__":Str))=false:=by decide)
    (hcd:(x == ("__classdict__":Str))=false:=by decide):PD K X (.Name x pos) (qlq i):=⟨fun _=>(pv i hN hv hd hcd).imp fun σ H Q hq0=>by
  obtain ⟨H0,Φ,ρ,R,E,t,k⟩:=hq0
  unfold qlq at t
  split at t
  · next d h =>
    obtain ⟨v,e,r⟩:=E.sl i d h
    exact ⟨v,e,k d Φ H v t (.refl E.fz) r⟩
  · exact t.elim⟩
theorem dvq (i:Nat) {x:Str} (hN:X.N[i]?=some x:=by rfl) (hv:Vis X.env.scope x:=by first | exact Or.inl rfl | exact Or.inr (Or.inl rfl) | exact Or.inr (Or.inr rfl)) (hd:(x == ("__debug__":Str))=false:=by decide)
    (hcd:(x == ("__classdict__":Str))=false:=by decide):PQ K X (.Name x pos) (qjY i):=⟨fun _=>(pv i hN hv hd hcd).imp fun σ H Q hq0=>by
  obtain ⟨H0,Φ,ρ,R,E,t,k⟩:=hq0
  unfold qjY at t
  split at t
  · next d h =>
    obtain ⟨v,e,r⟩:=E.sl i d h
    exact ⟨v,e,k d Φ H v t (.refl E.fz) (.inl r)⟩
  · next ds h =>
    obtain ⟨p,vs,e,_,_,hp,r⟩:=E.owl i ds h
    exact ⟨_,e,k _ Φ H _ t (.refl E.fz) (.inr ⟨p,vs,ds,rfl,rfl,hp,r⟩)⟩
  · exact t.elim⟩
def dC (d:D):TD:=fun _ R=>R d
theorem qj6 {v:V} {d:D} (h:PE X e (tC v)) (r:∀ Φ,Rp K Φ d v):PD K X e (dC d):=⟨fun _=>h.imp fun σ H Q hq0=>by obtain ⟨H0,Φ,ρ,R,E,t,k⟩:=hq0;exact k d Φ H v t (.refl E.fz) (r Φ)⟩
theorem qah {i j}:PD K X (.Constant (.int i) j pos) (dC (.int i)):=qj6 qbi fun _=>.int i
theorem qem {i j}:PD K X (.Constant (.bool i) j pos) (dC (.bl i)):=qj6 qli fun _=>.bl i
abbrev RD2:=D→D→(D→Prop)→Prop
def lR2 (K:PySem.W.Frag) (r:RD2):R2:=fun x y H Q=>∃ Φ dx dy R,Same Φ H∧RpQ K Φ H dx x∧RpQ K Φ H dy y∧r dx dy R∧∀ d Φ' H' v,R d→Gr Φ H Φ' H'→Rp K Φ' d v→Q v H'
structure OpD (K:PySem.W.Frag) (X:Cx) (f:Value→Value→Sem Value) (r:RD2):Prop where o:X.K=K→OpR X f (lR2 K r)
def dOp (r:RD2) (ta tb:TD):TD:=fun ρ R=>ta ρ fun x=>tb ρ fun y=>r x y R
theorem qdV {r:RD2} {σ:St} {H:Hp} {Q:VK} (h:lE K (dOp r ta tb) σ H Q):tOp (lR2 K r) (lQ K ta) (lQ K tb) σ H Q:=by
  obtain ⟨H0,Φ,ρ,R,E,t,k⟩:=h
  exact ⟨H0,Φ,ρ,_,E,t,fun dx Φ1 H1 x t1 g1 rx=>⟨H0,Φ1,ρ,_,E.gr g1,t1,fun dy Φ2 H2 y t2 g2 ry=>⟨Φ2,dx,dy,R,g2.s,rx.gr g2,ry,t2,fun d Φ' H' v r g rr=>k d Φ' H' v r ((g1.trans g2).trans g) rr⟩⟩⟩
theorem qaM {op:Operator} {r:RD2} (ho:OpD K X (binaryOp op) r) (ha:PQ K X a ta) (hb:PQ K X b tb):PD K X (.BinOp a op b pos) (dOp r ta tb) :=
  ⟨fun hK=>(qfA (ho.o hK) (ha.pe hK) (hb.pe hK)).imp fun _ _ _=>qdV⟩
theorem qjN {op:CmpOp} {r:RD2} (ho:OpD K X (compareOp op) r) (ha:PQ K X a ta) (hb:PQ K X b tb) (hm:behindInMarks op b=false):PD K X (.Compare a [op] [b] pos) (dOp r ta tb) :=
  ⟨fun hK=>(qiQ (ho.o hK) (ha.pe hK) (hb.pe hK) hm).imp fun _ _ _=>qdV⟩
def qko (t:TD):TDB:=fun ρ R=>t ρ fun d=>match d with | .bl b=>R b | _=>False
theorem qgS {r:RD2} {σ:St} {H:Hp} {Q:Bool→Hp→Prop} (h:lT K (qko (dOp r ta tb)) σ H Q):qik (tOp (lR2 K r) (lQ K ta) (lQ K tb)) σ H Q:=by
  obtain ⟨H0,Φ,ρ,R,E,t,k⟩:=h
  refine qdV ⟨H0,Φ,ρ,_,E,t,fun d Φ' H' v r g rr=>?_⟩
  cases d with
  | bl b=>cases rr;exact ⟨b,rfl,k b Φ' H' r g⟩
  | _=>exact r.elim
theorem qcz {op:CmpOp} {r:RD2} (ho:OpD K X (compareOp op) r) (ha:PQ K X a ta) (hb:PQ K X b tb) (hm:behindInMarks op b=false):PTD K X (.Compare a [op] [b] pos) (qko (dOp r ta tb)) :=
  ⟨fun hK=>(qdD (ho.o hK) (ha.pe hK) (hb.pe hK) hm).imp fun _ _ _=>qgS⟩
abbrev RD1:=D→(D→Prop)→Prop
def dUn (r:RD1) (ta:TD):TD:=fun ρ R=>ta ρ fun x=>r x R
def qmB:RD1:=fun x R=>match x with | .bl i=>R (.bl (!i)) | _=>False
theorem qkK (ha:PQ K X a ta):PD K X (.UnaryOp .Not a pos) (dUn qmB ta):=⟨fun hK=>(qke (ha.pe hK)).imp fun σ H Q hq0=>by obtain ⟨H0,Φ,ρ,R,E,t,k⟩:=hq0;exact ⟨H0,Φ,ρ,_,E,t,fun dx Φ1 H1 x t1 g1 rx=>by
  cases dx with
  | bl i=>exact ⟨i,rx.bl,k _ Φ1 H1 _ t1 g1 (.bl _)⟩
  | _=>exact t1.elim⟩⟩
def qlu:D→(Bool→Prop)→Prop:=fun d R=>match d with
  | .int i=>R (i != 0) | .bl b=>R b | .non=>R false | .str x=>x.length≤sizeLine∧R ((x.length:Int) != 0) | .lst ds=>R (!ds.isEmpty) | .tup ds=>R (!ds.isEmpty) | .fzl ds=>R (!ds.isEmpty) | .obj _ _=>False | .map _=>False | .exc _ _=>False
theorem qcm {Φ:Hp} {ds:List D} {vs:List V} (h:RpL K Φ ds vs):(!ds.isEmpty)=!vs.isEmpty:=by
  have:=h.1
  cases ds <;> cases vs <;> simp_all
theorem qjs {Φ H:Hp} {d:D} {v:V} {R:Bool→Prop} (s:Same Φ H) (h:RpQ K Φ H d v) (t:qlu d R):∃ k,qk0 K v H k∧R k:=by
  cases d with
  | int i=>rw [h.int];exact ⟨_,rfl,t⟩
  | bl i=>rw [h.bl];exact ⟨_,rfl,t⟩
  | non=>rw [h.non];exact ⟨_,rfl,t⟩
  | str i=>rw [h.str];exact ⟨_,⟨t.1,rfl⟩,t.2⟩
  | lst ds=>obtain ⟨a,vs,rfl,h1,h2⟩:=h.lst s;exact ⟨_,.inl ⟨vs,.of h1,rfl⟩,by rw [← qcm h2];exact t⟩
  | tup ds=>obtain ⟨a,vs,rfl,h1,_,h2⟩:=h.tup s;exact ⟨_,.inr (.inl ⟨vs,h1,rfl⟩),by rw [← qcm h2];exact t⟩
  | fzl ds=>obtain ⟨a,vs,rfl,h1,h2⟩:=h.fzl s;exact ⟨_,.inl ⟨vs,h1,rfl⟩,by rw [← qcm h2];exact t⟩
  | obj C fs=>exact t.elim
  | map kvs=>exact t.elim
  | exc _ _=>exact t.elim
def qlX (t:TD):TDB:=fun ρ R=>t ρ fun d=>qlu d R
theorem qfO (ha:PQ K X a ta) (he:∀ whole,isTrue a X.env whole=(do let v ← whole;standAt a.pos;holding [v] (truthy v))):PTD K X a (qlX ta) :=
  ⟨fun hK=>(qhs (ha.pe hK) he).imp fun σ H Q hq0=>by obtain ⟨H0,Φ,ρ,R,E,t,k⟩:=hq0;exact ⟨H0,Φ,ρ,_,E,t,fun d Φ1 H1 v t1 g1 rv=>by
    obtain ⟨b,h1,h2⟩:=qjs g1.s rv t1
    rw [hK]
    exact ⟨b,h1,k b Φ1 H1 h2 g1⟩⟩⟩
def ql0 (t u:TDB):TDB:=fun ρ R=>t ρ fun c=>(c=true→u ρ R)∧(c=false→R false)
def zOr (t u:TDB):TDB:=fun ρ R=>t ρ fun c=>(c=true→R true)∧(c=false→u ρ R)
def qla (t:TDB):TDB:=fun ρ R=>t ρ fun c=>R (!c)
theorem PWD.td (h:PWD K X e tt):PTD K X e tt:=⟨fun hK=>(h.pw hK).pt⟩
theorem qjq (ha:PTD K X a tt):PWD K X (.BoolOp .And [a] pos) tt:=⟨fun hK=>qiN (ha.pt hK)⟩
theorem qjR (ha:PTD K X a tt):PWD K X (.BoolOp .Or [a] pos) tt:=⟨fun hK=>qjo (ha.pt hK)⟩
theorem qkJ (ha:PTD K X a tt) (hb:PWD K X (.BoolOp .And (b::es) pos) tu):PWD K X (.BoolOp .And (a::b::es) pos) (ql0 tt tu) :=
  ⟨fun hK=>(qjt (ha.pt hK) (hb.pw hK)).imp fun σ H Q hq0=>by obtain ⟨H0,Φ,ρ,R,E,t,k⟩:=hq0;exact ⟨H0,Φ,ρ,_,E,t,fun c Φ1 H1 r g=>by
    cases c with
    | true=>rw [if_pos rfl];exact ⟨H0,Φ1,ρ,R,E.gr g,r.1 rfl,fun b Φ' H' rb g'=>k b Φ' H' rb (g.trans g')⟩
    | false=>rw [if_neg (by decide)];exact k _ Φ1 H1 (r.2 rfl) g⟩⟩
theorem qky (ha:PTD K X a tt) (hb:PWD K X (.BoolOp .Or (b::es) pos) tu):PWD K X (.BoolOp .Or (a::b::es) pos) (zOr tt tu) :=
  ⟨fun hK=>(qkF (ha.pt hK) (hb.pw hK)).imp fun σ H Q hq0=>by obtain ⟨H0,Φ,ρ,R,E,t,k⟩:=hq0;exact ⟨H0,Φ,ρ,_,E,t,fun c Φ1 H1 r g=>by
    cases c with
    | true=>rw [if_pos rfl];exact k _ Φ1 H1 (r.1 rfl) g
    | false=>rw [if_neg (by decide)];exact ⟨H0,Φ1,ρ,R,E.gr g,r.2 rfl,fun b Φ' H' rb g'=>k b Φ' H' rb (g.trans g')⟩⟩⟩
theorem qfM (ha:PTD K X a tt):PTD K X (.UnaryOp .Not a pos) (qla tt) :=
  ⟨fun hK=>(qj8 (ha.pt hK)).imp fun σ H Q hq0=>by obtain ⟨H0,Φ,ρ,R,E,t,k⟩:=hq0;exact ⟨H0,Φ,ρ,_,E,t,fun c Φ1 H1 r g=>k _ Φ1 H1 r g⟩⟩
def qlM (t u:TD):TD:=fun ρ R=>t ρ fun c=>match c with | .bl c=>(c=true→u ρ R)∧(c=false→R (.bl false)) | _=>False
theorem qjB {op} (h:PD K X a ta):PD K X (.BoolOp op [a] pos) ta:=⟨fun hK=>qjj (h.pe hK)⟩
theorem qiR (ha:PD K X a ta) (hb:PD K X (.BoolOp .And (b::es) pos) tb):PD K X (.BoolOp .And (a::b::es) pos) (qlM ta tb) :=
  ⟨fun hK=>(qjM (ha.pe hK) (hb.pe hK)).imp fun σ H Q hq0=>by obtain ⟨H0,Φ,ρ,R,E,t,k⟩:=hq0;exact ⟨H0,Φ,ρ,_,E,t,fun c Φ1 H1 v r g rv=>by
    cases c with
    | bl c =>
      cases rv
      refine ⟨c,rfl,?_⟩
      cases c with
      | true=>rw [if_pos rfl];exact ⟨H0,Φ1,ρ,R,E.gr g,r.1 rfl,fun b Φ' H' v rb g' rr=>k b Φ' H' v rb (g.trans g') rr⟩
      | false=>rw [if_neg (by decide)];exact k _ Φ1 H1 _ (r.2 rfl) g (.bl _)
    | _=>exact r.elim⟩⟩
def dIf (t:TDB) (u v:TD):TD:=fun ρ R=>t ρ fun c=>(c=true→u ρ R)∧(c=false→v ρ R)
theorem qlZ (hc:PTD K X c tt) (ha:PD K X a ta) (hb:PD K X b tb):PD K X (.IfExp c a b pos) (dIf tt ta tb) :=
  ⟨fun hK=>(qfq (hc.pt hK) (ha.pe hK) (hb.pe hK)).imp fun σ H Q hq0=>by obtain ⟨H0,Φ,ρ,R,E,t,k⟩:=hq0;exact ⟨H0,Φ,ρ,_,E,t,fun c Φ1 H1 r g=>by
    cases c with
    | true=>rw [if_pos rfl];exact ⟨H0,Φ1,ρ,R,E.gr g,r.1 rfl,fun b Φ' H' v rb g' rr=>k b Φ' H' v rb (g.trans g') rr⟩
    | false=>rw [if_neg (by decide)];exact ⟨H0,Φ1,ρ,R,E.gr g,r.2 rfl,fun b Φ' H' v rb g' rr=>k b Φ' H' v rb (g.trans g') rr⟩⟩⟩
def qlA:TDL:=fun _ R=>R []
def qj0 (t:TD) (u:TDL):TDL:=fun ρ R=>t ρ fun d=>u ρ fun ds=>R (d::ds)
theorem qaA:PAD K X [] qlA:=⟨fun _=>pa_nil.imp fun σ H Q hq0=>by obtain ⟨H0,Φ,ρ,R,E,t,k⟩:=hq0;exact k [] Φ H [] t (.refl E.fz) .nil rfl⟩
theorem qae (ha:PD K X e t) (hr:PAD K X es tl) (hs:starEach (e::es) X.env=(false,eval e X.env)::starEach es X.env):PAD K X (e::es) (qj0 t tl) :=
  ⟨fun hK=>(qam (ha.pe hK) (hr.pa hK) hs).imp fun σ H Q hq0=>by obtain ⟨H0,Φ,ρ,R,E,t,k⟩:=hq0;exact ⟨H0,Φ,ρ,_,E,t,fun d Φ1 H1 v r g rv=>⟨H0,Φ1,ρ,_,E.gr g,r,fun ds Φ2 H2 vs r2 g2 rl hl =>
    k _ Φ2 H2 _ r2 (g.trans g2) (.cons (rv.same g2.f) rl) (by rw [List.length_cons,List.length_cons,hl])⟩⟩⟩
def qlP (t:TDL):TDL:=t
theorem qjA {n:Nat} (h:Nat.ble n 1000=true):n≤sizeLine:=Nat.le_trans (Nat.le_of_ble_eq_true h) (by decide)
theorem qci (h:PAD K X es tl) (hes:Nat.ble es.length 1000=true:=by rfl):PF K X (.List es pos) (qlP tl) :=
  ⟨fun hK=>(qii (h.pa hK)).imp fun σ H Q hq0=>by obtain ⟨H0,Φ,ρ,R,E,t,k⟩:=hq0;exact ⟨H0,Φ,ρ,_,E,t,fun ds Φ1 H1 vs r g rl hl=>⟨by rw [rl.1,hl];exact qjA hes,fun p hp =>
    k _ _ _ p vs r (g.trans (.fresh g.s hp _)) (g.h.free hp) (g.s.free hp) qac rl⟩⟩⟩
end
end L2
namespace L2
open PySem PySem.Spec PyProof.Rows PySem.Builtin PySem.Builtin.Str
section
variable {K : PySem.W.Frag} {X : Cx}
def qjC (z:Str) (lo hi:Option Int):Str:=⟨(qcA z.cps.toList lo hi).toArray⟩
theorem qi0 (z:Str) (lo hi:Option Int):Txt.slice z lo hi=qjC z lo hi:=by
  have key:strSliceIndices lo hi 1 z.length=(List.range (HT.sIx z.length z.length hi - HT.sIx z.length 0 lo)).map fun k=>HT.sIx z.length 0 lo+k:=by
    have h1:∀ (i:Int) (d:Nat),max 0 (min (if i<0 then i+(z.length:Int) else i) (z.length:Int))=(HT.sIx z.length d (some i):Int):=fun i d=>by
      show max 0 (min (if i<0 then i+(z.length:Int) else i) (z.length:Int))=((if i<0 then (i+(z.length:Int)).toNat else min i.toNat z.length:Nat):Int)
      split <;> omega
    have e0:strSliceIndices lo hi 1 z.length=sliceRange (HT.sIx z.length 0 lo:Int) (HT.sIx z.length z.length hi:Int) 1:=by
      cases lo <;> cases hi <;> simp only [strSliceIndices,show (1:Int)>0 by decide,if_true,h1 _ 0,h1 _ z.length] <;> rfl
    rw [e0]
    unfold sliceRange
    simp only [show (1:Int)>0 by decide,if_true]
    have ec:(if (HT.sIx z.length 0 lo:Int)<(HT.sIx z.length z.length hi:Int) then ((HT.sIx z.length z.length hi:Int) - (HT.sIx z.length 0 lo:Int)+1 - 1) / 1 else 0).toNat=HT.sIx z.length z.length hi - HT.sIx z.length 0 lo:=by
      split
      · rw [Int.ediv_one];omega
      · omega
    rw [ec]
    refine List.map_congr_left fun k _=>?_
    omega
  have hb:HT.sIx z.length z.length hi≤z.length:=by
    cases hi with
    | none=>exact Nat.le_refl _
    | some i =>
      show (if i<0 then (i+(z.length:Int)).toNat else min i.toNat z.length)≤z.length
      split <;> omega
  have hb0:HT.sIx z.length 0 lo≤z.length:=by
    cases lo with
    | none=>exact Nat.zero_le _
    | some i =>
      show (if i<0 then (i+(z.length:Int)).toNat else min i.toNat z.length)≤z.length
      split <;> omega
  have pick:(strSliceIndices lo hi 1 z.length).filterMap (z.cps[·]?)=qcA z.cps.toList lo hi:=by
    rw [key]
    unfold qcA
    have el:z.cps.toList.length=z.length:=by rw [Array.length_toList];rfl
    rw [el]
    generalize HT.sIx z.length 0 lo=a
    generalize hbb:HT.sIx z.length z.length hi=b at hb
    refine List.ext_getElem? fun j=>?_
    rw [List.filterMap_map]
    have:∀ m,m≤b - a→((List.range m).filterMap ((fun x=>z.cps[x]?) ∘ fun k=>a+k))=(z.cps.toList.drop a).take m:=by
      intro m
      induction m with
      | zero=>intro _;simp
      | succ m ih =>
        intro hm
        rw [List.range_succ,List.filterMap_append,ih (by omega)]
        have hlt:a+m<z.cps.size:=by unfold Str.length at hb;omega
        have e1:z.cps.toList.drop a=z.cps.toList.drop a:=rfl
        have hl:m<(z.cps.toList.drop a).length:=by rw [List.length_drop,el];unfold Str.length;omega
        rw [List.take_add_one,List.getElem?_drop]
        congr 1
        simp [hlt]
    rw [this _ (Nat.le_refl _)]
  unfold Txt.slice qjC
  split
  · next h =>
    have hl:(strSliceIndices lo hi 1 z.length).length=z.length:=by simpa using h
    have el:z.cps.toList.length=z.length:=by rw [Array.length_toList];rfl
    have:qcA z.cps.toList lo hi=z.cps.toList:=by
      rw [key,List.length_map,List.length_range] at hl
      unfold qcA
      rw [el]
      have:HT.sIx z.length 0 lo=0:=by omega
      rw [this,List.drop_zero,List.take_of_length_le (by rw [el];omega)]
    rw [this]
  · rw [pick]
def qlv:V→Option Int→Option Int→Hp→VK→Prop:=fun x lo hi H Q=>∃ z,x=.str z∧z.length≤sizeLine∧Q (.str (qjC z lo hi)) H
theorem qfX {v:Value} {o:Option Int} (h:IsPart v o):∃ p:Option (Int × Tok),v=partValue p∧p.map (·.1)=o:=by
  cases h with
  | none=>exact ⟨none,rfl,rfl⟩
  | int i t=>exact ⟨some (i,t),rfl,rfl⟩
theorem qjn:SlR X qlv:=by
  intro pins s σ H x v vl vu lo hi sl Q I rx hs pl pu h
  obtain ⟨z,rfl,hz,q⟩:=h
  obtain ⟨t,rfl⟩:=rx
  obtain ⟨p1,rfl,rfl⟩:=qfX pl
  obtain ⟨p2,rfl,rfl⟩:=qfX pu
  refine ⟨"str",_,F.slot_str_getitem.lookup,typeIs_str _ _ _,?_⟩
  have hs':s.heap.IsSlice sl p1 p2 none:=by
    obtain ⟨o,ho,h1,h2⟩:=hs
    exact ⟨o,ho,h1,h2⟩
  refine wpAny_getItem_str_slice (l:=p1) (u:=p2) (st:=none) hs' rfl (post_val_or_str ⟨?_,fun t' k=>?_⟩)
  · exact Nat.le_trans (Txt.slice_le z _ _) hz
  · refine ⟨.str (qjC z (p1.map (·.1)) (p2.map (·.1))),H,?_,⟨t',?_⟩,q⟩
    · exact I.tok _
    · rw [← qi0];rfl
def qgs (z:Str) (n:Nat):Str:=⟨((List.replicate n z.cps.toList).flatten).toArray⟩
theorem qha (z:Str):qgs z 1=z:=by
  unfold qgs
  simp
theorem qfe:∀ (n:Nat) (x acc:Array Nat),(List.replicate n x).foldl (·++·) acc=acc++((List.replicate n x.toList).flatten).toArray
  | 0,x,acc=>by simp
  | n+1,x,acc=>by
    rw [List.replicate_succ,List.foldl_cons,qfe n x (acc++x),List.replicate_succ,List.flatten_cons]
    apply Array.ext'
    simp
theorem qhf (z:Str) (n:Nat):(qgs z n).length=z.length*n:=by
  unfold qgs Str.length
  simp [Nat.mul_comm]
def qk9:R2:=fun x y H Q=>∃ z k,x=.str z∧y=.int k∧-(2 ^ 62)≤k∧k<2 ^ 62∧z.length*k.toNat≤sizeLine∧z.length≤sizeLine∧Q (.str (qgs z k.toNat)) H
theorem qir:OpR X (binaryOp .Mult) qk9:=by
  intro pins s σ H x y v u Q I rx ry h
  obtain ⟨z,k,rfl,rfl,h1,h2,h3,h4,q⟩:=h
  obtain ⟨t,rfl⟩:=rx
  obtain ⟨t',rfl⟩:=ry
  refine P.mul_str (by rw [decide_eq_false (by omega),decide_eq_false (by omega)];rfl) (fun c1 c2=>?_) (fun c1 c2=>?_) ?_
  · intro hc
    have hk:0<k:=by omega
    have h5:((z.length:Int))*k≤2 ^ 24:=by
      have:((z.length*k.toNat:Nat):Int)≤(sizeLine:Int):=Int.ofNat_le.mpr h3
      rw [Int.natCast_mul,Int.toNat_of_nonneg (by omega)] at this
      exact this
    have h6:(z.length:Int)≤(2 ^ 63 - 1) / k:=(Int.le_ediv_iff_mul_le hk).mpr (Int.le_trans h5 (by decide))
    omega
  · unfold tooLong
    exact decide_eq_false (by omega)
  · by_cases c:k<1
    · rw [if_pos c]
      have e:k.toNat=0:=by omega
      rw [e] at q
      exact ⟨by decide,.str Str.empty,H,I.tok _,⟨_,rfl⟩,q⟩
    · rw [if_neg c]
      by_cases c2:(k == 1 || z.length == 0)=true
      · rw [if_pos c2]
        have e:qgs z k.toNat=z:=by
          rw [Bool.or_eq_true] at c2
          rcases c2 with c2 | c2
          · have:=eq_of_beq c2
            subst this
            exact qha z
          · have hz:z.cps.toList=[]:=by
              have:=eq_of_beq c2
              unfold Str.length at this
              exact List.length_eq_zero_iff.mp (by rw [Array.length_toList];exact this)
            unfold qgs
            rw [hz]
            have hz2:z.cps=#[]:=by
              apply Array.ext'
              rw [hz]
            apply Str.ext'
            rw [hz2]
            simp
        rw [e] at q
        exact ⟨.str z,H,I,⟨t,rfl⟩,q⟩
      · rw [if_neg c2]
        have e:(⟨(List.replicate k.toNat z.cps).foldl (·++·) #[]⟩:Str)=qgs z k.toNat:=by
          rw [qfe]
          unfold qgs
          simp
        rw [e]
        refine ⟨by rw [qhf];exact h3,.str (qgs z k.toNat),H,I.tok _,⟨_,rfl⟩,q⟩
end
def qlc:R2:=fun x y H Q=>∃ a b xs ys,x=.ref a∧y=.ref b∧H a=some (.tup xs)∧H b=some (.tup ys)∧xs.length+ys.length≤sizeLine∧∀ p H',Same H H'→H' p=some (.tup (xs++ys))→Q (.ref p) H'
theorem qi6 {X:Cx}:OpR X (binaryOp .Add) qlc:=by
  intro pins s σ H x y v u Q I rx ry h
  obtain ⟨a,b,xs,ys,rfl,rfl,ha,hb,hz,q⟩:=h
  by_cases hx:xs=[]
  · subst hx
    cases rx
    cases ry
    obtain ⟨its,r1,p1,_⟩:=I.tuple (SqT.of ha)
    obtain ⟨its2,r2,p2,_⟩:=I.tuple (SqT.of hb)
    exact qiI p1 p2 (r1.nil_iff.mpr rfl) ⟨.ref b,H,I,rfl,q b H (Same.refl H) hb⟩
  · refine qiP pins s σ H _ _ v u Q I rx ry ⟨a,b,xs,ys,rfl,rfl,SqT.of ha,SqT.of hb,hx,hz,fun e=>?_,fun _ p hp=>q p _ (qal hp _) qac⟩
    subst e
    exact q a H (Same.refl H) (by rw [List.append_nil];exact ha)
def qlf:R2:=fun x y H Q=>∃ (a:Addr) (k:Int) (xs:List V),x=.ref a∧y=.int k∧H a=some (.tup xs)∧xs≠[]∧0≤k∧k≤1000∧k.toNat*xs.length≤1000∧∀ p H',Same H H'→H' p=some (.tup (List.replicate k.toNat xs).flatten)→Q (.ref p) H'
theorem qiV {X:Cx}:OpR X (binaryOp .Mult) qlf:=by
  intro pins s σ H x y v u Q I rx ry h
  obtain ⟨a,k,xs,rfl,rfl,ha,hx,h0,h1,hz,q⟩:=h
  cases rx
  obtain ⟨t,rfl⟩:=ry
  obtain ⟨its,r,p1,_⟩:=I.tuple (SqT.of ha)
  have hne:its≠[]:=fun z=>hx (r.nil_iff.mp z)
  have hl:=r.length
  have hits:its.toArray.isEmpty=false:=by cases its with | nil=>exact absurd rfl hne | cons _ _=>rfl
  obtain ⟨⟨cls,dd,data,sl⟩,ho,hc,n,hd⟩:=id p1
  simp only at hc hd
  subst hc hd
  refine wpAny_binaryOp_repeat_ref (T:="tuple") (U:="int") (by decide) ⟨_,ho,rfl⟩ (fun s'=>typeIs_int s' k t) qcn F.fills_int_mul F.slot_int_rmul qdI F.slot_int_index.lookup
    (call_meets F.slot_int_rmul (typeIs_int s k t) F.entry_int_rmul (F.args_int_rmul_2 _ _) (qcU k t a its.toArray n dd sl)
      ⟨ho,rfl,⟨_,ho,rfl⟩,?_⟩)
  have hnew:List.foldl (fun x1 x2=>x1++x2) #[] (List.replicate k.toNat its.toArray)=(List.replicate k.toNat its).flatten.toArray:=by
    have:=qc0 its k.toNat []
    rw [List.nil_append] at this
    exact this
  have hc0:¬ (decide (k < -(2 ^ 63)) || decide (k≥2 ^ 63))=true:=by
    rw [decide_eq_false (by omega),decide_eq_false (by omega)]
    exact Bool.false_ne_true
  by_cases c1:k=1
  · subst c1
    refine call_meets F.slot_tuple_mul ⟨_,ho,rfl⟩ F.entry_tuple_mul (F.args_tuple_mul_2 _ _) (qe1 a its.toArray n dd sl t) ⟨ho,?_⟩
    refine ⟨.ref a,H,I,rfl,q a H (Same.refl H) ?_⟩
    show H a=some (.tup (List.replicate 1 xs).flatten)
    rw [List.replicate_one,List.flatten_cons,List.flatten_nil,List.append_nil]
    exact ha
  · have hc1:¬ (its.toArray.isEmpty || k == 1)=true:=by
      rw [hits,beq_eq_false_iff_ne.mpr c1]
      exact Bool.false_ne_true
    have lay:∀ ys:List V,∀ us:List Value,ys.length≤sizeLine→Vals ys us→EP X pins σ Q (.ref s.heap.objs.size) { s with heap:=s.heap.push { cls:=Value.type "tuple",data:=Data.seq us.toArray },toks:=s.toks }∨¬ (∀ p H',Same H H'→H' p=some (.tup ys)→Q (.ref p) H'):=fun ys us hzz rr=>by
      by_cases qq:∀ p H',Same H H'→H' p=some (.tup ys)→Q (.ref p) H'
      · refine .inl ⟨.ref s.heap.objs.size,_,I.laid (t':=s.toks) (o:=.tup ys) (fun b ob z=>Heap.get?_push_of_some _ z) (Nat.le_refl _) ?_,rfl,qq _ _ (qal (I.hok.fresh (Nat.le_refl _)) _) qac⟩
        exact ⟨hzz,_,rr,IsTupD.new _ _⟩
      · exact .inr qq
    by_cases c0:k=0
    · subst c0
      refine call_meets F.slot_tuple_mul ⟨_,ho,rfl⟩ F.entry_tuple_mul (F.args_tuple_mul_2 _ _) (qeV a its.toArray n dd sl 0 t hc0 hc1 rfl) ⟨ho,?_⟩
      rcases lay [] [] (Nat.zero_le _) .nil with z | z
      · exact z
      · exact absurd q z
    · have hc2:¬ (decide (k≤0) || its.toArray.isEmpty)=true:=by
        rw [hits,decide_eq_false (by omega)]
        exact Bool.false_ne_true
      have hlen:its.length*k.toNat≤1000:=by rw [← hl,Nat.mul_comm];exact hz
      have hlenI:(its.toArray.size:Int)*k≤1000:=by
        rw [List.size_toArray]
        have e:k=((k.toNat:Nat):Int):=by omega
        rw [e]
        exact_mod_cast hlen
      have hs:(1000:Int)≤((sizeLine:Nat):Int):=by exact_mod_cast qbZ (Nat.le_refl 1000)
      have hflat:(List.replicate k.toNat its).flatten.length≤1000:=by rw [qeI,Nat.mul_comm];exact hlen
      refine call_meets F.slot_tuple_mul ⟨_,ho,rfl⟩ F.entry_tuple_mul (F.args_tuple_mul_2 _ _) (qeM a its.toArray n dd sl k t hc0 hc1 hc2 (by omega) (by unfold Builtin.Tuple.tupleTooMany;rw [decide_eq_false (by omega)];exact Bool.false_ne_true) (by rw [hnew,List.size_toArray];exact qbZ hflat)) ⟨ho,?_⟩
      rw [hnew]
      rcases lay (List.replicate k.toNat xs).flatten (List.replicate k.toNat its).flatten (by rw [qeI];exact qbZ hz) (r.rep k.toNat) with z | z
      · exact z
      · exact absurd q z
end L2
namespace L2
open PySem PySem.Spec PyProof.Rows
section
variable {K : PySem.W.Frag} {X : Cx} {e a b c : Expr} {es : List Expr} {pos : Pos} {t ta tb : TD} {tf : TDL} {tl : TDL} {tt tu : TDB}
def ql4:RD2:=fun x y R=>match x,y with
  | .int i,.int j=>R (.int (i+j))
  | .str i,.str j=>i.length+j.length≤sizeLine∧R (.str (i++j))
  | .lst xs,.lst ys=>xs.length+ys.length≤sizeLine∧NF (xs++ys) fun zs=>R (.lst zs)
  | .tup xs,.tup ys=>xs.length+ys.length≤sizeLine∧NF (xs++ys) fun zs=>R (.tup zs)
  | _,_=>False
theorem qbr:OpD K X (binaryOp .Add) ql4:=⟨fun hK pins s σ H x y v u Q I rx ry hq0=>by
  obtain ⟨Φ,dx,dy,R,sm,hx,hy,h,k⟩:=hq0
  cases dx with
  | int i =>
    cases dy with
    | int j=>cases hx.int;cases hy.int;exact qia pins s σ H _ _ v u Q I rx ry ⟨i,j,rfl,rfl,k _ Φ H _ h (.refl sm) (.int _)⟩
    | _=>exact h.elim
  | str i =>
    cases dy with
    | str j=>cases hx.str;cases hy.str;exact qfE pins s σ H _ _ v u Q I rx ry ⟨i,j,rfl,rfl,h.1,k _ Φ H _ h.2 (.refl sm) (.str _)⟩
    | _=>exact h.elim
  | lst xs =>
    cases dy with
    | lst ys =>
      obtain ⟨a,vs,rfl,h1,h2⟩:=hx.lst sm
      obtain ⟨b,ws,rfl,h3,h4⟩:=hy.lst sm
      exact qih pins s σ H _ _ v u Q I rx ry ⟨a,b,vs,ws,rfl,rfl,h1,h3,by rw [h2.1,h4.1];exact h.1,fun p hp=>k _ _ _ _ h.2.get (.new sm hp _) (((h2.append h4).same (qal (sm.free hp) _)).lst qac)⟩
    | _=>exact h.elim
  | tup xs =>
    cases dy with
    | tup ys =>
      obtain ⟨a,vs,rfl,h1,h1',h2⟩:=hx.tup sm
      obtain ⟨b,ws,rfl,h3,h3',h4⟩:=hy.tup sm
      exact qi6 pins s σ H _ _ v u Q I rx ry ⟨a,b,vs,ws,rfl,rfl,sm _ _ h1',sm _ _ h3',by rw [h2.1,h4.1];exact h.1,fun p H' s' q=>by
        obtain ⟨Φ',g,q'⟩:=Gr.adoptT sm s' q
        exact k _ Φ' H' _ h.2.get g (((h2.append h4).same g.f).tup q')⟩
    | _=>exact h.elim
  | _=>exact h.elim⟩
def zI (C:Int→Int→Prop) (g:Int→Int→D):RD2:=fun x y R=>match x,y with | .int i,.int j=>C i j∧R (g i j) | _,_=>False
def zI0 (g:Int→Int→D):RD2:=fun x y R=>match x,y with | .int i,.int j=>R (g i j) | _,_=>False
theorem qhD {f:Value→Value→Sem Value} {C:Int→Int→Prop} {g:Int→Int→Int} (h:OpR X f (rI C fun i j=>.int (g i j))):OpD K X f (zI C fun i j=>.int (g i j)) :=
  ⟨fun hK pins s σ H x y v u Q I rx ry hq0=>by
    obtain ⟨Φ,dx,dy,R,sm,hx,hy,q,k⟩:=hq0
    cases dx with
    | int i =>
      cases dy with
      | int j=>cases hx.int;cases hy.int;exact h pins s σ H _ _ v u Q I rx ry ⟨i,j,rfl,rfl,q.1,k _ Φ H _ q.2 (.refl sm) (.int _)⟩
      | _=>exact q.elim
    | _=>exact q.elim⟩
theorem qjV {f:Value→Value→Sem Value} {g:Int→Int→Int} (h:OpR X f (rI0 fun i j=>.int (g i j))):OpD K X f (zI0 fun i j=>.int (g i j)) :=
  ⟨fun hK pins s σ H x y v u Q I rx ry hq0=>by
    obtain ⟨Φ,dx,dy,R,sm,hx,hy,q,k⟩:=hq0
    cases dx with
    | int i =>
      cases dy with
      | int j=>cases hx.int;cases hy.int;exact h pins s σ H _ _ v u Q I rx ry ⟨i,j,rfl,rfl,k _ Φ H _ q (.refl sm) (.int _)⟩
      | _=>exact q.elim
    | _=>exact q.elim⟩
theorem qf3 {f:Value→Value→Sem Value} {g:Int→Int→Bool} (h:OpR X f (rI0 fun i j=>.bl (g i j))):OpD K X f (zI0 fun i j=>.bl (g i j)) :=
  ⟨fun hK pins s σ H x y v u Q I rx ry hq0=>by
    obtain ⟨Φ,dx,dy,R,sm,hx,hy,q,k⟩:=hq0
    cases dx with
    | int i =>
      cases dy with
      | int j=>cases hx.int;cases hy.int;exact h pins s σ H _ _ v u Q I rx ry ⟨i,j,rfl,rfl,k _ Φ H _ q (.refl sm) (.bl _)⟩
      | _=>exact q.elim
    | _=>exact q.elim⟩
theorem qfz:OpD K X (binaryOp .Sub) (zI0 fun i j=>.int (i - j)):=qjV qh6
theorem qh9:OpD K X (binaryOp .FloorDiv) (zI CDivB fun i j=>.int (i / j)):=qhD qhq
theorem qgO:OpD K X (binaryOp .Mod) (zI (fun _ j=>0<j) fun i j=>.int (i % j)):=qhD qjl
theorem qfV:OpD K X (binaryOp .Pow) (zI qlw fun i j=>.int (i ^ j.toNat)):=qhD qjK
theorem qmd:OpD K X (compareOp .Lt) (zI0 fun i j=>.bl (decide (i<j))):=qf3 qlk
theorem qlB:OpD K X (compareOp .LtE) (zI0 fun i j=>.bl (decide (i≤j))):=qf3 qkI
theorem qln:OpD K X (compareOp .Gt) (zI0 fun i j=>.bl (decide (j<i))):=qf3 qiC
def ql2:RD2:=fun x y R=>match x,y with
  | .int i,.int j=>IntMulOk i j∧R (.int (i*j))
  | .lst xs,.int k=>(-(2 ^ 63)≤k∧k<2 ^ 63∧xs.length*k.toNat≤sizeLine)∧NF (List.replicate k.toNat xs).flatten fun zs=>R (.lst zs)
  | .tup xs,.int k=>(xs≠[]∧0≤k∧k≤1000∧k.toNat*xs.length≤1000)∧NF (List.replicate k.toNat xs).flatten fun zs=>R (.tup zs)
  | .str z,.int k=>(-(2 ^ 62)≤k∧k<2 ^ 62∧z.length*k.toNat≤sizeLine∧z.length≤sizeLine)∧NF (qgs z k.toNat) fun y=>R (.str y)
  | _,_=>False
theorem qa6:OpD K X (binaryOp .Mult) ql2:=⟨fun hK pins s σ H x y v u Q I rx ry hq0=>by
  obtain ⟨Φ,dx,dy,R,sm,hx,hy,h,k⟩:=hq0
  cases dx with
  | int i =>
    cases dy with
    | int j=>cases hx.int;cases hy.int;exact qgv pins s σ H _ _ v u Q I rx ry ⟨i,j,rfl,rfl,h.1,k _ Φ H _ h.2 (.refl sm) (.int _)⟩
    | _=>exact h.elim
  | lst xs =>
    cases dy with
    | int j =>
      obtain ⟨a,vs,rfl,h1,h2⟩:=hx.lst sm
      cases hy.int
      exact qic pins s σ H _ _ v u Q I rx ry ⟨a,j,vs,rfl,rfl,h1,h.1.1,h.1.2.1,by rw [h2.1];exact h.1.2.2,fun p hp=>k _ _ _ _ h.2.get (.new sm hp _) (((h2.rep _).same (qal (sm.free hp) _)).lst qac)⟩
    | _=>exact h.elim
  | tup xs =>
    cases dy with
    | int j =>
      obtain ⟨a,vs,rfl,h1,h1',h2⟩:=hx.tup sm
      cases hy.int
      have hne:vs≠[]:=fun e=>h.1.1 (List.length_eq_zero_iff.mp (by rw [← h2.1,e];rfl))
      exact qiV pins s σ H _ _ v u Q I rx ry ⟨a,j,vs,rfl,rfl,sm _ _ h1',hne,h.1.2.1,h.1.2.2.1,by rw [h2.1];exact h.1.2.2.2,fun p H' s' q=>by
        obtain ⟨Φ',g,q'⟩:=Gr.adoptT sm s' q
        exact k _ Φ' H' _ h.2.get g (((h2.rep _).same g.f).tup q')⟩
    | _=>exact h.elim
  | str z =>
    cases dy with
    | int j =>
      cases hx.str
      cases hy.int
      exact qir pins s σ H _ _ v u Q I rx ry ⟨z,j,rfl,rfl,h.1.1,h.1.2.1,h.1.2.2.1,h.1.2.2.2,k _ Φ H _ h.2.get (.refl sm) (.str _)⟩
    | _=>exact h.elim
  | _=>exact h.elim⟩
end
def cmL (f:D→D→Option Bool):List D→List D→Option Bool
  | [],[]=>some true
  | x::xs,y::ys=>(f x y).bind fun b=>(cmL f xs ys).map (b && ·)
  | _,_=>some false
def cmB:Nat→D→D→Option Bool
  | _,.int i,.int j=>some (i == j)
  | _,.bl i,.bl j=>some (i == j)
  | _,.str i,.str j=>some (i == j)
  | _,.non,.non=>some true
  | n+1,.tup xs,.tup ys=>cmL (cmB n) xs ys
  | n+1,.lst xs,.lst ys=>if xs.length=ys.length then cmL (cmB n) xs ys else some false
  | _,_,_=>none
theorem qda {f:D→D→Option Bool}:∀ {xs ys:List D} {b:Bool},cmL f xs ys=some b→∃ g:Nat→Bool,(∀ (j:Nat) (x y:D),xs[j]?=some x→ys[j]?=some y→f x y=some (g j))∧b=((List.range (min xs.length ys.length)).all g && xs.length == ys.length)
  | [],[],b,h=>by cases h;exact ⟨fun _=>true,fun j x y hx=>by simp at hx,by simp⟩
  | [],_::_,b,h=>by cases h;exact ⟨fun _=>true,fun j x y hx=>by simp at hx,by simp⟩
  | _::_,[],b,h=>by cases h;exact ⟨fun _=>true,fun j x y _ hy=>by simp at hy,by simp⟩
  | x::xs,y::ys,b,h=>by
    unfold cmL at h
    cases e:f x y with
    | none=>rw [e] at h;cases h
    | some c =>
      cases e2:cmL f xs ys with
      | none=>rw [e,e2] at h;cases h
      | some c2 =>
        rw [e,e2] at h
        cases h
        obtain ⟨g,h1,h2⟩:=qda e2
        refine ⟨fun j=>match j with | 0=>c | j+1=>g j,fun j u v hu hv=>?_,?_⟩
        · cases j with
          | zero=>cases hu;cases hv;exact e
          | succ j=>exact h1 j u v hu hv
        · have em:min (x::xs).length (y::ys).length=min xs.length ys.length+1:=by simp only [List.length_cons];omega
          have el:((x::xs).length == (y::ys).length)=(xs.length == ys.length):=by simp
          rw [em,el,List.range_succ_eq_map,List.all_cons,List.all_map,h2,Bool.and_assoc]
          rfl
section
variable {K : PySem.W.Frag} {X : Cx} {pins : List (Addr × Obj)} {σ : St} {Φ H : Hp} {s : Shared}
theorem qj7 {n:Nat} {g:Nat→Bool} (h:∀ j,j<n→g j=true):(List.range n).all g=true:=by
  rw [List.all_eq_true]
  intro j hj
  exact h j (List.mem_range.mp hj)
theorem qas {α:Type} {xs:List α} {j:Nat} (h:j<xs.length):xs[j]?=some xs[j]:=by simp [h]
theorem qgq (hK:X.K=K) (I:Inv X pins σ H s) (sm:Same Φ H):∀ (n:Nat) {d e:D} {b:Bool} {v:V},cmB n d e=some b→Rp K Φ d v→Rp K Φ e v→b=true:=by
  intro n
  induction n with
  | zero =>
    intro d e b v h r1 r2
    cases r1 with
    | int i=>cases r2;have h':some (i == i)=some b:=h;cases h';simp
    | bl i=>cases r2;have h':some (i == i)=some b:=h;cases h';simp
    | str i=>cases r2;have h':some (i == i)=some b:=h;cases h';simp
    | non=>cases r2;cases h;rfl
    | tup _ _ _=>cases r2 <;> cases h
    | lst _ _ _=>cases r2 <;> cases h
    | fzl _ _ _=>cases r2 <;> cases h
    | obj _ _ _ _=>cases r2 <;> cases h
    | map _ _ _=>cases r2 <;> cases h
    | exc0 _ _=>cases r2 <;> cases h
    | exc1 _ _ _ _=>cases r2 <;> cases h
  | succ n ih =>
    intro d e b v h r1 r2
    cases r1 with
    | int i=>cases r2;have h':some (i == i)=some b:=h;cases h';simp
    | bl i=>cases r2;have h':some (i == i)=some b:=h;cases h';simp
    | str i=>cases r2;have h':some (i == i)=some b:=h;cases h';simp
    | non=>cases r2;cases h;rfl
    | @tup a vs xs h1 h2 h3=>cases r2 with
      | @tup _ ws ys k1 k2 k3 =>
        have hvw:vs=ws:=I.tuple_inj (.of (sm _ _ h1)) (.of (sm _ _ k1))
        subst hvw
        obtain ⟨g,hg,hb⟩:=qda (show cmL (cmB n) xs ys=some b from h)
        rw [hb,qj7 fun j hj=>?_]
        · simp;omega
        · have j0:j<vs.length:=by omega
          have j1:j<xs.length:=by omega
          have j2:j<ys.length:=by omega
          exact ih (hg j _ _ (qas j1) (qas j2)) (h3 j _ _ (qas j0) (qas j1)) (k3 j _ _ (qas j0) (qas j2))
      | _=>cases h
    | @lst a vs xs h1 h2 h3=>cases r2 with
      | @lst _ ws ys k1 k2 k3 =>
        have hvw:vs=ws:=by rw [h1] at k1;cases k1;rfl
        subst hvw
        have h':(if xs.length=ys.length then cmL (cmB n) xs ys else some false)=some b:=h
        rw [if_pos (by omega)] at h'
        obtain ⟨g,hg,hb⟩:=qda h'
        rw [hb,qj7 fun j hj=>?_]
        · simp;omega
        · have j0:j<vs.length:=by omega
          have j1:j<xs.length:=by omega
          have j2:j<ys.length:=by omega
          exact ih (hg j _ _ (qas j1) (qas j2)) (h3 j _ _ (qas j0) (qas j1)) (k3 j _ _ (qas j0) (qas j2))
      | _=>cases h
    | fzl _ _ _=>cases r2 <;> cases h
    | obj _ _ _ _=>cases r2 <;> cases h
    | map _ _ _=>cases r2 <;> cases h
    | exc0 _ _=>cases r2 <;> cases h
    | exc1 _ _ _ _=>cases r2 <;> cases h
open PySem.SeqAt in
theorem qgy {n:Nat} {d e:D} {b:Bool} {x y:V} (h:cmB n d e=some b) (rx:Rp K Φ d x) (ry:Rp K Φ e y) (hf:(∀ a,x≠.ref a)) {A:Around} {u v:Value} (ru:RelV x u) (rv:RelV y v):EqAt A s u v b∧RcAt A s u v b∧RcNeAt A s u v (!b):=by
  cases rx with
  | int i=>cases ry with
    | int j =>
      obtain ⟨t,rfl⟩:=ru;obtain ⟨t',rfl⟩:=rv
      have h':some (i == j)=some b:=by cases n <;> exact h
      cases h'
      exact ⟨EqAt.int_int i t j t',RcAt.int_int i t j t',RcNeAt.int_int i t j t'⟩
    | _=>cases n <;> cases h
  | bl i=>cases ry with
    | bl j =>
      cases ru;cases rv
      have h':some (i == j)=some b:=by cases n <;> exact h
      cases h'
      exact ⟨EqAt.bool_bool i j,RcAt.bool_bool i j,RcNeAt.bool_bool i j⟩
    | _=>cases n <;> cases h
  | str i=>cases ry with
    | str j =>
      obtain ⟨t,rfl⟩:=ru;obtain ⟨t',rfl⟩:=rv
      have h':some (i == j)=some b:=by cases n <;> exact h
      cases h'
      exact ⟨EqAt.str_str i t j t',RcAt.str_str i t j t',RcNeAt.str_str i t j t'⟩
    | _=>cases n <;> cases h
  | non=>cases ry with
    | non =>
      cases ru;cases rv
      have h':some true=some b:=by cases n <;> exact h
      cases h'
      exact ⟨EqAt.same _,RcAt.none_none,RcNeAt.none_none⟩
    | _=>cases n <;> cases h
  | tup _ _ _=>exact absurd rfl (hf _)
  | lst _ _ _=>exact absurd rfl (hf _)
  | fzl _ _ _=>exact absurd rfl (hf _)
  | obj _ _ _ _=>exact absurd rfl (hf _)
  | map _ _ _=>exact absurd rfl (hf _)
  | exc0 _ _=>exact absurd rfl (hf _)
  | exc1 _ _ _ _=>exact absurd rfl (hf _)
open PySem.SeqAt in
theorem qh5 (hK:X.K=K) (I:Inv X pins σ H s) (sm:Same Φ H):∀ (n:Nat) {d e:D} {b:Bool} {x y:V},cmB n d e=some b→Rp K Φ d x→Rp K Φ e y →
    ∀ (A:Around) (u v:Value),A.units+n<cLine→RelV x u→RelV y v→EqAt A s u v b∧RcAt A s u v b∧RcNeAt A s u v (!b):=by
  intro n
  induction n with
  | zero =>
    intro d e b x y h rx ry A u v hu ru rv
    refine qgy h rx ry (fun a ea=>?_) ru rv
    subst ea
    cases rx <;> cases ry <;> cases h
  | succ n ih =>
    intro d e b x y h rx ry A u v hu ru rv
    by_cases hf:∀ a,x≠.ref a
    · exact qgy h rx ry hf ru rv
    have hu':A.units<cLine:=by omega
    cases rx with
    | int i=>exact absurd (fun a e=>nomatch e) hf
    | bl i=>exact absurd (fun a e=>nomatch e) hf
    | str i=>exact absurd (fun a e=>nomatch e) hf
    | non=>exact absurd (fun a e=>nomatch e) hf
    | @tup a vs xs h1 h2 h3=>cases ry with
      | @tup c ws ys k1 k2 k3 =>
        cases ru;cases rv
        obtain ⟨g,hg,hb⟩:=qda (show cmL (cmB n) xs ys=some b from h)
        obtain ⟨its,r1,p1,_⟩:=I.sqb (b:=false) (show SqT X.K H a vs from .of (sm _ _ h1))
        obtain ⟨its',r2,p2,_⟩:=I.sqb (b:=false) (show SqT X.K H c ws from .of (sm _ _ k1))
        have l1:=Vals.length r1
        have l2:=Vals.length r2
        have he:∀ j (j1:j<its.toArray.size) (j2:j<its'.toArray.size),EqAt A.in1 s its.toArray[j] its'.toArray[j] (g j):=by
          intro j j1 j2
          simp only [List.size_toArray] at j1 j2
          obtain ⟨x,hx,rx⟩:=Vals.get' r1 j1
          obtain ⟨y,hy,ry⟩:=Vals.get' r2 j2
          have i1:j<xs.length:=by omega
          have i2:j<ys.length:=by omega
          exact (ih (hg j _ _ (qas i1) (qas i2)) (h3 j x _ hx (qas i1)) (k3 j y _ hy (qas i2)) A.in1 _ _ (by show A.units+1+n<cLine;omega) rx ry).1
        have R:=RcAt.tuples (e:=g) p1 p2 hu' he
        have R':=RcNeAt.tuples (e:=g) p1 p2 hu' he
        have et:((List.range (min its.toArray.size its'.toArray.size)).all g && its.toArray.size == its'.toArray.size)=b:=by
          rw [hb]
          simp only [List.size_toArray]
          rw [← l1,← l2,h2,k2]
        rw [et] at R R'
        refine ⟨?_,R,R'⟩
        by_cases hab:a=c
        · subst hab
          rw [qgq hK I sm (n+1) h (.tup h1 h2 h3) (.tup k1 k2 k3)];exact EqAt.same _
        · exact EqAt.of_refs hab R
      | _=>cases h
    | @lst a vs xs h1 h2 h3=>cases ry with
      | @lst c ws ys k1 k2 k3 =>
        cases ru;cases rv
        have h':(if xs.length=ys.length then cmL (cmB n) xs ys else some false)=some b:=h
        obtain ⟨its,r1,p1,_⟩:=I.sqb (b:=true) (show SqL X.K H a vs from SqL.of (sm _ _ h1))
        obtain ⟨its',r2,p2,_⟩:=I.sqb (b:=true) (show SqL X.K H c ws from SqL.of (sm _ _ k1))
        have l1:=Vals.length r1
        have l2:=Vals.length r2
        have fin:RcAt A s (.ref a) (.ref c) b∧RcNeAt A s (.ref a) (.ref c) (!b):=by
          by_cases hl:xs.length=ys.length
          · rw [if_pos hl] at h'
            obtain ⟨g,hg,hb⟩:=qda h'
            have he:∀ j (j1:j<its.toArray.size) (j2:j<its'.toArray.size),EqAt A.in1 s its.toArray[j] its'.toArray[j] (g j):=by
              intro j j1 j2
              simp only [List.size_toArray] at j1 j2
              obtain ⟨x,hx,rx⟩:=Vals.get' r1 j1
              obtain ⟨y,hy,ry⟩:=Vals.get' r2 j2
              have i1:j<xs.length:=by omega
              have i2:j<ys.length:=by omega
              exact (ih (hg j _ _ (qas i1) (qas i2)) (h3 j x _ hx (qas i1)) (k3 j y _ hy (qas i2)) A.in1 _ _ (by show A.units+1+n<cLine;omega) rx ry).1
            have hsz:its.toArray.size=its'.toArray.size:=by simp;omega
            have R:=RcAt.lists (e:=g) p1 p2 hsz hu' he
            have R':=RcNeAt.lists (e:=g) p1 p2 hsz hu' he
            have et:(List.range its.toArray.size).all g=b:=by
              have e1:min xs.length ys.length=its.length:=by omega
              have e2:(xs.length == ys.length)=true:=by simp [hl]
              rw [hb,e1,e2,Bool.and_true,List.size_toArray]
            rw [et] at R R'
            exact ⟨R,R'⟩
          · rw [if_neg hl] at h'
            cases h'
            have hsz:(its.toArray.size != its'.toArray.size)=true:=by simp;omega
            exact ⟨RcAt.lists_lengths p1 p2 hsz hu',RcNeAt.lists_lengths p1 p2 hsz hu'⟩
        refine ⟨?_,fin.1,fin.2⟩
        by_cases hab:a=c
        · subst hab
          rw [qgq hK I sm (n+1) h (.lst h1 h2 h3) (.lst k1 k2 k3)];exact EqAt.same _
        · exact EqAt.of_refs hab fin.1
      | _=>cases h
    | fzl _ _ _=>cases ry <;> cases h
    | obj _ _ _ _=>cases ry <;> cases h
    | map _ _ _=>cases ry <;> cases h
    | exc0 _ _=>cases ry <;> cases h
    | exc1 _ _ _ _=>cases ry <;> cases h
end
def zEq:RD2:=fun x y R=>match cmB 40 x y with | some b=>R (.bl b) | none=>False
def zNe:RD2:=fun x y R=>match cmB 40 x y with | some b=>R (.bl (!b)) | none=>False
section
variable {K : PySem.W.Frag} {X : Cx}
theorem RpQ.any {Φ H:Hp} {d:D} {v:V} (h:RpQ K Φ H d v) (s:Same Φ H):Rp K H d v:=by
  rcases h with h | ⟨a,vs,ds,e,e2,h1,h2⟩
  · exact h.same s
  · subst e e2;exact (h2.same s).lst h1
theorem qjh (hu:X.A.units+64<cLine):OpD K X (compareOp .Eq) zEq:=⟨fun hK pins s σ H x y u v Q I rx ry hq0=>by
  obtain ⟨Φ,dx,dy,R,sm,hx,hy,h,k⟩:=hq0
  unfold zEq at h
  split at h
  · next b hb=>exact (qh5 hK I (Same.refl H) 40 hb (hx.any sm) (hy.any sm) X.A u v (by omega) rx ry).2.1 X.prog X.w _ _ ⟨.bl b,H,I,rfl,k _ Φ H _ h (.refl sm) (.bl b)⟩
  · exact h.elim⟩
theorem qku (hu:X.A.units+64<cLine):OpD K X (compareOp .NotEq) zNe:=⟨fun hK pins s σ H x y u v Q I rx ry hq0=>by
  obtain ⟨Φ,dx,dy,R,sm,hx,hy,h,k⟩:=hq0
  unfold zNe at h
  split at h
  · next b hb=>exact (qh5 hK I (Same.refl H) 40 hb (hx.any sm) (hy.any sm) X.A u v (by omega) rx ry).2.2 X.prog X.w _ _ ⟨.bl (!b),H,I,rfl,k _ Φ H _ h (.refl sm) (.bl _)⟩
  · exact h.elim⟩
end
end L2
namespace HT
open PySem PySem.Spec PyProof.Rows
theorem getItem_tuple_all {prog:Program} {w:World} {A:Around} {E:Value→Shared→Prop} {s:Shared} {t sl:Addr} {items:Array Value} {vl vu:Value} {lo hi:Option Int} {Q:Value→Shared→Prop} (ht:IsTup s.heap t items) (hs:s.heap.IsSliceOf sl vl vu .none) (pl:IsPart vl lo) (pu:IsPart vu hi)
    (hw:sIx items.size 0 lo=0∧sIx items.size items.size hi=items.size) (h:Q (.ref t) s):wpAny (model prog w) A (getItem (.ref t) (.ref sl)) Q E s:=by
  obtain ⟨os,hos,hcs,hds⟩:=id hs
  have hTs:s.TypeIs (.ref sl) "slice":=⟨os,hos,hcs⟩
  unfold getItem
  try with_reducible refine wpAny_holding ?_
  first | refine wpAny_bind (wpAny_pure ?_) | skip
  refine wpAny_bind (wpAny_sequenceKey ht.typeIs (by decide) ?_)
  refine wpAny_bind (wpAny_callSpecial?_slot (name:=Str.ofString "__getitem__") ht.typeIs PyProof.Rows.slot_tuple_getitem
    (wpAny_call_entry PyProof.Rows.slot_tuple_getitem ht.typeIs entry_tuple_getitem ?_ (args_tuple_getitem _ _)))
  show wpAny _ _ (Builtin.Tuple.tupleItemsOf (.ref t) >>= _) _ _ s
  refine wpAny_bind (tupleItemsOf_ ht ?_)
  refine wpAny_bind (wpAny_typeOf hTs ?_)
  rw [if_pos (by decide)]
  refine wpAny_bind (qbD hs pl pu ?_)
  have hyes:(((sIx items.size 0 lo:Nat):Int) == 0 && (1:Int) == 1 && (sIx items.size items.size hi - sIx items.size 0 lo) == items.size)=true:=by
    rw [hw.1,hw.2]
    simp
  show wpAny _ _ (if (((sIx items.size 0 lo:Nat):Int) == 0 && (1:Int) == 1 && (sIx items.size items.size hi - sIx items.size 0 lo) == items.size)=true then _ else _) _ _ s
  rw [if_pos hyes]
  refine wpAny_bind (show wpAny _ _ (typeOf (.ref t) >>= fun c=>pure (c == .type "tuple")) _ _ s from wpAny_bind (wpAny_typeOf ht.typeIs (wpAny_pure ?_)))
  rw [if_pos (by decide)]
  exact wpAny_bind (wpAny_rule (wpAny_pure ⟨_,rfl,wpAny_pure h⟩))
end HT
namespace L2
open PySem PySem.Spec PyProof.Rows
section
variable {K : PySem.W.Frag} {X : Cx} {e a b c : Expr} {es : List Expr} {pos p2 : Pos} {t ta tb : TD} {tf : TDL} {tl : TDL} {tt tu : TDB}
def zIx:RD2:=fun x y R=>match y with
  | .int i=>(match x with
    | .lst ds=>∃ d,atI ds i=some d∧R d
    | .tup ds=>∃ d,atI ds i=some d∧R d
    | .fzl ds=>∃ d,atI ds i=some d∧R d
    | .str z=>z.length≤sizeLine∧∃ c,atI z.cps.toList i=some c∧R (.str ⟨#[c]⟩)
    | _=>False)
  | _=>False
theorem qio {Φ:Hp} {ds:List D} {vs:List V} {d:D} {i:Int} (h:RpL K Φ ds vs) (e:atI ds i=some d):∃ v,atI vs i=some v∧Rp K Φ d v:=by
  unfold atI at e ⊢
  rw [h.1]
  cases hj:ixN ds.length i with
  | none=>rw [hj] at e;cases e
  | some j =>
    rw [hj,Option.bind_some] at e
    rw [Option.bind_some]
    exact h.at e
theorem ql6 (hK:X.K=K):IxR X (lR2 K zIx):=by
  intro value slice pins s σ H x y v u Q I rx ry ⟨Φ,dx,dy,R,sm,hx,hy,h,k⟩ hs
  cases dy with
  | int i =>
    cases hy.int
    cases dx with
    | lst ds =>
      obtain ⟨d,h1,h2⟩:=h
      obtain ⟨a,vs,rfl,q1,q2⟩:=hx.lst sm
      obtain ⟨w,hw,rw'⟩:=qio q2 h1
      exact qaz value slice pins s σ H _ _ v u Q I rx ry ⟨a,vs,i,w,rfl,rfl,.of q1,hw,k _ Φ H _ h2 (.refl sm) rw'⟩ hs
    | tup ds =>
      obtain ⟨d,h1,h2⟩:=h
      obtain ⟨a,vs,rfl,q1,_,q2⟩:=hx.tup sm
      obtain ⟨w,hw,rw'⟩:=qio q2 h1
      exact qjJ value slice pins s σ H _ _ v u Q I rx ry ⟨a,vs,i,w,rfl,rfl,hK ▸ q1,hw,k _ Φ H _ h2 (.refl sm) rw'⟩ hs
    | fzl ds =>
      obtain ⟨d,h1,h2⟩:=h
      obtain ⟨a,vs,rfl,q1,q2⟩:=hx.fzl sm
      obtain ⟨w,hw,rw'⟩:=qio q2 h1
      exact qaz value slice pins s σ H _ _ v u Q I rx ry ⟨a,vs,i,w,rfl,rfl,hK ▸ q1,hw,k _ Φ H _ h2 (.refl sm) rw'⟩ hs
    | str z =>
      obtain ⟨h0,c,h1,h2⟩:=h
      cases hx.str
      exact qjm value slice pins s σ H _ _ v u Q I rx ry ⟨z,i,c,rfl,rfl,h0,h1,k _ Φ H _ h2 (.refl sm) (.str _)⟩ hs
    | _=>exact h.elim
  | _=>exact h.elim
theorem qjT (ha:PQ K X a ta) (hb:PQ K X b tb) (hs:qgw b):PD K X (.Subscript a b pos) (dOp zIx ta tb) :=
  ⟨fun hK=>(qbn (ql6 hK) (ha.pe hK) (hb.pe hK) hs).imp fun _ _ _=>qdV⟩
abbrev TOD:=Rho→(Option Int→Prop)→Prop
def lO (K:PySem.W.Frag) (t:TOD):TO:=fun σ H Q=>∃ H0 Φ ρ R,EnvD K H0 Φ H σ ρ∧t ρ R∧∀ o Φ' H',R o→Gr Φ H Φ' H'→Q o H'
structure POD (K:PySem.W.Frag) (X:Cx) (e:Option Expr) (t:TOD):Prop where po:X.K=K→PO X e (lO K t)
def qll:TOD:=fun _ R=>R none
def qlb (t:TD):TOD:=fun ρ R=>t ρ fun d=>match d with | .int i=>R (some i) | _=>False
theorem PO.imp {o:Option Expr} {t t':TO} (h:PO X o t) (k:∀ σ H Q,t' σ H Q→t σ H Q):PO X o t':=fun pins s σ H Q I hw=>h pins s σ H Q I (k σ H Q hw)
theorem qfs:POD K X none qll:=⟨fun _=>po_none.imp fun σ H Q hq0=>by obtain ⟨H0,Φ,ρ,R,E,t,k⟩:=hq0;exact k none Φ H t (.refl E.fz)⟩
theorem qfm (h:PQ K X e t):POD K X (some e) (qlb t):=⟨fun hK=>(qgW (h.pe hK)).imp fun σ H Q hq0=>by obtain ⟨H0,Φ,ρ,R,E,t,k⟩:=hq0;exact ⟨H0,Φ,ρ,_,E,t,fun d Φ1 H1 v r g rv=>by
  cases d with
  | int i=>exact ⟨i,rv.int,k _ Φ1 H1 r g⟩
  | _=>exact r.elim⟩⟩
variable {lo hi : Option Expr} {to tp : TOD}
def qlz (K:PySem.W.Frag):V→Option Int→Option Int→Hp→VK→Prop:=fun x lo hi H Q=>∃ a xs,x=.ref a∧SqT K H a xs∧(HT.sIx xs.length 0 lo=0∧HT.sIx xs.length xs.length hi=xs.length)∧Q (.ref a) H
theorem sl_all:SlR X (qlz X.K):=by
  intro pins s σ H x v vl vu lo hi sl Q I rx hs pl pu h
  obtain ⟨a,xs,rfl,hx,hw,q⟩:=h
  cases rx
  obtain ⟨its,r,ht,hz⟩:=I.tuple hx
  have hlen:its.toArray.size=xs.length:=by rw [List.size_toArray];exact r.length.symm
  refine ⟨"tuple",_,PyProof.Rows.slot_tuple_getitem.lookup,ht.typeIs,?_⟩
  exact HT.getItem_tuple_all ht hs pl pu (by rw [hlen];exact hw) ⟨.ref a,H,I,rfl,q⟩
theorem qix {α:Type} {xs:List α} {l h:Option Int} (hw:HT.sIx xs.length 0 l=0∧HT.sIx xs.length xs.length h=xs.length):qcA xs l h=xs:=by
  unfold qcA
  rw [hw.1,hw.2,List.drop_zero,Nat.sub_zero,List.take_length]
def zSl (x:D) (l h:Option Int) (R:D→Prop):Prop:=match x with
  | .lst ds=>NF (qcA ds l h) fun zs=>R (.lst zs)
  | .fzl ds=>NF (qcA ds l h) fun zs=>R (.lst zs)
  | .tup ds=>NF (qcA ds l h) fun zs=>R (.tup zs)
  | .str z=>z.length≤sizeLine∧NF (qjC z l h) fun y=>R (.str y)
  | _=>False
def dSl (t:TD) (to tp:TOD):TD:=fun ρ R=>t ρ fun x=>to ρ fun l=>tp ρ fun h=>zSl x l h R
theorem qkx (ha:PQ K X a ta) (hl:POD K X lo to) (hh:POD K X hi tp):PD K X (.Subscript a (.Slice lo hi none p2) pos) (dSl ta to tp) :=
  ⟨fun hK=>(qfg (hK ▸ sl_list.or (sl_tup.or (sl_all.or qjn)):SlR X (fun x lo hi H Q=>qlD K x lo hi H Q∨qls K x lo hi H Q∨qlz K x lo hi H Q∨qlv x lo hi H Q)) (ha.pe hK) (hl.po hK) (hh.po hK)).imp fun σ H Q hq0=>by obtain ⟨H0,Φ,ρ,R,E,t,k⟩:=hq0;exact
    ⟨H0,Φ,ρ,_,E,t,fun dx Φ1 H1 x t1 g1 rx=>⟨H0,Φ1,ρ,_,E.gr g1,t1,fun l Φ2 H2 t2 g2=>⟨H0,Φ2,ρ,_,(E.gr g1).gr g2,t2,fun h Φ3 H3 t3 g3=>by
      have g:=(g1.trans g2).trans g3
      have rx3:=rx.gr (g2.trans g3)
      cases dx with
      | lst ds =>
        obtain ⟨a,vs,rfl,q1,q2⟩:=rx3.lst g.s
        exact .inl ⟨a,vs,rfl,.of q1,fun p hp=>k _ _ _ _ t3.get (g.trans (.new g.s hp _)) (((q2.cut l h).same (qal (g.s.free hp) _)).lst qac)⟩
      | fzl ds =>
        obtain ⟨a,vs,rfl,q1,q2⟩:=rx3.fzl g.s
        exact .inl ⟨a,vs,rfl,q1,fun p hp=>k _ _ _ _ t3.get (g.trans (.new g.s hp _)) (((q2.cut l h).same (qal (g.s.free hp) _)).lst qac)⟩
      | tup ds =>
        obtain ⟨a,vs,rfl,q1,q0,q2⟩:=rx3.tup g.s
        by_cases hw:HT.sIx vs.length 0 l=0∧HT.sIx vs.length vs.length h=vs.length
        · refine .inr (.inr (.inl ⟨a,vs,rfl,q1,hw,?_⟩))
          have e:qcA ds l h=ds:=qix (by rw [← q2.1];exact hw)
          have t4:=t3.get
          rw [e] at t4
          exact k _ _ _ _ t4 g (q2.tup q0)
        · exact .inr (.inl ⟨a,vs,rfl,q1,hw,fun p hp=>k _ _ _ _ t3.get (g.trans (.new g.s hp _)) (((q2.cut l h).same (qal (g.s.free hp) _)).tup qac)⟩)
      | str z =>
        cases rx3.str
        exact .inr (.inr (.inr ⟨z,rfl,t3.1,k _ _ _ _ t3.2.get g (.str _)⟩))
      | _=>exact t3.elim⟩⟩⟩⟩
abbrev SpD:=List D→(D→Prop)→Prop
def lSp (K:PySem.W.Frag) (sp:SpD):Sp:=fun vs H Q _=>∃ Φ ds R,Same Φ H∧TabF K Φ∧RpL K Φ ds vs∧sp ds R∧∀ d Φ' H' v,R d→Gr Φ H Φ' H'→Rp K Φ' d v→Q v H'
def qho (sp:SpD) (t:TDL):TD:=fun ρ R=>t ρ fun ds=>sp ds R
variable {CX : CXT} {k : Nat} {f : Addr} {fd : FuncData} {ps : List Str} {sp : SpD} {x : Str} {p : Pos} {E : XK}
theorem qjP (F:FnOk X.prog X.w X.K X.mg X.base CX k f fd ps (lSp K sp)) (hr:Room k X.A) (hg:Gl X x) (hm:X.mg x=some (.ref f)) (hk:PySem.W.keepIn X.K (.ref f)=true) (hb:Binds X.K fd ps []) (hx:qcV CX X E)
    (ha:PAD K X (e::es) tl) (he:starEach (e::es) X.env=(false,eval e X.env)::starEach es X.env) (hpl:(backTo pos (starEach es X.env)).any (·.1)=false) (hdb:(x == ("__debug__":Str))=false:=by decide) :
    PD K X (.Call (.Name x p) (e::es) [] pos) (qho sp tl) :=
  ⟨fun hK=>(qbo F hr hg hm hk hb .nil hx (ha.pa hK) hdb he hpl).imp fun σ H Q hq0=>by obtain ⟨H0,Φ,ρ,R,E,t,k⟩:=hq0;exact ⟨H0,Φ,ρ,_,E,t,fun ds Φ1 H1 vs r g rl _=>⟨Φ1,ds,R,g.s,E.tb.same g.f,by rw [List.append_nil];exact rl,r,fun d Φ' H' v rd g' rv=>k d Φ' H' v rd (g.trans g') rv⟩⟩⟩
def qkB (K:PySem.W.Frag) (Φ H:Hp) (ds:List D) (vs:List V):Prop:=vs.length=ds.length∧∀ (i:Nat) (v:V) (d:D),vs[i]?=some v→ds[i]?=some d→RpQ K Φ H d v
def lAQ (K:PySem.W.Frag) (t:TDL):TA:=fun σ H Q=>∃ H0 Φ ρ R,EnvD K H0 Φ H σ ρ∧t ρ R∧∀ ds Φ' H' vs,R ds→Gr Φ H Φ' H'→qkB K Φ' H' ds vs→Q vs H'
structure PAQ (K:PySem.W.Frag) (X:Cx) (es:List Expr) (t:TDL):Prop where pa:X.K=K→PA X es (lAQ K t)
theorem qa1:PAQ K X [] qlA:=⟨fun _=>pa_nil.imp fun σ H Q hq0=>by obtain ⟨H0,Φ,ρ,R,E,t,k⟩:=hq0;exact k [] Φ H [] t (.refl E.fz) ⟨rfl,fun i v d hv _=>by simp at hv⟩⟩
theorem qaG (ha:PQ K X e t) (hr:PAQ K X es tl) (hs:starEach (e::es) X.env=(false,eval e X.env)::starEach es X.env):PAQ K X (e::es) (qj0 t tl) :=
  ⟨fun hK=>(qam (ha.pe hK) (hr.pa hK) hs).imp fun σ H Q hq0=>by obtain ⟨H0,Φ,ρ,R,E,t,k⟩:=hq0;exact ⟨H0,Φ,ρ,_,E,t,fun d Φ1 H1 v r g rv=>⟨H0,Φ1,ρ,_,E.gr g,r,fun ds Φ2 H2 vs r2 g2 rl =>
    k _ Φ2 H2 _ r2 (g.trans g2) ⟨by simp [rl.1],fun i u d hu hd=>by
      cases i with
      | zero=>cases hu;cases hd;exact rv.gr g2
      | succ i=>exact rl.2 i u d hu hd⟩⟩⟩⟩
def lC (K:PySem.W.Frag) (r:SpD):List V→Hp→VK→Prop:=fun vs H Q=>∃ Φ ds R,Same Φ H∧qkB K Φ H ds vs∧r ds R∧∀ d Φ' H' v,R d→Gr Φ H Φ' H'→Rp K Φ' d v→Q v H'
structure CallD (K:PySem.W.Frag) (X:Cx) (f:Value) (r:SpD):Prop where c:X.K=K→qcc X f (lC K r)
theorem qbl {id:String} {r:SpD} (hc:CallD K X (.builtin id) r) (hg:Gl X x) (hm:X.mg x=none) (hv:bootBuiltins x=some (.builtin id)) (ha:PAQ K X (e::es) tl)
    (he:starEach (e::es) X.env=(false,eval e X.env)::starEach es X.env) (hpl:(backTo pos (starEach es X.env)).any (·.1)=false) (hn:x≠"__name__":=by decide) (hdb:(x == ("__debug__":Str))=false:=by decide):PD K X (.Call (.Name x p) (e::es) [] pos) (qho r tl) :=
  ⟨fun hK=>(qcJ (hc.c hK) hg hm hv (ha.pa hK) hn hdb he hpl).imp fun σ H Q hq0=>by obtain ⟨H0,Φ,ρ,R,E,t,k⟩:=hq0;exact ⟨H0,Φ,ρ,_,E,t,fun ds Φ1 H1 vs r g rl=>⟨Φ1,ds,R,g.s,rl,r,fun d Φ' H' v rd g' rv=>k d Φ' H' v rd (g.trans g') rv⟩⟩⟩
theorem qbz {T:String} {r:SpD} (hc:CallD K X (.type T) r) (hg:Gl X x) (hm:X.mg x=none) (hv:bootBuiltins x=some (.type T)) (ha:PAQ K X (e::es) tl)
    (he:starEach (e::es) X.env=(false,eval e X.env)::starEach es X.env) (hpl:(backTo pos (starEach es X.env)).any (·.1)=false) (hn:x≠"__name__":=by decide) (hdb:(x == ("__debug__":Str))=false:=by decide):PD K X (.Call (.Name x p) (e::es) [] pos) (qho r tl) :=
  ⟨fun hK=>(qbP (hc.c hK) hg hm hv (ha.pa hK) hn hdb he hpl).imp fun σ H Q hq0=>by obtain ⟨H0,Φ,ρ,R,E,t,k⟩:=hq0;exact ⟨H0,Φ,ρ,_,E,t,fun ds Φ1 H1 vs r g rl=>⟨Φ1,ds,R,g.s,rl,r,fun d Φ' H' v rd g' rv=>k d Φ' H' v rd (g.trans g') rv⟩⟩⟩
theorem qbF {Φ H:Hp} {d:D} {vs:List V} (h:qkB K Φ H [d] vs):∃ v,vs=[v]∧RpQ K Φ H d v:=by
  obtain ⟨h1,h2⟩:=h
  match vs,h1,h2 with
  | [v],_,h2=>exact ⟨v,rfl,h2 0 v d rfl rfl⟩
theorem qkb {Φ H:Hp} {d e:D} {vs:List V} (h:qkB K Φ H [d,e] vs):∃ v w,vs=[v,w]∧RpQ K Φ H d v∧RpQ K Φ H e w:=by
  obtain ⟨h1,h2⟩:=h
  match vs,h1,h2 with
  | [v,w],_,h2=>exact ⟨v,w,rfl,h2 0 v d rfl rfl,h2 1 w e rfl rfl⟩
def qmm:SpD:=fun ds R=>match ds with | [.lst xs]=>R (.int xs.length) | [.tup xs]=>R (.int xs.length) | [.fzl xs]=>R (.int xs.length) | [.str z]=>z.length≤sizeLine∧R (.int z.length) | _=>False
theorem qhg:CallD K X (.builtin "len") qmm:=⟨fun hK pins s σ H xs us Q I rr hq0=>by
  obtain ⟨Φ,ds,R,sm,hl,h,k⟩:=hq0
  match ds,h with
  | [.lst xs],h =>
    obtain ⟨v,rfl,r⟩:=qbF hl
    obtain ⟨a,vs,rfl,q1,q2⟩:=r.lst sm
    exact qa2 pins s σ H _ us Q I rr ⟨a,vs,rfl,.inl (.of q1),by rw [q2.1];exact k _ Φ H _ h (.refl sm) (.int _)⟩
  | [.tup xs],h =>
    obtain ⟨v,rfl,r⟩:=qbF hl
    obtain ⟨a,vs,rfl,q1,_,q2⟩:=r.tup sm
    exact qa2 pins s σ H _ us Q I rr ⟨a,vs,rfl,.inr (hK ▸ q1),by rw [q2.1];exact k _ Φ H _ h (.refl sm) (.int _)⟩
  | [.fzl xs],h =>
    obtain ⟨v,rfl,r⟩:=qbF hl
    obtain ⟨a,vs,rfl,q1,q2⟩:=r.fzl sm
    exact qa2 pins s σ H _ us Q I rr ⟨a,vs,rfl,.inl (hK ▸ q1),by rw [q2.1];exact k _ Φ H _ h (.refl sm) (.int _)⟩
  | [.str z],h =>
    obtain ⟨v,rfl,r⟩:=qbF hl
    cases r.str
    exact qep pins s σ H _ us Q I rr ⟨z,rfl,h.1,k _ Φ H _ h.2 (.refl sm) (.int _)⟩⟩
def qma:SpD:=fun ds R=>match ds with | [.int i]=>R (.int (if i<0 then -i else i)) | _=>False
theorem qlj:CallD K X (.builtin "abs") qma:=⟨fun hK pins s σ H xs us Q I rr hq0=>by
  obtain ⟨Φ,ds,R,sm,hl,h,k⟩:=hq0
  match ds,h with
  | [.int i],h =>
    obtain ⟨v,rfl,r⟩:=qbF hl
    cases r.int
    exact qg6 pins s σ H _ us Q I rr ⟨i,rfl,k _ Φ H _ h (.refl sm) (.int _)⟩⟩
def qk7:SpD:=fun ds R=>match ds with | [.int i,.int j]=>R (.int (if j>i then j else i)) | _=>False
theorem qjQ (hc:X.calm=true):CallD K X (.builtin "max") qk7:=⟨fun hK pins s σ H xs us Q I rr hq0=>by
  obtain ⟨Φ,ds,R,sm,hl,h,k⟩:=hq0
  match ds,h with
  | [.int i,.int j],h =>
    obtain ⟨v,w,rfl,r1,r2⟩:=qkb hl
    cases r1.int
    cases r2.int
    exact qgN hc pins s σ H _ us Q I rr ⟨i,j,rfl,k _ Φ H _ h (.refl sm) (.int _)⟩⟩
theorem qi5 {Φ:Hp} {ns:List Int} {vs:List V} (h:RpL K Φ (ns.map D.int) vs):vs=ns.map V.int:=by
  refine List.ext_getElem? fun i=>?_
  rw [List.getElem?_map]
  cases e:ns[i]? with
  | none =>
    have:=List.getElem?_eq_none_iff.mp e
    rw [List.getElem?_eq_none (by rw [h.1,List.length_map];exact this)]
    rfl
  | some n =>
    obtain ⟨v,hv,r⟩:=h.at (i:=i) (d:=.int n) (by rw [List.getElem?_map,e];rfl)
    cases r
    rw [hv]
    rfl
theorem qhz {Φ:Hp} {bs:List Bool} {vs:List V} (h:RpL K Φ (bs.map D.bl) vs):vs=bs.map V.bl:=by
  refine List.ext_getElem? fun i=>?_
  rw [List.getElem?_map]
  cases e:bs[i]? with
  | none =>
    have:=List.getElem?_eq_none_iff.mp e
    rw [List.getElem?_eq_none (by rw [h.1,List.length_map];exact this)]
    rfl
  | some n =>
    obtain ⟨v,hv,r⟩:=h.at (i:=i) (d:=.bl n) (by rw [List.getElem?_map,e];rfl)
    cases r
    rw [hv]
    rfl
theorem RpQ.sqb {Φ H:Hp} {d:D} {v:V} {ds:List D} (s:Same Φ H) (h:RpQ K Φ H d v) (e:qhy d=some ds):∃ (q:Bool) (a:Addr) (vs:List V),v=.ref a∧SqB K q H a vs∧RpL K Φ ds vs:=by
  obtain ⟨a,vs,e1,h1,h2⟩:=h.seq s e
  rcases h1 with h1 | h1
  · exact ⟨true,a,vs,e1,h1,h2⟩
  · exact ⟨false,a,vs,e1,h1,h2⟩
def qme:SpD:=fun ds R=>match ds with | [d]=>∃ ns:List Int,qhy d=some (ns.map D.int)∧R (.int ns.sum) | _=>False
theorem qjw (hc:X.calm=true):CallD K X (.builtin "sum") qme:=⟨fun hK pins s σ H xs us Q I rr hq0=>by
  obtain ⟨Φ,ds,R,sm,hl,h,k⟩:=hq0
  match ds,h with
  | [d],⟨ns,e,h⟩ =>
    obtain ⟨v,rfl,r⟩:=qbF hl
    obtain ⟨q,a,vs,rfl,q1,q2⟩:=r.sqb sm e
    rw [qi5 q2] at q1
    exact qg7 q hc pins s σ H _ us Q I rr ⟨a,ns,rfl,hK ▸ q1,k _ Φ H _ h (.refl sm) (.int _)⟩⟩
def qlN (f:List Bool→Bool):SpD:=fun ds R=>match ds with | [d]=>∃ bs:List Bool,qhy d=some (bs.map D.bl)∧R (.bl (f bs)) | _=>False
theorem qkl (hc:X.calm=true):CallD K X (.builtin "all") (qlN fun bs=>bs.all id):=⟨fun hK pins s σ H xs us Q I rr hq0=>by
  obtain ⟨Φ,ds,R,sm,hl,h,k⟩:=hq0
  match ds,h with
  | [d],⟨ns,e,h⟩ =>
    obtain ⟨v,rfl,r⟩:=qbF hl
    obtain ⟨q,a,vs,rfl,q1,q2⟩:=r.sqb sm e
    rw [qhz q2] at q1
    exact qhB q hc pins s σ H _ us Q I rr ⟨a,ns,rfl,hK ▸ q1,k _ Φ H _ h (.refl sm) (.bl _)⟩⟩
def qkr:SpD:=fun ds R=>match ds with | [.lst xs]=>R (.tup xs) | [.tup xs]=>R (.tup xs) | [.fzl xs]=>R (.tup xs) | _=>False
theorem qcq:CallD K X (.type "tuple") qkr:=⟨fun hK pins s σ H xs us Q I rr hq0=>by
  obtain ⟨Φ,ds,R,sm,hl,h,k⟩:=hq0
  match ds,h with
  | [.lst xs],h =>
    obtain ⟨v,rfl,r⟩:=qbF hl
    obtain ⟨a,vs,rfl,q1,q2⟩:=r.lst sm
    exact qaQ pins s σ H _ us Q I rr ⟨a,vs,rfl,.inl ⟨.of q1,fun p hp=>k _ _ _ _ h (.new sm hp _) ((q2.same (qal (sm.free hp) _)).tup qac)⟩⟩
  | [.fzl xs],h =>
    obtain ⟨v,rfl,r⟩:=qbF hl
    obtain ⟨a,vs,rfl,q1,q2⟩:=r.fzl sm
    exact qaQ pins s σ H _ us Q I rr ⟨a,vs,rfl,.inl ⟨hK ▸ q1,fun p hp=>k _ _ _ _ h (.new sm hp _) ((q2.same (qal (sm.free hp) _)).tup qac)⟩⟩
  | [.tup xs],h =>
    obtain ⟨v,rfl,r⟩:=qbF hl
    obtain ⟨a,vs,rfl,q1,q3,q2⟩:=r.tup sm
    exact qaQ pins s σ H _ us Q I rr ⟨a,vs,rfl,.inr ⟨hK ▸ q1,k _ Φ H _ h (.refl sm) (q2.tup q3)⟩⟩⟩
def qml:SpD:=fun ds R=>match ds with | [.int i]=>R (.int i) | [.bl b]=>R (.int (if b then 1 else 0)) | _=>False
theorem qkH:CallD K X (.type "int") qml:=⟨fun hK pins s σ H xs us Q I rr hq0=>by
  obtain ⟨Φ,ds,R,sm,hl,h,k⟩:=hq0
  match ds,h with
  | [.int i],h =>
    obtain ⟨v,rfl,r⟩:=qbF hl
    cases r.int
    exact qes pins s σ H _ us Q I rr (.inl ⟨i,rfl,k _ Φ H _ h (.refl sm) (.int _)⟩)
  | [.bl b],h =>
    obtain ⟨v,rfl,r⟩:=qbF hl
    cases r.bl
    exact qes pins s σ H _ us Q I rr (.inr ⟨b,rfl,k _ Φ H _ h (.refl sm) (.int _)⟩)⟩
def qjW (d:D) (T:String):Option Bool:=match d with
  | .int _=>if T="int" then some true else if T="bool" then some false else if T="tuple" then some false else if T="str" then some false else none
  | .bl _=>if T="int" then some true else if T="bool" then some true else if T="tuple" then some false else none
  | .str _=>if T="str" then some true else if T="tuple" then some false else none
  | .tup _=>if T="tuple" then some true else if T="int" then some false else none
  | .lst _=>if T="tuple" then some false else if T="list" then some true else none
  | _=>none
end
structure SteadyD (K:PySem.W.Frag) (J:It) (Φ:Hp) (ds:List D):Prop where
  go:∀ i H,Same Φ H→i<ds.length→J.go i H
  yl:∀ i Φ2 H x H2 d,Same Φ Φ2→Same Φ2 H→ds[i]?=some d→J.yld i H x H2→∃ Φ3,Gr Φ2 H Φ3 H2∧Rp K Φ3 d x
  stop:∀ H,Same Φ H→J.stop ds.length H
section
variable {K : PySem.W.Frag} {Φ : Hp} {ds es : List D} {vs ws : List V} {a : Addr}
theorem qeg (h:SqL K Φ a vs) (r:RpL K Φ ds vs):SteadyD K (Itl K a) Φ ds :=
  ⟨fun i H s hi=>⟨vs,vs[i]'(by rw [r.1];exact hi),s.seq h,qas _⟩,fun i Φ2 H x H2 d s2 s hd y=>by
    obtain ⟨e,y⟩:=y
    subst e
    exact ⟨Φ2,.refl s,(r.2 i x d (y vs ((s2.trans s).seq h)) hd).same s2⟩,fun H s=>⟨vs,s.seq h,by rw [r.1];exact Nat.le_refl _⟩⟩
theorem qe3 (h:SqT K Φ a vs) (r:RpL K Φ ds vs):SteadyD K (Itt K a) Φ ds :=
  ⟨fun i H s hi=>⟨vs,vs[i]'(by rw [r.1];exact hi),s.sqt h,qas _⟩,fun i Φ2 H x H2 d s2 s hd y=>by
    obtain ⟨e,y⟩:=y
    subst e
    exact ⟨Φ2,.refl s,(r.2 i x d (y vs ((s2.trans s).sqt h)) hd).same s2⟩,fun H s=>⟨vs,s.sqt h,by rw [r.1];exact Nat.le_refl _⟩⟩
def qb7 (lo:Int) (n:Nat):List D:=(List.range n).map fun i=>D.int (lo+(i:Nat))
theorem qbp (lo:Int) (n:Nat):(qb7 lo n).length=n:=by unfold qb7;simp
theorem qc8 {lo:Int} {n i:Nat} {d:D} (h:(qb7 lo n)[i]?=some d):i<n∧d=.int (lo+(i:Nat)):=by
  have hi:i<n:=by have:=qaD h;rwa [qbp] at this
  unfold qb7 at h
  rw [List.getElem?_map,List.getElem?_range hi] at h
  cases h
  exact ⟨hi,rfl⟩
theorem qdW {lo:Int} {n:Nat}:SteadyD K (Itr lo n) Φ (qb7 lo n) :=
  ⟨fun i H s hi=>by rw [qbp] at hi;exact hi,fun i Φ2 H x H2 d s2 s hd y=>by
    obtain ⟨e,y⟩:=y
    subst e y
    rw [(qc8 hd).2]
    exact ⟨Φ2,.refl s,.int _⟩,fun H s=>by rw [qbp];exact Nat.le_refl n⟩
def qd3 (ds:List D):List D:=ds.zipIdx.map fun p=>.tup [.int (p.2:Nat),p.1]
theorem qbs (ds:List D):(qd3 ds).length=ds.length:=by unfold qd3;simp
theorem qcL {i:Nat} {d:D} (h:(qd3 ds)[i]?=some d):∃ e,ds[i]?=some e∧d=.tup [.int (i:Nat),e]:=by
  unfold qd3 at h
  rw [List.getElem?_map,List.getElem?_zipIdx] at h
  cases e:ds[i]? with
  | none=>rw [e] at h;cases h
  | some x=>rw [e] at h;cases h;exact ⟨x,rfl,by simp⟩
theorem Rp.pair {H:Hp} {t:Addr} {d e:D} {x y:V} (h:H t=some (.tup [x,y])) (r1:Rp K H d x) (r2:Rp K H e y):Rp K H (.tup [d,e]) (.ref t):=(RpL.cons r1 (.one r2)).tup h
theorem qef {b:Bool} (h:SqB K b Φ a vs) (r:RpL K Φ ds vs):SteadyD K (Ite K b a) Φ (qd3 ds) :=
  ⟨fun i H s hi=>by rw [qbs] at hi;exact ⟨vs,vs[i]'(by rw [r.1];exact hi),SqB.same s h,qas _⟩,fun i Φ2 H x H2 d s2 s hd y=>by
    obtain ⟨t,v,hn,e,e',y⟩:=y
    subst e e'
    obtain ⟨e,he,rfl⟩:=qcL hd
    have rv:=(r.2 i v e (y vs (SqB.same (s2.trans s) h)) he).same (s2.trans (qal (s.free hn) (.tup [.int i,v])))
    exact ⟨_,.new s hn _,.pair qac (.int _) rv⟩,fun H s=>by rw [qbs];exact ⟨vs,SqB.same s h,by rw [r.1];exact Nat.le_refl _⟩⟩
def qfY (ds es:List D):List D:=List.zipWith (fun x y=>.tup [x,y]) ds es
theorem qdH (ds es:List D):(qfY ds es).length=min ds.length es.length:=by unfold qfY;simp
theorem qgr {i:Nat} {d:D} (h:(qfY ds es)[i]?=some d):∃ x y,ds[i]?=some x∧es[i]?=some y∧d=.tup [x,y]:=by
  unfold qfY at h
  rw [List.getElem?_zipWith] at h
  cases e:ds[i]? with
  | none=>rw [e] at h;cases h
  | some x =>
    cases e2:es[i]? with
    | none=>rw [e,e2] at h;cases h
    | some y=>rw [e,e2] at h;cases h;exact ⟨x,y,rfl,rfl,rfl⟩
theorem qeE {b1 b2:Bool} {a1 a2:Addr} (h1:SqB K b1 Φ a1 vs) (h2:SqB K b2 Φ a2 ws) (r1:RpL K Φ ds vs) (r2:RpL K Φ es ws):SteadyD K (Itz K b1 a1 b2 a2) Φ (qfY ds es) :=
  ⟨fun i H s hi=>by
    rw [qdH] at hi
    have i1:i<vs.length:=by rw [r1.1];omega
    have i2:i<ws.length:=by rw [r2.1];omega
    exact ⟨vs,ws,vs[i],ws[i],SqB.same s h1,SqB.same s h2,qas i1,qas i2⟩,fun i Φ2 H x H2 d s2 s hd y=>by
    obtain ⟨t,u,v,hn,e,e',y1,y2⟩:=y
    subst e e'
    obtain ⟨p,q,hp,hq,rfl⟩:=qgr hd
    have sn:=s2.trans (qal (s.free hn) (.tup [u,v]))
    exact ⟨_,.new s hn _,.pair qac ((r1.2 i u p (y1 vs (SqB.same (s2.trans s) h1)) hp).same sn) ((r2.2 i v q (y2 ws (SqB.same (s2.trans s) h2)) hq).same sn)⟩,fun H s=>by
    rw [qdH]
    exact ⟨vs,ws,SqB.same s h1,SqB.same s h2,by rw [r1.1,r2.1];omega⟩⟩
end
def lI (K:PySem.W.Frag) (t:TDL):TI:=fun σ H R'=>∃ H0 Φ ρ R,EnvD K H0 Φ H σ ρ∧t ρ R∧∀ ds Φ' H' J,R ds→Gr Φ H Φ' H'→SteadyD K J Φ' ds→R' J H'
structure PID (K:PySem.W.Frag) (X:Cx) (tg e:Expr) (t:TDL):Prop where pi:X.K=K→PI X tg e (lI K t)
theorem PI.imp {X:Cx} {tg e:Expr} {t t':TI} (h:PI X tg e t) (k:∀ σ H R,t' σ H R→t σ H R):PI X tg e t':=fun pins s σ H R I hw=>h pins s σ H R I (k σ H R hw)
section
variable {K : PySem.W.Frag} {X : Cx} {tg e a b : Expr} {es : List Expr} {pos p tp : Pos} {t ta tb : TD} {tl : TDL}
theorem qhI {es:List Expr} {k:Nat} {t:TGs} {n:Nat} (hK:X.K=K) (hc:X.calm=true) (h:PGs X es t) (hn:(assignEach es X.env).length=n) (hst:(assignEach es X.env).findIdx? (·.1)=none):PG X (.Tuple es k pos) (qlG K n t):=hK ▸ qjO hc h hn hst
theorem qhE {es:List Expr} {k:Nat} {t:TGs} {n:Nat} (hK:X.K=K) (hc:X.calm=true) (h:PGs X es t) (hn:(assignEach es X.env).length=n) (hst:(assignEach es X.env).findIdx? (·.1)=none):PG X (.Tuple es k pos) (qlx K n t):=hK ▸ qkp hc h hn hst
def qiT (t:TDL):TDL:=fun ρ R=>t ρ fun ds=>match ds with | [.int j]=>(-(2 ^ 62)≤j∧j<2 ^ 62)∧R (qb7 0 j.toNat) | _=>False
theorem RpL.one_inv {Φ:Hp} {d:D} {vs:List V} (h:RpL K Φ [d] vs):∃ v,vs=[v]∧Rp K Φ d v:=by
  obtain ⟨h1,h2⟩:=h
  match vs,h1,h2 with
  | [v],_,h2=>exact ⟨v,rfl,h2 0 v d rfl rfl⟩
theorem RpL.two_inv {Φ:Hp} {d e:D} {vs:List V} (h:RpL K Φ [d,e] vs):∃ v w,vs=[v,w]∧Rp K Φ d v∧Rp K Φ e w:=by
  obtain ⟨h1,h2⟩:=h
  match vs,h1,h2 with
  | [v,w],_,h2=>exact ⟨v,w,rfl,h2 0 v d rfl rfl,h2 1 w e rfl rfl⟩
theorem qd0 (hg:Gl X "range") (hm:X.mg "range"=none) (ha:PAD K X [a] tl) (hs:starEach [a] X.env=[(false,eval a X.env)]:=by rfl):PID K X tg (.Call (.Name "range" p) [a] [] pos) (qiT tl) :=
  ⟨fun hK=>(qec hg hm (ha.pa hK) hs).imp fun σ H R' hq0=>by obtain ⟨H0,Φ,ρ,R,E,t,k⟩:=hq0;exact ⟨H0,Φ,ρ,_,E,t,fun ds Φ1 H1 vs r g rv _=>by
    match ds,r with
    | [.int j],r =>
      obtain ⟨v,rfl,r1⟩:=rv.one_inv
      cases r1
      exact ⟨j,rfl,r.1.1,r.1.2,k _ Φ1 H1 _ r.2 g qdW⟩⟩⟩
end
abbrev TGD:=D→Rho→(Rho→Prop)→Prop
abbrev qfx:=List D→Rho→(Rho→Prop)→Prop
def lG (K:PySem.W.Frag) (g:TGD):TG:=fun v σ H Q=>∃ H0 Φ ρ d R,EnvD K H0 Φ H σ ρ∧Rp K Φ d v∧g d ρ R∧∀ ρ' σ',R ρ'→EnvD K H0 Φ H σ' ρ'→Q σ' H
def lGs (K:PySem.W.Frag) (g:qfx):TGs:=fun vs σ H Q=>∃ H0 Φ ρ ds R,EnvD K H0 Φ H σ ρ∧RpL K Φ ds vs∧g ds ρ R∧∀ ρ' σ',R ρ'→EnvD K H0 Φ H σ' ρ'→Q σ' H
structure PGD (K:PySem.W.Frag) (X:Cx) (e:Expr) (g:TGD):Prop where pg:X.K=K→PG X e (lG K g)
structure PGDs (K:PySem.W.Frag) (X:Cx) (es:List Expr) (g:qfx):Prop where pg:X.K=K→PGs X es (lGs K g)
theorem PG.imp {X:Cx} {e:Expr} {t t':TG} (h:PG X e t) (k:∀ v σ H Q,t' v σ H Q→t v σ H Q):PG X e t':=fun pins s σ H v u Q I r hw=>h pins s σ H v u Q I r (k v σ H Q hw)
theorem PGs.imp {X:Cx} {e:List Expr} {t t':TGs} (h:PGs X e t) (k:∀ v σ H Q,t' v σ H Q→t v σ H Q):PGs X e t':=fun pins s σ H v u Q I r hw=>h pins s σ H v u Q I r (k v σ H Q hw)
section
variable {K : PySem.W.Frag} {X : Cx} {e : Expr} {es : List Expr} {pos : Pos} {g : TGD} {gs : qfx}
def qkO (i:Nat):TGD:=fun d ρ R=>R (ρ.set i (some (.v d)))
theorem qat {i:Nat} {x:Str} (hN:X.N.Nodup) (hi:X.N[i]?=some x) (hx:Loc X.env.scope x) (hf:X.fn x=true∨X.env.scope.names.lookup x=some .local:=by first | exact .inl rfl | exact .inr rfl | assumption):PGD K X (.Name x pos) (qkO i) :=
  ⟨fun _=>(qdT hN hi hx hf).imp fun v σ H Q hq0=>by obtain ⟨H0,Φ,ρ,d,R,E,r,g,k⟩:=hq0;exact k _ _ g (E.set r i)⟩
def qiU:qfx:=fun ds ρ R=>match ds with | []=>R ρ | _=>False
def qe7 (t:TGD) (u:qfx):qfx:=fun ds ρ R=>match ds with | d::r=>t d ρ fun ρ'=>u r ρ' R | []=>False
theorem qbx:PGDs K X [] qiU:=⟨fun _=>pgs_nil.imp fun v σ H Q hq0=>by
  obtain ⟨H0,Φ,ρ,ds,R,E,r,g,k⟩:=hq0
  cases ds with
  | nil=>exact ⟨List.length_eq_zero_iff.mp r.1,k _ _ g E⟩
  | cons=>exact g.elim⟩
theorem qau (h1:PGD K X e g) (h2:PGDs K X es gs) (hs:(assignEach (e::es) X.env).map (·.2)=assign e X.env::(assignEach es X.env).map (·.2):=by rfl):PGDs K X (e::es) (qe7 g gs) :=
  ⟨fun hK=>(qg1 (h1.pg hK) (h2.pg hK) hs).imp fun vs σ H Q hq0=>by
    obtain ⟨H0,Φ,ρ,ds,R,E,r,g,k⟩:=hq0
    cases ds with
    | nil=>exact g.elim
    | cons d ds =>
      cases vs with
      | nil=>exact absurd r.1 (by simp)
      | cons v vs =>
        refine ⟨v,vs,rfl,H0,Φ,ρ,d,_,E,r.2 0 v d rfl rfl,g,fun ρ' σ' g' E'=>⟨H0,Φ,ρ',ds,R,E',⟨by have:=r.1;simpa using this,fun i u f hu hf=>r.2 (i+1) u f hu hf⟩,g',k⟩⟩⟩
end
def qeC (cap:List (Option Nat)) (ρ:Rho):Rho:=cap.map fun o=>o.bind fun i=>(ρ[i]?).join
theorem qgx {α:Type} {o:Option (Option α)} {x:α} (h:o.join=some x):o=some (some x):=by
  cases o with
  | none=>cases h
  | some o=>cases o with
    | none=>cases h
    | some y=>cases h;rfl
theorem qdm {α:Type} {cap:List (Option Nat)} {l:List (Option α)} {i:Nat} {x:α} (h:(cap.map fun o=>o.bind fun i=>(l[i]?).join)[i]?=some (some x)):∃ j,cap[i]?=some (some j)∧l[j]?=some (some x):=by
  rw [List.getElem?_map] at h
  cases e:cap[i]? with
  | none=>rw [e] at h;cases h
  | some o =>
    rw [e] at h
    cases o with
    | none=>cases h
    | some j=>exact ⟨j,rfl,qgx (by simpa using h)⟩
theorem EnvD.cap {K:PySem.W.Frag} {H0 Φ H:Hp} {σ:St} {ρ:Rho} {cap:List (Option Nat)} (E:EnvD K H0 Φ H σ ρ) (inj:∀ i j k:Nat,cap[i]?=some (some k)→cap[j]?=some (some k)→i=j):EnvD K H0 Φ H (qbG cap σ) (qeC cap ρ):=by
  have st:∀ {i j:Nat} {v:V},cap[i]?=some (some j)→σ[j]?=some (some v)→(qbG cap σ)[i]?=some (some v):=fun hc hs=>by
    unfold qbG
    rw [List.getElem?_map,hc]
    simp [hs]
  have ts:∀ {i j:Nat} {v:V},cap[i]?=some (some j)→(qbG cap σ)[i]?=some (some v)→σ[j]?=some (some v):=fun hc hs=>by
    obtain ⟨j',h1,h2⟩:=qdm hs
    rw [hc] at h1
    cases h1
    exact h2
  refine ⟨E.fz,by unfold qbG qeC;simp,fun i d h=>?_,fun i ds h=>?_,fun i j ds es p hi hj si sj=>?_,E.tb⟩
  · obtain ⟨j,h1,h2⟩:=qdm h
    obtain ⟨v,e,r⟩:=E.sl j d h2
    exact ⟨v,st h1 e,r⟩
  · obtain ⟨j,h1,h2⟩:=qdm h
    obtain ⟨p,vs,e,q⟩:=E.ow j ds h2
    exact ⟨p,vs,st h1 e,q⟩
  · obtain ⟨i',h1,h2⟩:=qdm hi
    obtain ⟨j',h3,h4⟩:=qdm hj
    have:=E.ne i' j' ds es p h2 h4 (ts h1 si) (ts h3 sj)
    subst this
    exact inj i j i' h1 h3
structure GK (k:Nat) (g:TGD):Prop where p:∀ d ρ R,g d ρ R→g d ρ fun ρ1=>ρ1.length=ρ.length∧ρ1.drop k=ρ.drop k∧R ρ1
structure GKs (k:Nat) (g:qfx):Prop where p:∀ ds ρ R,g ds ρ R→g ds ρ fun ρ1=>ρ1.length=ρ.length∧ρ1.drop k=ρ.drop k∧R ρ1
theorem qkn {k i:Nat} (h:i<k):GK k (qkO i):=⟨fun d ρ R r=>⟨by simp,by rw [List.drop_set_of_lt h],r⟩⟩
theorem qjz {k:Nat}:GKs k qiU:=⟨fun ds ρ R r=>by
  cases ds with
  | nil=>exact ⟨rfl,rfl,r⟩
  | cons=>exact r⟩
theorem qe0 {t:TGD} {u:qfx} (ht:∀ d ρ R R',(∀ x,R x→R' x)→t d ρ R→t d ρ R') (hu:∀ d ρ R R',(∀ x,R x→R' x)→u d ρ R→u d ρ R'):∀ d ρ R R',(∀ x,R x→R' x)→qe7 t u d ρ R→qe7 t u d ρ R':=by
  intro ds ρ R R' h r
  cases ds with
  | nil=>exact r
  | cons d ds=>exact ht d ρ _ _ (fun x hx=>hu ds x _ _ h hx) r
structure GM (k:Nat) (g:TGD):Prop where
  k:GK k g
  m:∀ d ρ R R',(∀ x,R x→R' x)→g d ρ R→g d ρ R'
structure GMs (k:Nat) (g:qfx):Prop where
  k:GKs k g
  m:∀ d ρ R R',(∀ x,R x→R' x)→g d ρ R→g d ρ R'
theorem qaN {k i:Nat} (h:i<k):GM k (qkO i):=⟨qkn h,fun d ρ R R' h r=>h _ r⟩
theorem qdj {k:Nat}:GMs k qiU:=⟨qjz,fun ds ρ R R' h r=>by
  cases ds with
  | nil=>exact h _ r
  | cons=>exact r⟩
theorem qa3 {k:Nat} {t:TGD} {u:qfx} (h1:GM k t) (h2:GMs k u):GMs k (qe7 t u):=⟨⟨fun ds ρ R r=>by
  cases ds with
  | nil=>exact r
  | cons d ds =>
    have r1:t d ρ fun ρ'=>u ds ρ' R:=r
    refine h1.m _ _ _ _ (fun ρ1 q=>?_) (h1.k.p d ρ _ r1)
    exact h2.m _ _ _ _ (fun ρ2 q2=>⟨q2.1.trans q.1,q2.2.1.trans q.2.1,q2.2.2⟩) (h2.k.p ds ρ1 R q.2.2)⟩,qe0 h1.m h2.m⟩
def qja:TDB:=fun _ R=>R true
structure PIfD (K:PySem.W.Frag) (X:Cx) (ifs:List Expr) (t:TDB):Prop where p:X.K=K→qji X ifs (lT K t)
theorem qh8 {K:PySem.W.Frag} {X:Cx}:PIfD K X [] qja:=⟨fun _ pins s σ H Q I hq0=>by obtain ⟨H0,Φ,ρ,R,E,t,k⟩:=hq0;exact qdX pins s σ H Q I (k true Φ H t (.refl E.fz))⟩
theorem qkt {K:PySem.W.Frag} {X:Cx} {c:Expr} {t:TDB} (h:PTD K X c t):PIfD K X [c] t:=⟨fun hK=>qhN (h.pt hK)⟩
theorem EnvD.side {K:PySem.W.Frag} {H0 Φ H:Hp} {σ:St} {ρ:Rho} {p:Addr} {o u:HO} (E:EnvD K H0 Φ H σ ρ) (h0:H0 p=some u) (hn:Φ p=none):EnvD K H0 Φ (upd H p o) σ ρ :=
  ⟨fun b w e=>by rw [qad (qak e hn)];exact E.fz b w e,E.len,E.sl,fun i ds h=>by
    obtain ⟨q,vs,e,q0,qn,qp,qr⟩:=E.ow i ds h
    exact ⟨q,vs,e,q0,qn,by rw [qad fun z=>by rw [z,h0] at q0;cases q0];exact qp,qr⟩,E.ne,E.tb⟩
theorem EnvD.base {K:PySem.W.Frag} {H0 Φ H:Hp} {σ:St} {ρ:Rho} {p:Addr} {u:HO} (E:EnvD K H0 Φ H σ ρ) (hp:H p=none):EnvD K (upd H0 p u) Φ H σ ρ :=
  ⟨E.fz,E.len,E.sl,fun i ds h=>by
    obtain ⟨q,vs,e,q0,qn,qp,qr⟩:=E.ow i ds h
    exact ⟨q,vs,e,by rw [qad (qak qp hp)];exact q0,qn,qp,qr⟩,E.ne,E.tb⟩
def qkj (ti:TDL) (cap:List (Option Nat)) (g:TGD) (tc:TDB) (te:TD):TDL:=fun ρ R=>ti ρ fun ds=>ds.length<sizeLine∧∃ P:Nat→Option D→Prop,
  (∀ i d,ds[i]?=some d→g d (qeC cap ρ) fun ρ1=>tc ρ1 fun b=>(b=true→te ρ1 fun y=>P i (some y))∧(b=false→P i none))∧∀ ys:List (Option D),ys.length=ds.length→(∀ i y,ys[i]?=some y→P i y)→R (ys.filterMap id)
theorem qi1 (ys:List (Option D)) (y:D):(ys++[some y]).filterMap id=ys.filterMap id++[y]:=by simp
theorem qhG (ys:List (Option D)):(ys++[none]).filterMap id=ys.filterMap id:=by simp
theorem qjp (ys:List (Option D)):(ys.filterMap id).length≤ys.length:=List.length_filterMap_le _ _
theorem qfc {α:Type} {ys:List α} {y:α} {P:Nat→α→Prop} {n:Nat} (hl:ys.length=n) (h:∀ i z,ys[i]?=some z→P i z) (hy:P n y):∀ i z,(ys++[y])[i]?=some z→P i z:=by
  intro i z hz
  rcases Nat.lt_or_ge i ys.length with c | c
  · rw [List.getElem?_append_left c] at hz
    exact h i z hz
  · rw [List.getElem?_append_right c] at hz
    have h0:i - ys.length=0:=by
      rcases Nat.eq_zero_or_pos (i - ys.length) with e | e
      · exact e
      · rw [List.getElem?_eq_none (by simp only [List.length_cons,List.length_nil];omega)] at hz;cases hz
    rw [h0] at hz
    cases hz
    have:i=n:=by omega
    subst this
    exact hy
def qc4 (k:Nat) (cap:List (Option Nat)):Bool:=(cap.take k).all (·.isNone) && decide ((cap.filterMap id).Nodup)
theorem qf8 {k:Nat} {cap:List (Option Nat)} (h:qc4 k cap=true) {i:Nat} (hi:i<k) {o:Option Nat} (e:cap[i]?=some o):o=none:=by
  unfold qc4 at h
  rw [Bool.and_eq_true] at h
  have:=List.all_eq_true.mp h.1 o (List.mem_of_getElem? (i:=i) (by rw [List.getElem?_take_of_lt hi];exact e))
  cases o with
  | none=>rfl
  | some _=>cases this
theorem qee {k:Nat} {cap:List (Option Nat)} (h:qc4 k cap=true):∀ i j n:Nat,cap[i]?=some (some n)→cap[j]?=some (some n)→i=j:=by
  unfold qc4 at h
  rw [Bool.and_eq_true] at h
  have nd:=of_decide_eq_true h.2
  clear h
  induction cap with
  | nil=>intro i j n hi;simp at hi
  | cons o cap ih =>
    intro i j n hi hj
    have nd':(cap.filterMap id).Nodup:=by
      cases o with
      | none=>simpa using nd
      | some m => have e : (some m :: cap).filterMap id = m :: cap.filterMap id := rfl
                  rw [e] at nd;exact (List.nodup_cons.mp nd).2
    have one:∀ {i:Nat},o=some n→cap[i]?=some (some n)→False:=fun {i} ho hi'=>by
      subst ho
      have e:(some n::cap).filterMap id=n::cap.filterMap id:=rfl
      rw [e] at nd
      exact (List.nodup_cons.mp nd).1 (List.mem_filterMap.mpr ⟨some n,List.mem_of_getElem? hi',rfl⟩)
    cases i with
    | zero=>cases j with
      | zero=>rfl
      | succ j=>exact (one (by simpa using hi) (by simpa using hj)).elim
    | succ i=>cases j with
      | zero=>exact (one (by simpa using hj) (by simpa using hi)).elim
      | succ j=>exact congrArg Nat.succ (ih nd' i j n (by simpa using hi) (by simpa using hj))
section
variable {K : PySem.W.Frag} {X : Cx} {tg iter elt : Expr} {ifs : List Expr} {scope : Scope} {pos : Pos} {N' : List Str} {cap : List (Option Nat)} {ti : TDL} {g : TGD} {tc : TDB} {te : TD}
theorem qeu {k:Nat} (hcap:qc4 k cap=true) (hk:GM k g) {σ:St} {H:Hp} {Q:VK} {H0 Φ:Hp} {ρ:Rho} {R W:List D→Prop} (E:EnvD K H0 Φ H σ ρ) (t:ti ρ W)
    (conv:∀ ds,W ds→ds.length<sizeLine∧∃ P:Nat→Option D→Prop,(∀ i d,ds[i]?=some d→g d (qeC cap ρ) fun ρ1=>tc ρ1 fun b=>(b=true→te ρ1 fun y=>P i (some y))∧(b=false→P i none))∧∀ ys:List (Option D),ys.length=ds.length→(∀ i y,ys[i]?=some y→P i y)→R (ys.filterMap id))
    (kk:∀ ds Φ' H' p vs,R ds→Gr Φ H Φ' H'→H p=none→Φ' p=none→H' p=some (.lst vs)→RpL K Φ' ds vs→Q (.ref p) H'):qe4 (lI K ti) cap (lG K g) (lT K tc) (lE K te) σ H Q:=by
  refine ⟨H0,Φ,ρ,W,E,t,fun ds Φ1 H1 J hW g1 S Dd hD=>?_⟩
  obtain ⟨hlen,P,hp,hr⟩:=conv ds hW
  have E1:=E.gr g1
  have hDΦ:Φ1 Dd=none:=g1.s.free hD
  have C0:EnvD K (upd H0 Dd (.lst [])) Φ1 (upd H1 Dd (.lst [])) (qbG cap σ) (qeC cap ρ):=((E1.base (u:=.lst []) hD).side (o:=.lst []) qac hDΦ).cap (qee hcap)
  refine ⟨fun i m σ' H'=>m=ds.length - i∧i≤ds.length∧∃ (Φ':Hp) (vs:List V) (ys:List (Option D)),EnvD K (upd H0 Dd (.lst [])) Φ' H' σ' (qeC cap ρ)∧Gr Φ1 H1 Φ' H'∧Φ' Dd=none∧H' Dd=some (.lst vs)∧RpL K Φ' (ys.filterMap id) vs∧ys.length=i∧∀ j y,ys[j]?=some y→P j y,⟨ds.length,by simp,Nat.zero_le _,Φ1,[],[],C0,.fresh g1.s hD _,hDΦ,qac,.nil,rfl,fun j y hj=>by simp at hj⟩,?_⟩
  rintro i m σ' H' ⟨rfl,hi,Φ',vs,ys,Ei,gi,hDi,hDl,hrl,hyl,hy⟩
  by_cases hlt:i<ds.length
  · refine .inr ⟨S.go i H' (gi.f.trans gi.s) hlt,fun σ2 H2=>∃ (Φ':Hp) (vs:List V) (ys:List (Option D)),EnvD K (upd H0 Dd (.lst [])) Φ' H2 σ2 (qeC cap ρ)∧Gr Φ1 H1 Φ' H2∧Φ' Dd=none∧H2 Dd=some (.lst vs)∧RpL K Φ' (ys.filterMap id) vs∧ys.length=i+1∧∀ j y,ys[j]?=some y→P j y,fun σ2 H2 h2=>⟨ds.length - (i+1),by omega,rfl,hlt,h2⟩,fun x H2 y=>?_⟩
    obtain ⟨Φ3,g3,rx⟩:=S.yl i Φ' H' x H2 _ gi.f gi.s (qas hlt) y
    have E3:=Ei.gr g3
    refine ⟨_,Φ3,qeC cap ρ,_,_,E3,rx,hk.k.p _ _ _ (hp i _ (qas hlt)),fun ρ1 σ3 hq0 E4=>?_⟩
    obtain ⟨hl1,hd1,t1⟩:=hq0
    have wk:∀ (j:Nat) x,(qeC cap ρ)[j]?=some (some x)→ρ1[j]?=some (some x):=fun j x hj=>by
      rcases Nat.lt_or_ge j k with c | c
      · obtain ⟨n,h1,_⟩:=qdm hj
        cases qf8 hcap c h1
      · have e1:(qeC cap ρ)[j]?=((qeC cap ρ).drop k)[j - k]?:=by rw [List.getElem?_drop];congr 1;omega
        have e2:ρ1[j]?=(ρ1.drop k)[j - k]?:=by rw [List.getElem?_drop];congr 1;omega
        rw [e2,hd1,← e1]
        exact hj
    have hD3:Φ3 Dd=none:=g3.o _ _ hDl hDi
    refine ⟨_,Φ3,ρ1,_,E4,t1,fun b Φ4 H4 rb g4=>?_⟩
    have E5:=(E4.gr g4)
    have hDl4:=g4.h _ _ (g3.h _ _ hDl)
    have hD4:Φ4 Dd=none:=g4.o _ _ (g3.h _ _ hDl) hD3
    cases b with
    | false =>
      refine qlH ?_
      refine ⟨Φ4,vs,ys++[none],E5.weak hl1.symm wk,(gi.trans g3).trans g4,hD4,hDl4,?_,by rw [List.length_append,hyl];rfl,qfc hyl hy (rb.2 rfl)⟩
      rw [qhG]
      exact (hrl.same g3.f).same g4.f
    | true =>
      refine qlr ?_
      refine ⟨_,Φ4,ρ1,_,E5,rb.1 rfl,fun d Φ5 H5 v rd g5 rv=>?_⟩
      have E6:=E5.gr g5
      have hDl5:=g5.h _ _ hDl4
      have hD5:Φ5 Dd=none:=g5.o _ _ hDl4 hD4
      have gg:=((gi.trans g3).trans g4).trans g5
      refine ⟨vs,hDl5,?_,Φ5,vs++[v],ys++[some d],(E6.weak hl1.symm wk).side qac hD5,?_,hD5,qac,?_,by rw [List.length_append,hyl];rfl,qfc hyl hy rd⟩
      · have:=qjp ys
        rw [hrl.1]
        omega
      · exact ⟨gg.f,qcG gg.h hD _,fun b u e=>by rw [qad (qak e hD5)];exact gg.s b u e,fun p u hp hn k=>gg.o p u hp hn k⟩
      · rw [qi1]
        exact (((hrl.same g3.f).same g4.f).same g5.f).append (.one rv)
  · have e:i=ds.length:=by omega
    subst e
    exact .inl ⟨S.stop H' (gi.f.trans gi.s),kk _ Φ' H' Dd vs (hr ys hyl hy) (g1.trans gi) (g1.h.free hD) hDi hDl hrl⟩
theorem qgu {k:Nat} (hcap:qc4 k cap=true) (hk:GM k g) {σ:St} {H:Hp} {Q:VK} (h:lF K (qkj ti cap g tc te) σ H Q):qe4 (lI K ti) cap (lG K g) (lT K tc) (lE K te) σ H Q:=by
  obtain ⟨H0,Φ,ρ,R,E,t,kk⟩:=h
  exact qeu hcap hk E t (fun ds h=>h) kk
def qgA (ti:TDL) (cap:List (Option Nat)) (g:TGD) (te:TD):TDL:=fun ρ R=>ti ρ fun ds=>ds.length<sizeLine∧∃ P:Nat→D→Prop,
  (∀ i d,ds[i]?=some d→g d (qeC cap ρ) fun ρ1=>te ρ1 (P i))∧∀ ys:List D,ys.length=ds.length→(∀ i y,ys[i]?=some y→P i y)→R ys
def qms (P:Nat→D→Prop):Nat→Option D→Prop:=fun i o=>match o with | some y=>P i y | none=>False
theorem qe9 {P:Nat→D→Prop}:∀ (ys:List (Option D)),(∀ (i:Nat) y,ys[i]?=some y→∃ z,y=some z)→∃ zs:List D,ys=zs.map some
  | [],_=>⟨[],rfl⟩
  | y::ys,h=>by
    obtain ⟨z,rfl⟩:=h 0 y rfl
    obtain ⟨zs,rfl⟩:=qe9 (P:=P) ys fun i y hy=>h (i+1) y hy
    exact ⟨z::zs,rfl⟩
theorem qfF {ds:List D} {ρ:Rho} {R:List D→Prop} (h:ds.length<sizeLine∧∃ P:Nat→D→Prop,(∀ i d,ds[i]?=some d→g d (qeC cap ρ) fun ρ1=>te ρ1 (P i))∧∀ ys:List D,ys.length=ds.length→(∀ i y,ys[i]?=some y→P i y)→R ys) {k:Nat} (hk:GM k g) :
    ds.length<sizeLine∧∃ P:Nat→Option D→Prop,(∀ i d,ds[i]?=some d→g d (qeC cap ρ) fun ρ1=>qja ρ1 fun b=>(b=true→te ρ1 fun y=>P i (some y))∧(b=false→P i none))∧∀ ys:List (Option D),ys.length=ds.length→(∀ i y,ys[i]?=some y→P i y)→R (ys.filterMap id):=by
  obtain ⟨h0,P,h1,h2⟩:=h
  refine ⟨h0,qms P,fun i d hd=>hk.m _ _ _ _ (fun ρ1 q=>⟨fun _=>q,fun e=>by cases e⟩) (h1 i d hd),fun ys hl hy=>?_⟩
  obtain ⟨zs,rfl⟩:=qe9 (P:=P) ys fun i y e=>by
    have:=hy i y e
    cases y with
    | none=>exact this.elim
    | some z=>exact ⟨z,rfl⟩
  rw [List.filterMap_map]
  have e:zs.filterMap (id ∘ some)=zs:=by simp
  rw [e]
  refine h2 zs (by simpa using hl) fun i y e=>?_
  exact hy i (some y) (by rw [List.getElem?_map,e];rfl)
theorem qds {k:Nat} (hcap:qc4 k cap=true) (hk:GM k g) {σ:St} {H:Hp} {Q:VK} (h:lF K (qgA ti cap g te) σ H Q):qe4 (lI K ti) cap (lG K g) (lT K qja) (lE K te) σ H Q:=by
  obtain ⟨H0,Φ,ρ,R,E,t,kk⟩:=h
  exact qeu hcap hk E t (fun ds h=>qfF h hk) kk
theorem qa7 {k:Nat} (hcalm:X.calm=true) (S:CompScope X.N X.env.scope scope N' cap) (hcap:qc4 k cap=true) (hk:GM k g) (hi:PID K X tg iter ti)
    (hg:∀ (cl:List (Str × Addr)) (fp:List Addr) (C:Addr) (s0:Shared) (H0:Hp),PGD K (qaH X scope N' cl C s0 H0 fp) tg g)
    (he:∀ (cl:List (Str × Addr)) (fp:List Addr) (C:Addr) (s0:Shared) (H0:Hp),PD K (qaH X scope N' cl C s0 H0 fp) elt te) (hs:∀ x,foldedSetIterable iter X.env x=pure x:=by intro _;rfl):PF K X (.ListComp elt [⟨tg,iter,[],0⟩] scope pos) (qgA ti cap g te) :=
  ⟨fun hK=>(qgQ hcalm S (hi.pi hK) (fun cl fp C s0 H0=>(hg cl fp C s0 H0).pg hK) (fun cl fp C s0 H0=>(qh8 (K:=K)).p hK) (fun cl fp C s0 H0=>(he cl fp C s0 H0).pe hK) hs).imp fun _ _ _=>qds hcap hk⟩
end
structure EndsD where
  nx:Rho→Prop
  rt:D→Prop
  bk:Rho→Prop:=fun _=>False
  ct:Rho→Prop:=fun _=>False
abbrev TSD:=EndsD→Rho→Prop
def EnK (K:PySem.W.Frag) (Φ0 H0:Hp) (P:Rho→Prop) (Q:St→Hp→Prop):Prop:=∀ ρ' Φ' H' σ',P ρ'→Gr Φ0 H0 Φ' H'→EnvD K H0 Φ' H' σ' ρ'→Q σ' H'
structure EndOk (K:PySem.W.Frag) (Φ0 H0:Hp) (De:EndsD) (E:Ends):Prop where
  nx:EnK K Φ0 H0 De.nx E.nx
  rt:∀ d Φ' H' v,De.rt d→Gr Φ0 H0 Φ' H'→Rp K Φ' d v→E.rt v H'
  bk:EnK K Φ0 H0 De.bk E.bk
  ct:EnK K Φ0 H0 De.ct E.ct
def lS (K:PySem.W.Frag) (t:TSD):TS:=fun E σ H=>∃ Φ0 H0 Φ ρ De,Gr Φ0 H0 Φ H∧EnvD K H0 Φ H σ ρ∧t De ρ∧EndOk K Φ0 H0 De E
structure PSD (K:PySem.W.Frag) (X:Cx) (st:Stmt) (t:TSD):Prop where ps:X.K=K→PS X st (lS K t)
structure PSsD (K:PySem.W.Frag) (X:Cx) (st:List Stmt) (t:TSD):Prop where ps:X.K=K→PSs X st (lS K t)
section
variable {K : PySem.W.Frag} {X : Cx} {st : Stmt} {rest : List Stmt} {t u : TSD} {e a : Expr} {te : TD} {tf : TDL} {pos : Pos} {tt : TDB}
def qkC:TSD:=fun De ρ=>De.nx ρ
def ql3 (t u:TSD):TSD:=fun De ρ=>t { De with nx:=u De } ρ
def qlU (t u:TSD):TSD:=fun De ρ=>∃ I:Rho→Prop,t { De with nx:=I } ρ∧∀ ρ',I ρ'→u De ρ'
theorem qc9:PSsD K X [] qkC:=⟨fun _=>pss_nil.imp fun E σ H hq0=>by obtain ⟨Φ0,H0,Φ,ρ,De,g,V,t,k⟩:=hq0;exact k.nx ρ Φ H σ t g V⟩
theorem qaC (h1:PSD K X st t) (h2:PSsD K X rest u):PSsD K X (st::rest) (ql3 t u):=⟨fun hK=>(qax (h1.ps hK) (h2.ps hK)).imp fun E σ H hq0=>by obtain ⟨Φ0,H0,Φ,ρ,De,g,V,t,k⟩:=hq0;exact
  ⟨Φ0,H0,Φ,ρ,_,g,V,t,⟨fun ρ' Φ' H' σ' t' g' V'=>⟨Φ0,H0,Φ',ρ',De,g',V',t',k⟩,k.rt,k.bk,k.ct⟩⟩⟩
theorem qeq (h1:PSD K X st t) (h2:PSsD K X rest u):PSsD K X (st::rest) (qlU t u):=⟨fun hK=>(qax (h1.ps hK) (h2.ps hK)).imp fun E σ H hq0=>by obtain ⟨Φ0,H0,Φ,ρ,De,g,V,⟨I,t,c⟩,k⟩:=hq0;exact
  ⟨Φ0,H0,Φ,ρ,_,g,V,t,⟨fun ρ' Φ' H' σ' t' g' V'=>⟨Φ0,H0,Φ',ρ',De,g',V',c ρ' t',k⟩,k.rt,k.bk,k.ct⟩⟩⟩
theorem qaK (h1:PSD K X st t):PSsD K X [st] t:=⟨fun hK=>qbm (h1.ps hK)⟩
def qmv (i:Nat) (t:TSD):TSD:=fun De ρ=>t De (frz i ρ)
theorem qk3 (i:Nat) (h:PSsD K X rest t):PSsD K X rest (qmv i t):=⟨fun hK=>(h.ps hK).imp fun E σ H hq0=>by
  obtain ⟨Φ0,H0,Φ,ρ,De,g,V,t,k⟩:=hq0
  obtain ⟨Φ',g',V'⟩:=V.frz g i
  exact ⟨Φ0,H0,Φ',L2.frz i ρ,De,g',V',t,k⟩⟩
def qju (i:Nat) (te:TD):TSD:=fun De ρ=>te ρ fun d=>De.nx (ρ.set i (some (.v d)))
theorem qg5 {i:Nat} {E:Ends} {σ:St} {H:Hp} (h:lS K (qju i te) E σ H):qka (lE K te) (qfU i) E σ H:=by
  obtain ⟨Φ0,H0,Φ,ρ,De,g,V,t,k⟩:=h
  exact ⟨H0,Φ,ρ,_,V,t,fun d Φ1 H1 v r g1 rv=>k.nx _ Φ1 H1 _ r (g.trans g1) ((V.gr g1).set rv i)⟩
theorem qbY {i:Nat} {x:Str} {pos':Pos} (hN:X.N.Nodup) (hi:X.N[i]?=some x) (hx:Loc X.env.scope x) (he:PD K X e te) (hs:swapsWith e (some (.Name x pos')) pos.line X.env=pure false:=by rfl) (hf:X.fn x=true∨X.env.scope.names.lookup x=some .local:=by first | exact .inl rfl | exact .inr rfl | assumption) :
    PSD K X (.Assign [.Name x pos'] e pos) (qju i te):=⟨fun hK=>(qbE hN hi hx (he.pe hK) hs hf).imp fun _ _ _=>qg5⟩
def qlF (i:Nat) (tf:TDL):TSD:=fun De ρ=>tf ρ fun ds=>De.nx (ρ.set i (some (.own ds)))
theorem qgo {i:Nat} {E:Ends} {σ:St} {H:Hp} (h:lS K (qlF i tf) E σ H):lF K tf σ H fun v H'=>qfU i v σ H' E.nx:=by
  obtain ⟨Φ0,H0,Φ,ρ,De,g,V,t,k⟩:=h
  refine ⟨H0,Φ,ρ,_,V,t,fun ds Φ1 H1 p vs r g1 hp hn hl rl=>k.nx _ Φ1 H1 _ r (g.trans g1) ((V.gr g1).setOwn rl (g.h.free hp) hn hl (fun j es hj z=>?_) i)⟩
  obtain ⟨q,ws,e,_,_,hq,_⟩:=V.ow j _ hj
  rw [e] at z
  cases z
  rw [hp] at hq
  cases hq
theorem qiz {i:Nat} {x:Str} {pos':Pos} (hN:X.N.Nodup) (hi:X.N[i]?=some x) (hx:Loc X.env.scope x) (he:PF K X e tf) (hs:swapsWith e (some (.Name x pos')) pos.line X.env=pure false:=by rfl) (hf:X.fn x=true∨X.env.scope.names.lookup x=some .local:=by first | exact .inl rfl | exact .inr rfl | assumption) :
    PSD K X (.Assign [.Name x pos'] e pos) (qlF i tf):=⟨fun hK=>(qbE hN hi hx (he.pe hK) hs hf).imp fun _ _ _ h=>qgo h⟩
def ql7 (te:TD):TSD:=fun De ρ=>te ρ De.rt
theorem qbv (he:PD K X e te):PSD K X (.Return (some e) pos) (ql7 te) :=
  ⟨fun hK=>(qfr (he.pe hK)).imp fun E σ H hq0=>by obtain ⟨Φ0,H0,Φ,ρ,De,g,V,t,k⟩:=hq0;exact ⟨H0,Φ,ρ,_,V,t,fun d Φ1 H1 v r g1 rv=>k.rt d Φ1 H1 v r (g.trans g1) rv⟩⟩
def sIf (c:TDB) (t u:TSD):TSD:=fun De ρ=>c ρ fun b=>(b=true→t De ρ)∧(b=false→u De ρ)
theorem qfW {c:Expr} {a b:List Stmt} (hc:PTD K X c tt) (ha:PSsD K X a t) (hb:PSsD K X b u):PSD K X (.If c a b pos) (sIf tt t u) :=
  ⟨fun hK=>(qj2 (hc.pt hK) (ha.ps hK) (hb.ps hK)).imp fun E σ H hq0=>by obtain ⟨Φ0,H0,Φ,ρ,De,g,V,t,k⟩:=hq0;exact ⟨H0,Φ,ρ,_,V,t,fun c Φ1 H1 r g1=>by
    cases c with
    | true=>refine qlr ?_;exact ⟨Φ0,H0,Φ1,ρ,De,g.trans g1,V.gr g1,r.1 rfl,k⟩
    | false=>refine qlH ?_;exact ⟨Φ0,H0,Φ1,ρ,De,g.trans g1,V.gr g1,r.2 rfl,k⟩⟩⟩
def ql9 (te:TD) (g:TGD):TSD:=fun De ρ=>te ρ fun d=>g d ρ De.nx
theorem qhc {tg:Expr} {gd:TGD} (he:PD K X e te) (hg:PGD K X tg gd) (hs:swapsWithSole [tg] e pos.line X.env=pure false:=by rfl) (hw:swappedStores [tg] e X.env=pure none:=by rfl)
    (h1:(assignEach [tg] X.env).map (·.2)=[assign tg X.env]:=by rfl):PSD K X (.Assign [tg] e pos) (ql9 te gd) :=
  ⟨fun hK=>(qb0 (he.pe hK) (hg.pg hK) hs hw h1).imp fun E σ H hq0=>by obtain ⟨Φ0,H0,Φ,ρ,De,g,V,t,k⟩:=hq0;exact ⟨H0,Φ,ρ,_,V,t,fun d Φ1 H1 v r g1 rv=>⟨H0,Φ1,ρ,d,_,V.gr g1,rv,r,fun ρ' σ' r' V'=>k.nx ρ' Φ1 H1 σ' r' (g.trans g1) V'⟩⟩⟩
def qmf (ti:TDL) (gd:TGD) (tb:TSD):TSD:=fun De ρ=>ti ρ fun ds=>∃ I:Nat→Rho→Prop,I 0 ρ∧(∀ i d ρ',ds[i]?=some d→I i ρ'→gd d ρ' fun ρ2=>tb { De with nx:=I (i+1),ct:=I (i+1),bk:=De.nx } ρ2)∧∀ ρ',I ds.length ρ'→De.nx ρ'
theorem qe5 {tg iter:Expr} {body:List Stmt} {ti:TDL} {gd:TGD} {tb:TSD} (hp:PassesOwn (model X.prog X.w) X.A X.env X.xe) (hc:X.calm=true) (hi:PID K X tg iter ti) (hg:PGD K X tg gd) (hb:PSsD K X body tb)
    (hs:∀ x,foldedSetIterable iter X.env x=pure x:=by intro _;rfl):PSD K X (.For tg iter body [] pos) (qmf ti gd tb) :=
  ⟨fun hK=>(qig hp hc (hi.pi hK) (hg.pg hK) (hb.ps hK) hs).imp fun E σ H hq0=>by
    obtain ⟨Φ0,H0,Φ,ρ,De,g,V,t,k⟩:=hq0
    refine ⟨H0,Φ,ρ,_,V,t,fun ds Φ1 H1 J hq1 g1 S=>?_⟩
    obtain ⟨I,h0,hst,hend⟩:=hq1
    refine ⟨fun i m σ H'=>m=ds.length - i∧i≤ds.length∧∃ Φ' ρ',Gr Φ0 H0 Φ' H'∧Same Φ1 Φ'∧EnvD K H0 Φ' H' σ ρ'∧I i ρ',⟨ds.length,by simp,Nat.zero_le _,Φ1,ρ,g.trans g1,Same.refl _,V.gr g1,h0⟩,?_⟩
    rintro i m σ' H' ⟨rfl,hi,Φ',ρ',g',s',V',hI⟩
    by_cases hlt:i<ds.length
    · refine .inr ⟨S.go i H' (s'.trans V'.fz) hlt,fun σ2 H2=>∃ Φ' ρ',Gr Φ0 H0 Φ' H2∧Same Φ1 Φ'∧EnvD K H0 Φ' H2 σ2 ρ'∧I (i+1) ρ',fun σ2 H2 h2=>⟨ds.length - (i+1),by omega,rfl,hlt,h2⟩,fun x H2 y=>?_⟩
      obtain ⟨Φ3,g3,rx⟩:=S.yl i Φ' H' x H2 _ s' V'.fz (qas hlt) y
      refine ⟨H0,Φ3,ρ',_,_,V'.gr g3,rx,hst i _ ρ' (qas hlt) hI,fun ρ2 σ3 t2 V3=>?_⟩
      refine ⟨Φ3,H0,Φ3,ρ2,_,?_,V3,t2,⟨?_,?_,?_,?_⟩⟩
      · exact ⟨Same.refl _,(g'.trans g3).h,g3.s,fun p u hp hn _=>hn⟩
      · intro ρ4 Φ4 H4 σ4 t4 g4 V4
        exact ⟨Φ4,ρ4,(g'.trans g3).join g4,(s'.trans g3.f).trans g4.f,V4,t4⟩
      · intro d Φ4 H4 v r g4 rv
        exact k.rt d Φ4 H4 v r ((g'.trans g3).join g4) rv
      · intro ρ4 Φ4 H4 σ4 t4 g4 V4
        exact k.nx ρ4 Φ4 H4 σ4 t4 ((g'.trans g3).join g4) V4
      · intro ρ4 Φ4 H4 σ4 t4 g4 V4
        exact ⟨Φ4,ρ4,(g'.trans g3).join g4,(s'.trans g3.f).trans g4.f,V4,t4⟩
    · have e:i=ds.length:=by omega
      subst e
      exact .inl ⟨S.stop H' (s'.trans V'.fz),k.nx ρ' Φ' H' σ' (hend ρ' hI) g' V'⟩⟩
end
section
variable {K : PySem.W.Frag} {X : Cx} {tg iter elt e a : Expr} {ifs : List Expr} {scope : Scope} {pos py spos : Pos} {N' : List Str} {cap : List (Option Nat)} {ti : TDL} {g : TGD} {tc : TDB} {te ta tb : TD} {i : Nat} {y : Str}
theorem qcw {tf:TDL} {E:Ends} {σ:St} {H:Hp} (lift:∀ {σ:St} {H:Hp} {Q:VK},lF K tf σ H Q→qe4 (lI K ti) cap (lG K g) (lT K tc) (lE K te) σ H Q) (h:lS K (qju i (qkz tf)) E σ H):qka (qe4 (lI K ti) cap (lG K g) (lT K tc) (lE K te)) (qfU i) E σ H:=by
  obtain ⟨Φ0,H0,Φ,ρ,De,gg,V,t,kk⟩:=h
  exact lift ⟨H0,Φ,ρ,_,V,t,fun ds Φ' H' p vs r g1 h0 hn hp rr=>kk.nx _ _ H' _ r (gg.trans (g1.freeze h0 hn hp)) ((V.gr (g1.freeze h0 hn hp)).set ((rr.same (qal hn _)).lst qac) i)⟩
theorem qgX {k:Nat} (hcalm:X.calm=true) (hN:X.N.Nodup) (hy:X.N[i]?=some y) (hx:Loc X.env.scope y) (S:CompScope X.N X.env.scope scope N' cap) (hcap:qc4 k cap=true) (hk:GM k g) (hi:PID K X tg iter ti)
    (hg:∀ (cl:List (Str × Addr)) (fp:List Addr) (C:Addr) (s0:Shared) (H0:Hp),PGD K (qaH X scope N' cl C s0 H0 fp) tg g)
    (he:∀ (cl:List (Str × Addr)) (fp:List Addr) (C:Addr) (s0:Shared) (H0:Hp),PD K (qaH X scope N' cl C s0 H0 fp) elt te) (hsw:swapsWith (.ListComp elt [⟨tg,iter,[],0⟩] scope pos) (some (.Name y py)) spos.line X.env=pure true:=by rfl)
    (hs:∀ x,foldedSetIterable iter X.env x=pure x:=by intro _;rfl) (hf:X.fn y=true∨X.env.scope.names.lookup y=some .local:=by first | exact .inl rfl | exact .inr rfl | assumption) :
    PSD K X (.Assign [.Name y py] (.ListComp elt [⟨tg,iter,[],0⟩] scope pos) spos) (qju i (qkz (qgA ti cap g te))) :=
  ⟨fun hK=>(qeR hcalm hN hy hx S (hi.pi hK) (fun cl fp C s0 H0=>(hg cl fp C s0 H0).pg hK) (fun cl fp C s0 H0=>(qh8 (K:=K)).p hK) (fun cl fp C s0 H0=>(he cl fp C s0 H0).pe hK) hsw hs hf).imp fun _ _ _ h=>qcw (fun q=>qds hcap hk q) h⟩
theorem qkg {k:Nat} (hcalm:X.calm=true) (hN:X.N.Nodup) (hy:X.N[i]?=some y) (hx:Loc X.env.scope y) (S:CompScope X.N X.env.scope scope N' cap) (hcap:qc4 k cap=true) (hk:GM k g) (hi:PID K X tg iter ti)
    (hg:∀ (cl:List (Str × Addr)) (fp:List Addr) (C:Addr) (s0:Shared) (H0:Hp),PGD K (qaH X scope N' cl C s0 H0 fp) tg g) (ht:∀ (cl:List (Str × Addr)) (fp:List Addr) (C:Addr) (s0:Shared) (H0:Hp),PIfD K (qaH X scope N' cl C s0 H0 fp) ifs tc)
    (he:∀ (cl:List (Str × Addr)) (fp:List Addr) (C:Addr) (s0:Shared) (H0:Hp),PD K (qaH X scope N' cl C s0 H0 fp) elt te) (hsw:swapsWith (.ListComp elt [⟨tg,iter,ifs,0⟩] scope pos) (some (.Name y py)) spos.line X.env=pure true:=by rfl)
    (hs:∀ x,foldedSetIterable iter X.env x=pure x:=by intro _;rfl) (hf:X.fn y=true∨X.env.scope.names.lookup y=some .local:=by first | exact .inl rfl | exact .inr rfl | assumption) :
    PSD K X (.Assign [.Name y py] (.ListComp elt [⟨tg,iter,ifs,0⟩] scope pos) spos) (qju i (qkz (qkj ti cap g tc te))) :=
  ⟨fun hK=>(qeR hcalm hN hy hx S (hi.pi hK) (fun cl fp C s0 H0=>(hg cl fp C s0 H0).pg hK) (fun cl fp C s0 H0=>(ht cl fp C s0 H0).p hK) (fun cl fp C s0 H0=>(he cl fp C s0 H0).pe hK) hsw hs hf).imp fun _ _ _ h=>qcw (fun q=>qgu hcap hk q) h⟩
theorem qid {Φ0 H0 Φ H:Hp} {p:Addr} {o:HO} (g:Gr Φ0 H0 Φ H) (h0:H0 p=none) (hn:Φ p=none):Gr Φ0 H0 Φ (upd H p o) :=
  ⟨g.f,qcG g.h h0 _,fun b u e=>by rw [qad (qak e hn)];exact g.s b u e,fun p u hp hn k=>g.o p u hp hn k⟩
def qf4 (i:Nat) (te:TD):TSD:=fun De ρ=>match ρ[i]? with | some (some (.ob (.lst ds)))=>te ρ fun d=>ds.length<sizeLine∧NF (ds++[d]) fun es=>De.nx (ρ.set i (some (.own es))) | _=>False
theorem qcE {apos cpos npos:Pos} {x:Str} (i:Nat) (he:PD K X e te) (hfew:((backTo cpos (starEach [e] X.env)).all (fun x=>!x.1) && (backToKw cpos (keywordEach [] X.env)).all (fun x=>x.1.isSome) && decide (([e]:List Expr).length+([]:List Keyword).length+(if ([]:List Keyword).isEmpty then 0 else 1)<30))=true)
    (hse:starEach [e] X.env=(false,eval e X.env)::starEach [] X.env) (hN:X.N[i]?=some x:=by rfl) (hv:Vis X.env.scope x:=by first | exact Or.inl rfl | exact Or.inr (Or.inl rfl) | exact Or.inr (Or.inr rfl)) (hd:(x == ("__debug__":Str))=false:=by decide) (hcd:(x == ("__classdict__":Str))=false:=by decide)
    (hbase:attributeBase (.Name x npos) "append" X.env (eval (.Name x npos) X.env)=eval (.Name x npos) X.env:=by rfl) (hline:(apos.endLine == cpos.line)=true:=by rfl) (hs:swapsWith (.Call (.Attribute (.Name x npos) "append" apos) [e] [] cpos) none pos.line X.env=pure false:=by rfl) :
    PSD K X (.Expr (.Call (.Attribute (.Name x npos) "append" apos) [e] [] cpos) pos) (qf4 i te) :=
  ⟨fun hK=>(qeY (qkT PySem.F.plainAttrs_list PySem.F.slot_list_append PySem.F.type_list_append qea (pv i hN hv hd hcd) (qam (he.pe hK) pa_nil hse) hbase hfew hline hse qaf) hs).imp fun E σ H hq0=>by
    obtain ⟨Φ0,H0,Φ,ρ,De,g,V,t,k⟩:=hq0
    unfold qf4 at t
    split at t
    · next ds ho =>
      obtain ⟨p,vs,e1,h0,hn,hp,rl⟩:=V.owl i ds ho
      refine ⟨_,e1,.inl ⟨rfl,vs,SqL.of hp⟩,H0,Φ,ρ,_,V,t,fun d Φ1 H1 v r g1 rv=>?_⟩
      have hp1:=g1.h _ _ hp
      have hn1:=g1.o _ _ hp hn
      refine ⟨p,vs,v,rfl,rfl,hp1,by rw [rl.1];exact r.1,k.nx _ Φ1 _ σ r.2.get (qid (g.trans g1) h0 hn1) ((V.gr g1).put ho e1 ((rl.same g1.f).append (.one rv)))⟩
    · exact t.elim⟩
def qlY (i:Nat) (te tk:TD):TSD:=fun De ρ=>te ρ fun d=>match ρ[i]? with | some (some (.ob (.lst ds)))=>tk ρ fun kk=>(match kk with | .int n=>∃ j,ixN ds.length n=some j∧NF (ds.set j d) fun es=>De.nx (ρ.set i (some (.own es))) | _=>False) | _=>False
theorem qkW {b:Expr} {tk:TD} {npos spos:Pos} {x:Str} (i:Nat) (he:PD K X e te) (hk:PQ K X b tk) (hN:X.N[i]?=some x:=by rfl) (hv:Vis X.env.scope x:=by first | exact Or.inl rfl | exact Or.inr (Or.inl rfl) | exact Or.inr (Or.inr rfl)) (hd:(x == ("__debug__":Str))=false:=by decide) (hcd:(x == ("__classdict__":Str))=false:=by decide)
    (ha:∀ v,assign (.Subscript (.Name x npos) b spos) X.env v=(do
      let ov ← holding [v] (eval (.Name x npos) X.env)
      let iv ← holding [v,ov] (eval b X.env)
      standAt spos
      holding [v,ov,iv] (setItem ov iv v)
      release [v,ov,iv] []):=by intro _;rfl)
    (hs:swapsWithSole [.Subscript (.Name x npos) b spos] e pos.line X.env=pure false:=by rfl) (hw:swappedStores [.Subscript (.Name x npos) b spos] e X.env=pure none:=by rfl)
    (h1:(assignEach [.Subscript (.Name x npos) b spos] X.env).map (·.2)=[assign (.Subscript (.Name x npos) b spos) X.env]:=by rfl) :
    PSD K X (.Assign [.Subscript (.Name x npos) b spos] e pos) (qlY i te tk) :=
  ⟨fun hK=>(qb0 (he.pe hK) (qcy (pv i hN hv hd hcd) (hk.pe hK) qbg ha) hs hw h1).imp fun E σ H hq0=>by obtain ⟨Φ0,H0,Φ,ρ,De,g,V,t,k⟩:=hq0;exact ⟨H0,Φ,ρ,_,V,t,fun d Φ1 H1 v r g1 rv=>by
    have V1:=V.gr g1
    split at r
    · next ds ho =>
      obtain ⟨p,vs,e1,h0,hn,hp,rl⟩:=V1.owl i ds ho
      refine ⟨_,e1,H0,Φ1,ρ,_,V1,r,fun kk Φ2 H2 w r2 g2 rw2=>?_⟩
      cases kk with
      | int n =>
        obtain ⟨j,hj,r2⟩:=r2
        exact ⟨p,vs,n,j,rfl,rw2.int,g2.h _ _ hp,by rw [rl.1];exact hj,k.nx _ Φ2 _ σ r2.get (qid ((g.trans g1).trans g2) h0 (g2.o _ _ hp hn)) ((V1.gr g2).put ho e1 ((rl.same g2.f).set (rv.same g2.f) j))⟩
      | _=>exact r2.elim
    · exact r.elim⟩⟩
end
def qcs (N:List Str) (ds:List D):Rho:=ds.map (fun d=>some (.v d))++List.replicate (N.length - ds.length) none
theorem qed {K:PySem.W.Frag} {Φ H:Hp} {N:List Str} {ds:List D} {vs:List V} (sm:Same Φ H) (tb:TabF K Φ) (r:RpL K Φ ds vs):EnvD K H Φ H (start N vs) (qcs N ds):=by
  have own:∀ {i:Nat} {x:Sl},(qcs N ds)[i]?=some (some x)→∃ d,ds[i]?=some d∧x=.v d:=fun {i x} h=>by
    unfold qcs at h
    rcases Nat.lt_or_ge i (ds.map fun d=>some (Sl.v d)).length with c | c
    · rw [List.getElem?_append_left c,List.getElem?_map] at h
      cases e:ds[i]? with
      | none=>rw [e] at h;cases h
      | some d=>rw [e] at h;cases h;exact ⟨d,rfl,rfl⟩
    · rw [List.getElem?_append_right c,List.getElem?_replicate] at h
      split at h
      · cases h
      · cases h
  refine ⟨sm,by unfold start qcs;simp [r.1],fun i d h=>?_,fun i es h=>?_,fun i j es fs p h=>?_,tb⟩
  · obtain ⟨d',h1,h2⟩:=own h
    cases h2
    obtain ⟨v,hv,rv⟩:=r.at h1
    refine ⟨v,?_,rv⟩
    unfold start
    rw [List.getElem?_append_left (by rw [List.length_map];exact qaD hv),List.getElem?_map,hv]
    rfl
  · obtain ⟨d',h1,h2⟩:=own h
    cases h2
  · obtain ⟨d',h1,h2⟩:=own h
    cases h2
section
variable {P : Program} {w : World} {K : PySem.W.Frag} {mg : Str → Option Value} {base : Heap}
theorem Fun.okD {x qual:Str} {st:Stmt} {f:Addr} {fd:FuncData} {N ps:List Str} {k:Nat} {sp:SpD} (F:Fun K x qual st f fd) (S:FnScope N ps (qab st)) (len:∀ ds R,sp ds R→ds.length=ps.length)
    (hbody:∀ (cdv:Value) (A:Around) (outer:List Env) (s:Shared) (H:Hp) (E:XK) (ds:List D) (R:D→Prop),Room k (A.deeper (envOfC qual (qab st) s.heap.objs.size f cdv))→sp ds R →
      ∃ t,PSsD K (qhV CX0 P w K mg base N qual (qab st) f cdv A outer s H E).nox (qaI st) t∧t { nx:=fun _=>R .non,rt:=R } (qcs N ds)):FnOk P w K mg base CX0 (k+1) f fd ps (lSp K sp):=by
  refine F.ok S (fun vs H Q E ⟨Φ,ds,R,sm,tb,rl,h,_⟩=>by rw [rl.1];exact len ds R h) (fun cdv A outer s H vs Q E hr ⟨Φ,ds,R,sm,tb,rl,h,kk⟩=>?_)
  obtain ⟨t,ht,hq⟩:=hbody cdv A outer s H E ds R hr h
  exact ⟨lS K t,ht.ps rfl,Φ,H,Φ,qcs N ds,_,.refl sm,qed sm tb rl,hq,⟨fun ρ' Φ' H' σ' r g V=>kk .non Φ' H' .non r g .non,kk,fun _ _ _ _ h=>h.elim,fun _ _ _ _ h=>h.elim⟩⟩
theorem FnOk.toD {CX:CXT} {k:Nat} {f:Addr} {fd:FuncData} {ps:List Str} {sp:Sp} {spD:SpD} (F:FnOk P w K mg base CX k f fd ps sp) (h:∀ vs H Q E,lSp K spD vs H Q E→sp vs H Q E):FnOk P w K mg base CX k f fd ps (lSp K spD):=F.imp h
end
def Itb (K:PySem.W.Frag) (b:Bool) (a:Addr):It:=match b with | true=>Itl K a | false=>Itt K a
section
variable {K : PySem.W.Frag} {X : Cx} {tg e a b : Expr} {es : List Expr} {pos p tp : Pos} {t ta tb : TD} {tl : TDL}
theorem qjH {l:Expr} {tl:TE} (hK:X.K=K) (hl:PE X l tl):PI X tg l (fun σ H R=>tl σ H fun x H1=>∃ q a,x=.ref a∧(∃ xs,SqB K q H1 a xs)∧R (Itb K q a) H1):=by
  subst hK
  intro pins s σ H R I h
  refine thn (hl pins s σ H _ I h) fun v s1 hq0=>?_
  obtain ⟨x,H1,I1,r1,q1⟩:=hq0
  obtain ⟨bb,a,e,⟨xs,hq⟩,q⟩:=q1
  subst e
  cases r1
  have fp:∀ b∈[s1.heap.objs.size],FpOk X pins H1 b:=fun b hb=>by
    have e:b=s1.heap.objs.size:=by simpa using hb
    subst e
    exact I1.fpOk (Nat.le_refl _) (I1.hok.fresh (Nat.le_refl _))
  cases bb with
  | true =>
    obtain ⟨its,rv,p,hz⟩:=I1.list hq
    refine wpAny_pyIter_list p.isList ?_
    exact ⟨s1.heap.objs.size,[s1.heap.objs.size],_,_,H1,rfl,I1.kept (t':=s1.toks) fun b o e=>Heap.get?_push_of_some _ e,qen a _,⟨_,Heap.get?_push_size _ rfl,rfl,rfl⟩,fp,q⟩
  | false =>
    obtain ⟨its,rv,p,hz⟩:=I1.tuple hq
    refine wpAny_pyIter_tuple (show s1.heap.IsTuple a its.toArray from p) ?_
    exact ⟨s1.heap.objs.size,[s1.heap.objs.size],_,_,H1,rfl,I1.kept (t':=s1.toks) fun b o e=>Heap.get?_push_of_some _ e,qdu a _,⟨_,Heap.get?_push_size _ rfl,rfl,rfl⟩,fp,q⟩
theorem qeX {Φ:Hp} {ds:List D} {vs:List V} {a:Addr} {q:Bool} (h:SqB K q Φ a vs) (r:RpL K Φ ds vs):SteadyD K (Itb K q a) Φ ds:=by
  cases q with
  | true=>exact qeg h r
  | false=>exact qe3 h r
def qmg (t:TD):TDL:=fun ρ R=>t ρ fun d=>match d with | .lst ds=>R ds | .tup ds=>R ds | .fzl ds=>R ds | _=>False
theorem qi7 {d:D} {R:List D→Prop} (h:match d with | .lst ds=>R ds | .tup ds=>R ds | .fzl ds=>R ds | _=>False):∃ ds,qhy d=some ds∧R ds:=by
  cases d with
  | lst ds=>exact ⟨ds,rfl,h⟩
  | tup ds=>exact ⟨ds,rfl,h⟩
  | fzl ds=>exact ⟨ds,rfl,h⟩
  | _=>exact h.elim
theorem qdN (h:PD K X e t):PID K X tg e (qmg t):=⟨fun hK=>(qjH hK (h.pe hK)).imp fun σ H R' hq0=>by obtain ⟨H0,Φ,ρ,R,E,t,k⟩:=hq0;exact ⟨H0,Φ,ρ,_,E,t,fun d Φ1 H1 v r g rv=>by
  obtain ⟨ds,e1,r⟩:=qi7 r
  obtain ⟨q,a,vs,rfl,h1,h2⟩:=rv.seq e1
  exact ⟨q,a,rfl,⟨vs,SqB.same g.s h1⟩,k _ Φ1 H1 _ r g (qeX h1 h2)⟩⟩⟩
theorem qhR {a:Expr} {ta:TA} {es:List Expr} {k:Nat} (hK:X.K=K) (hg:Gl X "enumerate") (hm:X.mg "enumerate"=none) (ha:PA X [a] ta) (hs:starEach [a] X.env=[(false,eval a X.env)]) :
    PI X (.Tuple es k tp) (.Call (.Name "enumerate" p) [a] [] pos) (fun σ H R=>ta σ H fun vs H1=>∃ b a xs,vs=[.ref a]∧SqB K b H1 a xs∧R (Ite K b a) H1):=by
  subst hK
  intro pins s σ H R I h
  refine Call_ (qcS I hg hm boot_enumerate (PyProof.Rows.callWith_type1 (thn (ha pos pins s σ H _ I h) fun us s1 hq0=>?_) hs rfl))
  obtain ⟨vs,H1,I1,r1,q1⟩:=hq0
  obtain ⟨b,l,xs,e,hq,q⟩:=q1
  subst e
  cases r1 with
  | cons r rr =>
    cases rr
    cases r
    obtain ⟨its,rv,p,hz⟩:=I1.sqb hq
    refine qgz p fun h' he hi hsz hk=>wpAny_pyIter_enum he ?_
    have I2:Inv X pins σ H1 { s1 with heap:=h' }:=I1.kept (t':=s1.toks) hk
    have fr:∀ c,s1.heap.objs.size≤c→FpOk X pins H1 c:=fun c hc=>I1.fpOk hc (I1.hok.fresh hc)
    exact ⟨s1.heap.objs.size+1,[s1.heap.objs.size+1,s1.heap.objs.size],_,_,H1,rfl,I2,qgE b l _ _ (Nat.succ_ne_self _),⟨⟨_,he⟩,hi⟩,fun c hc=>by
      rcases List.mem_cons.mp hc with rfl | hc
      · exact fr _ (Nat.le_succ _)
      · rw [List.mem_singleton.mp hc];exact fr _ (Nat.le_refl _),q⟩
theorem qjc {a b:Expr} {ta:TA} {es:List Expr} {k:Nat} (hK:X.K=K) (hg:Gl X "zip") (hm:X.mg "zip"=none) (ha:PA X [a,b] ta) (hs:starEach [a,b] X.env=[(false,eval a X.env),(false,eval b X.env)]) (hs2:starEach [b] X.env=[(false,eval b X.env)]) :
    PI X (.Tuple es k tp) (.Call (.Name "zip" p) [a,b] [] pos) (fun σ H R=>ta σ H fun vs H1=>∃ b1 b2 a1 a2 xs ys,vs=[.ref a1,.ref a2]∧SqB K b1 H1 a1 xs∧SqB K b2 H1 a2 ys∧R (Itz K b1 a1 b2 a2) H1):=by
  subst hK
  intro pins s σ H R I h
  refine Call_ (qcS I hg hm boot_zip (PyProof.Rows.callWith_type1 (thn (ha pos pins s σ H _ I h) fun us s1 ⟨vs,H1,I1,r1,q1⟩=>?_) (by rw [hs,hs2]) (by rw [hs2];rfl)))
  obtain ⟨b1,b2,l1,l2,xs,ys,e,hq1,hq2,q⟩:=q1
  subst e
  cases r1 with
  | cons r rr =>
    cases rr with
    | cons r' rr =>
      cases rr
      cases r
      cases r'
      obtain ⟨its1,rv1,p1,_⟩:=I1.sqb hq1
      obtain ⟨its2,rv2,p2,_⟩:=I1.sqb hq2
      refine qhX p1 p2 fun h' z1 z2 z3 z4 z5 hk=>wpAny_pyIter_zip z1 ?_
      have I2:Inv X pins σ H1 { s1 with heap:=h' }:=I1.kept (t':=s1.toks) hk
      have fr:∀ c,s1.heap.objs.size≤c→FpOk X pins H1 c:=fun c hc=>I1.fpOk hc (I1.hok.fresh hc)
      generalize s1.heap.objs.size=n at *
      refine ⟨n+4,[n+4,n+2,n+3,n,n+1],_,_,H1,rfl,I2,qhQ b1 b2 l1 l2 (n+4) (n+2) (n+3) n (n+1) (zap n),⟨z1,z2,⟨_,_,z3⟩,z4,z5⟩,fun c hc=>fr c ?_,q⟩
      simp only [List.mem_cons,List.not_mem_nil,or_false] at hc
      rcases hc with rfl | rfl | rfl | rfl | rfl
      · exact Nat.le_add_right _ _
      · exact Nat.le_add_right _ _
      · exact Nat.le_add_right _ _
      · exact Nat.le_refl _
      · exact Nat.le_add_right _ _
def qjv (t:TDL):TDL:=fun ρ R=>t ρ fun ds=>match ds with | [.lst xs]=>R (qd3 xs) | [.tup xs]=>R (qd3 xs) | [.fzl xs]=>R (qd3 xs) | _=>False
theorem qeL {ets:List Expr} {ek:Nat} (hg:Gl X "enumerate") (hm:X.mg "enumerate"=none) (ha:PAD K X [a] tl) (hs:starEach [a] X.env=[(false,eval a X.env)]:=by rfl):PID K X (.Tuple ets ek tp) (.Call (.Name "enumerate" p) [a] [] pos) (qjv tl) :=
  ⟨fun hK=>(qhR hK hg hm (ha.pa hK) hs).imp fun σ H R' hq0=>by obtain ⟨H0,Φ,ρ,R,E,t,k⟩:=hq0;exact ⟨H0,Φ,ρ,_,E,t,fun ds Φ1 H1 vs r g rv _=>by
    have fin:∀ {d:D} {xs:List D},RpL K Φ1 [d] vs→qhy d=some xs→R (qd3 xs)→∃ b a xs,vs=[.ref a]∧SqB K b H1 a xs∧R' (Ite K b a) H1:=fun {d xs} rv hx r=>by
      obtain ⟨v,rfl,r1⟩:=rv.one_inv
      obtain ⟨q,a,ws,rfl,h1,h2⟩:=r1.seq hx
      exact ⟨q,a,ws,rfl,SqB.same g.s h1,k _ Φ1 H1 _ r g (qef h1 h2)⟩
    match ds,r with
    | [.lst xs],r=>exact fin rv rfl r
    | [.tup xs],r=>exact fin rv rfl r
    | [.fzl xs],r=>exact fin rv rfl r⟩⟩
def qkG (t:TDL):TDL:=fun ρ R=>t ρ fun ds=>match ds with | [d,e]=>∃ xs ys,qhy d=some xs∧qhy e=some ys∧R (qfY xs ys) | _=>False
theorem qdw {ets:List Expr} {ek:Nat} (hg:Gl X "zip") (hm:X.mg "zip"=none) (ha:PAD K X [a,b] tl) (hs:starEach [a,b] X.env=[(false,eval a X.env),(false,eval b X.env)]:=by rfl) (hs2:starEach [b] X.env=[(false,eval b X.env)]:=by rfl):PID K X (.Tuple ets ek tp) (.Call (.Name "zip" p) [a,b] [] pos) (qkG tl) :=
  ⟨fun hK=>(qjc hK hg hm (ha.pa hK) hs hs2).imp fun σ H R' hq0=>by obtain ⟨H0,Φ,ρ,R,E,t,k⟩:=hq0;exact ⟨H0,Φ,ρ,_,E,t,fun ds Φ1 H1 vs r g rv _=>by
    match ds,r with
    | [d,e],⟨xs,ys,hx,hy,r⟩ =>
      obtain ⟨v,w,rfl,r1,r2⟩:=rv.two_inv
      obtain ⟨q1,a1,ws,rfl,h1,h2⟩:=r1.seq hx
      obtain ⟨q2,a2,us,rfl,h3,h4⟩:=r2.seq hy
      exact ⟨q1,q2,a1,a2,ws,us,rfl,SqB.same g.s h1,SqB.same g.s h3,k _ Φ1 H1 _ r g (qeE h1 h3 h2 h4)⟩⟩⟩
variable {gs : qfx}
def qkc (n:Nat) (t:qfx):TGD:=fun d ρ R=>match d with | .tup ds=>ds.length=n∧t ds ρ R | .lst ds=>ds.length=n∧t ds ρ R | _=>False
theorem PG.or {tg:Expr} {t t':TG} (h:PG X tg t) (h':PG X tg t'):PG X tg (fun v σ H Q=>t v σ H Q∨t' v σ H Q):=by
  intro pins s σ H v u Q I r hw
  rcases hw with hw | hw
  · exact h pins s σ H v u Q I r hw
  · exact h' pins s σ H v u Q I r hw
theorem qcf {k n:Nat} (hc:X.calm=true) (h:PGDs K X es gs) (hn:(assignEach es X.env).length=n:=by rfl) (hst:(assignEach es X.env).findIdx? (·.1)=none:=by rfl):PGD K X (.Tuple es k pos) (qkc n gs) :=
  ⟨fun hK=>((qhI hK hc (h.pg hK) hn hst).or (qhE hK hc (h.pg hK) hn hst)).imp fun v σ H Q hq0=>by
    obtain ⟨H0,Φ,ρ,d,R,E,r,g,k⟩:=hq0
    cases d with
    | tup ds=>cases r with | tup h1 h2 h3=>exact .inl ⟨_,_,rfl,.of (E.fz _ _ h1),by rw [h2];exact g.1,H0,Φ,ρ,ds,R,E,⟨h2,h3⟩,g.2,k⟩
    | lst ds=>cases r with | lst h1 h2 h3=>exact .inr ⟨_,_,rfl,.of (E.fz _ _ h1),by rw [h2];exact g.1,H0,Φ,ρ,ds,R,E,⟨h2,h3⟩,g.2,k⟩
    | _=>exact g.elim⟩
theorem qdp {k n:Nat} {t:qfx} (h:GMs k t):GM k (qkc n t):=⟨⟨fun d ρ R r=>by
  cases d with
  | tup ds=>exact ⟨r.1,h.k.p ds ρ R r.2⟩
  | lst ds=>exact ⟨r.1,h.k.p ds ρ R r.2⟩
  | _=>exact r⟩,fun d ρ R R' hr r=>by
  cases d with
  | tup ds=>exact ⟨r.1,h.m ds ρ R R' hr r.2⟩
  | lst ds=>exact ⟨r.1,h.m ds ρ R R' hr r.2⟩
  | _=>exact r⟩
theorem qjS {Φ H:Hp} {d:D} {v:V} {T:String} {r:Bool} (s:Same Φ H) (h:RpQ K Φ H d v) (e:qjW d T=some r):IsiV K H v T r:=by
  have sp:∀ {c:Prop} [Decidable c] {x:Bool} {y:Option Bool},(if c then some x else y)=some r→(c∧x=r)∨y=some r:=fun {c _ x y} h=>by
    by_cases hc:c
    · rw [if_pos hc] at h;cases h;exact .inl ⟨hc,rfl⟩
    · rw [if_neg hc] at h;exact .inr h
  cases d with
  | int i =>
    cases h.int
    rcases sp e with ⟨rfl,rfl⟩ | e
    · exact .int_int _
    rcases sp e with ⟨rfl,rfl⟩ | e
    · exact .int_bool _
    rcases sp e with ⟨rfl,rfl⟩ | e
    · exact .int_tuple _
    rcases sp e with ⟨rfl,rfl⟩ | e
    · exact .int_str _
    cases e
  | bl i =>
    cases h.bl
    rcases sp e with ⟨rfl,rfl⟩ | e
    · exact .bl_int _
    rcases sp e with ⟨rfl,rfl⟩ | e
    · exact .bl_bool _
    rcases sp e with ⟨rfl,rfl⟩ | e
    · exact .bl_tuple _
    cases e
  | str i =>
    cases h.str
    rcases sp e with ⟨rfl,rfl⟩ | e
    · exact .str_str _
    rcases sp e with ⟨rfl,rfl⟩ | e
    · exact .str_tuple _
    cases e
  | non=>cases e
  | tup ds =>
    obtain ⟨a,vs,rfl,h1,_,h2⟩:=h.tup s
    rcases sp e with ⟨rfl,rfl⟩ | e
    · exact .tup_tuple h1
    rcases sp e with ⟨rfl,rfl⟩ | e
    · exact .tup_int h1
    cases e
  | lst ds =>
    obtain ⟨a,vs,rfl,h1,h2⟩:=h.lst s
    rcases sp e with ⟨rfl,rfl⟩ | e
    · exact .lst_tuple (.of h1)
    rcases sp e with ⟨rfl,rfl⟩ | e
    · exact .lst_list (.of h1)
    cases e
  | fzl ds=>cases e
  | obj C fs=>cases e
  | map kvs=>cases e
  | exc _ _=>cases e
def qlW (T:String) (t:TD):TD:=fun ρ R=>t ρ fun d=>∃ r,qjW d T=some r∧R (.bl r)
theorem qgJ {T:String} {tx:Str} {p2:Pos} (hg:Gl X "isinstance") (hm:X.mg "isinstance"=none) (ha:PQ K X a t) (hT:PE X (.Name tx p2) (tC (.ty T)))
    (he:starEach [a,.Name tx p2] X.env=(false,eval a X.env)::starEach [.Name tx p2] X.env) (he2:starEach [.Name tx p2] X.env=(false,eval (.Name tx p2) X.env)::starEach [] X.env):PD K X (.Call (.Name "isinstance" p) [a,.Name tx p2] [] pos) (qlW T t) :=
  ⟨fun hK=>(qcJ (qgl hK) hg hm boot_isinstance (qam (ha.pe hK) (qam hT pa_nil he2) he) (by decide) (by decide) he (qaj he2 qaf)).imp fun σ H Q hq0=>by obtain ⟨H0,Φ,ρ,R,E,t,k⟩:=hq0;exact ⟨H0,Φ,ρ,_,E,t,fun d Φ1 H1 v r g rv=>by
    obtain ⟨rr,hr,r⟩:=r
    exact ⟨v,T,rr,rfl,qjS g.s rv hr,k _ Φ1 H1 _ r g (.bl _)⟩⟩⟩
theorem qj5 (i:Int):qjW (.int i) "int"=some true:=rfl
theorem qkf (i:Int):qjW (.int i) "bool"=some false:=rfl
theorem qgC (xs:List D):qjW (.tup xs) "tuple"=some true:=rfl
end
theorem qbK {α:Type} {f:α→D} {ns:List α} {i:Nat} {x:D} (h:(ns.map f)[i]?=some x):∃ k,x=f k∧ns[i]?=some k:=by
  rw [List.getElem?_map] at h
  cases e:ns[i]? with
  | none=>rw [e] at h;cases h
  | some k=>rw [e] at h;cases h;exact ⟨k,rfl,rfl⟩
theorem qgb {α:Type} {f:α→D} {ns:List α} {i:Nat} {n:α} {k:Int} (h:ns[i]?=some n) (e:k=(i:Int)):atI (ns.map f) k=some (f n):=qbd (by rw [List.getElem?_map,h];rfl) e
theorem qip {ns:List Int} {k:Int} (h0:0≤k) (h:k<(ns.length:Int)):∃ v:Int,atI (ns.map D.int) k=some (.int v):=by
  have hk:k.toNat<ns.length:=by omega
  exact ⟨_,qgb (qas hk) (by omega)⟩
def qh4:SpD:=fun ds R=>∃ ns:List Int,ds=[.fzl (ns.map D.int)]∧ns.length≤63∧R (.bl true)
def qj9 (K:PySem.W.Frag):Sp:=fun vs H Q _=>∃ (a:Addr) (ns:List Int),vs=[.ref a]∧SqL K H a (ns.map V.int)∧ns.length≤63∧TabF K H∧∀ H',Q (.bl true) H'
theorem qhj {K:PySem.W.Frag}:∀ vs H Q E,qj9 K vs H Q E→lSp K qh4 vs H Q E:=by
  rintro vs H Q E ⟨a,ns,rfl,hS,hl,tb,q⟩
  refine ⟨H,[.fzl (ns.map D.int)],fun d=>d=.bl true,Same.refl _,tb,.one ((RpL.ints ns).fzl hS),⟨ns,rfl,hl,rfl⟩,fun d Φ' H' v r g rv=>?_⟩
  subst r
  cases rv
  exact q _
section
variable {K : PySem.W.Frag} {H H' Φ : Hp} {v : V} {vs : List V}
end
theorem qdM {α β:Type} (f:α→β) (xs:List α) (lo hi:Option Int):qcA (xs.map f) lo hi=(qcA xs lo hi).map f:=by
  unfold qcA
  rw [List.length_map,List.map_take,List.map_drop]
theorem qcj (k:Nat) (z:Int):(List.replicate k [D.int z]).flatten=(List.replicate k z).map D.int:=by
  induction k with
  | zero=>rfl
  | succ k ih=>rw [List.replicate_succ,List.flatten_cons,ih];rfl
section
variable {g : TGD} {te : TD} {ρ : Rho} {R : List D → Prop}
theorem qhb {ds:List D} (ws:List D) (hw:ws.length=ds.length) (hlen:ds.length<sizeLine) (Q:Nat→D→Prop) (hQ:∀ i y,Q i y→ws[i]?=some y) (hb:∀ i d,ds[i]?=some d→g d ρ fun ρ1=>te ρ1 (Q i)) (k:R ws) :
    ds.length<sizeLine∧∃ P:Nat→D→Prop,(∀ i d,ds[i]?=some d→g d ρ fun ρ1=>te ρ1 (P i))∧∀ ys:List D,ys.length=ds.length→(∀ i y,ys[i]?=some y→P i y)→R ys:=by
  refine ⟨hlen,Q,hb,fun ys hl hy=>?_⟩
  have:ys=ws:=by
    refine List.ext_getElem? fun i=>?_
    rcases Nat.lt_or_ge i ys.length with c | c
    · rw [qas c,hQ i _ (hy i _ (qas c))]
    · rw [List.getElem?_eq_none c,List.getElem?_eq_none (by omega)]
  rw [this]
  exact k
theorem qbO {α:Type} {f:α→D} {xs:List α} (h:α→D) (hlen:xs.length<sizeLine) (hb:∀ x∈xs,g (f x) ρ fun ρ1=>te ρ1 fun y=>y=h x) (k:R (xs.map h)) :
    (xs.map f).length<sizeLine∧∃ P:Nat→D→Prop,(∀ i d,(xs.map f)[i]?=some d→g d ρ fun ρ1=>te ρ1 (P i))∧∀ ys:List D,ys.length=(xs.map f).length→(∀ i y,ys[i]?=some y→P i y)→R ys:=by
  refine qhb (xs.map h) (by simp) (by rw [List.length_map];exact hlen) (fun i=>match xs[i]? with | some x=>fun y=>y=h x | none=>fun _=>False) (fun i y q=>?_) (fun i d hd=>?_) k
  · rw [List.getElem?_map]
    cases e:xs[i]? with
    | none=>rw [e] at q;exact q.elim
    | some x=>rw [e] at q;rw [q];rfl
  · obtain ⟨x,rfl,hx⟩:=qbK hd
    have e:(match xs[i]? with | some x=>fun y=>y=h x | none=>fun _=>False:D→Prop)=fun y=>y=h x:=by rw [hx]
    rw [e]
    exact hb x (List.mem_of_getElem? hx)
theorem qeS {lo:Int} {n:Nat} (h:Nat→D) (hlen:n<sizeLine) (hb:∀ i,i<n→g (.int (lo+(i:Nat))) ρ fun ρ1=>te ρ1 fun y=>y=h i) (k:R ((List.range n).map h)) :
    (qb7 lo n).length<sizeLine∧∃ P:Nat→D→Prop,(∀ i d,(qb7 lo n)[i]?=some d→g d ρ fun ρ1=>te ρ1 (P i))∧∀ ys:List D,ys.length=(qb7 lo n).length→(∀ i y,ys[i]?=some y→P i y)→R ys :=
  qbO (f:=fun i:Nat=>D.int (lo+(i:Nat))) (xs:=List.range n) h (by rw [List.length_range];exact hlen) (fun x hx=>hb x (List.mem_range.mp hx)) k
theorem qiG {α β:Type} (f:α→D) (h:β→D) (xs:List α) (ys:List β):qfY (xs.map f) (ys.map h)=(List.zip xs ys).map fun p=>.tup [f p.1,h p.2]:=by
  unfold qfY
  rw [List.zipWith_map,List.map_zip_eq_zipWith]
  rfl
theorem qbu {α β:Type} {f:α→D} {h:β→D} {xs:List α} {ys:List β} (w:α→β→D) (hlen:xs.length<sizeLine) (hb:∀ x∈xs,∀ y∈ys,g (.tup [f x,h y]) ρ fun ρ1=>te ρ1 fun z=>z=w x y) (k:R (List.zipWith w xs ys)) :
    (qfY (xs.map f) (ys.map h)).length<sizeLine∧∃ P:Nat→D→Prop,(∀ i d,(qfY (xs.map f) (ys.map h))[i]?=some d→g d ρ fun ρ1=>te ρ1 (P i))∧∀ zs:List D,zs.length=(qfY (xs.map f) (ys.map h)).length→(∀ i y,zs[i]?=some y→P i y)→R zs:=by
  rw [qiG]
  refine qbO (fun p:α × β=>w p.1 p.2) ?_ (fun p hp=>hb p.1 (List.of_mem_zip hp).1 p.2 (List.of_mem_zip hp).2) ?_
  · rw [List.length_zip];omega
  · rw [List.map_zip_eq_zipWith];exact k
end
end L2
namespace L2
theorem ff {p:Prop} (h:false=true):p:=by cases h
theorem tf {p:Prop} (h:true=false):p:=by cases h
end L2
namespace L2
end L2
namespace L2
theorem qhe {α:Type} (f:α→D) (es:List α) (d:α):es.map f++[f d]=(es++[d]).map f:=by simp
theorem qlS {α:Type} (f:α→D) (es fs:List α):es.map f++fs.map f=(es++fs).map f:=by simp
end L2
namespace L2
open PySem PySem.Spec PyProof.Rows
section
variable {g : TGD} {te : TD} {ρ : Rho} {R : List D → Prop}
theorem qbI {α:Type} {f:α→D} {xs:List α} (h:α→Int) (hlen:xs.length<sizeLine) (hb:∀ x∈xs,g (f x) ρ fun ρ1=>te ρ1 fun y=>y=.int (h x)) (k:R ((xs.map h).map D.int)) :
    (xs.map f).length<sizeLine∧∃ P:Nat→D→Prop,(∀ i d,(xs.map f)[i]?=some d→g d ρ fun ρ1=>te ρ1 (P i))∧∀ ys:List D,ys.length=(xs.map f).length→(∀ i y,ys[i]?=some y→P i y)→R ys :=
  qbO (fun x=>D.int (h x)) hlen hb (by rw [List.map_map] at k;exact k)
end
section
variable {K : PySem.W.Frag} {X : Cx} {pins : List (Addr × Obj)} {σ : St} {Φ H : Hp} {s : Shared}
end
section
variable {K : PySem.W.Frag} {X : Cx} {a b : Expr} {ta tb : TD} {apos cpos : Pos}
end
section
variable {K : PySem.W.Frag} {X : Cx} {e b : Expr} {te tk : TD} {pos spos npos : Pos} {x : Str}
end
section
variable {K : PySem.W.Frag} {X : Cx} {e a st : Expr} {pos p2 : Pos} {te : TE}
end
section
variable {K : PySem.W.Frag} {X : Cx} {a st : Expr} {pos p2 : Pos} {ta : TD} {to : TOD}
end
section
variable {K : PySem.W.Frag} {Φ Φ0 Φ1 H H0 H1 : Hp} {p : Addr} {d : D} {v : V} {ds : List D} {vs : List V}
end
section
variable {K : PySem.W.Frag} {X : Cx} {e : Expr} {te : TD} {pos pos' : Pos}
end
section
variable {K : PySem.W.Frag} {X : Cx} {Φ H : Hp} {a e : Expr} {es : List Expr} {ta : TD} {tl : TDL} {C : Addr} {fl : Str} {pos p : Pos}
variable {CX : CXT} {k : Nat} {f : Addr} {fd : FuncData} {ps ns : List Str} {x : Str} {E : XK}
end
section
variable {prog : Program} {w : World} {A : Around} {E : Value → Shared → Prop} {s : Shared}
end
section
variable {K : PySem.W.Frag} {X : Cx} {a : Expr} {pos p p2 pos2 : Pos} {tl : TDL}
theorem qcT {α β:Type} {F:α→β→Prop}:∀ {xs:List α} {ys:List β},xs.length=ys.length→(∀ (i:Nat) x y,xs[i]?=some x→ys[i]?=some y→F x y)→Paired F xs ys
  | [],[],_,_=>.nil
  | x::xs,y::ys,hl,h=>.cons (h 0 x y rfl rfl) (qcT (by simpa using hl) fun i u v hu hv=>h (i+1) u v hu hv)
end
def qgk (X:Cx) (A:Around) (scope:Scope) (N':List Str) (cl:List (Str × Addr)) (f:Addr) (qual:Str) (cd:Value) (s0:Shared) (H0:Hp):Cx where
  prog:=X.prog
  w:=X.w
  K:=X.K
  mg:=X.mg
  base:=X.base
  A:=A.deeper (PySem.W.envX qual scope s0.heap.objs.size f cd cl)
  N:=N'
  s₀:=s0
  H₀:=H0
  env:=PySem.W.envX qual scope s0.heap.objs.size f cd cl
  outer:=X.stack
  stack:=PySem.W.envX qual scope s0.heap.objs.size f cd cl::X.stack
  ex:=[]
  fn:=fun _=>false
  calm:=true
  pn:=[]
  xe:=fun _ _=>False
section
variable {X : Cx} {A : Around} {scope : Scope} {p : Str} {r : List Str} {cap : List (Option Nat)} {cl : List (Str × Addr)} {f c' : Addr} {qual name : Str} {cd pm ctv : Value} {pins : List (Addr × Obj)} {σ : St} {H : Hp} {s s1 : Shared} {v : V} {u : Value} {params : Arguments} {body : Expr} {te : TE} {Q : VK} {E : Value → Shared → Prop}
theorem qiY (hnc:∀ y∈scope.names,y.2≠.cell) (S:CompScope X.N X.env.scope scope (p::r) (none::cap)) (hpl:scope.names.lookup p=some .local) (hA:A.frames=some X.stack) (hh:A.handled=none) (I:Inv X pins σ H s)
    (hcl:∀ x c,cl.lookup x=some c→X.env.cells.lookup x=some c) (hfr:∀ x,(x,NameKind.free)∈scope.names→∃ c,cl.lookup x=some c) (hos:s1.os=s.os) (hg:s1.gens=s.gens)
    (hk:∀ b o,s.heap.get? b=some o→s1.heap.get? b=some o) (hn:s1.heap.Ns s.heap.objs.size (fun y=>List.lookup y [(p,u)])) (rv:RelV v u) :
    Inv (qgk X A scope (p::r) cl f qual cd s H) [] ((qbG (none::cap) σ).set 0 (some v)) H s1:=by
  have noA:∀ b:Addr,b∉(qgk X A scope (p::r) cl f qual cd s H).ex:=fun b z=>absurd (show b∈([]:List Addr) from z) (by simp)
  refine ⟨⟨I.ok.mod,S.kind,rfl,rfl,Nat.le_refl _,fun x y c h1 h2=>I.ok.inj x y c (hcl x c h1) (hcl y c h2),fun x hx=>?_,fun x c hx _=>absurd hx (by show ¬ (false=true);decide),fun _=>hh,Around.frames_deeper hA,.inr ⟨rfl,rfl⟩,
      fun b hb=>absurd hb (noA b),I.bs,Nat.le_trans I.ok.bsz I.sz,fun b o e hb=>absurd hb (noA b),fun b hb hf=>absurd hb (noA b),I.stack,I.stkFree⟩,
    hos,by rw [hg];exact I.bare,Un.kept hk,⟨_,hn,fun i x v' h1 h2 h3=>?_⟩,fun x c e=>?_,I.hok.fresh (Nat.le_refl _),fun x c e=>I.freeC x c (hcl x c e),fun p hp=>absurd (show p∈([]:List (Addr × Obj)) from hp) (by simp),I.hok.kept hk,?_⟩
  · have hx:scope.names.lookup x=some .cell∨scope.names.lookup x=some .free:=hx
    rcases hx with hx | hx
    · exact absurd rfl (hnc _ (PySem.mem_of_lookup hx))
    · exact hfr x (PySem.mem_of_lookup hx)
  · rcases qaY h2 with ⟨rfl,_,e1⟩ | ⟨c0,h2⟩
    · cases e1
      have h1:(p::r)[0]?=some x:=h1
      cases h1
      exact ⟨u,rv,.inl ⟨hpl,by simp⟩⟩
    · have h2:((none::cap).map fun o=>o.bind fun i=>(σ[i]?).join)[i]?=some (some v'):=h2
      rw [List.getElem?_map] at h2
      cases ec:(none::cap)[i]? with
      | none=>rw [ec] at h2;cases h2
      | some o =>
        rw [ec] at h2
        have h2:(o.bind fun i=>(σ[i]?).join)=some v':=by simpa using h2
        cases o with
        | none=>cases h2
        | some j =>
          have h2:(σ[j]?).join=some v':=h2
          have hj:σ[j]?=some (some v'):=by
            cases ej:σ[j]? with
            | none=>rw [ej] at h2;cases h2
            | some y=>rw [ej] at h2;exact congrArg some h2
          have hz:((none::cap).zip (p::r))[i]?=some (some j,x):=by rw [List.getElem?_zip_eq_some];exact ⟨ec,h1⟩
          obtain ⟨q1,q2⟩:=S.at_ _ (List.mem_of_getElem? hz) j rfl
          obtain ⟨mx,hnx,hl⟩:=I.loc
          have kc:=S.free _ q2 rfl
          obtain ⟨u',r',lk⟩:=hl j x v' q1 hj (.inr (.inl kc))
          refine ⟨u',r',?_⟩
          rcases lk with ⟨k1,_⟩ | ⟨_,c,e,z⟩
          · have:X.env.scope.names.lookup x=some .local:=k1
            rw [kc] at this;cases this
          · obtain ⟨c',hc'⟩:=hfr x q2
            have:=hcl x c' hc'
            rw [e] at this;cases this
            exact .inr ⟨.inr (S.fst _ q2 rfl),c,hc',let ⟨o,ho,hd⟩:=z;⟨o,hk c o ho,hd⟩⟩
  · obtain ⟨v,o,ho,hd⟩:=I.cell x c (hcl x c e)
    exact ⟨v,o,hk c o ho,hd⟩
  · show ((qbG (none::cap) σ).set 0 (some v)).length=(p::r).length
    rw [List.length_set]
    unfold qbG
    rw [List.length_map,S.len]
theorem qhA (hnc:∀ y∈scope.names,y.2≠.cell) (S:CompScope X.N X.env.scope scope (p::r) (none::cap)) (hpl:scope.names.lookup p=some .local) (hA:A.frames=some X.stack) (hh:A.handled=none) (hroom:A.depth<recursionLimit) (I:Inv X pins σ H s)
    (hcl:∀ x c,cl.lookup x=some c→X.env.cells.lookup x=some c) (hfr:∀ x,(x,NameKind.free)∈scope.names→∃ c,cl.lookup x=some c)
    (ho:s.heap.get? f=some (PySem.W.kla_obj name qual params body scope cl pm c' ctv)) (hcd:s.heap.CodeRec (.ref c') qual)
    (hbind:bindArgs (PySem.W.kla_fn name qual params body scope cl pm (.ref c') ctv) ⟨[u],[]⟩=pure [(p,u)]) (hco:scope.isCoroutine=false) (hgen:scope.isGenerator=false)
    (hb:PE (qgk X A scope (p::r) cl f qual (.ref c') s H) body te) (rv:RelV v u) (hq:te ((qbG (none::cap) σ).set 0 (some v)) H Q) :
    wpAny (model X.prog X.w) A (call (.ref f) [u]) (EP X pins σ Q) E s:=by
  refine wpAny_call (PySem.W.kla_callFunE hroom ho rfl hco hgen rfl hcd ?_)
  rw [hbind]
  refine wpAny_pure (wpAny_newFunctionEnv hnc (fun y hy=>by rw [show y=(p,u) by simpa using hy];exact hpl) (fun h₁ hns hsb=>⟨I.nolimit.fresh _ hsb,?_⟩) S.kind)
  have hk₁:∀ b o,s.heap.get? b=some o→h₁.get? b=some o:=fun b o e=>hsb.extBut b o (Nat.ne_of_lt (Heap.lt_size e)) (Heap.get?_push_of_some _ e)
  show codeAny _ _ (.expr body (PySem.W.envX qual scope s.heap.objs.size f (.ref c') cl)) _ _
  have Iv:Inv (qgk X A scope (p::r) cl f qual (.ref c') s H) [] ((qbG (none::cap) σ).set 0 (some v)) H { s with heap:=h₁,toks:=s.toks+1 } :=
    qiY hnc S hpl hA hh I hcl hfr rfl rfl hk₁ hns rv
  refine PySem.W.kla_codeExpr (wpAny_mono (hb [] _ _ H Q Iv hq) (fun u' s' hq0=>?_) fun _ _ z=>z.elim)
  obtain ⟨x,H',I',r',q⟩:=hq0
  exact ⟨x,H',I.call' (ch:=[]) I'.os I'.base I'.hok I'.bare (fun b z=>absurd z (by simp)),r',q⟩
end
section
variable {X : Cx} {A : Around} {pins : List (Addr × Obj)} {σ : St} {H : Hp} {s : Shared} {params : Arguments} {body : Expr} {scope : Scope} {pos : Pos} {c P : Addr} {t0 : Tok} {Q : Value → Shared → Prop} {E : Value → Shared → Prop}
theorem Inv.bat (I:Inv X pins σ H s) {ps:Array Value} (hP:s.heap.get? P=some (PySem.W.tabObj ps)):mainGlobals≠P∧s.heap.BuiltinsAt X.mg P:=by
  have G:=I.mod.glob.keeps I.bk
  have hgP:mainGlobals≠P:=fun q=>by
    obtain ⟨o,es,ep,e,hd,_⟩:=G
    rw [q,hP] at e;cases e;cases hd
  obtain ⟨bm,ob,b1,b2,b3,b4,b5,b6⟩:=I.mod.bmod
  have b3:=I.bk _ _ b3
  refine ⟨hgP,bm,ob,b1,b2,fun q=>?_,fun q=>?_,b3,b4,b5,b6⟩
  · obtain ⟨o,es,ep,e,hd,_⟩:=G
    rw [q,e] at b3;cases b3;rw [hd] at b6;cases b6
  · rw [q,hP] at b3;cases b3;cases b4
theorem Inv.tabbed (I:Inv X pins σ H s) {ps:Array Value} (hP:H P=some (.tbl ps)) {c':Addr} {h':Heap} {o:Obj} {vs:Array Value} {x y:Value} {q:Str} {t t':Tok} (tk:Nat) (hps:ps=#[x,y,.str q t])
    (hx:Heap.ExtBut P s.heap h') (hge:s.heap.objs.size≤c') (ho:h'.get? c'=some o) (hd:o.data=.fields vs) (hv:vs[1]?=some (.str q t')) (hT:h'.get? P=some (PySem.W.tabObj #[x,y,.ref c'])) :
    Inv X pins σ (upd H c' (.frz o (.own P))) { s with heap:=h',toks:=tk }:=by
  have hn:H c'=none:=I.hok.fresh hge
  have nP:∀ b,H b=none→b≠P:=fun b e z=>by rw [z,hP] at e;cases e
  have up:∀ b u,H b=some u→upd H c' (.frz o (.own P)) b=some u:=fun b u e=>by rw [qad (qak e hn)];exact e
  have lt:∀ b ob,s.heap.get? b=some ob→b≠c':=fun b ob e=>Nat.ne_of_lt (Nat.lt_of_lt_of_le (Heap.lt_size e) hge)
  refine I.un ⟨fun b ob e n _ _=>hx b ob (nP b n) e,fun b ob e n _ _=>⟨ob.slots,hx b ob (nP b n) e⟩,fun b ob e n _=>by rw [qad (lt b ob e)];exact n,fun b ob e _=>?_,fun b xs e=>up _ _ e,fun b ob u e=>up _ _ e,fun b us e=>up _ _ e⟩ fun b u e=>?_
  · by_cases hb:b=P
    · subst hb;exact ⟨_,hT⟩
    · exact ⟨ob,hx b ob hb e⟩
  · by_cases hb:b=c'
    · subst hb
      rw [qac] at e
      cases e
      exact ⟨ho,o,ho⟩
    · rw [qad hb] at e
      by_cases hp:b=P
      · subst hp
        rw [hP] at e
        cases e
        exact .inr ⟨c',o,vs,x,y,q,t,t',hps,qac,hT,hd,hv⟩
      · refine (I.hok b u e).stay (fun d w hc q=>hx d w ?_ q) (fun d q=>up _ _ q) (fun d xs q=>up _ _ q) fun d ob w q=>up _ _ q
        rcases hc with z | z
        · rw [z];exact hp
        · intro z2;rw [z2,hP] at z;cases z
theorem qhd (hP:H P=some (.tbl #[rawInt pos.line,rawInt pos.col,.str (X.env.qual++"<lambda>") t0])) (hcode:X.env.code=.ref c) (hC:PySem.W.codeHdIn X.K c P=true) (hdef:defaultsOf params X.env=([],[])) (I:Inv X pins σ H s)
    (hfree:∀ x∈scope.names,x.2=.free→X.env.scope.names.lookup x.1=some .cell)
    (h:∀ (f c':Addr) (cl:List (Str × Addr)) (pm ctv:Value) (o:Obj) (vs:Array Value) (t':Tok) (H':Hp) (s':Shared),(∀ x c,cl.lookup x=some c→X.env.cells.lookup x=some c)→(∀ x,(x,NameKind.free)∈scope.names→∃ c,cl.lookup x=some c) →
      (H'=H∨∃ b u,H b=none∧(∀ xs,u≠.lst xs)∧H'=upd H b u)→Inv X pins σ H' s'→s'.heap.get? f=some (PySem.W.kla_obj "<lambda>" (X.env.qual++"<lambda>") params body scope cl pm c' ctv)→FpOk X pins H' f →
      H' c'=some (.frz o (.own P))→o.data=.fields vs→vs[1]?=some (.str (X.env.qual++"<lambda>") t')→s.heap.objs.size≤f→Q (.ref f) s') :
    wpAny (model X.prog X.w) A (eval (.Lambda params body scope pos) X.env) Q E s:=by
  have C:=PySem.W.codeHd_of_K I.kIn hC
  obtain ⟨cl,hcl,h1,h2⟩:=qby (scope:=scope) (env:=X.env) fun x hx hf=>I.ok.has x.1 (.inl (hfree x hx hf))
  have G:=I.mod.glob.keeps I.bk
  refine PySem.W.kla_eval hdef ?_
  rcases (show ObjOk X.prog X.w H s.heap P (.tbl _) from I.hok P _ hP) with hT | ⟨c',o,vs,x,y,q,t,t',e1,e2,e3,e4,e5⟩
  · obtain ⟨hgP,hb⟩:=I.bat hT
    refine PySem.W.kla_makeFunction (mg:=X.mg) hcl I.ok.glob G hcode C hT (show TriplesOk [] from trivial) rfl hgP hb fun c' ctv h' tk hx hge hlt hrec htb=>?_
    obtain ⟨c2,o,vs,t',e,ho,hd,hv⟩:=hrec
    cases e
    have I1:=I.tabbed hP tk rfl hx hge ho hd hv (by simpa using htb)
    have I2:Inv X pins σ _ { s with heap:=h'.push (PySem.W.kla_obj "<lambda>" (X.env.qual++"<lambda>") params body scope cl ((X.mg "__name__").getD .none) c' ctv),toks:=tk }:=I1.kept (t':=tk) fun b u e=>Heap.get?_push_of_some _ e
    refine h h'.objs.size c' cl _ ctv o vs t' _ _ h1 h2 (.inr ⟨c',_,I.hok.fresh hge,fun xs z=>(by cases z),rfl⟩) I2 (Heap.get?_push_size _ rfl) (I1.fpOk (Nat.le_refl _) (I1.hok.fresh (Nat.le_refl _))) qac hd hv (Nat.le_trans hge (Nat.le_of_lt hlt))
  · cases e1
    obtain ⟨_,hb⟩:=I.bat e3
    refine PySem.W.kla_makeFunctionHit (cv:=.ref c') (mg:=X.mg) hcl I.ok.glob G hcode C e3 (show TriplesOk [.int _ _,.int _ _,_] from trivial) (by simp [codeAmong,rawInt]) hb fun ctv h' tk hk hsz=>?_
    have I1:Inv X pins σ H { s with heap:=h',toks:=tk }:=I.kept (t':=tk) hk
    have I2:Inv X pins σ H { s with heap:=h'.push (PySem.W.kla_obj "<lambda>" (X.env.qual++"<lambda>") params body scope cl ((X.mg "__name__").getD .none) c' ctv),toks:=tk }:=I1.kept (t':=tk) fun b u e=>Heap.get?_push_of_some _ e
    exact h h'.objs.size c' cl _ ctv o vs t' H _ h1 h2 (.inl rfl) I2 (Heap.get?_push_size _ rfl) (I1.fpOk (Nat.le_refl _) (I1.hok.fresh (Nat.le_refl _))) e2 e4 e5 hsz
end
theorem FpOk.to {X:Cx} {pins:List (Addr × Obj)} {H H':Hp} {b:Addr} (h:FpOk X pins H b) (hn:H' b=none):FpOk X pins H' b:=⟨hn,h.2⟩
section
variable {X : Cx} {pins : List (Addr × Obj)} {σ : St} {H : Hp} {xs : List V} {l S I f : Addr} {fob : Obj} {kf : Nat → Int} {G : Hp → Prop} {R : Result → Shared → Prop} {kw : List (Str × Value)}
end
section
variable {X : Cx} {pins : List (Addr × Obj)} {σ : St} {H : Hp} {xs : List V} {l f : Addr} {fob : Obj} {kf : Nat → Int} {G : Hp → Prop} {s : Shared} {Q : Value → Shared → Prop} {E : Value → Shared → Prop}
end
section
variable {K : PySem.W.Frag} {X : Cx} {l body : Expr} {tl tb : TD} {scope : Scope} {p : Str} {r : List Str} {cap : List (Option Nat)} {params : Arguments} {np pos lp kp1 kp2 kp3 : Pos} {c P : Addr} {j : Nat}
end
structure LamT (K:PySem.W.Frag) (q:Str) (fd:FuncData) (c P:Addr) (lp:Pos):Prop where
  code:fd.code=.ref c
  hd:PySem.W.codeHdIn K c P=true
  tab:(P,#[rawInt lp.line,rawInt lp.col,.str (q++".<locals>."++"<lambda>") 0])∈qaB K
section
variable {P : Program} {w : World} {K : PySem.W.Frag} {mg : Str → Option Value} {base : Heap}
theorem Fun.okL {x qual:Str} {st:Stmt} {f:Addr} {fd:FuncData} {N ps:List Str} {k:Nat} {sp:Sp} (F:Fun K x qual st f fd) (S:FnScope N ps (qab st)) (len:∀ vs H Q E,sp vs H Q E→vs.length=ps.length)
    (hbody:∀ (cdv:Value) (A:Around) (outer:List Env) (s:Shared) (H:Hp) (vs:List V) (Q:VK) (E:XK),fd.code=cdv→Room k (A.deeper (envOfC qual (qab st) s.heap.objs.size f cdv))→sp vs H Q E →
      ∃ t,PSs (qhV CX0 P w K mg base N qual (qab st) f cdv A outer s H E).nox (qaI st) t∧t { nx:=fun _ H'=>Q .non H',rt:=Q } (start N vs) H):FnOk P w K mg base CX0 (k+1) f fd ps sp:=by
  obtain ⟨oc,od,kV,doc,pm,an,cdv,ct,osl,rfl,lk,hcd⟩:=F.ex
  refine qkh lk hcd S len fun A outer s H vs Q E hr hsp=>?_
  obtain ⟨t,h,q⟩:=hbody cdv A outer s H vs Q E rfl hr hsp
  exact ⟨t,h.nox,q⟩
theorem Fun.okDL {x qual:Str} {st:Stmt} {f:Addr} {fd:FuncData} {N ps:List Str} {k:Nat} {sp:SpD} (F:Fun K x qual st f fd) (S:FnScope N ps (qab st)) (len:∀ ds R,sp ds R→ds.length=ps.length)
    (hbody:∀ (cdv:Value) (A:Around) (outer:List Env) (s:Shared) (H:Hp) (E:XK) (ds:List D) (R:D→Prop),fd.code=cdv→Room k (A.deeper (envOfC qual (qab st) s.heap.objs.size f cdv))→sp ds R →
      ∃ t,PSsD K (qhV CX0 P w K mg base N qual (qab st) f cdv A outer s H E).nox (qaI st) t∧t { nx:=fun _=>R .non,rt:=R } (qcs N ds)):FnOk P w K mg base CX0 (k+1) f fd ps (lSp K sp):=by
  refine F.okL S (fun vs H Q E ⟨Φ,ds,R,sm,tb,rl,h,_⟩=>by rw [rl.1];exact len ds R h) (fun cdv A outer s H vs Q E hcd hr ⟨Φ,ds,R,sm,tb,rl,h,kk⟩=>?_)
  obtain ⟨t,ht,hq⟩:=hbody cdv A outer s H E ds R hcd hr h
  exact ⟨lS K t,ht.ps rfl,Φ,H,Φ,qcs N ds,_,.refl sm,qed sm tb rl,hq,⟨fun ρ' Φ' H' σ' r g V=>kk .non Φ' H' .non r g .non,kk,fun _ _ _ _ h=>h.elim,fun _ _ _ _ h=>h.elim⟩⟩
end
theorem qfn {K:PySem.W.Frag} {x:Str} {f c P:Addr} {fd:FuncData} {oc oc':Value} {od od':Option Addr} {sl sl':Array (Option Value)} {vs:Array Value} {pos:Pos} (a:PySem.W.nsIn K mainGlobals x=some (some (.ref f))) (l:K.lookup f=some ⟨oc,od,.func fd,sl⟩)
    (e:fd.code=.ref c) (lc:K.lookup c=some ⟨oc',od',.fields vs,sl'⟩) (h11:(vs[11]?:Option Value)=some (.ref P)) (hp:qie fd.body=some pos) :
    qeT K x=some (P,#[rawInt pos.line,rawInt pos.col,.str (fd.qualname++".<locals>."++"<lambda>") 0]):=by
  unfold qeT
  simp only [a,l,e,lc,h11,hp]
theorem qfN {K:PySem.W.Frag} {c P:Addr} {o:Obj} (h:K.lookup c=some o) (v:PySem.W.codeHdIn [(c,o)] c P=true):PySem.W.codeHdIn K c P=true:=by
  have e:List.lookup c [(c,o)]=some o:=by simp
  unfold PySem.W.codeHdIn at v ⊢
  rw [h]
  rw [e] at v
  exact v
theorem qdo {K:PySem.W.Frag} {x:Str} (a:PySem.W.nsIn K mainGlobals x=some none):qeT K x=none:=by
  unfold qeT
  simp only [a]
def qe2 (K:PySem.W.Frag):Hp:=fun b=>((qaB K).find? fun u=>u.1 == b).map fun u=>HO.tbl u.2
theorem qgV {P:Program} {w:World} {K:PySem.W.Frag} {mg mb:Str→Option Value} {CX:CXT} {k:Nat} {fa a:Addr} {fd:FuncData} {x:Str} {sp:Sp} {s₁:Shared} {vs:List Value} {ns:List Int}
    (KX:K.In s₁.heap) (hns:s₁.heap.Ns mainGlobals mg) (hb:s₁.heap.Ns builtinsNs mb) (hbb:∀ x:Str,x≠"__name__"→mb x=bootBuiltins x) (hlim:s₁.heap.NoLimit)
    (hbm:∃ bm ob,mg "__builtins__"=some (.ref bm)∧bm≠builtinsNs∧s₁.heap.get? bm=some ob∧ob.cls=.type "module"∧ob.dict=some builtinsNs∧ob.data=.plain) (hse:s₁.heap.NoSeer) (hdg:∃ mc,s₁.heap.Ns cStatics mc∧mc "sys.int_max_str_digits"=none) (hg:s₁.gens=#[])
    (ha:s₁.heap.get? a=some { cls:=.type "list",data:=.seq vs.toArray }) (hi:IntsAre vs ns) (hl:ns.length≤sizeLine) (hr:Room k callerA)
    (F:∀ base:Heap,K.In base→base.Ns mainGlobals mg→FnOk P w K mg base CX k fa fd [x] sp) (hbind:∀ (s:Shared) (u:Value),BindsTo s fd ⟨[u],[]⟩ [(x,u)])
    (hT:∀ t∈qaB K,s₁.heap.get? t.1=some (PySem.W.tabObj #[])∧K.lookup t.1=none∧isCodeTable s₁.heap t.1) (hnd:∀ t∈qaB K,∀ u∈qaB K,t.1=u.1→t=u)
    (hsp:∀ H:Hp,SqL K H a (ns.map V.int)→TabF K H→sp [.ref a] H (fun v _=>v=.bl true) fun _ _ _=>False)
    (hCX:∀ H e s',CX [] H s₁ (fun _ _ _=>False) e s'→False) :
    codeAny (model P w) callerA (.call (.ref fa) ⟨[.ref a],[]⟩) (fun r s'=>r=.ok (.ret (.bool true))∧OldK s₁.heap s'.heap∧s'.os=s₁.os∧AllBare s'.gens) s₁:=by
  have rv:=qd8 hi
  have lenV:=hi.length
  have core:∀ H:Hp,SqL K H a (ns.map V.int)→TabF K H→(∀ b u,H b=some u→(b=a∧K.lookup a=none∧u=.frz { cls:=.type "list",data:=.seq vs.toArray } (.lst (ns.map V.int)))∨∃ t∈qaB K,t.1=b∧u=.tbl t.2) →
      codeAny (model P w) callerA (.call (.ref fa) ⟨[.ref a],[]⟩) (fun r s'=>r=.ok (.ret (.bool true))∧OldK s₁.heap s'.heap∧s'.os=s₁.os∧AllBare s'.gens) s₁:=by
    intro H hS hTab hcl
    have hok:HOk P w H s₁.heap:=fun b u e=>by
      rcases hcl b u e with ⟨rfl,_,rfl⟩ | ⟨t,ht,rfl,rfl⟩
      · exact ⟨ha,by rw [List.length_map];exact hl,vs,_,rv,ha⟩
      · exact .inl (hT t ht).1
    have base_of:∀ {b:Addr} {o:Obj},s₁.heap.get? b=some o→H b=none→(qg9 s₁.heap H).get? b=some o:=fun e n=>qhY e n
    have noO:∀ {b:Addr} {o:Obj},s₁.heap.get? b=some o→(o={ cls:=.type "list",data:=.seq vs.toArray }→False)→(o=PySem.W.tabObj #[]→False)→H b=none:=fun {b o} e n1 n2=>by
      cases q:H b with
      | none=>rfl
      | some u =>
        rcases hcl b u q with ⟨rfl,_,_⟩ | ⟨t,ht,rfl,_⟩
        · rw [ha] at e;cases e;exact (n1 rfl).elim
        · rw [(hT t ht).1] at e;cases e;exact (n2 rfl).elim
    have nsK:∀ {b:Addr} {m:Str→Option Value},s₁.heap.Ns b m→(qg9 s₁.heap H).Ns b m:=fun {b m} hq0=>by obtain ⟨o,es,ep,e,d,r⟩:=hq0;exact ⟨o,es,ep,base_of e (noO e (fun z=>by rw [z] at d;cases d) fun z=>by rw [z] at d;cases d),d,r⟩
    have hKb:K.In (qg9 s₁.heap H):=fun b o e=>base_of (KX b o e) (by
      cases q:H b with
      | none=>rfl
      | some u =>
        rcases hcl b u q with ⟨rfl,z,_⟩ | ⟨t,ht,rfl,_⟩
        · rw [z] at e;cases e
        · rw [(hT t ht).2.1] at e;cases e)
    have hM:Mod K mg (qg9 s₁.heap H):=⟨hKb,nsK hns,⟨mb,nsK hb,hbb⟩,let ⟨mc,h1,h2⟩:=hlim;⟨mc,nsK h1,h2⟩,let ⟨bm,ob,b1,b2,b3,b4,b5,b6⟩:=hbm;⟨bm,ob,b1,b2,base_of b3 (noO b3 (fun z=>by rw [z] at b6;cases b6) fun z=>by rw [z] at b6;cases b6),b4,b5,b6⟩,
      ⟨let ⟨mc,h1,h2⟩:=hse.statics;⟨mc,nsK h1,h2⟩,let ⟨mc,h1,h2⟩:=hse.mods;⟨mc,nsK h1,h2⟩,let ⟨mc,h1,h2⟩:=hse.imp;⟨mc,nsK h1,h2⟩,let ⟨m1,bm,ob,n1,b1,b3,b4,b5⟩:=hse.main;⟨m1,bm,ob,nsK n1,b1,base_of b3 (noO b3 (fun z=>by rw [z] at b5;cases b5) fun z=>by rw [z] at b5;cases b5),b4,b5⟩⟩,let ⟨mc,h1,h2⟩:=hdg;⟨mc,nsK h1,h2⟩⟩
    have e0:Env0 P w K mg (qg9 s₁.heap H) callerA [] s₁ H:=⟨rfl,hM,fun b o e=>qiZ e,Nat.le_of_eq (qf5 _ _),trivial,fun b hb=>absurd (show b∈([]:List Addr) from hb) (by simp),hok,.of_eq hg⟩
    refine codeAny_mono ((F _ hKb (nsK hns)).run callerA [] s₁ H ⟨[.ref a],[]⟩ [.ref a] [.ref a] _ _ hr e0 (hbind s₁ (.ref a)) (.cons rfl .nil) (hsp H hS hTab)) fun r s' h=>?_
    cases r with
    | error e=>exact (hCX H e s' h).elim
    | ok fl =>
      cases fl with
      | next=>exact False.elim h
      | brk=>exact False.elim h
      | cont=>exact False.elim h
      | ret u =>
        obtain ⟨v,H',os,bare,un,hok',r',q⟩:=h
        have q':v=.bl true:=q
        subst q'
        obtain rfl:u=Value.bool true:=r'
        refine ⟨rfl,⟨fun b o e=>?_,fun b o e=>un.there b o e (by simp)⟩,os,bare⟩
        cases q:H b with
        | none=>exact .inl (un.keep b o e q (by intro z;exact absurd (show b∈([]:List Addr) from z) (by simp)) (by simp))
        | some u =>
          rcases hcl b u q with ⟨rfl,_,rfl⟩ | ⟨t,ht,rfl,rfl⟩
          · obtain ⟨e1,_⟩:=hok b _ q
            obtain ⟨e2,_⟩:=hok' b _ (un.frzs b _ _ q)
            rw [e] at e1;cases e1
            exact .inl e2
          · rw [(hT t ht).1] at e
            cases e
            rcases (show ObjOk P w H' s'.heap t.1 (.tbl t.2) from hok' t.1 _ (un.tbls t.1 _ q)) with z | ⟨c,oc,us,y,z,qq,t1,t2,_,_,z3,_⟩
            · exact .inl z
            · exact .inr (.inl ⟨(hT t ht).2.2,rfl,#[],#[y,z,.ref c],rfl,by simpa using z3⟩)
  have tabH:∀ t∈qaB K,qe2 K t.1=some (.tbl t.2):=fun t ht=>by
    unfold qe2
    cases e:(qaB K).find? fun u=>u.1 == t.1 with
    | none=>have:=List.find?_eq_none.mp e t ht;simp at this
    | some u =>
      have h1:=List.find?_some e
      have h2:=List.mem_of_find?_eq_some e
      have h3:u=t:=hnd u h2 t ht (by simpa using h1)
      rw [h3];rfl
  have tabI:∀ b u,qe2 K b=some u→∃ t∈qaB K,t.1=b∧u=.tbl t.2:=fun b u h=>by
    unfold qe2 at h
    cases e:(qaB K).find? fun u=>u.1 == b with
    | none=>rw [e] at h;cases h
    | some t =>
      rw [e] at h
      cases h
      exact ⟨t,List.mem_of_find?_eq_some e,by simpa using List.find?_some e,rfl⟩
  have naT:∀ t∈qaB K,t.1≠a:=fun t ht z=>by
    have:=(hT t ht).1
    rw [z,ha] at this
    cases this
  cases hk:K.lookup a with
  | some o =>
    have e:=KX a o hk
    rw [ha] at e
    cases e
    exact core (qe2 K) (.inr ⟨_,vs.toArray,_,hk,rfl,rfl,rfl,by rw [List.size_toArray,lenV];exact hl,by simpa using rv⟩) tabH fun b u z=>.inr (tabI b u z)
  | none =>
    refine core (fun b=>if b=a then some (.frz { cls:=.type "list",data:=.seq vs.toArray } (.lst (ns.map V.int))) else qe2 K b) (.inl (.inr ⟨{ cls:=.type "list",data:=.seq vs.toArray },if_pos rfl⟩)) (fun t ht=>?_) fun b u z=>?_
    · show (if t.1=a then _ else qe2 K t.1)=_
      rw [if_neg (naT t ht)]
      exact tabH t ht
    · by_cases hb:b=a
      · have z':=(if_pos hb).symm.trans z
        cases z'
        exact .inl ⟨hb,hk,rfl⟩
      · have z':=(if_neg hb).symm.trans z
        exact .inr (tabI b u z')
theorem walk_ofT {l:PySem.W.OpenLaw} {n k:Nat} {q:Program} {loose:List Str} {XP:(Str→Option Value)→Heap→Prop} {YP:World→Heap→Prop} {d:DefRec} {K:Params→PySem.W.Frag} {CX:World→CXT} {sp:World→Sp} {x:Str}
    (hn:l.most=some n) (hn2:n≤sizeLine) (hdf:d.params.defaults=[]) (him:importsNone q=true) (hr:Room k callerA)
    (hY:∀ (w:World) (h:Heap),YP w h→(K w.params).In h)
    (hT:∀ (w:World) (h:Heap),YP w h→∀ t∈qaB (K w.params),h.get? t.1=some (PySem.W.tabObj #[])∧(K w.params).lookup t.1=none∧isCodeTable h t.1) (hnd:∀ (w:World),∀ t∈qaB (K w.params),∀ u∈qaB (K w.params),t.1=u.1→t=u)
    (F:∀ (w:World) (mg:Str→Option Value) (fa:Addr) (h:Heap),(K w.params).In h→h.Ns mainGlobals mg→mg d.name=some (.ref fa) →
      ∃ fd:FuncData,(∀ (s:Shared) (u:Value),BindsTo s fd ⟨[u],[]⟩ [(x,u)]) ∧
        ∀ base:Heap,(K w.params).In base→base.Ns mainGlobals mg→FnOk l.prog w (K w.params) mg base (CX w) k fa fd [x] (sp w))
    (hsp:∀ (w:World) (H:Hp) (a:Addr) (ns:List Int),ns.length≤n→SqL (K w.params) H a (ns.map V.int)→TabF (K w.params) H→sp w [.ref a] H (fun v _=>v=.bl true) fun _ _ _=>False)
    (hCX:∀ (w:World) (H:Hp) (s:Shared) (e:Value) (s':Shared),CX w [] H s (fun _ _ _=>False) e s'→False) :
    PySem.W.WalkO q loose XP YP l.row.toRowW d [] (fun f vs=>PySem.call f vs):=by
  refine Att.attach_call hn hdf fun w s₀ s₁ mg mb fa o pm cd doc a vs ns G Y ho hd hcd hmg hobj hints hlen hg=>?_
  have KX:=hY w _ Y
  obtain ⟨fd,hb,hF⟩:=F w mg fa _ KX G.T.g hmg
  exact qgV KX G.T.g G.T.b G.T.builtins G.T.nolimit G.T.bmain (G.T.seer him) G.T.nodigits hg hobj hints (Nat.le_trans hlen hn2) hr hF hb (hT w _ Y) (hnd w) (fun H hS hTb=>hsp w H a ns hlen hS hTb) fun H e s'=>hCX w H s₁ e s'
end L2
namespace L2
open PySem PySem.W PyProof.Rows
section
variable {key : Nat → Int} {N : Nat} {p : Array Nat}
variable (hk : ∀ i j, i < N → j < N → key i = key j → i = j)
include hk
end
end L2
namespace L2
open PySem PySem.Spec PySem.W PyProof.Rows PySem.Calls
section
variable {prog : Program} {w : World} {A : Around} {E : Value → Shared → Prop} {s : Shared} {h₀ : Heap} {L a : Addr} {m : Str → Option Value} {news : List (Addr × Obj)} {vs : List Value}
end
end L2
namespace L2
open PySem PySem.Spec PySem.W PyProof.Rows PySem.Calls
section
variable {K : PySem.W.Frag} {X : Cx}
end
end L2
namespace L2
open PySem PySem.Spec PyProof.Rows
section
variable {X : Cx}
end
section
variable {K : PySem.W.Frag} {X : Cx} {e e2 : Expr} {te te2 : TD} {pos : Pos}
end
section
variable {K : PySem.W.Frag} {X : Cx}
end
section
variable {K : PySem.W.Frag} {X : Cx} {e ev : Expr} {te tv : TD} {pos : Pos}
end
section
variable {X : Cx}
end
section
variable {K : PySem.W.Frag} {X : Cx} {a b : Expr} {ta tb : TD} {apos cpos : Pos}
end
end L2
namespace L2
open PySem PySem.Spec PySem.W PyProof.Rows PySem.Calls
section
variable {K : PySem.W.Frag} {X : Cx}
end
end L2
namespace L2
open PySem PySem.Spec PyProof.Rows
section
variable {K : PySem.W.Frag} {X : Cx} {e ev : Expr} {te tv : TD} {tk : TDK} {pos p : Pos}
end
section
variable {K : PySem.W.Frag} {X : Cx} {a : Expr} {pos p p2 pos2 : Pos} {tl : TDL}
end
section
variable {K : PySem.W.Frag} {X : Cx} {e : Expr} {es : List Expr} {pos p : Pos} {tl : TDL} {te : TD} {tf : TDL} {sp : SpD} {CX : CXT} {k : Nat} {f : Addr} {fd : FuncData} {ps : List Str} {x : Str} {E : XK}
end
structure Cl (P:Program) (w:World) (K:PySem.W.Frag) (mg:Str→Option Value) (base:Heap) (n:Nat) (x:Str) (ps:List Str) (z:SpD):Prop where
  ex:∃ (f:Addr) (fd:FuncData),FnOk P w K mg base CX0 n f fd ps (lSp K z)∧Binds K fd ps []∧PySem.W.keepIn K (.ref f)=true∧mg x=some (.ref f)
section
variable {P : Program} {w : World} {K : PySem.W.Frag} {mg : Str → Option Value} {base : Heap} {n m : Nat} {x : Str} {ps : List Str} {z : SpD} {X : Cx} {e : Expr} {es : List Expr} {pos p : Pos} {tl : TDL} {st : Stmt} {f : Addr} {fd : FuncData} {h : Heap}
theorem Cl.mono (C:Cl P w K mg base n x ps z) (k:n≤m):Cl P w K mg base m x ps z:=by
  obtain ⟨f,fd,F,r⟩:=C.ex
  exact ⟨f,fd,F.mono k,r⟩
theorem Cl.of (F:Fun K x x st f fd) (b:Binds K fd ps []) (m:mg x=some (.ref f)) (H:FnOk P w K mg base CX0 n f fd ps (lSp K z)):Cl P w K mg base n x ps z:=⟨f,fd,H,b,F.kp,m⟩
theorem qaO (C:Cl X.prog X.w K X.mg X.base n x ps z) (hr:Room n X.A) (hg:Gl X x)
    (ha:PAD K X (e::es) tl) (he:starEach (e::es) X.env=(false,eval e X.env)::starEach es X.env) (hpl:(backTo pos (starEach es X.env)).any (·.1)=false) (hdb:(x == ("__debug__":Str))=false:=by decide) :
    PD K X (.Call (.Name x p) (e::es) [] pos) (qho z tl):=⟨fun hK=>by
  subst hK
  obtain ⟨f,fd,F,b,k,m⟩:=C.ex
  exact (qjP F hr hg m k b qcg ha he hpl hdb).pe rfl⟩
def dE (P:Params) (x:Str) (n:Nat) (v:Value):DictEntry:=⟨PyData.keyHash P x,.str x n,v⟩
def cO (n:Str) (a:Nat) (q:Str) (b c:Nat) (l m:Int) (k:Int) (r:Nat) (g:Int) (t:Nat) (x y:Value) (z:Nat) (i:Int) (d:Nat):Obj:=⟨.type "code",none,.fields #[.str n a,.str q b,.str "/claim/cut.py" c,.int l 0,.int m 0,.int 0 0,.int 0 0,.int k 0,.ref r,.bool true,.int g 0,.ref t,.none,x,y,.ref z,.int i 0,.int l 0,.str "/claim/cut.py" d],#[]⟩
def fO (s:Stmt) (n q m:Str) (i c:Nat):Obj:=⟨.type "function",none,.func (PySem.W.fnOf n q (qaW s) (qaI s) (qab s) .none .none .none (.str m i) none (.ref c) .none),#[]⟩
def Has (K:PySem.W.Frag) (s:Stmt) (x:Str):Prop:=∃ f m i c,PySem.W.nsIn K mainGlobals x=some (some (.ref f))∧K.lookup f=some (fO s x x m i c)∧PySem.W.codeIn K (.ref c) x=true
theorem Has.of {s:Stmt} {m:Str} {i c:Nat} (a:PySem.W.nsIn K mainGlobals x=some (some (.ref f))) (l:K.lookup f=some (fO s x x m i c)) (k:PySem.W.codeIn K (.ref c) x=true):Has K s x:=⟨f,m,i,c,a,l,k⟩
theorem Has.fn (a:Has K st x) (X:K.In h) (G:h.Ns mainGlobals mg):∃ f fd,Fun K x x st f fd∧mg x=some (.ref f)∧∃ m i c,fd=PySem.W.fnOf x x (qaW st) (qaI st) (qab st) .none .none .none (.str m i) none (.ref c) .none:=by
  obtain ⟨f,m,i,c,a,l,k⟩:=a
  exact ⟨f,_,qd9 l k (by unfold PySem.W.keepIn;simp only [l];rfl),PySem.W.mg_of X G a,m,i,c,rfl⟩
theorem Fun.cl (F:Fun K x x st f fd) (m:mg x=some (.ref f)) (H:FnOk P w K mg base CX0 n f fd ps (lSp K z))
    (b:∀ (kV doc pm:Value) (an:Option Addr) (cdv ct:Value) (us:List Value),us.length=ps.length→bindArgs (PySem.W.fnOf x x (qaW st) (qaI st) (qab st) .none kV doc pm an cdv ct) ⟨us,[]⟩=pure (ps.zip us)):Cl P w K mg base n x ps z:=.of F (F.binds b) m H
end
section
variable {K : PySem.W.Frag} {X : Cx} {n : Nat} {x : Str} {ps : List Str} {z : SpD} {e : Expr} {es : List Expr} {pos p : Pos} {tl : TDL}
end
section
variable {prog : Program} {w : World} {A : Around} {E : Value → Shared → Prop} {s : Shared}
end
section
variable {P : Program} {w : World} {H : Hp} {h h' : Heap} {a : Addr} {o : HO} {fs ex : List Addr}
end
section
variable {X : Cx} {a b : Expr} {p p2 pos pos2 : Pos}
theorem qb8 {α β:Type} {F:α→β→Prop}:∀ {l:List α} {m:List β} {j:Nat} {x:α} {y:β},Paired F l m→l[j]?=some x→m[j]?=some y→F x y
  | _,_,0,_,_,.cons r _,hx,hy=>by cases hx;cases hy;exact r
  | _,_,j+1,_,_,.cons _ t,hx,hy=>qb8 t hx hy
end
section
variable {K : PySem.W.Frag} {X : Cx} {a b : Expr} {p p2 pos pos2 : Pos} {tl : TDL}
end
end L2
namespace L2
open PySem PySem.Spec PySem.W PyProof.Rows PySem.Calls
section
variable {K : PySem.W.Frag} {X : Cx}
def CDivW (i j:Int):Prop:=j≠0∧j.natAbs.log2<9000
theorem qhi:OpR X (binaryOp .FloorDiv) (rI CDivW fun i j=>.int (i.fdiv j)):=opI fun i j _ _ _ _ _ hc q=>floordiv_int hc.1 q (.inl (PyProof.noPylong_of_log2 hc.2))
theorem qiv:OpD K X (binaryOp .FloorDiv) (zI CDivW fun i j=>.int (i.fdiv j)):=qhD qhi
theorem CDivW.of {i j:Int} (h0:j≠0) (h:j.natAbs<2 ^ 9000):CDivW i j:=⟨h0,qch (by decide) h⟩
end
theorem qbU {α β:Type} {F:α→β→Prop} {l2' l2:List β} (h:l2'.Perm l2):∀ {l1:List α},Paired F l1 l2→∃ l1',l1'.Perm l1∧Paired F l1' l2':=by
  induction h with
  | nil=>intro l1 p;exact ⟨l1,.refl _,p⟩
  | cons x _ ih =>
    intro l1 p
    cases p with
    | cons r t =>
      obtain ⟨l,a,b⟩:=ih t
      exact ⟨_::l,a.cons _,.cons r b⟩
  | swap x y l =>
    intro l1 p
    cases p with
    | cons r t =>
      cases t with
      | cons r2 t=>exact ⟨_,.swap _ _ _,.cons r2 (.cons r t)⟩
  | trans _ _ ih1 ih2 =>
    intro l1 p
    obtain ⟨l,a,b⟩:=ih2 p
    obtain ⟨l',a',b'⟩:=ih1 b
    exact ⟨l',a'.trans a,b'⟩
theorem Inv.listAt {X:Cx} {pins:List (Addr × Obj)} {σ:St} {H:Hp} {s:Shared} {h':Heap} {m:Str→Option Value} {Da kS:Addr} {vs:List V} {its:List Value} {c t':Nat} (I:Inv X pins σ H s) (hm:s.heap.Ns X.env.locals m) (hm':h'.Ns X.env.locals m)
    (fk:FpOk X pins H kS) (fa:FpOk X pins H Da) (keep:∀ b o,b≠X.env.locals→b≠kS→b≠Da→s.heap.get? b=some o→h'.get? b=some o) (hDo:h'.get? Da=some (seqObj "list" its.toArray c)) (rv:Vals vs its) (hz:vs.length≤sizeLine) :
    Inv X pins σ (upd H Da (.lst vs)) { s with heap:=h',toks:=t' }:=by
  have hn:=fa.1
  have nc:∀ b,b∉[kS,Da]→b≠kS∧b≠Da:=fun b h=>⟨fun e=>h (by simp [e]),fun e=>h (by simp [e])⟩
  refine I.step (H':=upd H Da (.lst vs)) (h':=h') (g':=s.gens) (t':=t') (d':=s.drawn) (ch:=[kS,Da]) (fun b z=>?_) (fun b o hL _ hc e _=>keep b o hL (nc b hc).1 (nc b hc).2 e) (fun b o hL _ hc e _=>⟨o.slots,keep b o hL (nc b hc).1 (nc b hc).2 e⟩) (fun b o hc e n=>?_) (fun b o hc e=>?_)
    (fun b xs e=>by rw [qad (qak e hn)];exact e) (fun b o u e=>by rw [qad (qak e hn)];exact e) (fun b ps e=>by rw [qad (qak e hn)];exact e) (fun m' h2=>?_) (fun b u e=>?_) I.bare
  · simp at z
    rcases z with rfl | rfl
    · exact ⟨fk.2.2.2.1,fk.2.1,fk.2.2.2.2.1,fk.2.2.2.2.2⟩
    · exact ⟨fa.2.2.2.1,fa.2.1,fa.2.2.2.2.1,fa.2.2.2.2.2⟩
  · rw [qad (nc b hc).2];exact n
  · by_cases hL:b=X.env.locals
    · obtain ⟨o',_,_,ho',_⟩:=hm'
      exact ⟨o',by rw [hL];exact ho'⟩
    · exact ⟨o,keep b o hL (nc b hc).1 (nc b hc).2 e⟩
  · rw [h2.eq_nsMap,← hm.eq_nsMap]
    exact hm'
  · by_cases hb:b=Da
    · subst hb
      rw [qac] at e
      cases e
      exact ⟨hz,its,c,rv,hDo⟩
    · rw [qad hb] at e
      have tr:∀ d x,H d=some x→d≠X.env.locals∧d≠kS∧d≠Da:=fun d x e=>⟨(fun z=>by rw [z,I.free] at e;cases e),(fun z=>by rw [z,fk.1] at e;cases e),(fun z=>by rw [z,hn] at e;cases e)⟩
      refine (I.hok b u e).stay (fun d v hc q=>?_) (fun d q=>by rw [qad (qak q hn)];exact q) (fun d xs q=>by rw [qad (qak q hn)];exact q) fun d ob w q=>by rw [qad (qak q hn)];exact q
      rcases hc with z | z
      · obtain ⟨a1,a2,a3⟩:=tr b u e
        rw [z] at q ⊢
        exact keep b v a1 a2 a3 q
      · obtain ⟨a1,a2,a3⟩:=tr d _ z
        exact keep d v a1 a2 a3 q
theorem qdt {ks:List Int}:∀ {ks:List Int} {xs:List V} {its:List Value},Vals xs its→Paired (fun (q:Int × V) (p:Int × Value)=>q.1=p.1∧RelV q.2 p.2) (ks.zip xs) (ks.zip its)
  | [],_,_,_=>by rw [List.zip_nil_left,List.zip_nil_left];exact .nil
  | k::ks,_,_,.nil=>by rw [List.zip_nil_right,List.zip_nil_right];exact .nil
  | k::ks,_,_,.cons r t=>by rw [List.zip_cons_cons,List.zip_cons_cons];exact .cons ⟨rfl,r⟩ (qdt (ks:=ks) t)
theorem qce:∀ {qs:List (Int × V)} {ps:List (Int × Value)},Paired (fun (q:Int × V) (p:Int × Value)=>q.1=p.1∧RelV q.2 p.2) qs ps→Vals (qs.map (·.2)) (ps.map (·.2))∧qs.map (·.1)=ps.map (·.1)
  | _,_,.nil=>⟨.nil,rfl⟩
  | _,_,.cons r t=>⟨.cons r.2 (qce t).1,by rw [List.map_cons,List.map_cons,r.1,(qce t).2]⟩
section
variable {X : Cx} {pins : List (Addr × Obj)} {σ : St} {H : Hp} {xs : List V} {l f : Addr} {fob : Obj} {kf : Nat → Int} {G : Hp → Prop} {s : Shared} {Q : Value → Shared → Prop} {E : Value → Shared → Prop}
theorem qhk (hfo:∀ v,fob.data≠.cell v) (ff:FpOk X pins H f) (IV:Inv X pins σ H s) (g0:G H) (of:s.heap.get? f=some fob)
    (hl:H l=some (.lst xs)) (h64:xs.length<64)
    (turn:∀ (i:Nat) (x:V) (u:Value) (s:Shared) (H':Hp) (pl:List (Addr × Obj)),xs[i]?=some x→RelV x u→G H'→s.heap.get? f=some fob→Inv X pl σ H' s →
      wpAny (model X.prog X.w) X.A.in1.in1 (call (.ref f) [u]) (EP X pl σ fun v H2=>v=.int (kf i)∧G H2) (fun _ _=>False) s)
    (hQ:∀ (qs:List (Int × V)) (a:Addr) (s:Shared) (H':Hp),qs.Perm (((List.range xs.length).map kf).zip xs)→qs.Pairwise (fun p q=>q.1≤p.1)→G H'→H' a=none→Inv X pins σ (upd H' a (.lst (qs.map (·.2)))) s→Q (.ref a) s) :
    wpAny (model X.prog X.w) X.A (call (.builtin "sorted") [.ref l] [(Str.ofString "key",.ref f),(Str.ofString "reverse",.bool true)]) Q E s:=by
  obtain ⟨hz,its,n,rvs,e1,e2⟩:=IV.lstM hl
  have hls:s.heap.IsList l its.toArray:=⟨_,e2,rfl,_,rfl⟩
  have h64':its.length<64:=by omega
  refine call_function_entry_kw kind_sorted plain_sorted entry_sorted (ksk_s2 _ _ _) ?_
  unfold Builtin.«sorted»
  refine wpAny_bind (m:=checkCount "sorted" 1 1 _) (wpAny_pure ?_)
  refine wpAny_bind (collect_list hls ?_ (by rw [sizeLine_eq];omega))
  refine wpAny_bind (wpAny_newList ?_ (by rw [sizeLine_eq];omega))
  have hsz:((s.heap.push (seqObj "list" #[] 0)).update s.heap.objs.size (Obj.mapSeq (·++its.toArray))).objs.size=s.heap.objs.size+1:=by
    rw [Heap.size_update,size_push']
  have hoL:(((s.heap.push (seqObj "list" #[] 0)).update s.heap.objs.size (Obj.mapSeq (·++its.toArray))).push (seqObj "list" its.toArray 0)).get? (s.heap.objs.size+1)=some (seqObj "list" its.toArray 0):=by
    rw [← hsz];exact Heap.get?_push_size _ rfl
  have keep:∀ b o,s.heap.get? b=some o→(((s.heap.push (seqObj "list" #[] 0)).update s.heap.objs.size (Obj.mapSeq (·++its.toArray))).push (seqObj "list" its.toArray 0)).get? b=some o:=fun b o q=>by
    have hlt:b<s.heap.objs.size:=Heap.lt_size q
    rw [Heap.get?_push_ne _ _ _ (by rw [hsz];exact Nat.ne_of_lt (Nat.lt_succ_of_lt hlt)),Heap.get?_update_ne _ _ _ _ (Nat.ne_of_lt hlt),Heap.get?_push_ne _ _ _ (Nat.ne_of_lt hlt)]
    exact q
  show wpAny _ _ _ _ _ { s with heap:=((s.heap.push (seqObj "list" #[] 0)).update s.heap.objs.size (Obj.mapSeq (·++its.toArray))).push (seqObj "list" its.toArray 0) }
  rw [hsz]
  generalize ((s.heap.push (seqObj "list" #[] 0)).update s.heap.objs.size (Obj.mapSeq (·++its.toArray))).push (seqObj "list" its.toArray 0)=h1 at hoL keep
  have I1:Inv X pins σ H { s with heap:=h1 }:=IV.kept (t':=s.toks) keep
  have fa:FpOk X pins H (s.heap.objs.size+1):=IV.fpOk (Nat.le_succ _) (IV.hok.fresh (Nat.le_succ _))
  generalize ea:s.heap.objs.size+1=a at hoL fa
  have ofa:f≠a:=by rw [← ea];exact Nat.ne_of_lt (Nat.lt_succ_of_lt (Heap.lt_size of))
  refine wpAny_bind (wpAny_holding (wpAny_call_entry_kw slot_list_sort ⟨_,hoL,rfl⟩ entry_list_sort ?body (ksk_l2 _ _ _)))
  case body =>
    show wpAny (model X.prog X.w) X.A.in1.in1 (Builtin.«list.sort» ⟨[.ref a],[(Str.ofString "key",.ref f),(Str.ofString "reverse",.bool true)]⟩) _ _ _
    rw [ksk_t2]
    unfold ksk_tree
    refine wpAny_bind (listItems_at hoL rfl ?_)
    have s1:=Heap.SameBut.update h1 a (Obj.mapSeq fun _=>(#[]:Array Value))
    obtain ⟨w1,ho1⟩:∃ w1,(h1.update a (Obj.mapSeq fun _=>(#[]:Array Value))).get? a=some (seqObj "list" #[] w1):=⟨_,get?_update_seq hoL fun _=>#[]⟩
    refine wpAny_bind (listUpdate_at hoL rfl ?_ (by rw [List.size_toArray,sizeLine_eq];omega) (Nat.zero_le _))
    refine wpAny_bind (seqEpoch_at ho1 rfl ?_)
    refine wpAny_bind (wpAny_newTuple ?_ (by show its.length≤_;rw [sizeLine_eq];omega))
    refine wpAny_bind (wpAny_newList ?_ (Nat.zero_le _))
    refine wpAny_holding ?_
    have I2:Inv X pins σ H { s with heap:=h1.update a (Obj.mapSeq fun _=>(#[]:Array Value)) }:=I1.turnedL (t':=s.toks) (ch:=[a]) (fun b o hb e=>(s1.2 b (fun z=>hb (by simp [z]))).trans e) (fun b hb=>by rw [List.mem_singleton.mp hb];exact fa)
    have hlt2:=Heap.lt_size ho1
    show wpAny (model X.prog X.w) X.A.in1.in1 (ksk_rest a (.ref f) true its.toArray w1 (.ref ((h1.update a (Obj.mapSeq fun _=>(#[]:Array Value))).push (seqObj "tuple" its.toArray 0)).objs.size)) _ _ { s with heap:=((h1.update a (Obj.mapSeq fun _=>(#[]:Array Value))).push (seqObj "tuple" its.toArray 0)).push (seqObj "list" #[] 0) }
    have of2:(h1.update a (Obj.mapSeq fun _=>(#[]:Array Value))).get? f=some fob:=(s1.2 f ofa).trans (keep f _ of)
    generalize h1.update a (Obj.mapSeq fun _=>(#[]:Array Value))=h2 at I2 ho1 hlt2 of2
    have I3:Inv X pins σ H { s with heap:=h2.push (seqObj "tuple" its.toArray 0) }:=I2.kept (t':=s.toks) fun b o e=>Heap.get?_push_of_some _ e
    have ho3:=Heap.get?_push_of_some (seqObj "tuple" its.toArray 0) ho1
    have of3:=Heap.get?_push_of_some (seqObj "tuple" its.toArray 0) of2
    generalize h2.push (seqObj "tuple" its.toArray 0)=h3 at I3 ho3 of3
    have fk:FpOk X pins H h3.objs.size:=I3.fpOk (Nat.le_refl _) I3.fresh
    have hka:h3.objs.size≠a:=Nat.ne_of_gt (Heap.lt_size ho3)
    have hkf:h3.objs.size≠f:=Nat.ne_of_gt (Heap.lt_size of3)
    have I4:Inv X pins σ H { s with heap:=h3.push (seqObj "list" #[] 0) }:=I3.kept (t':=s.toks) fun b o e=>Heap.get?_push_of_some _ e
    have ok4:(h3.push (seqObj "list" #[] 0)).get? h3.objs.size=some (seqObj "list" #[] 0):=Heap.get?_push_size _ rfl
    have ho4:=Heap.get?_push_of_some (seqObj "list" #[] 0) ho3
    have of4:=Heap.get?_push_of_some (seqObj "list" #[] 0) of3
    generalize h3.push (seqObj "list" #[] 0)=h4 at I4 ok4 ho4 of4
    generalize h3.objs.size=kS at fk hka hkf ok4
    have ncell:∀ (kA:Array Value) (e:Nat) (v:Option Value),(seqObj "list" kA e).data≠.cell v:=fun kA e v z=>by cases z
    have on:∀ {kA:Array Value} {e:Nat} {H':Hp} {s':Shared},Inv X pins σ H' s'→H' kS=none→H' a=none→H' f=none→s'.heap.get? kS=some (seqObj "list" kA e)→s'.heap.get? a=some (seqObj "list" #[] w1)→s'.heap.get? f=some fob →
        Inv X (pins++[(kS,seqObj "list" kA e),(a,seqObj "list" #[] w1),(f,fob)]) σ H' s':=fun {kA e H' s'} I n1 n2 n3 o1 o2 o3=>I.pins_of fun p hp=>by
      rcases List.mem_append.mp hp with hp | hp
      · exact I.pin p (List.mem_append_right _ hp)
      · simp only [List.mem_cons,List.not_mem_nil,or_false] at hp
        rcases hp with rfl | rfl | rfl
        · exact ⟨o1,n1,fk.2.1,fk.2.2.1,ncell _ _⟩
        · exact ⟨o2,n2,fa.2.1,fa.2.2.1,ncell _ _⟩
        · exact ⟨o3,n3,ff.2.1,ff.2.2.1,hfo⟩
    have off:∀ {kA:Array Value} {e:Nat} {H':Hp} {s':Shared},Inv X (pins++[(kS,seqObj "list" kA e),(a,seqObj "list" #[] w1),(f,fob)]) σ H' s'→Inv X pins σ H' s'∧(s'.heap.get? kS=some (seqObj "list" kA e)∧H' kS=none)∧(s'.heap.get? a=some (seqObj "list" #[] w1)∧H' a=none)∧s'.heap.get? f=some fob∧H' f=none:=fun {kA e H' s'} I=>by
      have q:=fun p hp=>I.pin p (List.mem_append_right _ hp)
      refine ⟨I.pins_of fun p hp=>q p (List.mem_append_left _ hp),?_,?_,?_⟩
      · have:=q (kS,seqObj "list" kA e) (List.mem_append_right _ (by simp));exact ⟨this.1,this.2.1⟩
      · have:=q (a,seqObj "list" #[] w1) (List.mem_append_right _ (by simp));exact ⟨this.1,this.2.1⟩
      · have:=q (f,fob) (List.mem_append_right _ (by simp));exact ⟨this.1,this.2.1⟩
    have hkl:((List.range xs.length).map kf).length=its.length:=by rw [List.length_map,List.length_range,e1]
    unfold ksk_rest
    refine wpAny_bind (wpAny_rule ?_)
    first
      | rw [List.forIn_toArray]
      | (rw [← Array.forIn_toList];simp only [List.toList_toArray])
      | rw [← Array.forIn_toList]
    refine wpAny_bind (ksk_fold (fun i s'=>∃ H' kA e,Inv X (pins++[(kS,seqObj "list" kA e),(a,seqObj "list" #[] w1),(f,fob)]) σ H' s'∧G H'∧IntsAre kA.toList (((List.range xs.length).map kf).take i)) its 0 _
      ⟨H,#[],0,on I4 fk.1 fa.1 ff.1 ok4 ho4 of4,g0,by simpa using IntsAre.nil⟩ ?step ?done)
    case step =>
      rintro j u s' hu ⟨H',kA,e,Ij,gj,hk⟩
      simp only [Nat.zero_add] at hk ⊢
      have hj:j<its.length:=(List.getElem?_eq_some_iff.mp hu).1
      have hjx:j<xs.length:=by omega
      have rxu:=qb8 rvs (qas hjx) hu
      have hz:kA.size≤its.length:=by
        have h1:=hk.length
        rw [Array.length_toList,List.length_take] at h1
        omega
      obtain ⟨_,_,_,of',_⟩:=off Ij
      refine wpAny_bind (wpAny_attempt (wpAny_mono (turn j _ u s' H' _ (qas hjx) rxu gj of' Ij) (fun v s'' he=>?_) fun _ _ hF=>hF.elim))
      obtain ⟨v',H2,I2',r,rfl,g2⟩:=he
      obtain ⟨t2,rfl⟩:=r
      obtain ⟨Ip,⟨ok,nk⟩,⟨oa,na⟩,of2',nf⟩:=off I2'
      try dsimp only
      have s5:=Heap.SameBut.update s''.heap kS (Obj.mapSeq (·.push (.int (kf j) t2)))
      obtain ⟨c2,hc2⟩:∃ c2,(s''.heap.update kS (Obj.mapSeq (·.push (.int (kf j) t2)))).get? kS=some (seqObj "list" (kA.push (.int (kf j) t2)) c2):=⟨_,get?_update_seq ok (·.push (.int (kf j) t2))⟩
      have ek:((List.range xs.length).map kf).take (j+1)=((List.range xs.length).map kf).take j++[kf j]:=by
        rw [List.take_add_one,List.getElem?_map,List.getElem?_range hjx];rfl
      have ea2:(kA.push (Value.int (kf j) t2)).toList=kA.toList++[Value.int (kf j) t2]:=by simp
      refine wpAny_bind (listUpdate_at ok rfl ?_ (by rw [sizeLine_eq];omega) (Nat.le_trans (Nat.le_of_eq (Array.size_push ..)) (by rw [sizeLine_eq];omega)))
      refine wpAny_pure ⟨rfl,H2,kA.push (.int (kf j) t2),c2,?_,g2,by rw [ea2,ek];exact ksk_snoc hk⟩
      have Iu:Inv X pins σ H2 { s'' with heap:=s''.heap.update kS (Obj.mapSeq (·.push (.int (kf j) t2))) }:=Ip.turnedL (t':=s''.toks) (ch:=[kS]) (fun b o hb e=>(s5.2 b (fun z=>hb (by simp [z]))).trans e) (fun b hb=>by rw [List.mem_singleton.mp hb];exact fk.to nk)
      exact on Iu nk na nf hc2 ((s5.2 a hka.symm).trans oa) ((s5.2 f hkf.symm).trans of2')
    case done =>
      rintro s' ⟨H2,kA,e,I5,g5,hk⟩
      have hk':IntsAre kA.toList ((List.range xs.length).map kf):=by
        have e3:((List.range xs.length).map kf).take (0+its.length)=(List.range xs.length).map kf:=List.take_of_length_le (by omega)
        rw [e3] at hk
        exact hk
      obtain ⟨Ip,⟨ok,nk⟩,⟨oa,na⟩,of2',nf⟩:=off I5
      try dsimp only
      refine wpAny_bind (listItems_at ok rfl ?_)
      obtain ⟨m,hm,_⟩:=id Ip.loc
      have F:=Att.fr_all hm
      refine ksk_end_ (e:=e) (news:=(qdJ (Att.noObjs s'.heap) s'.heap X.env.locals).filter fun p=>decide (p.1≠kS) && decide (p.1≠a)) F (fun p hp=>?_) hka (fun p hp=>?_) (fun p hp=>?_) hk' hkl h64' fun h6 tk out c F6 N6 k6=>⟨_,rfl,?_⟩
      · rcases List.mem_append.mp hp with hp | hp
        · exact qhO p (List.mem_filter.mp hp).1
        · simp only [List.mem_cons,List.not_mem_nil,or_false] at hp
          rcases hp with rfl | rfl
          · exact ⟨ok,fk.2.1,Att.noObjs_get _ _⟩
          · exact ⟨oa,fa.2.1,Att.noObjs_get _ _⟩
      · have:=(List.mem_filter.mp hp).2
        simp at this
        exact this.1
      · have:=(List.mem_filter.mp hp).2
        simp at this
        exact this.2
      obtain ⟨ps,pp,po,pw⟩:=k6
      obtain ⟨qs,qp,qr⟩:=qbU pp (qdt (ks:=[]) rvs)
      obtain ⟨vv,kk⟩:=qce qr
      have hql:qs.length≤sizeLine:=by rw [qp.length_eq,List.length_zip,hkl,sizeLine_eq];omega
      refine wpAny_pure ⟨_,rfl,hQ qs a _ H2 qp ?_ g5 na (Ip.listAt (kS:=kS) (c:=c) hm F6.ns (fk.to nk) (fa.to na) (fun b o b1 b2 b3 e=>(N6 (b,o) (List.mem_cons_of_mem _ (List.mem_filter.mpr ⟨qeD b1 (Att.noObjs_get _ _) e,by simp [b2,b3]⟩))).1) (its:=ps.map (·.2)) ?_ vv (by rw [List.length_map];exact hql))⟩
      · have:(qs.map (·.1)).Pairwise fun x y=>y≤x:=by
          rw [kk]
          exact List.pairwise_map.mpr (pw.imp fun h=>by simpa using h)
        exact List.pairwise_map.mp this
      · have:=(N6 _ List.mem_cons_self).1
        have eo:out=(ps.map (·.2)).toArray:=by rw [← po]
        rw [eo] at this
        exact this
end
end L2
namespace L2
open PySem PySem.Spec PyProof.Rows
def qhn (tl:TD) (cap:List (Option Nat)) (tb:TD):TD:=fun ρ R=>tl ρ fun d=>match d with
  | .lst ds=>ds.length<64∧∃ kf:Nat→Int,(∀ i e,ds[i]?=some e→tb ((qeC (none::cap) ρ).set 0 (some (.v e))) fun r=>r=.int (kf i)) ∧
      ∀ qs:List (Int × D),qs.Perm (((List.range ds.length).map kf).zip ds)→qs.Pairwise (fun p q=>q.1≤p.1)→R (.lst (qs.map (·.2)))
  | _=>False
theorem qcX {K:PySem.W.Frag} {Φ:Hp}:∀ {ks:List Int} {ds:List D} {vs:List V},Paired (Rp K Φ) ds vs→Paired (fun (q:Int × D) (p:Int × V)=>q.1=p.1∧Rp K Φ q.2 p.2) (ks.zip ds) (ks.zip vs)
  | [],_,_,_=>by rw [List.zip_nil_left,List.zip_nil_left];exact .nil
  | k::ks,_,_,.nil=>by rw [List.zip_nil_right,List.zip_nil_right];exact .nil
  | k::ks,_,_,.cons r t=>by rw [List.zip_cons_cons,List.zip_cons_cons];exact .cons ⟨rfl,r⟩ (qcX (ks:=ks) t)
theorem qbX {K:PySem.W.Frag} {Φ:Hp}:∀ {qs:List (Int × D)} {ps:List (Int × V)},Paired (fun (q:Int × D) (p:Int × V)=>q.1=p.1∧Rp K Φ q.2 p.2) qs ps→Paired (Rp K Φ) (qs.map (·.2)) (ps.map (·.2))∧qs.map (·.1)=ps.map (·.1)
  | _,_,.nil=>⟨.nil,rfl⟩
  | _,_,.cons r t=>⟨.cons r.2 (qbX t).1,by rw [List.map_cons,List.map_cons,r.1,(qbX t).2]⟩
theorem RpL.paired {K:PySem.W.Frag} {Φ:Hp} {ds:List D} {vs:List V} (h:RpL K Φ ds vs):Paired (Rp K Φ) ds vs:=qcT h.1.symm fun i x y hx hy=>h.2 i y x hy hx
theorem RpL.of_paired {K:PySem.W.Frag} {Φ:Hp} {ds:List D} {vs:List V} (h:Paired (Rp K Φ) ds vs):RpL K Φ ds vs:=⟨h.length.symm,fun i v d hv hd=>qb8 h hd hv⟩
section
variable {K : PySem.W.Frag} {X : Cx} {l body : Expr} {tl tb : TD} {scope : Scope} {p : Str} {r : List Str} {cap : List (Option Nat)} {params : Arguments} {np pos lp kp1 kp2 kp3 : Pos} {c P : Addr} {j : Nat}
theorem qf7 (hr:Room 1 X.A) (hg:Gl X "sorted") (hm:X.mg "sorted"=none) (hl:PQ K X l tl) (S:CompScope X.N X.env.scope scope (p::r) (none::cap)) (hcap:qc4 1 (none::cap)=true)
    (hpl:scope.names.lookup p=some .local) (hco:scope.isCoroutine=false) (hgen:scope.isGenerator=false) (hdef:defaultsOf params X.env=([],[]))
    (hbind:∀ (qual:Str) (cl:List (Str × Addr)) (pm cd ctv u:Value),bindArgs (PySem.W.kla_fn "<lambda>" qual params body scope cl pm cd ctv) ⟨[u],[]⟩=pure [(p,u)])
    (hcode:X.env.code=.ref c) (hC:PySem.W.codeHdIn X.K c P=true) (ht:(P,#[rawInt lp.line,rawInt lp.col,.str (X.env.qual++"<lambda>") 0])∈qaB K)
    (hb:∀ (A:Around) (cl:List (Str × Addr)) (f:Addr) (cd:Value) (s0:Shared) (H0:Hp),PD K (qgk X A scope (p::r) cl f (X.env.qual++"<lambda>") cd s0 H0) body tb)
    (he:starEach [l] X.env=[(false,eval l X.env)]) (hnc:∀ y∈scope.names,y.2≠.cell:=by decide) :
    PD K X (.Call (.Name "sorted" np) [l] [⟨some "key",.Lambda params body scope lp,kp1⟩,⟨some "reverse",.Constant (.bool true) j kp2,kp3⟩] pos) (qhn tl cap tb):=⟨fun hK=>by
  subst hK
  intro pins s σ H Q I ⟨H0,Φ,ρ,R,V,t,k⟩
  refine wpAny_Call_Name_kw (qcS I hg hm boot_sorted ?_)
  have he':backTo pos (starEach [l] X.env)=(false,eval l X.env)::backTo pos (starEach [] X.env):=by rw [he];rfl
  refine callWith_kw (thn (qam (hl.pe rfl) pa_nil (by rw [he];rfl) pos pins s σ H (fun vs H1=>∃ x ds Φ1,vs=[x]∧Gr Φ H Φ1 H1∧RpQ X.K Φ1 H1 (.lst ds) x∧ds.length<64∧∃ kf:Nat→Int,(∀ i e,ds[i]?=some e→tb ((qeC (none::cap) ρ).set 0 (some (.v e))) fun r=>r=.int (kf i)) ∧
      ∀ qs:List (Int × D),qs.Perm (((List.range ds.length).map kf).zip ds)→qs.Pairwise (fun p q=>q.1≤p.1)→R (.lst (qs.map (·.2)))) I ⟨H0,Φ,ρ,_,V,t,fun d Φ1 H1 v r g rv=>?_⟩) fun us s1 ⟨vs,H1,I1,r1,q1⟩=>?_) he' (by rw [he'];rfl)
  · cases d with
    | lst ds=>exact ⟨v,ds,Φ1,rfl,g,rv,r⟩
    | _=>exact r.elim
  · obtain ⟨x,ds,Φ1,rfl,g1,rq,h64,kf,hk1,hk2⟩:=q1
    obtain ⟨a,xs,rfl,hxs,rl⟩:=rq.lst g1.s
    cases r1 with
    | cons r rr =>
    cases rr
    cases r
    have V1:=V.gr g1
    have hP:=g1.s _ _ (V1.tb _ ht)
    refine kws_cons (qhd hP hcode hC hdef I1 S.free fun f c' cl pm ctv o vs t' H2 s2 hcl hfr hH I2 of ff hc hod hv hsz=>?_)
    refine kws_cons (Constant_bool (kws_nil ?_))
    show wpAny _ X.A (call (.builtin "sorted") [.ref a] [(Str.ofString "key",.ref f),(Str.ofString "reverse",.bool true)]) _ _ _
    have g2:Gr Φ1 H1 Φ1 H2:=by
      rcases hH with rfl | ⟨b,u,hb0,_,rfl⟩
      · exact .refl g1.s
      · exact .fresh g1.s hb0 _
    refine qhk (kf:=kf) (G:=fun H'=>∃ Φ',Gr Φ1 H2 Φ' H') (fun v z=>by cases z) ff I2 ⟨Φ1,.refl g2.s⟩ of (g2.h _ _ hxs) (by rw [rl.1];exact h64) (fun i x u s3 H3 pl hx ru ⟨Φ3,g3⟩ of3 I3=>?_) fun qs a' s3 H3 qp qo ⟨Φ3,g3⟩ hn I3=>?_
    · obtain ⟨e,hei,re⟩:=rl.at' hx
      have hc3:=g3.h _ _ hc
      obtain ⟨o3,_⟩:=(show ObjOk X.prog X.w H3 s3.heap c' (.frz o (.own P)) from I3.hok c' _ hc3)
      have V3:=((V1.gr g2).gr g3).cap (qee hcap)
      refine qhA hnc S hpl (show X.A.in1.in1.frames=some X.stack from I.ok.frames) (show X.A.in1.in1.handled=none from hr.hd) (show X.A.in1.in1.depth<recursionLimit from hr.depth) I3 hcl hfr of3 ⟨c',o,vs,t',rfl,o3,hod,hv⟩ (hbind _ _ _ _ _ u) hco hgen ((hb _ _ _ _ _ _).pe rfl) ru
        ⟨H0,Φ3,_,_,V3.set (re.same (g2.f.trans g3.f)) 0,hk1 i e hei,fun d Φ4 H4 v r g4 rv=>?_⟩
      subst r
      cases rv
      exact ⟨rfl,Φ4,g3.trans g4⟩
    · have hl3:=rl.1
      obtain ⟨es,ep,er⟩:=qbU qp (qcX ((rl.same (g2.f.trans g3.f)).paired))
      obtain ⟨pr,kk⟩:=qbX er
      have g4:=Gr.new g3.s hn (.lst (qs.map (·.2)))
      have po:es.Pairwise fun p q=>q.1≤p.1:=by
        have:(es.map (·.1)).Pairwise fun x y=>y≤x:=by
          rw [kk]
          exact List.pairwise_map.mpr qo
        exact List.pairwise_map.mp this
      rw [hl3] at ep
      exact ⟨.ref a',_,I3,rfl,k _ _ _ _ (hk2 es ep po) (((g1.trans g2).trans g3).trans g4) (((RpL.of_paired pr).same g4.f).lst qac)⟩⟩
end
theorem qc2 {K:PySem.W.Frag} {t:Addr × Array Value} (h2:qeT K "greatest_first"=some t) (h1:qeT K "least_grown"=none):qaB K=[t]:=by
  unfold qaB
  simp [h1,h2]
def qjD (r r':RD2) (ta tb tc:TD):TDB:=fun ρ R=>ta ρ fun x=>tb ρ fun y=>r x y fun z=>match z with
  | .bl k=>(k=true→tc ρ fun w=>r' y w fun d=>match d with | .bl b=>R b | _=>False)∧(k=false→R false)
  | _=>False
section
variable {K : PySem.W.Frag} {X : Cx} {a b c : Expr} {ta tb tc : TD} {pos : Pos}
theorem qiM {op op':CmpOp} {r r':RD2} (ho:OpD K X (compareOp op) r) (ho':OpD K X (compareOp op') r') (ha:PQ K X a ta) (hb:PQ K X b tb) (hc:PQ K X c tc) (hm:lastMarks [op,op'] [b,c]=false) :
    PTD K X (.Compare a [op,op'] [b,c] pos) (qjD r r' ta tb tc):=⟨fun hK=>(qhT (ho.o hK) (ho'.o hK) (ha.pe hK) (hb.pe hK) (hc.pe hK) hm).imp fun σ H Q h=>by
  obtain ⟨H0,Φ,ρ,R,E,t,k⟩:=h
  refine ⟨H0,Φ,ρ,_,E,t,fun dx Φ1 H1 x t1 g1 rx=>⟨H0,Φ1,ρ,_,E.gr g1,t1,fun dy Φ2 H2 y t2 g2 ry=>⟨Φ2,dx,dy,_,g2.s,rx.gr g2,ry,t2,fun d Φ3 H3 v r3 g3 rr=>?_⟩⟩⟩
  cases d with
  | bl kk =>
    cases rr
    refine ⟨kk,rfl,?_⟩
    have g:=(g1.trans g2).trans g3
    cases kk with
    | false=>exact ite_ff ⟨false,rfl,k false Φ3 H3 (r3.2 rfl) g⟩
    | true =>
      refine ite_tt ⟨H0,Φ3,ρ,_,E.gr g,r3.1 rfl,fun dz Φ4 H4 w t4 g4 rw=>⟨Φ4,dy,dz,_,g4.s,(ry.gr g3).gr g4,rw,t4,fun d5 Φ5 H5 v5 r5 g5 rr5=>?_⟩⟩
      cases d5 with
      | bl b5=>cases rr5;exact ⟨b5,rfl,k b5 Φ5 H5 r5 ((g.trans g4).trans g5)⟩
      | _=>exact r5.elim
  | _=>exact r3.elim⟩
end
section
variable {prog : Program} {w : World} {A : Around} {E : Value → Shared → Prop} {s : Shared}
end
section
variable {K : PySem.W.Frag} {X : Cx}
end
end L2
namespace Kx
open PySem L2
section
variable {P : Program} {w : World} {K : PySem.W.Frag} {mg : Str → Option Value} {base : Heap}
def top (i:Nat):Stmt:=PySem.Challenge.pw_cutyard_k38_regained.main.body.getD i (.Pass ⟨0,0,0,0⟩)
abbrev qiu:Stmt:=top 0
abbrev qb9:Stmt:=top 2
theorem qfv:FnScope ["top","bottom"] ["top","bottom"] (qab qb9):=⟨rfl,rfl,rfl,by decide +kernel,rfl,by decide +kernel,by decide +kernel⟩
abbrev qey:Stmt:=top 4
theorem qiD:FnScope ["n","place"] ["n","place"] (qab qey):=⟨rfl,rfl,rfl,by decide +kernel,rfl,by decide +kernel,by decide +kernel⟩
abbrev qer:Stmt:=top 5
theorem qit:FnScope ["entries","spot"] ["entries","spot"] (qab qer):=⟨rfl,rfl,rfl,by decide +kernel,rfl,by decide +kernel,by decide +kernel⟩
abbrev qeh:Stmt:=top 7
theorem qi8:FnScope ["entries","times","others"] ["entries","times","others"] (qab qeh):=⟨rfl,rfl,rfl,by decide +kernel,rfl,by decide +kernel,by decide +kernel⟩
abbrev qaU:Stmt:=top 9
theorem sc_plain_basis:FnScope ["n","units"] ["n"] (qab qaU):=⟨rfl,rfl,rfl,by decide +kernel,rfl,by decide +kernel,by decide +kernel⟩
abbrev qag:Stmt:=top 11
theorem sc_greatest_first:FnScope ["numbers","places"] ["numbers"] (qab qag):=⟨rfl,rfl,rfl,by decide +kernel,rfl,by decide +kernel,by decide +kernel⟩
abbrev qb2:Stmt:=top 12
theorem sc_gather:FnScope ["basis","many","entries","numbers","places","times"] ["basis","many","entries"] (qab qb2):=⟨rfl,rfl,rfl,by decide +kernel,rfl,by decide +kernel,by decide +kernel⟩
abbrev qcN:Stmt:=top 13
theorem sc_levels:FnScope ["n","lists","basis","many","entries","place"] ["n","lists"] (qab qcN):=⟨rfl,rfl,rfl,by decide +kernel,rfl,by decide +kernel,by decide +kernel⟩
abbrev qbf:Stmt:=top 15
theorem sc__law_mixed:FnScope ["_law_cell","_law_k","_law_one"] ["_law_cell","_law_k"] (qab qbf):=⟨rfl,rfl,rfl,by decide +kernel,rfl,by decide +kernel,by decide +kernel⟩
abbrev qbb:Stmt:=top 16
theorem sc__law_draws:FnScope ["_law_script","_law_at","_law_sizes","_law_cell","_law_rest","_law_drawn","_law_k","_law_size","_law_one"] ["_law_script","_law_at","_law_sizes"] (qab qbb):=⟨rfl,rfl,rfl,by decide +kernel,rfl,by decide +kernel,by decide +kernel⟩
abbrev qba:Stmt:=top 17
theorem qd1:FnScope ["_law_seen"] ["_law_seen"] (qab qba):=⟨rfl,rfl,rfl,by decide +kernel,rfl,by decide +kernel,by decide +kernel⟩
abbrev qaV:Stmt:=top 18
theorem qdf:FnScope ["_law_seen","_law_size"] ["_law_seen","_law_size"] (qab qaV):=⟨rfl,rfl,rfl,by decide +kernel,rfl,by decide +kernel,by decide +kernel⟩
abbrev qaX:Stmt:=top 19
theorem qdB:FnScope ["_law_one","_law_other"] ["_law_one","_law_other"] (qab qaX):=⟨rfl,rfl,rfl,by decide +kernel,rfl,by decide +kernel,by decide +kernel⟩
abbrev qaJ:Stmt:=top 20
theorem sc__law_lists:FnScope ["_law_script","_law_n","_law_rank","_law_many","_law_large","_law_bases","_law_k","_law_small","_law_lists_here","_law_kind","_law_place","_law_entries","_law_at","_law_times_here"] ["_law_script","_law_n"] (qab qaJ):=⟨rfl,rfl,rfl,by decide +kernel,rfl,by decide +kernel,by decide +kernel⟩
abbrev qaL:Stmt:=top 21
theorem sc__law_squares:FnScope ["_law_n","_law_told","_law_square"] ["_law_n","_law_told"] (qab qaL):=⟨rfl,rfl,rfl,by decide +kernel,rfl,by decide +kernel,by decide +kernel⟩
abbrev qbw:Stmt:=top 22
theorem sc__law_sum:FnScope ["_law_n","_law_lists_here","_law_times_here","_law_total","_law_one","_law_many"] ["_law_n","_law_lists_here","_law_times_here"] (qab qbw):=⟨rfl,rfl,rfl,by decide +kernel,rfl,by decide +kernel,by decide +kernel⟩
abbrev qeO:Stmt:=top 23
theorem sc_law:FnScope ["_law_script","_law_n","_law_wide","_law_lists_here","_law_spot","_law_told","_law_turns","_law_columns","_law_many","_law_entries"] ["_law_script"] (qab qeO):=⟨rfl,rfl,rfl,by decide +kernel,rfl,by decide +kernel,by decide +kernel⟩
abbrev qav:Stmt:=qcd (top 8) 0
theorem qcb:FnScope ["self","turns","columns"] ["self","turns","columns"] (qab qav):=⟨rfl,rfl,rfl,by decide +kernel,rfl,by decide +kernel,by decide +kernel⟩
abbrev qap:Stmt:=qcd (top 8) 1
theorem qbB:FnScope ["self","place","times","other"] ["self","place","times","other"] (qab qap):=⟨rfl,rfl,rfl,by decide +kernel,rfl,by decide +kernel,by decide +kernel⟩
abbrev qbR:Stmt:=qcd (top 8) 2
abbrev qaw:Stmt:=qcd (top 8) 3
theorem sc_Basis__exchange:FnScope ["self","place","other","turn","column"] ["self","place","other"] (qab qaw):=⟨rfl,rfl,rfl,by decide +kernel,rfl,by decide +kernel,by decide +kernel⟩
abbrev qc7:Stmt:=qcd (top 8) 4
abbrev qcD:Stmt:=qcd (top 8) 5
abbrev qcB (x:Int):Prop:=x.natAbs<2 ^ 10000000
theorem qdl {a b:Int} (ha:qcB a) (hb:qcB b):IntMulOk a b:=qht (m:=10000000) (n:=10000000) (by decide) (by decide) ha hb (by decide)
theorem toB {R:D→Prop} {a b:Bool} (q:R (.bl a)) (e:b=a):R (.bl b):=e ▸ q
theorem qeQ {x:Int} {m:Nat} (h:x.natAbs≤2 ^ m) (hm:m<10000000):qcB x:=Nat.lt_of_le_of_lt h (Nat.pow_lt_pow_right (by decide) hm)
theorem qaT {α:Type} {xs:List α} {i:Nat} {d:α} (h:i<xs.length):xs.getD i d∈xs:=by
  rw [List.getD_eq_getElem?_getD,qas h]
  exact List.getElem_mem h
theorem qay {α:Type} {xs:List α} {i:Nat} {d:α} (h:i<xs.length):xs[i]?=some (xs.getD i d):=by
  rw [List.getD_eq_getElem?_getD,qas h]
  rfl
theorem qck {α:Type} {xs:List α} {i:Nat} {x d:α} (h:xs[i]?=some x):xs.getD i d=x:=by rw [List.getD_eq_getElem?_getD,h];rfl
def qh0:SpD:=fun ds R=>∃ (xs ys:List Int),ds=[.tup (xs.map D.int),.tup (ys.map D.int)]∧xs.length≤1000∧(∀ x∈xs,qcB x)∧(∀ y∈ys,qcB y)∧R (.int (dot xs ys))
theorem qiA {n:Nat} {f:Addr} {fd:FuncData} (F:Fun K "left" "left" qer f fd) (z_sum:mg "sum"=none) (z_zip:mg "zip"=none):FnOk P w K mg base CX0 (n+1) f fd ["entries","spot"] (lSp K qh0):=by
  refine F.okD qit (fun ds R h=>?_) (fun cdv A outer s H E ds R hr h=>?_)
  · obtain ⟨xs,ys,rfl,_⟩:=h;rfl
  obtain ⟨xs,ys,rfl,hl,hx,hy,q⟩:=h
  refine ⟨_,(qaK (qbv (qbl (qjw rfl) rfl z_sum PyProof.Rows.boot_sum (qaG (PD.q (PF.d (qa7 (k:=2) (N':=["entry","number"]) (cap:=[none,none]) rfl (.ok (show qaS ["entries","spot"] (qab qer) _ ["entry","number"] [none,none]=true by decide +kernel)) (by decide +kernel) (qdp (n:=2) (qa3 (qaN (by decide)) (qa3 (qaN (by decide)) qdj))) (qdw rfl z_zip (qae (dv 0) (qae (dv 1) qaA qaa) qaa)) (fun _ _ _ _ _=>(qcf (n:=2) rfl (qau (qat (i:=0) (show List.Nodup (["entry","number"]:List Str) by decide +kernel) rfl (Or.inl rfl)) (qau (qat (i:=1) (show List.Nodup (["entry","number"]:List Str) by decide +kernel) rfl (Or.inl rfl)) qbx)))) (fun _ _ _ _ _=>(qaM qa6 (dvq 0) (dvq 1)))))) qa1 qan) qan qaf))),?_⟩
  refine ⟨_,_,rfl,rfl,?_⟩
  refine qbu (fun x y=>D.int (x*y)) (qar hl) (fun x hx' y hy'=>⟨rfl,qdl (hx x hx') (hy y hy'),rfl⟩) ?_
  exact ⟨List.zipWith (fun x y=>x*y) xs ys,by rw [List.map_zipWith];rfl,q⟩
def unL (n k:Nat):List Int:=(List.range n).map fun o=>if o=k then 1 else 0
def qh7:SpD:=fun ds R=>∃ n k:Nat,ds=[.int (n:Int),.int (k:Int)]∧n≤1000∧R (.tup ((unL n k).map D.int))
theorem qin {n:Nat} {f:Addr} {fd:FuncData} (F:Fun K "unit" "unit" qey f fd) (z_tuple:mg "tuple"=none) (z_range:mg "range"=none):FnOk P w K mg base CX0 (n+1) f fd ["n","place"] (lSp K qh7):=by
  refine F.okD qiD (fun ds R h=>?_) (fun cdv A outer s H E ds R hr h=>?_)
  · obtain ⟨m,k,rfl,_⟩:=h;rfl
  obtain ⟨m,k,rfl,hm,q⟩:=h
  refine ⟨_,(qaK (qbv (qbz qcq rfl z_tuple PyProof.Rows.boot_tuple (qaG (PD.q (PF.d (qa7 (k:=1) (N':=["other","place"]) (cap:=[none,some 1]) rfl (.ok (show qaS ["n","place"] (qab qey) _ ["other","place"] [none,some 1]=true by decide +kernel)) (by decide +kernel) (qaN (by decide)) (qd0 rfl z_range (qae (dv 0) qaA qaa)) (fun _ _ _ _ _=>(qat (i:=0) (show List.Nodup (["other","place"]:List Str) by decide +kernel) rfl (Or.inl rfl))) (fun _ _ _ _ _=>(qlZ (qcz (qjh hr.units) (dvq 0) (dvq 1) (qaZ _)) qah qah))))) qa1 qan) qan qaf))),?_⟩
  refine ⟨⟨by omega,by omega⟩,?_⟩
  refine qeS (fun o=>D.int (if o=k then 1 else 0)) (qar (by omega)) (fun i hi=>?_) ?_
  · by_cases c:i=k
    · subst c
      refine ⟨fun _=>by rw [if_pos rfl];rfl,fun h=>?_⟩
      have:((0+(i:Int)) == (i:Int))=false:=h
      rw [Int.zero_add] at this
      simp at this
    · refine ⟨fun h=>?_,fun _=>by rw [if_neg c];rfl⟩
      have:((0+(i:Int)) == (k:Int))=true:=h
      have:=eq_of_beq this
      omega
  have e:(List.range ((m:Int)).toNat).map (fun o=>D.int (if o=k then 1 else 0))=(unL m k).map D.int:=by
    unfold unL
    rw [List.map_map,Int.toNat_natCast]
    rfl
  rw [e]
  exact q
def qjX (c:Nat→Bool) (h:Nat→D) (i:Nat):Option D→Prop
  | some y=>y=h i∧c i=true
  | none=>c i=false
theorem qfI {c:Nat→Bool} {h:Nat→D} {n:Nat} {ys:List (Option D)} (hyl:ys.length=n) (hy:∀ i y,ys[i]?=some y→qjX c h i y):ys.filterMap id=((List.range n).filter c).map h:=by
  have e:ys=(List.range n).map fun i=>if c i then some (h i) else none:=by
    refine List.ext_getElem? fun i=>?_
    rw [List.getElem?_map]
    by_cases hi:i<n
    · rw [List.getElem?_range hi,qas (show i<ys.length by omega)]
      have q:=hy i _ (qas (show i<ys.length by omega))
      cases e:ys[i]'(by omega) with
      | none =>
        rw [e] at q
        have q':c i=false:=q
        show some none=some (if c i=true then _ else _)
        rw [q']
        rfl
      | some y =>
        rw [e] at q
        have q':y=h i∧c i=true:=q
        show some (some y)=some (if c i=true then _ else _)
        rw [q'.2,q'.1]
        rfl
    · rw [List.getElem?_eq_none (by omega),List.getElem?_eq_none (by rw [List.length_range];omega)]
      rfl
  have key:∀ l:List Nat,(l.map fun i=>if c i then some (h i) else none).filterMap id=(l.filter c).map h:=by
    intro l
    induction l with
    | nil=>rfl
    | cons x l ih =>
      rw [List.map_cons]
      cases e:c x with
      | true=>rw [if_pos rfl,List.filterMap_cons_some (f:=id) (a:=some (h x)) (b:=h x) rfl,List.filter_cons_of_pos e,List.map_cons,ih]
      | false=>rw [if_neg (by decide),List.filterMap_cons_none (f:=id) (a:=none) rfl,List.filter_cons_of_neg (by rw [e];decide),ih]
  rw [e,key]
def qei:SpD:=fun ds R=>∃ a b:Int,ds=[.int a,.int b]∧b≠0∧b.natAbs<2 ^ 8000∧R (.int ((2*a+b).fdiv (2*b)))
theorem qfQ {n:Nat} {f:Addr} {fd:FuncData} (F:Fun K "nearest" "nearest" qb9 f fd) :FnOk P w K mg base CX0 (n+1) f fd ["top","bottom"] (lSp K qei):=by
  refine F.okD qfv (fun ds R h=>?_) (fun cdv A outer s H E ds R hr h=>?_)
  · obtain ⟨a,b,rfl,_⟩:=h;rfl
  obtain ⟨a,b,rfl,h0,h1,q⟩:=h
  refine ⟨_,(qaK (qbv (qaM qiv (PD.q (qaM qbr (PD.q (qaM qa6 (PD.q qah) (dvq 0))) (dvq 1))) (PD.q (qaM qa6 (PD.q qah) (dvq 1)))))),?_⟩
  refine ⟨qbk (by decide) (by decide),qbk (by decide) (by decide),CDivW.of (by omega) ?_,q⟩
  rw [Int.natAbs_mul]
  exact Nat.lt_of_lt_of_le (show 2*b.natAbs<2*2 ^ 8000 from Nat.mul_lt_mul_of_pos_left h1 (by decide)) (by decide +kernel)
def qa4 (xs:List Int) (t:Int) (ys:List Int):List Int:=List.zipWith (fun x y=>x - t*y) xs ys
def qh3:SpD:=fun ds R=>∃ (xs ys:List Int) (t:Int),ds=[.tup (xs.map D.int),.int t,.tup (ys.map D.int)]∧xs.length≤500∧qcB t∧(∀ y∈ys,qcB y)∧R (.tup ((qa4 xs t ys).map D.int))
theorem qis {n:Nat} {f:Addr} {fd:FuncData} (F:Fun K "less" "less" qeh f fd) (z_tuple:mg "tuple"=none) (z_zip:mg "zip"=none):FnOk P w K mg base CX0 (n+1) f fd ["entries","times","others"] (lSp K qh3):=by
  refine F.okD qi8 (fun ds R h=>?_) (fun cdv A outer s H E ds R hr h=>?_)
  · obtain ⟨xs,ys,t,rfl,_⟩:=h;rfl
  obtain ⟨xs,ys,t,rfl,hl,ht,hy,q⟩:=h
  refine ⟨_,(qaK (qbv (qbz qcq rfl z_tuple PyProof.Rows.boot_tuple (qaG (PD.q (PF.d (qa7 (k:=2) (N':=["entry","other","times"]) (cap:=[none,none,some 1]) rfl (.ok (show qaS ["entries","times","others"] (qab qeh) _ ["entry","other","times"] [none,none,some 1]=true by decide +kernel)) (by decide +kernel) (qdp (n:=2) (qa3 (qaN (by decide)) (qa3 (qaN (by decide)) qdj))) (qdw rfl z_zip (qae (dv 0) (qae (dv 2) qaA qaa) qaa)) (fun _ _ _ _ _=>(qcf (n:=2) rfl (qau (qat (i:=0) (show List.Nodup (["entry","other","times"]:List Str) by decide +kernel) rfl (Or.inl rfl)) (qau (qat (i:=1) (show List.Nodup (["entry","other","times"]:List Str) by decide +kernel) rfl (Or.inl rfl)) qbx)))) (fun _ _ _ _ _=>(qaM qfz (dvq 0) (PD.q (qaM qa6 (dvq 2) (dvq 1)))))))) qa1 qan) qan qaf))),?_⟩
  refine ⟨_,_,rfl,rfl,?_⟩
  refine qbu (fun x y=>D.int (x - t*y)) (qar (by omega)) (fun x _ y hy'=>⟨rfl,qdl ht (hy y hy'),rfl⟩) ?_
  have e:List.zipWith (fun x y=>D.int (x - t*y)) xs ys=(qa4 xs t ys).map D.int:=by unfold qa4;rw [List.map_zipWith]
  rw [e]
  exact q
def qa9 (xs:List Int) (i:Nat):Int:=((xs.getD i 0).natAbs:Int)
structure Gf (xs:List Int) (ps:List Nat):Prop where
  pm:ps.Perm ((List.range xs.length).filter fun i=>decide (xs.getD i 0≠0))
  so:ps.Pairwise fun i j=>qa9 xs j≤qa9 xs i
def qa5:SpD:=fun ds R=>∃ xs:List Int,ds=[.lst (xs.map D.int)]∧xs.length<64∧∀ ps:List Nat,Gf xs ps→R (.lst (ps.map fun i:Nat=>D.int (i:Int)))
theorem qcl {n:Nat} {f:Addr} {fd:FuncData} (F:Fun K "greatest_first" "greatest_first" qag f fd) (z_sorted:mg "sorted"=none) (z_enumerate:mg "enumerate"=none) (z_abs:mg "abs"=none) {cL PL:Addr} (L_greatest_first:LamT K "greatest_first" fd cL PL ⟨47,30,47,63⟩):FnOk P w K mg base CX0 (n+2) f fd ["numbers"] (lSp K qa5):=by
  refine F.okDL sc_greatest_first (fun ds R h=>?_) (fun cdv A outer s H E ds R hcd hr h=>?_)
  · obtain ⟨xs,rfl,_⟩:=h;rfl
  obtain ⟨xs,rfl,hl,q⟩:=h
  refine ⟨_,(qaC (qkg (i:=1) (k:=2) (N':=["place","number"]) (cap:=[none,none]) rfl sc_greatest_first.nd rfl (Or.inl rfl) (.ok (show qaS ["numbers","places"] (qab qag) _ ["place","number"] [none,none]=true by decide +kernel)) (by decide +kernel) (qdp (n:=2) (qa3 (qaN (by decide)) (qa3 (qaN (by decide)) qdj))) (qeL rfl z_enumerate (qae (dv 0) qaA qaa)) (fun _ _ _ _ _=>(qcf (n:=2) rfl (qau (qat (i:=0) (show List.Nodup (["place","number"]:List Str) by decide +kernel) rfl (Or.inl rfl)) (qau (qat (i:=1) (show List.Nodup (["place","number"]:List Str) by decide +kernel) rfl (Or.inl rfl)) qbx)))) (fun _ _ _ _ _=>(qkt (qcz (qku hr.units) (dvq 1) (PD.q qah) (qaZ _)))) (fun _ _ _ _ _=>(dv 0)))
      (qaK (qbv (qf7 (p:="place") (r:=["numbers"]) (cap:=[some 0]) (hr.mono (by omega)) rfl z_sorted (dvq 1) (.ok (show qaS ["numbers","places"] (qab qag) _ ["place","numbers"] [none,some 0]=true by decide +kernel)) (by decide +kernel) rfl rfl rfl rfl (fun _ _ _ _ _ _=>rfl) (hcd.symm.trans L_greatest_first.code) L_greatest_first.hd L_greatest_first.tab (fun _ _ _ _ _ _=>(qbl qlj rfl z_abs PyProof.Rows.boot_abs (qaG (PD.q (qjT (dvq 1) (dvq 0) (fun _ _=>rfl))) qa1 qai) qai qaf)) qaa)))),?_⟩
  refine ⟨by rw [qbs,List.length_map];exact qar (by omega),qjX (fun i=>decide (xs.getD i 0≠0)) (fun i=>D.int (i:Int)),fun i d hd=>?_,fun ys hyl hy=>?_⟩
  · obtain ⟨e,he,rfl⟩:=qcL hd
    obtain ⟨x,rfl,hx⟩:=qbK he
    have ex:xs.getD i 0=x:=qck hx
    refine ⟨rfl,fun h=>⟨rfl,?_⟩,fun h=>?_⟩
    · show decide (xs.getD i 0≠0)=true
      rw [ex]
      exact decide_eq_true fun e=>by rw [e] at h;cases h
    · show decide (xs.getD i 0≠0)=false
      rw [ex]
      refine decide_eq_false fun e=>?_
      have h':(!(x == 0))=false:=h
      have:(x == 0)=true:=by simpa using h'
      exact e (eq_of_beq this)
  rw [qbs,List.length_map] at hyl
  rw [qfI hyl hy]
  have hfl:((List.range xs.length).filter fun i=>decide (xs.getD i 0≠0)).length≤xs.length:=by
    have:=List.length_filter_le (fun i=>decide (xs.getD i 0≠0)) (List.range xs.length)
    rwa [List.length_range] at this
  have hfm:∀ i∈(List.range xs.length).filter fun i=>decide (xs.getD i 0≠0),i<xs.length:=fun i hi=>List.mem_range.mp (List.mem_filter.mp hi).1
  have q':=fun ps h1 h2=>q ps ⟨h1,h2⟩
  generalize (List.range xs.length).filter (fun i=>decide (xs.getD i 0≠0))=fl at hfl hfm q'
  refine ⟨by rw [List.length_map];omega,fun j=>qa9 xs (fl.getD j 0),fun j e he=>?_,fun qs qp qo=>?_⟩
  · obtain ⟨i,rfl,hi⟩:=qbK he
    have hil:=hfm i (List.mem_of_getElem? hi)
    refine ⟨_,qgb (i:=i) (qay (d:=0) hil) rfl,?_⟩
    show D.int (if xs.getD i 0<0 then -xs.getD i 0 else xs.getD i 0)=D.int (qa9 xs (fl.getD j 0))
    rw [qck hi]
    unfold qa9
    congr 1
    split <;> omega
  have ez:((List.range (fl.map fun i:Nat=>D.int (i:Int)).length).map fun j=>qa9 xs (fl.getD j 0)).zip (fl.map fun i:Nat=>D.int (i:Int))=fl.map fun i=>(qa9 xs i,D.int (i:Int)):=by
    rw [List.length_map]
    refine List.ext_getElem? fun j=>?_
    cases hj:fl[j]? with
    | none =>
      have:=List.getElem?_eq_none_iff.mp hj
      rw [List.getElem?_eq_none (by rw [List.length_zip,List.length_map,List.length_map,List.length_range];omega),List.getElem?_eq_none (by rw [List.length_map];exact this)]
    | some i =>
      have hlt:=qaD hj
      rw [List.getElem?_map,hj]
      exact List.getElem?_zip_eq_some.mpr ⟨by rw [List.getElem?_map,List.getElem?_range hlt];show some (qa9 xs (fl.getD j 0))=_;rw [qck hj],by rw [List.getElem?_map,hj];rfl⟩
  rw [ez] at qp
  obtain ⟨ps,pp,pr⟩:=qbU qp (qcT (F:=fun (i:Nat) (q:Int × D)=>q=(qa9 xs i,D.int (i:Int))) (xs:=fl) (by rw [List.length_map]) fun i x y hx hy=>by rw [List.getElem?_map,hx] at hy;cases hy;rfl)
  have eq:qs=ps.map fun i=>(qa9 xs i,D.int (i:Int)):=by
    refine List.ext_getElem? fun j=>?_
    rw [List.getElem?_map]
    cases hj:ps[j]? with
    | none=>rw [List.getElem?_eq_none (by rw [← pr.length];exact List.getElem?_eq_none_iff.mp hj)];rfl
    | some i =>
      have hlt:j<qs.length:=by rw [← pr.length];exact qaD hj
      rw [qas hlt]
      exact congrArg some (show qs[j]=(qa9 xs i,D.int (i:Int)) from qb8 (F:=fun (i:Nat) (q:Int × D)=>q=(qa9 xs i,D.int (i:Int))) pr hj (qas hlt))
  have z:=q' ps pp (by rw [eq] at qo;exact List.pairwise_map.mp qo)
  have e2:qs.map (·.2)=ps.map fun i:Nat=>D.int (i:Int):=by rw [eq,List.map_map];rfl
  rw [e2]
  exact z
theorem qlQ:¬ ("turns":Str)="columns":=by decide +kernel
def qdF (t c:Addr):List (Str × V):=qcI "columns" (.ref c) (qcI "turns" (.ref t) [])
theorem flT (t c:Addr):(qdF t c).lookup ("turns":Str)=some (.ref t):=by
  unfold qdF
  rw [qaF,if_neg qlQ,qaF,if_pos rfl]
theorem flC (t c:Addr):(qdF t c).lookup ("columns":Str)=some (.ref c):=by
  unfold qdF
  rw [qaF,if_pos rfl]
structure TxtBasis (K:PySem.W.Frag) (mg:Str→Option Value) (C:Addr):Prop where
  cl:Cls K C
  nT:NoAttr K C "turns"
  nC:NoAttr K C "columns"
  mgC:mg "Basis"=some (.ref C)
structure BasAt (C:Addr) (H:Hp) (p t c:Addr) (tv cv:List V):Prop where
  ob:∃ dx,H p=some (.ins C dx (qdF t c))
  td:H t=some (.lst tv)
  cd:H c=some (.lst cv)
  ne:t≠c
def TSame (_K:PySem.W.Frag) (H H':Hp):Prop:=∀ b xs,H b=some (.tup xs)→H' b=some (.tup xs)
theorem TSame.trans {K:PySem.W.Frag} {H H1 H2:Hp} (a:TSame K H H1) (b:TSame K H1 H2):TSame K H H2:=fun c o h=>b c o (a c o h)
theorem _root_.L2.Same.tS {K:PySem.W.Frag} {H H':Hp} (s:Same H H'):TSame K H H':=fun b xs h=>s _ _ h
theorem TSame.lst {K:PySem.W.Frag} {H:Hp} {D:Addr} {ys zs:List V} (h:H D=some (.lst ys)):TSame K H (upd H D (.lst zs)):=fun b xs e=>by
  have:b≠D:=fun z=>by rw [z,h] at e;cases e
  rw [qad this];exact e
section
variable {J : It} {B : V → St → Hp → (St → Hp → Prop) → Prop} {End : St → Hp → Prop} {σ : St} {H : Hp} {D : Addr} {n : Nat} {El : Nat → V → Hp → Prop}
theorem qgU (K:PySem.W.Frag) (S:Steady J H n El) (hD:H D=none) (hn:n≤1000) (Sh:St→Prop) (h0:Sh σ) (Pr:Nat→V→Hp→Prop) (mono:∀ i y H1 H2,TSame K H1 H2→Pr i y H1→Pr i y H2)
    (hb:∀ i x σ H' N,i<n→El i x H'→Sh σ→Same H H'→(∀ y σ3 H5,Sh σ3→Same H' H5→Pr i y H5→qk5 D N y σ3 H5)→B x σ H' N)
    (hd:∀ σ H' vs,Sh σ→Same H H'→H' D=some (.lst vs)→vs.length=n→(∀ i y,vs[i]?=some y→Pr i y H')→End σ H'):qgi J B End σ (upd H D (.lst [])):=by
  refine qdb (b:=true) (xs:=[]) n (fun i σ H'=>∃ vs,Sh σ∧Same H H'∧H' D=some (.lst vs)∧vs.length=i∧∀ j y,vs[j]?=some y→Pr j y H') ⟨[],h0,qal hD _,qac,rfl,fun j y h=>by simp at h⟩ ?_ ?_
  · rintro i σ H' hi ⟨vs,hsh,s,hv,hl,hp⟩
    refine ⟨S.go i H' s hi,fun x H2 y=>?_⟩
    obtain ⟨he,s2⟩:=S.yl i H' x H2 s hi y
    refine hb i x σ H2 _ hi he hsh (s.trans s2) fun y σ3 H5 hs3 s5 hy=>?_
    have hv5:=s5 _ _ (s2 _ _ hv)
    refine ⟨vs,hv5,qar (by omega),vs++[y],hs3,qcG ((s.trans s2).trans s5) hD _,qac,by rw [List.length_append,hl];rfl,fun j z hj=>?_⟩
    rcases Nat.lt_or_ge j vs.length with h | h
    · rw [List.getElem?_append_left h] at hj
      exact mono j z _ _ (((s2.trans s5).tS).trans (TSame.lst hv5)) (hp j z hj)
    · rw [List.getElem?_append_right h] at hj
      have hj0:j - vs.length=0:=by
        rcases Nat.eq_zero_or_pos (j - vs.length) with h | h
        · exact h
        · rw [List.getElem?_eq_none (by simp only [List.length_cons,List.length_nil];omega)] at hj;cases hj
      rw [hj0] at hj
      cases hj
      have:j=i:=by omega
      subst this
      exact mono _ _ _ _ (TSame.lst hv5) hy
  · rintro σ H' ⟨vs,hsh,s,hv,hl,hp⟩
    exact ⟨S.stop H' s,hd σ H' vs hsh s hv hl hp⟩
end
theorem qh2 {H1:Hp} {p C dx:Addr} {fs gs:List (Str × V)} (hp:H1 p=some (.ins C dx fs)):TSame K H1 (upd H1 p (.ins C dx gs)):=fun b xs e=>by
  have:b≠p:=fun z=>by rw [z,hp] at e;cases e
  rw [qad this];exact e
theorem qg2 {H H':Hp} {b:Addr} {xs:List V} (s:Same H H') (h:SqL K H b xs):SqL K H' b xs:=by
  rcases h with (z | ⟨o,z⟩) | z
  · exact .inl (.inl (s _ _ z))
  · exact .inl (.inr ⟨o,s _ _ z⟩)
  · exact .inr z
theorem qiJ {H1:Hp} {p C dx b:Addr} {fs gs:List (Str × V)} {xs:List V} (hp:H1 p=some (.ins C dx fs)) (h:SqL K H1 b xs):SqL K (upd H1 p (.ins C dx gs)) b xs:=by
  rcases h with (z | ⟨o,z⟩) | z
  · have:b≠p:=fun e=>by subst e;rw [hp] at z;cases z
    exact .inl (.inl (by rw [qad this];exact z))
  · have:b≠p:=fun e=>by subst e;rw [hp] at z;cases z
    exact .inl (.inr ⟨o,by rw [qad this];exact z⟩)
  · exact .inr z
theorem qew {z:SpD} {vs:List V} {H:Hp} {Q:VK} {E:XK} {ds:List D} {R:D→Prop} (hr:Paired (Rp K H) ds vs) (ht:TabF K H) (h:z ds R) (k:∀ d H' v,R d→Same H H'→TabF K H'→Rp K H' d v→Q v H'):lSp K z vs H Q E :=
  ⟨H,ds,R,Same.refl _,ht,RpL.of_paired hr,h,fun d Φ' H' v rd g rv=>k d H' v rd g.h (ht.same g.h) (rv.same g.s)⟩
theorem qf2 {H:Hp} {es:List Int} {vs:List V} (h:RpL K H (es.map D.int) vs):vs=es.map V.int:=by
  refine List.ext_getElem? fun i=>?_
  rw [List.getElem?_map]
  cases hi:es[i]? with
  | none=>exact List.getElem?_eq_none (by rw [h.1,List.length_map];exact List.getElem?_eq_none_iff.mp hi)
  | some e =>
    obtain ⟨v,hv,rv⟩:=h.at (i:=i) (d:=.int e) (by rw [List.getElem?_map,hi];rfl)
    cases rv
    exact hv
theorem qfh {H:Hp} {es:List Int} {v:V} (h:Rp K H (.tup (es.map D.int)) v):∃ a,v=.ref a∧H a=some (.tup (es.map V.int)):=by
  cases h with
  | tup h1 h2 h3 =>
    cases qf2 ⟨h2,h3⟩
    exact ⟨_,rfl,h1⟩
theorem qcx {n i:Nat} (h:i<n):ixN n (i:Int)=some i:=by
  unfold ixN
  rw [if_pos (Int.natCast_nonneg _),if_pos (by omega),Int.toNat_natCast]
theorem qdx {H:Hp} {c:Addr} {xs ys:List V} (hc:H c=some (.lst xs)):TSame K H (upd H c (.lst ys))∧But [c] H (upd H c (.lst ys)):=⟨TSame.lst hc,fun b o hb hn=>by rw [qad fun e=>hn (by simp [e])];exact hb⟩
theorem qf9 {H:Hp} {c:Addr} {xs ys:List V} (ht:TabF K H) (hc:H c=some (.lst xs)):TabF K (upd H c (.lst ys)):=fun t h=>by
  have e:=ht t h
  have:t.1≠c:=fun z=>by rw [z,hc] at e;cases e
  rw [qad this]
  exact e
def qbc (K:PySem.W.Frag) (C:Addr):Sp:=fun vs H Q _=>∃ (p dx u w:Addr) (uv wv:List V),vs=[.ref p,.ref u,.ref w]∧H p=some (.ins C dx [])∧SqL K H u uv∧SqL K H w wv ∧
  ∀ t c H',H t=none→H c=none→But [p] H H'→TSame K H H'→BasAt C H' p t c uv wv→Q .non H'
theorem qca {n:Nat} {f:Addr} {fd:FuncData} (F:Fun K "__init__" "Basis.__init__" qav f fd) {C_Basis:Addr} (T_Basis:TxtBasis K mg C_Basis) (z_list:mg "list"=none):FnOk P w K mg base CX0 (n+1) f fd ["self","turns","columns"] (qbc K C_Basis):=by
  refine F.ok qcb (fun vs H Q E h=>?_) (fun cdv A outer s H vs Q E hr h=>?_)
  · obtain ⟨p,dx,u,w,uv,wv,rfl,_⟩:=h;rfl
  obtain ⟨p,dx,u,w,uv,wv,rfl,hp,hu,hw,q⟩:=h
  refine ⟨_,(qax (qh1 (pv 0) (qbP qcr rfl z_list PyProof.Rows.boot_list (qam (pv 1) pa_nil qaa) (he:=qaa) (hpl:=qaf)) rfl)
      (qbm (qh1 (pv 0) (qbP qcr rfl z_list PyProof.Rows.boot_list (qam (pv 2) pa_nil qaa) (he:=qaa) (hpl:=qaf)) rfl))),?_⟩
  refine ⟨_,rfl,u,_,rfl,.inl hu,fun t ht=>?_⟩
  have npt:p≠t:=qak hp ht
  have s1:=qal ht (.lst uv)
  have e1:upd H t (.lst uv) t=some (.lst uv):=qac
  generalize upd H t _=H1 at s1 e1 ⊢
  refine ⟨_,rfl,p,C_Basis,dx,[],rfl,s1 _ _ hp,T_Basis.cl,T_Basis.nT,(by show 0<1000;decide),?_⟩
  have t2:TSame K H1 (upd H1 p (.ins C_Basis dx (qcI "turns" (.ref t) []))):=qh2 (s1 _ _ hp)
  have w2:SqL K (upd H1 p (.ins C_Basis dx (qcI "turns" (.ref t) []))) w wv:=qiJ (s1 _ _ hp) (qg2 s1 hw)
  have b2:But [p] H (upd H1 p (.ins C_Basis dx (qcI "turns" (.ref t) []))):=(s1.but _).put (by simp) _
  have p2:upd H1 p (.ins C_Basis dx (qcI "turns" (.ref t) [])) p=some (.ins C_Basis dx (qcI "turns" (.ref t) [])):=qac
  have e2:upd H1 p (.ins C_Basis dx (qcI "turns" (.ref t) [])) t=some (.lst uv):=(qad (Ne.symm npt)).trans e1
  have ts2:=(s1.tS).trans t2
  generalize upd H1 p _=H2 at t2 b2 p2 e2 ts2 w2 ⊢
  refine ⟨_,rfl,w,_,rfl,.inl w2,fun c hc=>?_⟩
  have s3:=qal hc (.lst wv)
  have e3:upd H2 c (.lst wv) c=some (.lst wv):=qac
  have npc:p≠c:=qak p2 hc
  have ntc:t≠c:=qak e2 hc
  have b3:=b2.new hc (.lst wv)
  have hcH:H c=none:=by
    cases z:H c with
    | none=>rfl
    | some o=>rw [b2 c o z (by simp;exact Ne.symm npc)] at hc;cases hc
  generalize upd H2 c _=H3 at s3 e3 b3 ⊢
  have p3:=s3 _ _ p2
  refine ⟨_,rfl,p,C_Basis,dx,_,rfl,p3,T_Basis.cl,T_Basis.nC,(by show 1<1000;decide),?_⟩
  exact q t c _ ht hcH (b3.put (by simp) _) ((ts2.trans s3.tS).trans (qh2 p3)) ⟨⟨dx,qac⟩,(qad (Ne.symm npt)).trans (s3 _ _ e2),(qad (Ne.symm npc)).trans e3,ntc⟩
def Vecs (K:PySem.W.Frag) (H:Hp) (vs:List V) (es:List (List Int)):Prop:=vs.length=es.length∧∀ (i:Nat) (e:List Int),es[i]?=some e→∃ a,vs[i]?=some (.ref a)∧H a=some (.tup (e.map V.int))
theorem Vecs.ts {H H':Hp} {vs:List V} {es:List (List Int)} (h:Vecs K H vs es) (t:TSame K H H'):Vecs K H' vs es:=⟨h.1,fun i e he=>let ⟨a,h1,h2⟩:=h.2 i e he;⟨a,h1,t _ _ h2⟩⟩
theorem Vecs.set {H:Hp} {vs:List V} {es:List (List Int)} {i:Nat} {a:Addr} {e:List Int} (h:Vecs K H vs es) (ha:H a=some (.tup (e.map V.int))):Vecs K H (vs.set i (.ref a)) (es.set i e):=by
  refine ⟨by rw [List.length_set,List.length_set];exact h.1,fun j x hx=>?_⟩
  by_cases c:i=j
  · subst c
    by_cases hl:i<es.length
    · rw [List.getElem?_set_self hl] at hx
      cases hx
      exact ⟨a,List.getElem?_set_self (by rw [h.1];exact hl),ha⟩
    · rw [List.getElem?_eq_none (by rw [List.length_set];omega)] at hx
      cases hx
  · rw [List.getElem?_set_ne c] at hx ⊢
    exact h.2 j x hx
theorem qc3 {H:Hp} {a:Addr} {es:List Int} (h:H a=some (.tup (es.map V.int))):Rp K H (.tup (es.map D.int)) (.ref a):=(RpL.ints es).tup h
def qaP (K:PySem.W.Frag) (C:Addr):Sp:=fun vs H Q _=>∃ (p t c:Addr) (i j:Nat) (x:Int) (tv cv:List V) (Ts Cs:List (List Int)),vs=[.ref p,.int (i:Int),.int x,.int (j:Int)]∧BasAt C H p t c tv cv∧Vecs K H tv Ts∧Vecs K H cv Cs∧TabF K H ∧
  i<Cs.length∧j<Cs.length∧Ts.length=Cs.length∧qcB x∧(∀ e∈Cs,e.length≤500∧∀ y∈e,qcB y)∧(∀ e∈Ts,e.length≤500∧∀ y∈e,qcB y) ∧
  ∀ tv' cv' H',But [t,c] H H'→TSame K H H'→BasAt C H' p t c tv' cv'→Vecs K H' tv' (Ts.set j (qa4 (Ts.getD j []) (-x) (Ts.getD i [])))→Vecs K H' cv' (Cs.set i (qa4 (Cs.getD i []) x (Cs.getD j [])))→Q .non H'
theorem qbA {n:Nat} {f:Addr} {fd:FuncData} (F:Fun K "lessen_column" "Basis.lessen_column" qap f fd) {C_Basis:Addr} (T_Basis:TxtBasis K mg C_Basis) {f_less:Addr} {d_less:FuncData} (G_less:FnOk P w K mg base CX0 n f_less d_less ["entries","times","others"] (lSp K qh3)) (b_less:Binds K d_less ["entries","times","others"] []) (k_less:PySem.W.keepIn K (.ref f_less)=true) (m_less:mg "less"=some (.ref f_less)):FnOk P w K mg base CX0 (n+1) f fd ["self","place","times","other"] (qaP K C_Basis):=by
  refine F.ok qbB (fun vs H Q E h=>?_) (fun cdv A outer s H vs Q E hr h=>?_)
  · obtain ⟨p,t,c,i,j,x,tv,cv,Ts,Cs,rfl,_⟩:=h;rfl
  obtain ⟨p,t,c,i,j,x,tv,cv,Ts,Cs,rfl,B,hT,hC,htab,hi,hj,hTC,hx,hCb,hTb,q⟩:=h
  obtain ⟨⟨dx,hp⟩,ht,hc,ntc⟩:=id B
  refine ⟨_,(qax (qb0 (qbo G_less hr rfl m_less k_less b_less .nil qcg (qam (qbn qaz (qa0 (pv 0) rfl) (pv 1) (fun _ _=>rfl)) (qam (pv 2) (qam (qbn qaz (qa0 (pv 0) rfl) (pv 3) (fun _ _=>rfl)) pa_nil qai) qaa) qai) (he:=qai) (hpl:=(qaj qaa (qaj qai qaf)))) (qcy (qa0 (pv 0) rfl) (pv 1) qbg))
      (qbm (qb0 (qbo G_less hr rfl m_less k_less b_less .nil qcg (qam (qbn qaz (qa0 (pv 0) rfl) (pv 3) (fun _ _=>rfl)) (qam (qkU qjx (pv 2)) (qam (qbn qaz (qa0 (pv 0) rfl) (pv 1) (fun _ _=>rfl)) pa_nil qai) qdA) qai) (he:=qai) (hpl:=(qaj qdA (qaj qai qaf)))) (qcy (qa0 (pv 0) rfl) (pv 3) qbg)))),?_⟩
  have lenT:=hT.1
  have lenC:=hC.1
  obtain ⟨ai,hai,hAi⟩:=hC.2 i _ (qay (d:=[]) hi)
  obtain ⟨aj,haj,hAj⟩:=hC.2 j _ (qay (d:=[]) hj)
  have bi:=hCb _ (qaT (xs:=Cs) (d:=[]) hi)
  have bj:=hCb _ (qaT (xs:=Cs) (d:=[]) hj)
  refine ⟨_,rfl,p,C_Basis,dx,_,_,rfl,hp,T_Basis.cl,T_Basis.nC,flC _ _,_,rfl,c,cv,_,_,rfl,rfl,SqL.of hc,qbd hai rfl,?_⟩
  refine ⟨_,rfl,_,rfl,p,C_Basis,dx,_,_,rfl,hp,T_Basis.cl,T_Basis.nC,flC _ _,_,rfl,c,cv,_,_,rfl,rfl,SqL.of hc,qbd haj rfl,?_⟩
  refine qew (E:=E0) (.cons (qc3 hAi) (.cons (.int x) (.cons (qc3 hAj) .nil))) htab ⟨_,_,_,rfl,bi.1,hx,bj.2,rfl⟩ fun d H1 v rd s1 tab1 rv=>?_
  subst rd
  obtain ⟨a1,rfl,hA1⟩:=qfh rv
  refine ⟨_,rfl,p,C_Basis,dx,_,_,rfl,s1 _ _ hp,T_Basis.cl,T_Basis.nC,flC _ _,_,rfl,c,cv,_,i,rfl,rfl,s1 _ _ hc,qcx (by omega),?_⟩
  have npc:p≠c:=qhL hp hc (by intro z;cases z)
  have npt:p≠t:=qhL hp ht (by intro z;cases z)
  obtain ⟨t2,b2⟩:=qdx (K:=K) (ys:=cv.set i (.ref a1)) (s1 _ _ hc)
  have tab2:=qf9 (ys:=cv.set i (.ref a1)) tab1 (s1 _ _ hc)
  have hC2:Vecs K (upd H1 c (.lst (cv.set i (.ref a1)))) (cv.set i (.ref a1)) (Cs.set i (qa4 (Cs.getD i []) x (Cs.getD j []))):=((hC.ts s1.tS).set hA1).ts t2
  have c2:upd H1 c (.lst (cv.set i (.ref a1))) c=some (.lst (cv.set i (.ref a1))):=qac
  have p2:upd H1 c (.lst (cv.set i (.ref a1))) p=_:=(qad npc).trans (s1 _ _ hp)
  have tt2:upd H1 c (.lst (cv.set i (.ref a1))) t=some (.lst tv):=(qad ntc).trans (s1 _ _ ht)
  have hT2:=(hT.ts s1.tS).ts t2
  have bt:But [t,c] H (upd H1 c (.lst (cv.set i (.ref a1)))):=(s1.but _).put (by simp) _
  have tst:=(s1.tS).trans t2
  generalize upd H1 c (.lst (cv.set i (.ref a1)))=H2 at t2 b2 tab2 hC2 c2 p2 tt2 hT2 bt tst ⊢
  have hj':j<Ts.length:=by omega
  have hi':i<Ts.length:=by omega
  obtain ⟨bj0,hbj,hBj⟩:=hT2.2 j _ (qay (d:=[]) hj')
  obtain ⟨bi0,hbi,hBi⟩:=hT2.2 i _ (qay (d:=[]) hi')
  have ci:=hTb _ (qaT (xs:=Ts) (d:=[]) hi')
  have cj:=hTb _ (qaT (xs:=Ts) (d:=[]) hj')
  refine ⟨_,rfl,p,C_Basis,dx,_,_,rfl,p2,T_Basis.cl,T_Basis.nT,flT _ _,_,rfl,t,tv,_,_,rfl,rfl,SqL.of tt2,qbd hbj rfl,?_⟩
  refine ⟨_,rfl,x,rfl,_,rfl,p,C_Basis,dx,_,_,rfl,p2,T_Basis.cl,T_Basis.nT,flT _ _,_,rfl,t,tv,_,_,rfl,rfl,SqL.of tt2,qbd hbi rfl,?_⟩
  refine qew (E:=E0) (.cons (qc3 hBj) (.cons (.int (-x)) (.cons (qc3 hBi) .nil))) tab2 ⟨_,_,_,rfl,cj.1,?_,ci.2,rfl⟩ fun d H3 v rd s3 tab3 rv=>?_
  · show (-x).natAbs<_
    rw [Int.natAbs_neg]
    exact hx
  subst rd
  obtain ⟨a3,rfl,hA3⟩:=qfh rv
  refine ⟨_,rfl,p,C_Basis,dx,_,_,rfl,s3 _ _ p2,T_Basis.cl,T_Basis.nT,flT _ _,_,rfl,t,tv,_,j,rfl,rfl,s3 _ _ tt2,qcx (by omega),?_⟩
  obtain ⟨t4,b4⟩:=qdx (K:=K) (ys:=tv.set j (.ref a3)) (s3 _ _ tt2)
  exact q _ _ _ ((bt.trans (s3.but _)).put (by simp) _) ((tst.trans s3.tS).trans t4) ⟨⟨dx,(qad npt).trans (s3 _ _ p2)⟩,qac,(qad (Ne.symm ntc)).trans (s3 _ _ c2),ntc⟩ (((hT2.ts s3.tS).set hA3).ts t4) ((hC2.ts s3.tS).ts t4)
def qc6 (xs:List (List Int)) (i j:Nat):List (List Int):=(xs.set i (xs.getD j [])).set j (xs.getD i [])
def qbj (K:PySem.W.Frag) (C:Addr):Sp:=fun vs H Q _=>∃ (p t c:Addr) (i j:Nat) (tv cv:List V) (Ts Cs:List (List Int)),vs=[.ref p,.int (i:Int),.int (j:Int)]∧BasAt C H p t c tv cv∧Vecs K H tv Ts∧Vecs K H cv Cs∧i<Cs.length∧j<Cs.length∧Ts.length=Cs.length ∧
  ∀ tv' cv' H',But [t,c] H H'→TSame K H H'→BasAt C H' p t c tv' cv'→Vecs K H' tv' (qc6 Ts i j)→Vecs K H' cv' (qc6 Cs i j)→Q .non H'
theorem qb4 {n:Nat} {f:Addr} {fd:FuncData} (F:Fun K "exchange" "Basis.exchange" qaw f fd) {C_Basis:Addr} (T_Basis:TxtBasis K mg C_Basis):FnOk P w K mg base CX0 (n+1) f fd ["self","place","other"] (qbj K C_Basis):=by
  refine F.ok sc_Basis__exchange (fun vs H Q E h=>?_) (fun cdv A outer s H vs Q E hr h=>?_)
  · obtain ⟨p,t,c,i,j,tv,cv,Ts,Cs,rfl,_⟩:=h;rfl
  obtain ⟨p,t,c,i,j,tv,cv,Ts,Cs,rfl,B,hT,hC,hi,hj,hTC,q⟩:=h
  obtain ⟨⟨dx,hp⟩,ht,hc,ntc⟩:=id B
  have npc:p≠c:=qhL hp hc (by intro z;cases z)
  have npt:p≠t:=qhL hp ht (by intro z;cases z)
  have lenT:=hT.1
  have lenC:=hC.1
  obtain ⟨ci,hci,hCi⟩:=hC.2 i _ (qay (d:=[]) hi)
  obtain ⟨cj,hcj,hCj⟩:=hC.2 j _ (qay (d:=[]) hj)
  obtain ⟨ti,hti,hTi⟩:=hT.2 i _ (qay (d:=[]) (show i<Ts.length by omega))
  obtain ⟨tj,htj,hTj⟩:=hT.2 j _ (qay (d:=[]) (show j<Ts.length by omega))
  refine ⟨_,(qax (qbE (i:=3) sc_Basis__exchange.nd rfl (Or.inl rfl) (qbn qaz (qa0 (pv 0) rfl) (pv 1) (fun _ _=>rfl)))
      (qax (qbE (i:=4) sc_Basis__exchange.nd rfl (Or.inl rfl) (qbn qaz (qa0 (pv 0) rfl) (pv 1) (fun _ _=>rfl)))
      (qax (qb0 (qbn qaz (qa0 (pv 0) rfl) (pv 2) (fun _ _=>rfl)) (qcy (qa0 (pv 0) rfl) (pv 1) qbg))
      (qax (qb0 (qbn qaz (qa0 (pv 0) rfl) (pv 2) (fun _ _=>rfl)) (qcy (qa0 (pv 0) rfl) (pv 1) qbg))
      (qax (qb0 (pv 3) (qcy (qa0 (pv 0) rfl) (pv 2) qbg))
      (qbm (qb0 (pv 4) (qcy (qa0 (pv 0) rfl) (pv 2) qbg)))))))),?_⟩
  refine ⟨_,rfl,p,C_Basis,dx,_,_,rfl,hp,T_Basis.cl,T_Basis.nT,flT _ _,_,rfl,t,tv,_,_,rfl,rfl,SqL.of ht,qbd hti rfl,?_⟩
  refine ⟨_,rfl,p,C_Basis,dx,_,_,rfl,hp,T_Basis.cl,T_Basis.nC,flC _ _,_,rfl,c,cv,_,_,rfl,rfl,SqL.of hc,qbd hci rfl,?_⟩
  refine ⟨_,rfl,p,C_Basis,dx,_,_,rfl,hp,T_Basis.cl,T_Basis.nT,flT _ _,_,rfl,t,tv,_,_,rfl,rfl,SqL.of ht,qbd htj rfl,?_⟩
  refine ⟨_,rfl,p,C_Basis,dx,_,_,rfl,hp,T_Basis.cl,T_Basis.nT,flT _ _,_,rfl,t,tv,_,i,rfl,rfl,ht,qcx (by omega),?_⟩
  have p1:upd H t (.lst (tv.set i (.ref tj))) p=_:=(qad npt).trans hp
  have c1:upd H t (.lst (tv.set i (.ref tj))) c=some (.lst cv):=(qad (Ne.symm ntc)).trans hc
  have t1:upd H t (.lst (tv.set i (.ref tj))) t=some (.lst (tv.set i (.ref tj))):=qac
  have s1:TSame K H (upd H t (.lst (tv.set i (.ref tj)))):=TSame.lst ht
  have b1:But [t,c] H (upd H t (.lst (tv.set i (.ref tj)))):=((Same.refl H).but _).put (by simp) _
  generalize upd H t (.lst (tv.set i (.ref tj)))=H1 at p1 c1 t1 s1 b1 ⊢
  refine ⟨_,rfl,p,C_Basis,dx,_,_,rfl,p1,T_Basis.cl,T_Basis.nC,flC _ _,_,rfl,c,cv,_,_,rfl,rfl,SqL.of c1,qbd hcj rfl,?_⟩
  refine ⟨_,rfl,p,C_Basis,dx,_,_,rfl,p1,T_Basis.cl,T_Basis.nC,flC _ _,_,rfl,c,cv,_,i,rfl,rfl,c1,qcx (by omega),?_⟩
  have p2:upd H1 c (.lst (cv.set i (.ref cj))) p=_:=(qad npc).trans p1
  have t2:upd H1 c (.lst (cv.set i (.ref cj))) t=some (.lst (tv.set i (.ref tj))):=(qad ntc).trans t1
  have c2:upd H1 c (.lst (cv.set i (.ref cj))) c=some (.lst (cv.set i (.ref cj))):=qac
  have s2:=s1.trans (TSame.lst (zs:=cv.set i (.ref cj)) c1)
  have b2:=b1.put (p:=c) (by simp) (.lst (cv.set i (.ref cj)))
  generalize upd H1 c (.lst (cv.set i (.ref cj)))=H2 at p2 c2 t2 s2 b2 ⊢
  refine ⟨_,rfl,_,rfl,p,C_Basis,dx,_,_,rfl,p2,T_Basis.cl,T_Basis.nT,flT _ _,_,rfl,t,_,_,j,rfl,rfl,t2,qcx (by rw [List.length_set];omega),?_⟩
  have p3:upd H2 t (.lst ((tv.set i (.ref tj)).set j (.ref ti))) p=_:=(qad npt).trans p2
  have c3:upd H2 t (.lst ((tv.set i (.ref tj)).set j (.ref ti))) c=some (.lst (cv.set i (.ref cj))):=(qad (Ne.symm ntc)).trans c2
  have t3:upd H2 t (.lst ((tv.set i (.ref tj)).set j (.ref ti))) t=some (.lst ((tv.set i (.ref tj)).set j (.ref ti))):=qac
  have s3:=s2.trans (TSame.lst (zs:=(tv.set i (.ref tj)).set j (.ref ti)) t2)
  have b3:=b2.put (p:=t) (by simp) (.lst ((tv.set i (.ref tj)).set j (.ref ti)))
  generalize upd H2 t (.lst ((tv.set i (.ref tj)).set j (.ref ti)))=H3 at p3 c3 t3 s3 b3 ⊢
  refine ⟨_,rfl,_,rfl,p,C_Basis,dx,_,_,rfl,p3,T_Basis.cl,T_Basis.nC,flC _ _,_,rfl,c,_,_,j,rfl,rfl,c3,qcx (by rw [List.length_set];omega),?_⟩
  have s4:=s3.trans (TSame.lst (zs:=(cv.set i (.ref cj)).set j (.ref ci)) c3)
  exact q _ _ _ (b3.put (by simp) _) s4 ⟨⟨dx,(qad npc).trans p3⟩,(qad ntc).trans t3,qac,ntc⟩ (((hT.set hTj).set hTi).ts s4) (((hC.set hCj).set hCi).ts s4)
def qbJ (n:Nat):List (List Int):=(List.range n).map (unL n)
def qbT (K:PySem.W.Frag) (C:Addr):Sp:=fun vs H Q _=>∃ n:Nat,vs=[.int (n:Int)]∧n≤8∧TabF K H∧∀ p t c tv cv H',Same H H'→H p=none→H t=none→H c=none→BasAt C H' p t c tv cv→Vecs K H' tv (qbJ n)→Vecs K H' cv (qbJ n)→Q (.ref p) H'
theorem qdh {n:Nat} {f:Addr} {fd:FuncData} (F:Fun K "plain_basis" "plain_basis" qaU f fd) {C_Basis:Addr} (T_Basis:TxtBasis K mg C_Basis) {f_unit:Addr} {d_unit:FuncData} (G_unit:FnOk P w K mg base CX0 (n+1) f_unit d_unit ["n","place"] (lSp K qh7)) (b_unit:Binds K d_unit ["n","place"] []) (k_unit:PySem.W.keepIn K (.ref f_unit)=true) (m_unit:mg "unit"=some (.ref f_unit)) {f_Basis____init__:Addr} {d_Basis____init__:FuncData} (G_Basis____init__:FnOk P w K mg base CX0 n f_Basis____init__ d_Basis____init__ ["self","turns","columns"] (qbc K C_Basis)) (b_Basis____init__:Binds K d_Basis____init__ ["self","turns","columns"] []) (M_Basis:Mk K C_Basis f_Basis____init__) (z_range:mg "range"=none):FnOk P w K mg base CX0 (n+2) f fd ["n"] (qbT K C_Basis):=by
  refine F.ok sc_plain_basis (fun vs H Q E h=>?_) (fun cdv A outer s H vs Q E hr h=>?_)
  · obtain ⟨n,rfl,_⟩:=h;rfl
  obtain ⟨m,rfl,hm,htab,q⟩:=h
  refine ⟨_,(qax (qeR (i:=1) (N':=["place","n"]) (cap:=[none,some 0]) rfl sc_plain_basis.nd rfl (Or.inl rfl) (.ok (show qaS ["n","units"] (qab qaU) _ ["place","n"] [none,some 0]=true by decide +kernel)) (qec rfl z_range (qam (pv 0) pa_nil qaa)) (fun _ _ _ _ _=>(qdT (i:=0) (show List.Nodup (["place","n"]:List Str) by decide +kernel) rfl (Or.inl rfl))) (fun _ _ _ _ _=>qdX) (fun _ _ _ _ _=>(qbo G_unit hr rfl m_unit k_unit b_unit .nil qcg (qam (pv 1) (qam (pv 0) pa_nil qaa) qaa) (he:=qaa) (hpl:=(qaj qaa qaf)))))
      (qbm (qfr (qiX M_Basis G_Basis____init__ hr rfl T_Basis.mgC b_Basis____init__ .nil qcg (qam (pv 1) (qam (pv 1) pa_nil qaa) qaa) (he:=qaa) (hpl:=(qaj qaa qaf)))))),?_⟩
  refine ⟨_,rfl,(m:Int),rfl,by omega,by omega,fun D hD=>?_⟩
  rw [Int.toNat_natCast]
  refine qgU K qd6 hD (by omega) (fun σ=>∃ u0:Option V,σ=[u0,some (.int m)]) ⟨_,rfl⟩ (fun i y H=>∃ a,y=.ref a∧H a=some (.tup ((unL m i).map V.int))) (fun i y H1 H2 t h=>let ⟨a,e,h⟩:=h;⟨a,e,t _ _ h⟩) ?_ ?_
  · rintro i x σ H' N hi rfl ⟨u0,rfl⟩ g k
    rw [Int.zero_add]
    refine ⟨_,rfl,_,rfl,?_⟩
    refine qew (E:=E0) (.cons (.int (m:Int)) (.cons (.int (i:Int)) .nil)) (htab.same g) ⟨m,i,rfl,by omega,rfl⟩ fun d H1 v rd s1 _ rv=>?_
    subst rd
    obtain ⟨a,rfl,ha⟩:=qfh rv
    exact k _ _ _ ⟨_,rfl⟩ s1 ⟨a,rfl,ha⟩
  · rintro σ H' vs ⟨u0,rfl⟩ g hd hl hv
    refine ⟨_,rfl,_,rfl,fun x dx hx hdx hne=>?_⟩
    have s2:Same H' (upd (upd H' dx (.own x)) x (.ins C_Basis dx [])):=(qal hdx _).trans (qal ((qad (Ne.symm hne)).trans hx) _)
    have sv:Vecs K H' vs (qbJ m):=by
      unfold qbJ
      refine ⟨by rw [List.length_map,List.length_range];exact hl,fun i e he=>?_⟩
      have hi:i<m:=by have:=qaD he;rwa [List.length_map,List.length_range] at this
      rw [List.getElem?_map,List.getElem?_range hi] at he
      cases he
      have hiv:i<vs.length:=by omega
      obtain ⟨a,ea,ha⟩:=hv i _ (qas hiv)
      exact ⟨a,by rw [qas hiv,ea],ha⟩
    have fr:∀ b,H' b=none→H b=none:=fun b hb=>by
      cases z:H b with
      | none=>rfl
      | some o=>rw [g _ _ z] at hb;cases hb
    have p2:upd (upd H' dx (.own x)) x (.ins C_Basis dx []) x=some (.ins C_Basis dx []):=qac
    generalize upd (upd H' dx (.own x)) x (.ins C_Basis dx [])=H2 at s2 p2 ⊢
    have fr2:∀ b,H2 b=none→H b=none:=fun b hb=>fr b (by
      cases z:H' b with
      | none=>rfl
      | some o=>rw [s2 _ _ z] at hb;cases hb)
    refine ⟨x,dx,D,D,vs,vs,rfl,p2,SqL.of (s2 _ _ hd),SqL.of (s2 _ _ hd),fun t c H3 ht hc bt ts B=>⟨rfl,?_⟩⟩
    refine q x t c vs vs H3 (fun b o hb=>bt b o (s2 _ _ (g _ _ hb)) ?_) (fr x hx) (fr2 t ht) (fr2 c hc) B ((sv.ts s2.tS).ts ts) ((sv.ts s2.tS).ts ts)
    intro hm
    rw [List.mem_singleton.mp hm,fr x hx] at hb
    cases hb
def qbV (many:Nat) (es:List Int) (Cs:List (List Int)):List Int:=List.replicate many 0++(Cs.drop many).map (dot es)
structure Jok (n:Nat) (J:List Int→List (List Int)→List (List Int)→Nat→Prop):Prop where
  len:∀ {xs Ts Cs m},J xs Ts Cs m→xs.length=n∧Ts.length=n∧Cs.length=n
  big:∀ {xs Ts Cs m},J xs Ts Cs m→(∀ e∈Cs,e.length≤500∧∀ y∈e,qcB y)∧∀ e∈Ts,e.length≤500∧∀ y∈e,qcB y
  step:∀ {xs Ts Cs m} (i j:Nat),J xs Ts Cs m→i<n→j<n→i≠j→xs.getD j 0≠0→qa9 xs j≤qa9 xs i→(∀ k,k<n→k≠i→qa9 xs k≤qa9 xs j)→∀ x:Int,x=(2*xs.getD i 0+xs.getD j 0).fdiv (2*xs.getD j 0) →
    (xs.getD j 0).natAbs<2 ^ 8000∧qcB x∧∃ m',m'<m∧J (xs.set i (xs.getD i 0 - x*xs.getD j 0)) (Ts.set j (qa4 (Ts.getD j []) (-x) (Ts.getD i []))) (Cs.set i (qa4 (Cs.getD i []) x (Cs.getD j []))) m'
def qiK (xs:List Int) (r:V):Prop:=(r=.non∧∀ j,j<xs.length→xs.getD j 0=0)∨∃ k:Nat,r=.int (k:Int)∧k<xs.length∧xs.getD k 0≠0∧∀ j,j<xs.length→j≠k→xs.getD j 0=0
def qex (K:PySem.W.Frag) (C:Addr):Sp:=fun vs H Q _=>∃ (p t c ea:Addr) (n many:Nat) (tv cv:List V) (Ts Cs:List (List Int)) (es:List Int) (J:List Int→List (List Int)→List (List Int)→Nat→Prop) (m:Nat),
  vs=[.ref p,.int (many:Int),.ref ea]∧BasAt C H p t c tv cv∧Vecs K H tv Ts∧Vecs K H cv Cs∧TabF K H∧H ea=some (.tup (es.map V.int))∧n≤8∧many≤n∧Cs.length=n∧es.length≤8∧(∀ x∈es,qcB x)∧(∀ e∈Cs,∀ y∈e,qcB y)∧Jok n J∧J (qbV many es Cs) Ts Cs m ∧
  ∀ r tv' cv' Ts' Cs' xs m' H',But [t,c] H H'→TSame K H H'→BasAt C H' p t c tv' cv'→Vecs K H' tv' Ts'→Vecs K H' cv' Cs'→J xs Ts' Cs' m'→qiK xs r→Q r H'
theorem qgc {H H':Hp} {t c:Addr} {tv cv:List V} (ht:TabF K H) (h1:H t=some (.lst tv)) (h2:H c=some (.lst cv)) (b:But [t,c] H H'):TabF K H':=fun u hu=>b _ _ (ht u hu) fun hm=>by
  have e:=ht u hu
  simp at hm
  rcases hm with z | z
  · rw [z,h1] at e;cases e
  · rw [z,h2] at e;cases e
def qjg (H:Hp) (t c:Addr):Hp:=fun a=>if a=t∨a=c then none else H a
theorem qgK {H:Hp} {t c a:Addr} (h1:a≠t) (h2:a≠c):qjg H t c a=H a:=if_neg fun h=>h.elim h1 h2
theorem qiE {z:SpD} {vs:List V} {H:Hp} {Q:VK} {E:XK} {ds:List D} {R:D→Prop} {t c:Addr} {tv cv:List V} (ht:H t=some (.lst tv)) (hc:H c=some (.lst cv)) (hr:Paired (Rp K (qjg H t c)) ds vs) (htab:TabF K H) (h:z ds R)
    (k:∀ d Φ' H' v,R d→Same H H'→TabF K H'→Same Φ' H'→Φ' t=none→Φ' c=none→Rp K Φ' d v→Q v H'):lSp K z vs H Q E:=by
  have ot:qjg H t c t=none:=if_pos (.inl rfl)
  have oc:qjg H t c c=none:=if_pos (.inr rfl)
  refine ⟨qjg H t c,ds,R,fun a u e=>?_,fun u hu=>?_,RpL.of_paired hr,h,fun d Φ' H' v rd g rv=>k d Φ' H' v rd g.h (htab.same g.h) g.s (g.o t _ ht ot trivial) (g.o c _ hc oc trivial) rv⟩
  · unfold qjg at e
    split at e
    · cases e
    · exact e
  · have e:=htab u hu
    rw [qgK (fun z=>by rw [z,ht] at e;cases e) (fun z=>by rw [z,hc] at e;cases e)]
    exact e
theorem qiH {H:Hp} {es:List Int} {v:V} (h:Rp K H (.lst (es.map D.int)) v):∃ a,v=.ref a∧H a=some (.lst (es.map V.int)):=by
  cases h with
  | lst h1 h2 h3 =>
    cases qf2 ⟨h2,h3⟩
    exact ⟨_,rfl,h1⟩
def qg8 (ps:List Nat):List Int:=ps.map fun i:Nat=>(i:Int)
theorem qg4 (ps:List Nat):(ps.map fun i:Nat=>D.int (i:Int))=(qg8 ps).map D.int:=by unfold qg8;rw [List.map_map];rfl
theorem qf6 {n:Nat} {f:Addr} {fd:FuncData} (F:Fun K "gather" "gather" qb2 f fd) {C_Basis:Addr} (T_Basis:TxtBasis K mg C_Basis) {f_greatest_first:Addr} {d_greatest_first:FuncData} (G_greatest_first:FnOk P w K mg base CX0 n f_greatest_first d_greatest_first ["numbers"] (lSp K qa5)) (b_greatest_first:Binds K d_greatest_first ["numbers"] []) (k_greatest_first:PySem.W.keepIn K (.ref f_greatest_first)=true) (m_greatest_first:mg "greatest_first"=some (.ref f_greatest_first)) {f_nearest:Addr} {d_nearest:FuncData} (G_nearest:FnOk P w K mg base CX0 n f_nearest d_nearest ["top","bottom"] (lSp K qei)) (b_nearest:Binds K d_nearest ["top","bottom"] []) (k_nearest:PySem.W.keepIn K (.ref f_nearest)=true) (m_nearest:mg "nearest"=some (.ref f_nearest)) {f_left:Addr} {d_left:FuncData} (G_left:FnOk P w K mg base CX0 n f_left d_left ["entries","spot"] (lSp K qh0)) (b_left:Binds K d_left ["entries","spot"] []) (k_left:PySem.W.keepIn K (.ref f_left)=true) (m_left:mg "left"=some (.ref f_left)) {f_Basis__lessen_column:Addr} {d_Basis__lessen_column:FuncData} (G_Basis__lessen_column:FnOk P w K mg base CX0 n f_Basis__lessen_column d_Basis__lessen_column ["self","place","times","other"] (qaP K C_Basis)) (b_Basis__lessen_column:Binds K d_Basis__lessen_column ["self","place","times","other"] []) (mt_Basis__lessen_column:Meth K C_Basis "lessen_column" f_Basis__lessen_column) (z_len:mg "len"=none):FnOk P w K mg base CX0 (n+1) f fd ["basis","many","entries"] (qex K C_Basis):=by
  refine F.ok sc_gather (fun vs H Q E h=>?_) (fun cdv A outer s H vs Q E hr h=>?_)
  · obtain ⟨p,t,c,ea,n,many,tv,cv,Ts,Cs,es,J,m,rfl,_⟩:=h;rfl
  obtain ⟨p,t,c,ea,n,many,tv,cv,Ts,Cs,es,J,m,rfl,B,hT,hC,htab,hea,hn,hmn,hCn,hes,hesb,hCb,hJ,j0,q⟩:=h
  obtain ⟨⟨dx,hp⟩,ht,hc,ntc⟩:=id B
  refine ⟨_,(qax (qbE (i:=3) sc_gather.nd rfl (Or.inl rfl) (qfA qih (qfA qic (qii (qam qbi pa_nil qao)) (pv 1)) (qgQ (N':=["column","entries"]) (cap:=[none,some 2]) rfl (.ok (show qaS ["basis","many","entries","numbers","places","times"] (qab qb2) _ ["column","entries"] [none,some 2]=true by decide +kernel)) (qi9 (qfg sl_list (qa0 (pv 0) rfl) (qgW (pv 1)) po_none)) (fun _ _ _ _ _=>(qdT (i:=0) (show List.Nodup (["column","entries"]:List Str) by decide +kernel) rfl (Or.inl rfl))) (fun _ _ _ _ _=>qdX) (fun _ _ _ _ _=>(qbo G_left hr rfl m_left k_left b_left .nil qcg (qam (pv 1) (qam (pv 0) pa_nil qaa) qaa) (he:=qaa) (hpl:=(qaj qaa qaf)))))))
      (qax (qbE (i:=4) sc_gather.nd rfl (Or.inl rfl) (qbo G_greatest_first hr rfl m_greatest_first k_greatest_first b_greatest_first .nil qcg (qam (pv 3) pa_nil qaa) (he:=qaa) (hpl:=qaf)))
      (qax (qhr PassesOwn.never (qdD qiC (qcJ qa2 rfl z_len PySem.boot_len (qam (pv 4) pa_nil qaa) (he:=qaa) (hpl:=qaf)) qbi (qaZ _)) (qax (qbE (i:=5) sc_gather.nd rfl (Or.inl rfl) (qbo G_nearest hr rfl m_nearest k_nearest b_nearest .nil qcg (qam (qbn qaz (pv 3) (qbn qaz (pv 4) qbi (fun _ _=>rfl)) (fun _ _=>rfl)) (qam (qbn qaz (pv 3) (qbn qaz (pv 4) qbi (fun _ _=>rfl)) (fun _ _=>rfl)) pa_nil qai) qai) (he:=qai) (hpl:=(qaj qai qaf))))
      (qax (qeY (qgG (pv 0) T_Basis.cl mt_Basis__lessen_column G_Basis__lessen_column hr b_Basis__lessen_column .nil qcg (qam (qbn qaz (pv 4) qbi (fun _ _=>rfl)) (qam (pv 5) (qam (qbn qaz (pv 4) qbi (fun _ _=>rfl)) pa_nil qai) qaa) qai)))
      (qax (qb0 (qfA qh6 (qbn qaz (pv 3) (qbn qaz (pv 4) qbi (fun _ _=>rfl)) (fun _ _=>rfl)) (qfA qgv (pv 5) (qbn qaz (pv 3) (qbn qaz (pv 4) qbi (fun _ _=>rfl)) (fun _ _=>rfl)))) (qcy (pv 3) (qbn qaz (pv 4) qbi (fun _ _=>rfl)) qbg))
      (qbm (qbE (i:=4) sc_gather.nd rfl (Or.inl rfl) (qbo G_greatest_first hr rfl m_greatest_first k_greatest_first b_greatest_first .nil qcg (qam (pv 3) pa_nil qaa) (he:=qaa) (hpl:=qaf))))))))
      (qbm (qfr (qfq (qdD qiC (qcJ qa2 rfl z_len PySem.boot_len (qam (pv 4) pa_nil qaa) (he:=qaa) (hpl:=qaf)) qbi (qaZ _)) (qbn qaz (pv 4) qbi (fun _ _=>rfl)) qib)))))),?_⟩
  refine ⟨(by show 1≤sizeLine;decide),fun l1 hl1=>⟨_,rfl,l1,_,_,rfl,rfl,qac,by omega,by omega,(by rw [show [V.int 0].length=1 from rfl];exact qbZ (by omega)),fun l2 hl2=>?_⟩⟩
  have e2:upd (upd H l1 (.lst [.int 0])) l2 (.lst (List.replicate (Int.toNat (many:Int)) [V.int 0]).flatten) l2=some (.lst ((List.replicate many 0).map V.int)):=by rw [qac,qi4,Int.toNat_natCast]
  have s2:=(qal hl1 (.lst [.int 0])).trans (qal hl2 (.lst (List.replicate (Int.toNat (many:Int)) [V.int 0]).flatten))
  generalize upd (upd H l1 (.lst [.int 0])) l2 _=H2 at e2 s2 ⊢
  refine ⟨_,rfl,p,C_Basis,dx,_,_,rfl,s2 _ _ hp,T_Basis.cl,T_Basis.nC,flC _ _,?_⟩
  refine ⟨_,rfl,(many:Int),rfl,c,cv,rfl,SqL.of (s2 _ _ hc),fun sl hsl=>?_⟩
  have ecut:qhm cv (some (many:Int)) none=cv.drop many:=qhJ cv many
  rw [ecut]
  have s3:=s2.trans (qal hsl (.lst (cv.drop many)))
  have e3:upd H2 sl (.lst (cv.drop many)) sl=some (.lst (cv.drop many)):=qac
  have e23:=qal hsl (.lst (cv.drop many)) _ _ e2
  generalize upd H2 sl (.lst (cv.drop many))=H3 at s3 e3 e23 ⊢
  refine ⟨sl,rfl,⟨_,SqL.of e3⟩,fun Dl hD=>?_⟩
  have hdl:(cv.drop many).length≤8:=by rw [List.length_drop,hC.1];omega
  have hC3:=hC.ts (s3.tS)
  have hea3:=s3 _ _ hea
  refine qhS K (qeP (SqL.of e3)) hD (by omega) (fun σ=>∃ u0:Option V,σ=[u0,some (.ref ea)]) ⟨_,rfl⟩ (((Cs.drop many).map (dot es)).map V.int) (by rw [List.length_map,List.length_map,List.length_drop,List.length_drop,hC.1]) ?_ ?_
  · rintro i x σ H' N hi hx ⟨u0,rfl⟩ g k
    rw [List.getElem?_drop] at hx
    have him:many+i<Cs.length:=by rw [List.length_drop,hC.1] at hi;omega
    obtain ⟨a,ha,hA⟩:=hC3.2 (many+i) _ (qay (d:=[]) him)
    rw [ha] at hx
    cases hx
    have hCe:=hCb _ (qaT (xs:=Cs) (d:=[]) him)
    refine ⟨_,rfl,_,rfl,?_⟩
    refine qew (E:=E0) (.cons (qc3 (g _ _ hea3)) (.cons (qc3 (g _ _ hA)) .nil)) ((htab.same s3).same g) ⟨_,_,rfl,by omega,hesb,hCe,rfl⟩ fun d H1 v rd s1 _ rv=>?_
    subst rd
    cases rv
    refine k _ _ _ ⟨_,rfl⟩ s1 ?_
    rw [List.getElem?_map,List.getElem?_map,List.getElem?_drop,qay (d:=[]) him]
    rfl
  · rintro σ H4 ⟨u0,rfl⟩ g4 hD4
    refine ⟨l2,Dl,_,_,rfl,rfl,g4 _ _ e23,hD4,?_,fun nb hnb=>?_⟩
    · rw [List.length_map,List.length_replicate,List.length_map,List.length_map,List.length_drop];exact qbZ (by omega)
    have en:((List.replicate many 0).map V.int++((Cs.drop many).map (dot es)).map V.int)=(qbV many es Cs).map V.int:=by unfold qbV;rw [List.map_append]
    rw [en]
    have s5:=(s3.trans g4).trans (qal hnb (.lst ((qbV many es Cs).map V.int)))
    have e5:upd H4 nb (.lst ((qbV many es Cs).map V.int)) nb=some (.lst ((qbV many es Cs).map V.int)):=qac
    generalize upd H4 nb (.lst ((qbV many es Cs).map V.int))=H5 at s5 e5 ⊢
    have b5:But [t,c] H H5:=s5.but _
    have nbt:nb≠t:=fun z=>by rw [z,(s3.trans g4) _ _ ht] at hnb;cases hnb
    have nbc:nb≠c:=fun z=>by rw [z,(s3.trans g4) _ _ hc] at hnb;cases hnb
    have nbp:nb≠p:=fun z=>by rw [z,(s3.trans g4) _ _ hp] at hnb;cases hnb
    have nbH:H nb=none:=by
      cases z:H nb with
      | none=>rfl
      | some o=>rw [(s3.trans g4) _ _ z] at hnb;cases hnb
    have gf:∀ {H6:Hp} {xs:List Int} {tv' cv':List V} {Q':VK},H6 t=some (.lst tv')→H6 c=some (.lst cv')→TabF K H6→H6 nb=some (.lst (xs.map V.int))→xs.length<64→(∀ ps pl H7,Gf xs ps→Same H6 H7→TabF K H7→pl≠t→pl≠c→H7 pl=some (.lst ((qg8 ps).map V.int))→Q' (.ref pl) H7)→lSp K qa5 [.ref nb] H6 Q' E0:=fun {H6 xs tv' cv' Q'} h1 h2 h3 h4 h5 k=>by
      refine qiE h1 h2 (.cons ((RpL.ints xs).lst ((qgK nbt nbc).trans h4)) .nil) h3 ⟨xs,rfl,h5,fun ps hG=>⟨ps,hG,rfl⟩⟩ (R:=fun d=>∃ ps,Gf xs ps∧d=.lst (ps.map fun i:Nat=>D.int (i:Int))) fun d Φ' H' v rd s' t' sΦ nt nc rv=>?_
      obtain ⟨ps,hG,rfl⟩:=rd
      rw [qg4] at rv
      obtain ⟨pl,rfl,hpl⟩:=qiH rv
      exact k ps pl H' hG s' t' (fun z=>by rw [z,nt] at hpl;cases hpl) (fun z=>by rw [z,nc] at hpl;cases hpl) (sΦ _ _ hpl)
    refine ⟨_,rfl,?_⟩
    refine gf (s5 _ _ ht) (s5 _ _ hc) (htab.same s5) e5 (by have:=(hJ.len j0).1;omega) fun ps0 pl0 H6 hG0 s6 tab6 n1 n2 hpl0=>?_
    refine ⟨fun m σ H'=>∃ (tv' cv':List V) (Ts' Cs':List (List Int)) (xs:List Int) (pl:Addr) (ps:List Nat) (u5:Option V),σ=[some (.ref p),some (.int many),some (.ref ea),some (.ref nb),some (.ref pl),u5]∧But [t,c] H H'∧TSame K H H'∧BasAt C_Basis H' p t c tv' cv'∧Vecs K H' tv' Ts'∧Vecs K H' cv' Cs'∧H' nb=some (.lst (xs.map V.int))∧pl≠t∧pl≠c∧H' pl=some (.lst ((qg8 ps).map V.int))∧Gf xs ps∧J xs Ts' Cs' m,?_,?_⟩
    · have s56:=s5.trans s6
      exact ⟨m,tv,cv,Ts,Cs,_,pl0,ps0,_,rfl,s56.but _,s56.tS,⟨⟨dx,s56 _ _ hp⟩,s56 _ _ ht,s56 _ _ hc,ntc⟩,hT.ts s56.tS,hC.ts s56.tS,s6 _ _ e5,n1,n2,hpl0,hG0,j0⟩
    rintro m1 σ H7 ⟨tv7,cv7,Ts7,Cs7,xs,pl,ps,u5,rfl,b7,ts7,B7,hT7,hC7,hnb7,n1',n2',hpl7,hG,j7⟩
    obtain ⟨⟨dx7,hp7⟩,ht7,hc7,_⟩:=id B7
    have hlx:=(hJ.len j7).1
    have hps:∀ i∈ps,i<n∧xs.getD i 0≠0:=fun i hi=>by
      have:=hG.pm.mem_iff.mp hi
      obtain ⟨h1,h2⟩:=List.mem_filter.mp this
      exact ⟨by have:=List.mem_range.mp h1;omega,of_decide_eq_true h2⟩
    have hlen:((qg8 ps).map V.int).length=ps.length:=by unfold qg8;rw [List.length_map,List.length_map]
    refine ⟨_,rfl,pl,_,rfl,.inl (SqL.of hpl7),_,_,rfl,rfl,_,rfl,qkA (fun c1=>?_) (fun c1=>?_)⟩
    · have c2:=dP c1
      rw [hlen] at c2
      obtain ⟨i,j,rest,rfl⟩:∃ i j rest,ps=i::j::rest:=by
        match ps,c2 with
        | i::j::rest,_=>exact ⟨i,j,rest,rfl⟩
        | [i],h=>exact absurd h (by simp)
        | [],h=>exact absurd h (by simp)
      obtain ⟨hi,xi0⟩:=hps i (by simp)
      obtain ⟨hj,xj0⟩:=hps j (by simp)
      have nd:(i::j::rest).Nodup:=hG.pm.nodup_iff.mpr (List.Pairwise.filter _ List.nodup_range)
      have hij:i≠j:=fun e=>by rw [e,List.nodup_cons] at nd;exact nd.1 (by simp)
      have hle:qa9 xs j≤qa9 xs i:=(List.pairwise_cons.mp hG.so).1 j (by simp)
      obtain ⟨hbC,hbT⟩:=hJ.big j7
      have hrest:∀ k,k<n→k≠i→qa9 xs k≤qa9 xs j:=fun k hk hki=>by
        by_cases hm:k∈i::j::rest
        · rcases List.mem_cons.mp hm with h | hm
          · exact absurd h hki
          rcases List.mem_cons.mp hm with h | hm
          · rw [h];exact Int.le_refl _
          · exact (List.pairwise_cons.mp (List.pairwise_cons.mp hG.so).2).1 k hm
        · have:xs.getD k 0=0:=by
            rcases Decidable.em (xs.getD k 0=0) with h | h
            · exact h
            · exact absurd (hG.pm.mem_iff.mpr (List.mem_filter.mpr ⟨List.mem_range.mpr (by omega),decide_eq_true h⟩)) hm
          unfold qa9
          rw [this]
          exact Int.natCast_nonneg _
      have a0:atI ((qg8 (i::j::rest)).map V.int) 0=some (.int (i:Int)):=qbd (i:=0) rfl rfl
      have a1:atI ((qg8 (i::j::rest)).map V.int) 1=some (.int (j:Int)):=qbd (i:=1) rfl rfl
      have ai:atI (xs.map V.int) (i:Int)=some (.int (xs.getD i 0)):=qbd (i:=i) (by rw [List.getElem?_map,qay (d:=0) (by omega)];rfl) rfl
      have aj:atI (xs.map V.int) (j:Int)=some (.int (xs.getD j 0)):=qbd (i:=j) (by rw [List.getElem?_map,qay (d:=0) (by omega)];rfl) rfl
      have tab7:=qgc htab ht hc b7
      obtain ⟨hxj,bx,m',hm',j8⟩:=hJ.step i j j7 hi hj hij xj0 hle hrest _ rfl
      refine ⟨_,fun σ' H' h=>h,?_⟩
      refine ⟨_,rfl,_,rfl,pl,_,_,_,rfl,rfl,SqL.of hpl7,a0,nb,_,_,_,rfl,rfl,SqL.of hnb7,ai,_,rfl,_,rfl,pl,_,_,_,rfl,rfl,SqL.of hpl7,a1,nb,_,_,_,rfl,rfl,SqL.of hnb7,aj,?_⟩
      refine qew (E:=E0) (.cons (.int _) (.cons (.int _) .nil)) tab7 ⟨_,_,rfl,xj0,hxj,rfl⟩ fun d H8 v rd s8 tab8 rv=>?_
      subst rd
      cases rv
      generalize (2*xs.getD i 0+xs.getD j 0).fdiv (2*xs.getD j 0)=x at bx j8
      have lk:(qdF t c).lookup ("lessen_column":Str)=none:=by unfold qdF;rw [qaF,if_neg (by decide +kernel),qaF,if_neg (by decide +kernel)];rfl
      refine ⟨_,rfl,p,dx7,_,rfl,s8 _ _ hp7,lk,_,rfl,pl,_,_,_,rfl,rfl,SqL.of (s8 _ _ hpl7),a0,_,rfl,_,rfl,pl,_,_,_,rfl,rfl,SqL.of (s8 _ _ hpl7),a1,?_⟩
      have hl7:=hJ.len j7
      refine ⟨p,t,c,i,j,x,tv7,cv7,Ts7,Cs7,rfl,⟨⟨dx7,s8 _ _ hp7⟩,s8 _ _ ht7,s8 _ _ hc7,ntc⟩,hT7.ts s8.tS,hC7.ts s8.tS,tab8,by omega,by omega,by omega,bx,hbC,hbT,fun tv9 cv9 H9 b9 ts9 B9 hT9 hC9=>?_⟩
      have nm:∀ b:Addr,b≠t→b≠c→b∉[t,c]:=fun b h1 h2 h=>by simp at h;exact h.elim h1 h2
      have hnb9:=b9 _ _ (s8 _ _ hnb7) (nm _ nbt nbc)
      have hpl9:=b9 _ _ (s8 _ _ hpl7) (nm _ n1' n2')
      have bigj:qcB (xs.getD j 0):=Nat.lt_of_lt_of_le hxj (Nat.pow_le_pow_right (by decide) (by decide))
      refine ⟨_,rfl,_,rfl,pl,_,_,_,rfl,rfl,SqL.of hpl9,a0,nb,_,_,_,rfl,rfl,SqL.of hnb9,ai,_,rfl,_,rfl,_,rfl,pl,_,_,_,rfl,rfl,SqL.of hpl9,a1,nb,_,_,_,rfl,rfl,SqL.of hnb9,aj,_,_,rfl,rfl,qdl bx bigj,_,_,rfl,rfl,?_⟩
      refine ⟨_,rfl,_,rfl,pl,_,_,_,rfl,rfl,SqL.of hpl9,a0,nb,_,_,i,rfl,rfl,hnb9,qcx (by rw [List.length_map];omega),?_⟩
      have es1:(xs.map V.int).set i (.int (xs.getD i 0 - x*xs.getD j 0))=(xs.set i (xs.getD i 0 - x*xs.getD j 0)).map V.int:=by rw [List.map_set]
      rw [es1]
      have t10:=TSame.lst (K:=K) (zs:=(xs.set i (xs.getD i 0 - x*xs.getD j 0)).map V.int) hnb9
      have b10:But [t,c] H (upd H9 nb (.lst ((xs.set i (xs.getD i 0 - x*xs.getD j 0)).map V.int))):=fun b o hb hn=>by
        have h9:=b9 _ _ (s8 _ _ (b7 b o hb hn)) hn
        have:b≠nb:=fun z=>by rw [z,nbH] at hb;cases hb
        rw [qad this]
        exact h9
      obtain ⟨⟨dx9,hp9⟩,ht9,hc9,_⟩:=id B9
      have B10:BasAt C_Basis (upd H9 nb (.lst ((xs.set i (xs.getD i 0 - x*xs.getD j 0)).map V.int))) p t c tv9 cv9:=⟨⟨dx9,(qad (Ne.symm nbp)).trans hp9⟩,(qad (Ne.symm nbt)).trans ht9,(qad (Ne.symm nbc)).trans hc9,ntc⟩
      have e10:upd H9 nb (.lst ((xs.set i (xs.getD i 0 - x*xs.getD j 0)).map V.int)) nb=some (.lst ((xs.set i (xs.getD i 0 - x*xs.getD j 0)).map V.int)):=qac
      have tst10:=((ts7.trans s8.tS).trans ts9).trans t10
      have hT10:=hT9.ts t10
      have hC10:=hC9.ts t10
      generalize upd H9 nb (.lst ((xs.set i (xs.getD i 0 - x*xs.getD j 0)).map V.int))=H10 at b10 B10 e10 tst10 hT10 hC10 ⊢
      obtain ⟨⟨dx10,hp10⟩,_,_,_⟩:=id B10
      refine ⟨_,rfl,?_⟩
      refine gf B10.td B10.cd (qgc htab ht hc b10) e10 (by rw [List.length_set];omega) fun ps' pl' H11 hG' s11 _ n3 n4 hpl'=>?_
      exact ⟨m',hm',tv9,cv9,_,_,_,pl',ps',_,rfl,b10.trans (s11.but _),tst10.trans s11.tS,⟨⟨dx10,s11 _ _ hp10⟩,s11 _ _ B10.td,s11 _ _ B10.cd,ntc⟩,hT10.ts s11.tS,hC10.ts s11.tS,s11 _ _ e10,n3,n4,hpl',hG',j8⟩
    · have c2:¬ 1<ps.length:=fun h=>c1 (decide_eq_true (by rw [hlen];omega))
      have zero:∀ k,k<xs.length→k∉ps→xs.getD k 0=0:=fun k hk hn=>by
        rcases Decidable.em (xs.getD k 0=0) with h | h
        · exact h
        · exact absurd (hG.pm.mem_iff.mpr (List.mem_filter.mpr ⟨List.mem_range.mpr hk,decide_eq_true h⟩)) hn
      refine ⟨_,rfl,pl,_,rfl,.inl (SqL.of hpl7),_,_,rfl,rfl,_,rfl,qkA (fun c3=>?_) (fun c3=>?_)⟩
      · have c4:=dP c3
        rw [hlen] at c4
        obtain ⟨k,rfl⟩:∃ k,ps=[k]:=by
          match ps,c2,c4 with
          | [k],_,_=>exact ⟨k,rfl⟩
          | [],_,h=>exact absurd h (by simp)
          | _::_::_,h,_=>exact absurd (by simp) h
        have a0:atI ((qg8 [k]).map V.int) 0=some (.int (k:Int)):=qbd (i:=0) rfl rfl
        refine ⟨_,rfl,pl,_,_,_,rfl,rfl,SqL.of hpl7,a0,?_⟩
        obtain ⟨hk,xk⟩:=hps k (by simp)
        exact q _ tv7 cv7 Ts7 Cs7 xs m1 H7 b7 ts7 B7 hT7 hC7 j7 (.inr ⟨k,rfl,by omega,xk,fun j hj hn=>zero j hj (by simp;exact hn)⟩)
      · have c4:ps=[]:=by
          match ps,c3 with
          | [],_=>rfl
          | _::_,h=>exact absurd (decide_eq_true (by rw [hlen];simp)) h
        subst c4
        exact q _ tv7 cv7 Ts7 Cs7 xs m1 H7 b7 ts7 B7 hT7 hC7 j7 (.inl ⟨rfl,fun j hj=>zero j hj (by simp)⟩)
theorem qcP {a b:Int} (hb:b≠0):2*(a - (2*a+b).fdiv (2*b)*b).natAbs≤b.natAbs:=by
  have e:=Int.fmod_add_mul_fdiv (2*a+b) (2*b)
  have h:2*(a - (2*a+b).fdiv (2*b)*b)=(2*a+b).fmod (2*b) - b:=by
    have e2:2*b*(2*a+b).fdiv (2*b)=2*((2*a+b).fdiv (2*b)*b):=by rw [Int.mul_assoc,Int.mul_comm b]
    rw [e2] at e
    omega
  have h3:(2*(a - (2*a+b).fdiv (2*b)*b)).natAbs=2*(a - (2*a+b).fdiv (2*b)*b).natAbs:=by rw [Int.natAbs_mul];rfl
  rw [← h3,h]
  rcases Int.lt_or_gt_of_ne hb with c | c
  · have h4:=Int.neg_fmod_neg (2*a+b) (2*b)
    rw [Int.fmod_eq_emod_of_nonneg _ (by omega)] at h4
    have h5:=Int.emod_nonneg (-(2*a+b)) (b:=-(2*b)) (by omega)
    have h6:=Int.emod_lt_of_pos (-(2*a+b)) (b:=-(2*b)) (by omega)
    omega
  · rw [Int.fmod_eq_emod_of_nonneg _ (by omega)]
    have h5:=Int.emod_nonneg (2*a+b) (b:=2*b) (by omega)
    have h6:=Int.emod_lt_of_pos (2*a+b) (b:=2*b) (by omega)
    omega
theorem qgg {a b:Int} (hb:b≠0) (h:b.natAbs≤a.natAbs):((2*a+b).fdiv (2*b)).natAbs≤2*a.natAbs:=by
  have h1:=qcP (a:=a) hb
  generalize (2*a+b).fdiv (2*b)=x at h1
  have h2:(x*b).natAbs≤a.natAbs+(a - x*b).natAbs:=by omega
  rw [Int.natAbs_mul] at h2
  have h3:x.natAbs*1≤x.natAbs*b.natAbs:=Nat.mul_le_mul_left _ (by omega)
  omega
def qd4 (x:Int):Nat:=if x=0 then 0 else x.natAbs.log2+1
theorem qgn {x y:Int} (hx:x≠0) (h:2*y.natAbs≤x.natAbs):qd4 y<qd4 x:=by
  unfold qd4
  rw [if_neg hx]
  split
  · omega
  · next hy =>
    have h1:2 ^ (y.natAbs.log2+1)≤x.natAbs:=by
      have:=Nat.log2_self_le (n:=y.natAbs) (by omega)
      rw [Nat.pow_succ]
      omega
    have:=(Nat.le_log2 (by omega)).mpr h1
    omega
theorem qiS {x:Int} {k:Nat} (h:x.natAbs<2 ^ k):qd4 x≤k:=by
  unfold qd4
  split
  · omega
  · exact (Nat.log2_lt (by omega)).mpr h
def qeF (xs:List Int):Nat:=(xs.map qd4).sum
theorem qff:∀ {xs:List Int} {i:Nat} {y:Int},i<xs.length→qeF (xs.set i y)+qd4 (xs.getD i 0)=qeF xs+qd4 y
  | x::xs,0,y,_=>by
    show (qd4 y+qeF xs)+qd4 x=(qd4 x+qeF xs)+qd4 y
    omega
  | x::xs,i+1,y,h=>by
    have ih:=qff (xs:=xs) (i:=i) (y:=y) (by simpa using h)
    have e:(x::xs).getD (i+1) 0=xs.getD i 0:=rfl
    rw [e]
    show (qd4 x+qeF (xs.set i y))+_=(qd4 x+qeF xs)+_
    omega
theorem qgR {k:Nat}:∀ {xs:List Int},(∀ x∈xs,qd4 x≤k)→qeF xs≤xs.length*k
  | [],_=>Nat.zero_le _
  | x::xs,h=>by
    have ih:=qgR (xs:=xs) fun y hy=>h y (List.mem_cons_of_mem _ hy)
    have:=h x List.mem_cons_self
    show qd4 x+qeF xs≤(xs.length+1)*k
    rw [Nat.add_mul]
    omega
theorem qdZ:∀ {e xs ys:List Int} (t:Int),xs.length=e.length→ys.length=e.length→dot e (qa4 xs t ys)=dot e xs - t*dot e ys
  | [],xs,ys,t,_,_=>by simp [dot]
  | a::e,[],ys,t,h,_=>by cases h
  | a::e,x::xs,[],t,_,h=>by cases h
  | a::e,x::xs,y::ys,t,h1,h2=>by
    have ih:=qdZ (e:=e) (xs:=xs) (ys:=ys) t (by simpa using h1) (by simpa using h2)
    have d:∀ (x y:Int) (es ns:List Int),dot (x::es) (y::ns)=x*y+dot es ns:=fun x y es ns=>by simp [dot]
    show dot (a::e) ((x - t*y)::qa4 xs t ys)=_
    rw [d,d,d,ih,Int.mul_sub,Int.mul_add,← Int.mul_assoc,← Int.mul_assoc,Int.mul_comm a t]
    omega
theorem qdc {xs ys:List Int} {t:Int} {n:Nat} (h1:xs.length=n) (h2:ys.length=n):(qa4 xs t ys).length=n:=by unfold qa4;rw [List.length_zipWith,h1,h2,Nat.min_self]
theorem qbt {α:Type} {xs:List α} {i:Nat} {x y:α} (h:y∈xs.set i x):y=x∨y∈xs:=by
  obtain ⟨k,hk⟩:=List.getElem?_of_mem h
  by_cases c:i=k
  · subst c
    rw [List.getElem?_set_self (by have:=qaD hk;rwa [List.length_set] at this)] at hk
    cases hk
    exact .inl rfl
  · rw [List.getElem?_set_ne c] at hk
    exact .inr (List.mem_of_getElem? hk)
theorem qb1 {α:Type} {xs:List α} {i k:Nat} {x d:α} (hi:i<xs.length):(xs.set i x).getD k d=if k=i then x else xs.getD k d:=by
  rw [List.getD_eq_getElem?_getD,List.getD_eq_getElem?_getD]
  split
  · next h=>rw [h,List.getElem?_set_self hi];rfl
  · next h=>rw [List.getElem?_set_ne (Ne.symm h)]
theorem qfo:∀ (E:List Int) (k s:Nat),dot E ((List.range' s E.length).map fun o=>if o=k then (1:Int) else 0)=if s≤k∧k<s+E.length then E.getD (k - s) 0 else 0
  | [],k,s=>by
    rw [if_neg (by rintro ⟨h1,h2⟩;simp at h2;omega)]
    simp [dot]
  | a::E,k,s=>by
    have d:∀ (x y:Int) (es ns:List Int),dot (x::es) (y::ns)=x*y+dot es ns:=fun x y es ns=>by simp [dot]
    have ih:=qfo E k (s+1)
    rw [List.length_cons,List.range'_succ,List.map_cons,d,ih]
    by_cases c:s=k
    · subst c
      rw [if_pos rfl,if_neg (by omega),if_pos (by omega),Nat.sub_self,Int.mul_one,Int.add_zero]
      rfl
    · rw [if_neg c,Int.mul_zero,Int.zero_add]
      by_cases c2:s+1≤k∧k<s+1+E.length
      · rw [if_pos c2,if_pos (by omega),show k - s=(k - (s+1))+1 by omega]
        rfl
      · rw [if_neg c2,if_neg (by omega)]
theorem qf0 {n k:Nat} {E:List Int} (hE:E.length=n) (hk:k<n):dot E (unL n k)=E.getD k 0:=by
  have:=qfo E k 0
  rw [hE,if_pos (by omega),Nat.sub_zero,← List.range_eq_range'] at this
  exact this
theorem qgP (n k:Nat):(unL n k).length=n:=by unfold unL;rw [List.length_map,List.length_range]
theorem qif {n k:Nat}:∀ x∈unL n k,x.natAbs≤1:=fun x hx=>by
  obtain ⟨o,_,rfl⟩:=List.mem_map.mp hx
  split <;> decide
theorem qbe {n k:Nat} (hk:k<n):(qbJ n).getD k []=unL n k:=by
  unfold qbJ
  rw [List.getD_eq_getElem?_getD,List.getElem?_map,List.getElem?_range hk]
  rfl
def qcK:Nat→(Nat→Int)→Int
  | 0,_=>0
  | k+1,f=>qcK k f+f k
theorem qbq {f g:Nat→Int}:∀ {n:Nat},(∀ k,k<n→f k=g k)→qcK n f=qcK n g
  | 0,_=>rfl
  | n+1,h=>by
    show qcK n f+f n=qcK n g+g n
    rw [qbq (n:=n) fun k hk=>h k (by omega),h n (by omega)]
theorem qcH {f g:Nat→Int} {i:Nat}:∀ {n:Nat},i<n→(∀ k,k<n→k≠i→g k=f k)→qcK n g=qcK n f+(g i - f i)
  | n+1,hi,h=>by
    show qcK n g+g n=qcK n f+f n+_
    by_cases c:i=n
    · subst c
      rw [qbq (n:=i) (f:=g) (g:=f) fun k hk=>h k (by omega) (by omega)]
      omega
    · rw [qcH (n:=n) (by omega) fun k hk hki=>h k (by omega) hki,h n (by omega) (Ne.symm c)]
      omega
theorem qdO {f g:Nat→Int} {i j n:Nat} (hi:i<n) (hj:j<n) (hij:i≠j) (h:∀ k,k<n→k≠i→k≠j→g k=f k) (e:g i+g j=f i+f j):qcK n g=qcK n f:=by
  have h1:=qcH (f:=f) (g:=fun k=>if k=i then g i else f k) hi fun k _ hk=>if_neg hk
  have h2:=qcH (f:=fun k=>if k=i then g i else f k) (g:=g) hj fun k hk hkj=>by
    by_cases c:k=i
    · rw [c];exact (if_pos rfl).symm
    · rw [h k hk c hkj];exact (if_neg c).symm
  rw [if_pos rfl] at h1
  rw [if_neg (Ne.symm hij)] at h2
  omega
theorem qev {f:Nat→Int}:∀ {n:Nat},(∀ k,k<n→f k=0)→qcK n f=0
  | 0,_=>rfl
  | n+1,h=>by
    show qcK n f+f n=0
    rw [qev (n:=n) fun k hk=>h k (by omega),h n (by omega)];rfl
theorem qdq {f:Nat→Int} {a n:Nat} (h:a<n) (hf:∀ k,k<n→k≠a→f k=0):qcK n f=f a:=by
  have:=qcH (f:=fun _=>0) (g:=f) h fun k hk hka=>hf k hk hka
  rw [qev (f:=fun _=>0) fun _ _=>rfl] at this
  omega
theorem qbL:∀ (xs ys:List Int),dot xs ys=dot ys xs
  | [],ys=>by cases ys <;> simp [dot]
  | x::xs,[]=>by simp [dot]
  | x::xs,y::ys=>by
    have d:∀ (x y:Int) (es ns:List Int),dot (x::es) (y::ns)=x*y+dot es ns:=fun x y es ns=>by simp [dot]
    rw [d,d,qbL xs ys,Int.mul_comm]
theorem qgH {e xs ys:List Int} (t:Int) (h1:xs.length=e.length) (h2:ys.length=e.length):dot (qa4 xs t ys) e=dot xs e - t*dot ys e:=by
  rw [qbL,qdZ t h1 h2,qbL e,qbL e]
theorem qfl {xs ys:List Int} {t:Int} {n a:Nat} (h1:xs.length=n) (h2:ys.length=n) (ha:a<n):(qa4 xs t ys).getD a 0=xs.getD a 0 - t*ys.getD a 0:=by
  unfold qa4
  rw [List.getD_eq_getElem?_getD,List.getElem?_zipWith,qay (xs:=xs) (d:=0) (by omega),qay (xs:=ys) (d:=0) (by omega)]
  rfl
theorem qfd:∀ {xs ys:List Int} {A B n:Nat},(∀ x∈xs,x.natAbs≤A)→(∀ y∈ys,y.natAbs≤B)→xs.length≤n→(dot xs ys).natAbs≤n*(A*B)
  | [],ys,A,B,n,_,_,_=>by simp [dot]
  | x::xs,[],A,B,n,_,_,_=>by simp [dot]
  | x::xs,y::ys,A,B,0,_,_,h=>by simp at h
  | x::xs,y::ys,A,B,n+1,h1,h2,hl=>by
    have d:∀ (x y:Int) (es ns:List Int),dot (x::es) (y::ns)=x*y+dot es ns:=fun x y es ns=>by simp [dot]
    have ih:=qfd (xs:=xs) (ys:=ys) (n:=n) (fun z hz=>h1 z (List.mem_cons_of_mem _ hz)) (fun z hz=>h2 z (List.mem_cons_of_mem _ hz)) (by simpa using hl)
    have hxy:(x*y).natAbs≤A*B:=by rw [Int.natAbs_mul];exact Nat.mul_le_mul (h1 x List.mem_cons_self) (h2 y List.mem_cons_self)
    rw [d,Nat.add_mul,Nat.one_mul]
    have:=Int.natAbs_add_le (x*y) (dot xs ys)
    omega
theorem qkv {a b t yi yj Li Lj Z:Nat} (hab:b≤a) (ht:2*(t*b)≤2*a+b) (h1:2*a≤Li) (h2:2*b≤Lj) (h3:a≤Lj) (zi:yi*(Li*Li)≤Z) (zj:yj*(Lj*Lj)≤Z):(yi+t*yj)*(b*b)≤Z:=by
  have e1:4*(yi*(b*b))≤Z:=by
    have:(2*b)*(2*b)≤Li*Li:=Nat.mul_le_mul (by omega) (by omega)
    have:=Nat.mul_le_mul_left yi this
    have e:yi*(2*b*(2*b))=4*(yi*(b*b)):=by
      rw [show 2*b*(2*b)=4*(b*b) by rw [Nat.mul_mul_mul_comm],Nat.mul_left_comm]
    omega
  have e2:8*(t*yj*(b*b))≤5*Z:=by
    have e3:2*(t*yj*(b*b))≤(2*a+b)*b*yj:=by
      have h:=Nat.mul_le_mul_right (b*yj) ht
      have l:2*(t*b)*(b*yj)=2*(t*yj*(b*b)):=by ac_rfl
      have r:(2*a+b)*(b*yj)=(2*a+b)*b*yj:=(Nat.mul_assoc _ _ _).symm
      omega
    rcases Nat.lt_or_ge a (2*b) with c | c
    · have h4:(2*a+b)*b≤5*(b*b):=by rw [← Nat.mul_assoc];exact Nat.mul_le_mul_right b (by omega)
      have h5:(2*b)*(2*b)≤Lj*Lj:=Nat.mul_le_mul h2 h2
      have h6:4*(b*b)*yj≤Z:=by
        have:=Nat.mul_le_mul_left yj h5
        rw [show 2*b*(2*b)=4*(b*b) by rw [Nat.mul_mul_mul_comm]] at this
        rw [Nat.mul_comm (4*(b*b))]
        omega
      have h7:=Nat.mul_le_mul_right yj h4
      have h8:5*(b*b)*yj=5*(b*b*yj):=Nat.mul_assoc ..
      have h9:4*(b*b)*yj=4*(b*b*yj):=Nat.mul_assoc ..
      omega
    · have h4:4*((2*a+b)*b)≤5*(a*a):=by
        have k1:2*(a*b)≤a*a:=by
          have:=Nat.mul_le_mul_left a c
          rw [Nat.mul_left_comm] at this
          omega
        have k2:4*(b*b)≤a*a:=by
          have:=Nat.mul_le_mul c c
          rw [Nat.mul_mul_mul_comm] at this
          omega
        have k3:(2*a+b)*b=2*(a*b)+b*b:=by rw [Nat.add_mul,Nat.mul_assoc]
        omega
      have h5:a*a≤Lj*Lj:=Nat.mul_le_mul h3 h3
      have h6:a*a*yj≤Z:=by
        have:=Nat.mul_le_mul_left yj h5
        rw [Nat.mul_comm (a*a)]
        omega
      have h7:=Nat.mul_le_mul_right yj h4
      have h8:4*((2*a+b)*b)*yj=4*((2*a+b)*b*yj):=Nat.mul_assoc ..
      have h9:5*(a*a)*yj=5*(a*a*yj):=Nat.mul_assoc ..
      omega
  rw [Nat.add_mul]
  omega
theorem qjE {a b t y0 y1 V:Nat} (hab:b≤a) (ht:2*(t*b)≤2*a+b) (h0:a*y0≤V) (h1:b*y1≤V):b*(y1+t*y0)≤4*V:=by
  have e:2*(b*(t*y0))≤3*(a*y0):=by
    have h:=Nat.mul_le_mul_right y0 ht
    have h2:(2*a+b)*y0≤3*a*y0:=Nat.mul_le_mul_right y0 (by omega)
    have l:2*(t*b)*y0=2*(b*(t*y0)):=by rw [Nat.mul_assoc 2,Nat.mul_comm t b,Nat.mul_assoc b]
    have r:3*a*y0=3*(a*y0):=Nat.mul_assoc ..
    omega
  rw [Nat.mul_add]
  omega
def sC (e:Nat):Nat→Nat
  | 0=>0
  | k+1=>3*sC e k+2*e+2
def sT (e:Nat):Nat→Nat
  | 0=>0
  | k+1=>sT e k+(e+sC e k)+16*(e+sC e k+1)
theorem qjy {a b:Int} (hb:b≠0):2*(((2*a+b).fdiv (2*b)).natAbs*b.natAbs)≤2*a.natAbs+b.natAbs:=by
  have h1:=qcP (a:=a) hb
  generalize (2*a+b).fdiv (2*b)=x at h1
  rw [← Int.natAbs_mul]
  have h2:(x*b).natAbs≤a.natAbs+(a - x*b).natAbs:=by omega
  omega
structure JG (n many:Nat) (E:List Int) (Ls T0 C0:List (List Int)) (s w τ:Nat) (xs:List Int) (Ts Cs:List (List Int)) (m:Nat):Prop where
  lx:xs.length=n
  lT:Ts.length=n
  lC:Cs.length=n
  wT:∀ T∈Ts,T.length=n
  wC:∀ C∈Cs,C.length=n
  z0:∀ k,k<many→xs.getD k 0=0
  dt:∀ k,many≤k→k<n→dot E (Cs.getD k [])=xs.getD k 0
  k0:∀ k,k<many→Cs.getD k []=C0.getD k []
  sn:∀ L∈Ls,∀ k,many≤k→k<n→dot L (Cs.getD k [])=0
  dT:∀ i j,i<n→j<n→dot (Ts.getD i []) (Cs.getD j [])=if i=j then 1 else 0
  d1:∀ v:List Int,v.length=n→∀ a,a<n→qcK n (fun i=>dot (Ts.getD i []) v*(Cs.getD i []).getD a 0)=v.getD a 0
  d2:∀ v:List Int,v.length=n→∀ a,a<n→qcK n (fun i=>dot v (Cs.getD i [])*(Ts.getD i []).getD a 0)=v.getD a 0
  st:(Ts=T0∧Cs=C0)∨∃ k,k<n∧xs.getD k 0≠0
  mx:m=qeF xs
  bx:∀ k,k<n→(xs.getD k 0).natAbs≤2 ^ w
  bT:∀ j,j<n→∀ y∈Ts.getD j [],max 1 (xs.getD j 0).natAbs*y.natAbs≤2 ^ (τ+w+2*(8*(w+1) - m))
  bC:∃ L:Nat→Nat,∀ j,j<n→1≤L j∧2*(xs.getD j 0).natAbs≤L j∧(∀ k,k<n→(xs.getD k 0).natAbs≤L j)∧∀ y∈Cs.getD j [],y.natAbs*(L j*L j)≤2 ^ (s+2+2*w)
theorem qb6 {α:Type} {xs:List α} {x d:α} (h:x∈xs):∃ k,k<xs.length∧xs.getD k d=x:=by
  obtain ⟨k,hk⟩:=List.getElem?_of_mem h
  exact ⟨k,qaD hk,qck hk⟩
theorem qcQ {xs ys:List Int} {t z:Int} (h:z∈qa4 xs t ys):∃ u∈xs,∃ v∈ys,z=u - t*v:=by
  unfold qa4 at h
  obtain ⟨k,hk⟩:=List.getElem?_of_mem h
  rw [List.getElem?_zipWith] at hk
  cases e1:xs[k]? with
  | none=>rw [e1] at hk;simp at hk
  | some u =>
    cases e2:ys[k]? with
    | none=>rw [e1,e2] at hk;simp at hk
    | some v =>
      rw [e1,e2] at hk
      have e:u - t*v=z:=by simpa using hk
      exact ⟨u,List.mem_of_getElem? e1,v,List.mem_of_getElem? e2,e.symm⟩
section
variable {n many s w τ : Nat} {E : List Int} {Ls T0 C0 : List (List Int)}
theorem JG.sm {xs:List Int} {Ts Cs:List (List Int)} {m:Nat} (hn:n≤8) (h:JG n many E Ls T0 C0 s w τ xs Ts Cs m):m≤8*(w+1):=by
  rw [h.mx]
  have h1:=qgR (k:=w+1) (xs:=xs) fun y hy=>by
    obtain ⟨k,hk,rfl⟩:=qb6 (d:=0) hy
    refine qiS (Nat.lt_of_le_of_lt (h.bx k (by rw [← h.lx];exact hk)) (Nat.pow_lt_pow_right (by decide) (by omega)))
  have h2:xs.length*(w+1)≤8*(w+1):=Nat.mul_le_mul_right _ (by rw [h.lx];exact hn)
  omega
theorem JG.boundC {xs:List Int} {Ts Cs:List (List Int)} {m:Nat} (h:JG n many E Ls T0 C0 s w τ xs Ts Cs m):∀ j,j<n→∀ y∈Cs.getD j [],y.natAbs≤2 ^ (s+2+2*w):=fun j hj y hy=>by
  obtain ⟨L,hL⟩:=h.bC
  obtain ⟨l1,_,_,l4⟩:=hL j hj
  have:=l4 y hy
  have h1:1*1≤L j*L j:=Nat.mul_le_mul l1 l1
  have h2:y.natAbs*1≤y.natAbs*(L j*L j):=Nat.mul_le_mul_left _ (by omega)
  omega
theorem JG.boundT {xs:List Int} {Ts Cs:List (List Int)} {m:Nat} (h:JG n many E Ls T0 C0 s w τ xs Ts Cs m):∀ j,j<n→∀ y∈Ts.getD j [],y.natAbs≤2 ^ (τ+w+16*(w+1)):=fun j hj y hy=>by
  have h1:=h.bT j hj y hy
  have h2:1*y.natAbs≤max 1 (xs.getD j 0).natAbs*y.natAbs:=Nat.mul_le_mul_right _ (Nat.le_max_left _ _)
  have h3:2 ^ (τ+w+2*(8*(w+1) - m))≤2 ^ (τ+w+16*(w+1)):=Nat.pow_le_pow_right (by decide) (by omega)
  omega
theorem JG.ok (hn:n≤8) (hE:E.length=n) (hLs:∀ L∈Ls,L.length=n) (hw:many+1<n→w<8000) (hc:s+2+2*w<10000000) (hτ:τ+w+16*(w+1)<10000000):Jok n (JG n many E Ls T0 C0 s w τ):=by
  have big:∀ {q x:Nat},x≤2 ^ q→q<10000000→x<2 ^ 10000000:=fun {q x} h hq=>Nat.lt_of_le_of_lt h (Nat.pow_lt_pow_right (by decide) hq)
  refine ⟨fun h=>⟨h.lx,h.lT,h.lC⟩,fun h=>⟨fun C hC=>⟨by rw [h.wC C hC];omega,fun y hy=>?_⟩,fun T hT=>⟨by rw [h.wT T hT];omega,fun y hy=>?_⟩⟩,?_⟩
  · obtain ⟨k,hk,rfl⟩:=qb6 (d:=[]) hC
    exact big (h.boundC k (by rw [← h.lC];exact hk) y hy) hc
  · obtain ⟨k,hk,rfl⟩:=qb6 (d:=[]) hT
    exact big (h.boundT k (by rw [← h.lT];exact hk) y hy) hτ
  intro xs Ts Cs m i j h hi hj hij xj hle hrest x ex
  have lx:=h.lx
  have lT:=h.lT
  have lC:=h.lC
  have hle':(xs.getD j 0).natAbs≤(xs.getD i 0).natAbs:=by unfold qa9 at hle;omega
  have hrest':∀ k,k<n→k≠i→(xs.getD k 0).natAbs≤(xs.getD j 0).natAbs:=fun k hk hki=>by have:=hrest k hk hki;unfold qa9 at this;omega
  have xi:xs.getD i 0≠0:=by omega
  have half:=qcP (a:=xs.getD i 0) xj
  have size:=qgg xj hle'
  have nt:=qjy (a:=xs.getD i 0) xj
  rw [← ex] at half size nt
  have him:many≤i:=Nat.not_lt.mp fun z=>xi (h.z0 i z)
  have hjm:many≤j:=Nat.not_lt.mp fun z=>xj (h.z0 j z)
  have hw8:=hw (by omega)
  have bi:=h.bx i hi
  have bj:=h.bx j hj
  have bl:qd4 (xs.getD i 0 - x*xs.getD j 0)<qd4 (xs.getD i 0):=qgn xi (by omega)
  have hs:=qff (xs:=xs) (i:=i) (y:=xs.getD i 0 - x*xs.getD j 0) (by omega)
  have hm:=h.sm hn
  have em:=h.mx
  have mC:∀ k,k<n→Cs.getD k []∈Cs:=fun k hk=>qaT (by omega)
  have mT:∀ k,k<n→Ts.getD k []∈Ts:=fun k hk=>qaT (by omega)
  have wCi:=h.wC _ (mC i hi)
  have wCj:=h.wC _ (mC j hj)
  have wTi:=h.wT _ (mT i hi)
  have wTj:=h.wT _ (mT j hj)
  refine ⟨Nat.lt_of_le_of_lt bj (Nat.pow_lt_pow_right (by decide) hw8),big (q:=w+1) (by rw [Nat.pow_succ];omega) (by omega),qeF (xs.set i (xs.getD i 0 - x*xs.getD j 0)),by omega,?_⟩
  have gx:∀ k,(xs.set i (xs.getD i 0 - x*xs.getD j 0)).getD k 0=if k=i then xs.getD i 0 - x*xs.getD j 0 else xs.getD k 0:=fun k=>qb1 (by omega)
  have gC:∀ k,(Cs.set i (qa4 (Cs.getD i []) x (Cs.getD j []))).getD k []=if k=i then qa4 (Cs.getD i []) x (Cs.getD j []) else Cs.getD k []:=fun k=>qb1 (by omega)
  have gT:∀ k,(Ts.set j (qa4 (Ts.getD j []) (-x) (Ts.getD i []))).getD k []=if k=j then qa4 (Ts.getD j []) (-x) (Ts.getD i []) else Ts.getD k []:=fun k=>qb1 (by omega)
  have dCi:∀ L:List Int,L.length=n→dot L (qa4 (Cs.getD i []) x (Cs.getD j []))=dot L (Cs.getD i []) - x*dot L (Cs.getD j []):=fun L hL=>qdZ x (by rw [wCi,hL]) (by rw [wCj,hL])
  have dTj:∀ L:List Int,L.length=n→dot (qa4 (Ts.getD j []) (-x) (Ts.getD i [])) L=dot (Ts.getD j []) L+x*dot (Ts.getD i []) L:=fun L hL=>by
    rw [qgH (-x) (by rw [wTj,hL]) (by rw [wTi,hL]),Int.neg_mul,Int.sub_neg]
  have wTd:∀ k,k<n→(Ts.getD k []).length=n:=fun k hk=>h.wT _ (mT k hk)
  have wCd:∀ k,k<n→(Cs.getD k []).length=n:=fun k hk=>h.wC _ (mC k hk)
  refine ⟨by rw [List.length_set];exact lx,by rw [List.length_set];exact lT,by rw [List.length_set];exact lC,fun T hT=>?_,fun C hC=>?_,fun k hk=>?_,fun k hk1 hk2=>?_,fun k hk=>?_,fun L hL k hk1 hk2=>?_,fun p q hp hq=>?_,fun v hv a ha=>?_,fun v hv a ha=>?_,.inr ⟨j,hj,by rw [gx,if_neg (Ne.symm hij)];exact xj⟩,rfl,fun k hk=>?_,fun k hk y hy=>?_,?_⟩
  · rcases qbt hT with rfl | hT
    · exact qdc wTj wTi
    · exact h.wT T hT
  · rcases qbt hC with rfl | hC
    · exact qdc wCi wCj
    · exact h.wC C hC
  · rw [gx,if_neg (by omega)];exact h.z0 k hk
  · rw [gx,gC]
    split
    · rw [dCi E hE,h.dt i him hi,h.dt j hjm hj]
    · exact h.dt k hk1 hk2
  · rw [gC,if_neg (by omega)];exact h.k0 k hk
  · rw [gC]
    split
    · rw [dCi L (hLs L hL),h.sn L hL i him hi,h.sn L hL j hjm hj,Int.mul_zero];rfl
    · exact h.sn L hL k hk1 hk2
  · have base:=h.dT
    rw [gT,gC]
    by_cases c1:p=j
    · subst c1
      rw [if_pos rfl]
      by_cases c2:q=i
      · subst c2
        rw [if_pos rfl,dTj _ (qdc wCi wCj),dCi _ wTj,dCi _ wTi,base p q hj hi,base p p hj hj,base q q hi hi,base q p hi hj,if_neg (Ne.symm hij),if_pos rfl,if_pos rfl,if_neg hij,Int.mul_zero,Int.sub_zero,Int.mul_one]
        omega
      · rw [if_neg c2,dTj _ (wCd q hq),base p q hj hq,base i q hi hq,if_neg (show ¬ i=q from fun z=>c2 z.symm),Int.mul_zero,Int.add_zero]
    · rw [if_neg c1]
      by_cases c2:q=i
      · subst c2
        rw [if_pos rfl,dCi _ (wTd p hp),base p q hp hi,base p j hp hj,if_neg c1,Int.mul_zero,Int.sub_zero]
      · rw [if_neg c2];exact base p q hp hq
  · rw [← h.d1 v hv a ha]
    refine qdO hi hj hij (fun k hk h1 h2=>?_) ?_
    · show dot ((Ts.set j _).getD k []) v*((Cs.set i _).getD k []).getD a 0=_
      rw [gT,gC,if_neg h2,if_neg h1]
    · show dot ((Ts.set j _).getD i []) v*((Cs.set i _).getD i []).getD a 0+dot ((Ts.set j _).getD j []) v*((Cs.set i _).getD j []).getD a 0=_
      rw [gT,gC,gT,gC,if_neg hij,if_pos rfl,if_pos rfl,if_neg (Ne.symm hij),qfl wCi wCj ha,dTj v hv,Int.mul_sub,Int.add_mul,Int.mul_left_comm,Int.mul_assoc x]
      omega
  · rw [← h.d2 v hv a ha]
    refine qdO hi hj hij (fun k hk h1 h2=>?_) ?_
    · show dot v ((Cs.set i _).getD k [])*((Ts.set j _).getD k []).getD a 0=_
      rw [gT,gC,if_neg h2,if_neg h1]
    · show dot v ((Cs.set i _).getD i [])*((Ts.set j _).getD i []).getD a 0+dot v ((Cs.set i _).getD j [])*((Ts.set j _).getD j []).getD a 0=_
      rw [gT,gC,gT,gC,if_neg hij,if_pos rfl,if_pos rfl,if_neg (Ne.symm hij),qfl wTj wTi ha,dCi v hv,Int.sub_mul,Int.neg_mul,Int.sub_neg,Int.mul_add,Int.mul_left_comm (dot v (Cs.getD j [])),Int.mul_assoc x]
      omega
  · rw [gx]
    split
    · omega
    · exact h.bx k hk
  · have hV:2 ^ (τ+w+2*(8*(w+1) - m))≤2 ^ (τ+w+2*(8*(w+1) - qeF (xs.set i (xs.getD i 0 - x*xs.getD j 0))))∧4*2 ^ (τ+w+2*(8*(w+1) - m))≤2 ^ (τ+w+2*(8*(w+1) - qeF (xs.set i (xs.getD i 0 - x*xs.getD j 0)))):=by
      have h1:τ+w+2*(8*(w+1) - m)+2≤τ+w+2*(8*(w+1) - qeF (xs.set i (xs.getD i 0 - x*xs.getD j 0))):=by omega
      have h2:=Nat.pow_le_pow_right (n:=2) (by decide) h1
      rw [Nat.pow_add] at h2
      omega
    generalize 2 ^ (τ+w+2*(8*(w+1) - qeF (xs.set i (xs.getD i 0 - x*xs.getD j 0))))=V' at hV
    have hbT:=h.bT
    generalize 2 ^ (τ+w+2*(8*(w+1) - m))=V at hV hbT
    rw [gT] at hy
    rw [gx]
    by_cases c1:k=j
    · subst c1
      rw [if_pos rfl] at hy
      rw [if_neg (Ne.symm hij)]
      obtain ⟨u,hu,v,hv,rfl⟩:=qcQ hy
      have e1:=hbT k hj u hu
      have e2:=hbT i hi v hv
      have m1:max 1 (xs.getD k 0).natAbs=(xs.getD k 0).natAbs:=Nat.max_eq_right (by omega)
      have m2:max 1 (xs.getD i 0).natAbs=(xs.getD i 0).natAbs:=Nat.max_eq_right (by omega)
      rw [m1] at e1 ⊢
      rw [m2] at e2
      have e3:=qjE hle' nt e2 e1
      have e4:(u - -x*v).natAbs≤u.natAbs+x.natAbs*v.natAbs:=by
        rw [← Int.natAbs_mul,Int.neg_mul]
        omega
      have e5:=Nat.mul_le_mul_left (xs.getD k 0).natAbs e4
      omega
    · rw [if_neg c1] at hy
      have e1:=hbT k hk y hy
      split
      · next c2 =>
        subst c2
        have:max 1 (xs.getD k 0 - x*xs.getD j 0).natAbs≤max 1 (xs.getD k 0).natAbs:=by omega
        have:=Nat.mul_le_mul_right y.natAbs this
        omega
      · omega
  · obtain ⟨L,hL⟩:=h.bC
    obtain ⟨i1,i2,i3,i4⟩:=hL i hi
    obtain ⟨j1,j2,j3,j4⟩:=hL j hj
    refine ⟨fun k=>if k=i then (xs.getD j 0).natAbs else L k,fun k hk=>?_⟩
    have qbZ:∀ p,p<n→((xs.set i (xs.getD i 0 - x*xs.getD j 0)).getD p 0).natAbs≤(xs.getD j 0).natAbs:=fun p hp=>by
      rw [gx]
      split
      · omega
      · next c=>exact hrest' p hp c
    show 1≤(if k=i then (xs.getD j 0).natAbs else L k)∧_≤(if k=i then (xs.getD j 0).natAbs else L k)∧(∀ p,p<n→_≤(if k=i then (xs.getD j 0).natAbs else L k))∧∀ y∈(_:List Int),y.natAbs*((if k=i then (xs.getD j 0).natAbs else L k)*(if k=i then (xs.getD j 0).natAbs else L k))≤_
    by_cases c:k=i
    · subst c
      rw [if_pos rfl,gx,if_pos rfl,gC,if_pos rfl]
      refine ⟨by omega,by omega,qbZ,fun y hy=>?_⟩
      obtain ⟨u,hu,v,hv,rfl⟩:=qcQ hy
      have e3:=qkv hle' nt i2 j2 (j3 k hk) (i4 u hu) (j4 v hv)
      have e4:(u - x*v).natAbs≤u.natAbs+x.natAbs*v.natAbs:=by
        rw [← Int.natAbs_mul]
        omega
      have e5:=Nat.mul_le_mul_right ((xs.getD j 0).natAbs*(xs.getD j 0).natAbs) e4
      omega
    · rw [if_neg c,gx,if_neg c,gC,if_neg c]
      obtain ⟨l1,l2,l3,l4⟩:=hL k hk
      exact ⟨l1,l2,fun p hp=>Nat.le_trans (qbZ p hp) (l3 j hj),l4⟩
end
structure LvG (n e:Nat) (Ls:List (List Int)) (Ts Cs:List (List Int)) (many:Nat):Prop where
  lT:Ts.length=n
  lC:Cs.length=n
  wT:∀ T∈Ts,T.length=n
  wC:∀ C∈Cs,C.length=n
  mn:many≤n
  sn:∀ L∈Ls,∀ k,many≤k→k<n→dot L (Cs.getD k [])=0
  la:∀ k,k<many→∃ L∈Ls,dot L (Cs.getD k [])≠0∧∀ j,k<j→j<n→dot L (Cs.getD j [])=0
  dT:∀ i j,i<n→j<n→dot (Ts.getD i []) (Cs.getD j [])=if i=j then 1 else 0
  d1:∀ v:List Int,v.length=n→∀ a,a<n→qcK n (fun i=>dot (Ts.getD i []) v*(Cs.getD i []).getD a 0)=v.getD a 0
  d2:∀ v:List Int,v.length=n→∀ a,a<n→qcK n (fun i=>dot v (Cs.getD i [])*(Ts.getD i []).getD a 0)=v.getD a 0
  bT:∀ j,j<n→∀ y∈Ts.getD j [],y.natAbs≤2 ^ sT e many
  bC:∀ j,j<n→∀ y∈Cs.getD j [],y.natAbs≤2 ^ sC e many
theorem qet {n k a:Nat} (ha:a<n):(unL n k).getD a 0=if a=k then 1 else 0:=by
  unfold unL
  rw [List.getD_eq_getElem?_getD,List.getElem?_map,List.getElem?_range ha]
  rfl
theorem LvG.start (n e:Nat):LvG n e [] (qbJ n) (qbJ n) 0:=by
  have lu:(qbJ n).length=n:=by unfold qbJ;rw [List.length_map,List.length_range]
  have um:∀ U∈qbJ n,U.length=n:=fun U hU=>by
    obtain ⟨k,_,rfl⟩:=List.mem_map.mp hU
    exact qgP n k
  have du:∀ {v:List Int} {k:Nat},v.length=n→k<n→dot (unL n k) v=v.getD k 0:=fun hv hk=>by rw [qbL];exact qf0 hv hk
  refine ⟨lu,lu,um,um,Nat.zero_le _,fun L h=>absurd h List.not_mem_nil,fun k h=>absurd h (Nat.not_lt_zero _),fun i j hi hj=>?_,fun v hv a ha=>?_,fun v hv a ha=>?_,fun j hj y hy=>?_,fun j hj y hy=>?_⟩
  · rw [qbe hi,qbe hj,qf0 (qgP n i) hj,qet hj]
    by_cases c:i=j
    · rw [if_pos c,if_pos c.symm]
    · rw [if_neg c,if_neg (Ne.symm c)]
  · rw [qdq ha fun k hk hka=>?_]
    · rw [qbe ha,du hv ha,qet ha,if_pos rfl,Int.mul_one]
    · rw [qbe hk,qet ha,if_neg (Ne.symm hka),Int.mul_zero]
  · rw [qdq ha fun k hk hka=>?_]
    · rw [qbe ha,qf0 hv ha,qet ha,if_pos rfl,Int.mul_one]
    · rw [qbe hk,qet ha,if_neg (Ne.symm hka),Int.mul_zero]
  · rw [qbe hj] at hy;exact Nat.le_trans (qif y hy) Nat.one_le_two_pow
  · rw [qbe hj] at hy;exact Nat.le_trans (qif y hy) Nat.one_le_two_pow
theorem qhw {n many:Nat} {E:List Int} {Cs:List (List Int)} (lC:Cs.length=n) (mn:many≤n):(qbV many E Cs).length=n∧(∀ k,k<many→(qbV many E Cs).getD k 0=0)∧∀ k,many≤k→k<n→(qbV many E Cs).getD k 0=dot E (Cs.getD k []):=by
  unfold qbV
  refine ⟨by rw [List.length_append,List.length_replicate,List.length_map,List.length_drop];omega,fun k hk=>?_,fun k hk hkn=>?_⟩
  · rw [List.getD_eq_getElem?_getD,List.getElem?_append_left (by rw [List.length_replicate];exact hk),List.getElem?_replicate,if_pos hk]
    rfl
  · rw [List.getD_eq_getElem?_getD,List.getElem?_append_right (by rw [List.length_replicate];exact hk),List.length_replicate,List.getElem?_map,List.getElem?_drop,show many+(k - many)=k by omega,qay (xs:=Cs) (d:=[]) (by omega)]
    rfl
section
variable {n e many : Nat} {E : List Int} {Ls Ts Cs : List (List Int)}
theorem LvG.toJ (he:3≤e) (hn:n≤8) (h:LvG n e Ls Ts Cs many) (hE:E.length=n) (hb:∀ x∈E,x.natAbs≤2 ^ (e - 3)):JG n many E Ls Ts Cs (sC e many) (e+sC e many) (sT e many) (qbV many E Cs) Ts Cs (qeF (qbV many E Cs)):=by
  obtain ⟨l1,l2,l3⟩:=qhw (E:=E) h.lC h.mn
  have bx:∀ k,k<n→((qbV many E Cs).getD k 0).natAbs≤2 ^ (e+sC e many):=fun k hk=>by
    rcases Nat.lt_or_ge k many with c | c
    · rw [l2 k c];exact Nat.zero_le _
    · rw [l3 k c hk]
      have:=qfd (n:=8) hb (h.bC k hk) (by omega)
      have e1:2 ^ (e+sC e many)=8*(2 ^ (e - 3)*2 ^ sC e many):=by
        rw [show e+sC e many=3+((e - 3)+sC e many) by omega,Nat.pow_add,Nat.pow_add]
      omega
  refine ⟨l1,h.lT,h.lC,h.wT,h.wC,l2,fun k k1 k2=>(l3 k k1 k2).symm,fun k _=>rfl,h.sn,h.dT,h.d1,h.d2,.inl ⟨rfl,rfl⟩,rfl,bx,fun j hj y hy=>?_,fun _=>2*2 ^ (e+sC e many),fun j hj=>⟨?_,?_,fun k hk=>?_,fun y hy=>?_⟩⟩
  · have h1:max 1 ((qbV many E Cs).getD j 0).natAbs≤2 ^ (e+sC e many):=Nat.max_le.mpr ⟨Nat.one_le_two_pow,bx j hj⟩
    have h2:=Nat.mul_le_mul h1 (h.bT j hj y hy)
    rw [← Nat.pow_add] at h2
    exact Nat.le_trans h2 (Nat.pow_le_pow_right (by decide) (by omega))
  · have:=Nat.one_le_two_pow (n:=e+sC e many);show 1≤2*2 ^ (e+sC e many);omega
  · have:=bx j hj;show _≤2*2 ^ (e+sC e many);omega
  · have:=bx k hk;show _≤2*2 ^ (e+sC e many);omega
  · show y.natAbs*(2*2 ^ (e+sC e many)*(2*2 ^ (e+sC e many)))≤_
    have h1:=h.bC j hj y hy
    have h2:2 ^ (sC e many+2+2*(e+sC e many))=2 ^ sC e many*(2*2 ^ (e+sC e many)*(2*2 ^ (e+sC e many))):=by
      rw [show sC e many+2+2*(e+sC e many)=sC e many+((1+(e+sC e many))+(1+(e+sC e many))) by omega,Nat.pow_add,Nat.pow_add,Nat.pow_add]
    rw [h2]
    exact Nat.mul_le_mul_right _ h1
theorem LvG.none {xs:List Int} {Ts' Cs':List (List Int)} {m s w τ:Nat} (h:LvG n e Ls Ts Cs many) (j:JG n many E Ls Ts Cs s w τ xs Ts' Cs' m) (z:∀ k,k<xs.length→xs.getD k 0=0):LvG n e (Ls++[E]) Ts' Cs' many:=by
  rcases j.st with ⟨e1,e2⟩ | ⟨k,hk,hx⟩
  · have hE0:∀ k,many≤k→k<n→dot E (Cs'.getD k [])=0:=fun k k1 k2=>by rw [j.dt k k1 k2];exact z k (by rw [j.lx];exact k2)
    rw [e2] at hE0 ⊢
    rw [e1]
    refine ⟨h.lT,h.lC,h.wT,h.wC,h.mn,fun L hL k k1 k2=>?_,fun k hk=>?_,h.dT,h.d1,h.d2,h.bT,h.bC⟩
    · rcases List.mem_append.mp hL with hL | hL
      · exact h.sn L hL k k1 k2
      · rw [List.mem_singleton.mp hL];exact hE0 k k1 k2
    · obtain ⟨L,hL,q⟩:=h.la k hk
      exact ⟨L,List.mem_append_left _ hL,q⟩
  · exact absurd (z k (by rw [j.lx];exact hk)) hx
theorem qgF {As:List (List Int)} {n k m:Nat} (hA:As.length=n) (hk:k<n) (hm:m<n) (j:Nat):(qc6 As k m).getD j []=As.getD (if j=m then k else if j=k then m else j) []:=by
  unfold qc6
  rw [qb1 (by rw [List.length_set];omega),qb1 (by omega)]
  split
  · rfl
  · split <;> rfl
theorem qfk {As:List (List Int)} {n k m:Nat} (hA:As.length=n) (hk:k<n) (hm:m<n):(qc6 As k m).length=n∧∀ A∈qc6 As k m,A∈As:=by
  unfold qc6
  refine ⟨by rw [List.length_set,List.length_set];exact hA,fun A hA'=>?_⟩
  rcases qbt hA' with rfl | hA'
  · exact qaT (by omega)
  · rcases qbt hA' with rfl | hA'
    · exact qaT (by omega)
    · exact hA'
theorem qez {f g:Nat→Int} {n k m:Nat} (hk:k<n) (hm:m<n) (h:∀ j,j<n→g j=f (if j=m then k else if j=k then m else j)):qcK n g=qcK n f:=by
  by_cases c:k=m
  · subst c
    refine qbq fun j hj=>?_
    rw [h j hj]
    by_cases c:j=k
    · rw [if_pos c,c]
    · rw [if_neg c,if_neg c]
  · refine qdO hk hm c (fun j hj h1 h2=>?_) ?_
    · rw [h j hj,if_neg h2,if_neg h1]
    · rw [h k hk,h m hm,if_neg c,if_pos rfl,if_pos rfl];omega
theorem LvG.some {xs:List Int} {Ts' Cs':List (List Int)} {m k:Nat} (h:LvG n e Ls Ts Cs many) (hE:E.length=n) (j:JG n many E Ls Ts Cs (sC e many) (e+sC e many) (sT e many) xs Ts' Cs' m) (hk:k<xs.length) (hx:xs.getD k 0≠0) (z:∀ i,i<xs.length→i≠k→xs.getD i 0=0):LvG n e (Ls++[E]) (qc6 Ts' k many) (qc6 Cs' k many) (many+1):=by
  have hkn:k<n:=by rw [← j.lx];exact hk
  have hkm:many≤k:=Nat.not_lt.mp fun c=>hx (j.z0 k c)
  have hmn:many<n:=by omega
  have sT1:=qgF (As:=Ts') j.lT hkn hmn
  have sC1:=qgF (As:=Cs') j.lC hkn hmn
  obtain ⟨t1,t2⟩:=qfk (As:=Ts') j.lT hkn hmn
  obtain ⟨c1,c2⟩:=qfk (As:=Cs') j.lC hkn hmn
  have sg:∀ i,i<n→(if i=many then k else if i=k then many else i)<n:=fun i hi=>by
    split
    · exact hkn
    · split <;> omega
  have sge:∀ i,many<i→i<n→many≤(if i=many then k else if i=k then many else i)∧(if i=many then k else if i=k then many else i)≠k:=fun i h1 h2=>by
    rw [if_neg (by omega)]
    split
    · omega
    · omega
  have slt:∀ i,i<many→(if i=many then k else if i=k then many else i)=i:=fun i h1=>by rw [if_neg (by omega),if_neg (by omega)]
  have hE0:∀ i,many<i→i<n→dot E ((qc6 Cs' k many).getD i [])=0:=fun i h1 h2=>by
    rw [sC1,j.dt _ (sge i h1 h2).1 (sg i h2)]
    exact z _ (by rw [j.lx];exact sg i h2) (sge i h1 h2).2
  have hL0:∀ L∈Ls,∀ i,many≤i→i<n→dot L ((qc6 Cs' k many).getD i [])=0:=fun L hL i h1 h2=>by
    rw [sC1]
    refine j.sn L hL _ ?_ (sg i h2)
    split
    · exact hkm
    · split <;> omega
  refine ⟨t1,c1,fun T hT=>j.wT T (t2 T hT),fun C hC=>j.wC C (c2 C hC),hmn,fun L hL i h1 h2=>?_,fun q hq=>?_,fun p q hp hq=>?_,fun v hv a ha=>?_,fun v hv a ha=>?_,fun i hi y hy=>?_,fun i hi y hy=>?_⟩
  · rcases List.mem_append.mp hL with hL | hL
    · exact hL0 L hL i (by omega) h2
    · rw [List.mem_singleton.mp hL];exact hE0 i (by omega) h2
  · rcases Nat.lt_or_ge q many with c | c
    · obtain ⟨L,hL,q1,q2⟩:=h.la q c
      refine ⟨L,List.mem_append_left _ hL,?_,fun i h1 h2=>?_⟩
      · rw [sC1,slt q c,j.k0 q c];exact q1
      · rcases Nat.lt_or_ge i many with c' | c'
        · rw [sC1,slt i c',j.k0 i c'];exact q2 i h1 h2
        · exact hL0 L hL i c' h2
    · have eq:q=many:=by omega
      subst eq
      refine ⟨E,List.mem_append_right _ (List.mem_singleton.mpr rfl),?_,fun i h1 h2=>hE0 i h1 h2⟩
      rw [sC1,if_pos rfl,j.dt k hkm hkn]
      exact hx
  · rw [sT1,sC1,j.dT _ _ (sg p hp) (sg q hq)]
    by_cases c:p=q
    · rw [c,if_pos rfl,if_pos rfl]
    · rw [if_neg c,if_neg]
      intro e
      split at e <;> split at e <;> (try split at e) <;> (try split at e) <;> omega
  · rw [← j.d1 v hv a ha]
    exact qez hkn hmn fun i hi=>by rw [sT1,sC1]
  · rw [← j.d2 v hv a ha]
    exact qez hkn hmn fun i hi=>by rw [sT1,sC1]
  · rw [sT1] at hy
    exact j.boundT _ (sg i hi) y hy
  · rw [sC1] at hy
    have:=j.boundC _ (sg i hi) y hy
    rwa [show sC e (many+1)=sC e many+2+2*(e+sC e many) by show 3*sC e many+2*e+2=_;omega]
end
def vD (e:List Int):D:=.tup (e.map D.int)
def qdS:SpD:=fun ds R=>∃ (n e:Nat) (Ls:List (List Int)),ds=[.int (n:Int),.tup (Ls.map vD)]∧((e=9∧n≤8)∨(e=73∧n≤4))∧(∀ L∈Ls,L.length=n∧∀ x∈L,x.natAbs≤2 ^ (e - 3)) ∧
  ∀ Ts Cs many,LvG n e Ls Ts Cs many→R (.tup [.tup (Ts.map vD),.tup (Cs.map vD),.int (many:Int)])
abbrev qeB (K:PySem.W.Frag):Sp:=lSp K qdS
theorem qeN {K:PySem.W.Frag}:∀ vs H Q E,lSp K qdS vs H Q E→qeB K vs H Q E:=fun _ _ _ _ h=>h
theorem qmx:∀ k:Nat,k<9→(k<7→9+sC 9 k<8000)∧sC 9 k+2+2*(9+sC 9 k)<10000000∧sT 9 k+(9+sC 9 k)+16*(9+sC 9 k+1)<10000000:=by decide +kernel
theorem qkP:∀ k:Nat,k<5→(k<3→73+sC 73 k<8000)∧sC 73 k+2+2*(73+sC 73 k)<10000000∧sT 73 k+(73+sC 73 k)+16*(73+sC 73 k+1)<10000000:=by decide +kernel
theorem qlC {n e k:Nat} (h:(e=9∧n≤8)∨(e=73∧n≤4)) (hk:k≤n):(k+1<n→e+sC e k<8000)∧sC e k+2+2*(e+sC e k)<10000000∧sT e k+(e+sC e k)+16*(e+sC e k+1)<10000000:=by
  rcases h with ⟨rfl,hn⟩ | ⟨rfl,hn⟩
  · obtain ⟨h1,h2,h3⟩:=qmx k (by omega)
    exact ⟨fun _=>h1 (by omega),h2,h3⟩
  · obtain ⟨h1,h2,h3⟩:=qkP k (by omega)
    exact ⟨fun _=>h1 (by omega),h2,h3⟩
def qiw (Φ H':Hp):Hp:=fun b=>match Φ b with
  | some u=>some u
  | none=>match H' b with
    | some (.tup xs)=>some (.tup xs)
    | some (.frz o (.tup xs))=>some (.frz o (.tup xs))
    | _=>none
theorem qi2 {Φ H H':Hp} (sm:Same Φ H) (s:Same H H'):Gr Φ H (qiw Φ H') H':=by
  refine ⟨fun b u e=>?_,s,fun b u e=>?_,fun b u hb hn ko=>?_⟩
  · unfold qiw;rw [e]
  · unfold qiw at e
    cases h:Φ b with
    | some v=>rw [h] at e;cases e;exact s _ _ (sm _ _ h)
    | none =>
      rw [h] at e
      simp only at e
      split at e
      · next h2=>cases e;exact h2
      · next h2=>cases e;exact h2
      · cases e
  · unfold qiw
    rw [hn]
    simp only
    rw [s _ _ hb]
    cases u with
    | lst _=>rfl
    | dK _=>rfl
    | dT _=>rfl
    | _=>first | rfl | exact ko.elim
theorem qcF {Φ H':Hp} {a:Addr} {xs:List V} (sm:Same Φ H') (h:H' a=some (.tup xs)):qiw Φ H' a=some (.tup xs):=by
  unfold qiw
  cases e:Φ a with
  | some u=>have:=sm _ _ e;rw [h] at this;cases this;rfl
  | none=>simp only;rw [h]
theorem qil {H:Hp} {vs:List V} {Ls:List (List Int)} (h:RpL K H (Ls.map vD) vs):Vecs K H vs Ls:=by
  refine ⟨by rw [h.1,List.length_map],fun i e he=>?_⟩
  obtain ⟨v,hv,rv⟩:=h.at (i:=i) (d:=vD e) (by rw [List.getElem?_map,he];rfl)
  obtain ⟨a,rfl,ha⟩:=qfh rv
  exact ⟨a,hv,ha⟩
theorem qgp {H:Hp} {vs:List V} {Ls:List (List Int)} (h:Vecs K H vs Ls):RpL K H (Ls.map vD) vs:=by
  refine ⟨by rw [h.1,List.length_map],fun i v d hv hd=>?_⟩
  rw [List.getElem?_map] at hd
  cases hi:Ls[i]? with
  | none=>rw [hi] at hd;cases hd
  | some e =>
    rw [hi] at hd
    cases hd
    obtain ⟨a,ha,hA⟩:=h.2 i e hi
    rw [hv] at ha
    cases ha
    exact qc3 hA
theorem qgt {n:Nat} {f:Addr} {fd:FuncData} (F:Fun K "levels" "levels" qcN f fd) {C_Basis:Addr} (T_Basis:TxtBasis K mg C_Basis) {f_plain_basis:Addr} {d_plain_basis:FuncData} (G_plain_basis:FnOk P w K mg base CX0 n f_plain_basis d_plain_basis ["n"] (qbT K C_Basis)) (b_plain_basis:Binds K d_plain_basis ["n"] []) (k_plain_basis:PySem.W.keepIn K (.ref f_plain_basis)=true) (m_plain_basis:mg "plain_basis"=some (.ref f_plain_basis)) {f_gather:Addr} {d_gather:FuncData} (G_gather:FnOk P w K mg base CX0 n f_gather d_gather ["basis","many","entries"] (qex K C_Basis)) (b_gather:Binds K d_gather ["basis","many","entries"] []) (k_gather:PySem.W.keepIn K (.ref f_gather)=true) (m_gather:mg "gather"=some (.ref f_gather)) {f_Basis__exchange:Addr} {d_Basis__exchange:FuncData} (G_Basis__exchange:FnOk P w K mg base CX0 n f_Basis__exchange d_Basis__exchange ["self","place","other"] (qbj K C_Basis)) (b_Basis__exchange:Binds K d_Basis__exchange ["self","place","other"] []) (mt_Basis__exchange:Meth K C_Basis "exchange" f_Basis__exchange) (z_tuple:mg "tuple"=none):FnOk P w K mg base CX0 (n+1) f fd ["n","lists"] (qeB K):=by
  refine F.ok sc_levels (fun vs H Q E h=>?_) (fun cdv A outer s H vs Q E hr h=>?_)
  · obtain ⟨Φ,ds,R,_,_,rl,⟨m,e,Ls,rfl,_⟩,_⟩:=h
    rw [rl.1];rfl
  obtain ⟨Φ,ds,R,sm,tb,rl,⟨m,e,Ls,rfl,hcase,hLs,q⟩,kk⟩:=h
  have hn:m≤8:=by omega
  have he:3≤e:=by omega
  obtain ⟨v1,v2,rfl,r1,r2⟩:=rl.two_inv
  cases r1
  obtain ⟨la,lv,rfl,hla,hlv⟩:∃ la lv,v2=.ref la∧Φ la=some (.tup lv)∧Vecs K Φ lv Ls:=by
    cases r2 with
    | tup h1 h2 h3=>exact ⟨_,_,rfl,h1,qil ⟨h2,h3⟩⟩
  have tabH:=tb.same sm
  refine ⟨_,(qax (qbE (i:=2) sc_levels.nd rfl (Or.inl rfl) (qbo G_plain_basis hr rfl m_plain_basis k_plain_basis b_plain_basis .nil qcg (qam (pv 0) pa_nil qaa) (he:=qaa) (hpl:=qaf)))
      (qax (qbE (i:=3) sc_levels.nd rfl (Or.inl rfl) qbi)
      (qax (qig PassesOwn.never rfl (qkq (pv 1)) (qdT (i:=4) sc_levels.nd rfl (Or.inl rfl)) (qax (qbE (i:=5) sc_levels.nd rfl (Or.inl rfl) (qbo G_gather hr rfl m_gather k_gather b_gather .nil qcg (qam (pv 2) (qam (pv 3) (qam (pv 4) pa_nil qaa) qaa) qaa) (he:=qaa) (hpl:=(qaj qaa (qaj qaa qaf)))))
      (qbm (qj2 (qdD qiB (pv 5) qib (qaZ _)) (qax (qeY (qgG (pv 2) T_Basis.cl mt_Basis__exchange G_Basis__exchange hr b_Basis__exchange .nil qcg (qam (pv 5) (qam (pv 3) pa_nil qaa) qaa)))
      (qbm (qbE (i:=3) sc_levels.nd rfl (Or.inl rfl) (qfA qia (pv 3) qbi)))) pss_nil))))
      (qbm (qfr (qkd (qam (qbP qaQ rfl z_tuple PyProof.Rows.boot_tuple (qam (qa0 (pv 2) rfl) pa_nil qbh) (he:=qbh) (hpl:=qaf)) (qam (qbP qaQ rfl z_tuple PyProof.Rows.boot_tuple (qam (qa0 (pv 2) rfl) pa_nil qbh) (he:=qbh) (hpl:=qaf)) (qam (pv 3) pa_nil qaa) qco) qco))))))),?_⟩
  refine ⟨_,rfl,m,rfl,hn,tabH,fun p t c tv0 cv0 H1 s1 np nt nc B1 hT1 hC1=>?_⟩
  have ntc:=B1.ne
  have sΦ1:Same Φ H1:=fun b u e=>s1 _ _ (sm _ _ e)
  refine ⟨_,rfl,la,rfl,⟨_,SqT.of (sΦ1 _ _ hla)⟩,?_⟩
  refine qki (xs:=lv) (fun i σ H'=>∃ (tv cv:List V) (Ts Cs:List (List Int)) (many:Nat) (u4 u5:Option V),σ=[some (.int m),some (.ref la),some (.ref p),some (.int many),u4,u5]∧Same H H'∧BasAt C_Basis H' p t c tv cv∧Vecs K H' tv Ts∧Vecs K H' cv Cs∧LvG m e (Ls.take i) Ts Cs many) ⟨tv0,cv0,_,_,0,_,_,rfl,s1,B1,hT1,hC1,LvG.start m e⟩ ?_ ?_ ?_
  · rintro i σ H' _ ⟨tv,cv,Ts,Cs,many,u4,u5,rfl,g,_⟩
    exact SqT.of (g _ _ (sm _ _ hla))
  · rintro i x σ H' hx ⟨tv,cv,Ts,Cs,many,u4,u5,rfl,g,B,hT,hC,hv⟩
    have hil:i<Ls.length:=by rw [← hlv.1];exact qaD hx
    obtain ⟨ea,hea,hEa⟩:=hlv.2 i _ (qay (d:=[]) hil)
    rw [hx] at hea
    cases hea
    have sΦ:Same Φ H':=fun b u e=>g _ _ (sm _ _ e)
    have hEa':=sΦ _ _ hEa
    have tab':=tb.same sΦ
    obtain ⟨⟨dx,hp⟩,ht,hc,_⟩:=id B
    obtain ⟨lL,bL'⟩:=hLs _ (qaT (xs:=Ls) (d:=[]) hil)
    have bL:∀ y∈Ls.getD i [],qcB y:=fun y hy=>qeQ (bL' y hy) (by omega)
    have same':∀ {H2:Hp},But [t,c] H' H2→Same H H2:=fun {H2} b b' u e=>b b' u (g _ _ e) fun hm=>by
      simp at hm
      rcases hm with z | z
      · rw [z,nt] at e;cases e
      · rw [z,nc] at e;cases e
    obtain ⟨tw,tc,tt⟩:=qlC hcase hv.mn
    have hLt:∀ L∈Ls.take i,L.length=m:=fun L hL=>(hLs L (List.mem_of_mem_take hL)).1
    have j0:=hv.toJ he hn lL bL'
    have hJ:=JG.ok (T0:=Ts) (C0:=Cs) hn lL hLt tw tc tt
    have eL:Ls.take i++[Ls.getD i []]=Ls.take (i+1):=by rw [List.take_add_one,qay (d:=[]) hil];rfl
    refine ⟨_,rfl,_,rfl,_,rfl,p,t,c,ea,m,many,tv,cv,Ts,Cs,_,_,_,rfl,B,hT,hC,tab',hEa',hn,hv.mn,hv.lC,by omega,bL,fun U hU y hy=>(((hJ.big j0).1 U hU).2 y hy),hJ,j0,fun r tv' cv' Ts' Cs' xs m' H2 b2 ts2 B2 hT2 hC2 j2 one=>?_⟩
    have g2:=same' b2
    rcases one with ⟨rfl,z⟩ | ⟨k,rfl,hk,xk,z⟩
    · refine ⟨_,rfl,rfl,_,rfl,qkA (fun cc=>absurd cc (by simp)) (fun _=>?_)⟩
      have hv2:=hv.none j2 z
      rw [eL] at hv2
      exact ⟨tv',cv',Ts',Cs',many,_,_,rfl,g2,B2,hT2,hC2,hv2⟩
    · refine ⟨_,rfl,rfl,_,rfl,qkA (fun _=>?_) (fun cc=>absurd (by simp) cc)⟩
      obtain ⟨⟨dx2,hp2⟩,_,_,_⟩:=id B2
      have lk:(qdF t c).lookup ("exchange":Str)=none:=by unfold qdF;rw [qaF,if_neg (by decide +kernel),qaF,if_neg (by decide +kernel)];rfl
      have hkm:k<m:=by rw [← j2.lx];exact hk
      have hmm:many≤k:=Nat.not_lt.mp fun c=>xk (j2.z0 k c)
      have hv2:=hv.some lL j2 hk xk z
      rw [eL] at hv2
      refine ⟨_,rfl,p,dx2,_,rfl,hp2,lk,_,rfl,_,rfl,p,t,c,k,many,tv',cv',Ts',Cs',rfl,B2,hT2,hC2,by rw [j2.lC];exact hkm,by rw [j2.lC];omega,by rw [j2.lT,j2.lC],fun tv3 cv3 H3 b3 ts3 B3 hT3 hC3=>?_⟩
      refine ⟨_,rfl,_,_,rfl,rfl,?_⟩
      exact ⟨tv3,cv3,_,_,many+1,_,_,rfl,same' (b2.trans b3),B3,hT3,hC3,hv2⟩
  · rintro σ H' ⟨tv,cv,Ts,Cs,many,u4,u5,rfl,g,B,hT,hC,hv⟩
    rw [hlv.1,List.take_length] at hv
    obtain ⟨⟨dx,hp⟩,ht,hc,_⟩:=id B
    refine ⟨_,rfl,p,C_Basis,dx,_,_,rfl,hp,T_Basis.cl,T_Basis.nT,flT _ _,t,tv,rfl,.inl ⟨SqL.of ht,fun a ha=>?_⟩⟩
    have s2:=qal ha (.tup tv)
    have e2:upd H' a (.tup tv) a=some (.tup tv):=qac
    generalize upd H' a (.tup tv)=H2 at s2 e2 ⊢
    refine ⟨_,rfl,p,C_Basis,dx,_,_,rfl,s2 _ _ hp,T_Basis.cl,T_Basis.nC,flC _ _,c,cv,rfl,.inl ⟨SqL.of (s2 _ _ hc),fun b hb=>?_⟩⟩
    have s3:=qal hb (.tup cv)
    have e3:upd H2 b (.tup cv) b=some (.tup cv):=qac
    have e23:=s3 _ _ e2
    generalize upd H2 b (.tup cv)=H3 at s3 e3 e23 ⊢
    refine ⟨_,rfl,(by show 3≤sizeLine;decide),fun r hr'=>?_⟩
    have s4:=qal hr' (.tup [.ref a,.ref b,.int many])
    have e4:upd H3 r (.tup [.ref a,.ref b,.int many]) r=some (.tup [.ref a,.ref b,.int many]):=qac
    have sA:Same H (upd H3 r (.tup [.ref a,.ref b,.int many])):=((Same.trans g s2).trans s3).trans s4
    have sB:Same H' (upd H3 r (.tup [.ref a,.ref b,.int many])):=(s2.trans s3).trans s4
    have e24:=s4 _ _ e23
    have e34:=s4 _ _ e3
    generalize upd H3 r (.tup [.ref a,.ref b,.int many])=H4 at s4 e4 sA sB e24 e34 ⊢
    have sF:Same Φ H4:=fun b u e=>sA _ _ (sm _ _ e)
    have vF:∀ {vs:List V} {As:List (List Int)},Vecs K H' vs As→Vecs K (qiw Φ H4) vs As:=fun {vs As} h=>⟨h.1,fun i e he=>let ⟨z,h1,h2⟩:=h.2 i e he;⟨z,h1,qcF sF (sB _ _ h2)⟩⟩
    refine kk _ _ _ _ (q Ts Cs many hv) (qi2 sm sA) (RpL.tup (vs:=[.ref a,.ref b,.int many]) (RpL.of_paired (.cons ?_ (.cons ?_ (.cons (.int _) .nil)))) (qcF sF e4))
    · exact (qgp (vF hT)).tup (qcF sF e24)
    · exact (qgp (vF hC)).tup (qcF sF e34)
def qbM:SpD:=fun ds R=>∃ i:Int,ds=[.int i]∧R (.bl true)
theorem qd2 {n:Nat} {f:Addr} {fd:FuncData} (F:Fun K "_law_whole" "_law_whole" qba f fd) (z_isinstance:mg "isinstance"=none) (z_int:mg "int"=none) (z_bool:mg "bool"=none):FnOk P w K mg base CX0 (n+1) f fd ["_law_seen"] (lSp K qbM):=by
  refine F.okD qd1 (fun ds R h=>?_) (fun cdv A outer s H E ds R hr h=>?_)
  · obtain ⟨i,rfl,_⟩:=h;rfl
  obtain ⟨i,rfl,q⟩:=h
  refine ⟨_,(qaK (qbv (qiR (qgJ rfl z_isinstance (dvq 0) (qcW (v:=.ty "int") rfl z_int PyProof.Rows.boot_int rfl) qaa qaa) (qjB (qkK (PD.q (qgJ rfl z_isinstance (dvq 0) (qcW (v:=.ty "bool") rfl z_bool PyProof.Rows.boot_bool rfl) qaa qaa))))))),?_⟩
  exact ⟨true,qj5 i,fun _=>⟨false,qkf i,q⟩,fun h=>tf h⟩
abbrev Dr (d z:Int):Prop:=0≤d∧d<z
abbrev Drawn (ds zs:List Int):Prop:=Paired Dr ds zs
theorem Drawn.take {zs:List Int} {i:Nat} {z:Int} {ds:List Int} (h:Drawn ds (zs.take i)) (hz:zs[i]?=some z) {d:Int} (h0:0≤d) (h1:d<z):Drawn (ds++[d]) (zs.take (i+1)):=by
  rw [qgB hz]
  exact Paired.snoc h ⟨h0,h1⟩
theorem Drawn.len {ds zs:List Int} (h:Drawn ds zs):ds.length=zs.length:=Paired.length h
def qcu:SpD:=fun ds R=>∃ (c k:Int),ds=[.int c,.int k]∧0≤k∧k<2 ^ 20∧∀ x:Int,0≤x→x<1000000007→R (.int x)
theorem qdY {n:Nat} {f:Addr} {fd:FuncData} (F:Fun K "_law_mixed" "_law_mixed" qbf f fd) :FnOk P w K mg base CX0 (n+1) f fd ["_law_cell","_law_k"] (lSp K qcu):=by
  refine F.okD sc__law_mixed (fun ds R h=>?_) (fun cdv A outer s H E ds R hr h=>?_)
  · obtain ⟨c,k,rfl,_⟩:=h;rfl
  obtain ⟨c,k,rfl,k0,k1,q⟩:=h
  refine ⟨_,(qaC (qbY (i:=2) sc__law_mixed.nd rfl (Or.inl rfl) (qaM qgO (PD.q (qaM qa6 (PD.q (qaM qbr (PD.q (qaM qbr (PD.q (qaM qbr (dvq 0) (PD.q (qaM qa6 (PD.q (qaM qa6 (PD.q qah) (dvq 1))) (dvq 1))))) (PD.q (qaM qa6 (PD.q qah) (dvq 1))))) (PD.q qah))) (PD.q qah))) (PD.q qah)))
      (qaK (qbv (qaM qgO (PD.q (qaM qbr (PD.q (qaM qa6 (dvq 2) (PD.q qah))) (PD.q (qaM qh9 (dvq 2) (PD.q qah))))) (PD.q qah))))),?_⟩
  refine ⟨qbk (by decide) (by decide),qeG (by omega) (by omega),qbk (by decide) (by decide),qeG (by decide) (by decide),(by decide:(0:Int)<2147483647),qeG (by decide) (by decide),CDivB.of (by decide) (by decide +kernel),(by decide:(0:Int)<1000000007),q _ (Int.emod_nonneg _ (by decide)) (Int.emod_lt_of_pos _ (by decide))⟩
def qbN:SpD:=fun ds R=>∃ (ns:List Int) (at_:Int) (zs:List Int),ds=[.fzl (ns.map D.int),.int at_,.lst (zs.map D.int)]∧ns.length≤63∧0≤at_∧at_≤1000∧zs.length≤500∧(∀ z∈zs,0<z∧z<2 ^ 9000)∧∀ es:List Int,Drawn es zs→R (.lst (es.map D.int))
theorem qdL {n:Nat} {f:Addr} {fd:FuncData} (F:Fun K "_law_draws" "_law_draws" qbb f fd) (Q__law_mixed:Cl P w K mg base n "_law_mixed" ["_law_cell","_law_k"] qcu) (z_enumerate:mg "enumerate"=none) (z_len:mg "len"=none):FnOk P w K mg base CX0 (n+1) f fd ["_law_script","_law_at","_law_sizes"] (lSp K qbN):=by
  refine F.okD sc__law_draws (fun ds R h=>?_) (fun cdv A outer s H E ds R hr h=>?_)
  · obtain ⟨ns,at_,zs,rfl,_⟩:=h;rfl
  obtain ⟨ns,at_,zs,rfl,hn,a0,a1,hz,hzs,q⟩:=h
  refine ⟨_,(qaC (qbY (i:=3) sc__law_draws.nd rfl (Or.inl rfl) (qaM qa6 (PD.q qah) (dvq 1)))
      (qeq (qfW (qfO (dvq 0) (fun _=>rfl)) (qaK (qbY (i:=3) sc__law_draws.nd rfl (Or.inl rfl) (qjT (dvq 0) (PD.q (qaM qgO (dvq 1) (PD.q (qbl qhg rfl z_len PySem.boot_len (qaG (dvq 0) qa1 qaa) qaa qaf)))) (fun _ _=>rfl)))) qc9)
      (qaC (qbY (i:=4) sc__law_draws.nd rfl (Or.inl rfl) (qaM qfz (dvq 3) (PD.q (qaM qfV (PD.q qah) (PD.q qah)))))
      (qaC (qiz (i:=5) sc__law_draws.nd rfl (Or.inl rfl) (qci qaA))
      (qaC (qe5 PassesOwn.never rfl (qeL rfl z_enumerate (qae (dv 2) qaA qaa)) (qcf (n:=2) rfl (qau (qat (i:=6) sc__law_draws.nd rfl (Or.inl rfl)) (qau (qat (i:=7) sc__law_draws.nd rfl (Or.inl rfl)) qbx))) (qaK (qfW (qcz qln (dvq 4) (PD.q qah) (qaZ _)) (qaC (qcE 5 (qaM qgO (dvq 4) (dvq 7)) (qfp qaq) qaq)
      (qaK (qbY (i:=4) sc__law_draws.nd rfl (Or.inl rfl) (qaM qh9 (dvq 4) (dvq 7))))) (qaC (qbY (i:=8) sc__law_draws.nd rfl (Or.inl rfl) (qaO Q__law_mixed hr rfl (qae (dv 3) (qae (qaM qbr (PD.q (qaM qa6 (PD.q qah) (dvq 1))) (dvq 6)) qaA qaq) qaa) qaa (qaj qaq qaf)))
      (qeq (qfW (qcz qln (dvq 7) (PD.q qah) (qaZ _)) (qaK (qbY (i:=8) sc__law_draws.nd rfl (Or.inl rfl) (qaM qbr (PD.q (qaM qfV (dvq 8) (PD.q qah))) (PD.q (qaO Q__law_mixed hr rfl (qae (dv 3) (qae (qaM qbr (PD.q (qaM qbr (PD.q (qaM qa6 (PD.q qah) (dvq 1))) (dvq 6))) (PD.q qah)) qaA qaq) qaa) qaa (qaj qaq qaf)))))) qc9)
      (qaK (qcE 5 (qaM qgO (dvq 8) (dvq 7)) (qfp qaq) qaq)))))))
      (qk3 5 (qaK (qbv (dv 5))))))))),?_⟩
  refine ⟨qbk (by decide) (by decide),fun ρ=>∃ cl:Int,ρ=[some (.v (.fzl (ns.map D.int))),some (.v (.int at_)),some (.v (.lst (zs.map D.int))),some (.v (.int cl)),none,none,none,none,none],⟨fun h=>?_,fun h=>⟨_,rfl⟩⟩,?_⟩
  · have hne:ns≠[]:=fun e=>by subst e;cases h
    have hp:(0:Int)<((ns.map D.int).length:Int):=by
      have:=List.length_pos_iff.mpr hne
      rw [List.length_map];omega
    obtain ⟨v,hv⟩:=qip (ns:=ns) (k:=at_ % ((ns.map D.int).length:Int)) (Int.emod_nonneg _ (by omega)) (by have:=Int.emod_lt_of_pos at_ hp;rw [List.length_map] at this ⊢;exact this)
    exact ⟨hp,_,hv,_,rfl⟩
  rintro ρ ⟨cl,rfl⟩
  refine ⟨⟨by decide,by decide,by decide⟩,fun i ρ=>∃ (r:Int) (es:List Int) (u6 u7 u8:Option Sl),ρ=[some (.v (.fzl (ns.map D.int))),some (.v (.int at_)),some (.v (.lst (zs.map D.int))),some (.v (.int cl)),some (.v (.int r)),some (.own (es.map D.int)),u6,u7,u8]∧Drawn es (zs.take i),⟨_,[],_,_,_,rfl,.nil⟩,?_,?_⟩
  · rintro i d ρ hd ⟨r,es,u6,u7,u8,rfl,hD⟩
    obtain ⟨e,he,rfl⟩:=qcL hd
    obtain ⟨z,rfl,hzi⟩:=qbK he
    have hzm:=hzs z (List.mem_of_getElem? hzi)
    have hi:i<zs.length:=qaD hzi
    have ll:(es.map D.int).length<sizeLine:=by
      have:=hD.len
      rw [List.length_take] at this
      rw [List.length_map]
      exact qar (by omega)
    refine ⟨rfl,fun h=>⟨hzm.1,ll,_,qhe _ _ _,CDivB.of hzm.1 hzm.2,_,es++[r % z],_,_,_,rfl,hD.take hzi (Int.emod_nonneg _ (by omega)) (Int.emod_lt_of_pos _ hzm.1)⟩,fun h=>?_⟩
    refine ⟨qbk (by decide) (by decide),cl,_,rfl,by omega,by omega,fun x x0 x1=>?_⟩
    refine ⟨fun ρ=>∃ y:Int,ρ=[some (.v (.fzl (ns.map D.int))),some (.v (.int at_)),some (.v (.lst (zs.map D.int))),some (.v (.int cl)),some (.v (.int r)),some (.own (es.map D.int)),some (.v (.int i)),some (.v (.int z)),some (.v (.int y))],⟨fun _=>⟨⟨by decide,by decide,by omega⟩,qbk (by decide) (by decide),cl,_,rfl,by omega,by omega,fun y _ _=>⟨_,rfl⟩⟩,fun _=>⟨_,rfl⟩⟩,?_⟩
    rintro ρ ⟨y,rfl⟩
    exact ⟨hzm.1,ll,_,qhe _ _ _,_,es++[y % z],_,_,_,rfl,hD.take hzi (Int.emod_nonneg _ (by omega)) (Int.emod_lt_of_pos _ hzm.1)⟩
  · rintro ρ ⟨r,es,u6,u7,u8,rfl,hD⟩
    rw [qbs,List.length_map,List.take_length] at hD
    exact q es hD
def qb5:SpD:=fun ds R=>∃ (xs:List Int) (n:Int),ds=[.tup (xs.map D.int),.int n]∧n=(xs.length:Int)∧xs.length≤500∧R (.bl true)
theorem qde {n:Nat} {f:Addr} {fd:FuncData} (F:Fun K "_law_wholes" "_law_wholes" qaV f fd) (Q__law_whole:Cl P w K mg base n "_law_whole" ["_law_seen"] qbM) (z_isinstance:mg "isinstance"=none) (z_tuple:mg "tuple"=none) (z_all:mg "all"=none) (z_len:mg "len"=none):FnOk P w K mg base CX0 (n+1) f fd ["_law_seen","_law_size"] (lSp K qb5):=by
  refine F.okD qdf (fun ds R h=>?_) (fun cdv A outer s H E ds R hr h=>?_)
  · obtain ⟨xs,n,rfl,_⟩:=h;rfl
  obtain ⟨xs,n,rfl,hn,hl,q⟩:=h
  refine ⟨_,(qaK (qbv (qiR (qgJ rfl z_isinstance (dvq 0) (qcW (v:=.ty "tuple") rfl z_tuple PyProof.Rows.boot_tuple rfl) qaa qaa) (qiR (qjN (qjh hr.units) (PD.q (qbl qhg rfl z_len PySem.boot_len (qaG (dvq 0) qa1 qaa) qaa qaf)) (dvq 1) (qaZ _)) (qjB (qbl (qkl rfl) rfl z_all PyProof.Rows.boot_all (qaG (PD.q (PF.d (qa7 (k:=1) (N':=["_law_one"]) (cap:=[none]) rfl (.ok (show qaS ["_law_seen","_law_size"] (qab qaV) _ ["_law_one"] [none]=true by decide +kernel)) (by decide +kernel) (qaN (by decide)) (qdN (dv 0)) (fun _ _ _ _ _=>(qat (i:=0) (show List.Nodup (["_law_one"]:List Str) by decide +kernel) rfl (Or.inl rfl))) (fun _ _ _ _ _=>(qaO Q__law_whole hr rfl (qae (dv 0) qaA qaa) qaa qaf))))) qa1 qan) qan qaf)))))),?_⟩
  have hL:((xs.map D.int).length:Int)=n:=by rw [List.length_map,hn]
  have hb:(((xs.map D.int).length:Int) == n)=true:=by rw [hL];exact beq_self_eq_true _
  refine ⟨true,qgC _,fun _=>⟨fun _=>?_,fun h=>?_⟩,fun h=>tf h⟩
  · refine qbO (f:=D.int) (fun _=>D.bl true) (qar (by omega)) (fun x _=>⟨x,rfl,rfl⟩) ?_
    refine ⟨xs.map fun _=>true,by rw [List.map_map];rfl,?_⟩
    refine toB q ?_
    show (xs.map fun _=>true).all id=true
    rw [List.all_eq_true]
    intro b hb
    obtain ⟨_,_,rfl⟩:=List.mem_map.mp hb
    rfl
  · have h':(((xs.map D.int).length:Int) == n)=false:=h
    rw [hb] at h'
    cases h'
theorem qj3 {ds:List Int} {z1 z2 z3:Int} (h:Drawn ds [z1,z2,z3]):∃ x1 x2 x3:Int,ds=[x1,x2,x3]∧Dr x1 z1∧Dr x2 z2∧Dr x3 z3:=by
  cases h with | cons h1 t1 =>
  cases t1 with | cons h2 t2 =>
  cases t2 with | cons h3 t3 =>
  cases t3
  exact ⟨_,_,_,rfl,h1,h2,h3⟩
theorem Drawn.mem {ds zs:List Int} (h:Drawn ds zs):∀ d∈ds,∃ z∈zs,0≤d∧d<z:=by
  induction h with
  | nil=>intro d hd;exact absurd hd List.not_mem_nil
  | cons h1 t ih =>
    intro d hd
    rcases List.mem_cons.mp hd with rfl | hd
    · exact ⟨_,List.mem_cons_self,h1⟩
    · obtain ⟨z,hz,q⟩:=ih d hd
      exact ⟨z,List.mem_cons_of_mem _ hz,q⟩
def qcv:SpD:=fun ds R=>∃ (d:D) (xs ys:List Int),ds=[d,.tup (ys.map D.int)]∧(d=.lst (xs.map D.int)∨d=.tup (xs.map D.int))∧xs.length≤1000∧(∀ x∈xs,qcB x)∧(∀ y∈ys,qcB y)∧R (.int (dot xs ys))
theorem qdC {n:Nat} {f:Addr} {fd:FuncData} (F:Fun K "_law_times" "_law_times" qaX f fd) (z_sum:mg "sum"=none) (z_zip:mg "zip"=none):FnOk P w K mg base CX0 (n+1) f fd ["_law_one","_law_other"] (lSp K qcv):=by
  refine F.okD qdB (fun ds R h=>?_) (fun cdv A outer s H E ds R hr h=>?_)
  · obtain ⟨d,xs,ys,rfl,_⟩:=h;rfl
  obtain ⟨d,xs,ys,rfl,hd,hl,hx,hy,q⟩:=h
  refine ⟨_,(qaK (qbv (qbl (qjw rfl) rfl z_sum PyProof.Rows.boot_sum (qaG (PD.q (PF.d (qa7 (k:=2) (N':=["_law_here","_law_there"]) (cap:=[none,none]) rfl (.ok (show qaS ["_law_one","_law_other"] (qab qaX) _ ["_law_here","_law_there"] [none,none]=true by decide +kernel)) (by decide +kernel) (qdp (n:=2) (qa3 (qaN (by decide)) (qa3 (qaN (by decide)) qdj))) (qdw rfl z_zip (qae (dv 0) (qae (dv 1) qaA qaa) qaa)) (fun _ _ _ _ _=>(qcf (n:=2) rfl (qau (qat (i:=0) (show List.Nodup (["_law_here","_law_there"]:List Str) by decide +kernel) rfl (Or.inl rfl)) (qau (qat (i:=1) (show List.Nodup (["_law_here","_law_there"]:List Str) by decide +kernel) rfl (Or.inl rfl)) qbx)))) (fun _ _ _ _ _=>(qaM qa6 (dvq 0) (dvq 1)))))) qa1 qan) qan qaf))),?_⟩
  rcases hd with rfl | rfl
  · refine ⟨_,_,rfl,rfl,?_⟩
    refine qbu (fun x y=>D.int (x*y)) (qar hl) (fun x hx' y hy'=>⟨rfl,qdl (hx x hx') (hy y hy'),rfl⟩) ?_
    exact ⟨List.zipWith (fun x y=>x*y) xs ys,by rw [List.map_zipWith];rfl,q⟩
  · refine ⟨_,_,rfl,rfl,?_⟩
    refine qbu (fun x y=>D.int (x*y)) (qar hl) (fun x hx' y hy'=>⟨rfl,qdl (hx x hx') (hy y hy'),rfl⟩) ?_
    exact ⟨List.zipWith (fun x y=>x*y) xs ys,by rw [List.map_zipWith];rfl,q⟩
theorem qcM {ds zs:List Int} (h:Drawn ds zs) {b:Int} (hz:∀ z∈zs,z≤b):∀ d∈ds,0≤d∧d<b:=fun d hd=>by
  obtain ⟨z,hz',q⟩:=h.mem d hd
  have:=hz z hz'
  omega
def lD (e:List Int):D:=.lst (e.map D.int)
def qct:SpD:=fun ds R=>∃ (ns:List Int) (n:Nat),ds=[.fzl (ns.map D.int),.int (n:Int)]∧ns.length≤63∧n≤8∧∀ (Ls:List (List Int)) (e:Nat),((e=9∧n≤8)∨(e=73∧n≤4))→(∀ L∈Ls,L.length=n∧∀ x∈L,x.natAbs≤2 ^ (e - 3))→Ls.length≤100→R (.tup (Ls.map vD))
theorem qkZ:(10:Nat) ^ 20*8≤2 ^ 70:=by decide
theorem qhh (n:Nat) (large:Int) (hn:n≤8):∃ A e:Nat,((e=9∧n≤8)∨(e=73∧n≤4))∧2*A*n≤2 ^ (e - 3)∧4≤A∧((large == 0)=true→n<5→10 ^ 20≤A):=by
  by_cases c:(large == 0)=true∧n<5
  · refine ⟨10 ^ 20,73,.inr ⟨rfl,by omega⟩,?_,by decide,fun _ _=>Nat.le_refl _⟩
    have:=qkZ
    have h2:2*10 ^ 20*n≤2*10 ^ 20*4:=Nat.mul_le_mul_left _ (by omega)
    show _≤2 ^ 70
    omega
  · refine ⟨4,9,.inl ⟨rfl,hn⟩,?_,Nat.le_refl _,fun h1 h2=>absurd ⟨h1,h2⟩ c⟩
    show _≤64
    omega
theorem qdP {n:Nat} {f:Addr} {fd:FuncData} (F:Fun K "_law_lists" "_law_lists" qaJ f fd) (Q__law_draws:Cl P w K mg base n "_law_draws" ["_law_script","_law_at","_law_sizes"] qbN) (z_range:mg "range"=none) (z_tuple:mg "tuple"=none) (z_enumerate:mg "enumerate"=none) (z_max:mg "max"=none) (z_int:mg "int"=none) (z_zip:mg "zip"=none):FnOk P w K mg base CX0 (n+1) f fd ["_law_script","_law_n"] (lSp K qct):=by
  refine F.okD sc__law_lists (fun ds R h=>?_) (fun cdv A outer s H E ds R hr h=>?_)
  · obtain ⟨ns,n,rfl,_⟩:=h;rfl
  obtain ⟨ns,n,rfl,hz,hn,q⟩:=h
  refine ⟨_,(qaC (qhc (qaO Q__law_draws hr rfl (qae (dv 0) (qae qah (qae (PF.d (qci (qae (qaM qbr (dvq 1) (PD.q qah)) (qae qah (qae qah qaA qao) qao) qaq))) qaA qcp) qao) qaa) qaa (qaj qao (qaj qcp qaf))) (qcf (n:=3) rfl (qau (qat (i:=2) sc__law_lists.nd rfl (Or.inl rfl)) (qau (qat (i:=3) sc__law_lists.nd rfl (Or.inl rfl)) (qau (qat (i:=4) sc__law_lists.nd rfl (Or.inl rfl)) qbx)))))
      (qaC (qiz (i:=5) sc__law_lists.nd rfl (Or.inl rfl) (qci qaA))
      (qaC (qe5 PassesOwn.never rfl (qd0 rfl z_range (qae (dv 2) qaA qaa)) (qat (i:=6) sc__law_lists.nd rfl (Or.inl rfl)) (qaC (qbY (i:=7) sc__law_lists.nd rfl (Or.inl rfl) (qaO Q__law_draws hr rfl (qae (dv 0) (qae (qaM qbr (PD.q qah) (dvq 6)) (qae (qaM qbr (PD.q (qaM qa6 (PD.q (PF.d (qci (qae qah qaA qao)))) (dvq 1))) (PD.q (PF.d (qci (qae qah qaA qao))))) qaA qaq) qaq) qaa) qaa (qaj qaq (qaj qaq qaf))))
      (qaC (qcE 5 (PF.d (qa7 (k:=1) (N':=["_law_one"]) (cap:=[none]) rfl (.ok (show qaS ["_law_script","_law_n","_law_rank","_law_many","_law_large","_law_bases","_law_k","_law_small","_law_lists_here","_law_kind","_law_place","_law_entries","_law_at","_law_times_here"] (qab qaJ) _ ["_law_one"] [none]=true by decide +kernel)) (by decide +kernel) (qaN (by decide)) (qdN (qkx (dvq 7) qfs (qfm (dvq 1)))) (fun _ _ _ _ _=>(qat (i:=0) (show List.Nodup (["_law_one"]:List Str) by decide +kernel) rfl (Or.inl rfl))) (fun _ _ _ _ _=>(qaM qfz (dvq 0) (PD.q qah))))) (qfp qan) qan)
      (qaK (qfW (PWD.td (qkJ (qcz (qjh hr.units) (dvq 4) (PD.q qah) (qaZ _)) (qjq (qcz qmd (dvq 1) (PD.q qah) (qaZ _))))) (qaK (qkW 5 (PF.d (qa7 (k:=1) (N':=["_law_one"]) (cap:=[none]) rfl (.ok (show qaS ["_law_script","_law_n","_law_rank","_law_many","_law_large","_law_bases","_law_k","_law_small","_law_lists_here","_law_kind","_law_place","_law_entries","_law_at","_law_times_here"] (qab qaJ) _ ["_law_one"] [none]=true by decide +kernel)) (by decide +kernel) (qaN (by decide)) (qdN (qaO Q__law_draws hr rfl (qae (dv 0) (qae (qaM qbr (PD.q qah) (dvq 6)) (qae (qaM qa6 (PD.q (PF.d (qci (qae (qaM qbr (PD.q (qaM qa6 (PD.q qah) (PD.q (qaM qfV (PD.q qah) (PD.q qah))))) (PD.q qah)) qaA qaq)))) (dvq 1)) qaA qaq) qaq) qaa) qaa (qaj qaq (qaj qaq qaf)))) (fun _ _ _ _ _=>(qat (i:=0) (show List.Nodup (["_law_one"]:List Str) by decide +kernel) rfl (Or.inl rfl))) (fun _ _ _ _ _=>(qaM qfz (dvq 0) (PD.q (qaM qfV (PD.q qah) (PD.q qah))))))) (dvq 6))) qc9)))))
      (qaC (qiz (i:=8) sc__law_lists.nd rfl (Or.inl rfl) (qci qaA))
      (qaC (qe5 PassesOwn.never rfl (qd0 rfl z_range (qae (dv 3) qaA qaa)) (qat (i:=6) sc__law_lists.nd rfl (Or.inl rfl)) (qaC (qhc (qaO Q__law_draws hr rfl (qae (dv 0) (qae (qaM qbr (PD.q qah) (dvq 6)) (qae (PF.d (qci (qae qah (qae (qbl (qjQ rfl) rfl z_max PyProof.Rows.boot_max (qaG (PD.q qah) (qaG (dvq 2) qa1 qaa) qao) qao (qaj qaa qaf)) qaA qco) qao))) qaA qcp) qaq) qaa) qaa (qaj qaq (qaj qcp qaf))) (qcf (n:=2) rfl (qau (qat (i:=9) sc__law_lists.nd rfl (Or.inl rfl)) (qau (qat (i:=10) sc__law_lists.nd rfl (Or.inl rfl)) qbx))))
      (qaC (qbY (i:=11) sc__law_lists.nd rfl (Or.inl rfl) (qaM qa6 (PD.q (PF.d (qci (qae qah qaA qao)))) (dvq 1)))
      (qaC (qe5 PassesOwn.never rfl (qeL rfl z_enumerate (qae (qaO Q__law_draws hr rfl (qae (dv 0) (qae (qaM qbr (PD.q qah) (dvq 6)) (qae (qaM qa6 (PD.q (PF.d (qci (qae qah qaA qao)))) (dvq 2)) qaA qaq) qaq) qaa) qaa (qaj qaq (qaj qaq qaf))) qaA qco)) (qcf (n:=2) rfl (qau (qat (i:=12) sc__law_lists.nd rfl (Or.inl rfl)) (qau (qat (i:=13) sc__law_lists.nd rfl (Or.inr rfl)) qbx))) (qeq (qfW (qcz (qjh hr.units) (dvq 9) (PD.q qah) (qaZ _)) (qaK (qbY (i:=13) sc__law_lists.nd rfl (Or.inr rfl) (qaM qbr (PD.q qah) (PD.q (qbz qkH rfl z_int PyProof.Rows.boot_int (qaG (PD.q (qjN (qjh hr.units) (dvq 12) (dvq 10) (qaZ _))) qa1 qdk) qdk qaf))))) qc9)
      (qaK (qgX (i:=11) (k:=2) (N':=["_law_one","_law_other","_law_times_here"]) (cap:=[none,none,some 13]) rfl sc__law_lists.nd rfl (Or.inl rfl) (.ok (show qaS ["_law_script","_law_n","_law_rank","_law_many","_law_large","_law_bases","_law_k","_law_small","_law_lists_here","_law_kind","_law_place","_law_entries","_law_at","_law_times_here"] (qab qaJ) _ ["_law_one","_law_other","_law_times_here"] [none,none,some 13]=true by decide +kernel)) (by decide +kernel) (qdp (n:=2) (qa3 (qaN (by decide)) (qa3 (qaN (by decide)) qdj))) (qdw rfl z_zip (qae (dv 11) (qae (qjT (dvq 5) (dvq 12) (fun _ _=>rfl)) qaA qai) qaa)) (fun _ _ _ _ _=>(qcf (n:=2) rfl (qau (qat (i:=0) (show List.Nodup (["_law_one","_law_other","_law_times_here"]:List Str) by decide +kernel) rfl (Or.inl rfl)) (qau (qat (i:=1) (show List.Nodup (["_law_one","_law_other","_law_times_here"]:List Str) by decide +kernel) rfl (Or.inl rfl)) qbx)))) (fun _ _ _ _ _=>(qaM qbr (dvq 0) (PD.q (qaM qa6 (PD.q (qaM qfz (dvq 2) (PD.q qah))) (dvq 1)))))))))
      (qaK (qcE 8 (qbz qcq rfl z_tuple PyProof.Rows.boot_tuple (qaG (dvq 11) qa1 qaa) qaa qaf) (qfp qco) qco))))))
      (qaK (qbv (qbz qcq rfl z_tuple PyProof.Rows.boot_tuple (qaG (dvq 8) qa1 qaa) qaa qaf)))))))),?_⟩
  have h9:(2:Int)*10 ^ 20+1<2 ^ 9000:=by decide +kernel
  have eT:(n:Int).toNat=n:=Int.toNat_natCast n
  refine ⟨ns,1,[(n:Int)+1,9,3],rfl,hz,by decide,by decide,by show 3≤500;decide,fun z hz'=>?_,fun as hA=>?_⟩
  · simp only [List.mem_cons,List.not_mem_nil,or_false] at hz'
    rcases hz' with rfl | rfl | rfl <;> omega
  obtain ⟨x0,x1,x2,rfl,d0,d1,d2⟩:=qj3 hA
  obtain ⟨rk,rfl⟩:=Int.eq_ofNat_of_zero_le d0.1
  obtain ⟨mn,rfl⟩:=Int.eq_ofNat_of_zero_le d1.1
  have hrk:rk≤n:=by have:=d0.2;omega
  have hmn:mn≤8:=by have:=d1.2;omega
  obtain ⟨A,e,hcase,hAe,hA4,hA20⟩:=qhh n x2 hn
  have eR:(rk:Int).toNat=rk:=Int.toNat_natCast rk
  refine ⟨rfl,⟨by omega,by omega⟩,fun i ρ=>∃ (Bs:List (List Int)) (u6 u7:Option Sl),ρ=[some (.v (.fzl (ns.map D.int))),some (.v (.int n)),some (.v (.int rk)),some (.v (.int mn)),some (.v (.int x2)),some (.own (Bs.map lD)),u6,u7,none,none,none,none,none,none]∧Bs.length=i∧∀ b∈Bs,b.length=n∧∀ x∈b,x.natAbs≤A,⟨[],_,_,rfl,rfl,fun b h=>absurd h List.not_mem_nil⟩,?_,?_⟩
  · rintro i d ρ hd ⟨Bs,u6,u7,rfl,hB1,hB2⟩
    obtain ⟨hi,rfl⟩:=qc8 hd
    rw [eR] at hi
    refine ⟨⟨by omega,by omega,qbZ (by show 1*(n:Int).toNat≤1000;omega)⟩,(List.replicate n (9:Int)).map D.int,by rw [qcj,eT],?_,_,qlS D.int _ [4],ns,2+(0+(i:Int)),List.replicate n (9:Int)++[4],rfl,hz,by omega,by omega,?_,fun z hz'=>?_,fun es hD=>?_⟩
    · rw [List.length_map,List.length_replicate];exact qbZ (by show n+1≤1000;omega)
    · rw [List.length_append,List.length_replicate];show n+1≤_;omega
    · rcases List.mem_append.mp hz' with h | h
      · rw [(List.mem_replicate.mp h).2];exact ⟨by decide,by omega⟩
      · rw [List.mem_singleton.mp h];exact ⟨by decide,by omega⟩
    have hel:es.length=n+1:=by rw [hD.len,List.length_append,List.length_replicate];rfl
    have heb:=qcM hD (b:=9) fun z hz=>by
      rcases List.mem_append.mp hz with h | h
      · rw [(List.mem_replicate.mp h).2];decide
      · rw [List.mem_singleton.mp h];decide
    have ec:qcA (es.map D.int) none (some (n:Int))=(es.take n).map D.int:=by rw [qdM,qdE]
    refine ⟨_,ec,?_⟩
    refine qbI (f:=D.int) (fun x=>x - 4) (qar (by rw [List.length_take];omega)) (fun x _=>rfl) ?_
    have hb0:((es.take n).map fun x=>x - 4).length=n∧∀ x∈(es.take n).map fun x=>x - 4,x.natAbs≤A:=by
      refine ⟨by rw [List.length_map,List.length_take];omega,fun x hx=>?_⟩
      obtain ⟨y,hy,rfl⟩:=List.mem_map.mp hx
      have:=heb y (List.mem_of_mem_take hy)
      omega
    have hin:∀ b∈Bs++[(es.take n).map fun x=>x - 4],b.length=n∧∀ x∈b,x.natAbs≤A:=fun b hb=>by
      rcases List.mem_append.mp hb with h | h
      · exact hB2 b h
      · rw [List.mem_singleton.mp h];exact hb0
    have hlen:(Bs++[(es.take n).map fun x=>x - 4]).length=i+1:=by rw [List.length_append,hB1];rfl
    refine ⟨by rw [List.length_map];exact qar (by omega),_,qhe lD Bs _,⟨fun h1=>⟨fun h2=>?_,fun _=>⟨_,_,_,rfl,hlen,hin⟩⟩,fun _=>⟨fun h=>ff h,fun _=>⟨_,_,_,rfl,hlen,hin⟩⟩⟩⟩
    have h20:=hA20 h1 (by have:=of_decide_eq_true h2;omega)
    refine ⟨⟨by decide,by decide,by decide⟩,qbk (by decide) (by decide),⟨by omega,by omega,qbZ (by show 1*(n:Int).toNat≤1000;omega)⟩,(List.replicate n (2*10 ^ 20+1:Int)).map D.int,by rw [qcj,eT];rfl,ns,12+(0+(i:Int)),List.replicate n (2*10 ^ 20+1:Int),rfl,hz,by omega,by omega,by rw [List.length_replicate];omega,fun z hz'=>?_,fun cs hC=>?_⟩
    · rw [(List.mem_replicate.mp hz').2];exact ⟨by decide,h9⟩
    have hcl:cs.length=n:=by rw [hC.len,List.length_replicate]
    have hcb:=qcM hC (b:=2*10 ^ 20+1) fun z hz=>by rw [(List.mem_replicate.mp hz).2];exact Int.le_refl _
    refine qbI (f:=D.int) (fun x=>x - 10 ^ 20) (qar (by omega)) (fun x _=>⟨⟨by decide,by decide,by decide⟩,(show D.int (x - 10 ^ (20:Int).toNat)=D.int (x - 10 ^ 20) from rfl)⟩) ?_
    refine ⟨i,by rw [Int.zero_add,List.length_map];exact qcx (by omega),((Bs++[(es.take n).map fun x=>x - 4]).set i (cs.map fun x=>x - 10 ^ 20)).map lD,by rw [List.map_set];rfl,_,_,_,rfl,by rw [List.length_set];exact hlen,fun b hb=>?_⟩
    rcases qbt hb with rfl | hb
    · refine ⟨by rw [List.length_map];exact hcl,fun x hx=>?_⟩
      obtain ⟨y,hy,rfl⟩:=List.mem_map.mp hx
      have:=hcb y hy
      omega
    · exact hin b hb
  rintro ρ ⟨Bs,u6,u7,rfl,hB1,hB2⟩
  rw [qbp,eR] at hB1
  refine ⟨⟨by omega,by omega⟩,fun i ρ=>∃ (Ls:List (List Int)) (u6 u9 u10 u11 u12 u13:Option Sl),ρ=[some (.v (.fzl (ns.map D.int))),some (.v (.int n)),some (.v (.int rk)),some (.v (.int mn)),some (.v (.int x2)),some (.own (Bs.map lD)),u6,u7,some (.own (Ls.map vD)),u9,u10,u11,u12,u13]∧Ls.length=i∧∀ L∈Ls,L.length=n∧∀ x∈L,x.natAbs≤2 ^ (e - 3),⟨[],_,_,_,_,_,_,rfl,rfl,fun b h=>absurd h List.not_mem_nil⟩,?_,?_⟩
  · rintro i d ρ hd ⟨Ls,u6,u9,u10,u11,u12,u13,rfl,hL1,hL2⟩
    obtain ⟨hi,rfl⟩:=qc8 hd
    rw [Int.toNat_natCast] at hi
    refine ⟨ns,22+(0+(i:Int)),[3,if (rk:Int)>1 then (rk:Int) else 1],rfl,hz,by omega,by omega,by show 2≤500;decide,fun z hz'=>?_,fun bs hBs=>?_⟩
    · simp only [List.mem_cons,List.not_mem_nil,or_false] at hz'
      rcases hz' with rfl | rfl
      · exact ⟨by decide,by omega⟩
      · split <;> omega
    obtain ⟨kd,pl,rfl⟩:∃ kd pl,bs=[kd,pl]:=by
      have:=hBs.len
      match bs,this with
      | [a,b],_=>exact ⟨a,b,rfl⟩
    refine ⟨rfl,⟨by omega,by omega,qbZ (by show 1*(n:Int).toNat≤1000;omega)⟩,(List.replicate n (0:Int)).map D.int,by rw [qcj,eT],?_⟩
    refine ⟨⟨by omega,by omega,qbZ (by show 1*(rk:Int).toNat≤1000;omega)⟩,(List.replicate rk (5:Int)).map D.int,by rw [qcj,eR],ns,32+(0+(i:Int)),List.replicate rk (5:Int),rfl,hz,by omega,by omega,by rw [List.length_replicate];omega,fun z hz'=>?_,fun fs hF=>?_⟩
    · rw [(List.mem_replicate.mp hz').2];exact ⟨by decide,by omega⟩
    have hfl:fs.length=rk:=by rw [hF.len,List.length_replicate]
    have hfb:=qcM hF (b:=5) fun z hz=>by rw [(List.mem_replicate.mp hz).2];exact Int.le_refl _
    refine ⟨fun j ρ=>∃ (es:List Int) (u12 u13:Option Sl),ρ=[some (.v (.fzl (ns.map D.int))),some (.v (.int n)),some (.v (.int rk)),some (.v (.int mn)),some (.v (.int x2)),some (.own (Bs.map lD)),some (.v (.int (0+(i:Int)))),u7,some (.own (Ls.map vD)),some (.v (.int kd)),some (.v (.int pl)),some (.v (.lst (es.map D.int))),u12,u13]∧es.length=n∧∀ x∈es,x.natAbs≤2*A*j,⟨List.replicate n 0,_,_,rfl,List.length_replicate,fun x hx=>by rw [(List.mem_replicate.mp hx).2];exact Nat.zero_le _⟩,?_,?_⟩
    · rintro j d ρ hd ⟨es,u12,u13,rfl,he1,he2⟩
      obtain ⟨e',he',rfl⟩:=qcL hd
      obtain ⟨t0,rfl,ht0⟩:=qbK he'
      have hj:=qaD ht0
      have t0b:=hfb t0 (List.mem_of_getElem? ht0)
      refine ⟨rfl,fun ρ=>∃ t:Int,(t - 2).natAbs≤2∧ρ=[some (.v (.fzl (ns.map D.int))),some (.v (.int n)),some (.v (.int rk)),some (.v (.int mn)),some (.v (.int x2)),some (.own (Bs.map lD)),some (.v (.int (0+(i:Int)))),u7,some (.own (Ls.map vD)),some (.v (.int kd)),some (.v (.int pl)),some (.v (.lst (es.map D.int))),some (.v (.int (j:Int))),some (.v (.int t))],⟨fun _=>⟨_,?_,rfl⟩,fun _=>⟨t0,by omega,rfl⟩⟩,?_⟩
      · split <;> decide
      rintro ρ ⟨t,ht,rfl⟩
      have hjB:Bs[j]?=some (Bs.getD j []):=qay (by omega)
      obtain ⟨wB,bB⟩:=hB2 _ (qaT (xs:=Bs) (d:=[]) (i:=j) (by omega))
      refine ⟨_,qgb (i:=j) hjB rfl,_,_,rfl,rfl,?_⟩
      refine qbu (f:=D.int) (h:=D.int) (fun x y=>D.int (x+(t - 2)*y)) (qar (by omega)) (fun x _ y _=>⟨rfl,qbk (by omega) (by omega),rfl⟩) ?_
      have ez:List.zipWith (fun x y=>D.int (x+(t - 2)*y)) es (Bs.getD j [])=(List.zipWith (fun x y=>x+(t - 2)*y) es (Bs.getD j [])).map D.int:=by rw [List.map_zipWith]
      rw [ez]
      refine ⟨_,_,_,rfl,by rw [List.length_zipWith,he1,wB,Nat.min_self],fun x hx=>?_⟩
      obtain ⟨u,hu,v,hv,rfl⟩:∃ u∈es,∃ v∈Bs.getD j [],x=u+(t - 2)*v:=by
        have:x∈qa4 es (-(t - 2)) (Bs.getD j []):=by
          unfold qa4
          have:(fun x y=>x - -(t - 2)*y)=fun x y:Int=>x+(t - 2)*y:=by
            funext x y
            rw [Int.neg_mul,Int.sub_neg]
          rw [this]
          exact hx
        obtain ⟨u,hu,v,hv,e⟩:=qcQ this
        exact ⟨u,hu,v,hv,by rw [e,Int.neg_mul,Int.sub_neg]⟩
      have a1:=he2 u hu
      have a2:=bB v hv
      have a3:((t - 2)*v).natAbs≤2*A:=by rw [Int.natAbs_mul];exact Nat.mul_le_mul ht a2
      have a4:2*A*(j+1)=2*A*j+2*A:=Nat.mul_succ ..
      have:=Int.natAbs_add_le u ((t - 2)*v)
      omega
    rintro ρ ⟨es,u12,u13,rfl,he1,he2⟩
    rw [qbs,List.length_map,hfl] at he2
    refine ⟨by rw [List.length_map];exact qar (by omega),_,qhe vD Ls es,Ls++[es],_,_,_,_,_,_,rfl,by rw [List.length_append,hL1];rfl,fun L hL=>?_⟩
    rcases List.mem_append.mp hL with h | h
    · exact hL2 L h
    · rw [List.mem_singleton.mp h]
      refine ⟨he1,fun x hx=>?_⟩
      have:=he2 x hx
      have h2:2*A*rk≤2*A*n:=Nat.mul_le_mul_left _ hrk
      omega
  rintro ρ ⟨Ls,u6,u9,u10,u11,u12,u13,rfl,hL1,hL2⟩
  rw [qbp,Int.toNat_natCast] at hL1
  exact q Ls e hcase hL2 (by omega)
def qbS:SpD:=fun ds R=>∃ (n many:Nat) (Ts Cs:List (List Int)),ds=[.int (n:Int),.tup [.tup (Ts.map vD),.tup (Cs.map vD),.int (many:Int)]]∧n≤8∧many≤n∧Ts.length=n∧Cs.length=n∧(∀ T∈Ts,T.length=n)∧(∀ C∈Cs,C.length=n)∧R (.bl true)
theorem qcO {n:Nat} {f:Addr} {fd:FuncData} (F:Fun K "_law_squares" "_law_squares" qaL f fd) (Q__law_whole:Cl P w K mg base n "_law_whole" ["_law_seen"] qbM) (Q__law_wholes:Cl P w K mg base n "_law_wholes" ["_law_seen","_law_size"] qb5) (z_isinstance:mg "isinstance"=none) (z_tuple:mg "tuple"=none) (z_len:mg "len"=none) (z_all:mg "all"=none):FnOk P w K mg base CX0 (n+1) f fd ["_law_n","_law_told"] (lSp K qbS):=by
  refine F.okD sc__law_squares (fun ds R h=>?_) (fun cdv A outer s H E ds R hr h=>?_)
  · obtain ⟨n,many,Ts,Cs,rfl,_⟩:=h;rfl
  obtain ⟨n,many,Ts,Cs,rfl,hn,hm,lT,lC,wT,wC,q⟩:=h
  refine ⟨_,(qeq (qfW (PWD.td (qky (qfM (qfO (PD.q (qgJ rfl z_isinstance (dvq 1) (qcW (v:=.ty "tuple") rfl z_tuple PyProof.Rows.boot_tuple rfl) qaa qaa)) (fun _=>rfl))) (qky (qcz (qku hr.units) (PD.q (qbl qhg rfl z_len PySem.boot_len (qaG (dvq 1) qa1 qaa) qaa qaf)) (PD.q qah) (qaZ _)) (qky (qfM (qfO (PD.q (qaO Q__law_whole hr rfl (qae (qjT (dvq 1) (PD.q qah) (fun _ _=>rfl)) qaA qai) qai qaf)) (fun _=>rfl))) (qjR (qfM (qiM qlB qlB (PD.q qah) (PD.q (qjT (dvq 1) (PD.q qah) (fun _ _=>rfl))) (dvq 0) (by with_unfolding_all rfl)))))))) (qaK (qbv qem)) qc9)
      (qaC (qe5 PassesOwn.never rfl (qdN (qkx (dvq 1) qfs (qfm (PD.q qah)))) (qat (i:=2) sc__law_squares.nd rfl (Or.inl rfl)) (qeq (qfW (PWD.td (qky (qfM (qfO (PD.q (qgJ rfl z_isinstance (dvq 2) (qcW (v:=.ty "tuple") rfl z_tuple PyProof.Rows.boot_tuple rfl) qaa qaa)) (fun _=>rfl))) (qjR (qcz (qku hr.units) (PD.q (qbl qhg rfl z_len PySem.boot_len (qaG (dvq 2) qa1 qaa) qaa qaf)) (dvq 0) (qaZ _))))) (qaK (qbv qem)) qc9)
      (qaK (qfW (qfM (qfO (PD.q (qbl (qkl rfl) rfl z_all PyProof.Rows.boot_all (qaG (PD.q (PF.d (qa7 (k:=1) (N':=["_law_one","_law_n"]) (cap:=[none,some 0]) rfl (.ok (show qaS ["_law_n","_law_told","_law_square"] (qab qaL) _ ["_law_one","_law_n"] [none,some 0]=true by decide +kernel)) (by decide +kernel) (qaN (by decide)) (qdN (dv 2)) (fun _ _ _ _ _=>(qat (i:=0) (show List.Nodup (["_law_one","_law_n"]:List Str) by decide +kernel) rfl (Or.inl rfl))) (fun _ _ _ _ _=>(qaO Q__law_wholes hr rfl (qae (dv 0) (qae (dv 1) qaA qaa) qaa) qaa (qaj qaa qaf)))))) qa1 qan) qan qaf)) (fun _=>rfl))) (qaK (qbv qem)) qc9))))
      (qaK (qbv qem)))),?_⟩
  refine ⟨fun ρ=>ρ=[some (.v (.int n)),some (.v (.tup [.tup (Ts.map vD),.tup (Cs.map vD),.int (many:Int)])),none],⟨true,qgC _,fun h=>ff h,fun _=>⟨fun h=>ff h,fun _=>⟨_,rfl,_,rfl,fun h=>ff h,fun _=>⟨_,rfl,fun _=>?_,fun h=>?_⟩⟩⟩⟩,?_⟩
  · have e:decide ((many:Int)≤(n:Int))=true:=decide_eq_true (by omega)
    show ((!decide ((many:Int)≤(n:Int)))=true→_)∧((!decide ((many:Int)≤(n:Int)))=false→_)
    rw [e]
    exact ⟨fun h=>ff h,fun _=>rfl⟩
  · have e:decide ((0:Int)≤(many:Int))=true:=decide_eq_true (by omega)
    rw [e] at h
    cases h
  rintro ρ rfl
  have ec:qcA [D.tup (Ts.map vD),.tup (Cs.map vD),.int (many:Int)] none (some 2)=[D.tup (Ts.map vD),.tup (Cs.map vD)]:=rfl
  refine ⟨_,ec,fun i ρ=>∃ u2:Option Sl,ρ=[some (.v (.int n)),some (.v (.tup [.tup (Ts.map vD),.tup (Cs.map vD),.int (many:Int)])),u2],⟨_,rfl⟩,?_,?_⟩
  · rintro i d ρ hd ⟨u2,rfl⟩
    obtain ⟨As,rfl,lA,wA⟩:∃ As:List (List Int),d=.tup (As.map vD)∧As.length=n∧∀ A∈As,A.length=n:=by
      match i,hd with
      | 0,hd=>cases hd;exact ⟨Ts,rfl,lT,wT⟩
      | 1,hd=>cases hd;exact ⟨Cs,rfl,lC,wC⟩
    have eq:((((As.map vD).length:Nat):Int) == (n:Int))=true:=by rw [List.length_map,lA];exact beq_self_eq_true _
    refine ⟨fun ρ=>ρ=[some (.v (.int n)),some (.v (.tup [.tup (Ts.map vD),.tup (Cs.map vD),.int (many:Int)])),some (.v (.tup (As.map vD)))],⟨true,qgC _,fun h=>ff h,fun _=>⟨fun h=>?_,fun _=>rfl⟩⟩,?_⟩
    · have h':(!((((As.map vD).length:Nat):Int) == (n:Int)))=true:=h
      rw [eq] at h'
      cases h'
    rintro ρ rfl
    refine qbO (f:=vD) (fun _=>.bl true) (qar (by omega)) (fun A hA=>⟨A,n,rfl,by rw [wA A hA],by rw [wA A hA];omega,rfl⟩) ?_
    refine ⟨As.map fun _=>true,by rw [List.map_map];rfl,?_⟩
    have e:(fun bs:List Bool=>bs.all id) (As.map fun _=>true)=true:=List.all_eq_true.mpr fun b hb=>by
      obtain ⟨_,_,rfl⟩:=List.mem_map.mp hb
      rfl
    rw [e]
    exact ⟨fun h=>(by cases h),fun _=>⟨_,rfl⟩⟩
  rintro ρ ⟨u2,rfl⟩
  exact q
theorem qfi {f:D→D→Option Bool}:∀ {xs:List D},(∀ x∈xs,f x x=some true)→cmL f xs xs=some true
  | [],_=>rfl
  | x::xs,h=>by
    show ((f x x).bind fun b=>(cmL f xs xs).map (b && ·))=_
    rw [h x List.mem_cons_self,qfi fun y hy=>h y (List.mem_cons_of_mem _ hy)]
    rfl
theorem qjG {n:Nat} (i:Int):cmB (n+1) (.int i) (.int i)=some true:=by
  show some (i == i)=_
  rw [beq_self_eq_true]
theorem qiW {n:Nat} {xs:List D} (h:∀ x∈xs,cmB n x x=some true):cmB (n+1) (.tup xs) (.tup xs)=some true:=qfi h
theorem qfj (xs:List Int):cmB 40 (.tup (xs.map D.int)) (.tup (xs.map D.int))=some true:=qiW fun x hx=>by
  obtain ⟨i,_,rfl⟩:=List.mem_map.mp hx
  exact qjG i
theorem qgT {d:D} {X Y:Prop} (h:cmB 40 d d=some true) (k:Y):zNe d d fun d=>match d with | .bl b=>(b=true→X)∧(b=false→Y) | _=>False:=by
  unfold zNe
  rw [h]
  exact ⟨fun h=>ff h,fun _=>k⟩
def qbH (n:Nat) (Vs:List (List Int)) (ts:List Int) (k:Nat):List Int:=(List.range n).map fun a=>qcK k fun i=>ts.getD i 0*(Vs.getD i []).getD a 0
theorem qgf (n:Nat) (Vs:List (List Int)) (ts:List Int) (k:Nat):(qbH n Vs ts k).length=n:=by unfold qbH;rw [List.length_map,List.length_range]
theorem qfC (n:Nat) (Vs:List (List Int)) (ts:List Int):qbH n Vs ts 0=List.replicate n 0:=by
  unfold qbH
  show (List.range n).map (fun _=>(0:Int))=_
  rw [List.map_const',List.length_range]
theorem qfK {n k:Nat} {Vs:List (List Int)} {ts:List Int} (hV:(Vs.getD k []).length=n):qbH n Vs ts (k+1)=List.zipWith (fun x y=>x+ts.getD k 0*y) (qbH n Vs ts k) (Vs.getD k []):=by
  refine List.ext_getElem? fun a=>?_
  rw [List.getElem?_zipWith]
  unfold qbH
  rw [List.getElem?_map,List.getElem?_map]
  rcases Nat.lt_or_ge a n with c | c
  · rw [List.getElem?_range c,qay (xs:=Vs.getD k []) (d:=0) (by omega)]
    rfl
  · rw [List.getElem?_eq_none (by rw [List.length_range];omega)]
    rfl
def qdn:SpD:=fun ds R=>∃ (n:Nat) (Vs:List (List Int)) (ts:List Int),ds=[.int (n:Int),.tup (Vs.map vD),.lst (ts.map D.int)]∧n≤8∧Vs.length=ts.length∧Vs.length≤100∧(∀ V∈Vs,V.length=n∧∀ y∈V,qcB y)∧(∀ t∈ts,qcB t)∧R (.tup ((qbH n Vs ts ts.length).map D.int))
theorem qeK {n:Nat} {f:Addr} {fd:FuncData} (F:Fun K "_law_sum" "_law_sum" qbw f fd) (z_zip:mg "zip"=none) (z_tuple:mg "tuple"=none):FnOk P w K mg base CX0 (n+1) f fd ["_law_n","_law_lists_here","_law_times_here"] (lSp K qdn):=by
  refine F.okD sc__law_sum (fun ds R h=>?_) (fun cdv A outer s H E ds R hr h=>?_)
  · obtain ⟨n,Vs,ts,rfl,_⟩:=h;rfl
  obtain ⟨n,Vs,ts,rfl,hn,hl,hVl,hV,ht,q⟩:=h
  refine ⟨_,(qaC (qbY (i:=3) sc__law_sum.nd rfl (Or.inl rfl) (qaM qa6 (PD.q (PF.d (qci (qae qah qaA qao)))) (dvq 0)))
      (qaC (qe5 PassesOwn.never rfl (qdw rfl z_zip (qae (dv 1) (qae (dv 2) qaA qaa) qaa)) (qcf (n:=2) rfl (qau (qat (i:=4) sc__law_sum.nd rfl (Or.inl rfl)) (qau (qat (i:=5) sc__law_sum.nd rfl (Or.inr rfl)) qbx))) (qaK (qgX (i:=3) (k:=2) (N':=["_law_here","_law_there","_law_many"]) (cap:=[none,none,some 5]) rfl sc__law_sum.nd rfl (Or.inl rfl) (.ok (show qaS ["_law_n","_law_lists_here","_law_times_here","_law_total","_law_one","_law_many"] (qab qbw) _ ["_law_here","_law_there","_law_many"] [none,none,some 5]=true by decide +kernel)) (by decide +kernel) (qdp (n:=2) (qa3 (qaN (by decide)) (qa3 (qaN (by decide)) qdj))) (qdw rfl z_zip (qae (dv 3) (qae (dv 4) qaA qaa) qaa)) (fun _ _ _ _ _=>(qcf (n:=2) rfl (qau (qat (i:=0) (show List.Nodup (["_law_here","_law_there","_law_many"]:List Str) by decide +kernel) rfl (Or.inl rfl)) (qau (qat (i:=1) (show List.Nodup (["_law_here","_law_there","_law_many"]:List Str) by decide +kernel) rfl (Or.inl rfl)) qbx)))) (fun _ _ _ _ _=>(qaM qbr (dvq 0) (PD.q (qaM qa6 (dvq 2) (dvq 1))))))))
      (qaK (qbv (qbz qcq rfl z_tuple PyProof.Rows.boot_tuple (qaG (dvq 3) qa1 qaa) qaa qaf))))),?_⟩
  refine ⟨⟨by omega,by omega,qbZ (by show 1*(n:Int).toNat≤1000;omega)⟩,(List.replicate n (0:Int)).map D.int,by rw [qcj,Int.toNat_natCast],?_⟩
  refine ⟨_,_,rfl,rfl,fun i ρ=>∃ (u4 u5:Option Sl),ρ=[some (.v (.int n)),some (.v (.tup (Vs.map vD))),some (.v (.lst (ts.map D.int))),some (.v (.lst ((qbH n Vs ts i).map D.int))),u4,u5],⟨_,_,by rw [qfC];rfl⟩,?_,?_⟩
  · rintro i d ρ hd ⟨u4,u5,rfl⟩
    obtain ⟨a1,a2,ha1,ha2,rfl⟩:=qgr hd
    obtain ⟨V,rfl,hVi⟩:=qbK ha1
    obtain ⟨t,rfl,hti⟩:=qbK ha2
    have eV:Vs.getD i []=V:=qck hVi
    have et:ts.getD i 0=t:=qck hti
    obtain ⟨w1,w2⟩:=hV V (List.mem_of_getElem? hVi)
    have bt:=ht t (List.mem_of_getElem? hti)
    refine ⟨rfl,_,_,rfl,rfl,?_⟩
    refine qbu (f:=D.int) (h:=D.int) (fun x y=>D.int (x+t*y)) (qar (by rw [qgf];omega)) (fun x _ y hy=>⟨rfl,qdl bt (w2 y hy),rfl⟩) ?_
    refine ⟨some (.v (vD V)),some (.v (.int t)),?_⟩
    have e:List.zipWith (fun x y=>D.int (x+t*y)) (qbH n Vs ts i) V=(qbH n Vs ts (i+1)).map D.int:=by
      rw [qfK (by rw [eV];exact w1),eV,et,List.map_zipWith]
    rw [e]
    rfl
  rintro ρ ⟨u4,u5,rfl⟩
  rw [qdH,List.length_map,List.length_map,hl,Nat.min_self]
  exact q
theorem qe8 {f:Nat→Int} {many:Nat}:∀ {n:Nat},many≤n→(∀ k,many≤k→k<n→f k=0)→qcK n f=qcK many f
  | 0,h,_=>by rw [Nat.le_zero.mp h]
  | n+1,h,z=>by
    by_cases c:many=n+1
    · rw [c]
    · show qcK n f+f n=_
      rw [qe8 (n:=n) (by omega) fun k h1 h2=>z k h1 (by omega),z n (by omega) (by omega),Int.add_zero]
theorem qdy {s:List Int} {n:Nat} (h:s.length=n):((List.range n).map fun a=>s.getD a 0)=s:=by
  refine List.ext_getElem? fun a=>?_
  rw [List.getElem?_map]
  rcases Nat.lt_or_ge a n with c | c
  · rw [List.getElem?_range c,qay (xs:=s) (d:=0) (by omega)]
    rfl
  · rw [List.getElem?_eq_none (by rw [List.length_range];omega),List.getElem?_eq_none (by omega)]
    rfl
theorem qf1 {n e many:Nat} {Ls Ts Cs:List (List Int)} (h:LvG n e Ls Ts Cs many) {s:List Int} (hs:s.length=n):qbH n Cs (Ts.map fun T=>dot T s) n=s:=by
  have:qbH n Cs (Ts.map fun T=>dot T s) n=(List.range n).map fun a=>s.getD a 0:=by
    unfold qbH
    refine List.map_congr_left fun a ha=>?_
    rw [← h.d1 s hs a (List.mem_range.mp ha)]
    refine qbq fun i hi=>?_
    have:(Ts.map fun T=>dot T s).getD i 0=dot (Ts.getD i []) s:=by
      rw [List.getD_eq_getElem?_getD,List.getElem?_map,qay (xs:=Ts) (d:=[]) (by rw [h.lT];exact hi)]
      rfl
    rw [this]
  rw [this,qdy hs]
theorem qgZ {n e many:Nat} {Ls Ts Cs:List (List Int)} (h:LvG n e Ls Ts Cs many) {L:List Int} (hL:L∈Ls) (hl:L.length=n):qbH n (Ts.take many) ((Cs.take many).map fun C=>dot L C) many=L:=by
  have mn:=h.mn
  have:qbH n (Ts.take many) ((Cs.take many).map fun C=>dot L C) many=(List.range n).map fun a=>L.getD a 0:=by
    unfold qbH
    refine List.map_congr_left fun a ha=>?_
    rw [← h.d2 L hl a (List.mem_range.mp ha),qe8 mn fun k h1 h2=>by rw [h.sn L hL k h1 h2,Int.zero_mul]]
    refine qbq fun i hi=>?_
    have lC:=h.lC
    have lT:=h.lT
    have e1:((Cs.take many).map fun C=>dot L C).getD i 0=dot L (Cs.getD i []):=by
      rw [List.getD_eq_getElem?_getD,List.getElem?_map,List.getElem?_take_of_lt hi,qay (xs:=Cs) (d:=[]) (by omega)]
      rfl
    have e2:(Ts.take many).getD i []=Ts.getD i []:=by
      rw [List.getD_eq_getElem?_getD,List.getElem?_take_of_lt hi,← List.getD_eq_getElem?_getD]
    rw [e1,e2]
  rw [this,qdy hl]
abbrev sp_law:=qj9
abbrev qlg:=qh4
abbrev S8 (ns:List Int) (n:Nat) (x1:Int) (Ls:List (List Int)) (sp:List Int) (Ts Cs:List (List Int)) (many:Nat) (u6 u7 u8 u9:Option Sl):Rho:=[some (.v (.fzl (ns.map D.int))),some (.v (.int (n:Int))),some (.v (.int x1)),some (.v (.tup (Ls.map vD))),some (.v (.tup (sp.map D.int))),some (.v (.tup [.tup (Ts.map vD),.tup (Cs.map vD),.int (many:Int)])),u6,u7,u8,u9]
theorem qj4 {n:Nat} {f:Addr} {fd:FuncData} (F:Fun K "law" "law" qeO f fd) (Q__law_draws:Cl P w K mg base n "_law_draws" ["_law_script","_law_at","_law_sizes"] qbN) (Q__law_lists:Cl P w K mg base n "_law_lists" ["_law_script","_law_n"] qct) (Q_levels:Cl P w K mg base n "levels" ["n","lists"] qdS) (Q__law_squares:Cl P w K mg base n "_law_squares" ["_law_n","_law_told"] qbS) (Q__law_sum:Cl P w K mg base n "_law_sum" ["_law_n","_law_lists_here","_law_times_here"] qdn) (Q__law_times:Cl P w K mg base n "_law_times" ["_law_one","_law_other"] qcv) (z_tuple:mg "tuple"=none):FnOk P w K mg base CX0 (n+1) f fd ["_law_script"] (lSp K qlg):=by
  refine F.okD sc_law (fun ds R h=>?_) (fun cdv A outer s H E ds R hr h=>?_)
  · obtain ⟨ns,rfl,_⟩:=h;rfl
  obtain ⟨ns,rfl,hz,q⟩:=h
  refine ⟨_,(qaC (qhc (qaO Q__law_draws hr rfl (qae (dv 0) (qae qah (qae (PF.d (qci (qae qah (qae qah qaA qao) qao))) qaA qcp) qao) qaa) qaa (qaj qao (qaj qcp qaf))) (qcf (n:=2) rfl (qau (qat (i:=1) sc_law.nd rfl (Or.inl rfl)) (qau (qat (i:=2) sc_law.nd rfl (Or.inl rfl)) qbx))))
      (qeq (qfW (qcz (qjh hr.units) (dvq 2) (PD.q qah) (qaZ _)) (qaK (qbY (i:=1) sc_law.nd rfl (Or.inl rfl) qah)) qc9)
      (qaC (qbY (i:=3) sc_law.nd rfl (Or.inl rfl) (qaO Q__law_lists hr rfl (qae (dv 0) (qae (dv 1) qaA qaa) qaa) qaa (qaj qaa qaf)))
      (qaC (qbY (i:=4) sc_law.nd rfl (Or.inr rfl) (qbz qcq rfl z_tuple PyProof.Rows.boot_tuple (qaG (PD.q (PF.d (qa7 (k:=1) (N':=["_law_one"]) (cap:=[none]) rfl (.ok (show qaS ["_law_script","_law_n","_law_wide","_law_lists_here","_law_spot","_law_told","_law_turns","_law_columns","_law_many","_law_entries"] (qab qeO) _ ["_law_one"] [none]=true by decide +kernel)) (by decide +kernel) (qaN (by decide)) (qdN (qaO Q__law_draws hr rfl (qae (dv 0) (qae qah (qae (qaM qa6 (PD.q (PF.d (qci (qae (qaM qbr (PD.q (qaM qa6 (PD.q qah) (PD.q (qaM qfV (PD.q qah) (PD.q qah))))) (PD.q qah)) qaA qaq)))) (dvq 1)) qaA qaq) qao) qaa) qaa (qaj qao (qaj qaq qaf)))) (fun _ _ _ _ _=>(qat (i:=0) (show List.Nodup (["_law_one"]:List Str) by decide +kernel) rfl (Or.inl rfl))) (fun _ _ _ _ _=>(qaM qfz (dvq 0) (PD.q (qaM qfV (PD.q qah) (PD.q qah)))))))) qa1 qan) qan qaf))
      (qaC (qbY (i:=5) sc_law.nd rfl (Or.inl rfl) (qaO Q_levels hr rfl (qae (dv 1) (qae (dv 3) qaA qaa) qaa) qaa (qaj qaa qaf)))
      (qeq (qfW (qfM (qfO (PD.q (qaO Q__law_squares hr rfl (qae (dv 1) (qae (dv 5) qaA qaa) qaa) qaa (qaj qaa qaf))) (fun _=>rfl))) (qaK (qbv qem)) qc9)
      (qaC (qhc (dv 5) (qcf (n:=3) rfl (qau (qat (i:=6) sc_law.nd rfl (Or.inl rfl)) (qau (qat (i:=7) sc_law.nd rfl (Or.inl rfl)) (qau (qat (i:=8) sc_law.nd rfl (Or.inl rfl)) qbx)))))
      (qeq (qfW (qcz (qku hr.units) (PD.q (qaO Q__law_sum hr rfl (qae (dv 1) (qae (dv 7) (qae (PF.d (qa7 (k:=1) (N':=["_law_turn","_law_spot"]) (cap:=[none,some 4]) rfl (.ok (show qaS ["_law_script","_law_n","_law_wide","_law_lists_here","_law_spot","_law_told","_law_turns","_law_columns","_law_many","_law_entries"] (qab qeO) _ ["_law_turn","_law_spot"] [none,some 4]=true by decide +kernel)) (by decide +kernel) (qaN (by decide)) (qdN (dv 6)) (fun _ _ _ _ _=>(qat (i:=0) (show List.Nodup (["_law_turn","_law_spot"]:List Str) by decide +kernel) rfl (Or.inl rfl))) (fun _ _ _ _ _=>(qaO Q__law_times hr rfl (qae (dv 0) (qae (dv 1) qaA qaa) qaa) qaa (qaj qaa qaf))))) qaA qan) qaa) qaa) qaa (qaj qaa (qaj qan qaf)))) (dvq 4) (qaZ _)) (qaK (qbv qem)) qc9)
      (qaC (qe5 PassesOwn.never rfl (qdN (dv 3)) (qat (i:=9) sc_law.nd rfl (Or.inr rfl)) (qaK (qfW (qcz (qku hr.units) (PD.q (qaO Q__law_sum hr rfl (qae (dv 1) (qae (qkx (dvq 6) qfs (qfm (dvq 8))) (qae (PF.d (qa7 (k:=1) (N':=["_law_column","_law_entries"]) (cap:=[none,some 9]) rfl (.ok (show qaS ["_law_script","_law_n","_law_wide","_law_lists_here","_law_spot","_law_told","_law_turns","_law_columns","_law_many","_law_entries"] (qab qeO) _ ["_law_column","_law_entries"] [none,some 9]=true by decide +kernel)) (by decide +kernel) (qaN (by decide)) (qdN (qkx (dvq 7) qfs (qfm (dvq 8)))) (fun _ _ _ _ _=>(qat (i:=0) (show List.Nodup (["_law_column","_law_entries"]:List Str) by decide +kernel) rfl (Or.inl rfl))) (fun _ _ _ _ _=>(qaO Q__law_times hr rfl (qae (dv 1) (qae (dv 0) qaA qaa) qaa) qaa (qaj qaa qaf))))) qaA qan) qai) qaa) qaa (qaj qai (qaj qan qaf)))) (dvq 9) (qaZ _)) (qaK (qbv qem)) qc9)))
      (qaK (qbv qem))))))))))),?_⟩
  have h9:(2:Int)*10 ^ 30+1<2 ^ 9000:=by decide +kernel
  have h30:(10:Nat) ^ 30≤2 ^ 100:=by decide
  refine ⟨ns,0,[6,8],rfl,hz,by decide,by decide,by decide,by decide +kernel,fun es hD=>?_⟩
  obtain ⟨x0,x1,rfl,d0⟩:∃ x0 x1,es=[x0,x1]∧Dr x0 6:=by
    cases hD with | cons h1 h=>cases h with | cons h2 h=>cases h;exact ⟨_,_,rfl,h1⟩
  obtain ⟨n0,rfl⟩:=Int.eq_ofNat_of_zero_le d0.1
  refine ⟨rfl,fun ρ=>∃ n:Nat,n≤8∧ρ=[some (.v (.fzl (ns.map D.int))),some (.v (.int (n:Int))),some (.v (.int x1)),none,none,none,none,none,none,none],⟨fun _=>⟨8,Nat.le_refl _,rfl⟩,fun _=>⟨n0,by have:=d0.2;omega,rfl⟩⟩,?_⟩
  rintro ρ ⟨n,hn,rfl⟩
  have eT:(n:Int).toNat=n:=Int.toNat_natCast n
  refine ⟨ns,n,rfl,hz,hn,fun Ls e hcase hL hLl=>?_⟩
  refine ⟨⟨by decide,by decide,by decide⟩,qbk (by decide) (by decide),⟨by omega,by omega,qbZ (by show 1*(n:Int).toNat≤1000;omega)⟩,(List.replicate n (2*10 ^ 30+1:Int)).map D.int,by rw [qcj,eT];rfl,ns,42,List.replicate n (2*10 ^ 30+1:Int),rfl,hz,by decide,by decide,by rw [List.length_replicate];omega,fun z hz'=>?_,fun cs hC=>?_⟩
  · rw [(List.mem_replicate.mp hz').2];exact ⟨by decide,h9⟩
  have hcl:cs.length=n:=by rw [hC.len,List.length_replicate]
  have hcb:=qcM hC (b:=2*10 ^ 30+1) fun z hz=>by rw [(List.mem_replicate.mp hz).2];exact Int.le_refl _
  refine qbI (f:=D.int) (fun x=>x - 10 ^ 30) (qar (by omega)) (fun x _=>⟨⟨by decide,by decide,by decide⟩,(show D.int (x - 10 ^ (30:Int).toNat)=D.int (x - 10 ^ 30) from rfl)⟩) ?_
  generalize hsp:(cs.map fun x=>x - 10 ^ 30)=sp
  have hsl:sp.length=n:=by rw [← hsp,List.length_map];exact hcl
  have hsb:∀ y∈sp,y.natAbs≤2 ^ 100:=fun y hy=>by
    rw [← hsp] at hy
    obtain ⟨z,hz',rfl⟩:=List.mem_map.mp hy
    have:=hcb z hz'
    omega
  refine ⟨n,e,Ls,rfl,hcase,hL,fun Ts Cs many hv=>?_⟩
  obtain ⟨_,tc,tt⟩:=qlC hcase hv.mn
  have mn:=hv.mn
  have lT:=hv.lT
  have lC:=hv.lC
  have he:9≤e:=by omega
  have bC:∀ C∈Cs,C.length=n∧∀ y∈C,y.natAbs≤2 ^ sC e many:=fun C hC=>⟨hv.wC C hC,fun y hy=>by
    obtain ⟨k,hk,rfl⟩:=qb6 (d:=[]) hC
    exact hv.bC k (by rw [← hv.lC];exact hk) y hy⟩
  have bT:∀ T∈Ts,T.length=n∧∀ y∈T,y.natAbs≤2 ^ sT e many:=fun T hT=>⟨hv.wT T hT,fun y hy=>by
    obtain ⟨k,hk,rfl⟩:=qb6 (d:=[]) hT
    exact hv.bT k (by rw [← hv.lT];exact hk) y hy⟩
  have gC:∀ C∈Cs,∀ y∈C,qcB y:=fun C hC y hy=>qeQ ((bC C hC).2 y hy) (by omega)
  have gT:∀ T∈Ts,∀ y∈T,qcB y:=fun T hT y hy=>qeQ ((bT T hT).2 y hy) (by omega)
  have gL:∀ L∈Ls,∀ y∈L,qcB y:=fun L hL' y hy=>qeQ ((hL L hL').2 y hy) (by omega)
  have gs:∀ y∈sp,qcB y:=fun y hy=>qeQ (hsb y hy) (by decide)
  refine ⟨fun ρ=>ρ=S8 ns n x1 Ls sp Ts Cs many none none none none,⟨n,many,Ts,Cs,rfl,hn,hv.mn,hv.lT,hv.lC,hv.wT,hv.wC,fun h=>ff h,fun _=>rfl⟩,?_⟩
  rintro ρ rfl
  refine ⟨rfl,fun ρ=>ρ=S8 ns n x1 Ls sp Ts Cs many (some (.v (.tup (Ts.map vD)))) (some (.v (.tup (Cs.map vD)))) (some (.v (.int (many:Int)))) none,?_,?_⟩
  · refine qbI (f:=vD) (fun T=>dot T sp) (qar (by omega)) (fun T hT=>⟨_,T,sp,rfl,.inr rfl,by rw [(bT T hT).1];omega,gT T hT,gs,rfl⟩) ?_
    refine ⟨n,Cs,Ts.map fun T=>dot T sp,rfl,hn,by rw [List.length_map,lC,lT],by omega,fun C hC=>⟨hv.wC C hC,gC C hC⟩,fun t ht=>?_,?_⟩
    · obtain ⟨T,hT,rfl⟩:=List.mem_map.mp ht
      have h1:=qfd (n:=8) (bT T hT).2 hsb (by rw [(bT T hT).1];exact hn)
      have h2:8*(2 ^ sT e many*2 ^ 100)=2 ^ (3+(sT e many+100)):=by rw [Nat.pow_add,Nat.pow_add]
      rw [h2] at h1
      exact qeQ h1 (by omega)
    · rw [List.length_map,lT,qf1 hv hsl]
      exact qgT (qfj sp) rfl
  rintro ρ rfl
  refine ⟨fun i ρ=>∃ u9:Option Sl,ρ=S8 ns n x1 Ls sp Ts Cs many (some (.v (.tup (Ts.map vD)))) (some (.v (.tup (Cs.map vD)))) (some (.v (.int (many:Int)))) u9,⟨_,rfl⟩,?_,?_⟩
  · rintro i d ρ hd ⟨u9,rfl⟩
    obtain ⟨L,rfl,hLi⟩:=qbK hd
    have hL':=List.mem_of_getElem? hLi
    have c1:qcA (Ts.map vD) none (some (many:Int))=(Ts.take many).map vD:=by rw [qdM,qdE]
    have c2:qcA (Cs.map vD) none (some (many:Int))=(Cs.take many).map vD:=by rw [qdM,qdE]
    refine ⟨_,c1,_,c2,?_⟩
    refine qbI (f:=vD) (fun C=>dot L C) (qar (by rw [List.length_take];omega)) (fun C hC=>⟨_,L,C,rfl,.inr rfl,by rw [(hL L hL').1];omega,gL L hL',gC C (List.mem_of_mem_take hC),rfl⟩) ?_
    have l1:(Ts.take many).length=many:=by rw [List.length_take];omega
    have l2:((Cs.take many).map fun C=>dot L C).length=many:=by rw [List.length_map,List.length_take];omega
    refine ⟨n,Ts.take many,(Cs.take many).map fun C=>dot L C,rfl,hn,by rw [l1,l2],by omega,fun T hT=>⟨hv.wT T (List.mem_of_mem_take hT),gT T (List.mem_of_mem_take hT)⟩,fun t ht=>?_,?_⟩
    · obtain ⟨C,hC,rfl⟩:=List.mem_map.mp ht
      have h1:=qfd (n:=8) (hL L hL').2 (bC C (List.mem_of_mem_take hC)).2 (by rw [(hL L hL').1];exact hn)
      have h2:8*(2 ^ (e - 3)*2 ^ sC e many)=2 ^ (3+(e - 3+sC e many)):=by rw [Nat.pow_add,Nat.pow_add]
      rw [h2] at h1
      exact qeQ h1 (by omega)
    · rw [l2,qgZ hv hL' (hL L hL').1]
      exact qgT (qfj L) ⟨_,rfl⟩
  rintro ρ ⟨u9,rfl⟩
  exact q
end
theorem qk6 {A:Type} {p:List A→Prop} (h:∀ a0,p [a0]):∀ us:List A,us.length=1→p us
  | [a0],_=>h a0
theorem qhH {A:Type} {p:List A→Prop} (h:∀ a0 a1,p [a0,a1]):∀ us:List A,us.length=2→p us
  | [a0,a1],_=>h a0 a1
theorem qjf {A:Type} {p:List A→Prop} (h:∀ a0 a1 a2,p [a0,a1,a2]):∀ us:List A,us.length=3→p us
  | [a0,a1,a2],_=>h a0 a1 a2
theorem qmc {A:Type} {p:List A→Prop} (h:∀ a0 a1 a2 a3,p [a0,a1,a2,a3]):∀ us:List A,us.length=4→p us
  | [a0,a1,a2,a3],_=>h a0 a1 a2 a3
theorem all_mk {l:PySem.W.OpenLaw} {w:World} {K:PySem.W.Frag} {h:Heap} {mg:Str→Option Value} {fa f6 f18 f19 f20:Addr} {C_Basis:Addr} (X:K.In h) (G:h.Ns mainGlobals mg) (hfa:mg "law"=some (.ref fa))
    {od6 an6 od18 an18 od19 an19 od20 an20:Option Addr} {sl6 sl18 sl19 sl20:Array (Option Value)} {oc6 kV6 dc6 pm6 cd6 ct6 oc18 kV18 dc18 pm18 cd18 ct18 oc19 kV19 dc19 pm19 cd19 ct19 oc20 kV20 dc20 pm20 cd20 ct20:Value}
    (aC_Basis:PySem.W.nsIn K mainGlobals "Basis"=some (some (.ref C_Basis)))
    (a1:Has K qb9 "nearest")
    (a2:Has K qey "unit")
    (a3:Has K qer "left")
    (a4:Has K qeh "less")
    (a5:Has K qaU "plain_basis")
    (a6:PySem.W.nsIn K mainGlobals "greatest_first"=some (some (.ref f6))) (l6:K.lookup f6=some ⟨oc6,od6,.func (PySem.W.fnOf "greatest_first" "greatest_first" (qaW qag) (qaI qag) (qab qag) .none kV6 dc6 pm6 an6 cd6 ct6),sl6⟩) (c6:PySem.W.codeIn K cd6 "greatest_first"=true) (k6:PySem.W.keepIn K (.ref f6)=true)
    {cc6 pp6:Addr} {dq6:Option Addr} {vq6:Array Value} {sq6:Array (Option Value)} (x6:cd6=.ref cc6) (q6:K.lookup cc6=some ⟨.type "code",dq6,.fields vq6,sq6⟩) (r6:(vq6[11]?:Option Value)=some (.ref pp6)) (v6:PySem.W.codeHdIn [(cc6,⟨.type "code",dq6,.fields vq6,sq6⟩)] cc6 pp6=true) (yg:PySem.W.nsIn K mainGlobals "least_grown"=some none)
    (a7:Has K qb2 "gather")
    (a8:Has K qcN "levels")
    (a9:Has K qbf "_law_mixed")
    (a10:Has K qbb "_law_draws")
    (a11:Has K qba "_law_whole")
    (a12:Has K qaV "_law_wholes")
    (a13:Has K qaX "_law_times")
    (a14:Has K qaJ "_law_lists")
    (a15:Has K qaL "_law_squares")
    (a16:Has K qbw "_law_sum")
    (a17:Has K qeO "law")
    (a18:PySem.W.findIn K (.ref C_Basis) "__init__"=some (some (.ref f18))) (i18:PySem.W.isFn K (.ref f18)=true) (l18:K.lookup f18=some ⟨oc18,od18,.func (PySem.W.fnOf "__init__" "Basis.__init__" (qaW qav) (qaI qav) (qab qav) .none kV18 dc18 pm18 an18 cd18 ct18),sl18⟩) (c18:PySem.W.codeIn K cd18 "Basis.__init__"=true) (k18:PySem.W.keepIn K (.ref f18)=true)
    (a19:PySem.W.findIn K (.ref C_Basis) "lessen_column"=some (some (.ref f19))) (i19:PySem.W.isFn K (.ref f19)=true) (l19:K.lookup f19=some ⟨oc19,od19,.func (PySem.W.fnOf "lessen_column" "Basis.lessen_column" (qaW qap) (qaI qap) (qab qap) .none kV19 dc19 pm19 an19 cd19 ct19),sl19⟩) (c19:PySem.W.codeIn K cd19 "Basis.lessen_column"=true) (k19:PySem.W.keepIn K (.ref f19)=true)
    (a20:PySem.W.findIn K (.ref C_Basis) "exchange"=some (some (.ref f20))) (i20:PySem.W.isFn K (.ref f20)=true) (l20:K.lookup f20=some ⟨oc20,od20,.func (PySem.W.fnOf "exchange" "Basis.exchange" (qaW qaw) (qaI qaw) (qab qaw) .none kV20 dc20 pm20 an20 cd20 ct20),sl20⟩) (c20:PySem.W.codeIn K cd20 "Basis.exchange"=true) (k20:PySem.W.keepIn K (.ref f20)=true)
    (pg_Basis:PySem.W.plainGet K C_Basis Str.empty=true) (hd_Basis:PySem.W.hasDictIn K C_Basis=true) (po_Basis:PySem.W.plainOver K C_Basis=true) (sa_Basis:PySem.W.findIn K (.ref C_Basis) "__setattr__"=some (some (.builtin "object.__setattr__"))) (mk_Basis:PySem.W.makesIn K C_Basis=true) (kc_Basis:PySem.W.keepIn K (.ref C_Basis)=true)
    (n_Basis_turns:PySem.W.findIn K (.ref C_Basis) "turns"=some none)
    (n_Basis_columns:PySem.W.findIn K (.ref C_Basis) "columns"=some none)
    (y_tuple:PySem.W.nsIn K mainGlobals "tuple"=some none)
    (y_range:PySem.W.nsIn K mainGlobals "range"=some none)
    (y_sum:PySem.W.nsIn K mainGlobals "sum"=some none)
    (y_zip:PySem.W.nsIn K mainGlobals "zip"=some none)
    (y_sorted:PySem.W.nsIn K mainGlobals "sorted"=some none)
    (y_enumerate:PySem.W.nsIn K mainGlobals "enumerate"=some none)
    (y_abs:PySem.W.nsIn K mainGlobals "abs"=some none)
    (y_len:PySem.W.nsIn K mainGlobals "len"=some none)
    (y_isinstance:PySem.W.nsIn K mainGlobals "isinstance"=some none)
    (y_int:PySem.W.nsIn K mainGlobals "int"=some none)
    (y_bool:PySem.W.nsIn K mainGlobals "bool"=some none)
    (y_all:PySem.W.nsIn K mainGlobals "all"=some none)
    (y_max:PySem.W.nsIn K mainGlobals "max"=some none)
    (y_list:PySem.W.nsIn K mainGlobals "list"=some none) :
    ∃ fd:FuncData,(∀ (s:Shared) (v:Value),BindsTo s fd ⟨[v],[]⟩ [("_law_script",v)])∧∀ base:Heap,K.In base→base.Ns mainGlobals mg→FnOk l.prog w K mg base CX0 5 fa fd ["_law_script"] (sp_law K):=by
  obtain ⟨f1,d1,F1,m1,_⟩:=a1.fn X G
  have b1:=F1.binds (ps:=["top","bottom"]) <| fun _ _ _ _ _ _=>qhH fun _ _=>rfl
  obtain ⟨f2,d2,F2,m2,_⟩:=a2.fn X G
  have b2:=F2.binds (ps:=["n","place"]) <| fun _ _ _ _ _ _=>qhH fun _ _=>rfl
  obtain ⟨f3,d3,F3,m3,_⟩:=a3.fn X G
  have b3:=F3.binds (ps:=["entries","spot"]) <| fun _ _ _ _ _ _=>qhH fun _ _=>rfl
  obtain ⟨f4,d4,F4,m4,_⟩:=a4.fn X G
  have b4:=F4.binds (ps:=["entries","times","others"]) <| fun _ _ _ _ _ _=>qjf fun _ _ _=>rfl
  obtain ⟨f5,d5,F5,m5,_⟩:=a5.fn X G
  have b5:=F5.binds (ps:=["n"]) <| fun _ _ _ _ _ _=>qk6 fun _=>rfl
  have F6:=qd9 (st:=qag) l6 c6 k6
  have m6:=PySem.W.mg_of X G a6
  have b6:=F6.binds (ps:=["numbers"]) <| fun _ _ _ _ _ _=>qk6 fun _=>rfl
  obtain ⟨f7,d7,F7,m7,_⟩:=a7.fn X G
  have b7:=F7.binds (ps:=["basis","many","entries"]) <| fun _ _ _ _ _ _=>qjf fun _ _ _=>rfl
  obtain ⟨f8,d8,F8,m8,_⟩:=a8.fn X G
  obtain ⟨f9,d9,F9,m9,_⟩:=a9.fn X G
  obtain ⟨f10,d10,F10,m10,_⟩:=a10.fn X G
  obtain ⟨f11,d11,F11,m11,_⟩:=a11.fn X G
  obtain ⟨f12,d12,F12,m12,_⟩:=a12.fn X G
  obtain ⟨f13,d13,F13,m13,_⟩:=a13.fn X G
  obtain ⟨f14,d14,F14,m14,_⟩:=a14.fn X G
  obtain ⟨f15,d15,F15,m15,_⟩:=a15.fn X G
  obtain ⟨f16,d16,F16,m16,_⟩:=a16.fn X G
  obtain ⟨f17,d17,F17,m17,_,_,_,e⟩:=a17.fn X G
  have F18:=qd9 (st:=qav) l18 c18 k18
  have b18:=F18.binds (ps:=["self","turns","columns"]) <| fun _ _ _ _ _ _=>qjf fun _ _ _=>rfl
  have F19:=qd9 (st:=qap) l19 c19 k19
  have b19:=F19.binds (ps:=["self","place","times","other"]) <| fun _ _ _ _ _ _=>qmc fun _ _ _ _=>rfl
  have F20:=qd9 (st:=qaw) l20 c20 k20
  have b20:=F20.binds (ps:=["self","place","other"]) <| fun _ _ _ _ _ _=>qjf fun _ _ _=>rfl
  cases hfa.symm.trans m17
  refine ⟨d17,fun s v=>by rw [e];exact .of_eq rfl,fun base _ _=>?_⟩
  have z_tuple:=PySem.W.mg_none_of X G y_tuple
  have z_range:=PySem.W.mg_none_of X G y_range
  have z_sum:=PySem.W.mg_none_of X G y_sum
  have z_zip:=PySem.W.mg_none_of X G y_zip
  have z_sorted:=PySem.W.mg_none_of X G y_sorted
  have z_enumerate:=PySem.W.mg_none_of X G y_enumerate
  have z_abs:=PySem.W.mg_none_of X G y_abs
  have z_len:=PySem.W.mg_none_of X G y_len
  have z_isinstance:=PySem.W.mg_none_of X G y_isinstance
  have z_int:=PySem.W.mg_none_of X G y_int
  have z_bool:=PySem.W.mg_none_of X G y_bool
  have z_all:=PySem.W.mg_none_of X G y_all
  have z_max:=PySem.W.mg_none_of X G y_max
  have z_list:=PySem.W.mg_none_of X G y_list
  have T_Basis:TxtBasis K mg C_Basis:=⟨⟨pg_Basis,hd_Basis,po_Basis,sa_Basis⟩,n_Basis_turns,n_Basis_columns,PySem.W.mg_of X G aC_Basis⟩
  have H1:=qfQ (P:=l.prog) (w:=w) (mg:=mg) (base:=base) (n:=0) F1
  have H2:=qin (P:=l.prog) (w:=w) (mg:=mg) (base:=base) (n:=0) F2 z_tuple z_range
  have H3:=qiA (P:=l.prog) (w:=w) (mg:=mg) (base:=base) (n:=0) F3 z_sum z_zip
  have H4:=qis (P:=l.prog) (w:=w) (mg:=mg) (base:=base) (n:=0) F4 z_tuple z_zip
  have L6:LamT K "greatest_first" (PySem.W.fnOf "greatest_first" "greatest_first" (qaW qag) (qaI qag) (qab qag) .none kV6 dc6 pm6 an6 cd6 ct6) cc6 pp6 ⟨47,30,47,63⟩:=⟨x6,qfN q6 v6,by rw [qc2 (qfn a6 l6 x6 q6 r6 rfl) (qdo yg)];exact List.mem_singleton.mpr rfl⟩
  have H6:=qcl (P:=l.prog) (w:=w) (mg:=mg) (base:=base) (n:=0) F6 z_sorted z_enumerate z_abs L6
  have H9:=qdY (P:=l.prog) (w:=w) (mg:=mg) (base:=base) (n:=0) F9
  have Q9:=F9.cl m9 H9 <| fun _ _ _ _ _ _=>qhH fun _ _=>rfl
  have H10:=qdL (n:=1) F10 (Q9.mono (by decide)) z_enumerate z_len
  have Q10:=F10.cl m10 H10 <| fun _ _ _ _ _ _=>qjf fun _ _ _=>rfl
  have H11:=qd2 (P:=l.prog) (w:=w) (mg:=mg) (base:=base) (n:=0) F11 z_isinstance z_int z_bool
  have Q11:=F11.cl m11 H11 <| fun _ _ _ _ _ _=>qk6 fun _=>rfl
  have H12:=qde (n:=1) F12 (Q11.mono (by decide)) z_isinstance z_tuple z_all z_len
  have Q12:=F12.cl m12 H12 <| fun _ _ _ _ _ _=>qhH fun _ _=>rfl
  have H13:=qdC (P:=l.prog) (w:=w) (mg:=mg) (base:=base) (n:=0) F13 z_sum z_zip
  have Q13:=F13.cl m13 H13 <| fun _ _ _ _ _ _=>qhH fun _ _=>rfl
  have H14:=qdP (n:=2) F14 (Q10.mono (by decide)) z_range z_tuple z_enumerate z_max z_int z_zip
  have Q14:=F14.cl m14 H14 <| fun _ _ _ _ _ _=>qhH fun _ _=>rfl
  have H15:=qcO (n:=2) F15 (Q11.mono (by decide)) (Q12.mono (by decide)) z_isinstance z_tuple z_len z_all
  have Q15:=F15.cl m15 H15 <| fun _ _ _ _ _ _=>qhH fun _ _=>rfl
  have H16:=qeK (P:=l.prog) (w:=w) (mg:=mg) (base:=base) (n:=0) F16 z_zip z_tuple
  have Q16:=F16.cl m16 H16 <| fun _ _ _ _ _ _=>qjf fun _ _ _=>rfl
  have H18:=qca (P:=l.prog) (w:=w) (mg:=mg) (base:=base) (n:=0) F18 T_Basis z_list
  have H5:=qdh (P:=l.prog) (w:=w) (mg:=mg) (base:=base) (n:=1) F5 T_Basis (H2.mono (by decide)) b2 F2.kp m2 (H18.mono (by decide)) b18 ⟨mk_Basis,a18,i18,kc_Basis⟩ z_range
  have H19:=qbA (P:=l.prog) (w:=w) (mg:=mg) (base:=base) (n:=1) F19 T_Basis (H4.mono (by decide)) b4 F4.kp m4
  have H7:=qf6 (P:=l.prog) (w:=w) (mg:=mg) (base:=base) (n:=2) F7 T_Basis (H6.mono (by decide)) b6 F6.kp m6 (H1.mono (by decide)) b1 F1.kp m1 (H3.mono (by decide)) b3 F3.kp m3 (H19.mono (by decide)) b19 ⟨a19,i19,k19⟩ z_len
  have H20:=qb4 (P:=l.prog) (w:=w) (mg:=mg) (base:=base) (n:=0) F20 T_Basis
  have H8:=qgt (P:=l.prog) (w:=w) (mg:=mg) (base:=base) (n:=3) F8 T_Basis (H5.mono (by decide)) b5 F5.kp m5 (H7.mono (by decide)) b7 F7.kp m7 (H20.mono (by decide)) b20 ⟨a20,i20,k20⟩ z_tuple
  have Q8:=F8.cl m8 (H8.toD qeN) <| fun _ _ _ _ _ _=>qhH fun _ _=>rfl
  have H17:=qj4 (n:=4) F17 (Q10.mono (by decide)) (Q14.mono (by decide)) (Q8.mono (by decide)) (Q15.mono (by decide)) (Q16.mono (by decide)) (Q13.mono (by decide)) z_tuple
  exact H17.imp qhj
theorem walk {l:PySem.W.OpenLaw} {q:Program} {loose:List Str} {XP:(Str→Option Value)→Heap→Prop} {YP:World→Heap→Prop} {d:DefRec} {K:Params→PySem.W.Frag} (hn:l.most=some 63) (hdf:d.params.defaults=[]) (him:PyProof.Rows.importsNone q=true)
    (hY:∀ (w:World) (h:Heap),YP w h→(K w.params).In h)
    (hT:∀ (w:World) (h:Heap),YP w h→∀ t∈qaB (K w.params),h.get? t.1=some (PySem.W.tabObj #[])∧(K w.params).lookup t.1=none∧isCodeTable h t.1) (hnd:∀ (w:World),∀ t∈qaB (K w.params),∀ u∈qaB (K w.params),t.1=u.1→t=u)
    (F:∀ (w:World) (mg:Str→Option Value) (fa:Addr) (h:Heap),(K w.params).In h→h.Ns mainGlobals mg→mg d.name=some (.ref fa) →
      ∃ fd:FuncData,(∀ (s:Shared) (u:Value),BindsTo s fd ⟨[u],[]⟩ [("_law_script",u)])∧∀ base:Heap,(K w.params).In base→base.Ns mainGlobals mg→FnOk l.prog w (K w.params) mg base CX0 5 fa fd ["_law_script"] (sp_law (K w.params))) :
    PySem.W.WalkO q loose XP YP l.row.toRowW d [] (fun f vs=>PySem.call f vs) :=
  L2.walk_ofT (n:=63) (k:=5) (x:="_law_script") (CX:=fun _=>CX0) (sp:=fun w=>sp_law (K w.params)) hn (by decide) hdf him ⟨rfl,by decide,by decide⟩ hY hT hnd F (fun _ _ a ns hl hS hTb=>⟨a,ns,rfl,hS,hl,hTb,fun _=>rfl⟩) fun _ _ _ _ _ z=>z
theorem tabs_is {K:PySem.W.Frag} {f c P:Addr} {oc kV dc pm cd ct:Value} {od an odq:Option Addr} {sl slq:Array (Option Value)} {vq:Array Value} (a:PySem.W.nsIn K mainGlobals "greatest_first"=some (some (.ref f)))
    (l:K.lookup f=some ⟨oc,od,.func (PySem.W.fnOf "greatest_first" "greatest_first" (qaW qag) (qaI qag) (qab qag) .none kV dc pm an cd ct),sl⟩) (x:cd=.ref c) (q:K.lookup c=some ⟨.type "code",odq,.fields vq,slq⟩) (r:(vq[11]?:Option Value)=some (.ref P)) (yg:PySem.W.nsIn K mainGlobals "least_grown"=some none):∃ ps,qaB K=[(P,ps)] :=
  ⟨_,qc2 (qfn a l x q r rfl) (qdo yg)⟩
theorem tabs_in {K:PySem.W.Frag} {h:Heap} {P c:Addr} {odq:Option Addr} {vq:Array Value} {slq:Array (Option Value)} (X:K.In h) (e:∃ ps,qaB K=[(P,ps)]) (q:K.lookup c=some ⟨.type "code",odq,.fields vq,slq⟩) (r:(vq[11]?:Option Value)=some (.ref P)) (n:K.lookup P=none) (m:h.get? P=some (PySem.W.tabObj #[])) :
    ∀ t∈qaB K,h.get? t.1=some (PySem.W.tabObj #[])∧K.lookup t.1=none∧isCodeTable h t.1:=fun t ht=>by
  obtain ⟨ps,e⟩:=e
  rw [e] at ht
  have:=List.mem_singleton.mp ht
  subst this
  exact ⟨m,n,c,_,vq,X _ _ q,rfl,rfl,r⟩
theorem tabs_nd {K:PySem.W.Frag} {P:Addr} (e:∃ ps,qaB K=[(P,ps)]):∀ t∈qaB K,∀ u∈qaB K,t.1=u.1→t=u:=fun t ht u hu _=>by
  obtain ⟨ps,e⟩:=e
  rw [e] at ht hu
  rw [List.mem_singleton.mp ht,List.mem_singleton.mp hu]
end Kx
namespace Kx
open PySem PySem.W L2
def KK:Params→Frag:=fun P =>
  (nat_lit 2,⟨.none,none,(.dict #[] 0),#[]⟩) ::
  (nat_lit 3,⟨(.type "dict"),none,(.dict #[dE P "__name__" 165 ((.str "law_cutyard_k38_regained" 337)),dE P "__doc__" 166 (.none),dE P "__package__" 167 (.none),dE P "__loader__" 168 ((.builtin "__main__.__loader__#opaque")),dE P "__spec__" 169 (.none),dE P "__annotations__" 170 ((.ref 6)),dE P "__builtins__" 171 ((.ref 4)),dE P "__file__" 173 ((.str "/claim/cut.py" 172)),dE P "__cached__" 174 (.none),dE P "_wall" 193 ((.ref 21)),dE P "nearest" 203 ((.ref 28)),dE P "unit" 211 ((.ref 33)),dE P "left" 217 ((.ref 38)),dE P "less" 225 ((.ref 43)),dE P "Basis" 304 ((.ref 95)),dE P "plain_basis" 310 ((.ref 104)),dE P "greatest_first" 318 ((.ref 109)),dE P "gather" 324 ((.ref 114)),dE P "levels" 336 ((.ref 121)),dE P "_law_mixed" 347 ((.ref 128)),dE P "_law_draws" 362 ((.ref 135)),dE P "_law_whole" 369 ((.ref 142)),dE P "_law_wholes" 375 ((.ref 147)),dE P "_law_times" 381 ((.ref 152)),dE P "_law_lists" 387 ((.ref 157)),dE P "_law_squares" 393 ((.ref 162)),dE P "_law_sum" 399 ((.ref 167)),dE P "law" 405 ((.ref 172))] 28),#[]⟩) ::
(nat_lit 20,cO "_wall" 187 "_wall" 188 189 1 1 3 15 181 16 (.ref 17) (.ref 18) 19 191 192) ::
  (nat_lit 21,fO qiu "_wall" "_wall" "__main__" 164 20) ::
(nat_lit 27,cO "nearest" 196 "nearest" 197 198 5 2 3 22 181 23 (.ref 24) (.ref 25) 26 201 202) ::
  (nat_lit 28,fO qb9 "nearest" "nearest" "cutyard.wholes" 194 27) ::
(nat_lit 32,cO "unit" 206 "unit" 207 208 8 2 3 29 181 30 .none .none 31 209 210) ::
  (nat_lit 33,fO qey "unit" "unit" "cutyard.rows" 204 32) ::
(nat_lit 37,cO "left" 212 "left" 213 214 10 2 3 34 181 35 .none .none 36 215 216) ::
  (nat_lit 38,fO qer "left" "left" "cutyard.rows" 204 37) ::
(nat_lit 42,cO "less" 220 "less" 221 222 13 3 3 39 181 40 .none .none 41 223 224) ::
  (nat_lit 43,fO qeh "less" "less" "cutyard.bases" 218 42) ::
(nat_lit 56,cO "__init__" 238 "Basis.__init__" 239 240 17 3 3 51 181 52 (.ref 53) (.ref 54) 55 244 245) ::
  (nat_lit 57,fO qav "__init__" "Basis.__init__" "cutyard.bases" 218 56) ::
(nat_lit 63,cO "lessen_column" 247 "Basis.lessen_column" 248 249 21 4 3 58 181 59 (.ref 60) (.ref 61) 62 254 255) ::
  (nat_lit 64,fO qap "lessen_column" "Basis.lessen_column" "cutyard.bases" 218 63) ::
(nat_lit 70,cO "lessen_turn" 257 "Basis.lessen_turn" 258 259 25 4 3 65 181 66 (.ref 67) (.ref 68) 69 264 265) ::
  (nat_lit 71,fO qbR "lessen_turn" "Basis.lessen_turn" "cutyard.bases" 218 70) ::
(nat_lit 77,cO "exchange" 267 "Basis.exchange" 268 269 28 3 3 72 181 73 (.ref 74) (.ref 75) 76 275 276) ::
  (nat_lit 78,fO qaw "exchange" "Basis.exchange" "cutyard.bases" 218 77) ::
(nat_lit 84,cO "picked" 278 "Basis.picked" 279 280 36 2 3 79 181 80 (.ref 81) (.ref 82) 83 283 284) ::
  (nat_lit 85,fO qc7 "picked" "Basis.picked" "cutyard.bases" 218 84) ::
(nat_lit 91,cO "spot_of" 286 "Basis.spot_of" 287 288 39 3 3 86 181 87 (.ref 88) (.ref 89) 90 292 293) ::
  (nat_lit 92,fO qcD "spot_of" "Basis.spot_of" "cutyard.bases" 218 91) ::
  (nat_lit 93,⟨(.type "tuple"),none,(.seq #[(.str "columns" 295),(.str "turns" 296)] 0),#[]⟩) ::
  (nat_lit 94,⟨(.type "dict"),none,(.dict #[dE P "__module__" 233 ((.str "cutyard.bases" 218)),dE P "__firstlineno__" 237 ((.int 15 236)),dE P "__init__" 246 ((.ref 57)),dE P "lessen_column" 256 ((.ref 64)),dE P "lessen_turn" 266 ((.ref 71)),dE P "exchange" 277 ((.ref 78)),dE P "picked" 285 ((.ref 85)),dE P "spot_of" 294 ((.ref 92)),dE P "__static_attributes__" 297 ((.ref 93)),dE P "__dict__" 299 ((.ref 96)),dE P "__weakref__" 301 ((.ref 97)),dE P "__doc__" 302 (.none)] 4),#[]⟩) ::
  (nat_lit 95,⟨(.type "type"),none,(.cls ⟨"Basis",[(.type "object")],[(.ref 95),(.type "object")],94,"Basis",true,[],[],false,none,false⟩),#[none,none,(some (.str "Basis" 226)),(some (.str "Basis" 234)),(some (.builtin "object.__new__")),(some (.bool true))]⟩) ::
  (nat_lit 96,⟨(.type "getset_descriptor"),none,(.fields #[(.str "__dict__" 298),(.ref 95),(.builtin "function.__dict__"),(.builtin "function.__dict__#set")]),#[]⟩) ::
  (nat_lit 97,⟨(.type "getset_descriptor"),none,(.fields #[(.str "__weakref__" 300),(.ref 95),(.builtin "ExceptionGroup.__weakref__"),.none]),#[]⟩) ::
(nat_lit 103,cO "plain_basis" 305 "plain_basis" 306 307 41 1 3 100 181 101 .none .none 102 308 309) ::
  (nat_lit 104,fO qaU "plain_basis" "plain_basis" "cutyard.bases" 218 103) ::
(nat_lit 108,cO "greatest_first" 313 "greatest_first" 314 315 45 1 3 105 181 106 .none .none 107 316 317) ::
  (nat_lit 109,fO qag "greatest_first" "greatest_first" "cutyard.levels" 311 108) ::
(nat_lit 113,cO "gather" 319 "gather" 320 321 48 3 3 110 181 111 .none .none 112 322 323) ::
  (nat_lit 114,fO qb2 "gather" "gather" "cutyard.levels" 311 113) ::
(nat_lit 120,cO "levels" 325 "levels" 326 327 57 2 3 115 181 116 (.ref 117) (.ref 118) 119 334 335) ::
  (nat_lit 121,fO qcN "levels" "levels" "cutyard.levels" 311 120) ::
(nat_lit 127,cO "_law_mixed" 339 "_law_mixed" 340 341 67 2 3 122 181 123 (.ref 124) (.ref 125) 126 345 346) ::
  (nat_lit 128,fO qbf "_law_mixed" "_law_mixed" "law_cutyard_k38_regained" 337 127) ::
(nat_lit 134,cO "_law_draws" 348 "_law_draws" 349 350 70 3 3 129 181 130 (.ref 131) (.ref 132) 133 360 361) ::
  (nat_lit 135,fO qbb "_law_draws" "_law_draws" "law_cutyard_k38_regained" 337 134) ::
(nat_lit 141,cO "_law_whole" 363 "_law_whole" 364 365 86 1 3 136 181 137 (.ref 138) (.ref 139) 140 367 368) ::
  (nat_lit 142,fO qba "_law_whole" "_law_whole" "law_cutyard_k38_regained" 337 141) ::
(nat_lit 146,cO "_law_wholes" 370 "_law_wholes" 371 372 88 2 3 143 181 144 .none .none 145 373 374) ::
  (nat_lit 147,fO qaV "_law_wholes" "_law_wholes" "law_cutyard_k38_regained" 337 146) ::
(nat_lit 151,cO "_law_times" 376 "_law_times" 377 378 90 2 3 148 181 149 .none .none 150 379 380) ::
  (nat_lit 152,fO qaX "_law_times" "_law_times" "law_cutyard_k38_regained" 337 151) ::
(nat_lit 156,cO "_law_lists" 382 "_law_lists" 383 384 92 2 3 153 181 154 .none .none 155 385 386) ::
  (nat_lit 157,fO qaJ "_law_lists" "_law_lists" "law_cutyard_k38_regained" 337 156) ::
(nat_lit 161,cO "_law_squares" 388 "_law_squares" 389 390 110 2 3 158 181 159 .none .none 160 391 392) ::
  (nat_lit 162,fO qaL "_law_squares" "_law_squares" "law_cutyard_k38_regained" 337 161) ::
(nat_lit 166,cO "_law_sum" 394 "_law_sum" 395 396 119 3 3 163 181 164 .none .none 165 397 398) ::
  (nat_lit 167,fO qbw "_law_sum" "_law_sum" "law_cutyard_k38_regained" 337 166) ::
(nat_lit 171,cO "law" 400 "law" 401 402 124 1 3 168 181 169 .none .none 170 403 404) ::
  (nat_lit 172,fO qeO "law" "law" "law_cutyard_k38_regained" 337 171)::[]
end Kx
def PySem.W.Fast.tw15339712697964022472:=PySem.Challenge.pw_cutyard_k38_regained
theorem PySem.W.Fast.te15339712697964022472:PySem.Challenge.pw_cutyard_k38_regained=PySem.W.Fast.tw15339712697964022472:=rfl
def PySem.W.Fast.tw5385739360559341639:=Kx.KK
theorem PySem.W.Fast.te5385739360559341639:Kx.KK=PySem.W.Fast.tw5385739360559341639:=rfl
theorem PySem.W.Fast.tw10489916056328019166:True:=trivial
theorem PySem.W.Fast.tw11338121267373748851:True:=trivial
theorem PySem.W.Fast.tw12292916468292685142:True:=trivial
theorem PySem.W.Fast.tw15848361107247492308:True:=trivial
theorem PySem.W.Fast.tw1638031591225876488:True:=trivial
theorem PySem.W.Fast.tw1777474452131116144:True:=trivial
theorem PySem.W.Fast.tw2902461318451551564:True:=trivial
theorem PySem.W.Fast.tw4154549913596863065:True:=trivial
theorem PySem.W.Fast.tw5489684066430910234:True:=trivial
theorem PySem.W.Fast.tw6255583752744490549:True:=trivial
theorem PySem.W.Fast.tw8749310321485152141:True:=trivial
theorem PySem.W.Fast.tw9169391862849820503:True:=trivial
open PySem PySem.W PyProof.Rows
set_option maxRecDepth 100000 in
set_option maxHeartbeats 0 in
theorem PySem.Challenge.cw_cutyard_k38_regained_holds : PySem.Challenge.rw_cutyard_k38_regained.Holds := by
  w_on;o_law;o_head (kmHook Kx.KK (2::3::20::21::27::28::32::33::37::38::42::43::56::57::63::64::70::71::77::78::84::85::91::92::93::94::95::96::97::103::104::108::109::113::114::120::121::127::128::134::135::141::142::146::147::151::152::156::157::161::162::166::167::171::172::[]) (fun _=>by kernel_rfl) [106]);(case hw=>w_witness2)
  k_fill
  refine Kx.walk (l:=PySem.Challenge.rw_cutyard_k38_regained) rfl rfl (by decide +kernel) (fun w h Y=>PySem.W.km_in_of Y) ?tabT ?tabN ?F
  case tabT =>
    intro w h Y
    have KX:=PySem.W.km_in_of Y
    refine' Kx.tabs_in KX (Kx.tabs_is ?ta9 ?tl9 ?tx9 ?tq9 ?tr9 ?tg9) ?tq9 ?tr9 ?tn9 ?tm9
    (case ta9=>k_is);(case tl9=>k_is);(case tx9=>rfl);(case tq9=>k_is);(case tr9=>rfl);(case tg9=>k_is)
    (case tn9=>kernel_rfl);(case tm9=>exact PySem.W.km_tabs_of Y _ (by simp))
  case tabN =>
    intro w
    refine' Kx.tabs_nd (Kx.tabs_is ?ta9 ?tl9 ?tx9 ?tq9 ?tr9 ?tg9)
    (case ta9=>k_is);(case tl9=>k_is);(case tx9=>rfl);(case tq9=>k_is);(case tr9=>rfl);(case tg9=>k_is)
  case F =>
    intro w mg fa h KX G hmg
    refine' Kx.all_mk KX G hmg ?aC_Basis ?a1 ?a2 ?a3 ?a4 ?a5 ?a6 ?l6 ?c6 ?k6 ?lx6 ?lq6 ?lr6 ?lv6 ?lyg ?a7 ?a8 ?a9 ?a10 ?a11 ?a12 ?a13 ?a14 ?a15 ?a16 ?a17 ?a18 ?i18 ?l18 ?c18 ?k18 ?a19 ?i19 ?l19 ?c19 ?k19 ?a20 ?i20 ?l20 ?c20 ?k20 ?pg_Basis ?hd_Basis ?po_Basis ?sa_Basis ?mk_Basis ?kc_Basis ?n_Basis_turns ?n_Basis_columns ?y_tuple ?y_range ?y_sum ?y_zip ?y_sorted ?y_enumerate ?y_abs ?y_len ?y_isinstance ?y_int ?y_bool ?y_all ?y_max ?y_list
    (case aC_Basis=>k_is);(case pg_Basis=>k_is);(case hd_Basis=>k_is);(case po_Basis=>k_is);(case sa_Basis=>k_is);(case mk_Basis=>k_is);(case kc_Basis=>k_is);(case n_Basis_turns=>k_is);(case n_Basis_columns=>k_is)
    (case a6=>k_is);(case l6=>k_is);(case c6=>k_is);(case k6=>k_is)
    (case lx6=>rfl);(case lq6=>k_is);(case lr6=>rfl);(case lv6=>kernel_rfl);(case lyg=>k_is)
    (case a18=>k_is);(case i18=>k_is);(case l18=>k_is);(case c18=>k_is);(case k18=>k_is)
    (case a19=>k_is);(case i19=>k_is);(case l19=>k_is);(case c19=>k_is);(case k19=>k_is)
    (case a20=>k_is);(case i20=>k_is);(case l20=>k_is);(case c20=>k_is);(case k20=>k_is)
    (case y_tuple=>k_is)
    (case y_range=>k_is)
    (case y_sum=>k_is)
    (case y_zip=>k_is)
    (case y_sorted=>k_is)
    (case y_enumerate=>k_is)
    (case y_abs=>k_is)
    (case y_len=>k_is)
    (case y_isinstance=>k_is)
    (case y_int=>k_is)
    (case y_bool=>k_is)
    (case y_all=>k_is)
    (case y_max=>k_is)
    (case y_list=>k_is)
    all_goals (refine' L2.Has.of ?a ?l ?c;(case a=>k_is);(case l=>k_is);(case c=>k_is))

