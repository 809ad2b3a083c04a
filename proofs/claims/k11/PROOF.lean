import PyProof.Rows.All
import Wide.All
import OpenK.AllK
import Wide.FinOn
import Lean
import PyProof.EqAt
import PyProof.EqKinds
import PyProof.TupleCall
import PyProof.NeKinds
import KE.KLam
import KE.KMinKey
import KE.KSortTup
import PyProof.AutoListH
import PyProof.MeetsStr
import PyProof.StrLawsJoin
import PyProof.FitsReplace
import PyProof.Rows.TupDisplay
import PyProof.ListRange
import PySem.Challenge.RW_cutyard_k11_trail_by_the_rule
set_option Elab.async false
set_option linter.all false
set_option maxRecDepth 100000
namespace L2
open PySem PySem.Spec PyProof.Rows
abbrev Key:=Sum Int Str
def qlX:Key→Value→Bool
  | .inl k,v=>Value.isInt k v
  | .inr x,v=>Value.isStrOf x v
def qoo (w:World):Key→Int
  | .inl k=>hashInt k
  | .inr x=>hashStr w x
theorem qa2:∀ {k:Key} {v:Value},qlX k v=true→(∃ i t,k=Sum.inl i∧v=Value.int i t)∨(∃ x t,k=Sum.inr x∧v=Value.str x t)
  | .inl i,v,h=>by
    obtain ⟨t,e⟩:=Value.isInt_shape (k:=i) (v:=v) h
    exact .inl ⟨i,t,rfl,e⟩
  | .inr x,v,h=>by
    obtain ⟨t,e⟩:=Value.isStrOf_shape (x:=x) (v:=v) h
    exact .inr ⟨x,t,rfl,e⟩
theorem qmH (a b:Int):decide ((Sum.inl a:Key)=Sum.inl b)=(a == b):=by
  by_cases e:a=b
  · subst e;simp
  · have h:¬ (Sum.inl a:Key)=Sum.inl b:=fun q=>e (Sum.inl.inj q)
    rw [decide_eq_false h]
    exact (beq_eq_false_iff_ne.mpr e).symm
theorem qlK (a b:Str):decide ((Sum.inr a:Key)=Sum.inr b)=decide (a=b):=by
  by_cases e:a=b
  · subst e;simp
  · have h:¬ (Sum.inr a:Key)=Sum.inr b:=fun q=>e (Sum.inr.inj q)
    rw [decide_eq_false h,decide_eq_false e]
theorem qmP (a:Int) (b:Str):decide ((Sum.inl a:Key)=Sum.inr b)=false:=decide_eq_false (fun q=>nomatch q)
theorem qlt (a:Str) (b:Int):decide ((Sum.inr a:Key)=Sum.inl b)=false:=decide_eq_false (fun q=>nomatch q)
def qfO (prog:Program) (w:World):PySem.KeyKind prog w Key where
  is:=qlX
  hash:=qoo w
  inj:=fun v a b ha hb=>by
    rcases qa2 ha with ⟨i,t,rfl,rfl⟩ | ⟨x,t,rfl,rfl⟩
    · rcases qa2 hb with ⟨j,u,rfl,e⟩ | ⟨y,u,rfl,e⟩
      · injection e with e1 _;rw [e1]
      · exact nomatch e
    · rcases qa2 hb with ⟨j,u,rfl,e⟩ | ⟨y,u,rfl,e⟩
      · exact nomatch e
      · injection e with e1 _;rw [e1]
  byValue:=fun k v h=>by
    rcases qa2 h with ⟨i,t,rfl,rfl⟩ | ⟨x,t,rfl,rfl⟩ <;> rfl
  pyHash:=fun hv h=>by
    rcases qa2 hv with ⟨i,t,rfl,rfl⟩ | ⟨x,t,rfl,rfl⟩
    · exact wpAny_pyHash_int h
    · exact wpAny_pyHash_str h
  eqBool:=fun hu hv h=>by
    rcases qa2 hu with ⟨i,t,rfl,rfl⟩ | ⟨x,t,rfl,rfl⟩
    · rcases qa2 hv with ⟨j,u,rfl,rfl⟩ | ⟨y,u,rfl,rfl⟩
      · rw [qmH] at h;exact wpAny_eqBool_int h
      · rw [qmP] at h;exact SeqAt.EqAt.int_str i t y u _ _ _ _ h
    · rcases qa2 hv with ⟨j,u,rfl,rfl⟩ | ⟨y,u,rfl,rfl⟩
      · rw [qlt] at h;exact SeqAt.EqAt.str_int x t j u _ _ _ _ h
      · rw [qlK] at h;exact wpAny_eqBool_str h
  «strs»:=fun k x t v h=>by
    rcases qa2 h with ⟨i,u,rfl,e⟩ | ⟨y,u,rfl,e⟩
    · exact nomatch e
    · injection e with e1 _
      subst e1
      cases v <;> rfl
inductive V where
  | non | bl (b:Bool) | int (i:Int) | str (x:Str) | byt (b:Array UInt8) | flt (b:UInt64) | ref (a:Addr) | ty (n:String)
  deriving DecidableEq
def RelV:V→Value→Prop
  | .non,u=>u=Value.none
  | .bl b,u=>u=Value.bool b
  | .int i,u=>∃ t,u=Value.int i t
  | .str x,u=>∃ t,u=Value.str x t
  | .byt b,u=>∃ t,u=Value.bytes b t
  | .flt b,u=>∃ t,u=Value.float b t
  | .ref a,u=>u=Value.ref a
  | .ty n,u=>u=Value.type n
abbrev Vals:List V→List Value→Prop:=Paired RelV
theorem Vals.length {xs:List V} {us:List Value} (r:Vals xs us):xs.length=us.length:=Paired.length r
theorem Vals.get:∀ {xs:List V} {us:List Value} {i:Nat} {x:V},Vals xs us→xs[i]?=some x→∃ u,us[i]?=some u∧RelV x u
  | _,_,_,_,.nil,e=>by simp at e
  | _,_,0,_,.cons r _,e=>by simp at e;subst e;exact ⟨_,rfl,r⟩
  | _,_,i+1,x,.cons _ t,e=>by
    obtain ⟨u,h1,h2⟩:=Vals.get (i:=i) (x:=x) t (by simpa using e)
    exact ⟨u,by simpa using h1,h2⟩
theorem Vals.append:∀ {xs ys:List V} {us ws:List Value},Vals xs us→Vals ys ws→Vals (xs++ys) (us++ws)
  | _,_,_,_,.nil,s=>s
  | _,_,_,_,.cons r t,s=>.cons r (Vals.append t s)
theorem Vals.take:∀ {xs:List V} {us:List Value} (n:Nat),Vals xs us→Vals (xs.take n) (us.take n)
  | _,_,0,_=>.nil
  | _,_,_+1,.nil=>.nil
  | _,_,n+1,.cons r t=>.cons r (Vals.take n t)
theorem Vals.drop:∀ {xs:List V} {us:List Value} (n:Nat),Vals xs us→Vals (xs.drop n) (us.drop n)
  | _,_,0,r=>r
  | _,_,_+1,.nil=>.nil
  | _,_,n+1,.cons _ t=>Vals.drop n t
theorem Vals.none_of:∀ {xs:List V} {us:List Value} {i:Nat},Vals xs us→xs[i]?=none→us[i]?=none:=fun {xs us i} r e=>by
  have h1:=r.length
  have h2:xs.length≤i:=List.getElem?_eq_none_iff.mp e
  exact List.getElem?_eq_none_iff.mpr (by omega)
def RelO:Option V→Option Value→Prop
  | some v,some u=>RelV v u
  | none,none=>True
  | _,_=>False
def KV {κ:Type}:List (κ × V)→List (κ × Value)→Prop:=Paired fun (p:κ × V) (q:κ × Value)=>p.1=q.1∧RelV p.2 q.2
def kV:Key→V
  | .inl i=>.int i
  | .inr x=>.str x
inductive HO where
    | lst (xs:List V)
    | tup (xs:List V)
    | dK (kvs:List (Key × V)) | dT (kvs:List (List Key × V))
    | set (S:Int→Bool) (n:Nat)
    | ins (C dx:Addr) (fs:List (Str × V))
    | own (x:Addr)
    | xd (fs:List (Str × V))
    | met (f x:Addr)
    | rng (lo hi:Int)
    | frz (o:Obj) (u:HO)
    | tbl (ps:Array Value)
    | ext (φ:Heap→Prop)
abbrev Hp:=Addr→Option HO
def upd (H:Hp) (a:Addr) (o:HO):Hp:=fun b=>if b=a then some o else H b
theorem qan {H:Hp} {a:Addr} {o:HO}:upd H a o a=some o:=by unfold upd;rw [if_pos rfl]
theorem qax {H:Hp} {a b:Addr} {o:HO} (h:b≠a):upd H a o b=H b:=by unfold upd;rw [if_neg h]
theorem qaw {H:Hp} {a b:Addr} {o:HO} (h:H a=some o) (h':H b=none):a≠b:=by
  intro e;subst e;rw [h] at h';cases h'
section
variable (P : Program) (w : World)
def ObjOk (H:Hp) (h:Heap) (a:Addr):HO→Prop
  | .lst xs=>xs.length≤sizeLine∧∃ (its:List Value) (n:Nat),Vals xs its∧h.get? a=some { cls:=.type "list",data:=.seq its.toArray n }
  | .tup xs=>xs.length≤sizeLine∧∃ its:List Value,Vals xs its∧IsTup h a its.toArray
  | .dK kvs=>kvs.length≤sizeLine∧(a == sysModules)=false∧∃ vs,KV kvs vs∧h.DictOf (qfO P w) a vs
  | .dT kvs=>kvs.length≤sizeLine∧(a == sysModules)=false∧∃ xs:List (List Key × Addr × Value),
      Paired (fun (p:List Key × V) (q:List Key × Addr × Value)=>p.1=q.1∧H q.2.1=some (.tup (p.1.map kV))∧RelV p.2 q.2.2) kvs xs ∧
      ∃ o es ep,h.get? a=some o∧o.ExactDict∧o.data=.dict es ep∧es.toList=xs.map (entryOfKey (tupleKind (qfO P w)))∧(xs.map (·.1)).Nodup
  | .set S n=>h.SetOf (intKind P w) a S n
  | .ins C dx fs=>H dx=some (.own a)∧fs.length≤1000∧dx≠a∧h.get? a=some (PySem.W.instObj C dx) ∧
      ∃ mA,h.Ns1 dx mA∧(∀ f,RelO (fs.lookup f) (mA f))∧PySem.Within mA (fs.map (·.1))
  | .own _=>∃ o,h.get? a=some o
  | .xd fs=>∃ mA,h.Ns1 a mA∧∀ f,RelO (fs.lookup f) (mA f)
  | .rng lo hi=>∃ t u v,h.get? a=some { cls:=.type "range",data:=.fields #[.int lo t,.int hi u,.int 1 v] }
  | .frz o u=>h.get? a=some o∧ObjOk H h a u
  | .tbl ps=>h.get? a=some { cls:=.none,data:=.fields #[] }∨∃ (c:Addr) (o:Obj) (vs:Array Value) (x y:Value) (q:Str) (t t':Tok),ps=#[x,y,.str q t]∧H c=some (.frz o (.own a)) ∧
      h.get? a=some { cls:=.none,data:=.fields #[x,y,.ref c] }∧o.data=.fields vs∧vs[1]?=some (.str q t')
  | .met f x=>h.get? a=some (PySem.W.methodObj (.ref f) (.ref x))
  | .ext φ=>φ h∧(∃ o,h.get? a=some o)∧∀ h1 h2:Heap,φ h1→(∀ o,h1.get? a=some o→h2.get? a=some o)→φ h2
def HOk (H:Hp) (h:Heap):Prop:=∀ a o,H a=some o→ObjOk P w H h a o
end
section
variable {P : Program} {w : World} {H H' : Hp} {h h' : Heap} {a : Addr} {o : HO}
theorem ObjOk.lt (x:ObjOk P w H h a o):a<h.objs.size:=by
  cases o with
  | lst xs=>obtain ⟨_,_,_,_,e⟩:=x;exact Heap.lt_size e
  | tup xs=>obtain ⟨_,_,_,p⟩:=x;exact p.lt
  | dK kvs=>obtain ⟨_,_,_,_,o,_,_,e,_⟩:=x;exact Heap.lt_size e
  | dT kvs=>obtain ⟨_,_,_,_,o,_,_,e,_⟩:=x;exact Heap.lt_size e
  | set S n=>obtain ⟨o,_,_,_,e,_⟩:=x;exact Heap.lt_size e
  | ins C dx fs=>obtain ⟨_,_,_,e,_⟩:=x;exact Heap.lt_size e
  | own y=>obtain ⟨_,e⟩:=x;exact Heap.lt_size e
  | xd fs=>obtain ⟨_,⟨_,_,_,e,_⟩,_⟩:=x;exact Heap.lt_size e
  | rng lo hi=>obtain ⟨_,_,_,e⟩:=x;exact Heap.lt_size e
  | frz ob u=>obtain ⟨e,_⟩:=x;exact Heap.lt_size e
  | tbl ps=>rcases x with x | ⟨_,_,_,_,_,_,_,_,_,_,x,_⟩ <;> exact Heap.lt_size x
  | met f y=>exact Heap.lt_size (show h.get? a=some _ from x)
  | ext φ=>obtain ⟨_,⟨_,e⟩,_⟩:=x;exact Heap.lt_size e
theorem Paired.mapP {α β:Type} {F G:α→β→Prop}:∀ {l₁:List α} {l₂:List β},Paired F l₁ l₂→(∀ a b,F a b→G a b)→Paired G l₁ l₂
  | _,_,.nil,_=>.nil
  | _,_,.cons r t,f=>.cons (f _ _ r) (Paired.mapP t f)
theorem ObjOk.stay (x:ObjOk P w H h a o) (k:∀ b u,(b=a∨H b=some (.own a))→h.get? b=some u→h'.get? b=some u)
    (ho:∀ b,H b=some (.own a)→H' b=some (.own a)) (ht:∀ b xs,H b=some (.tup xs)→H' b=some (.tup xs)) (hf:∀ b o u,H b=some (.frz o u)→H' b=some (.frz o u)):ObjOk P w H' h' a o:=by
  induction o with
  | lst xs=>obtain ⟨z,its,n,r,e⟩:=x;exact ⟨z,its,n,r,k _ _ (.inl rfl) e⟩
  | tup xs=>obtain ⟨z,its,r,ob,e,c⟩:=x;exact ⟨z,its,r,ob,k _ _ (.inl rfl) e,c⟩
  | dK kvs=>obtain ⟨z,y,vs,r,ob,es,ep,e,c⟩:=x;exact ⟨z,y,vs,r,ob,es,ep,k _ _ (.inl rfl) e,c⟩
  | dT kvs =>
    obtain ⟨z,y,xs,r,ob,es,ep,e,c⟩:=x
    exact ⟨z,y,xs,Paired.mapP r fun p q z=>⟨z.1,ht _ _ z.2.1,z.2.2⟩,ob,es,ep,k _ _ (.inl rfl) e,c⟩
  | set S n=>obtain ⟨ob,es,ep,t,e,c⟩:=x;exact ⟨ob,es,ep,t,k _ _ (.inl rfl) e,c⟩
  | ins C dx fs =>
    obtain ⟨d,z,ne,e,mA,⟨od,es,ep,e2,c⟩,r⟩:=x
    exact ⟨ho _ d,z,ne,k _ _ (.inl rfl) e,mA,⟨od,es,ep,k _ _ (.inr d) e2,c⟩,r⟩
  | own y=>obtain ⟨ob,e⟩:=x;exact ⟨ob,k _ _ (.inl rfl) e⟩
  | xd fs=>obtain ⟨mA,⟨od,es,ep,e,c⟩,r⟩:=x;exact ⟨mA,⟨od,es,ep,k _ _ (.inl rfl) e,c⟩,r⟩
  | rng lo hi=>obtain ⟨t,u,v,e⟩:=x;exact ⟨t,u,v,k _ _ (.inl rfl) e⟩
  | frz ob u ih=>obtain ⟨e,q⟩:=x;exact ⟨k _ _ (.inl rfl) e,ih q⟩
  | tbl ps =>
    rcases x with x | ⟨c,o,vs,y,z,q,t,t',e1,e2,e3,e4⟩
    · exact .inl (k a _ (.inl rfl) x)
    · exact .inr ⟨c,o,vs,y,z,q,t,t',e1,hf _ _ _ e2,k a _ (.inl rfl) e3,e4⟩
  | met f y =>
    have e:h.get? a=some (PySem.W.methodObj (.ref f) (.ref y)):=x
    show h'.get? a=some (PySem.W.methodObj (.ref f) (.ref y))
    exact k a _ (.inl rfl) e
  | ext φ=>obtain ⟨p,⟨o,e⟩,st⟩:=x;exact ⟨st _ _ p fun o q=>k _ _ (.inl rfl) q,⟨o,k _ _ (.inl rfl) e⟩,st⟩
theorem HOk.lt (x:HOk P w H h) (e:H a=some o):a<h.objs.size:=(x a o e).lt
theorem HOk.fresh (x:HOk P w H h) (e:h.objs.size≤a):H a=none:=by
  cases q:H a with
  | none=>rfl
  | some u=>exact absurd (Nat.lt_of_lt_of_le (x.lt q) e) (Nat.lt_irrefl _)
theorem HOk.kept (x:HOk P w H h) (k:∀ b u,h.get? b=some u→h'.get? b=some u):HOk P w H h':=fun a o e =>
  (x a o e).stay (fun b u _ q=>k b u q) (fun _ q=>q) (fun _ _ q=>q) fun _ _ _ q=>q
theorem HOk.laid (x:HOk P w H h) (k:∀ b u,h.get? b=some u→h'.get? b=some u) (hp:h.objs.size≤a) (new:ObjOk P w (upd H a o) h' a o):HOk P w (upd H a o) h':=fun b u e=>by
  have hn:=x.fresh hp
  by_cases hb:b=a
  · subst hb;rw [qan] at e;cases e;exact new
  · rw [qax hb] at e
    exact (x b u e).stay (fun c v _ q=>k c v q) (fun c q=>by rw [qax (qaw q hn)];exact q) (fun c xs q=>by rw [qax (qaw q hn)];exact q) fun c ob w' q=>by rw [qax (qaw q hn)];exact q
end
def Rd (H:Hp) (a:Addr) (u:HO):Prop:=H a=some u∨∃ o,H a=some (.frz o u)
theorem Rd.ok {P:Program} {w:World} {H:Hp} {h:Heap} {a:Addr} {u:HO} (r:Rd H a u) (x:HOk P w H h):ObjOk P w H h a u:=by
  rcases r with r | ⟨o,r⟩
  · exact x a u r
  · obtain ⟨_,q⟩:=x a _ r
    exact q
def Mut:Option HO→Prop
  | some (.lst _)=>True
  | some (.dK _)=>True
  | some (.dT _)=>True
  | some (.set _ _)=>True
  | some (.ins _ _ _)=>True
  | some (.ext _)=>True
  | _=>False
section
variable {P : Program} {w : World} {H : Hp} {h h' : Heap} {x e : Addr} {o' : HO}
theorem HOk.write (ok:HOk P w H h) (mu:Mut (H x)) (he:e=x∨H e=some (.own x)) (k:∀ b u,b≠e→h.get? b=some u→h'.get? b=some u) (heo:∃ u,h'.get? e=some u)
    (new:ObjOk P w (upd H x o') h' x o'):HOk P w (upd H x o') h':=fun b u q=>by
  have nown:∀ c y,H c=some (.own y)→c≠x:=fun c y r z=>by subst z;rw [r] at mu;exact mu
  have ntup:∀ c xs,H c=some (.tup xs)→c≠x:=fun c xs r z=>by subst z;rw [r] at mu;exact mu
  have nfrz:∀ c ob w',H c=some (.frz ob w')→c≠x:=fun c ob w' r z=>by subst z;rw [r] at mu;exact mu
  by_cases hb:b=x
  · subst hb;rw [qan] at q;cases q;exact new
  · rw [qax hb] at q
    by_cases hbe:b=e
    · have q':H b=some (.own x):=by
        rcases he with z | z
        · exact absurd (hbe.trans z) hb
        · rw [hbe];exact z
      rw [q] at q';cases q'
      obtain ⟨v,hv⟩:=heo
      exact ⟨v,by rw [hbe];exact hv⟩
    · refine (ok b u q).stay (fun c v hc r=>k c v ?_ r) (fun c r=>by rw [qax (nown c b r)];exact r) (fun c xs r=>by rw [qax (ntup c xs r)];exact r) fun c ob w' r=>by rw [qax (nfrz c ob w' r)];exact r
      rcases hc with rfl | hc
      · exact hbe
      · rintro rfl
        rcases he with z | z
        · exact nown c b hc z
        · rw [hc] at z;cases z;exact hb rfl
end
structure Un (fs ex:List Addr) (H H':Hp) (h h':Heap):Prop where
  keep:∀ b o,h.get? b=some o→H b=none→b∉fs→b∉ex→h'.get? b=some o
  slot:∀ b o,h.get? b=some o→H b=none→b∈fs→b∉ex→∃ sl,h'.get? b=some { o with slots:=sl }
  free:∀ b o,h.get? b=some o→H b=none→b∉ex→H' b=none
  there:∀ b o,h.get? b=some o→b∉ex→∃ o',h'.get? b=some o'
  tups:∀ b xs,H b=some (.tup xs)→H' b=some (.tup xs)
  frzs:∀ b o u,H b=some (.frz o u)→H' b=some (.frz o u)
  tbls:∀ b ps,H b=some (.tbl ps)→H' b=some (.tbl ps)
section
variable {fs fs' ex ex' : List Addr} {H H1 H2 : Hp} {h h1 h2 h' : Heap} {a x e : Addr} {o : HO}
theorem Un.any (u:Un fs ex H H1 h h1) {b:Addr} {ob:Obj} (q:h.get? b=some ob) (n:H b=none) (hx:b∉ex):∃ sl,h1.get? b=some { ob with slots:=sl }:=by
  by_cases hb:b∈fs
  · exact u.slot b ob q n hb hx
  · exact ⟨ob.slots,u.keep b ob q n hb hx⟩
theorem Un.kept (k:∀ b u,h.get? b=some u→h'.get? b=some u):Un fs ex H H h h' :=
  ⟨fun b ob q _ _ _=>k b ob q,fun b ob q _ _ _=>⟨ob.slots,k b ob q⟩,fun _ _ _ n _=>n,fun b ob q _=>⟨ob,k b ob q⟩,fun _ _ q=>q,fun _ _ _ q=>q,fun _ _ q=>q⟩
theorem Un.refl:Un fs ex H H h h:=Un.kept fun _ _ q=>q
theorem Un.laid (k:∀ b u,h.get? b=some u→h'.get? b=some u) (hp:h.objs.size≤a) (hn:H a=none):Un fs ex H (upd H a o) h h' where
  keep:=fun b u q _ _ _=>k b u q
  slot:=fun b u q _ _ _=>⟨u.slots,k b u q⟩
  free:=fun b u q n _=>by rw [qax (Nat.ne_of_lt (Nat.lt_of_lt_of_le (Heap.lt_size q) hp))];exact n
  there:=fun b u q _=>⟨u,k b u q⟩
  tups:=fun b xs q=>by rw [qax (qaw q hn)];exact q
  frzs:=fun b u xs q=>by rw [qax (qaw q hn)];exact q
  tbls:=fun b ps q=>by rw [qax (qaw q hn)];exact q
theorem Un.write (mu:Mut (H x)) (he:e=x∨H e=some (.own x)) (k:∀ b u,b≠e→h.get? b=some u→h'.get? b=some u) (heo:∃ u,h'.get? e=some u):Un fs ex H (upd H x o) h h':=by
  have hx:∀ b,H b=none→b≠x:=fun b n z=>by subst z;rw [n] at mu;exact mu
  have hb:∀ b,H b=none→b≠e:=fun b n z=>by
    subst z
    rcases he with r | r
    · exact hx b n r
    · rw [n] at r;cases r
  have hm:∀ b u,H b=some u→¬ Mut (some u)→b≠x:=fun b u q nm z=>by subst z;rw [q] at mu;exact nm mu
  refine ⟨fun b u q n _ _=>k b u (hb b n) q,fun b u q n _ _=>⟨u.slots,k b u (hb b n) q⟩,fun b u q n _=>by rw [qax (hx b n)];exact n,fun b u q _=>?_,
    fun b xs q=>by rw [qax (hm b _ q fun z=>z)];exact q,fun b u xs q=>by rw [qax (hm b _ q fun z=>z)];exact q,fun b ps q=>by rw [qax (hm b _ q fun z=>z)];exact q⟩
  by_cases hbe:b=e
  · subst hbe;exact heo
  · exact ⟨u,k b u hbe q⟩
end
def trk (h:Heap) (H:Hp):List Addr:=(List.range h.objs.size).filter fun a=>(H a).isSome
def qjd (h:Heap) (H:Hp):Heap:=PySem.W.hideAll h (trk h H)
theorem qhF (h:Heap) (H:Hp):(qjd h H).objs.size=h.objs.size:=PySem.W.hideAll_size _ _
theorem qjb {h:Heap} {H:Hp} {b:Addr} {o:Obj} (e:h.get? b=some o) (n:H b=none):(qjd h H).get? b=some o :=
  PySem.W.hideAll_get _ e fun hm=>by
    have q:(H b).isSome=true:=(List.mem_filter.mp hm).2
    rw [n] at q;simp at q
theorem qkb {h:Heap} {H:Hp} {b:Addr} {o:Obj} (e:(qjd h H).get? b=some o):h.get? b=some o∧H b=none:=by
  have e':h.get? b=some o:=PySem.W.of_hideAll (trk h H) e
  refine ⟨e',?_⟩
  cases q:H b with
  | none=>rfl
  | some x =>
    have hm:b∈trk h H:=List.mem_filter.mpr ⟨List.mem_range.mpr (Heap.lt_size e'),by simp [q]⟩
    have z:(qjd h H).get? b=none:=PySem.W.hideAll_none (trk h H) hm
    rw [z] at e;cases e
def qdB (g h:Heap) (L:Addr):List (Addr × Obj):=(List.range h.objs.size).filterMap fun a=>if a=L∨(g.get? a).isSome=true then none else (h.get? a).map fun o=>(a,o)
theorem qdZ {g h:Heap} {L a:Addr} {o:Obj} (h1:a≠L) (h2:g.get? a=none) (h3:h.get? a=some o):(a,o)∈qdB g h L :=
  List.mem_filterMap.mpr ⟨a,List.mem_range.mpr (Heap.lt_size h3),by simp [h1,h2,h3]⟩
theorem qd6 {g h:Heap} {L:Addr} {p:Addr × Obj} (hp:p∈qdB g h L):p.1≠L∧g.get? p.1=none∧h.get? p.1=some p.2:=by
  obtain ⟨b,_,e⟩:=List.mem_filterMap.mp hp
  split at e
  · cases e
  · rename_i hn
    cases q:h.get? b with
    | none=>rw [q] at e;simp at e
    | some u =>
      rw [q] at e
      simp only [Option.map_some,Option.some.injEq] at e
      subst e
      refine ⟨fun z=>hn (.inl z),?_,q⟩
      show g.get? b=none
      cases r:g.get? b with
      | none=>rfl
      | some v=>exact (hn (.inr (by simp [r]))).elim
theorem qiX {g h:Heap} {L:Addr}:News g L h (qdB g h L):=fun p hp=>let ⟨a,b,c⟩:=qd6 hp;⟨c,a,b⟩
structure Mod (K:PySem.W.Frag) (mg:Str→Option Value) (base:Heap):Prop where
  kin:K.In base
  glob:base.Ns mainGlobals mg
  blt:∃ mb,base.Ns builtinsNs mb∧∀ x:Str,x≠"__name__"→mb x=bootBuiltins x
  nolimit:base.NoLimit
  bmod:∃ bm ob,mg "__builtins__"=some (.ref bm)∧bm≠builtinsNs∧base.get? bm=some ob∧ob.cls=.type "module"∧ob.dict=some builtinsNs∧ob.data=.plain
structure Cx where
  prog:Program
  w:World
  K:PySem.W.Frag
  mg:Str→Option Value
  base:Heap
  A:Around
  N:List Str
  s₀:Shared
  H₀:Hp
  env:Env
  outer:List Env
  stack:List Env
  ex:List Addr
  fn:Str→Bool
  calm:Bool
  pn:List (Addr × Obj)
  xe:Value→Shared→Prop
def frs (l:List Env):List Addr:=l.filterMap (·.frame)
abbrev Cx.fs (X:Cx):List Addr:=frs X.outer
def Vis (sc:Scope) (x:Str):Prop:=sc.names.lookup x=some .local∨sc.names.lookup x=some .cell∨sc.names.lookup x=some .free
def Loc (sc:Scope) (x:Str):Prop:=sc.names.lookup x=some .local∨sc.names.lookup x=some .cell
def qov (env:Env) (h:Heap) (m:Str→Option Value) (x:Str) (u:Value):Prop :=
  (env.kindOf x=some .local∧m x=some u)∨((env.kindOf x=some .cell∨env.kindOf x=some .free)∧∃ c,env.cells.lookup x=some c∧h.IsCell c (some u))
structure Cx.Ok (X:Cx):Prop where
  mod:Mod X.K X.mg X.base
  kind:X.env.scope.kind=.function
  glob:X.env.globals=mainGlobals
  blt:X.env.builtins=builtinsNs
  above:X.s₀.heap.objs.size≤X.env.locals
  inj:∀ x y c,X.env.cells.lookup x=some c→X.env.cells.lookup y=some c→x=y
  has:∀ x,(X.env.kindOf x=some .cell∨X.env.kindOf x=some .free)→∃ c,X.env.cells.lookup x=some c
  cab:∀ x c,X.fn x=true→X.env.cells.lookup x=some c→X.s₀.heap.objs.size≤c
  hd:X.calm=true→X.A.handled=none
  frames:X.A.frames=some X.stack
  stk:X.stack=X.outer∨(X.stack=X.env::X.outer∧X.env.frame=some X.env.locals)
  exf:∀ b∈X.ex,b≠X.env.locals∧∀ x c,X.env.cells.lookup x=some c→c≠b
  bs:∀ b o,X.base.get? b=some o→X.s₀.heap.get? b=some o∧X.H₀ b=none
  bsz:X.base.objs.size≤X.s₀.heap.objs.size
  noex:∀ b o,X.base.get? b=some o→b∉X.ex
  exfs:∀ b∈X.ex,b∉X.fs
  funs:X.s₀.heap.FunFrames X.base X.outer
  frf:∀ b∈X.fs,X.H₀ b=none
structure Inv (X:Cx) (pins:List (Addr × Obj)) (σ:List (Option V)) (H:Hp) (s:Shared):Prop where
  ok:X.Ok
  os:s.os=X.s₀.os
  bare:AllBare s.gens
  base:Un X.fs X.ex X.H₀ H X.s₀.heap s.heap
  loc:∃ m,s.heap.Ns X.env.locals m∧∀ (i:Nat) (x:Str) (v:V),X.N[i]?=some x→σ[i]?=some (some v)→Vis X.env.scope x→∃ u,RelV v u∧qov X.env s.heap m x u
  cell:∀ x c,X.env.cells.lookup x=some c→∃ v,s.heap.IsCell c v
  free:H X.env.locals=none
  freeC:∀ x c,X.env.cells.lookup x=some c→H c=none
  pin:∀ p∈X.pn++pins,s.heap.get? p.1=some p.2∧H p.1=none∧p.1≠X.env.locals∧p.1∉X.fs∧∀ v,p.2.data≠.cell v
  hok:HOk X.prog X.w H s.heap
  len:σ.length=X.N.length
section
variable {X : Cx} {pins : List (Addr × Obj)} {σ : List (Option V)} {H H' : Hp} {s : Shared} {h' : Heap}
theorem Cx.Ok.nofr (ok:X.Ok) {b:Addr} {o:Obj} (e:X.base.get? b=some o):b∉X.fs:=fun hb=>by
  have:=(ok.funs.mem hb).1
  rw [e] at this;cases this
theorem Inv.bs (I:Inv X pins σ H s):∀ b o,X.base.get? b=some o→s.heap.get? b=some o∧H b=none:=fun b o e =>
  ⟨I.base.keep b o (I.ok.bs b o e).1 (I.ok.bs b o e).2 (I.ok.nofr e) (I.ok.noex b o e),I.base.free b o (I.ok.bs b o e).1 (I.ok.bs b o e).2 (I.ok.noex b o e)⟩
theorem Inv.bk (I:Inv X pins σ H s):∀ b o,X.base.get? b=some o→s.heap.get? b=some o:=fun b o e=>(I.bs b o e).1
theorem Inv.mod (I:Inv X pins σ H s):Mod X.K X.mg X.base:=I.ok.mod
theorem Inv.kIn (I:Inv X pins σ H s):X.K.In s.heap:=I.ok.mod.kin.keeps I.bk
theorem Inv.nolimit (I:Inv X pins σ H s):s.heap.NoLimit:=I.ok.mod.nolimit.keeps I.bk
theorem Inv.lt (I:Inv X pins σ H s):X.env.locals<s.heap.objs.size:=let ⟨_,hn,_⟩:=I.loc;hn.lt
theorem Inv.sz (I:Inv X pins σ H s):X.s₀.heap.objs.size≤s.heap.objs.size:=Nat.le_trans I.ok.above (Nat.le_of_lt I.lt)
theorem Inv.nofs (I:Inv X pins σ H s) {a:Addr} (h:s.heap.objs.size≤a):a∉X.fs:=fun hb=>by
  obtain ⟨_,o,ho,_⟩:=I.ok.funs.mem hb
  exact absurd (Nat.lt_of_lt_of_le (Heap.lt_size ho) (Nat.le_trans I.sz h)) (Nat.lt_irrefl _)
theorem Inv.cne (I:Inv X pins σ H s):∀ x c,X.env.cells.lookup x=some c→c≠X.env.locals:=fun x c e z=>by
  obtain ⟨v,o,ho,hd⟩:=I.cell x c e
  obtain ⟨m,⟨o',es,ep,ho',hd',_⟩,_⟩:=I.loc
  rw [z,ho'] at ho;cases ho;rw [hd'] at hd;cases hd
theorem Inv.funs (I:Inv X pins σ H s):s.heap.FunFrames X.base X.outer:=by
  have all:∀ (l:List Env),(∀ b∈frs l,b∈X.fs)→X.s₀.heap.FunFrames X.base l→s.heap.FunFrames X.base l:=by
    intro l
    induction l with
    | nil=>intro _ _;trivial
    | cons env r ih =>
      intro hs hl
      obtain ⟨hk,⟨L,o,hf,hn,ho,hd⟩,hr⟩:=hl
      have hL:L∈X.fs:=hs L (by unfold frs;rw [List.filterMap_cons,hf];exact List.mem_cons_self)
      obtain ⟨sl,e⟩:=I.base.slot L o ho (I.ok.frf L hL) hL fun z=>I.ok.exfs L z hL
      exact ⟨hk,⟨L,_,hf,hn,e,hd⟩,ih (fun b hb=>hs b (by unfold frs;rw [List.filterMap_cons,hf];exact List.mem_cons_of_mem _ hb)) hr⟩
  exact all X.outer (fun _ hb=>hb) I.ok.funs
theorem Inv.stack (I:Inv X pins σ H s):s.heap.FunFrames X.base X.stack:=by
  rcases I.ok.stk with e | ⟨e,hf⟩
  · rw [e];exact I.funs
  · rw [e]
    obtain ⟨m,hn,_⟩:=I.loc
    refine .cons (by rw [I.ok.kind];decide) hf hn ?_ I.funs
    exact Heap.get?_none_of_le (Nat.le_trans I.ok.bsz I.ok.above)
theorem Inv.stkSub (I:Inv X pins σ H s):∀ b∈frs X.stack,b∈X.env.locals::X.fs:=fun b hb=>by
  rcases I.ok.stk with e | ⟨e,hf⟩
  · rw [e] at hb;exact List.mem_cons_of_mem _ hb
  · rw [e] at hb
    unfold frs at hb
    rw [List.filterMap_cons,hf] at hb
    exact hb
theorem Inv.stkFree (I:Inv X pins σ H s):∀ b∈frs X.stack,H b=none:=fun b hb=>by
  rcases List.mem_cons.mp (I.stkSub b hb) with e | hb
  · rw [e];exact I.free
  · obtain ⟨_,o,ho,_⟩:=I.ok.funs.mem hb
    exact I.base.free b o ho (I.ok.frf b hb) fun z=>I.ok.exfs b z hb
theorem Inv.step {g':Array GenState} {t':Nat} {d':Drawn} {ch:List Addr} (I:Inv X pins σ H s)
    (hch:∀ b∈ch,(b∈X.ex∨X.s₀.heap.objs.size≤b)∧b≠X.env.locals∧(∀ x c,X.env.cells.lookup x=some c→c≠b)∧∀ p∈X.pn++pins,p.1≠b)
    (keep:∀ b o,b≠X.env.locals→b∉X.fs→b∉ch→s.heap.get? b=some o→H b=none→h'.get? b=some o)
    (slot:∀ b o,b≠X.env.locals→b∈X.fs→b∉ch→s.heap.get? b=some o→H b=none→∃ sl,h'.get? b=some { o with slots:=sl }) (free:∀ b o,b∉ch→s.heap.get? b=some o→H b=none→H' b=none)
    (there:∀ b o,b∉ch→s.heap.get? b=some o→∃ o',h'.get? b=some o')
    (tups:∀ b xs,H b=some (.tup xs)→H' b=some (.tup xs)) (frzs:∀ b o u,H b=some (.frz o u)→H' b=some (.frz o u)) (tbls:∀ b ps,H b=some (.tbl ps)→H' b=some (.tbl ps))
    (ns:∀ m,s.heap.Ns X.env.locals m→h'.Ns X.env.locals m) (hok:HOk X.prog X.w H' h') (hg:AllBare g') :
    Inv X pins σ H' { s with heap:=h',gens:=g',drawn:=d',toks:=t' }:=by
  have neL:∀ b o,X.s₀.heap.get? b=some o→b≠X.env.locals:=fun b o e=>Nat.ne_of_lt (Nat.lt_of_lt_of_le (Heap.lt_size e) I.ok.above)
  have neC:∀ b o,X.s₀.heap.get? b=some o→b∉X.ex→b∉ch:=fun b o e hx hb=>by
    rcases (hch b hb).1 with z | z
    · exact hx z
    · exact absurd (Nat.lt_of_lt_of_le (Heap.lt_size e) z) (Nat.lt_irrefl _)
  have cellK:∀ x c,X.env.cells.lookup x=some c→∀ v,s.heap.IsCell c v→h'.IsCell c v:=fun x c e v hq0=>by
    obtain ⟨o,ho,hd⟩:=hq0
    have nch:c∉ch:=fun z=>(hch c z).2.2.1 x c e rfl
    by_cases hc:c∈X.fs
    · obtain ⟨sl,q⟩:=slot c o (I.cne x c e) hc nch ho (I.freeC x c e)
      exact ⟨_,q,hd⟩
    · exact ⟨o,keep c o (I.cne x c e) hc nch ho (I.freeC x c e),hd⟩
  refine ⟨I.ok,I.os,hg,⟨fun b o e n hb hx=>?_,fun b o e n hb hx=>?_,fun b o e n hx=>?_,fun b o e hx=>?_,fun b xs e=>tups b xs (I.base.tups b xs e),fun b o xs e=>frzs b o xs (I.base.frzs b o xs e),fun b ps e=>tbls b ps (I.base.tbls b ps e)⟩,?_,fun x c e=>?_,?_,fun x c e=>?_,fun p hp=>?_,hok,I.len⟩
  · exact keep b o (neL b o e) hb (neC b o e hx) (I.base.keep b o e n hb hx) (I.base.free b o e n hx)
  · obtain ⟨sl,e1⟩:=I.base.slot b o e n hb hx
    obtain ⟨sl',e2⟩:=slot b _ (neL b o e) hb (neC b o e hx) e1 (I.base.free b o e n hx)
    exact ⟨sl',e2⟩
  · obtain ⟨o',e1⟩:=I.base.there b o e hx
    exact free b o' (neC b o e hx) e1 (I.base.free b o e n hx)
  · obtain ⟨o',e1⟩:=I.base.there b o e hx
    exact there b o' (neC b o e hx) e1
  · obtain ⟨m,hn,hl⟩:=I.loc
    refine ⟨m,ns m hn,fun i x v e1 e2 e3=>?_⟩
    obtain ⟨u,r,l⟩:=hl i x v e1 e2 e3
    refine ⟨u,r,?_⟩
    rcases l with l | ⟨k,c,e,z⟩
    · exact .inl l
    · exact .inr ⟨k,c,e,cellK x c e _ z⟩
  · obtain ⟨v,z⟩:=I.cell x c e
    exact ⟨v,cellK x c e v z⟩
  · obtain ⟨m,⟨o,_,_,ho,_⟩,_⟩:=I.loc
    exact free _ o (fun z=>(hch _ z).2.1 rfl) ho I.free
  · obtain ⟨v,o,ho,hd⟩:=I.cell x c e
    exact free c o (fun z=>(hch c z).2.2.1 x c e rfl) ho (I.freeC x c e)
  · obtain ⟨e,n,ne,nf,d⟩:=I.pin p hp
    have nch:p.1∉ch:=fun z=>(hch p.1 z).2.2.2 p hp rfl
    exact ⟨keep p.1 p.2 ne nf nch e n,free p.1 p.2 nch e n,ne,nf,d⟩
theorem Inv.un {t':Nat} (I:Inv X pins σ H s) (u:Un X.fs [] H H' s.heap h') (hok:HOk X.prog X.w H' h'):Inv X pins σ H' { s with heap:=h',toks:=t' }:=by
  obtain ⟨m,⟨o,es,ep,ho,r⟩,_⟩:=id I.loc
  obtain ⟨sl,hL⟩:=u.any ho I.free (by simp)
  exact I.step (g':=s.gens) (d':=s.drawn) (ch:=[]) (fun _ z=>nomatch z) (fun b o _ hb _ e n=>u.keep b o e n hb (by simp)) (fun b o _ hb _ e n=>u.slot b o e n hb (by simp)) (fun b o _ e n=>u.free b o e n (by simp)) (fun b o _ e=>u.there b o e (by simp)) u.tups u.frzs u.tbls (fun m' hm=>by
    obtain ⟨o',es',ep',ho',r'⟩:=hm
    rw [ho] at ho';cases ho'
    exact ⟨_,es',ep',hL,r'⟩) hok I.bare
theorem Inv.call {g':Array GenState} {t':Nat} {d':Drawn} {ch:List Addr} (I:Inv X pins σ H s) (u:Un (frs X.stack) ch H H' s.heap h') (hok:HOk X.prog X.w H' h') (hg:AllBare g')
    (hch:∀ b∈ch,(b∈X.ex∨X.s₀.heap.objs.size≤b)∧b≠X.env.locals∧(∀ x c,X.env.cells.lookup x=some c→c≠b)∧∀ p∈X.pn++pins,p.1≠b) :
    Inv X pins σ H' { s with heap:=h',gens:=g',drawn:=d',toks:=t' }:=by
  obtain ⟨m,⟨o,es,ep,ho,r⟩,_⟩:=id I.loc
  obtain ⟨sl,hL⟩:=u.any ho I.free fun z=>(hch _ z).2.1 rfl
  exact I.step (ch:=ch) hch (fun b o hL hb hc e n=>u.keep b o e n (fun z=>(List.mem_cons.mp (I.stkSub b z)).elim hL hb) hc) (fun b o _ _ hc e n=>u.any e n hc) (fun b o hc e n=>u.free b o e n hc) (fun b o hc e=>u.there b o e hc) u.tups u.frzs u.tbls (fun m' hm=>by
    obtain ⟨o',es',ep',ho',r'⟩:=hm
    rw [ho] at ho';cases ho'
    exact ⟨_,es',ep',hL,r'⟩) hok hg
theorem Inv.turned {t':Nat} {it:Addr} (I:Inv X pins σ H s) (k:∀ b o,b≠it→s.heap.get? b=some o→h'.get? b=some o) (hn:H it=none) (hL:it≠X.env.locals)
    (h1:it∈X.ex∨X.s₀.heap.objs.size≤it) (h2:∀ x c,X.env.cells.lookup x=some c→c≠it) (h3:∀ p∈X.pn++pins,p.1≠it):Inv X pins σ H { s with heap:=h',toks:=t' }:=by
  have nit:∀ b u,H b=some u→b≠it:=fun b u e z=>by rw [z,hn] at e;cases e
  refine I.step (g':=s.gens) (d':=s.drawn) (ch:=[it]) (fun b hb=>?_) (fun b o _ _ hc e _=>k b o (fun z=>hc (by simp [z])) e) (fun b o _ _ hc e _=>⟨o.slots,k b o (fun z=>hc (by simp [z])) e⟩) (fun _ _ _ _ n=>n)
    (fun b o hc e=>⟨o,k b o (fun z=>hc (by simp [z])) e⟩) (fun _ _ e=>e) (fun _ _ _ e=>e) (fun b ps e=>e) (fun m hm=>?_) (fun b u e=>?_) I.bare
  · have e:b=it:=by simpa using hb
    subst e
    exact ⟨h1,hL,h2,h3⟩
  · obtain ⟨o,es,ep,ho,r⟩:=hm
    exact ⟨o,es,ep,k _ o (Ne.symm hL) ho,r⟩
  · refine (I.hok b u e).stay (fun c v hc q=>k c v ?_ q) (fun _ q=>q) (fun _ _ q=>q) fun _ _ _ q=>q
    rcases hc with z | z
    · rw [z];exact nit b u e
    · exact nit c _ z
theorem Inv.tok (I:Inv X pins σ H s) (t:Nat):Inv X pins σ H { s with toks:=t }:=I.un (h':=s.heap) (t':=t) Un.refl I.hok
theorem Inv.kept {t':Nat} (I:Inv X pins σ H s) (k:∀ b u,s.heap.get? b=some u→h'.get? b=some u):Inv X pins σ H { s with heap:=h',toks:=t' }:=I.un (Un.kept k) (I.hok.kept k)
theorem Inv.laid {a:Addr} {o:HO} {t':Nat} (I:Inv X pins σ H s) (k:∀ b u,s.heap.get? b=some u→h'.get? b=some u) (hp:s.heap.objs.size≤a) (new:ObjOk X.prog X.w (upd H a o) h' a o) :
    Inv X pins σ (upd H a o) { s with heap:=h',toks:=t' }:=I.un (Un.laid k hp (I.hok.fresh hp)) (I.hok.laid k hp new)
theorem Inv.write {x e:Addr} {o:HO} {t':Nat} (I:Inv X pins σ H s) (mu:Mut (H x)) (he:e=x∨H e=some (.own x)) (k:∀ b u,b≠e→s.heap.get? b=some u→h'.get? b=some u) (heo:∃ u,h'.get? e=some u)
    (new:ObjOk X.prog X.w (upd H x o) h' x o):Inv X pins σ (upd H x o) { s with heap:=h',toks:=t' }:=I.un (Un.write mu he k heo) (I.hok.write mu he k heo new)
theorem Inv.pins_of {pins':List (Addr × Obj)} (I:Inv X pins σ H s) (h:∀ p∈pins',s.heap.get? p.1=some p.2∧H p.1=none∧p.1≠X.env.locals∧p.1∉X.fs∧∀ v,p.2.data≠.cell v):Inv X pins' σ H s :=
  ⟨I.ok,I.os,I.bare,I.base,I.loc,I.cell,I.free,I.freeC,fun p hp=>(List.mem_append.mp hp).elim (fun z=>I.pin p (List.mem_append_left _ z)) (h p),I.hok,I.len⟩
theorem qgt {N:List Str} (hN:N.Nodup) {i j:Nat} {x:Str} (a:N[i]?=some x) (b:N[j]?=some x):i=j:=by
  obtain ⟨h1,e1⟩:=List.getElem?_eq_some_iff.mp a
  obtain ⟨h2,e2⟩:=List.getElem?_eq_some_iff.mp b
  exact (List.getElem_inj hN).mp (e1.trans e2.symm)
theorem qfc {M:Model} {A:Around} {E:Value→Shared→Prop} {i:Nat} {x:Str} {v:V} {u:Value} {Q:Unit→Shared→Prop} (I:Inv X pins σ H s) (hN:X.N.Nodup) (hi:X.N[i]?=some x) (hx:Loc X.env.scope x) (r:RelV v u)
    (h:∀ s',Inv X pins (σ.set i (some v)) H s'→(∃ a,Heap.SameBut a s.heap s'.heap∧(a=X.env.locals∨X.env.cells.lookup x=some a))→Q () s') (hf:X.fn x=true∨X.env.scope.names.lookup x=some .local:=by first | exact .inl rfl | exact .inr rfl | assumption):wpAny M A (storeName X.env x u) Q E s:=by
  obtain ⟨m,hn,hl⟩:=id I.loc
  have hcls:(X.env.scope.kind == .class || (X.env.scope.kind == .module && X.env.locals != X.env.globals))=false:=by rw [I.ok.kind];rfl
  have hiσ:i<σ.length:=by rw [I.len];exact (List.getElem?_eq_some_iff.mp hi).1
  have cne:=I.cne
  have tracked:∀ {a:Addr} {h':Heap},(∃ o,s.heap.get? a=some o∧H a=none)→Heap.SameBut a s.heap h'→HOk X.prog X.w H h':=fun {a h'} ha hs b ob e=>by
    obtain ⟨_,_,hfree⟩:=ha
    refine (I.hok b ob e).stay (fun c w' hc q=>(hs.2 c ?_).trans q) (fun _ q=>q) (fun _ _ q=>q) fun _ _ _ q=>q
    rintro rfl
    rcases hc with rfl | hc
    · rw [hfree] at e;cases e
    · rw [hfree] at hc;cases hc
  rcases hx with hk | hk
  · refine wpAny_storeName_local hk hn (fun h' hn' hs=>?_) hcls
    obtain ⟨oL,_,_,hoL,_⟩:=id hn
    refine h _ ⟨I.ok,I.os,I.bare,⟨fun b o e n hb hx=>?_,fun b o e n hb hx=>?_,I.base.free,fun b o e hx=>?_,I.base.tups,I.base.frzs,I.base.tbls⟩,⟨_,hn',fun j y v' e1 e2 e3=>?_⟩,fun y c e=>?_,I.free,I.freeC,fun p hp=>?_,tracked ⟨oL,hoL,I.free⟩ hs,by simpa using I.len⟩ ⟨_,hs,.inl rfl⟩
    · exact (hs.2 b (Nat.ne_of_lt (Nat.lt_of_lt_of_le (Heap.lt_size e) I.ok.above))).trans (I.base.keep b o e n hb hx)
    · obtain ⟨sl,e1⟩:=I.base.slot b o e n hb hx
      exact ⟨sl,(hs.2 b (Nat.ne_of_lt (Nat.lt_of_lt_of_le (Heap.lt_size e) I.ok.above))).trans e1⟩
    · obtain ⟨o',e1⟩:=I.base.there b o e hx
      exact ⟨o',(hs.2 b (Nat.ne_of_lt (Nat.lt_of_lt_of_le (Heap.lt_size e) I.ok.above))).trans e1⟩
    · by_cases hj:j=i
      · subst hj
        rw [hi] at e1;cases e1
        rw [List.getElem?_set_self hiσ] at e2
        cases e2
        exact ⟨u,r,.inl ⟨hk,by simp⟩⟩
      · rw [List.getElem?_set_ne (Ne.symm hj)] at e2
        obtain ⟨u',r',q⟩:=hl j y v' e1 e2 e3
        refine ⟨u',r',?_⟩
        rcases q with ⟨k,e⟩ | ⟨k,c,e,z⟩
        · refine .inl ⟨k,?_⟩
          have:y≠x:=fun e=>hj (qgt hN e1 (e ▸ hi))
          simp [this,e]
        · exact .inr ⟨k,c,e,z.sameBut hs (cne y c e)⟩
    · obtain ⟨w',z⟩:=I.cell y c e
      exact ⟨w',z.sameBut hs (cne y c e)⟩
    · obtain ⟨e,n,ne,nf,d⟩:=I.pin p hp
      exact ⟨(hs.2 p.1 ne).trans e,n,ne,nf,d⟩
  · have hfn:X.fn x=true:=by
      rcases hf with z | z
      · exact z
      · rw [z] at hk;cases hk
    obtain ⟨c,hc⟩:=I.ok.has x (.inl hk)
    obtain ⟨w',z⟩:=I.cell x c hc
    refine wpAny_storeName_cell I.ok.kind hk hc z (fun h' hc' hs=>?_)
    obtain ⟨oc,hoc,hocd⟩:=id z
    refine h { s with heap:=h' } ⟨I.ok,I.os,I.bare,⟨fun b o e n hb hx=>?_,fun b o e n hb hx=>?_,I.base.free,fun b o e hx=>?_,I.base.tups,I.base.frzs,I.base.tbls⟩,⟨m,hn.sameBut hs (Ne.symm (cne x c hc)),fun j y v' e1 e2 e3=>?_⟩,fun y c' e=>?_,I.free,I.freeC,fun p hp=>?_,tracked ⟨oc,hoc,I.freeC x c hc⟩ hs,by simpa using I.len⟩ ⟨c,hs,.inr hc⟩
    · exact (hs.2 b (Nat.ne_of_lt (Nat.lt_of_lt_of_le (Heap.lt_size e) (I.ok.cab x c hfn hc)))).trans (I.base.keep b o e n hb hx)
    · obtain ⟨sl,e1⟩:=I.base.slot b o e n hb hx
      exact ⟨sl,(hs.2 b (Nat.ne_of_lt (Nat.lt_of_lt_of_le (Heap.lt_size e) (I.ok.cab x c hfn hc)))).trans e1⟩
    · obtain ⟨o',e1⟩:=I.base.there b o e hx
      exact ⟨o',(hs.2 b (Nat.ne_of_lt (Nat.lt_of_lt_of_le (Heap.lt_size e) (I.ok.cab x c hfn hc)))).trans e1⟩
    · by_cases hj:j=i
      · subst hj
        rw [hi] at e1;cases e1
        rw [List.getElem?_set_self hiσ] at e2
        cases e2
        exact ⟨u,r,.inr ⟨.inl hk,c,hc,hc'⟩⟩
      · rw [List.getElem?_set_ne (Ne.symm hj)] at e2
        obtain ⟨u',r',q⟩:=hl j y v' e1 e2 e3
        refine ⟨u',r',?_⟩
        rcases q with q | ⟨k,c',e,z'⟩
        · exact .inl q
        · refine .inr ⟨k,c',e,z'.sameBut hs ?_⟩
          rintro rfl
          exact hj (qgt hN e1 (I.ok.inj _ _ _ e hc ▸ hi))
    · by_cases hcc:c'=c
      · subst hcc;exact ⟨_,hc'⟩
      · obtain ⟨w2,z2⟩:=I.cell y c' e
        exact ⟨w2,z2.sameBut hs hcc⟩
    · obtain ⟨e,n,ne,nf,d⟩:=I.pin p hp
      refine ⟨(hs.2 p.1 ?_).trans e,n,ne,nf,d⟩
      intro q
      rw [q,hoc] at e
      have q':oc=p.2:=Option.some.inj e
      exact d w' (by rw [← q'];exact hocd)
theorem qgr {M:Model} {A:Around} {E:Value→Shared→Prop} {i:Nat} {x:Str} {v:V} {u:Value} {Q:Unit→Shared→Prop} (I:Inv X pins σ H s) (hN:X.N.Nodup) (hi:X.N[i]?=some x) (hx:Loc X.env.scope x) (r:RelV v u)
    (h:∀ s',Inv X pins (σ.set i (some v)) H s'→Q () s') (hf:X.fn x=true∨X.env.scope.names.lookup x=some .local:=by first | exact .inl rfl | exact .inr rfl | assumption):wpAny M A (storeName X.env x u) Q E s :=
  qfc I hN hi hx r (fun s' I' _=>h s' I') hf
theorem Inv.call' {s':Shared} {ch:List Addr} (I:Inv X pins σ H s) (ho:s'.os=s.os) (u:Un (frs X.stack) ch H H' s.heap s'.heap) (hok:HOk X.prog X.w H' s'.heap) (hg:AllBare s'.gens)
    (hch:∀ b∈ch,(b∈X.ex∨X.s₀.heap.objs.size≤b)∧b≠X.env.locals∧(∀ x c,X.env.cells.lookup x=some c→c≠b)∧∀ p∈X.pn++pins,p.1≠b):Inv X pins σ H' s':=by
  obtain ⟨h',g',d',t',o'⟩:=s'
  have e:o'=s.os:=ho
  subst e
  exact I.call (g':=g') (t':=t') (d':=d') u hok hg hch
end
abbrev XK:=Value→Option Addr→Hp→Prop
abbrev St:=List (Option V)
abbrev VK:=V→Hp→Prop
abbrev TE:=St→Hp→VK→Prop
abbrev TT:=St→Hp→(Bool→Hp→Prop)→Prop
abbrev TA:=St→Hp→(List V→Hp→Prop)→Prop
structure Ends where
  nx:St→Hp→Prop
  rt:VK
  bk:St→Hp→Prop:=fun _ _=>False
  ct:St→Hp→Prop:=fun _ _=>False
abbrev TS:=Ends→St→Hp→Prop
def EP (X:Cx) (pins:List (Addr × Obj)) (σ:St) (Q:VK) (u:Value) (s':Shared):Prop:=∃ v H',Inv X pins σ H' s'∧RelV v u∧Q v H'
def TP (X:Cx) (pins:List (Addr × Obj)) (σ:St) (Q:Bool→Hp→Prop) (b:Bool) (s':Shared):Prop:=∃ H',Inv X pins σ H' s'∧Q b H'
def AP (X:Cx) (pins:List (Addr × Obj)) (σ:St) (Q:List V→Hp→Prop) (us:List Value) (s':Shared):Prop:=∃ vs H',Inv X pins σ H' s'∧Vals vs us∧Q vs H'
def SP (X:Cx) (pins:List (Addr × Obj)) (D:Ends) (f:Flow) (s':Shared):Prop :=
  match f with
  | .next=>∃ σ' H',Inv X pins σ' H' s'∧D.nx σ' H'
  | .brk=>∃ σ' H',Inv X pins σ' H' s'∧D.bk σ' H'
  | .cont=>∃ σ' H',Inv X pins σ' H' s'∧D.ct σ' H'
  | .ret u=>∃ v σ' H',Inv X pins σ' H' s'∧RelV v u∧D.rt v H'
def PE (X:Cx) (e:Expr) (t:TE):Prop :=
  ∀ (pins:List (Addr × Obj)) (s:Shared) (σ:St) (H:Hp) (Q:VK),Inv X pins σ H s→t σ H Q→wpAny (model X.prog X.w) X.A (eval e X.env) (EP X pins σ Q) X.xe s
def PT (X:Cx) (e:Expr) (t:TT):Prop :=
  ∀ (pins:List (Addr × Obj)) (s:Shared) (σ:St) (H:Hp) (Q:Bool→Hp→Prop),Inv X pins σ H s→t σ H Q→wpAny (model X.prog X.w) X.A (isTrue e X.env (eval e X.env)) (TP X pins σ Q) X.xe s
def PW (X:Cx) (e:Expr) (t:TT):Prop :=
  ∀ (whole:Sem Value) (pins:List (Addr × Obj)) (s:Shared) (σ:St) (H:Hp) (Q:Bool→Hp→Prop),Inv X pins σ H s→t σ H Q→wpAny (model X.prog X.w) X.A (isTrue e X.env whole) (TP X pins σ Q) X.xe s
theorem PW.pt {X:Cx} {e:Expr} {t:TT} (h:PW X e t):PT X e t:=h _
def PA (X:Cx) (es:List Expr) (t:TA):Prop :=
  ∀ (pos:Pos) (pins:List (Addr × Obj)) (s:Shared) (σ:St) (H:Hp) (Q:List V→Hp→Prop),Inv X pins σ H s→t σ H Q→wpAny (model X.prog X.w) X.A (spliced (backTo pos (starEach es X.env))) (AP X pins σ Q) X.xe s
def PS (X:Cx) (st:Stmt) (t:TS):Prop :=
  ∀ (pins:List (Addr × Obj)) (s:Shared) (σ:St) (H:Hp) (D:Ends),Inv X pins σ H s→t D σ H→wpAny (model X.prog X.w) X.A (exec st X.env) (SP X pins D) X.xe s
def PSs (X:Cx) (st:List Stmt) (t:TS):Prop :=
  ∀ (pins:List (Addr × Obj)) (s:Shared) (σ:St) (H:Hp) (D:Ends),Inv X pins σ H s→t D σ H→wpAny (model X.prog X.w) X.A (execs st X.env) (SP X pins D) X.xe s
theorem thn {α:Type} {t:Sem α} {Q Q':α→Shared→Prop} {M:Model} {A:Around} {E:Value→Shared→Prop} {s:Shared} (h:wpAny M A t Q E s) (hQ:∀ a s,Q a s→Q' a s):wpAny M A t Q' E s:=wpAny_mono h hQ fun _ _ x=>x
section
variable {X : Cx}
def qnX (i:Nat):TE:=fun σ H Q=>∃ v,σ[i]?=some (some v)∧Q v H
def tC (v:V):TE:=fun _ H Q=>Q v H
theorem qmM {i:Nat} {x:Str} {pos:Pos} (hN:X.N[i]?=some x) (hv:Vis X.env.scope x) (hd:(x == ("__debug__":Str))=false:=by decide) (hcd:(x == ("__classdict__":Str))=false:=by decide):PE X (.Name x pos) (qnX i):=by
  intro pins s σ H Q I h
  obtain ⟨v,e,h⟩:=h
  obtain ⟨m,hn,hl⟩:=I.loc
  obtain ⟨u,r,l⟩:=hl i x v hN e hv
  have fin:EP X pins σ Q u s:=⟨v,H,I,r,h⟩
  rcases l with ⟨hk,hm⟩ | ⟨hk,c,hc,hcell⟩
  · exact wpAny_Name (wpAny_loadName_local I.ok.kind hk hn hm fin) hd
  · rcases hk with hk | hk
    · exact wpAny_Name (wpAny_loadName_cell I.ok.kind hk hc hcell fin) hd
    · exact wpAny_Name (wpAny_loadName_free I.ok.kind hk hc hcell fin hcd) hd
theorem qmo {i j pos}:PE X (.Constant (.int i) j pos) (tC (.int i)):=fun _ _ _ H _ I h=>wpAny_Constant_int ⟨.int i,H,I.tok _,⟨_,rfl⟩,h⟩
theorem qnu {b j pos}:PE X (.Constant (.bool b) j pos) (tC (.bl b)):=fun _ _ _ H _ I h=>Constant_bool ⟨.bl b,H,I,rfl,h⟩
theorem ql0 {j pos}:PE X (.Constant .none j pos) (tC .non):=fun _ _ _ H _ I h=>Constant_none ⟨.non,H,I,rfl,h⟩
theorem qlZ {x j pos}:PE X (.Constant (.str x) j pos) (tC (.str x)):=fun _ _ _ H _ I h=>Calls.Constant_str ⟨.str x,H,I.tok _,⟨_,rfl⟩,h⟩
def Gl (X:Cx) (x:Str):Prop:=X.env.kindOf x=some .globalImplicit
theorem qh1 {E:Value→Shared→Prop} {pins:List (Addr × Obj)} {s:Shared} {σ:St} {H:Hp} {x:Str} {u:Value} {pos:Pos} {Q:Value→Shared→Prop} (I:Inv X pins σ H s) (hg:Gl X x) (hm:X.mg x=some u) (h:Q u s)
    (hd:(x == ("__debug__":Str))=false:=by decide):wpAny (model X.prog X.w) X.A (eval (.Name x pos) X.env) Q E s :=
  Calls.Name_function_global I.ok.kind hg (Calls.loadGlobal_global (by rw [I.ok.glob];exact I.mod.glob.keeps I.bk) hm h) hd
theorem qdj {E:Value→Shared→Prop} {pins:List (Addr × Obj)} {s:Shared} {σ:St} {H:Hp} {x:Str} {u:Value} {pos:Pos} {Q:Value→Shared→Prop} (I:Inv X pins σ H s) (hg:Gl X x) (hm:X.mg x=none) (hv:bootBuiltins x=some u) (h:Q u s)
    (hn:x≠"__name__":=by decide) (hd:(x == ("__debug__":Str))=false:=by decide):wpAny (model X.prog X.w) X.A (eval (.Name x pos) X.env) Q E s:=by
  obtain ⟨mb,h1,h2⟩:=I.mod.blt
  exact Calls.Name_function_global I.ok.kind hg (Calls.loadGlobal_builtin (by rw [I.ok.glob];exact I.mod.glob.keeps I.bk) hm (by rw [I.ok.blt];exact h1.keeps I.bk) ((h2 x hn).trans hv) h) hd
theorem qeM {x:Str} {v:V} {u:Value} {pos:Pos} (hg:Gl X x) (hm:X.mg x=none) (hv:bootBuiltins x=some u) (r:RelV v u) (hn:x≠"__name__":=by decide) (hd:(x == ("__debug__":Str))=false:=by decide):PE X (.Name x pos) (tC v) :=
  fun _ _ _ H _ I h=>qdj I hg hm hv ⟨v,H,I,r,h⟩ hn hd
variable {a b : Expr} {ta tb : TE} {pos : Pos}
variable {tA tB' : TT} {rest : List Expr}
def qou (t u:TT):TT:=fun σ H Q=>t σ H fun c H1=>if c=true then u σ H1 Q else Q false H1
def tOr (t u:TT):TT:=fun σ H Q=>t σ H fun c H1=>if c=true then Q true H1 else u σ H1 Q
def qoa (t:TT):TT:=fun σ H Q=>t σ H fun c H1=>Q (!c) H1
theorem qkC (ha:PT X a tA):PW X (.BoolOp .And [a] pos) tA:=by
  intro wh pins s σ H Q I h
  refine isTrue_and (thn (ha pins s σ H Q I h) fun c s1 e=>?_)
  cases c with
  | true=>exact isTrue_and_nil e
  | false=>exact e
theorem ql1 (ha:PT X a tA):PW X (.BoolOp .Or [a] pos) tA:=by
  intro wh pins s σ H Q I h
  refine isTrue_or (thn (ha pins s σ H Q I h) fun c s1 e=>?_)
  cases c with
  | false=>exact isTrue_or_nil e
  | true=>exact e
theorem qlU (ha:PT X a tA) (hb:PW X (.BoolOp .And (b::rest) pos) tB'):PW X (.BoolOp .And (a::b::rest) pos) (qou tA tB'):=by
  intro wh pins s σ H Q I h
  refine isTrue_and (thn (ha pins s σ H _ I h) fun c s1 hq0=>?_)
  obtain ⟨H1,I1,q1⟩:=hq0
  cases c with
  | true=>exact hb wh pins s1 σ H1 Q I1 q1
  | false=>exact ⟨H1,I1,q1⟩
theorem qna (ha:PT X a tA) (hb:PW X (.BoolOp .Or (b::rest) pos) tB'):PW X (.BoolOp .Or (a::b::rest) pos) (tOr tA tB'):=by
  intro wh pins s σ H Q I h
  refine isTrue_or (thn (ha pins s σ H _ I h) fun c s1 hq0=>?_)
  obtain ⟨H1,I1,q1⟩:=hq0
  cases c with
  | true=>exact ⟨H1,I1,q1⟩
  | false=>exact hb wh pins s1 σ H1 Q I1 q1
theorem qlr (ha:PT X a tA):PT X (.UnaryOp .Not a pos) (qoa tA):=by
  intro pins s σ H Q I h
  exact isTrue_not (ha pins s σ H (fun c H1=>Q (!c) H1) I h)
def qny (ta tb:TE):TE:=fun σ H Q=>ta σ H fun x H1=>∃ c,x=.bl c∧if c=true then tb σ H1 Q else Q (.bl false) H1
def qnB (ta:TE):TE:=fun σ H Q=>ta σ H fun x H1=>∃ c,x=.bl c∧Q (.bl (!c)) H1
theorem qlv {op} {t:TE} (h:PE X a t):PE X (.BoolOp op [a] pos) t:=fun pins s σ H Q I hw=>BoolOp_one (h pins s σ H Q I hw)
theorem qmT (ha:PE X a ta) (hb:PE X (.BoolOp .And (b::rest) pos) tb):PE X (.BoolOp .And (a::b::rest) pos) (qny ta tb):=by
  intro pins s σ H Q I h
  refine BoolOp_and (thn (ha pins s σ H _ I h) fun v s1 hq0=>?_)
  obtain ⟨x,H1,I1,r1,q1⟩:=hq0
  obtain ⟨c,rfl,q1⟩:=q1
  cases r1
  refine wpAny_truthy_bool ?_
  cases c with
  | true=>exact hb pins s1 σ H1 Q I1 q1
  | false=>exact ⟨.bl false,H1,I1,rfl,q1⟩
theorem qmk (ha:PE X a ta):PE X (.UnaryOp .Not a pos) (qnB ta):=by
  intro pins s σ H Q I h
  refine UnaryOp_ (thn (ha pins s σ H _ I h) fun v s1 hq0=>?_)
  obtain ⟨x,H1,I1,r1,q1⟩:=hq0
  obtain ⟨c,rfl,q1⟩:=q1
  cases r1
  exact not_of (wpAny_truthy_bool ⟨.bl (!c),H1,I1,rfl,q1⟩)
def tIf (t:TT) (ta tb:TE):TE:=fun σ H Q=>t σ H fun c H1=>if c=true then ta σ H1 Q else tb σ H1 Q
theorem qiU {c:Expr} (hc:PT X c tA) (ha:PE X a ta) (hb:PE X b tb):PE X (.IfExp c a b pos) (tIf tA ta tb):=by
  intro pins s σ H Q I h
  refine wpAny_IfExp (thn (hc pins s σ H _ I h) fun d s1 hq0=>?_)
  obtain ⟨H1,I1,q1⟩:=hq0
  cases d with
  | true=>exact ha pins s1 σ H1 Q I1 q1
  | false=>exact hb pins s1 σ H1 Q I1 q1
end
def SqL (K:PySem.W.Frag) (H:Hp) (a:Addr) (xs:List V):Prop :=
  Rd H a (.lst xs) ∨
    ∃ (o:Obj) (its:Array Value) (n:Nat),K.lookup a=some o∧o.cls=.type "list"∧o.dict=none∧o.data=.seq its n∧its.size≤sizeLine∧Vals xs its.toList
def SqT (K:PySem.W.Frag) (H:Hp) (a:Addr) (xs:List V):Prop :=
  Rd H a (.tup xs) ∨
    ∃ (o:Obj) (its:Array Value) (n:Nat),K.lookup a=some o∧o.cls=.type "tuple"∧o.data=.seq its n∧its.size≤sizeLine∧Vals xs its.toList
def qof:Value→Option V
  | .none=>some .non
  | .bool b=>some (.bl b)
  | .int i _=>some (.int i)
  | .str x _=>some (.str x)
  | .bytes b _=>some (.byt b)
  | .float b _=>some (.flt b)
  | .ref a=>some (.ref a)
  | .type n=>some (.ty n)
  | _=>none
theorem RelV.abs {x:V} {u:Value} (r:RelV x u):qof u=some x:=by
  cases x with
  | non=>cases r;rfl
  | bl _=>cases r;rfl
  | int _=>obtain ⟨t,rfl⟩:=r;rfl
  | str _=>obtain ⟨t,rfl⟩:=r;rfl
  | byt _=>obtain ⟨t,rfl⟩:=r;rfl
  | flt _=>obtain ⟨t,rfl⟩:=r;rfl
  | ref _=>cases r;rfl
  | ty _=>cases r;rfl
theorem RelV.inj {x y:V} {u:Value} (r:RelV x u) (q:RelV y u):x=y:=Option.some.inj (r.abs.symm.trans q.abs)
theorem Vals.inj:∀ {xs ys:List V} {us:List Value},Vals xs us→Vals ys us→xs=ys
  | _,_,_,.nil,.nil=>rfl
  | _,_,_,.cons r t,.cons r' t'=>by rw [r.inj r',Vals.inj t t']
section
variable {X : Cx} {pins : List (Addr × Obj)} {σ : St} {H : Hp} {s : Shared} {a : Addr} {xs ys : List V}
theorem SqL.of {K:PySem.W.Frag} (h:H a=some (.lst xs)):SqL K H a xs:=.inl (.inl h)
theorem SqT.of {K:PySem.W.Frag} (h:H a=some (.tup xs)):SqT K H a xs:=.inl (.inl h)
theorem Inv.list (I:Inv X pins σ H s) (h:SqL X.K H a xs):∃ its:List Value,Vals xs its∧PlainL s.heap a its.toArray∧xs.length≤sizeLine:=by
  rcases h with h | ⟨o,its,n,hk,hc,hd,hs,hz,r⟩
  · obtain ⟨z,its,n,r,e⟩:=h.ok I.hok
    exact ⟨its,r,⟨_,n,e,rfl,rfl,rfl⟩,z⟩
  · refine ⟨its.toList,r,⟨o,n,I.kIn a o hk,hc,hd,by simpa using hs⟩,?_⟩
    have e:=r.length
    simp only [Array.length_toList] at e
    omega
theorem Inv.tuple (I:Inv X pins σ H s) (h:SqT X.K H a xs):∃ its:List Value,Vals xs its∧IsTup s.heap a its.toArray∧xs.length≤sizeLine:=by
  rcases h with h | ⟨o,its,n,hk,hc,hs,hz,r⟩
  · obtain ⟨z,its,r,p⟩:=h.ok I.hok
    exact ⟨its,r,p,z⟩
  · refine ⟨its.toList,r,⟨o,I.kIn a o hk,hc,n,by simpa using hs⟩,?_⟩
    have e:=r.length
    simp only [Array.length_toList] at e
    omega
theorem Inv.list_inj (I:Inv X pins σ H s) (h:SqL X.K H a xs) (h':SqL X.K H a ys):xs=ys:=by
  obtain ⟨its,r,⟨o,n,e,_,_,d⟩,_⟩:=I.list h
  obtain ⟨its',r',⟨o',n',e',_,_,d'⟩,_⟩:=I.list h'
  rw [e] at e';cases e'
  rw [d] at d'
  injection d' with d1 _
  have:its=its':=by simpa using congrArg Array.toList d1
  subst this
  exact r.inj r'
theorem Inv.tuple_inj (I:Inv X pins σ H s) (h:SqT X.K H a xs) (h':SqT X.K H a ys):xs=ys:=by
  obtain ⟨its,r,⟨o,e,_,n,d⟩,_⟩:=I.tuple h
  obtain ⟨its',r',⟨o',e',_,n',d'⟩,_⟩:=I.tuple h'
  rw [e] at e';cases e'
  rw [d] at d'
  injection d' with d1 _
  have:its=its':=by simpa using congrArg Array.toList d1
  subst this
  exact r.inj r'
end
abbrev Cx.wish (X:Cx) (E:Value→Shared→Prop):Cx:={ X with xe:=E }
abbrev Cx.nox (X:Cx):Cx:=X.wish fun _ _=>False
theorem Cx.Ok.wish {X:Cx} (ok:X.Ok) (E:Value→Shared→Prop):(X.wish E).Ok :=
  ⟨ok.mod,ok.kind,ok.glob,ok.blt,ok.above,ok.inj,ok.has,ok.cab,ok.hd,ok.frames,ok.stk,ok.exf,ok.bs,ok.bsz,ok.noex,ok.exfs,ok.funs,ok.frf⟩
theorem Cx.Ok.unwish {X:Cx} {E:Value→Shared→Prop} (ok:(X.wish E).Ok):X.Ok :=
  ⟨ok.mod,ok.kind,ok.glob,ok.blt,ok.above,ok.inj,ok.has,ok.cab,ok.hd,ok.frames,ok.stk,ok.exf,ok.bs,ok.bsz,ok.noex,ok.exfs,ok.funs,ok.frf⟩
section
variable {X : Cx} {pins : List (Addr × Obj)} {σ : St} {H : Hp} {s : Shared} {E : Value → Shared → Prop}
theorem Inv.wish (I:Inv X pins σ H s) (E:Value→Shared→Prop):Inv (X.wish E) pins σ H s:=⟨I.ok.wish E,I.os,I.bare,I.base,I.loc,I.cell,I.free,I.freeC,I.pin,I.hok,I.len⟩
theorem Inv.unwish (I:Inv (X.wish E) pins σ H s):Inv X pins σ H s:=⟨I.ok.unwish,I.os,I.bare,I.base,I.loc,I.cell,I.free,I.freeC,I.pin,I.hok,I.len⟩
theorem SP.unwish {D:Ends} {f:Flow} {s':Shared} (h:SP (X.wish E) pins D f s'):SP X pins D f s':=by
  cases f with
  | next=>obtain ⟨σ',H',I,q⟩:=h;exact ⟨σ',H',I.unwish,q⟩
  | brk=>obtain ⟨σ',H',I,q⟩:=h;exact ⟨σ',H',I.unwish,q⟩
  | cont=>obtain ⟨σ',H',I,q⟩:=h;exact ⟨σ',H',I.unwish,q⟩
  | ret u=>obtain ⟨v,σ',H',I,r,q⟩:=h;exact ⟨v,σ',H',I.unwish,r,q⟩
theorem PSs.nox {st:List Stmt} {t:TS} (h:PSs X.nox st t):PSs X st t:=fun pins s σ H D I hw =>
  wpAny_mono (h pins s σ H D (I.wish _) hw) (fun _ _ q=>q.unwish) fun _ _ z=>False.elim z
end
section
variable {X : Cx} {st : Stmt} {rest : List Stmt} {t u : TS} {e : Expr} {te : TE} {pos : Pos}
def qnk:TS:=fun D σ H=>D.nx σ H
def qot (t u:TS):TS:=fun D σ H=>t { D with nx:=u D } σ H
theorem pss_nil:PSs X [] qnk:=fun _ _ σ H _ I h=>wpAny_execs_nil ⟨σ,H,I,h⟩
theorem qcR (h1:PS X st t) (h2:PSs X rest u):PSs X (st::rest) (qot t u):=by
  intro pins s σ H D I h
  refine wpAny_execs_cons (thn (h1 pins s σ H { D with nx:=u D } I h) fun f s1 q=>?_)
  cases f with
  | next =>
    obtain ⟨σ',H',I',q⟩:=q
    exact h2 pins s1 σ' H' D I' q
  | ret v=>exact q
  | brk=>exact q
  | cont=>exact q
theorem qhM (h1:PS X st t):PSs X [st] t:=by
  intro pins s σ H D I h
  refine wpAny_execs_cons (thn (h1 pins s σ H D I h) fun f s1 q=>?_)
  cases f with
  | next=>exact wpAny_execs_nil q
  | ret v=>exact q
  | brk=>exact q
  | cont=>exact q
theorem Inv.quiet {pins:List (Addr × Obj)} {σ:St} {H:Hp} {s:Shared} (I:Inv X pins σ H s):interactive X.env=false:=by simp [interactive,I.ok.kind]
def qnD (te:TE):TS:=fun D σ H=>te σ H fun _ H1=>D.nx σ H1
theorem qks (he:PE X e te) (hs:swapsWith e none pos.line X.env=pure false:=by rfl):PS X (.Expr e pos) (qnD te):=by
  intro pins s σ H D I h
  exact wpAny_Expr_any (thn (he pins s σ H _ I h) fun v s1 hq0=>by obtain ⟨x,H1,I1,r1,q1⟩:=hq0;exact ⟨σ,H1,I1,q1⟩) I.quiet hs
def qol (te:TE):TS:=fun D σ H=>te σ H D.rt
theorem qlR (he:PE X e te):PS X (.Return (some e) pos) (qol te):=by
  intro pins s σ H D I h
  exact wpAny_Return_some (thn (he pins s σ H _ I h) fun v s1 hq0=>by obtain ⟨x,H1,I1,r1,q1⟩:=hq0;exact ⟨x,σ,H1,I1,r1,q1⟩)
def qn6 (c:TT) (t u:TS):TS:=fun D σ H=>c σ H fun b H1=>if b=true then t D σ H1 else u D σ H1
theorem qnE {c:Expr} {a b:List Stmt} {tc:TT} (hc:PT X c tc) (ha:PSs X a t) (hb:PSs X b u):PS X (.If c a b pos) (qn6 tc t u):=by
  intro pins s σ H D I h
  refine wpAny_If (thn (hc pins s σ H _ I h) fun d s1 hq0=>?_)
  obtain ⟨H1,I1,q1⟩:=hq0
  cases d with
  | true=>exact ha pins s1 σ H1 D I1 q1
  | false=>exact hb pins s1 σ H1 D I1 q1
def qml:TS:=fun _ _ _=>False
theorem ps_never:PS X st qml:=fun _ _ _ _ _ _ h=>h.elim
end
abbrev TG:=V→St→Hp→(St→Hp→Prop)→Prop
abbrev TGs:=List V→St→Hp→(St→Hp→Prop)→Prop
def PG (X:Cx) (target:Expr) (t:TG):Prop :=
  ∀ (pins:List (Addr × Obj)) (s:Shared) (σ:St) (H:Hp) (v:V) (u:Value) (Q:St→Hp→Prop),Inv X pins σ H s→RelV v u→t v σ H Q →
    wpAny (model X.prog X.w) X.A (assign target X.env u) (fun _ s'=>∃ σ' H',Inv X pins σ' H' s'∧Q σ' H') X.xe s
def PGs (X:Cx) (ts:List Expr) (t:TGs):Prop :=
  ∀ (pins:List (Addr × Obj)) (s:Shared) (σ:St) (H:Hp) (vs:List V) (us:List Value) (Q:St→Hp→Prop),Inv X pins σ H s→Vals vs us→t vs σ H Q →
    wpAny (model X.prog X.w) X.A (assignInOrder ((assignEach ts X.env).map (·.2)) us) (fun _ s'=>∃ σ' H',Inv X pins σ' H' s'∧Q σ' H') X.xe s
section
variable {X : Cx} {pos : Pos}
def qf0 (i:Nat):TG:=fun v σ H Q=>Q (σ.set i (some v)) H
theorem qlk {i:Nat} {x:Str} (hN:X.N.Nodup) (hi:X.N[i]?=some x) (hx:Loc X.env.scope x) (hf:X.fn x=true∨X.env.scope.names.lookup x=some .local:=by first | exact .inl rfl | exact .inr rfl | assumption):PG X (.Name x pos) (qf0 i):=by
  intro pins s σ H v u Q I r h
  exact wpAny_assign_Name (qgr I hN hi hx r (fun s' I'=>⟨_,H,I',h⟩) hf)
def qn3:TGs:=fun vs σ H Q=>vs=[]∧Q σ H
def qnI (t:TG) (u:TGs):TGs:=fun vs σ H Q=>∃ v r,vs=v::r∧t v σ H fun σ' H'=>u r σ' H' Q
theorem pgs_nil:PGs X [] qn3:=by
  intro pins s σ H vs us Q I r h
  obtain ⟨e,h⟩:=h
  subst e
  cases r
  exact assignInOrder_nil ⟨σ,H,I,h⟩
theorem qjh {e:Expr} {es:List Expr} {t:TG} {u:TGs} (h1:PG X e t) (h2:PGs X es u)
    (hs:(assignEach (e::es) X.env).map (·.2)=assign e X.env::(assignEach es X.env).map (·.2):=by rfl):PGs X (e::es) (qnI t u):=by
  intro pins s σ H vs us Q I r h
  obtain ⟨v,vr,e1,h⟩:=h
  subst e1
  cases r with
  | cons r rr =>
    rw [hs]
    refine assignInOrder_cons (thn (h1 pins s σ H _ _ _ I r h) fun _ s1 hq0=>?_)
    obtain ⟨σ1,H1,I1,q1⟩:=hq0
    exact h2 pins s1 σ1 H1 _ _ Q I1 rr q1
def qnV (K:PySem.W.Frag) (n:Nat) (t:TGs):TG:=fun v σ H Q=>∃ a xs,v=.ref a∧SqT K H a xs∧xs.length=n∧t xs σ H Q
theorem ql9 {es:List Expr} {k:Nat} {t:TGs} {n:Nat} (hc:X.calm=true) (h:PGs X es t)
    (hn:(assignEach es X.env).length=n:=by rfl) (hst:(assignEach es X.env).findIdx? (·.1)=none:=by rfl):PG X (.Tuple es k pos) (qnV X.K n t):=by
  intro pins s σ H v u Q I r hw
  obtain ⟨a,xs,e1,hq,hl,hw⟩:=hw
  subst e1
  cases r
  obtain ⟨its,rv,ht,hz⟩:=I.tuple hq
  refine assign_Tuple_tuple (I.ok.hd hc) ht (by simp [hn,← hl,rv.length]) hst fun h' hx=>?_
  have I1:Inv X pins σ H { s with heap:=h' }:=I.kept (t':=s.toks) fun b o e=>hx b o (Nat.ne_of_lt (Heap.lt_size e)) e
  exact h pins _ σ H xs _ Q I1 (by simpa using rv) hw
def qlm (te:TE) (g:TG):TS:=fun D σ H=>te σ H fun x H1=>g x σ H1 D.nx
theorem qmz {tg e:Expr} {te:TE} {g:TG} (he:PE X e te) (hg:PG X tg g) (hs:swapsWithSole [tg] e pos.line X.env=pure false:=by rfl) (hw:swappedStores [tg] e X.env=pure none:=by rfl)
    (h1:(assignEach [tg] X.env).map (·.2)=[assign tg X.env]:=by rfl):PS X (.Assign [tg] e pos) (qlm te g):=by
  intro pins s σ H D I h
  refine wpAny_Assign_stores (thn (he pins s σ H _ I h) fun v s1 hq0=>?_) hs hw
  obtain ⟨x,H1,I1,r1,q1⟩:=hq0
  rw [h1]
  exact thn (hg pins s1 σ H1 x v _ I1 r1 q1) fun _ s2 q=>q
theorem qjU {i:Nat} {x:Str} {e:Expr} {te:TE} {pos':Pos} (hN:X.N.Nodup) (hi:X.N[i]?=some x) (hx:Loc X.env.scope x) (he:PE X e te) (hs:swapsWith e (some (.Name x pos')) pos.line X.env=pure false:=by rfl) (hf:X.fn x=true∨X.env.scope.names.lookup x=some .local:=by first | exact .inl rfl | exact .inr rfl | assumption) :
    PS X (.Assign [.Name x pos'] e pos) (qlm te (qf0 i)):=by
  intro pins s σ H D I h
  refine wpAny_Assign_Name (thn (he pins s σ H _ I h) fun v s1 hq0=>?_) hs
  obtain ⟨y,H1,I1,r1,q1⟩:=hq0
  exact qgr I1 hN hi hx r1 (fun s2 I2=>⟨_,H1,I2,q1⟩) hf
end
section
variable {X : Cx} {pos : Pos}
def qlz (c:TT) (tb:TS):TS:=fun D σ H=>∃ W:Nat→St→Hp→Prop,(∃ m,W m σ H)∧∀ m σ H,W m σ H →
  c σ H fun b H1=>if b=true then ∃ N:St→Hp→Prop,(∀ σ' H',N σ' H'→∃ m',m'<m∧W m' σ' H')∧tb { D with nx:=N,ct:=N,bk:=D.nx } σ H1 else D.nx σ H1
theorem qi4 {c:Expr} {body:List Stmt} {tc:TT} {tb:TS} (hp:PassesOwn (model X.prog X.w) X.A X.env X.xe) (hc:PT X c tc) (hb:PSs X body tb):PS X (.While c body [] pos) (qlz tc tb):=by
  intro pins s σ H D I h
  obtain ⟨W,⟨m0,w0⟩,turn⟩:=h
  refine wpAny_While (codeAny_whileLoop (fun n s'=>∃ σ' H',Inv X pins σ' H' s'∧W n σ' H') ?_ m0 ⟨σ,H,I,w0⟩)
  rintro n s1 ⟨σ1,H1,I1,w1⟩
  refine wpAny_passesOwn hp (thn (hc pins s1 σ1 H1 _ I1 (turn n σ1 H1 w1)) fun b s2 hq0=>?_)
  obtain ⟨H2,I2,q2⟩:=hq0
  cases b with
  | true =>
    obtain ⟨N,hN,q2⟩:=q2
    rw [if_pos rfl]
    refine wpAny_passesOwn hp (thn (hb pins s2 σ1 H2 _ I2 q2) fun f s3 q3=>?_)
    cases f with
    | next =>
      obtain ⟨σ3,H3,I3,n3⟩:=q3
      obtain ⟨m',hm,w3⟩:=hN σ3 H3 n3
      exact ⟨m',hm,σ3,H3,I3,w3⟩
    | cont =>
      obtain ⟨σ3,H3,I3,n3⟩:=q3
      obtain ⟨m',hm,w3⟩:=hN σ3 H3 n3
      exact ⟨m',hm,σ3,H3,I3,w3⟩
    | brk=>exact q3
    | ret v=>exact q3
  | false =>
    rw [if_neg Bool.false_ne_true]
    exact wpAny_execs_nil ⟨σ1,H2,I2,q2⟩
end
structure It where
  go:Nat→Hp→Prop
  yld:Nat→Hp→V→Hp→Prop
  stop:Nat→Hp→Prop
def FpOk (X:Cx) (pins:List (Addr × Obj)) (H:Hp) (b:Addr):Prop :=
  H b=none∧b≠X.env.locals∧b∉X.fs∧(b∈X.ex∨X.s₀.heap.objs.size≤b)∧(∀ x c,X.env.cells.lookup x=some c→c≠b)∧∀ p∈X.pn++pins,p.1≠b
theorem Inv.fpOk {X:Cx} {pins:List (Addr × Obj)} {σ:St} {H H':Hp} {s:Shared} {b:Addr} (I:Inv X pins σ H s) (hb:s.heap.objs.size≤b) (hn:H' b=none):FpOk X pins H' b:=by
  refine ⟨hn,Nat.ne_of_gt (Nat.lt_of_lt_of_le I.lt hb),I.nofs hb,.inr (Nat.le_trans I.sz hb),fun x c e z=>?_,fun p hp z=>?_⟩
  · obtain ⟨v,q⟩:=I.cell x c e
    exact absurd (Nat.lt_of_lt_of_le q.lt (by rw [z];exact hb)) (Nat.lt_irrefl _)
  · exact absurd (Nat.lt_of_lt_of_le (Heap.lt_size (I.pin p hp).1) (by rw [z];exact hb)) (Nat.lt_irrefl _)
structure Turn (P:Program) (w:World) (K:PySem.W.Frag) (tg:Expr) (J:It) (fp:List Addr) (it:Addr) (tn:Nat→Heap→Prop):Prop where
  mem:it∈fp
  obj:∀ i h,tn i h→∀ b∈fp,∃ o,h.get? b=some o∧∀ v,o.data≠.cell v
  keep:∀ i h h',tn i h→(∀ b∈fp,∀ o,h.get? b=some o→h'.get? b=some o)→tn i h'
  item:∀ (X:Cx),X.prog=P→X.w=w→X.K=K→X.calm=true→∀ (i:Nat) (pins:List (Addr × Obj)) (s:Shared) (σ:St) (H:Hp) (E:Value→Shared→Prop),Inv X pins σ H s→(∀ b∈fp,FpOk X pins H b)→tn i s.heap→J.go i H →
    wpAny (model P w) X.A (pyNext (.ref it)) (fun r s1=>∃ u,r=some u ∧
      wpAny (model P w) X.A (letOwnedTupleGo tg (.ref it) u) (fun _ s2=>∃ x H',Inv X pins σ H' s2∧RelV x u∧J.yld i H x H'∧tn (i+1) s2.heap∧∀ b∈fp,H' b=none) E s1) E s
  done:∀ (X:Cx),X.prog=P→X.w=w→X.K=K→X.calm=true→∀ (i:Nat) (pins:List (Addr × Obj)) (s:Shared) (σ:St) (H:Hp) (E:Value→Shared→Prop),Inv X pins σ H s→(∀ b∈fp,FpOk X pins H b)→tn i s.heap→J.stop i H →
    wpAny (model P w) X.A (pyNext (.ref it)) (fun r s1=>r=none∧Inv X pins σ H s1) E s
  self:∀ (A:Around) (i:Nat) (s:Shared) (Q:Value→Shared→Prop) (E:Value→Shared→Prop),tn i s.heap→Q (.ref it) s→wpAny (model P w) A (pyIter (.ref it)) Q E s
abbrev TI:=St→Hp→(It→Hp→Prop)→Prop
def PIE (X:Cx) (pins:List (Addr × Obj)) (σ:St) (tg:Expr) (R:It→Hp→Prop) (itv:Value) (s2:Shared):Prop :=
  ∃ (it:Addr) (fp:List Addr) (tn:Nat→Heap→Prop) (J:It) (H':Hp),itv=.ref it∧Inv X pins σ H' s2∧Turn X.prog X.w X.K tg J fp it tn∧tn 0 s2.heap∧(∀ b∈fp,FpOk X pins H' b)∧R J H'
def PI (X:Cx) (tg iter:Expr) (wi:TI):Prop :=
  ∀ (pins:List (Addr × Obj)) (s:Shared) (σ:St) (H:Hp) (R:It→Hp→Prop),Inv X pins σ H s→wi σ H R →
    wpAny (model X.prog X.w) X.A (eval iter X.env) (fun v s1=>wpAny (model X.prog X.w) X.A (pyIter v) (PIE X pins σ tg R) X.xe s1) X.xe s
theorem qk1 {M:Model} {A:Around} {E:Value→Shared→Prop} {s:Shared} {tg:Expr} {it:Addr} {u:Value} {o:Obj} {n:String} {vs:Array Value} {Q:Unit→Shared→Prop} (ho:s.heap.get? it=some o) (hc:o.cls=.type n) (hd:o.data=.fields vs)
    (hn:["enumerate","zip","dict_itemiterator","dict_reverseitemiterator","odict_iterator","itertools.zip_longest","itertools.pairwise"].contains n=false) (hQ:Q () s):wpAny M A (letOwnedTupleGo tg (.ref it) u) Q E s:=by
  unfold letOwnedTupleGo
  cases tg <;> first
    | exact wpAny_pure hQ
    | (cases u <;> first
        | exact wpAny_pure hQ
        | (refine wpAny_bind (wpAny_load ho ?_)
           rw [hc,hd]
           show wpAny M A (if (["enumerate","zip","dict_itemiterator","dict_reverseitemiterator","odict_iterator","itertools.zip_longest","itertools.pairwise"].contains n && vs[0]? == some (rawInt _))=true then _ else _) Q E s
           rw [if_neg (by intro h;rw [hn,Bool.false_and] at h;cases h)]
           exact wpAny_pure hQ))
def Itl (K:PySem.W.Frag) (a:Addr):It :=
  ⟨fun i H=>∃ xs x,SqL K H a xs∧xs[i]?=some x,fun i H x H'=>H'=H∧∀ xs,SqL K H a xs→xs[i]?=some x,fun i H=>∃ xs,SqL K H a xs∧xs.length≤i⟩
def Itt (K:PySem.W.Frag) (a:Addr):It :=
  ⟨fun i H=>∃ xs x,SqT K H a xs∧xs[i]?=some x,fun i H x H'=>H'=H∧∀ xs,SqT K H a xs→xs[i]?=some x,fun i H=>∃ xs,SqT K H a xs∧xs.length≤i⟩
def Itr (lo:Int) (n:Nat):It:=⟨fun i _=>i<n,fun i H x H'=>H'=H∧x=.int (lo+i),fun i _=>n≤i⟩
theorem qhS {P:Program} {w:World} {K:PySem.W.Frag} {tg:Expr} (a it:Addr):Turn P w K tg (Itl K a) [it] it (fun i h=>h.IsListIter it a i) where
  mem:=by simp
  obj:=fun i h st b hb=>by
    have e:b=it:=by simpa using hb
    subst e
    obtain ⟨o,e,c,d⟩:=st
    exact ⟨o,e,fun v z=>by rw [d] at z;cases z⟩
  keep:=fun i h h' st k=>st.at fun o e=>k it (by simp) o e
  item:=by
    intro X hP hw hK hc i pins s σ H E I hf st hg
    subst hP hw hK
    obtain ⟨xs,x,hq,hx⟩:=hg
    obtain ⟨its,rv,p,hz⟩:=I.list hq
    obtain ⟨u,hu,ru⟩:=rv.get hx
    obtain ⟨f0,f1,f2,f3,f4,f5⟩:=hf it (by simp)
    refine wpAny_pyNext_list_item st p.isList (x:=u) (by simpa using hu) fun h' st' sb=>?_
    have I1:Inv X pins σ H { s with heap:=h' }:=I.turned (t':=s.toks) (fun b o hb e=>(sb.2 b hb).trans e) f0 f1 f3 f4 f5
    obtain ⟨o,e,c,d⟩:=id st'
    exact ⟨u,rfl,qk1 (s:={ s with heap:=h' }) e c d (by decide) ⟨x,H,I1,ru,⟨rfl,fun ys hy=>by rw [I.list_inj hy hq];exact hx⟩,st',fun b hb=>(hf b hb).1⟩⟩
  done:=by
    intro X hP hw hK hc i pins s σ H E I hf st hg
    subst hP hw hK
    obtain ⟨xs,hq,hx⟩:=hg
    obtain ⟨its,rv,p,hz⟩:=I.list hq
    obtain ⟨f0,f1,f2,f3,f4,f5⟩:=hf it (by simp)
    have hl:=rv.length
    exact wpAny_pyNext_list_end (I.ok.hd hc) st p.isList (by simp;omega) fun h' eb=>⟨rfl,I.turned (t':=s.toks) (fun b o hb e=>eb b o hb e) f0 f1 f3 f4 f5⟩
  self:=fun _ _ _ _ _ st h=>wpAny_pyIter_listiter st h
theorem qgP {P:Program} {w:World} {K:PySem.W.Frag} {tg:Expr} (a it:Addr):Turn P w K tg (Itt K a) [it] it (fun i h=>h.IsTupleIter it a i) where
  mem:=by simp
  obj:=fun i h st b hb=>by
    have e:b=it:=by simpa using hb
    subst e
    obtain ⟨o,e,c,d⟩:=st
    exact ⟨o,e,fun v z=>by rw [d] at z;cases z⟩
  keep:=fun i h h' st k=>st.at fun o e=>k it (by simp) o e
  item:=by
    intro X hP hw hK hc i pins s σ H E I hf st hg
    subst hP hw hK
    obtain ⟨xs,x,hq,hx⟩:=hg
    obtain ⟨its,rv,p,hz⟩:=I.tuple hq
    obtain ⟨u,hu,ru⟩:=rv.get hx
    obtain ⟨f0,f1,f2,f3,f4,f5⟩:=hf it (by simp)
    refine wpAny_pyNext_tuple_item st (show s.heap.IsTuple a its.toArray from p) (x:=u) (by simpa using hu) fun h' st' sb=>?_
    have I1:Inv X pins σ H { s with heap:=h' }:=I.turned (t':=s.toks) (fun b o hb e=>(sb.2 b hb).trans e) f0 f1 f3 f4 f5
    obtain ⟨o,e,c,d⟩:=id st'
    exact ⟨u,rfl,qk1 (s:={ s with heap:=h' }) e c d (by decide) ⟨x,H,I1,ru,⟨rfl,fun ys hy=>by rw [I.tuple_inj hy hq];exact hx⟩,st',fun b hb=>(hf b hb).1⟩⟩
  done:=by
    intro X hP hw hK hc i pins s σ H E I hf st hg
    subst hP hw hK
    obtain ⟨xs,hq,hx⟩:=hg
    obtain ⟨its,rv,p,hz⟩:=I.tuple hq
    obtain ⟨f0,f1,f2,f3,f4,f5⟩:=hf it (by simp)
    have hl:=rv.length
    exact wpAny_pyNext_tuple_end (I.ok.hd hc) st (show s.heap.IsTuple a its.toArray from p) (by simp;omega) fun h' eb=>⟨rfl,I.turned (t':=s.toks) (fun b o hb e=>eb b o hb e) f0 f1 f3 f4 f5⟩
  self:=fun _ _ _ _ _ st h=>wpAny_pyIter_tupleiter st h
theorem qg9 {P:Program} {w:World} {K:PySem.W.Frag} {tg:Expr} (it:Addr) (lo:Int) (n:Nat):Turn P w K tg (Itr lo n) [it] it (fun i h=>IsRangeIter h it (lo+(i:Nat)*1) ((n:Int) - (i:Nat)) 1) where
  mem:=by simp
  obj:=fun i h st b hb=>by
    have e:b=it:=by simpa using hb
    subst e
    exact ⟨_,st,fun v z=>by
      have z':Data.fields _=Data.cell v:=z
      cases z'⟩
  keep:=fun i h h' st k=>k it (by simp) _ st
  item:=by
    intro X hP hw hK hc i pins s σ H E I hf st hg
    subst hP hw hK
    obtain ⟨f0,f1,f2,f3,f4,f5⟩:=hf it (by simp)
    have W:=Walks.range (prog:=X.prog) (w:=X.w) (I.ok.hd hc) it lo 1 n
    refine W.item i s _ _ hg st fun v h' tk hv st' kk=>?_
    obtain ⟨t,rfl⟩:=hv
    have I1:Inv X pins σ H { s with heap:=h',toks:=tk }:=I.turned (fun b o hb e=>kk b o (by simpa using hb) e) f0 f1 f3 f4 f5
    refine ⟨_,rfl,qk1 (s:={ s with heap:=h',toks:=tk }) (n:="range_iterator") st' rfl rfl (by decide) ⟨.int (lo+i),H,I1,⟨t,?_⟩,⟨rfl,rfl⟩,st',fun b hb=>(hf b hb).1⟩⟩
    rw [Int.mul_one]
  done:=by
    intro X hP hw hK hc i pins s σ H E I hf st hg
    subst hP hw hK
    obtain ⟨f0,f1,f2,f3,f4,f5⟩:=hf it (by simp)
    exact wpAny_pyNext_range_end (I.ok.hd hc) st (by have:n≤i:=hg;omega) fun h' eb=>⟨rfl,I.turned (t':=s.toks) (fun b o hb e=>eb b o hb e) f0 f1 f3 f4 f5⟩
  self:=fun _ _ _ _ _ st h=>wpAny_pyIter_rangeiter st h
section
variable {X : Cx} {tg : Expr}
theorem qiN {pins:List (Addr × Obj)} {σ:St} {H:Hp} {s:Shared} {R:It→Hp→Prop} {E:Value→Shared→Prop} {lo hi:Int} {t u v:Tok} {tk:Nat} (I:Inv X pins σ H s) (h1:-(2 ^ 62)≤lo) (h2:lo<2 ^ 62) (h3:-(2 ^ 62)≤hi) (h4:hi<2 ^ 62)
    (q:R (Itr lo (hi - lo).toNat) H):wpAny (model X.prog X.w) X.A (pyIter (.ref s.heap.objs.size)) (PIE X pins σ tg R) E { s with heap:=s.heap.push { cls:=.type "range",data:=.fields #[.int lo t,.int hi u,.int 1 v] },toks:=tk }:=by
  refine wpAny_pyIter_range (IsRange.new ..) (small_one h1 h2 h3 h4) ?_
  have I1:Inv X pins σ H { s with heap:=s.heap.push { cls:=.type "range",data:=.fields #[.int lo t,.int hi u,.int 1 v] },toks:=tk }:=I.kept fun b o e=>Heap.get?_push_of_some _ e
  refine ⟨(s.heap.push { cls:=.type "range",data:=.fields #[.int lo t,.int hi u,.int 1 v] }).objs.size,[(s.heap.push { cls:=.type "range",data:=.fields #[.int lo t,.int hi u,.int 1 v] }).objs.size],_,_,H,rfl,
    I1.kept (t':=tk) fun b o e=>Heap.get?_push_of_some _ e,qg9 _ lo (hi - lo).toNat,?_,fun b hb=>?_,q⟩
  · have e1:lo+((0:Nat):Int)*1=lo:=by simp
    have e2:(((hi - lo).toNat:Nat):Int) - ((0:Nat):Int)=Builtin.Range.rangeSize lo hi 1:=by rw [rangeSize_one];split <;> omega
    show IsRangeIter _ _ (lo+((0:Nat):Int)*1) ((((hi - lo).toNat:Nat):Int) - ((0:Nat):Int)) 1
    rw [e1,e2]
    exact Heap.get?_push_size _ rfl
  · have e:b=(s.heap.push { cls:=.type "range",data:=.fields #[.int lo t,.int hi u,.int 1 v] }).objs.size:=by simpa using hb
    subst e
    exact I1.fpOk (Nat.le_refl _) (I1.hok.fresh (Nat.le_refl _))
def qm9 (ta:TA):TI:=fun σ H R=>ta σ H fun vs H1=>∃ j:Int,vs=[.int j]∧-(2 ^ 62)≤j∧j<2 ^ 62∧R (Itr 0 j.toNat) H1
theorem qhh {a:Expr} {ta:TA} {p pos:Pos} (hg:Gl X "range") (hm:X.mg "range"=none) (ha:PA X [a] ta) (hs:starEach [a] X.env=[(false,eval a X.env)]:=by rfl):PI X tg (.Call (.Name "range" p) [a] [] pos) (qm9 ta):=by
  intro pins s σ H R I h
  refine Call_ (qdj I hg hm boot_range (PyProof.Rows.callWith_type1 (thn (ha pos pins s σ H _ I h) fun us s1 hq0=>?_) hs rfl))
  obtain ⟨vs,H1,I1,r1,q1⟩:=hq0
  obtain ⟨j,e,q1,q2,q⟩:=q1
  subst e
  cases r1 with
  | cons r rr =>
    cases rr
    obtain ⟨t,rfl⟩:=r
    exact call_range_1 (qiN I1 (by omega) (by omega) q1 q2 (by simpa using q))
def qom (wi:TI) (g:TG) (tb:TS):TS:=fun D σ H=>wi σ H fun J H1=>∃ W:Nat→Nat→St→Hp→Prop,(∃ m,W 0 m σ H1)∧∀ i m σ H,W i m σ H →
  (J.stop i H∧D.nx σ H)∨(J.go i H∧∃ N:St→Hp→Prop,(∀ σ' H',N σ' H'→∃ m',m'<m∧W (i+1) m' σ' H')∧∀ x H',J.yld i H x H'→g x σ H' fun σ2 H2=>tb { D with nx:=N,ct:=N,bk:=D.nx } σ2 H2)
def qfr (fp:List Addr) (h:Heap):List (Addr × Obj):=fp.filterMap fun b=>(h.get? b).map fun o=>(b,o)
theorem qct {fp:List Addr} {h:Heap} {b:Addr} {o:Obj} (hb:b∈fp) (e:h.get? b=some o):(b,o)∈qfr fp h:=List.mem_filterMap.mpr ⟨b,hb,by rw [e];rfl⟩
theorem qhZ {fp:List Addr} {h:Heap} {p:Addr × Obj} (hp:p∈qfr fp h):p.1∈fp∧h.get? p.1=some p.2:=by
  obtain ⟨b,hb,e⟩:=List.mem_filterMap.mp hp
  cases q:h.get? b with
  | none=>rw [q] at e;cases e
  | some o =>
    rw [q] at e
    have e':(b,o)=p:=Option.some.inj e
    subst e'
    exact ⟨hb,q⟩
theorem Inv.pinned {pins:List (Addr × Obj)} {σ:St} {H:Hp} {s:Shared} {fp:List Addr} (I:Inv X pins σ H s) (hf:∀ b∈fp,FpOk X pins H b) (ho:∀ b∈fp,∃ o,s.heap.get? b=some o∧∀ v,o.data≠.cell v):Inv X (pins++qfr fp s.heap) σ H s :=
  I.pins_of fun p hp=>(List.mem_append.mp hp).elim (fun z=>I.pin p (List.mem_append_right _ z)) fun z=>by
    obtain ⟨hb,e⟩:=qhZ z
    obtain ⟨f0,f1,f2,_⟩:=hf p.1 hb
    obtain ⟨o,e',d⟩:=ho p.1 hb
    rw [e] at e';cases e'
    exact ⟨e,f0,f1,f2,d⟩
theorem Inv.unpinned {pins pl:List (Addr × Obj)} {σ:St} {H:Hp} {s:Shared} (I:Inv X (pins++pl) σ H s):Inv X pins σ H s:=I.pins_of fun p hp=>I.pin p (List.mem_append_right _ (List.mem_append_left _ hp))
theorem qly {iter:Expr} {body:List Stmt} {wi:TI} {g:TG} {tb:TS} {pos:Pos} (hp:PassesOwn (model X.prog X.w) X.A X.env X.xe) (hc:X.calm=true) (hi:PI X tg iter wi) (hg:PG X tg g) (hb:PSs X body tb)
    (hs:∀ x,foldedSetIterable iter X.env x=pure x:=by intro _;rfl):PS X (.For tg iter body [] pos) (qom wi g tb):=by
  intro pins s σ H D I h
  refine wpAny_For (thn (hi pins s σ H _ I h) fun v s1 h1=>thn h1 fun itv s2 h2=>?_) hs
  obtain ⟨it,fp,tn,J,H2,e,I2,T,st2,f2,W,⟨m0,w0⟩,turn⟩:=h2
  subst e
  have stat:∀ {H':Hp},(∀ b∈fp,H' b=none)→∀ b∈fp,FpOk X pins H' b:=fun hn b hb=>⟨hn b hb,(f2 b hb).2⟩
  refine codeAny_forLoop_any (fun n s'=>∃ i σ' H',Inv X pins σ' H' s'∧tn i s'.heap∧(∀ b∈fp,H' b=none)∧W i n σ' H') ?_ m0 ⟨0,σ,H2,I2,st2,fun b hb=>(f2 b hb).1,w0⟩
  rintro n s3 ⟨i,σ3,H3,I3,st3,fr3,w3⟩
  rcases turn i n σ3 H3 w3 with ⟨stop,qn⟩ | ⟨go,N,hN,step⟩
  · refine wpAny_passesOwn hp (thn (T.done X rfl rfl rfl hc i pins s3 σ3 H3 X.xe I3 (stat fr3) st3 stop) fun r s4 hq0=>?_)
    obtain ⟨hr,I4⟩:=hq0
    subst hr
    exact wpAny_execs_nil ⟨σ3,H3,I4,qn⟩
  · refine wpAny_passesOwn hp (thn (T.item X rfl rfl rfl hc i pins s3 σ3 H3 X.xe I3 (stat fr3) st3 go) fun r s4 hq1=>?_)
    obtain ⟨u,hr,h4⟩:=hq1
    subst hr
    refine wpAny_passesOwn hp (thn h4 fun _ s5 hq2=>?_)
    obtain ⟨x,H5,I5,r5,y5,st5,fr5⟩:=hq2
    have I5':=I5.pinned (stat fr5) (T.obj _ _ st5)
    refine wpAny_passesOwn hp (thn (hg _ s5 σ3 H5 x u _ I5' r5 (step x H5 y5)) fun _ s6 hq3=>?_)
    obtain ⟨σ6,H6,I6,q6⟩:=hq3
    refine wpAny_passesOwn hp (thn (hb _ s6 σ6 H6 _ I6 q6) fun f s7 q7=>?_)
    have again:∀ {σ7:St} {H7:Hp},Inv X (pins++qfr fp s5.heap) σ7 H7 s7→N σ7 H7→∃ m,m<n∧∃ i σ' H',Inv X pins σ' H' s7∧tn i s7.heap∧(∀ b∈fp,H' b=none)∧W i m σ' H':=fun {σ7 H7} I7 n7=>by
      obtain ⟨m',hm,w7⟩:=hN σ7 H7 n7
      refine ⟨m',hm,i+1,σ7,H7,I7.unpinned,T.keep _ _ _ st5 fun b hb o e=>(I7.pin (b,o) (List.mem_append_right _ (List.mem_append_right _ (qct hb e)))).1,fun b hb=>?_,w7⟩
      obtain ⟨o,e,d⟩:=T.obj _ _ st5 b hb
      exact (I7.pin (b,o) (List.mem_append_right _ (List.mem_append_right _ (qct hb e)))).2.1
    cases f with
    | next=>obtain ⟨σ7,H7,I7,n7⟩:=q7;exact again I7 n7
    | cont=>obtain ⟨σ7,H7,I7,n7⟩:=q7;exact again I7 n7
    | brk=>obtain ⟨σ7,H7,I7,q7⟩:=q7;exact ⟨σ7,H7,I7.unpinned,q7⟩
    | ret v=>obtain ⟨x7,σ7,H7,I7,r7,q7⟩:=q7;exact ⟨x7,σ7,H7,I7.unpinned,r7,q7⟩
end
abbrev R2:=V→V→Hp→VK→Prop
def OpR (X:Cx) (f:Value→Value→Sem Value) (r:R2):Prop :=
  ∀ (pins:List (Addr × Obj)) (s:Shared) (σ:St) (H:Hp) (x y:V) (v u:Value) (Q:VK),Inv X pins σ H s→RelV x v→RelV y u→r x y H Q →
    wpAny (model X.prog X.w) X.A (f v u) (EP X pins σ Q) X.xe s
def UnR (X:Cx) (f:Value→Sem Value) (r:V→Hp→VK→Prop):Prop :=
  ∀ (pins:List (Addr × Obj)) (s:Shared) (σ:St) (H:Hp) (x:V) (v:Value) (Q:VK),Inv X pins σ H s→RelV x v→r x H Q →
    wpAny (model X.prog X.w) X.A (f v) (EP X pins σ Q) X.xe s
def qc1 (X:Cx) (f:Value) (r:List V→Hp→VK→Prop):Prop :=
  ∀ (pins:List (Addr × Obj)) (s:Shared) (σ:St) (H:Hp) (xs:List V) (us:List Value) (Q:VK),Inv X pins σ H s→Vals xs us→r xs H Q →
    wpAny (model X.prog X.w) X.A (call f us) (EP X pins σ Q) X.xe s
def qoB (X:Cx) (r:V→Hp→(Bool→Hp→Prop)→Prop):Prop :=
  ∀ (pins:List (Addr × Obj)) (s:Shared) (σ:St) (H:Hp) (x:V) (v:Value) (Q:Bool→Hp→Prop),Inv X pins σ H s→RelV x v→r x H Q →
    wpAny (model X.prog X.w) X.A (truthy v) (TP X pins σ Q) X.xe s
def tOp (r:R2) (ta tb:TE):TE:=fun σ H Q=>ta σ H fun x H1=>tb σ H1 fun y H2=>r x y H2 Q
def tUn (r:V→Hp→VK→Prop) (ta:TE):TE:=fun σ H Q=>ta σ H fun x H1=>r x H1 Q
def rI (C:Int→Int→Prop) (g:Int→Int→V):R2:=fun x y H Q=>∃ i j,x=.int i∧y=.int j∧C i j∧Q (g i j) H
def rI0 (g:Int→Int→V):R2:=fun x y H Q=>∃ i j,x=.int i∧y=.int j∧Q (g i j) H
def rU (g:Int→V):V→Hp→VK→Prop:=fun x H Q=>∃ i,x=.int i∧Q (g i) H
section
variable {X : Cx} {a b c : Expr} {ta tb tc : TE} {pos : Pos}
theorem qng (ha:PE X a ta) (hb:PE X b tb) {pins:List (Addr × Obj)} {s:Shared} {σ:St} {H:Hp} {R:V→V→Hp→Prop} (I:Inv X pins σ H s)
    (h:ta σ H fun x H1=>tb σ H1 fun y H2=>R x y H2) {Q:Value→Shared→Prop} {f:Value→Value→Sem Value}
    (hf:∀ v u s2 x y H2,Inv X pins σ H2 s2→RelV x v→RelV y u→R x y H2→wpAny (model X.prog X.w) X.A (f v u) Q X.xe s2) :
    wpAny (model X.prog X.w) X.A (eval a X.env) (fun v s₁=>wpAny (model X.prog X.w) X.A (eval b X.env) (fun u s₂=>wpAny (model X.prog X.w) X.A (f v u) Q X.xe s₂) X.xe s₁) X.xe s:=by
  refine thn (ha pins s σ H _ I h) fun v s1 hq0=>?_
  obtain ⟨x,H1,I1,r1,q1⟩:=hq0
  refine thn (hb pins s1 σ H1 _ I1 q1) fun u s2 hq1=>?_
  obtain ⟨y,H2,I2,r2,q2⟩:=hq1
  exact hf v u s2 x y H2 I2 r1 r2 q2
theorem qnh {op:Operator} {r:R2} (ho:OpR X (binaryOp op) r) (ha:PE X a ta) (hb:PE X b tb):PE X (.BinOp a op b pos) (tOp r ta tb):=by
  intro pins s σ H Q I h
  exact wpAny_BinOp (qng ha hb I h fun v u s2 x y H2 I2 rx ry q=>ho pins s2 σ H2 x y v u Q I2 rx ry q)
theorem qm2 {op:UnaryOp} {r:V→Hp→VK→Prop} (ho:UnR X (unaryOp op) r) (ha:PE X a ta):PE X (.UnaryOp op a pos) (tUn r ta):=by
  intro pins s σ H Q I h
  exact UnaryOp_ (thn (ha pins s σ H _ I h) fun v s1 hq0=>by obtain ⟨x,H1,I1,r1,q1⟩:=hq0;exact ho pins s1 σ H1 x v Q I1 r1 q1)
theorem opI {f:Value→Value→Sem Value} {C:Int→Int→Prop} {g:Int→Int→Int}
    (rule:∀ (i j:Int) (t u:Tok) (s:Shared) (Q:Value→Shared→Prop) (E:Value→Shared→Prop),C i j→Q (.int (g i j) s.toks) { s with toks:=s.toks+1 }→wpAny (model X.prog X.w) X.A (f (.int i t) (.int j u)) Q E s) :
    OpR X f (rI C fun i j=>.int (g i j)):=by
  intro pins s σ H x y v u Q I rx ry h
  obtain ⟨i,j,rfl,rfl,hc,q⟩:=h
  obtain ⟨t,rfl⟩:=rx
  obtain ⟨t',rfl⟩:=ry
  exact rule i j t t' s _ _ hc ⟨.int (g i j),H,I.tok _,⟨_,rfl⟩,q⟩
theorem qnK {f:Value→Value→Sem Value} {g:Int→Int→Int}
    (rule:∀ (i j:Int) (t u:Tok) (s:Shared) (Q:Value→Shared→Prop) (E:Value→Shared→Prop),Q (.int (g i j) s.toks) { s with toks:=s.toks+1 }→wpAny (model X.prog X.w) X.A (f (.int i t) (.int j u)) Q E s) :
    OpR X f (rI0 fun i j=>.int (g i j)):=by
  intro pins s σ H x y v u Q I rx ry h
  obtain ⟨i,j,rfl,rfl,q⟩:=h
  obtain ⟨t,rfl⟩:=rx
  obtain ⟨t',rfl⟩:=ry
  exact rule i j t t' s _ _ ⟨.int (g i j),H,I.tok _,⟨_,rfl⟩,q⟩
theorem qnT {f:Value→Value→Sem Value} {g:Int→Int→Bool}
    (rule:∀ (i j:Int) (t u:Tok) (s:Shared) (Q:Value→Shared→Prop) (E:Value→Shared→Prop),Q (.bool (g i j)) s→wpAny (model X.prog X.w) X.A (f (.int i t) (.int j u)) Q E s) :
    OpR X f (rI0 fun i j=>.bl (g i j)):=by
  intro pins s σ H x y v u Q I rx ry h
  obtain ⟨i,j,rfl,rfl,q⟩:=h
  obtain ⟨t,rfl⟩:=rx
  obtain ⟨t',rfl⟩:=ry
  exact rule i j t t' s _ _ ⟨.bl (g i j),H,I,rfl,q⟩
def qn0 (i j:Int):Prop:=0≤j∧j≤1000000∧i.natAbs<2 ^ 64
theorem qmS:OpR X (binaryOp .Add) (rI0 fun i j=>.int (i+j)):=qnK fun _ _ _ _ _ _ _ q=>add_int q
theorem qlV:OpR X (binaryOp .Sub) (rI0 fun i j=>.int (i - j)):=qnK fun _ _ _ _ _ _ _ q=>sub_int q
theorem qmD:OpR X (binaryOp .Mod) (rI (fun _ j=>0<j) fun i j=>.int (i % j)):=opI fun i j _ _ _ _ _ hc q=>by
  have h1:(0:Int)<j:=hc
  exact mod_int' (by omega) (by rw [Int.fmod_eq_emod_of_nonneg i (by omega)];exact q)
theorem qma:OpR X (binaryOp .Pow) (rI qn0 fun i j=>.int (i ^ j.toNat)):=opI fun _ _ _ _ _ _ _ hc q=>pow_int_small hc.1 hc.2.1 hc.2.2 q
theorem unI {f:Value→Sem Value} {g:Int→Int}
    (rule:∀ (i:Int) (t:Tok) (s:Shared) (Q:Value→Shared→Prop) (E:Value→Shared→Prop),Q (.int (g i) s.toks) { s with toks:=s.toks+1 }→wpAny (model X.prog X.w) X.A (f (.int i t)) Q E s) :
    UnR X f (rU fun i=>.int (g i)):=by
  intro pins s σ H x v Q I rx h
  obtain ⟨i,rfl,q⟩:=h
  obtain ⟨t,rfl⟩:=rx
  exact rule i t s _ _ ⟨.int (g i),H,I.tok _,⟨_,rfl⟩,q⟩
theorem qlC:UnR X (unaryOp .USub) (rU fun i=>.int (-i)):=unI fun _ _ _ _ _ q=>neg_int q
end
section
variable {X : Cx} {a b c : Expr} {ta tb tc : TE} {pos : Pos}
theorem qgK {pins:List (Addr × Obj)} {σ:St} {H:Hp} {s:Shared} {Q:VK} {k k':Bool} (I:Inv X pins σ H s) (q:Q (.bl k) H) (e:k=k'):EP X pins σ Q (.bool k') s:=by
  subst e
  exact ⟨.bl k,H,I,rfl,q⟩
theorem qnb:OpR X (compareOp .Lt) (rI0 fun i j=>.bl (decide (i<j))):=qnT fun _ _ _ _ _ _ _ q=>lt_int q
theorem qnm:OpR X (compareOp .Gt) (rI0 fun i j=>.bl (decide (j<i))):=qnT fun _ _ _ _ _ _ _ q=>gt_int q
theorem qlu:OpR X (compareOp .Is) (fun x y H Q=>y=.non∧Q (.bl (decide (x=.non))) H):=by
  intro pins s σ H x y v u Q I rx ry h
  obtain ⟨rfl,q⟩:=h
  cases ry
  refine is_none_gen (qgK I q ?_)
  cases x <;> first
    | (cases rx;rfl)
    | (obtain ⟨t,rfl⟩:=rx;rfl)
theorem qku:OpR X (compareOp .IsNot) (fun x y H Q=>y=.non∧Q (.bl (!decide (x=.non))) H):=by
  intro pins s σ H x y v u Q I rx ry h
  obtain ⟨rfl,q⟩:=h
  cases ry
  refine isnot_none_gen (qgK I q ?_)
  cases x <;> first
    | (cases rx;rfl)
    | (obtain ⟨t,rfl⟩:=rx;rfl)
theorem qaC (b:Expr) {op:CmpOp} (h:op≠.In:=by decide) (h2:op≠.NotIn:=by decide):behindInMarks op b=false:=by
  have e1:(op == CmpOp.In)=false:=by cases op <;> first | rfl | exact absurd rfl h
  have e2:(op == CmpOp.NotIn)=false:=by cases op <;> first | rfl | exact absurd rfl h2
  cases b <;> simp [behindInMarks,e1,e2]
theorem qj5 {op:CmpOp} {r:R2} (ho:OpR X (compareOp op) r) (ha:PE X a ta) (hb:PE X b tb) (hm:behindInMarks op b=false):PE X (.Compare a [op] [b] pos) (tOp r ta tb):=by
  intro pins s σ H Q I h
  exact wpAny_Compare1 (qng ha hb I h fun v u s2 x y H2 I2 rx ry q=>ho pins s2 σ H2 x y v u Q I2 rx ry q) hm
def qlF (t:TE):TT:=fun σ H Q=>t σ H fun x H'=>∃ k,x=.bl k∧Q k H'
theorem qkN {op:CmpOp} {r:R2} (ho:OpR X (compareOp op) r) (ha:PE X a ta) (hb:PE X b tb) (hm:behindInMarks op b=false):PT X (.Compare a [op] [b] pos) (qlF (tOp r ta tb)):=by
  intro pins s σ H Q I h
  refine wpAny_isTrue_Compare1 (thn (ha pins s σ H _ I h) fun v s1 ⟨x,H1,I1,r1,q1⟩=>thn (hb pins s1 σ H1 _ I1 q1) fun u s2 ⟨y,H2,I2,r2,q2⟩ =>
    thn (ho pins s2 σ H2 x y v u _ I2 r1 r2 q2) fun c s3 ⟨z,H3,I3,r3,k,e,q3⟩=>?_) hm
  subst e
  cases r3
  exact wpAny_truthy_bool ⟨H3,I3,q3⟩
def qne (K:PySem.W.Frag) (x:V) (H:Hp) (k:Bool):Prop :=
  match x with
  | .non=>k=false
  | .bl b=>k=b
  | .int i=>k=(i != 0)
  | .str y=>y.length≤sizeLine∧k=((y.length:Int) != 0)
  | .byt y=>y.size≤sizeLine∧k=((y.size:Int) != 0)
  | .ref p=>(∃ xs,SqL K H p xs∧k=!xs.isEmpty)∨(∃ xs,SqT K H p xs∧k=!xs.isEmpty)∨∃ kvs,H p=some (.dK kvs)∧k=!kvs.isEmpty
  | _=>False
theorem qgV {κ:Type} {kvs:List (κ × V)} {vs:List (κ × Value)} (r:KV kvs vs):(!vs.isEmpty)=!kvs.isEmpty:=by
  cases r <;> rfl
theorem qec {xs:List V} {its:List Value} (r:Vals xs its):(!its.toArray.isEmpty)=!xs.isEmpty:=by
  cases r <;> simp
theorem qee:(sizeLine:Nat)<2 ^ 63:=by rw [sizeLine_eq];decide
theorem qlO:qoB X (fun x H Q=>∃ k,qne X.K x H k∧Q k H):=by
  intro pins s σ H x v Q I rx h
  obtain ⟨k,e,q⟩:=h
  have hl:=qee
  have hs:sizeLine=16777216:=sizeLine_eq
  cases x with
  | non =>
    cases rx
    have e':k=false:=e
    subst e'
    exact truthy_none ⟨H,I,q⟩
  | bl b =>
    cases rx
    have e':k=b:=e
    subst e'
    exact wpAny_truthy_bool ⟨H,I,q⟩
  | int i =>
    obtain ⟨t,rfl⟩:=rx
    have e':k=(i != 0):=e
    subst e'
    exact PySem.P.truthy_int ⟨H,I,q⟩
  | str y =>
    obtain ⟨t,rfl⟩:=rx
    obtain ⟨hy,e'⟩:y.length≤sizeLine∧k=((y.length:Int) != 0):=e
    subst e'
    exact PySem.P.truthy_str (by omega) ⟨H,I.tok _,q⟩
  | byt y =>
    obtain ⟨t,rfl⟩:=rx
    obtain ⟨hy,e'⟩:y.size≤sizeLine∧k=((y.size:Int) != 0):=e
    subst e'
    exact PySem.W.truthy_bytes (by omega) ⟨H,I.tok _,q⟩
  | ref p =>
    cases rx
    have e':(∃ xs,SqL X.K H p xs∧k=!xs.isEmpty)∨(∃ xs,SqT X.K H p xs∧k=!xs.isEmpty)∨∃ kvs,H p=some (.dK kvs)∧k=!kvs.isEmpty:=e
    rcases e' with ⟨xs,hx,e'⟩ | ⟨xs,hx,e'⟩ | ⟨kvs,hx,e'⟩
    · subst e'
      obtain ⟨its,r,pl,hz⟩:=I.list hx
      have hlen:=r.length
      exact wpAny_truthy_list pl.isList (by simp only [List.size_toArray];omega) ⟨H,I.tok _,by rw [qec r];exact q⟩
    · subst e'
      obtain ⟨its,r,pl,hz⟩:=I.tuple hx
      have hlen:=r.length
      exact truthy_tuple pl (by simp only [List.size_toArray];omega) ⟨H,I.tok _,by rw [qec r];exact q⟩
    · subst e'
      obtain ⟨hz,hS,vs,r,m⟩:kvs.length≤sizeLine∧(p == sysModules)=false∧∃ vs,KV kvs vs∧s.heap.DictOf (qfO X.prog X.w) p vs:=I.hok p _ hx
      have hlen:kvs.length=vs.length:=Paired.length r
      exact wpAny_truthy_dict hS m (by omega) ⟨H,I.tok _,by rw [qgV r];exact q⟩
  | _=>exact (show False from e).elim
theorem qiG (ha:PE X a ta) (he:∀ whole,isTrue a X.env whole=(do let v ← whole;standAt a.pos;holding [v] (truthy v))) :
    PT X a (fun σ H Q=>ta σ H fun x H'=>∃ k,qne X.K x H' k∧Q k H'):=by
  intro pins s σ H Q I h
  exact isTrue_plain (thn (ha pins s σ H _ I h) fun v s1 hq0=>by obtain ⟨x,H1,I1,r1,q1⟩:=hq0;exact qlO pins s1 σ H1 x v Q I1 r1 q1) (he _)
theorem qgT:OpR X (binaryOp .Add) (fun x y H Q=>∃ i j,x=.str i∧y=.str j∧i.length+j.length≤sizeLine∧Q (.str (i++j)) H):=by
  intro pins s σ H x y v u Q I rx ry h
  obtain ⟨i,j,rfl,rfl,hz,q⟩:=h
  obtain ⟨t,rfl⟩:=rx
  obtain ⟨t',rfl⟩:=ry
  exact add_str (fun t' tk=>⟨.str (i++j),H,I.tok _,⟨_,rfl⟩,q⟩) hz
theorem qfW {x:V} {us:List Value} (r:Vals [x] us):∃ u,us=[u]∧RelV x u:=by
  cases r with
  | cons r1 r2=>cases r2;exact ⟨_,rfl,r1⟩
theorem qiz:qc1 X (.builtin "abs") (fun xs H Q=>∃ i,xs=[.int i]∧Q (.int (if i<0 then -i else i)) H):=by
  intro pins s σ H xs us Q I r h
  obtain ⟨i,rfl,q⟩:=h
  obtain ⟨u,rfl,t,rfl⟩:=qfW r
  exact call_abs_int fun u tk=>⟨.int (if i<0 then -i else i),H,I.tok _,⟨_,rfl⟩,q⟩
end
structure ObjM (h:Heap) (x dx C:Addr) (mA:Str→Option Value):Prop where
  obj:h.get? x=some (PySem.W.instObj C dx)
  ns:h.Ns1 dx mA
  ne:dx≠x
theorem qhJ {h:Heap} {dx:Addr} {mA:Str→Option Value} (n:h.Ns1 dx mA):∃ od,h.get? dx=some od∧∀ name,PySem.W.lookIn name od=some (mA name):=by
  obtain ⟨o,es,ep,ho,hd,hk,_,hm⟩:=n
  refine ⟨o,ho,fun name=>?_⟩
  have e:=hm name
  unfold nsFind findBy at e
  rw [← Array.find?_toList] at e
  unfold PySem.W.lookIn
  rw [hd]
  dsimp only
  split
  · rename_i y q
    rw [q] at e
    exact congrArg some e
  · rename_i q
    rw [q] at e
    have a:es.toList.any (·.refKey)=false:=by
      rw [List.any_eq_false]
      intro y hy
      obtain ⟨z,t,hkey⟩:=hk y (Array.mem_toList_iff.mp hy)
      simp [DictEntry.refKey,hkey]
    have a':¬ es.toList.any (·.refKey)=true:=by rw [a];exact Bool.false_ne_true
    rw [if_neg a']
    exact congrArg some e
theorem ObjM.look {h:Heap} {x dx C:Addr} {mA:Str→Option Value} (I:ObjM h x dx C mA):∃ od,PySem.W.InstAt h x (PySem.W.instObj C dx) C (some od)∧∀ name,PySem.W.lookIn name od=some (mA name) :=
  let ⟨od,ho,hl⟩:=qhJ I.ns
  ⟨od,⟨I.obj,rfl,rfl,ho⟩,hl⟩
section
variable {prog : Program} {w : World} {A : Around} {E : Value → Shared → Prop} {s : Shared} {K : PySem.W.Frag} {x dx C f : Addr} {mA : Str → Option Value} {name : Str} {v : Value}
theorem qkc {expr:Bool} {Q:Value→Shared→Prop} (X:K.In s.heap) (I:ObjM s.heap x dx C mA) (hg:PySem.W.plainGet K C name=true) (hh:PySem.W.hasDictIn K C=true)
    (ha:PySem.W.findIn K (.ref C) name=some none) (hv:mA name=some v) (hv':PySem.W.handedIn v=true) (h:Q v { s with toks:=s.toks+1 }) :
    wpAny (model prog w) A (getAttr (.ref x) name expr) Q E s:=by
  obtain ⟨od,J,hl⟩:=I.look
  exact PySem.W.get_value X J (PySem.W.plainGet_of hg).1 (PySem.W.findObj_own hh ha rfl (by rw [hl,hv])) hv' h
theorem qkI {ns:List Str} {Q:Unit→Shared→Prop} (X:K.In s.heap) (I:ObjM s.heap x dx C mA)
    (hs:PySem.W.findIn K (.ref C) "__setattr__"=some (some (.builtin "object.__setattr__"))) (hp:PySem.W.plainOver K C=true) (ht:PySem.W.takerIn K C name=some none) (hh:PySem.W.hasDictIn K C=true)
    (hw:PySem.Within mA ns) (hsz:ns.length≤sizeLine)
    (h:∀ h',ObjM h' x dx C (fun y=>if y=name then some v else mA y)→Heap.SameBut dx s.heap h'→Q () { s with heap:=h',toks:=s.toks+2 }) :
    wpAny (model prog w) A (setAttr (.ref x) name v) Q E s:=by
  obtain ⟨od,J,hl⟩:=I.look
  refine PySem.W.set_plain X J hs (PySem.W.osa_open (s:={ s with toks:=s.toks+1 }) (r:=none) X J hp ht fun b=>?_)
  obtain ⟨cd,hc,hd'⟩:=PySem.W.any_some hh
  have hx:s.heap.get? x=some ⟨.ref C,some dx,.plain,#[]⟩:=I.obj
  refine wpAny_bind (wpAny_pure (wpAny_bind (wpAny_bind (wpAny_loadPart hx (wpAny_bind (PySem.W.Looks.here (s:={ s with toks:=s.toks+1 }) (PySem.W.looks_clsIn X hc) ?_))))))
  rw [hd']
  refine wpAny_pure (a:=some dx) (wpAny_bind (wpAny_pure (wpAny_bind ?_)))
  refine wpAny_nsSet1 (s:={ s with toks:=s.toks+1 }) I.ns fun h' hn2 hs2=>?_
  obtain ⟨oD,esD,epD,hoD,hdD,hcD⟩:=hn2.count (PySem.Within.cons name v hw)
  refine wpAny_bind (wpAny_lookBehind hoD (by rw [hdD];exact pastItsLine_dict (Nat.le_trans hcD (by rw [List.length_cons];omega))) ?_)
  exact wpAny_pure (h _ ⟨(hs2.2 _ (Ne.symm I.ne)).trans I.obj,hn2,I.ne⟩ hs2)
theorem qiT {R:Result→Shared→Prop} {vs:List Value} {kw:List (Str × Value)} (X:K.In s.heap) (hm:PySem.W.makesIn K C=true)
    (hi:PySem.W.findIn K (.ref C) "__init__"=some (some (.ref f))) (hf:PySem.W.typeIn K (.ref f)=some (.type "function"))
    (h:codeAny (model prog w) (A.under (.builtin "type.__call__" ⟨.ref C::vs,kw⟩)) (.call (.ref f) ⟨.ref (s.heap.objs.size+1)::vs,kw⟩) (PySem.W.InitBack (s.heap.objs.size+1) R)
      { s with heap:=(s.heap.push PySem.W.emptyDict).push (PySem.W.instObj C s.heap.objs.size) }) :
    codeAny (model prog w) A (.call (.ref C) ⟨vs,kw⟩) R s:=by
  obtain ⟨hh,g,d,t,os⟩:=s
  exact PySem.W.make_core (PySem.W.makes_of X hm) (PySem.W.looks_findIn X hi) (fun self=>PySem.W.bind_fn X self hf) (.inl rfl) h
end
def qd9 (f:Str) (v:V):List (Str × V)→List (Str × V)
  | []=>[(f,v)]
  | (g,x)::r=>if g=f then (g,v)::r else (g,x)::qd9 f v r
theorem qdy (f g:Str) (v:V):∀ fs:List (Str × V),(qd9 f v fs).lookup g=if g=f then some v else fs.lookup g
  | []=>by
    show List.lookup g [(f,v)]=_
    by_cases h:g=f
    · have hb:(g == f)=true:=beq_iff_eq.mpr h
      simp only [List.lookup,hb,if_pos h]
    · have hb:(g == f)=false:=beq_eq_false_iff_ne.mpr h
      simp only [List.lookup,hb,if_neg h]
  | (k,x)::r=>by
    have ih:=qdy f g v r
    rw [show qd9 f v ((k,x)::r)=(if k=f then (k,v)::r else (k,x)::qd9 f v r) from rfl]
    by_cases hk:k=f
    · rw [if_pos hk]
      by_cases h:g=k
      · have hb:(g == k)=true:=beq_iff_eq.mpr h
        simp only [List.lookup,hb,if_pos (h.trans hk)]
      · have hb:(g == k)=false:=beq_eq_false_iff_ne.mpr h
        simp only [List.lookup,hb,if_neg (fun e:g=f=>h (e.trans hk.symm))]
    · rw [if_neg hk]
      by_cases h:g=k
      · have hb:(g == k)=true:=beq_iff_eq.mpr h
        simp only [List.lookup,hb,if_neg (fun e:g=f=>hk (h.symm.trans e))]
      · have hb:(g == k)=false:=beq_eq_false_iff_ne.mpr h
        simp only [List.lookup,hb]
        exact ih
theorem qdV (f:Str) (v:V):∀ fs:List (Str × V),f∈(qd9 f v fs).map (·.1)∧∀ g,g∈fs.map (·.1)→g∈(qd9 f v fs).map (·.1)
  | []=>⟨by simp [qd9],fun g h=>by simp at h⟩
  | (k,x)::r=>by
    obtain ⟨i1,i2⟩:=qdV f v r
    rw [show qd9 f v ((k,x)::r)=(if k=f then (k,v)::r else (k,x)::qd9 f v r) from rfl]
    by_cases hk:k=f
    · rw [if_pos hk]
      subst hk
      exact ⟨by simp,fun g h=>by simpa using h⟩
    · rw [if_neg hk]
      refine ⟨?_,fun g h=>?_⟩
      · rw [List.map_cons]
        exact List.mem_cons_of_mem _ i1
      · rw [List.map_cons] at h ⊢
        rcases List.mem_cons.mp h with e | e
        · exact List.mem_cons.mpr (.inl e)
        · exact List.mem_cons_of_mem _ (i2 g e)
theorem qdH (f:Str) (v:V):∀ fs:List (Str × V),(qd9 f v fs).length≤fs.length+1
  | []=>by simp [qd9]
  | (k,x)::r=>by
    have ih:=qdH f v r
    rw [show qd9 f v ((k,x)::r)=(if k=f then (k,v)::r else (k,x)::qd9 f v r) from rfl]
    by_cases hk:k=f
    · rw [if_pos hk,List.length_cons,List.length_cons];omega
    · rw [if_neg hk,List.length_cons,List.length_cons];omega
theorem RelO.some_of {v:V} {o:Option Value} (r:RelO (some v) o):∃ u,o=some u∧RelV v u:=by
  cases o with
  | none=>exact (show False from r).elim
  | some u=>exact ⟨u,rfl,r⟩
theorem qig {v:V} {u:Value} (r:RelV v u):PySem.W.handedIn u=true:=by
  cases v with
  | non=>cases (show u=Value.none from r);rfl
  | bl b=>cases (show u=Value.bool b from r);rfl
  | int i=>obtain ⟨t,e⟩:=(show ∃ t,u=Value.int i t from r);cases e;rfl
  | str x=>obtain ⟨t,e⟩:=(show ∃ t,u=Value.str x t from r);cases e;rfl
  | byt b=>obtain ⟨t,e⟩:=(show ∃ t,u=Value.bytes b t from r);cases e;rfl
  | flt b=>obtain ⟨t,e⟩:=(show ∃ t,u=Value.float b t from r);cases e;rfl
  | ref a=>cases (show u=Value.ref a from r);rfl
  | ty n=>cases (show u=Value.type n from r);rfl
section
variable {P : Program} {w : World} {H H' : Hp} {h h' : Heap} {a C dx : Addr} {fs fs' : List (Str × V)}
theorem qic (hok:HOk P w H h) (e:H a=some (.ins C dx fs)):∃ mA,ObjM h a dx C mA∧(∀ f,RelO (fs.lookup f) (mA f))∧PySem.Within mA (fs.map (·.1))∧fs.length≤1000∧H dx=some (.own a):=by
  obtain ⟨d,z,ne,ob,mA,n,r,q⟩:=(show ObjOk P w H h a (.ins C dx fs) from hok a _ e)
  exact ⟨mA,⟨ob,n,ne⟩,r,q,z,d⟩
end
structure Cls (K:PySem.W.Frag) (C:Addr):Prop where
  pg:PySem.W.plainGet K C Str.empty=true
  hd:PySem.W.hasDictIn K C=true
  po:PySem.W.plainOver K C=true
  sa:PySem.W.findIn K (.ref C) "__setattr__"=some (some (.builtin "object.__setattr__"))
theorem Cls.get {K:PySem.W.Frag} {C:Addr} (c:Cls K C) (f:Str):PySem.W.plainGet K C f=true:=c.pg
def NoAttr (K:PySem.W.Frag) (C:Addr) (f:Str):Prop:=PySem.W.findIn K (.ref C) f=some none
theorem NoAttr.taker {K:PySem.W.Frag} {C:Addr} {f:Str} (n:NoAttr K C f):PySem.W.takerIn K C f=some none:=by
  unfold PySem.W.takerIn
  rw [show PySem.W.findIn K (.ref C) f=some none from n]
  rfl
section
variable {X : Cx} {pins : List (Addr × Obj)} {σ : St} {H : Hp} {s : Shared} {a C dx : Addr} {fs : List (Str × V)} {f : Str} {v : V} {A : Around} {E : Value → Shared → Prop}
theorem qhc {b:Bool} {Q:Value→Shared→Prop} (I:Inv X pins σ H s) (e:H a=some (.ins C dx fs)) (c:Cls X.K C) (n:NoAttr X.K C f) (l:fs.lookup f=some v)
    (h:∀ u s',Inv X pins σ H s'→RelV v u→Q u s'):wpAny (model X.prog X.w) A (getAttr (.ref a) f b) Q E s:=by
  obtain ⟨mA,O,r,_,_,_⟩:=qic I.hok e
  obtain ⟨u,hu,ru⟩:=RelO.some_of (v:=v) (o:=mA f) (by rw [← l];exact r f)
  exact qkc I.kIn O (c.get f) c.hd n hu (qig ru) (h u _ (I.tok _) ru)
theorem qg6 {y:V} {u:Value} {Q:Unit→Shared→Prop} (I:Inv X pins σ H s) (e:H a=some (.ins C dx fs)) (c:Cls X.K C) (n:NoAttr X.K C f) (hl:fs.length<1000) (ry:RelV y u)
    (h:∀ s',Inv X pins σ (upd H a (.ins C dx (qd9 f y fs))) s'→Q () s'):wpAny (model X.prog X.w) A (setAttr (.ref a) f u) Q E s:=by
  obtain ⟨mA,O,r,wi,_,ho⟩:=qic I.hok e
  have hz:(fs.map (·.1)).length≤sizeLine:=by rw [List.length_map,sizeLine_eq];omega
  refine qkI I.kIn O c.sa c.po n.taker c.hd wi hz fun h' O' sb=>h _ ?_
  have hd:∃ o,h'.get? dx=some o:=let ⟨o,_,_,e',_⟩:=O'.ns;⟨o,e'⟩
  refine I.write (x:=a) (e:=dx) (by rw [e];exact True.intro) (.inr ho) (fun b q hb z=>(sb.2 b hb).trans z) hd ?_
  refine ⟨by rw [qax O.ne];exact ho,?_,O.ne,O'.obj,_,O'.ns,fun g=>?_,fun g hg=>?_⟩
  · have:=qdH f y fs;omega
  · show RelO ((qd9 f y fs).lookup g) (if g=f then some u else mA g)
    rw [qdy]
    by_cases q:g=f
    · rw [if_pos q,if_pos q];exact ry
    · rw [if_neg q,if_neg q];exact r g
  · by_cases q:g=f
    · rw [q];exact (qdV f y fs).1
    · refine (qdV f y fs).2 g (wi g fun z=>hg ?_)
      show (if g=f then some u else mA g)=none
      rw [if_neg q];exact z
theorem Inv.made (I:Inv X pins σ H s):Inv X pins σ (upd (upd H s.heap.objs.size (.own (s.heap.objs.size+1))) (s.heap.objs.size+1) (.ins C s.heap.objs.size []))
    { s with heap:=(s.heap.push PySem.W.emptyDict).push (PySem.W.instObj C s.heap.objs.size) }:=by
  have e1:(s.heap.push PySem.W.emptyDict).get? s.heap.objs.size=some PySem.W.emptyDict:=Heap.get?_push_size s.heap rfl
  have e2:((s.heap.push PySem.W.emptyDict).push (PySem.W.instObj C s.heap.objs.size)).get? (s.heap.objs.size+1)=some (PySem.W.instObj C s.heap.objs.size):=by
    have:=Heap.get?_push_size (s.heap.push PySem.W.emptyDict) (o:=PySem.W.instObj C s.heap.objs.size) rfl
    rwa [Heap.size_push] at this
  have e3:(s.heap.push PySem.W.emptyDict).Ns s.heap.objs.size (fun _=>none):=⟨PySem.W.emptyDict,#[],_,e1,rfl,(fun e he=>absurd he (by simp)),fun _=>rfl⟩
  have I1:=I.laid (a:=s.heap.objs.size) (o:=.own (s.heap.objs.size+1)) (h':=s.heap.push PySem.W.emptyDict) (t':=s.toks) (fun b u q=>Heap.get?_push_of_some _ q) (Nat.le_refl _) ⟨_,e1⟩
  refine I1.laid (a:=s.heap.objs.size+1) (o:=.ins C s.heap.objs.size []) (t':=s.toks) (fun b u q=>Heap.get?_push_of_some _ q) (Nat.le_of_eq (Heap.size_push _ _)) ?_
  have ne:s.heap.objs.size≠s.heap.objs.size+1:=Nat.ne_of_lt (Nat.lt_succ_self _)
  refine ⟨by rw [qax ne,qan],Nat.zero_le _,ne,e2,fun _=>none,(Heap.Ns1.of_empty e3).at fun o q=>Heap.get?_push_of_some _ q,fun _=>True.intro,fun y hy=>absurd rfl hy⟩
theorem qkP {prog:Program} {w:World} {env:Env} {e:Expr} {f:Str} {pos:Pos} {s:Shared} {Q:Value→Shared→Prop} (hb:attributeBase e f env (eval e env)=eval e env)
    (h:wpAny (model prog w) A (eval e env) (fun o s₁=>wpAny (model prog w) A (getAttr o f true) Q E s₁) E s):wpAny (model prog w) A (eval (.Attribute e f pos) env) Q E s :=
  Attribute_any_ h (by rw [arm_eval_Attribute,hb])
end
def qnN (K:PySem.W.Frag) (ta:TE) (f:Str):TE:=fun σ H Q=>ta σ H fun x H1=>∃ a C dx fs v,x=.ref a∧H1 a=some (.ins C dx fs)∧Cls K C∧NoAttr K C f∧fs.lookup f=some v∧Q v H1
def qn4 (K:PySem.W.Frag) (ta tv:TE) (f:Str):TS:=fun D σ H=>tv σ H fun y H1=>ta σ H1 fun x H2=>∃ a C dx fs,x=.ref a∧H2 a=some (.ins C dx fs)∧Cls K C∧NoAttr K C f∧fs.length<1000 ∧
  D.nx σ (upd H2 a (.ins C dx (qd9 f y fs)))
section
variable {X : Cx} {o e value : Expr} {f : Str} {pos pos' tpos : Pos} {ta tv : TE}
theorem qlD (he:PE X e ta) (hb:attributeBase e f X.env (eval e X.env)=eval e X.env):PE X (.Attribute e f pos) (qnN X.K ta f):=by
  intro pins s σ H Q I h
  refine qkP hb (thn (he pins s σ H _ I h) fun u s1 hq0=>?_)
  obtain ⟨x,H1,I1,rx,a,C,dx,fs,v,ex,ea,c,n,l,q⟩:=hq0
  subst ex
  obtain rfl:u=Value.ref a:=rx
  exact qhc I1 ea c n l fun u' s2 I2 ru=>⟨v,H1,I2,ru,q⟩
theorem qgm (ha:PE X o ta) (hv:PE X value tv) (hs:swapsWith value (some (.Attribute o f pos')) pos.line X.env=pure false):PS X (.Assign [.Attribute o f pos'] value pos) (qn4 X.K ta tv f):=by
  intro pins s σ H D I h
  refine plainObj_wpAny_Assign_Attribute (thn (hv pins s σ H _ I h) fun u s1 ⟨y,H1,I1,ry,q⟩=>thn (ha pins s1 σ H1 _ I1 q) fun ov s2 ⟨x,H2,I2,rx,a,C,dx,fs,ex,ea,c,n,l,q2⟩=>?_) hs
  subst ex
  obtain rfl:ov=Value.ref a:=rx
  exact qg6 I2 ea c n l ry fun s3 I3=>⟨σ,_,I3,q2⟩
end
section
variable {X : Cx} {pins : List (Addr × Obj)} {σ : St} {H : Hp} {s : Shared} {A : Around} {E : Value → Shared → Prop} {Q : Value → Shared → Prop} {c : Value} {b : Bool}
inductive TyOf (K:PySem.W.Frag) (H:Hp):V→Value→Prop where
  | non:TyOf K H .non (.type "NoneType")
  | bl (x:Bool):TyOf K H (.bl x) (.type "bool")
  | int (i:Int):TyOf K H (.int i) (.type "int")
  | str (x:Str):TyOf K H (.str x) (.type "str")
  | flt (x:UInt64):TyOf K H (.flt x) (.type "float")
  | lst {a:Addr} {xs:List V} (e:H a=some (.lst xs)):TyOf K H (.ref a) (.type "list")
  | frz {a:Addr} {o:Obj} {xs:List V} (e:H a=some (.frz o (.lst xs))):TyOf K H (.ref a) (.type "list")
  | tup {a:Addr} {xs:List V} (e:H a=some (.tup xs)):TyOf K H (.ref a) (.type "tuple")
  | dK {a:Addr} {kvs:List (Key × V)} (e:H a=some (.dK kvs)):TyOf K H (.ref a) (.type "dict")
  | dT {a:Addr} {kvs:List (List Key × V)} (e:H a=some (.dT kvs)):TyOf K H (.ref a) (.type "dict")
  | ins {a C dx:Addr} {fs:List (Str × V)} (e:H a=some (.ins C dx fs)) (cl:Cls K C) (ha:PySem.W.findIn K (.ref C) "__class__"=some (some (.builtin "object.__class__")))
      (hn:PySem.W.specialIn K (.builtin "object.__class__") "__get__"=some (some (.builtin "getset_descriptor.__get__"))) (htk:PySem.W.takesIn K (.builtin "object.__class__")=some true)
      (hm:PySem.W.mroIn K C (.type "object")=some true):TyOf K H (.ref a) (.ref C)
end
structure Room (k:Nat) (A:Around):Prop where
  hd:A.handled=none
  dp:A.depth+3*k+5<recursionLimit
  un:A.units+16*k+200<cLine
theorem Room.mono {j k:Nat} {A:Around} (r:Room k A) (h:j≤k):Room j A:=⟨r.hd,by have:=r.dp;omega,by have:=r.un;omega⟩
theorem Room.deeper {k:Nat} {A:Around} (r:Room (k+1) A) (env:Env):Room k (A.deeper env) :=
  ⟨r.hd,by have:=r.dp;show A.depth+1+3*k+5<_;omega,by have:=r.un;show A.units+3+16*k+200<_;omega⟩
theorem qg8 {A:Around} {C:Addr} {us:List Value} {kw:List (Str × Value)}:(A.under (.builtin "type.__call__" ⟨.ref C::us,kw⟩)).depth=A.depth+1:=by
  first | rfl | simp [Around.under,Code.weight,Code.isCreation,Code.isGuard,Code.isCaller,Code.frames,Code.isFrame,guardIds]
theorem qgW {A:Around} {C:Addr} {us:List Value} {kw:List (Str × Value)}:(A.under (.builtin "type.__call__" ⟨.ref C::us,kw⟩)).units=A.units+1:=by
  first | rfl | simp [Around.under,Code.cUnits,Code.frames,Code.isFrame]
theorem Room.make {k:Nat} {A:Around} (r:Room (k+1) A) (C:Addr) (us:List Value) (kw:List (Str × Value)):Room k (A.under (.builtin "type.__call__" ⟨.ref C::us,kw⟩)) :=
  ⟨r.hd,by have:=r.dp;rw [qg8];omega,by have:=r.un;rw [qgW];omega⟩
theorem Room.depth {k:Nat} {A:Around} (r:Room k A):A.depth<recursionLimit:=by have:=r.dp;omega
theorem Room.units {k:Nat} {A:Around} (r:Room k A):A.units+64<cLine:=by have:=r.un;omega
def qon:TA:=fun _ H Q=>Q [] H
def qm6 (ta:TE) (tr:TA):TA:=fun σ H Q=>ta σ H fun x H1=>tr σ H1 fun xs H2=>Q (x::xs) H2
section
variable {X : Cx} {e : Expr} {es : List Expr} {te : TE} {t : TA} {pos : Pos}
theorem pa_nil:PA X [] qon:=fun _ _ _ _ H Q I h=>Calls.spliced_nil ⟨[],H,I,.nil,h⟩
theorem qb7 (ha:PE X e te) (hr:PA X es t) (hs:starEach (e::es) X.env=(false,eval e X.env)::starEach es X.env:=by rfl):PA X (e::es) (qm6 te t):=by
  intro pos pins s σ H Q I h
  rw [hs]
  show wpAny _ _ (spliced ((false,eval e X.env)::backTo pos (starEach es X.env))) _ _ s
  refine Calls.spliced_cons (thn (ha pins s σ H _ I h) fun u s1 hq0=>?_)
  obtain ⟨x,H1,I1,r1,q1⟩:=hq0
  exact thn (hr pos pins s1 σ H1 _ I1 q1) fun us s2 hq1=>by obtain ⟨xs,H2,I2,r2,q2⟩:=hq1;exact ⟨x::xs,H2,I2,.cons r1 r2,q2⟩
def qoC (t:TA):TE:=fun σ H Q=>t σ H fun xs H1=>xs.length≤sizeLine∧∀ p,H1 p=none→Q (.ref p) (upd H1 p (.tup xs))
def qoL (t:TA):TE:=fun σ H Q=>t σ H fun xs H1=>xs.length≤sizeLine∧∀ p,H1 p=none→Q (.ref p) (upd H1 p (.lst xs))
theorem qlA {x1} (h:PA X es t):PE X (.Tuple es x1 pos) (qoC t):=by
  intro pins s σ H Q I hq
  refine wpAny_Tuple_spliced (thn (h pos pins s σ H _ I hq) fun us s1 ⟨xs,H1,I1,r,z,q⟩=>⟨by rw [← r.length];exact z,?_⟩)
  have hf:H1 s1.heap.objs.size=none:=I1.hok.fresh (Nat.le_refl _)
  refine ⟨.ref s1.heap.objs.size,upd H1 s1.heap.objs.size (.tup xs),I1.laid (t':=s1.toks) (fun b u e=>Heap.get?_push_of_some _ e) (Nat.le_refl _) ?_,rfl,q _ hf⟩
  exact ⟨z,us,r,⟨_,Heap.get?_push_size _ rfl,rfl,_,rfl⟩⟩
theorem qlJ (h:PA X es t):PE X (.List es pos) (qoL t):=by
  intro pins s σ H Q I hq
  refine wpAny_List_spliced (thn (h pos pins s σ H _ I hq) fun us s1 ⟨xs,H1,I1,r,z,q⟩=>⟨by rw [← r.length];exact z,?_⟩)
  have hf:H1 s1.heap.objs.size=none:=I1.hok.fresh (Nat.le_refl _)
  refine ⟨.ref s1.heap.objs.size,upd H1 s1.heap.objs.size (.lst xs),I1.laid (t':=s1.toks) (fun b u e=>Heap.get?_push_of_some _ e) (Nat.le_refl _) ?_,rfl,q _ hf⟩
  exact ⟨z,us,0,r,Heap.get?_push_size _ rfl⟩
end
abbrev Sp:=List V→Hp→VK→XK→Prop
abbrev CXT:=List Env→Hp→Shared→XK→Value→Shared→Prop
structure Env0 (P:Program) (w:World) (K:PySem.W.Frag) (mg:Str→Option Value) (base:Heap) (A:Around) (outer:List Env) (s:Shared) (H:Hp):Prop where
  frames:A.frames=some outer
  mod:Mod K mg base
  bs:∀ b o,base.get? b=some o→s.heap.get? b=some o∧H b=none
  bsz:base.objs.size≤s.heap.objs.size
  funs:s.heap.FunFrames base outer
  frf:∀ b∈frs outer,H b=none
  hok:HOk P w H s.heap
  bare:AllBare s.gens
def CE (outer:List Env) (P:Program) (w:World) (H:Hp) (s:Shared) (Q:VK) (u:Value) (s':Shared):Prop :=
  ∃ v H',s'.os=s.os∧AllBare s'.gens∧Un (frs outer) [] H H' s.heap s'.heap∧HOk P w H' s'.heap∧RelV v u∧Q v H'
def CR (CX:CXT) (outer:List Env) (P:Program) (w:World) (H:Hp) (s:Shared) (Q:VK) (E:XK) (r:Result) (s':Shared):Prop :=
  match r with
  | .ok (.ret u)=>CE outer P w H s Q u s'
  | .ok _=>False
  | .error e=>CX outer H s E e s'
structure FnOk (P:Program) (w:World) (K:PySem.W.Frag) (mg:Str→Option Value) (base:Heap) (CX:CXT) (k:Nat) (f:Addr) (fd:FuncData) (ps:List Str) (sp:Sp):Prop where
  len:∀ vs H Q E,sp vs H Q E→vs.length=ps.length
  run:∀ (A:Around) (outer:List Env) (s:Shared) (H:Hp) (args:Args) (us:List Value) (vs:List V) (Q:VK) (E:XK),Room k A→Env0 P w K mg base A outer s H→BindsTo s fd args (ps.zip us)→Vals vs us→sp vs H Q E →
    codeAny (model P w) A (.call (.ref f) args) (CR CX outer P w H s Q E) s
theorem FnOk.mono {P:Program} {w:World} {K:PySem.W.Frag} {mg:Str→Option Value} {base:Heap} {CX:CXT} {j k:Nat} {f:Addr} {fd:FuncData} {ps:List Str} {sp:Sp} (F:FnOk P w K mg base CX j f fd ps sp) (h:j≤k) :
    FnOk P w K mg base CX k f fd ps sp:=⟨F.len,fun A outer s H args us vs Q E hr=>F.run A outer s H args us vs Q E (hr.mono h)⟩
theorem FnOk.imp {P:Program} {w:World} {K:PySem.W.Frag} {mg:Str→Option Value} {base:Heap} {CX:CXT} {k:Nat} {f:Addr} {fd:FuncData} {ps:List Str} {sp sp':Sp} (F:FnOk P w K mg base CX k f fd ps sp)
    (h:∀ vs H Q E,sp' vs H Q E→sp vs H Q E):FnOk P w K mg base CX k f fd ps sp' :=
  ⟨fun vs H Q E q=>F.len vs H Q E (h _ _ _ _ q),fun A outer s H args us vs Q E hr he hb hv hs=>F.run A outer s H args us vs Q E hr he hb hv (h _ _ _ _ hs)⟩
theorem Env0.make {P:Program} {w:World} {K:PySem.W.Frag} {mg:Str→Option Value} {base:Heap} {A:Around} {outer:List Env} {s:Shared} {H:Hp} (e:Env0 P w K mg base A outer s H) (C:Addr) (us:List Value) (kw:List (Str × Value)) :
    Env0 P w K mg base (A.under (.builtin "type.__call__" ⟨.ref C::us,kw⟩)) outer s H:=⟨by first | exact e.frames | (simpa [Around.under,Code.envs,Code.isFrame,pushEnvs] using e.frames),e.mod,e.bs,e.bsz,e.funs,e.frf,e.hok,e.bare⟩
section
variable {X : Cx} {pins : List (Addr × Obj)} {σ : St} {H : Hp} {s s' : Shared}
theorem Inv.env0 (I:Inv X pins σ H s):Env0 X.prog X.w X.K X.mg X.base X.A X.stack s H :=
  ⟨I.ok.frames,I.ok.mod,I.bs,Nat.le_trans I.ok.bsz I.sz,I.stack,I.stkFree,I.hok,I.bare⟩
theorem Inv.after {Q:VK} {u:Value} (I:Inv X pins σ H s) (h:CE X.stack X.prog X.w H s Q u s'):EP X pins σ Q u s':=by
  obtain ⟨v,H',os,bare,un,hok,r,q⟩:=h
  obtain ⟨hh,g,d,t,os'⟩:=s'
  obtain rfl:os'=s.os:=os
  exact ⟨v,H',I.call (h':=hh) (g':=g) (d':=d) (t':=t) (ch:=[]) un hok bare (fun b z=>absurd z (by simp)),r,q⟩
end
def qm4 (sp:Sp) (dvs:List V) (E:XK) (t:TA):TE:=fun σ H Q=>t σ H fun vs H1=>sp (vs++dvs) H1 Q E
def qm8 (C:Addr) (sp:Sp) (dvs:List V) (E:XK) (t:TA):TE:=fun σ H Q=>t σ H fun vs H1=>∀ x dx,H1 x=none→H1 dx=none→dx≠x →
  sp (.ref x::(vs++dvs)) (upd (upd H1 dx (.own x)) x (.ins C dx [])) (fun v H2=>v=.non∧Q (.ref x) H2) E
def Binds (K:PySem.W.Frag) (fd:FuncData) (ps:List Str) (ds:List Value):Prop :=
  ∀ (s:Shared) (us:List Value),K.In s.heap→(us++ds).length=ps.length→BindsTo s fd ⟨us,[]⟩ (ps.zip (us++ds))
theorem Binds.all {K:PySem.W.Frag} {fd:FuncData} {ps:List Str} (h:∀ us:List Value,us.length=ps.length→bindArgs fd ⟨us,[]⟩=pure (ps.zip us)):Binds K fd ps []:=fun s us _ hl=>by
  rw [List.append_nil] at hl ⊢
  exact .of_eq (h us hl)
def qdY (CX:CXT) (X:Cx) (E:XK):Prop:=∀ (pins:List (Addr × Obj)) (σ:St) (H:Hp) (s:Shared) (e:Value) (s':Shared),Inv X pins σ H s→CX X.stack H s E e s'→X.xe e s'
section
variable {X : Cx} {CX : CXT} {k : Nat} {f C : Addr} {fd : FuncData} {ps : List Str} {sp : Sp} {dvs : List V} {ds : List Value} {E : XK} {x m : Str} {p pos apos : Pos} {e o : Expr} {es : List Expr} {ta : TE} {t : TA}
theorem qlQ {pins:List (Addr × Obj)} {σ:St} {H:Hp} {s:Shared} {Q:VK} {us:List Value} {vs:List V} (F:FnOk X.prog X.w X.K X.mg X.base CX k f fd ps sp) (hr:Room k X.A) (hb:Binds X.K fd ps ds) (hd:Vals dvs ds) (hx:qdY CX X E)
    (I:Inv X pins σ H s) (r:Vals vs us) (h:sp (vs++dvs) H Q E):wpAny (model X.prog X.w) X.A (call (.ref f) us) (EP X pins σ Q) X.xe s:=by
  have r2:Vals (vs++dvs) (us++ds):=r.append hd
  have hl:(us++ds).length=ps.length:=by rw [← r2.length];exact F.len _ _ _ _ h
  refine wpAny_call (codeAny_mono (F.run X.A X.stack s H ⟨us,[]⟩ (us++ds) (vs++dvs) Q E hr I.env0 (hb s us I.kIn hl) r2 h) fun r s' hq=>?_)
  cases r with
  | error e=>exact hx pins σ H s e s' I hq
  | ok fl =>
    cases fl with
    | ret u=>exact I.after hq
    | next=>exact False.elim hq
    | brk=>exact False.elim hq
    | cont=>exact False.elim hq
theorem qkr (F:FnOk X.prog X.w X.K X.mg X.base CX k f fd ps sp) (hr:Room k X.A) (hg:Gl X x) (hm:X.mg x=some (.ref f)) (hk:PySem.W.keepIn X.K (.ref f)=true) (hb:Binds X.K fd ps ds) (hd:Vals dvs ds) (hx:qdY CX X E)
    (ha:PA X (e::es) t) (hdb:(x == ("__debug__":Str))=false:=by decide) (he:starEach (e::es) X.env=(false,eval e X.env)::starEach es X.env:=by rfl) (hpl:(backTo pos (starEach es X.env)).any (·.1)=false:=by rfl) :
    PE X (.Call (.Name x p) (e::es) [] pos) (qm4 sp dvs E t):=by
  intro pins s σ H Q I h
  refine wpAny_Call_Name_kw (qh1 I hg hm ?_ hdb)
  refine PySem.W.callWith_K (h₀:=X.base) I.ok.mod.kin hk (thn (ha pos pins s σ H _ I h) fun us s1 ⟨vs,H1,I1,r,q⟩=>⟨I1.kIn,?_⟩) he hpl
  exact qlQ F hr hb hd hx I1 r q
structure Mk (K:PySem.W.Frag) (C f:Addr):Prop where
  makes:PySem.W.makesIn K C=true
  init:PySem.W.findIn K (.ref C) "__init__"=some (some (.ref f))
  fn:PySem.W.isFn K (.ref f)=true
  kp:PySem.W.keepIn K (.ref C)=true
theorem qjm {pins:List (Addr × Obj)} {σ:St} {H:Hp} {s:Shared} {Q:VK} {us:List Value} {vs:List V} (M:Mk X.K C f) (F:FnOk X.prog X.w X.K X.mg X.base CX k f fd ps sp) (hr:Room (k+1) X.A) (hb:Binds X.K fd ps ds) (hd:Vals dvs ds)
    (hx:qdY CX X E) (I:Inv X pins σ H s) (r:Vals vs us)
    (h:∀ x dx,H x=none→H dx=none→dx≠x→sp (.ref x::(vs++dvs)) (upd (upd H dx (.own x)) x (.ins C dx [])) (fun v H2=>v=.non∧Q (.ref x) H2) E) :
    wpAny (model X.prog X.w) X.A (call (.ref C) us) (EP X pins σ Q) X.xe s:=by
  have hq:=h (s.heap.objs.size+1) s.heap.objs.size (I.hok.fresh (Nat.le_succ _)) (I.hok.fresh (Nat.le_refl _)) (Nat.ne_of_lt (Nat.lt_succ_self _))
  have I2:=Inv.made (C:=C) I
  have r2:Vals (V.ref (s.heap.objs.size+1)::(vs++dvs)) (Value.ref (s.heap.objs.size+1)::(us++ds)):=.cons rfl (r.append hd)
  have hl:(Value.ref (s.heap.objs.size+1)::us++ds).length=ps.length:=by
    have e:=r2.length
    rw [F.len _ _ _ _ hq] at e
    exact e.symm
  refine wpAny_call (qiT (f:=f) I.kIn M.makes M.init (beq_iff_eq.mp M.fn) (codeAny_mono (F.run _ X.stack _ _ ⟨Value.ref (s.heap.objs.size+1)::us,[]⟩ (Value.ref (s.heap.objs.size+1)::(us++ds)) _ _ E (hr.make C us [])
    (I2.env0.make C us []) (hb _ (Value.ref (s.heap.objs.size+1)::us) I2.kIn hl) r2 hq) fun r s' hq'=>?_))
  cases r with
  | error e=>exact hx pins σ _ _ e s' I2 hq'
  | ok fl =>
    cases fl with
    | ret u =>
      obtain ⟨v,H',I3,rv,ev,q3⟩:=I2.after hq'
      subst ev
      exact ⟨rv,⟨V.ref (s.heap.objs.size+1),H',I3,rfl,q3⟩⟩
    | next=>exact False.elim hq'
    | brk=>exact False.elim hq'
    | cont=>exact False.elim hq'
theorem qkw (M:Mk X.K C f) (F:FnOk X.prog X.w X.K X.mg X.base CX k f fd ps sp) (hr:Room (k+1) X.A) (hg:Gl X x) (hm:X.mg x=some (.ref C)) (hb:Binds X.K fd ps ds) (hd:Vals dvs ds) (hx:qdY CX X E)
    (ha:PA X (e::es) t) (hdb:(x == ("__debug__":Str))=false:=by decide) (he:starEach (e::es) X.env=(false,eval e X.env)::starEach es X.env:=by rfl) (hpl:(backTo pos (starEach es X.env)).any (·.1)=false:=by rfl) :
    PE X (.Call (.Name x p) (e::es) [] pos) (qm8 C sp dvs E t):=by
  intro pins s σ H Q I h
  refine wpAny_Call_Name_kw (qh1 I hg hm ?_ hdb)
  refine PySem.W.callWith_K (h₀:=X.base) I.ok.mod.kin M.kp (thn (ha pos pins s σ H _ I h) fun us s1 ⟨vs,H1,I1,r,q⟩=>⟨I1.kIn,?_⟩) he hpl
  exact qjm M F hr hb hd hx I1 r q
end
section
variable {X : Cx} {CX : CXT} {k : Nat} {f C : Addr} {fd : FuncData} {ps ks : List Str} {sp : Sp} {E : XK} {x m : Str} {p pos apos kpos : Pos} {e o : Expr} {es : List Expr} {kws : List Keyword} {te ta : TE} {t tk : TA} {nm : Option Str}
variable {g : List Value → List Value → List Value} {gV : List V → List V → List V}
end
structure FnScope (N P:List Str) (sc:Scope):Prop where
  kind:sc.kind=.function
  co:sc.isCoroutine=false
  gen:sc.isGenerator=false
  nd:N.Nodup
  pre:N.take P.length=P
  par:∀ x∈P,sc.names.lookup x=some .local∨sc.names.lookup x=some .cell
  nofree:∀ y∈sc.names,y.2≠.free
theorem qfm {kindOf:Str→Option NameKind} {x:Str}:∀ {binds:List (Str × Value)} {m:Str→Option Value},(∀ v,(x,v)∉binds)→bindL kindOf binds m x=m x
  | [],_,_=>rfl
  | (n,v)::r,m,h=>by
    unfold bindL
    rw [qfm fun w hw=>h w (List.mem_cons_of_mem _ hw)]
    split
    · have:x≠n:=by rintro rfl;exact h v List.mem_cons_self
      simp [this]
    · rfl
theorem qfF {kindOf:Str→Option NameKind} {x:Str}:∀ {binds:List (Str × Value)} {m:Str→Option Value},(∀ v,(x,v)∉binds)→bindC kindOf binds m x=m x
  | [],_,_=>rfl
  | (n,v)::r,m,h=>by
    unfold bindC
    rw [qfF fun w hw=>h w (List.mem_cons_of_mem _ hw)]
    split
    · rfl
    · have:x≠n:=by rintro rfl;exact h v List.mem_cons_self
      simp [this]
theorem qe2 {kindOf:Str→Option NameKind} {x:Str} {v:Value}:∀ {P:List Str} {vs:List Value} {i:Nat} {m:Str→Option Value},P.Nodup→P[i]?=some x→vs[i]?=some v→kindOf x=some .local →
    bindL kindOf (P.zip vs) m x=some v
  | [],_,_,_,_,h,_,_=>by simp at h
  | _::_,[],_,_,_,_,h,_=>by simp at h
  | p::P,w::vs,0,m,nd,h1,h2,hk=>by
    simp at h1 h2;subst h1;subst h2
    show bindL kindOf ((p,w)::P.zip vs) m p=_
    unfold bindL
    rw [qfm fun v hv=>(List.nodup_cons.mp nd).1 (List.of_mem_zip hv).1,if_pos hk]
    simp
  | p::P,w::vs,i+1,m,nd,h1,h2,hk=>by
    show bindL kindOf ((p,w)::P.zip vs) m x=_
    unfold bindL
    exact qe2 (i:=i) (List.nodup_cons.mp nd).2 (by simpa using h1) (by simpa using h2) hk
theorem qe6 {kindOf:Str→Option NameKind} {x:Str} {v:Value}:∀ {P:List Str} {vs:List Value} {i:Nat} {m:Str→Option Value},P.Nodup→P[i]?=some x→vs[i]?=some v→kindOf x≠some .local →
    bindC kindOf (P.zip vs) m x=some v
  | [],_,_,_,_,h,_,_=>by simp at h
  | _::_,[],_,_,_,_,h,_=>by simp at h
  | p::P,w::vs,0,m,nd,h1,h2,hk=>by
    simp at h1 h2;subst h1;subst h2
    show bindC kindOf ((p,w)::P.zip vs) m p=_
    unfold bindC
    rw [qfF fun v hv=>(List.nodup_cons.mp nd).1 (List.of_mem_zip hv).1,if_neg hk]
    simp
  | p::P,w::vs,i+1,m,nd,h1,h2,hk=>by
    show bindC kindOf ((p,w)::P.zip vs) m x=_
    unfold bindC
    exact qe6 (i:=i) (List.nodup_cons.mp nd).2 (by simpa using h1) (by simpa using h2) hk
def start (N:List Str) (vs:List V):St:=vs.map some++List.replicate (N.length - vs.length) none
def qjr (CX:CXT) (P:Program) (w:World) (K:PySem.W.Frag) (mg:Str→Option Value) (base:Heap) (N:List Str) (qual:Str) (scope:Scope) (f:Addr) (cd:Value) (A:Around) (outer:List Env) (s:Shared) (H:Hp) (E:XK):Cx where
  prog:=P
  w:=w
  K:=K
  mg:=mg
  base:=base
  A:=A.deeper (envOfC qual scope s.heap.objs.size f cd)
  N:=N
  s₀:=s
  H₀:=H
  env:=envOfC qual scope s.heap.objs.size f cd
  outer:=outer
  stack:=envOfC qual scope s.heap.objs.size f cd::outer
  ex:=[]
  calm:=true
  fn:=fun _=>true
  pn:=[]
  xe:=fun e s'=>wpAny (model P w) (A.deeper (envOfC qual scope s.heap.objs.size f cd)) (leaving (envOfC qual scope s.heap.objs.size f cd) e) (fun _ s''=>CX outer H s E e s'') (fun e' s''=>CX outer H s E e' s'') s'
theorem qeI {sc:Scope} {n:Nat} {x:Str} (h:sc.names.lookup x=some .cell):∃ c,(cellsFrom n sc.names []).lookup x=some c:=by
  have q:=PySem.W.cellsFrom_some sc.names n [] (.inl h)
  exact Option.isSome_iff_exists.mp q
theorem qh2 {CX:CXT} {P:Program} {w:World} {K:PySem.W.Frag} {mg:Str→Option Value} {base:Heap} {N ps:List Str} {qual:Str} {scope:Scope} {f:Addr} {cd:Value} {A:Around} {outer:List Env} {s s1:Shared} {H:Hp} {E:XK} {us:List Value} {vs:List V}
    (S:FnScope N ps scope) (hd:A.handled=none) (e0:Env0 P w K mg base A outer s H) (hl:vs.length=ps.length) (r:Vals vs us)
    (x:InCallC s s.heap.objs.size (bindL (envOfC qual scope s.heap.objs.size f cd).kindOf (ps.zip us) fun _=>none) (cellsFrom (s.heap.objs.size+1) scope.names []) (bindC (envOfC qual scope s.heap.objs.size f cd).kindOf (ps.zip us) fun _=>none) s1) :
    Inv (qjr CX P w K mg base N qual scope f cd A outer s H E) [] (start N vs) H s1:=by
  have hpl:ps.length≤N.length:=by have:=congrArg List.length S.pre;rw [List.length_take] at this;omega
  obtain ⟨h1,tk,rfl,hk⟩:=x.done
  have noA:∀ b:Addr,b∉(qjr CX P w K mg base N qual scope f cd A outer s H E).ex:=fun b z=>absurd (show b∈([]:List Addr) from z) (by simp)
  refine ⟨⟨e0.mod,S.kind,rfl,rfl,Nat.le_refl _,fun y z c h1 h2=>?_,fun y hy=>?_,fun y c _ h=>?_,fun _=>hd,Around.frames_deeper e0.frames,.inr ⟨rfl,rfl⟩,fun b z=>absurd z (noA b),e0.bs,e0.bsz,fun b _ _=>noA b,fun b z=>absurd z (noA b),e0.funs,e0.frf⟩,
    rfl,e0.bare,Un.kept hk,⟨_,x.toInCall.ns,fun i y v h1 h2 h3=>?_⟩,fun y c h=>⟨_,x.cell y c h⟩,e0.hok.fresh (Nat.le_refl _),fun y c h=>?_,fun p hp=>absurd (show p∈([]:List (Addr × Obj)) from hp) (by simp),e0.hok.kept hk,?_⟩
  · exact name_of_addr x.apart (PySem.mem_of_lookup h1) (PySem.mem_of_lookup h2)
  · have hy:scope.names.lookup y=some .cell∨scope.names.lookup y=some .free:=hy
    rcases hy with hy | hy
    · exact qeI hy
    · exact absurd rfl (S.nofree _ (PySem.mem_of_lookup hy))
  · exact Nat.le_of_lt (x.above y c (PySem.mem_of_lookup h))
  · have hi:i<vs.length:=by
      unfold start at h2
      by_cases hi:i<vs.length
      · exact hi
      · rw [List.getElem?_append_right (by simpa using hi)] at h2
        rw [List.getElem?_replicate] at h2
        split at h2 <;> cases h2
    have ha:vs[i]?=some v:=by
      unfold start at h2
      rw [List.getElem?_append_left (by simpa using hi),List.getElem?_map] at h2
      cases e:vs[i]? with
      | none=>rw [e] at h2;cases h2
      | some a=>rw [e] at h2;cases h2;rfl
    obtain ⟨u,hu,rv⟩:=r.get ha
    have hp:ps[i]?=some y:=by
      rw [← S.pre,List.getElem?_take_of_lt (by omega)];exact h1
    have ndP:ps.Nodup:=by rw [← S.pre];exact S.nd.sublist (List.take_sublist _ _)
    refine ⟨u,rv,?_⟩
    rcases S.par y (List.mem_of_getElem? hp) with k | k
    · exact .inl ⟨k,qe2 ndP hp hu k⟩
    · obtain ⟨c,e⟩:=qeI (n:=s.heap.objs.size+1) k
      refine .inr ⟨.inl k,c,e,?_⟩
      have q:=x.cell y c e
      rw [qe6 ndP hp hu (by show scope.names.lookup y≠_;rw [k];decide)] at q
      exact q
  · exact e0.hok.fresh (Nat.le_of_lt (x.above y c (PySem.mem_of_lookup h)))
  · unfold start
    show _=N.length
    rw [List.length_append,List.length_map,List.length_replicate]
    omega
theorem qmC {CX:CXT} {P:Program} {w:World} {K:PySem.W.Frag} {mg:Str→Option Value} {base:Heap} {k:Nat} {f:Addr} {name qual:Str} {params:Arguments} {body:List Stmt} {scope:Scope} {dV kV doc pm cdv ct oc:Value} {an od:Option Addr}
    {osl:Array (Option Value)} {N ps:List Str} {sp:Sp} (lk:K.lookup f=some ⟨oc,od,.func (PySem.W.fnOf name qual params body scope dV kV doc pm an cdv ct),osl⟩) (hcd:PySem.W.codeIn K cdv qual=true) (S:FnScope N ps scope)
    (len:∀ vs H Q E,sp vs H Q E→vs.length=ps.length)
    (hbody:∀ (A:Around) (outer:List Env) (s:Shared) (H:Hp) (vs:List V) (Q:VK) (E:XK),Room k (A.deeper (envOfC qual scope s.heap.objs.size f cdv))→sp vs H Q E →
      ∃ t,PSs (qjr CX P w K mg base N qual scope f cdv A outer s H E) body t∧t { nx:=fun _ H'=>Q .non H',rt:=Q } (start N vs) H) :
    FnOk P w K mg base CX (k+1) f (PySem.W.fnOf name qual params body scope dV kV doc pm an cdv ct) ps sp:=by
  refine ⟨len,fun A outer s H args us vs Q E hr e0 hb r hsp=>?_⟩
  have hl:=len _ _ _ _ hsp
  have KX:K.In s.heap:=e0.mod.kin.keeps fun b o e=>(e0.bs b o e).1
  have lim:s.heap.NoLimit:=e0.mod.nolimit.keeps fun b o e=>(e0.bs b o e).1
  have hkind:∀ y∈ps.zip us,scope.names.lookup y.1=some .local∨(scope.names.lookup y.1=some .cell∧((cellsFrom (s.heap.objs.size+1) scope.names []).lookup y.1).isSome=true):=fun hq0 hy=>by
    obtain ⟨n,v⟩:=hq0
    rcases S.par n (List.of_mem_zip hy).1 with q | q
    · exact .inl q
    · exact .inr ⟨q,PySem.W.cellsFrom_some _ _ _ (.inl q)⟩
  refine codeAny_call_function hr.depth (KX _ _ lk) rfl S.co S.gen rfl (PySem.W.codeRec_of KX hcd) (hb _ _ _ _ ?_)
  refine wpAny_newFunctionEnv_cells S.kind hkind fun env he s1 x=>?_
  subst he
  refine ⟨lim.keeps x.toInCall.keep,codeAny_func ?_⟩
  obtain ⟨t,ht,hq⟩:=hbody A outer s H vs Q E (hr.deeper _) hsp
  have I:Inv (qjr CX P w K mg base N qual scope f cdv A outer s H E) [] (start N vs) H s1:=qh2 S hr.hd e0 hl r x
  refine wpAny_mono (ht [] s1 (start N vs) H _ I hq) (fun fl s' hs=>?_) fun e s' hs=>hs
  have fin:∀ {σ':St} {H':Hp} {v:V} {u:Value},Inv (qjr CX P w K mg base N qual scope f cdv A outer s H E) [] σ' H' s'→RelV v u→Q v H'→CE outer P w H s Q u s' :=
    fun {σ' H' v u} J rv q=>⟨v,H',J.os,J.bare,J.base,J.hok,rv,q⟩
  cases fl with
  | ret u =>
    obtain ⟨v,σ',H',J,rv,q⟩:=hs
    exact fin J rv q
  | next =>
    obtain ⟨σ',H',J,q⟩:=hs
    exact fin (v:=V.non) (u:=Value.none) J rfl q
  | brk =>
    obtain ⟨_,_,_,q⟩:=hs
    exact False.elim q
  | cont =>
    obtain ⟨_,_,_,q⟩:=hs
    exact False.elim q
section
variable {X : Cx} {x : Str} {p pos : Pos} {e : Expr} {es : List Expr} {t : TA} {id T : String} {r : List V → Hp → VK → Prop}
def tCB (r:List V→Hp→VK→Prop) (t:TA):TE:=fun σ H Q=>t σ H fun vs H1=>r vs H1 Q
theorem qgD (hc:qc1 X (.builtin id) r) (hg:Gl X x) (hm:X.mg x=none) (hv:bootBuiltins x=some (.builtin id)) (ha:PA X (e::es) t) (hn:x≠"__name__":=by decide) (hdb:(x == ("__debug__":Str))=false:=by decide)
    (he:starEach (e::es) X.env=(false,eval e X.env)::starEach es X.env:=by rfl) (hpl:(backTo pos (starEach es X.env)).any (·.1)=false:=by rfl):PE X (.Call (.Name x p) (e::es) [] pos) (tCB r t):=by
  intro pins s σ H Q I h
  refine wpAny_Call_Name_kw (qdj I hg hm hv ?_ hn hdb)
  exact PyProof.Rows.callWith_builtin1 (thn (ha pos pins s σ H _ I h) fun us s1 hq0=>by obtain ⟨vs,H1,I1,r1,q1⟩:=hq0;exact hc pins s1 σ H1 vs us Q I1 r1 q1) he hpl
theorem qcW (hc:qc1 X (.type T) r) (hg:Gl X x) (hm:X.mg x=none) (hv:bootBuiltins x=some (.type T)) (ha:PA X (e::es) t) (hn:x≠"__name__":=by decide) (hdb:(x == ("__debug__":Str))=false:=by decide)
    (he:starEach (e::es) X.env=(false,eval e X.env)::starEach es X.env:=by rfl) (hpl:(backTo pos (starEach es X.env)).any (·.1)=false:=by rfl):PE X (.Call (.Name x p) (e::es) [] pos) (tCB r t):=by
  intro pins s σ H Q I h
  refine wpAny_Call_Name_kw (qdj I hg hm hv ?_ hn hdb)
  exact PyProof.Rows.callWith_type1 (thn (ha pos pins s σ H _ I h) fun us s1 hq0=>by obtain ⟨vs,H1,I1,r1,q1⟩:=hq0;exact hc pins s1 σ H1 vs us Q I1 r1 q1) he hpl
end
end L2
namespace HT
open PySem PyProof.Rows
section
open PySem.SeqAt
open PySem.AutoSeq1 (wpAny_loadPart')
open PySem.MeetsSeq PySem.MeetsSeq2 PySem.MeetsSeq3
end
section
variable {prog : Program} {w : World} {A : Around} {E : Value → Shared → Prop} {s : Shared}
theorem cat_tup {t b:Addr} {vs ws:List Value} {Q:Value→Shared→Prop} (ht:IsTup s.heap t vs.toArray) (hb:IsTup s.heap b ws.toArray) (hv:vs≠[])
    (h1:ws=[]→Q (.ref t) s) (h2:ws≠[]→Q (.ref s.heap.objs.size) { s with heap:=s.heap.push { cls:=.type "tuple",data:=.seq (vs++ws).toArray } })
    (hsz:vs.length+ws.length≤sizeLine):wpAny (model prog w) A (binaryOp .Add (.ref t) (.ref b)) Q E s:=by
  obtain ⟨⟨cls,dd,data,sl⟩,ho,hc,n,hd⟩:=id ht
  obtain ⟨⟨cls2,dd2,data2,sl2⟩,ho2,hc2,n2,hd2⟩:=id hb
  simp only at hc hd hc2 hd2
  subst hc hd hc2 hd2
  have e:vs.toArray++ws.toArray=(vs++ws).toArray:=by simp
  by_cases hw:ws=[]
  · exact concat_meets ⟨_,ho,rfl⟩ ⟨_,ho2,rfl⟩ noFill_tuple_add seq_tuple_add PySem.F.slot_tuple_add PySem.F.entry_tuple_add (PySem.F.args_tuple_add_2 _ _)
      (tuple_addW1 t b vs.toArray ws.toArray n n2 dd dd2 sl sl2 (by simpa using hv) (by simp [hw])) ⟨ho,ho2,h1 hw⟩
  · refine concat_meets ⟨_,ho,rfl⟩ ⟨_,ho2,rfl⟩ noFill_tuple_add seq_tuple_add PySem.F.slot_tuple_add PySem.F.entry_tuple_add (PySem.F.args_tuple_add_2 _ _)
      (tuple_addW2 t b vs.toArray ws.toArray n n2 dd dd2 sl sl2 (by simpa using hv) (by simpa using hw) (by rw [List.size_toArray,List.size_toArray];exact hsz)) ⟨ho,ho2,?_⟩
    rw [e]
    exact h2 hw
def sIx (n d:Nat):Option Int→Nat
  | none=>d
  | some v=>if v<0 then (v+(n:Int)).toNat else min v.toNat n
theorem sIx_nat (n d k:Nat):sIx n d (some (k:Int))=min k n:=by
  show (if (k:Int)<0 then ((k:Int)+(n:Int)).toNat else min (k:Int).toNat n)=min k n
  rw [if_neg (by omega),Int.toNat_natCast]
theorem qlB (n d:Nat) (hd:d≤n) (o:Option Int):sIx n d o≤n:=by
  cases o with
  | none=>exact hd
  | some v =>
    show (if v<0 then (v+(n:Int)).toNat else min v.toNat n)≤n
    by_cases hv:v<0
    · rw [if_pos hv];omega
    · rw [if_neg hv];exact Nat.min_le_right _ _
theorem qil (v:Int) (n d:Nat):(if v<0 then max (v+(n:Int)) 0 else min v (n:Int))=((sIx n d (some v):Nat):Int):=by
  show (if v<0 then max (v+(n:Int)) 0 else min v (n:Int))=(((if v<0 then (v+(n:Int)).toNat else min v.toNat n):Nat):Int)
  by_cases hv:v<0
  · simp only [if_pos hv];omega
  · simp only [if_neg hv];omega
theorem qgR (lo hi:Option Int) (n:Nat):Builtin.Slice.sliceAdjust lo hi 1 (n:Int)=(((sIx n 0 lo:Nat):Int),((sIx n n hi:Nat):Int)):=by
  have h1:¬ ((1:Int)<0):=by omega
  unfold Builtin.Slice.sliceAdjust
  simp only [h1,if_false]
  refine Prod.ext ?_ ?_
  · cases lo with
    | none=>rfl
    | some v=>exact qil v n 0
  · cases hi with
    | none=>rfl
    | some v=>exact qil v n n
theorem qgZ (i j:Nat):Builtin.Slice.slicePlaces (i:Int) (j:Int) 1=j - i:=by
  unfold Builtin.Slice.slicePlaces
  have h1:(1:Int)>0:=by omega
  simp only [h1,if_true,Int.ediv_one]
  split <;> omega
theorem qeo {v:Value} {o:Option Int} {Q:Option Int→Shared→Prop} (p:IsPart v o) (h:Q o s):wpAny (model prog w) A (Builtin.Slice.slicePartIndex v) Q E s:=by
  cases p with
  | none=>exact slicePart_none h
  | int i t=>exact slicePart_int h
theorem qcd {sl:Addr} {vl vu:Value} {lo hi:Option Int} {n:Nat} {Q:Int × Int × Nat→Shared→Prop} (hs:s.heap.IsSliceOf sl vl vu .none) (pl:IsPart vl lo) (pu:IsPart vu hi)
    (h:Q (((sIx n 0 lo:Nat):Int),1,sIx n n hi - sIx n 0 lo) s):wpAny (model prog w) A (Builtin.Slice.sliceApplied (.ref sl) (pure (n:Int))) Q E s:=by
  obtain ⟨os,hos,hcs,hds⟩:=id hs
  unfold Builtin.Slice.sliceApplied Builtin.Slice.sliceFields
  refine wpAny_bind (wpAny_bind (wpAny_field hos hds (x:=vl) rfl (wpAny_bind (wpAny_field hos hds (x:=vu) rfl (wpAny_bind (wpAny_field hos hds (x:=.none) rfl (wpAny_pure ?_)))))))
  refine wpAny_bind (slicePart_none ?_)
  show wpAny _ _ (if ((1:Int) == 0)=true then _ else _) _ _ s
  rw [if_neg (by decide)]
  refine wpAny_bind (qeo pl (wpAny_bind (qeo pu (wpAny_bind (wpAny_pure ?_)))))
  show wpAny _ _ (match Builtin.Slice.sliceAdjust lo hi 1 (n:Int) with | (lo,hi)=>pure (lo,(1:Int),Builtin.Slice.slicePlaces lo hi 1)) _ _ s
  rw [qgR lo hi n]
  show wpAny _ _ (pure (((sIx n 0 lo:Nat):Int),(1:Int),Builtin.Slice.slicePlaces ((sIx n 0 lo:Nat):Int) ((sIx n n hi:Nat):Int) 1)) _ _ s
  rw [qgZ]
  exact wpAny_pure h
theorem qjg (xs:Array Value) (i k:Nat):((List.range k).filterMap fun (m:Nat)=>xs[((i:Int)+(m:Int)*1).toNat]?).toArray=((xs.toList.drop i).take k).toArray:=by
  have e:(fun (m:Nat)=>xs[((i:Int)+(m:Int)*1).toNat]?)=fun m=>xs[i+m]?:=by
    funext m
    have:((i:Int)+(m:Int)*1).toNat=i+m:=by omega
    rw [this]
  rw [e]
  have:=pick_run xs i k
  rw [List.filterMap_map] at this
  have e2:((fun x=>xs[x]?) ∘ fun x=>i+x)=fun m=>xs[i+m]?:=rfl
  rw [e2] at this
  rw [this]
theorem getItem_tuple_cut {t sl:Addr} {items:Array Value} {vl vu:Value} {lo hi:Option Int} {Q:Value→Shared→Prop} (ht:IsTup s.heap t items) (hs:s.heap.IsSliceOf sl vl vu .none) (pl:IsPart vl lo) (pu:IsPart vu hi)
    (hw:¬ (sIx items.size 0 lo=0∧sIx items.size items.size hi=items.size))
    (h:Q (.ref s.heap.objs.size) { s with heap:=s.heap.push { cls:=.type "tuple",data:=.seq ((items.toList.drop (sIx items.size 0 lo)).take (sIx items.size items.size hi - sIx items.size 0 lo)).toArray } })
    (hsz:items.size≤sizeLine):wpAny (model prog w) A (getItem (.ref t) (.ref sl)) Q E s:=by
  have htake:sizeOk (.seq ((items.toList.drop (sIx items.size 0 lo)).take (sIx items.size items.size hi - sIx items.size 0 lo)).toArray):=by
    show ((items.toList.drop (sIx items.size 0 lo)).take (sIx items.size items.size hi - sIx items.size 0 lo)).toArray.size≤sizeLine
    rw [List.size_toArray,List.length_take,List.length_drop,Array.length_toList]
    omega
  have hj:sIx items.size items.size hi≤items.size:=qlB _ _ (Nat.le_refl _) hi
  obtain ⟨os,hos,hcs,hds⟩:=id hs
  have hTs:s.TypeIs (.ref sl) "slice":=⟨os,hos,hcs⟩
  unfold getItem
  try with_reducible refine wpAny_holding ?_
  first | refine wpAny_bind (wpAny_pure ?_) | skip
  refine wpAny_bind (wpAny_sequenceKey ht.typeIs (by decide) ?_)
  refine wpAny_bind (wpAny_callSpecial?_slot (name:=Str.ofString "__getitem__") ht.typeIs PyProof.Rows.slot_tuple_getitem
    (wpAny_call_entry PyProof.Rows.slot_tuple_getitem ht.typeIs entry_tuple_getitem ?_ (args_tuple_getitem _ _)))
  show wpAny _ _ (Builtin.Tuple.tupleItemsOf (.ref t) >>= _) _ _ s
  refine wpAny_bind (tupleItemsOf_ ht ?_)
  refine wpAny_bind (wpAny_typeOf hTs ?_)
  rw [if_pos (by decide)]
  refine wpAny_bind (qcd hs pl pu ?_)
  have hno:¬ ((((sIx items.size 0 lo:Nat):Int) == 0 && (1:Int) == 1 && (sIx items.size items.size hi - sIx items.size 0 lo) == items.size)=true):=by
    intro q
    rw [Bool.and_eq_true,Bool.and_eq_true] at q
    have q1:((sIx items.size 0 lo:Nat):Int)=0:=eq_of_beq q.1.1
    have q2:sIx items.size items.size hi - sIx items.size 0 lo=items.size:=eq_of_beq q.2
    exact hw ⟨by omega,by omega⟩
  show wpAny _ _ (if (((sIx items.size 0 lo:Nat):Int) == 0 && (1:Int) == 1 && (sIx items.size items.size hi - sIx items.size 0 lo) == items.size)=true then _ else _) _ _ s
  rw [if_neg hno,qjg]
  first
    | exact wpAny_bind (m:=Builtin.Tuple.tupleExact _) (wpAny_newObj_type (wpAny_pure ⟨_,rfl,wpAny_pure h⟩) htake)
    | exact wpAny_bind (m:=Builtin.Tuple.tupleExact _) (wpAny_newObj_type (wpAny_bind (wpAny_pure (wpAny_pure ⟨_,rfl,wpAny_pure h⟩))) htake)
    | exact wpAny_bind (wpAny_bind (m:=Builtin.Tuple.tupleExact _) (wpAny_newObj_type (wpAny_pure (wpAny_pure ⟨_,rfl,wpAny_pure h⟩)) htake))
    | exact wpAny_bind (wpAny_bind (m:=Builtin.Tuple.tupleExact _) (wpAny_newObj_type (wpAny_pure ⟨_,rfl,wpAny_pure h⟩) htake))
end
end HT
namespace L2
open PySem PySem.Spec PyProof.Rows
abbrev TO:=St→Hp→(Option Int→Hp→Prop)→Prop
def PO (X:Cx) (e:Option Expr) (t:TO):Prop :=
  ∀ (pins:List (Addr × Obj)) (s:Shared) (σ:St) (H:Hp) (Q:Option Int→Hp→Prop),Inv X pins σ H s→t σ H Q →
    wpAny (model X.prog X.w) X.A (evalPart e X.env) (fun u s'=>∃ o H',Inv X pins σ H' s'∧IsPart u o∧Q o H') X.xe s
def qj6:TO:=fun _ H Q=>Q none H
def qnz (t:TE):TO:=fun σ H Q=>t σ H fun x H1=>∃ i,x=.int i∧Q (some i) H1
section
variable {X : Cx} {e : Expr} {te : TE} {lo hi : Option Expr} {tl th : TO} {pos p2 : Pos}
theorem po_none:PO X none qj6:=by
  intro pins s σ H Q I h
  rw [evalPart_none]
  exact wpAny_pure ⟨none,H,I,.none,h⟩
theorem qj4 (h:PE X e te):PO X (some e) (qnz te):=by
  intro pins s σ H Q I hw
  rw [evalPart_some]
  refine thn (h pins s σ H _ I hw) fun u s1 hq0=>?_
  obtain ⟨x,H1,I1,r1,q1⟩:=hq0
  obtain ⟨i,rfl,q⟩:=q1
  obtain ⟨t,rfl⟩:=r1
  exact ⟨some i,H1,I1,.int i t,q⟩
def SlR (X:Cx) (r:V→Option Int→Option Int→Hp→VK→Prop):Prop :=
  ∀ (pins:List (Addr × Obj)) (s:Shared) (σ:St) (H:Hp) (x:V) (v vl vu:Value) (lo hi:Option Int) (sl:Addr) (Q:VK),Inv X pins σ H s→RelV x v→s.heap.IsSliceOf sl vl vu .none→IsPart vl lo→IsPart vu hi→r x lo hi H Q →
    ∃ T id,typeLookup (.type T) "__getitem__"=pure (some (.builtin id))∧s.TypeIs v T∧wpAny (model X.prog X.w) X.A (getItem v (.ref sl)) (EP X pins σ Q) X.xe s
theorem SlR.or {r r':V→Option Int→Option Int→Hp→VK→Prop} (h:SlR X r) (h':SlR X r'):SlR X (fun x lo hi H Q=>r x lo hi H Q∨r' x lo hi H Q):=by
  intro pins s σ H x v vl vu lo hi sl Q I rx hs pl pu q
  rcases q with q | q
  · exact h pins s σ H x v vl vu lo hi sl Q I rx hs pl pu q
  · exact h' pins s σ H x v vl vu lo hi sl Q I rx hs pl pu q
def tSl (r:V→Option Int→Option Int→Hp→VK→Prop) (te:TE) (tl th:TO):TE:=fun σ H Q=>te σ H fun x H1=>tl σ H1 fun l H2=>th σ H2 fun u H3=>r x l u H3 Q
theorem qjs {r:V→Option Int→Option Int→Hp→VK→Prop} (hr:SlR X r) (he:PE X e te) (hl:PO X lo tl) (hu:PO X hi th):PE X (.Subscript e (.Slice lo hi none p2) pos) (tSl r te tl th):=by
  intro pins s σ H Q I h
  refine Subscript_ (thn (he pins s σ H _ I h) fun v s1 ⟨x,H1,I1,r1,q1⟩=>?_)
  refine wpAny_Slice (thn (hl pins s1 σ H1 _ I1 q1) fun vl s2 ⟨l,H2,I2,pl,q2⟩=>thn (hu pins s2 σ H2 _ I2 q2) fun vu s3 ⟨u,H3,I3,pu,q3⟩=>?_)
  rw [evalPart_none]
  refine wpAny_pure ?_
  have I4:Inv X pins σ H3 { s3 with heap:=s3.heap.push { cls:=.type "slice",data:=.fields #[vl,vu,.none] } }:=I3.kept (t':=s3.toks) fun b ob q=>Heap.get?_push_of_some _ q
  obtain ⟨T,id,hT,ht,hg⟩:=hr pins { s3 with heap:=s3.heap.push { cls:=.type "slice",data:=.fields #[vl,vu,.none] } } σ H3 x v vl vu l u s3.heap.objs.size Q I4 r1 (Heap.IsSliceOf.new ..) pl pu q3
  show wpAny (model X.prog X.w) X.A (subscriptTail e (.Slice lo hi none p2) v (.ref s3.heap.objs.size)) (EP X pins σ Q) X.xe { s3 with heap:=s3.heap.push { cls:=.type "slice",data:=.fields #[vl,vu,.none] } }
  exact tail_any (ops:=[.ref s3.heap.objs.size,v]) ht hT hg (by with_unfolding_all rfl)
def qjL (xs:List V) (lo hi:Option Int):List V:=(xs.drop (HT.sIx xs.length 0 lo)).take (HT.sIx xs.length xs.length hi - HT.sIx xs.length 0 lo)
theorem qdT (xs:List V) (lo hi:Option Int):(qjL xs lo hi).length≤xs.length:=by
  unfold qjL
  rw [List.length_take,List.length_drop]
  omega
def qnY (K:PySem.W.Frag):V→Option Int→Option Int→Hp→VK→Prop:=fun x lo hi H Q=>∃ a xs,x=.ref a∧SqT K H a xs ∧
  ¬ (HT.sIx xs.length 0 lo=0∧HT.sIx xs.length xs.length hi=xs.length)∧∀ p,H p=none→Q (.ref p) (upd H p (.tup (qjL xs lo hi)))
theorem sl_tup:SlR X (qnY X.K):=by
  intro pins s σ H x v vl vu lo hi sl Q I rx hs pl pu h
  obtain ⟨a,xs,rfl,hx,hw,q⟩:=h
  cases rx
  obtain ⟨its,r,ht,hz⟩:=I.tuple hx
  have hlen:its.toArray.size=xs.length:=by rw [List.size_toArray];exact r.length.symm
  refine ⟨"tuple",_,PyProof.Rows.slot_tuple_getitem.lookup,ht.typeIs,?_⟩
  refine HT.getItem_tuple_cut ht hs pl pu (by rw [hlen];exact hw) ?_ (by rw [hlen];exact hz)
  rw [hlen]
  refine ⟨.ref s.heap.objs.size,_,I.laid (t':=s.toks) (o:=.tup (qjL xs lo hi)) (fun b ob q=>Heap.get?_push_of_some _ q) (Nat.le_refl _) ?_,rfl,q _ (I.hok.fresh (Nat.le_refl _))⟩
  exact ⟨Nat.le_trans (qdT xs lo hi) hz,_,(r.drop (HT.sIx xs.length 0 lo)).take (HT.sIx xs.length xs.length hi - HT.sIx xs.length 0 lo),IsTup.new _ _⟩
def qm3 (K:PySem.W.Frag):R2:=fun x y H Q=>∃ a b xs ys,x=.ref a∧y=.ref b∧SqT K H a xs∧SqT K H b ys∧xs≠[]∧xs.length+ys.length≤sizeLine ∧
  (ys=[]→Q (.ref a) H)∧(ys≠[]→∀ p,H p=none→Q (.ref p) (upd H p (.tup (xs++ys))))
theorem Vals.nil_iff {xs:List V} {us:List Value} (r:Vals xs us):us=[]↔xs=[]:=by
  cases r with
  | nil=>simp
  | cons _ _=>simp
theorem qki:OpR X (binaryOp .Add) (qm3 X.K):=by
  intro pins s σ H x y v u Q I rx ry h
  obtain ⟨a,b,xs,ys,rfl,rfl,ha,hb,hx,hz,q1,q2⟩:=h
  cases rx
  cases ry
  obtain ⟨its,r1,p1,_⟩:=I.tuple ha
  obtain ⟨its2,r2,p2,_⟩:=I.tuple hb
  refine HT.cat_tup p1 p2 (fun z=>hx (r1.nil_iff.mp z)) (fun z=>⟨.ref a,H,I,rfl,q1 (r2.nil_iff.mp z)⟩) (fun z=>?_) (by rw [← r1.length,← r2.length];exact hz)
  refine ⟨.ref s.heap.objs.size,_,I.laid (t':=s.toks) (o:=.tup (xs++ys)) (fun b ob q=>Heap.get?_push_of_some _ q) (Nat.le_refl _) ?_,rfl,q2 (fun w=>z (r2.nil_iff.mpr w)) _ (I.hok.fresh (Nat.le_refl _))⟩
  exact ⟨by rw [List.length_append];exact hz,_,r1.append r2,IsTup.new _ _⟩
end
def ixN (n:Nat) (i:Int):Option Nat:=if 0≤i then (if i<n then some i.toNat else none) else if -(n:Int)≤i then some (i+n).toNat else none
def atI {α:Type} (xs:List α) (i:Int):Option α:=(ixN xs.length i).bind fun j=>xs[j]?
theorem qkv {n:Nat} {i:Int} {j:Nat} (h:ixN n i=some j):seqIndex? i n=some j∧j<n∧-(n:Int)≤i∧i<n:=by
  unfold ixN at h
  by_cases h0:0≤i
  · rw [if_pos h0] at h
    by_cases h1:i<n
    · rw [if_pos h1] at h
      have e:i.toNat=j:=Option.some.inj h
      exact ⟨by rw [seqIndex_of h0 h1,e],by omega,by omega,h1⟩
    · rw [if_neg h1] at h;cases h
  · rw [if_neg h0] at h
    by_cases h1:-(n:Int)≤i
    · rw [if_pos h1] at h
      have e:(i+n).toNat=j:=Option.some.inj h
      exact ⟨by rw [seqIndex_neg (by omega) h1,e],by omega,h1,by omega⟩
    · rw [if_neg h1] at h;cases h
theorem qgg {α:Type} {xs:List α} {i:Int} {v:α} (h:atI xs i=some v):∃ j,seqIndex? i xs.length=some j∧xs[j]?=some v∧j<xs.length∧-(xs.length:Int)≤i∧i<xs.length:=by
  unfold atI at h
  cases e:ixN xs.length i with
  | none=>rw [e] at h;cases h
  | some j =>
    rw [e] at h
    obtain ⟨h1,h2,h3,h4⟩:=qkv e
    exact ⟨j,h1,h,h2,h3,h4⟩
theorem qkn {α:Type} {xs:List α} {j:Nat} {v:α} (h:xs[j]?=some v):atI xs (j:Int)=some v:=by
  have hj:j<xs.length:=(List.getElem?_eq_some_iff.mp h).1
  have e:ixN xs.length (j:Int)=some j:=by
    unfold ixN
    rw [if_pos (by omega),if_pos (by omega)];simp
  unfold atI;rw [e];exact h
def qh8 (b:Expr):Prop:=∀ o i,subscripted b false o i=operate [o,i] (getItem o i)
def IxR (X:Cx) (r:R2):Prop :=
  ∀ (value slice:Expr) (pins:List (Addr × Obj)) (s:Shared) (σ:St) (H:Hp) (x y:V) (v u:Value) (Q:VK),Inv X pins σ H s→RelV x v→RelV y u→r x y H Q →
    subscripted slice false v u=operate [v,u] (getItem v u)→wpAny (model X.prog X.w) X.A (subscriptTail value slice v u) (EP X pins σ Q) X.xe s
def MtR (X:Cx) (id:String) (r:V→List V→Hp→VK→Prop):Prop :=
  ∀ (pins:List (Addr × Obj)) (s:Shared) (σ:St) (H:Hp) (x:V) (xs:List V) (v:Value) (us:List Value) (Q:VK),Inv X pins σ H s→RelV x v→Vals xs us→r x xs H Q →
    wpAny (model X.prog X.w) X.A (call (.builtin id) (v::us)) (EP X pins σ Q) X.xe s
section
variable {X : Cx} {a b : Expr} {ta tb : TE} {pos : Pos}
theorem qnx {r:R2} (hr:IxR X r) (ha:PE X a ta) (hb:PE X b tb) (hs:qh8 b):PE X (.Subscript a b pos) (tOp r ta tb):=by
  intro pins s σ H Q I h
  exact Subscript_ (qng ha hb I h fun v u s2 x y H2 I2 rx ry q=>hr a b pins s2 σ H2 x y v u Q I2 rx ry q (hs _ _))
def qok (K:PySem.W.Frag):R2:=fun x y H Q=>∃ p xs i v,x=.ref p∧y=.int i∧SqL K H p xs∧atI xs i=some v∧Q v H
def qoc (K:PySem.W.Frag):R2:=fun x y H Q=>∃ p xs i v,x=.ref p∧y=.int i∧SqT K H p xs∧atI xs i=some v∧Q v H
def qoM:R2:=fun x y H Q=>∃ z i c,x=.str z∧y=.int i∧z.length≤sizeLine∧atI z.cps.toList i=some c∧Q (.str ⟨#[c]⟩) H
theorem qh0:IxR X (qok X.K):=by
  intro value slice pins s σ H x y v u Q I rx ry h hs
  obtain ⟨p,xs,i,z,rfl,rfl,hq,he,q⟩:=h
  cases rx
  obtain ⟨t,rfl⟩:=ry
  obtain ⟨its,r,pl,hz⟩:=I.list hq
  obtain ⟨j,h1,h2,h3,h4,h5⟩:=qgg he
  obtain ⟨w,ew,rw'⟩:=r.get h2
  have hl:=r.length
  have hn:=qee
  have fin:EP X pins σ Q w s:=⟨z,H,I,rw',q⟩
  by_cases h0:0≤i
  · have hj:i.toNat=j:=by
      rw [seqIndex_of h0 h5] at h1
      exact Option.some.inj h1
    exact item_listR pl.isList h0 (by omega) (by rw [hj];simpa using ew) fin hs
  · have hj:(i+(its.toArray.size:Int)).toNat=j:=by
      rw [seqIndex_neg (by omega) h4] at h1
      rw [List.size_toArray,← hl]
      exact Option.some.inj h1
    exact subscriptTail_builtinR (x:=w) pl.isList.typeIs slot_list_getitem.lookup
      (wpAny_getItem_list_neg (Q:=fun r s'=>r=w∧EP X pins σ Q r s') pl.isList (by omega) (by rw [List.size_toArray] <;> omega) (by omega) (by rw [hj];simpa using ew) ⟨rfl,fin⟩) hs
theorem qmO:IxR X (qoc X.K):=by
  intro value slice pins s σ H x y v u Q I rx ry h hs
  obtain ⟨p,xs,i,z,rfl,rfl,hq,he,q⟩:=h
  cases rx
  obtain ⟨t,rfl⟩:=ry
  obtain ⟨its,r,pl,hz⟩:=I.tuple hq
  obtain ⟨j,h1,h2,h3,h4,h5⟩:=qgg he
  obtain ⟨w,ew,rw'⟩:=r.get h2
  have hl:=r.length
  have hn:=qee
  have fin:EP X pins σ Q w s:=⟨z,H,I,rw',q⟩
  exact subscriptTail_builtinR (x:=w) pl.typeIs slot_tuple_getitem.lookup
    (getItem_tuple (j:=j) (Q:=fun r s'=>r=w∧EP X pins σ Q r s') pl (by omega) (by omega) (by rw [List.size_toArray,← hl];exact h1) (by simpa using ew) ⟨rfl,fin⟩) hs
theorem qlx:IxR X qoM:=by
  intro value slice pins s σ H x y v u Q I rx ry h hs
  obtain ⟨z,i,c,rfl,rfl,hz,he,q⟩:=h
  obtain ⟨t,rfl⟩:=rx
  obtain ⟨t',rfl⟩:=ry
  obtain ⟨j,h1,h2,h3,h4,h5⟩:=qgg he
  have hl:z.cps.toList.length=z.length:=by simp [Str.length]
  rw [hl] at h1 h4 h5
  have hn:=qee
  exact tail_any (typeIs_str s z t) slot_str_getitem.lookup (getItem_str (c:=c) (by
    have e1:decide (i < -(2 ^ 63:Int))=false:=decide_eq_false (by omega)
    have e2:decide (i≥2 ^ 63)=false:=decide_eq_false (by omega)
    rw [e1,e2,Bool.or_false]) (by rw [h1];simpa using h2) ⟨.str ⟨#[c]⟩,H,I.tok _,⟨_,rfl⟩,q⟩) hs
theorem qfv (lo hi:Option Int) (n:Nat):(sliceBounds lo hi none n).1=((HT.sIx n 0 lo:Nat):Int)∧(sliceBounds lo hi none n).2.1=((HT.sIx n n hi:Nat):Int)∧(sliceBounds lo hi none n).2.2=1:=by
  refine ⟨?_,?_,rfl⟩
  · cases lo with
    | none=>simp [sliceBounds,HT.sIx]
    | some i =>
      simp only [sliceBounds,HT.sIx,Option.getD_none,show (1:Int)>0 by decide,if_true]
      by_cases h:i<0
      · simp only [h,if_true] <;> omega
      · simp only [h,if_false] <;> omega
  · cases hi with
    | none=>simp [sliceBounds,HT.sIx]
    | some i =>
      simp only [sliceBounds,HT.sIx,Option.getD_none,show (1:Int)>0 by decide,if_true]
      by_cases h:i<0
      · simp only [h,if_true] <;> omega
      · simp only [h,if_false] <;> omega
theorem qeG (its:List Value) (lo hi:Option Int):slicePick its.toArray lo hi none=((its.drop (HT.sIx its.length 0 lo)).take (HT.sIx its.length its.length hi - HT.sIx its.length 0 lo)).toArray:=by
  obtain ⟨h1,h2,h3⟩:=qfv lo hi its.toArray.size
  unfold slicePick
  rw [h1,h2,h3]
  simp only [sliceRange_one,pick_run,List.size_toArray] <;> rfl
def qnW (K:PySem.W.Frag):V→Option Int→Option Int→Hp→VK→Prop:=fun x lo hi H Q=>∃ a xs,x=.ref a∧SqL K H a xs∧∀ p,H p=none→Q (.ref p) (upd H p (.lst (qjL xs lo hi)))
theorem sl_list:SlR X (qnW X.K):=by
  intro pins s σ H x v vl vu lo hi sl Q I rx hs pl pu h
  obtain ⟨a,xs,rfl,hx,q⟩:=h
  cases rx
  obtain ⟨its,r,ht,hz⟩:=I.list hx
  have hlen:=r.length
  refine ⟨"list",_,slot_list_getitem.lookup,ht.isList.typeIs,?_⟩
  refine wpAny_getItem_list_slice ht.isList hs pl pu .none (by simp) ?_ (by rw [List.size_toArray] <;> omega)
  rw [qeG,← hlen]
  refine ⟨.ref s.heap.objs.size,_,I.laid (t':=s.toks) (o:=.lst (qjL xs lo hi)) (fun b ob q=>Heap.get?_push_of_some _ q) (Nat.le_refl _) ?_,rfl,q _ (I.hok.fresh (Nat.le_refl _))⟩
  exact ⟨Nat.le_trans (qdT xs lo hi) hz,_,0,(r.drop (HT.sIx xs.length 0 lo)).take (HT.sIx xs.length xs.length hi - HT.sIx xs.length 0 lo),Heap.get?_push_size _ rfl⟩
def qeF:V→Bool
  | .non=>true
  | .bl _=>true
  | .int _=>true
  | .str _=>true
  | _=>false
def eqV:V→V→Bool
  | .non,.non=>true
  | .bl a,.bl b=>a == b
  | .bl a,.int b=>(if a then 1 else 0) == b
  | .int a,.bl b=>a == (if b then 1 else 0)
  | .int a,.int b=>a == b
  | .str a,.str b=>a == b
  | _,_=>false
theorem qmx {A:Around} {s:Shared} {y x:V} {u v:Value} (ry:RelV y u) (rx:RelV x v) (fy:qeF y=true) (fx:qeF x=true):SeqAt.EqAt A s u v (eqV y x):=by
  cases y with
  | non =>
    cases ry
    cases x with
    | non=>cases rx;exact SeqAt.EqAt.same _
    | bl b=>cases rx;exact SeqAt.EqAt.none_bool b
    | int b=>obtain ⟨t,rfl⟩:=rx;exact SeqAt.EqAt.none_int b t
    | str b=>obtain ⟨t,rfl⟩:=rx;exact SeqAt.EqAt.none_str b t
    | _=>exact absurd (show false=true from fx) Bool.false_ne_true
  | bl a =>
    cases ry
    cases x with
    | non=>cases rx;exact SeqAt.EqAt.bool_none a
    | bl b=>cases rx;exact SeqAt.EqAt.bool_bool a b
    | int b=>obtain ⟨t,rfl⟩:=rx;exact SeqAt.EqAt.bool_int a b t
    | str b=>obtain ⟨t,rfl⟩:=rx;exact SeqAt.EqAt.bool_str a b t
    | _=>exact absurd (show false=true from fx) Bool.false_ne_true
  | int a =>
    obtain ⟨t',rfl⟩:=ry
    cases x with
    | non=>cases rx;exact SeqAt.EqAt.int_none a t'
    | bl b=>cases rx;exact SeqAt.EqAt.int_bool a t' b
    | int b=>obtain ⟨t,rfl⟩:=rx;exact SeqAt.EqAt.int_int a t' b t
    | str b=>obtain ⟨t,rfl⟩:=rx;exact SeqAt.EqAt.int_str a t' b t
    | _=>exact absurd (show false=true from fx) Bool.false_ne_true
  | str a =>
    obtain ⟨t',rfl⟩:=ry
    cases x with
    | non=>cases rx;exact SeqAt.EqAt.str_none a t'
    | bl b=>cases rx;exact SeqAt.EqAt.str_bool a t' b
    | int b=>obtain ⟨t,rfl⟩:=rx;exact SeqAt.EqAt.str_int a t' b t
    | str b=>obtain ⟨t,rfl⟩:=rx;exact SeqAt.EqAt.str_str a t' b t
    | _=>exact absurd (show false=true from fx) Bool.false_ne_true
  | _=>exact absurd (show false=true from fy) Bool.false_ne_true
def eqU (x:V) (u:Value):Bool:=match u with
  | .none=>eqV .non x
  | .bool b=>eqV (.bl b) x
  | .int i _=>eqV (.int i) x
  | .str z _=>eqV (.str z) x
  | _=>false
theorem qjA {x y:V} {u:Value} (r:RelV y u) (f:qeF y=true):eqU x u=eqV y x:=by
  cases y with
  | non=>cases r;rfl
  | bl b=>cases r;rfl
  | int i=>obtain ⟨t,rfl⟩:=r;rfl
  | str z=>obtain ⟨t,rfl⟩:=r;rfl
  | _=>exact absurd (show false=true from f) Bool.false_ne_true
theorem qfQ {x:V}:∀ {xs:List V} {us:List Value},Vals xs us→xs.all qeF=true→us.any (eqU x)=xs.any fun y=>eqV y x
  | _,_,.nil,_=>rfl
  | y::xs,u::us,.cons r t,f=>by
    rw [List.all_cons,Bool.and_eq_true] at f
    rw [List.any_cons,List.any_cons,qjA r f.1,qfQ t f.2]
theorem qev {A:Around} {s:Shared} {x:V} {v:Value} (rx:RelV x v) (fx:qeF x=true):∀ {xs:List V} {us:List Value},Vals xs us→xs.all qeF=true→∀ u∈us,SeqAt.EqAt A s u v (eqU x u)
  | _,_,.nil,_=>fun u hu=>by cases hu
  | y::xs,u::us,.cons r t,f=>fun u' hu=>by
    rw [List.all_cons,Bool.and_eq_true] at f
    rcases List.mem_cons.mp hu with rfl | hu
    · rw [qjA r f.1];exact qmx r rx f.1 fx
    · exact qev rx fx t f.2 u' hu
def inV (x:V) (xs:List V):Bool:=xs.any fun y=>eqV y x
def rIn (K:PySem.W.Frag) (neg:Bool):R2:=fun x y H Q=>∃ p xs,y=.ref p∧(SqL K H p xs∨SqT K H p xs)∧qeF x=true∧xs.all qeF=true∧Q (.bl (if neg then !inV x xs else inV x xs)) H
theorem qfz:OpR X (compareOp .NotIn) (rIn X.K true):=by
  intro pins s σ H x y v u Q I rx ry h
  obtain ⟨p,xs,rfl,hq,fx,fs,q⟩:=h
  cases ry
  rcases hq with hq | hq
  · obtain ⟨its,r,pl,hz⟩:=I.list hq
    refine SeqAt.notIn_listAt (eqU x) pl.isList (fun w hw=>qev rx fx r fs w (by simpa using hw)) ⟨.bl _,H,I,rfl,?_⟩
    rw [show its.toArray.any (eqU x)=its.any (eqU x) by simp,qfQ r fs]
    exact q
  · obtain ⟨its,r,pl,hz⟩:=I.tuple hq
    refine SeqAt.notIn_tupleAt (eqU x) pl (fun w hw=>qev rx fx r fs w (by simpa using hw)) ⟨.bl _,H,I,rfl,?_⟩
    rw [show its.toArray.any (eqU x)=its.any (eqU x) by simp,qfQ r fs]
    exact q
theorem qcq:qc1 X (.builtin "len") (fun xs H Q=>∃ p ys,xs=[.ref p]∧(SqL X.K H p ys∨SqT X.K H p ys)∧Q (.int ys.length) H):=by
  intro pins s σ H xs us Q I r h
  obtain ⟨p,ys,rfl,hq,q⟩:=h
  obtain ⟨u,rfl,rx⟩:=qfW r
  cases rx
  have hn:=qee
  rcases hq with hq | hq
  · obtain ⟨its,r',pl,hz⟩:=I.list hq
    have hlen:=r'.length
    exact Calls.call_len_list pl.isList (by simp only [List.size_toArray] <;> omega) ⟨.int ys.length,H,I.tok _,⟨s.toks+1,by rw [List.size_toArray,hlen]⟩,q⟩
  · obtain ⟨its,r',pl,hz⟩:=I.tuple hq
    have hlen:=r'.length
    exact len_tuple pl (by simp only [List.size_toArray] <;> omega) ⟨.int ys.length,H,I.tok _,⟨s.toks+1,by rw [List.size_toArray,hlen]⟩,q⟩
theorem qe7:qc1 X (.builtin "len") (fun xs H Q=>∃ z,xs=[.str z]∧z.length≤sizeLine∧Q (.int z.length) H):=by
  intro pins s σ H xs us Q I r h
  obtain ⟨z,rfl,hz,q⟩:=h
  obtain ⟨u,rfl,t,rfl⟩:=qfW r
  have hn:=qee
  exact len_str (by omega) ⟨.int z.length,H,I.tok _,⟨_,rfl⟩,q⟩
theorem qfJ:qc1 X (.type "list") (fun xs H Q=>∃ p ys,xs=[.ref p]∧(SqL X.K H p ys∨SqT X.K H p ys)∧∀ l,H l=none→Q (.ref l) (upd H l (.lst ys))):=by
  intro pins s σ H xs us Q I r h
  obtain ⟨p,ys,rfl,hq,q⟩:=h
  obtain ⟨u,rfl,rx⟩:=qfW r
  cases rx
  have fin:∀ (its:List Value),Vals ys its→ys.length≤sizeLine→∀ (h':Heap) (c':Nat),(∀ b o',s.heap.get? b=some o'→h'.get? b=some o') →
      h'.get? s.heap.objs.size=some { cls:=.type "list",dict:=none,data:=.seq its.toArray c',slots:=#[] }→EP X pins σ Q (.ref s.heap.objs.size) { s with heap:=h' }:=fun its r' hz h' c' kp e =>
    ⟨.ref s.heap.objs.size,_,I.laid (t':=s.toks) kp (Nat.le_refl _) (show ObjOk X.prog X.w _ h' _ (.lst ys) from ⟨hz,its,c',r',e⟩),rfl,q _ (I.hok.fresh (Nat.le_refl _))⟩
  rcases hq with hq | hq
  · obtain ⟨its,r',pl,hz⟩:=I.list hq
    have hlen:=r'.length
    obtain ⟨o,ho,hc,n,hd⟩:=pl.isList
    exact call_list_seq p (.inl rfl) ho hc hd (fun h' c' kp e=>fin its r' hz h' c' kp e) (by simp only [List.size_toArray] <;> omega)
  · obtain ⟨its,r',pl,hz⟩:=I.tuple hq
    have hlen:=r'.length
    obtain ⟨o,ho,hc,n,hd⟩:=pl
    exact call_list_seq p (.inr rfl) ho hc hd (fun h' c' kp e=>fin its r' hz h' c' kp e) (by simp only [List.size_toArray] <;> omega)
theorem qb3:qc1 X (.type "tuple") (fun xs H Q=>∃ p ys,xs=[.ref p]∧((SqL X.K H p ys∧∀ l,H l=none→Q (.ref l) (upd H l (.tup ys)))∨(SqT X.K H p ys∧Q (.ref p) H))):=by
  intro pins s σ H xs us Q I r h
  obtain ⟨p,ys,rfl,h⟩:=h
  obtain ⟨u,rfl,rx⟩:=qfW r
  cases rx
  rcases h with ⟨hq,q⟩ | ⟨hq,q⟩
  · obtain ⟨its,r',pl,hz⟩:=I.list hq
    have hlen:=r'.length
    refine call_tuple_list pl.isList (fun h' kp=>?_) (by simp only [List.size_toArray] <;> omega)
    have I1:Inv X pins σ H { s with heap:=h' }:=I.kept (t':=s.toks) kp
    have I2:Inv X pins σ (upd H h'.objs.size (.tup ys)) { s with heap:=h'.push { cls:=.type "tuple",data:=.seq its.toArray } } :=
      I1.laid (t':=s.toks) (fun b o e=>Heap.get?_push_of_some _ e) (Nat.le_refl _) (show ObjOk X.prog X.w _ _ _ (.tup ys) from ⟨hz,its,r',IsTup.new _ _⟩)
    exact ⟨.ref h'.objs.size,_,I2,rfl,q _ (I1.hok.fresh (Nat.le_refl _))⟩
  · obtain ⟨its,r',pl,hz⟩:=I.tuple hq
    exact call_tuple_same pl ⟨.ref p,H,I,rfl,q⟩
def tyV (K:PySem.W.Frag) (T:String) (x:V) (H:Hp):Prop:=match x with
  | .str _=>T="str"
  | .int _=>T="int"
  | .ref p=>(T="list"∧∃ xs,SqL K H p xs)∨(T="tuple"∧∃ o,K.lookup p=some o∧o.cls=.type "tuple"∧o.dict=none) ∨
      (T="dict"∧((∃ kvs,H p=some (.dK kvs))∨∃ kvs,H p=some (.dT kvs)))∨(T="set"∧∃ S n,H p=some (.set S n))
  | _=>False
theorem qlE {pins:List (Addr × Obj)} {σ:St} {H:Hp} {s:Shared} {T:String} {x:V} {v:Value} (I:Inv X pins σ H s) (r:RelV x v) (ty:tyV X.K T x H) :
    s.TypeIs v T∧∀ a,v=.ref a→∃ ob,s.heap.get? a=some ob∧ob.dict=none:=by
  cases x with
  | str z =>
    obtain ⟨t,rfl⟩:=r
    cases (show T="str" from ty)
    exact ⟨typeIs_str s z t,fun _ e=>nomatch e⟩
  | int i =>
    obtain ⟨t,rfl⟩:=r
    cases (show T="int" from ty)
    exact ⟨typeIs_int s i t,fun _ e=>nomatch e⟩
  | ref p =>
    cases r
    rcases ty with ⟨rfl,xs,hq⟩ | ⟨rfl,o,hk,hc,hd⟩ | ⟨rfl,hk⟩ | ⟨rfl,S,n,hk⟩
    · obtain ⟨its,_,pl,_⟩:=I.list hq
      refine ⟨pl.isList.typeIs,fun a e=>?_⟩
      cases e
      obtain ⟨o,n,e,c,hd,_⟩:=pl
      exact ⟨o,e,hd⟩
    · refine ⟨⟨o,I.kIn p o hk,hc⟩,fun a e=>?_⟩
      cases e
      exact ⟨o,I.kIn _ o hk,hd⟩
    · have z:∃ o,s.heap.get? p=some o∧o.ExactDict:=by
        rcases hk with ⟨kvs,hk⟩ | ⟨kvs,hk⟩
        · obtain ⟨_,_,_,_,o,_,_,e,ex,_⟩:=I.hok p _ hk
          exact ⟨o,e,ex⟩
        · obtain ⟨_,_,_,_,o,_,_,e,ex,_⟩:=I.hok p _ hk
          exact ⟨o,e,ex⟩
      obtain ⟨o,e,ex⟩:=z
      refine ⟨⟨o,e,ex.1⟩,fun a e2=>?_⟩
      cases e2
      exact ⟨o,e,ex.2.1⟩
    · obtain ⟨o,_,_,_,e,ex,_⟩:=I.hok p _ hk
      refine ⟨⟨o,e,ex.1⟩,fun a e2=>?_⟩
      cases e2
      exact ⟨o,e,ex.2.1⟩
  | _=>exact False.elim ty
def tBM (K:PySem.W.Frag) (T:String) (r:V→List V→Hp→VK→Prop) (to:TE) (t:TA):TE:=fun σ H Q=>to σ H fun x H1=>tyV K T x H1∧t σ H1 fun xs H2=>r x xs H2 Q
variable {o e : Expr} {es : List Expr} {to : TE} {t : TA} {name : Str} {apos cpos : Pos} {T id : String} {r : V → List V → Hp → VK → Prop}
theorem qnl (pa:PlainAttrs T) (slot:Slot T name id) (hty:typeOf (.builtin id)=pure (.type "method_descriptor")) (hm:MtR X id r) (ho:PE X o to) (ha:PA X (e::es) t)
    (hbase:attributeBase o name X.env (eval o X.env)=eval o X.env:=by rfl)
    (hfew:((backTo cpos (starEach (e::es) X.env)).all (fun x=>!x.1) && (backToKw cpos (keywordEach [] X.env)).all (fun x=>x.1.isSome)
      && decide ((e::es).length+([]:List Keyword).length+(if ([]:List Keyword).isEmpty then 0 else 1)<30))=true:=by rfl)
    (hline:(apos.endLine == cpos.line)=true:=by rfl) (hs:starEach (e::es) X.env=(false,eval e X.env)::starEach es X.env:=by rfl) (hplain:(backTo cpos (starEach es X.env)).any (·.1)=false:=by rfl) :
    PE X (.Call (.Attribute o name apos) (e::es) [] cpos) (tBM X.K T r to t):=by
  intro pins s σ H Q I h
  refine wpAny_Call_method_late hbase hfew hline rfl (thn (ho pins s σ H _ I h) fun v s1 hq0=>?_)
  obtain ⟨x,H1,I1,r1,ty,q1⟩:=hq0
  obtain ⟨h1,h2⟩:=qlE I1 r1 ty
  refine ⟨T,id,pa,slot,hty,h1,h2,?_⟩
  have hA:=ha cpos pins s1 σ H1 _ I1 q1
  rw [hs] at hA ⊢
  refine Calls.callWith_builtin (by show (false || (backTo cpos (starEach es X.env)).any (·.1))=false;rw [hplain] <;> rfl) (Calls.evalArgs_plain ?_)
  exact thn hA fun us s2 hq1=>by obtain ⟨vs,H2,I2,r2,q2⟩:=hq1;exact hm pins s2 σ H2 x vs v us Q I2 r1 r2 q2
end
def MtM (X:Cx) (id:String) (r:V→List V→Hp→VK→Prop):Prop :=
  ∀ (pins:List (Addr × Obj)) (s:Shared) (σ:St) (H:Hp) (x:V) (xs:List V) (v:Value) (us:List Value) (Q:VK),Inv X pins σ H s→RelV x v→Vals xs us→r x xs H Q →
    wpAny (model X.prog X.w) X.A (call (.builtin id) (v::us)) (EP X pins σ Q) X.xe s
theorem Vals.one:∀ {x:V} {us:List Value},Vals [x] us→∃ u,us=[u]∧RelV x u
  | _,_,.cons r .nil=>⟨_,rfl,r⟩
theorem Vals.rep {xs:List V} {us:List Value} (h:Vals xs us):∀ k:Nat,Vals (List.replicate k xs).flatten (List.replicate k us).flatten
  | 0=>.nil
  | k+1=>by
    rw [List.replicate_succ,List.replicate_succ,List.flatten_cons,List.flatten_cons]
    exact Vals.append h (Vals.rep h k)
theorem qdU (its:List Value):∀ (k:Nat) (acc:List Value),
    List.foldl (fun x1 x2=>x1++x2) acc.toArray (List.replicate k its.toArray)=(acc++(List.replicate k its).flatten).toArray
  | 0,acc=>by simp
  | k+1,acc=>by
    have e:acc.toArray++its.toArray=(acc++its).toArray:=by simp
    have e2:(acc++its)++(List.replicate k its).flatten=acc++(List.replicate (k+1) its).flatten:=by
      rw [List.replicate_succ,List.flatten_cons,List.append_assoc]
    rw [← e2,← qdU its k (acc++its),← e,List.replicate_succ,List.foldl_cons]
section
variable {X : Cx} {pins : List (Addr × Obj)} {σ : St} {H : Hp} {s : Shared} {l b : Addr} {xs ys zs : List V}
theorem Inv.lset {its its':List Value} {n:Nat} {f:Array Value→Array Value} {t':Nat} (I:Inv X pins σ H s) (hH:H l=some (.lst xs))
    (e:s.heap.get? l=some { cls:=.type "list",data:=.seq its.toArray n }) (hf:f its.toArray=its'.toArray) (hv:Vals ys its') (hz:ys.length≤sizeLine) :
    Inv X pins σ (upd H l (.lst ys)) { s with heap:=s.heap.update l (Obj.mapSeq f),toks:=t' }:=by
  have q:=PySem.IsL.update e f
  rw [hf] at q
  refine I.write (x:=l) (e:=l) (by rw [hH];exact trivial) (.inl rfl) (fun b' u hb hu=>(Heap.get?_update_other s.heap (Obj.mapSeq f) (Ne.symm hb)).trans hu) ⟨_,q⟩ ?_
  exact ⟨hz,its',_,hv,q⟩
theorem Inv.lnew {its:List Value} {t':Nat} (I:Inv X pins σ H s) (hv:Vals ys its) (hz:ys.length≤sizeLine) :
    Inv X pins σ (upd H s.heap.objs.size (.lst ys)) { s with heap:=s.heap.push { cls:=.type "list",data:=.seq its.toArray },toks:=t' } :=
  I.laid (fun _ _ q=>Heap.get?_push_of_some _ q) (Nat.le_refl _) ⟨hz,its,0,hv,Heap.get?_push_size _ rfl⟩
theorem Inv.fresh (I:Inv X pins σ H s):H s.heap.objs.size=none:=I.hok.fresh (Nat.le_refl _)
theorem Inv.lstM (I:Inv X pins σ H s) (hH:H l=some (.lst xs)):xs.length≤sizeLine∧∃ (its:List Value) (n:Nat),Vals xs its∧xs.length=its.length∧s.heap.get? l=some { cls:=.type "list",data:=.seq its.toArray n }:=by
  obtain ⟨z,its,n,r,e⟩:=I.hok l _ hH
  exact ⟨z,its,n,r,r.length,e⟩
theorem qiW {n:Nat} (h:n≤sizeLine):Builtin.List.listTooLong n=false:=by
  unfold Builtin.List.listTooLong
  exact decide_eq_false (by omega)
end
section
variable {X : Cx}
def qkD:V→List V→Hp→VK→Prop:=fun x vs H Q=>∃ l xs y,x=.ref l∧vs=[y]∧H l=some (.lst xs)∧xs.length<sizeLine∧Q .non (upd H l (.lst (xs++[y])))
theorem qfd:MtM X "list.append" qkD:=by
  intro pins s σ H x vs v us Q I rx rv h
  obtain ⟨l,xs,y,rfl,rfl,hH,hz,q⟩:=h
  cases rx
  obtain ⟨u,rfl,ru⟩:=rv.one
  obtain ⟨z,its,n,r,hl,e⟩:=I.lstM hH
  refine call_meets F.slot_list_append ⟨_,e,rfl⟩ F.entry_list_append (F.args_list_append_2 _ _) (PySem.list_append l its.toArray n u (by rw [List.size_toArray];omega)) ⟨e,?_⟩
  refine ⟨.non,_,I.lset (its':=its++[u]) hH e (by simp) (r.append (.cons ru .nil)) ?_,rfl,q⟩
  rw [List.length_append,List.length_singleton]
  omega
def qob:R2:=fun x y H Q=>∃ l b xs zs,x=.ref l∧y=.ref b∧H l=some (.lst xs)∧H b=some (.lst zs)∧xs.length+zs.length≤sizeLine∧∀ p,H p=none→Q (.ref p) (upd H p (.lst (xs++zs)))
theorem qmt:OpR X (binaryOp .Add) qob:=by
  intro pins s σ H x y v u Q I rx ry h
  obtain ⟨l,b,xs,zs,rfl,rfl,hH,hB,hz,q⟩:=h
  cases rx
  cases ry
  obtain ⟨z,its,n,r,hl,e⟩:=I.lstM hH
  obtain ⟨z2,its2,n2,r2,hl2,e2⟩:=I.lstM hB
  refine PySem.P.add_list e e2 ?_ (by rw [List.size_toArray,List.size_toArray];omega)
  have ea:its.toArray++its2.toArray=(its++its2).toArray:=by simp
  rw [ea]
  exact ⟨.ref _,_,I.lnew (t':=s.toks) (r.append r2) (by rw [List.length_append];omega),rfl,q _ I.fresh⟩
def qn7:R2:=fun x y H Q=>∃ l k xs,x=.ref l∧y=.int k∧H l=some (.lst xs)∧-(2 ^ 63)≤k∧k<2 ^ 63∧xs.length*k.toNat≤sizeLine ∧
  ∀ p,H p=none→Q (.ref p) (upd H p (.lst (List.replicate k.toNat xs).flatten))
theorem qge {α:Type} (xs:List α) (k:Nat):(List.replicate k xs).flatten.length=k*xs.length:=by
  induction k with
  | zero=>simp
  | succ k ih=>rw [List.replicate_succ,List.flatten_cons,List.length_append,ih,Nat.succ_mul,Nat.add_comm]
theorem qlW:OpR X (binaryOp .Mult) qn7:=by
  intro pins s σ H x y v u Q I rx ry h
  obtain ⟨l,k,xs,rfl,rfl,hH,h1,h2,hz,q⟩:=h
  cases rx
  obtain ⟨t,rfl⟩:=ry
  obtain ⟨z,its,n,r,hl,e⟩:=I.lstM hH
  have hlen:its.toArray.size*k.toNat≤sizeLine:=by rw [List.size_toArray,← hl];exact hz
  have hcap:¬ its.toArray.size*k.toNat>(2 ^ 63 - 1) / 8:=by
    have:(sizeLine:Nat)≤(2 ^ 63 - 1) / 8:=by decide
    omega
  have hfit:¬ (!Builtin.List.listFitsIndex k)=true:=by
    rw [fitsIndex_both h1 h2]
    exact Bool.false_ne_true
  have hlong:¬ Builtin.List.listTooLong (its.toArray.size*k.toNat)=true:=by
    rw [qiW hlen]
    exact Bool.false_ne_true
  have hnew:List.foldl (fun x1 x2=>x1++x2) #[] (List.replicate (if its.toArray.isEmpty=true then 0 else k.toNat) its.toArray)=(List.replicate k.toNat its).flatten.toArray:=by
    have f0:∀ m:Nat,List.foldl (fun x1 x2=>x1++x2) #[] (List.replicate m its.toArray)=(List.replicate m its).flatten.toArray:=fun m=>by
      have:=qdU its m []
      rw [List.nil_append] at this
      exact this
    rw [f0]
    cases its with
    | nil=>simp
    | cons a r'=>rw [if_neg (by simp)]
  refine wpAny_binaryOp_repeat_ref (T:="list") (U:="int") (by decide) ⟨_,e,rfl⟩ (fun s'=>typeIs_int s' k t) noFill_list_mul F.fills_int_mul F.slot_int_rmul repeat_list F.slot_int_index.lookup
    (call_meets F.slot_int_rmul (typeIs_int s k t) F.entry_int_rmul (F.args_int_rmul_2 _ _) (int___rmul___int_list k t l its.toArray n)
      ⟨e,rfl,⟨_,e,rfl⟩,call_meets F.slot_list_mul ⟨_,e,rfl⟩ F.entry_list_mul (F.args_list_mul_2 _ _) (AutoListH.list___mul___list_int_3 l its.toArray n k t hfit hcap hlong) ⟨e,?_⟩⟩)
  rw [hnew]
  exact ⟨.ref _,_,I.lnew (t':=s.toks) (r.rep k.toNat) (by rw [qge,Nat.mul_comm];exact hz),rfl,q _ I.fresh⟩
end
section
variable {prog : Program} {w : World} {A : Around} {E : Value → Shared → Prop} {s : Shared}
end
section
variable {X : Cx}
end
end L2
namespace Att
open PySem PySem.W PySem.Calls PyProof.Rows
theorem qdN {P:Params} {h:Heap}:∀ (ns:List Int) (vs:List Value),WellAll P h vs (ns.map WData.int)→IntsAre vs ns:=by
  intro ns
  induction ns with
  | nil =>
    intro vs w
    rw [List.map_nil] at w
    cases w
    exact .nil
  | cons n ns ih =>
    intro vs w
    rw [List.map_cons] at w
    cases w with
    | cons a b =>
      cases a
      exact .cons _ _ (ih _ b)
theorem qhq {l:OpenLaw} {n:Nat} (hn:l.most=some n) {P:Params} {h:Heap} {args:List WData} {vals:List Value}
    (hpre:l.row.toRowW.claim.pre args=true) (hwl:WellAll P h vals args) :
    ∃ a vs ns,vals=[Value.ref a]∧args=[WData.list (ns.map WData.int)]∧h.get? a=some { cls:=.type "list",data:=.seq vs.toArray }∧IntsAre vs ns∧ns.length≤n:=by
  have hsh:WShape.hasAll [] args [.list .int]=true:=(pre_splitW hpre).1
  have hc:l.pre.holds [] { args:=args }=true:=(pre_splitW hpre).2
  obtain ⟨d,r,rfl,h1,h2⟩:=hasAllW_cons hsh
  obtain rfl:=hasAllW_nil h2
  obtain ⟨xs,rfl,h3⟩:=hasW_list h1
  obtain ⟨ns,rfl⟩:=items_int h3
  have hlen:ns.length≤n:=by
    unfold OpenLaw.pre at hc
    have h4:(WTm.not (.lt (.lit (.int (n:Int))) (.len (.arg 0)))).holds [] { args:=[.list (ns.map .int)] }=true:=by
      have h4:=(holds_andW hc).1
      rw [hn] at h4
      exact h4
    have h5:=condW_of h4 (w_not (w_lt w_lit (w_len_list (w_arg rfl))))
    rw [List.length_map] at h5
    refine Nat.le_of_not_lt fun q=>?_
    have q':(n:Int)<((ns.length:Nat):Int):=by omega
    first
      | (rw [decide_eq_true q'] at h5;exact absurd h5 (by decide))
      | (simp at h5;omega)
  cases hwl with
  | cons w1 w2 =>
    cases w2
    cases w1 with
    | list ho hall=>exact ⟨_,_,ns,rfl,rfl,ho,qdN ns _ hall,hlen⟩
theorem qhH (l:OpenLaw) (args:List WData):l.row.toRowW.claim.post args (.bool true) args=true :=
  postW_of (r:=l.row.toRowW) (X:=(true == true))
    (show WShape.has [] (.bool true) .bool=true by first | rfl | decide | simp [WShape.has,WShape.arms,WShape.armsAll])
    (show (WTm.eq .res (.lit (.bool true))).value [] { args:=args,res:=some (.bool true),after:=args }=some (.bool (true == true)) from w_eq_bool (w_res rfl) w_lit) rfl
theorem attach_call {l:OpenLaw} {n:Nat} {q:Program} {loose:List Str} {XP:(Str→Option Value)→Heap→Prop} {YP:World→Heap→Prop} {d:DefRec}
    (hn:l.most=some n) (hdf:d.params.defaults=[])
    (call:∀ (w:World) (s₀ s₁:Shared) (mg mb:Str→Option Value) (fa:Addr) (o:Obj) (pm cd doc:Value) (a:Addr) (vs:List Value) (ns:List Int),
      Ground q loose [] XP w s₀ mg mb s₁.heap→YP w s₁.heap →
      s₁.heap.get? fa=some o→o.data=.func (docDef d.name d.params d.body d.scope pm cd doc)→s₁.heap.CodeRec cd d.name→mg d.name=some (.ref fa) →
      s₁.heap.get? a=some { cls:=.type "list",data:=.seq vs.toArray }→IntsAre vs ns→ns.length≤n→s₁.gens=#[] →
      codeAny (model l.prog w) callerA (.call (.ref fa) ⟨[.ref a],[]⟩) (fun r s'=>r=.ok (.ret (.bool true))∧OldK s₁.heap s'.heap∧s'.os=s₁.os∧AllBare s'.gens) s₁) :
    WalkO q loose XP YP l.row.toRowW d [] (fun f vs=>PySem.call f vs):=by
  intro w s₀ s₁ mg mb G Y fa o pm cd doc dV kV ho hd hcd hD hmg hg args vals as hpre hlay hrd hwl hlo
  obtain rfl:dV=.none:=Dflts.none hD hdf
  obtain rfl:kV=.none:=Dflts.noKw hD
  obtain ⟨a,vs,ns,rfl,rfl,hobj,hints,hlen⟩:=qhq hn hpre hwl
  refine enter_call (codeAny_mono (call w s₀ s₁ mg mb fa o pm cd doc a vs ns G Y ho (fd_plain hd) hcd hmg hobj hints hlen hg) fun r s' hq=>?_)
  obtain ⟨rfl,h2,h3,h4⟩:=hq
  exact ⟨.inl ⟨.bool true,.bool true,[],rfl,fun _=>rfl,.bool true,qhH l _,fun _=>⟨List.Pairwise.nil,fun _ hm=>(nomatch hm)⟩⟩,h2,h3,h4⟩
section
variable {prog : Program} {w : World} {A : Around} {E : Value → Shared → Prop} {s : Shared} {K : Frag}
def noObjs (h:Heap):Heap:={ h with objs:=#[] }
theorem noObjs_get (h:Heap) (b:Addr):(noObjs h).get? b=none:=by
  cases e:(noObjs h).get? b with
  | none=>rfl
  | some o=>exact absurd (Heap.lt_size e) (Nat.not_lt_zero _)
theorem fr_all {h:Heap} {L:Addr} {m:Str→Option Value} (n:h.Ns L m):Fr (noObjs h) L h m :=
  ⟨n,fun b o e=>(by rw [noObjs_get] at e;cases e),Nat.zero_le _⟩
end
end Att
namespace L2
open PySem PySem.Spec PyProof.Rows
theorem qfk:∀ {vs:List Value} {ns:List Int},IntsAre vs ns→Vals (ns.map V.int) vs
  | _,_,.nil=>.nil
  | _,_,.cons n t h=>.cons ⟨t,rfl⟩ (qfk h)
end L2
/- THE LAST THEOREM (shape;LID,My.* are yours):
   My.Adr: a structure of the addresses that your layer names (classes,functions);My.Txt K t: a structure (Prop) of the equations over K;
   My.txt_mk:{K} {implicit addresses ..} (e1:nsIn K mainGlobals "law"=some (some (.ref f))) (e2:K.lookup f=some ⟨oc,od,.func (fnOf "law" "law" params body scope dV kV doc pm an cdv ct),sl⟩) (e3:codeIn K cdv "law"=true) ..:∃ t,My.Txt K t
set_option maxRecDepth 100000 in
set_option maxHeartbeats 0 in
theorem PySem.Challenge.cw_LID_holds : PySem.Challenge.rw_LID.Holds := by
  w_on;o_law;k_head;(case hw=>w_witness2)
  k_fill
  refine L2.walk_of (l:=PySem.Challenge.rw_LID) (n:=63) (k:=40) (x:="script") (CX:=fun w=>..) (sp:=fun _=>My.sp_law) rfl (by decide) rfl ⟨rfl,by decide,by decide⟩ (fun w h Y=>PySem.W.kIn_of Y) ?F ?S ?C
  case F =>
    intro w mg fa h KX G hmg
    have T:∃ t,My.Txt (L2.KOf KX) t:=by
      dsimp only [L2.KOf]                          -- K must stand as «<heap const> w.params» for k_is
      refine' My.txt_mk ?e1 ?e2 ?e3 ..
      (case e1=>PySem.W.k_is)                    -- in the order: a name -> its address -> its object -> its parts
      (case e2=>PySem.W.k_is)
      ..
    obtain ⟨t,T⟩:=T
    have e0:=hmg.symm.trans (PySem.W.mg_of KX G T.law)
    cases e0                                       -- fa is the law's own address
    exact ⟨_,fun s u=>.of_eq rfl,fun base kb nb=>My.law_fn T kb nb⟩     -- if «.of_eq rfl» comes too early: refine' ⟨_,?b,fun base kb nb=>My.law_fn T kb nb⟩;exact fun s u=>.of_eq rfl
  case S=>exact fun w H a ns hl hO hS=>..
  case C=>exact ..
(the tactic k_is has no namespace: write k_is) -/
namespace L2
open PySem PySem.Spec PyProof.Rows
def qll (s:Stmt) (j:Nat):Stmt:=match s with
  | .ClassDef _ _ _ body _ _ _ _ _ _ _=>body.getD j (.Pass ⟨0,0,0,0⟩)
  | _=>.Pass ⟨0,0,0,0⟩
def qbQ (s:Stmt):Arguments:=match s with
  | .FunctionDef _ a _ _ _ _ _ _ _ _=>a
  | _=>{ posonlyargs:=[],args:=[],vararg:=none,kwonlyargs:=[],kw_defaults:=[],kwarg:=none,defaults:=[] }
def qbf (s:Stmt):List Stmt:=match s with
  | .FunctionDef _ _ b _ _ _ _ _ _ _=>b
  | _=>[]
def qag (s:Stmt):Scope:=match s with
  | .FunctionDef _ _ _ _ _ _ sc _ _ _=>sc
  | _=>{ kind:=.function,names:=[],isGenerator:=false,isCoroutine:=false }
abbrev CX0:CXT:=fun _ _ _ _ _ _=>False
abbrev E0:XK:=fun _ _ _=>False
theorem qlg {X:Cx}:qdY CX0 X E0:=fun _ _ _ _ _ _ _ h=>h.elim
structure Fun (K:PySem.W.Frag) (x qual:Str) (st:Stmt) (f:Addr) (fd:FuncData):Prop where
  ex:∃ (oc:Value) (od:Option Addr) (kV doc pm:Value) (an:Option Addr) (cdv ct:Value) (osl:Array (Option Value)),
    fd=PySem.W.fnOf x qual (qbQ st) (qbf st) (qag st) .none kV doc pm an cdv ct∧K.lookup f=some ⟨oc,od,.func fd,osl⟩∧PySem.W.codeIn K cdv qual=true
  kp:PySem.W.keepIn K (.ref f)=true
section
variable {P : Program} {w : World} {K : PySem.W.Frag} {mg : Str → Option Value} {base : Heap}
theorem Fun.ok {x qual:Str} {st:Stmt} {f:Addr} {fd:FuncData} {N ps:List Str} {k:Nat} {sp:Sp} (F:Fun K x qual st f fd) (S:FnScope N ps (qag st)) (len:∀ vs H Q E,sp vs H Q E→vs.length=ps.length)
    (hbody:∀ (cdv:Value) (A:Around) (outer:List Env) (s:Shared) (H:Hp) (vs:List V) (Q:VK) (E:XK),Room k (A.deeper (envOfC qual (qag st) s.heap.objs.size f cdv))→sp vs H Q E →
      ∃ t,PSs (qjr CX0 P w K mg base N qual (qag st) f cdv A outer s H E).nox (qbf st) t∧t { nx:=fun _ H'=>Q .non H',rt:=Q } (start N vs) H):FnOk P w K mg base CX0 (k+1) f fd ps sp:=by
  obtain ⟨oc,od,kV,doc,pm,an,cdv,ct,osl,rfl,lk,hcd⟩:=F.ex
  refine qmC lk hcd S len fun A outer s H vs Q E hr hsp=>?_
  obtain ⟨t,h,q⟩:=hbody cdv A outer s H vs Q E hr hsp
  exact ⟨t,h.nox,q⟩
theorem Fun.binds {x qual:Str} {st:Stmt} {f:Addr} {fd:FuncData} {ps:List Str} (F:Fun K x qual st f fd)
    (h:∀ (kV doc pm:Value) (an:Option Addr) (cdv ct:Value) (us:List Value),us.length=ps.length→bindArgs (PySem.W.fnOf x qual (qbQ st) (qbf st) (qag st) .none kV doc pm an cdv ct) ⟨us,[]⟩=pure (ps.zip us)):Binds K fd ps []:=by
  obtain ⟨oc,od,kV,doc,pm,an,cdv,ct,osl,rfl,lk,hcd⟩:=F.ex
  exact .all (h kV doc pm an cdv ct)
theorem qhC {x qual:Str} {st:Stmt} {f:Addr} {oc:Value} {od an:Option Addr} {osl:Array (Option Value)} {kV doc pm cdv ct:Value} (l:K.lookup f=some ⟨oc,od,.func (PySem.W.fnOf x qual (qbQ st) (qbf st) (qag st) .none kV doc pm an cdv ct),osl⟩)
    (c:PySem.W.codeIn K cdv qual=true) (k:PySem.W.keepIn K (.ref f)=true):Fun K x qual st f (PySem.W.fnOf x qual (qbQ st) (qbf st) (qag st) .none kV doc pm an cdv ct):=⟨⟨oc,od,kV,doc,pm,an,cdv,ct,osl,rfl,l,c⟩,k⟩
end
theorem qap {n:Nat} (h:n≤1000):n<sizeLine:=Nat.lt_of_le_of_lt h (by decide)
section
variable {X : Cx}
theorem pv (i:Nat) {x:Str} {pos:Pos} (hN:X.N[i]?=some x:=by rfl) (hv:Vis X.env.scope x:=by first | exact Or.inl rfl | exact Or.inr (Or.inl rfl) | exact Or.inr (Or.inr rfl)) (hd:(x == ("__debug__":Str))=false:=by decide)
    (hcd:(x == ("__classdict__":Str))=false:=by decide):PE X (.Name x pos) (qnX i):=qmM hN hv hd hcd
end
theorem qnt {A B:Prop} (h:B):if false=true then A else B:=by
  rw [if_neg Bool.false_ne_true]
  exact h
theorem qm7 {A B:Prop} (h:A):if true=true then A else B:=by
  rw [if_pos rfl]
  exact h
def Same (H H':Hp):Prop:=∀ b o,H b=some o→H' b=some o
theorem Same.refl (H:Hp):Same H H:=fun _ _ h=>h
theorem Same.trans {H H1 H2:Hp} (a:Same H H1) (b:Same H1 H2):Same H H2:=fun c o h=>b c o (a c o h)
theorem Same.free {H H':Hp} (e:Same H H') {l:Addr} (h:H' l=Option.none):H l=Option.none:=by
  cases q:H l with
  | none=>rfl
  | some o =>
    rw [e l o q] at h
    cases h
theorem Same.seq {K:PySem.W.Frag} {H H':Hp} {a:Addr} {xs:List V} (e:Same H H') (h:SqL K H a xs):SqL K H' a xs:=by
  rcases h with (h | ⟨o,h⟩) | h
  · exact .inl (.inl (e _ _ h))
  · exact .inl (.inr ⟨o,e _ _ h⟩)
  · exact .inr h
section
variable {κ : Type} [DecidableEq κ]
end
section
variable {P : Program} {w : World} {H : Hp} {h : Heap} {a : Addr}
end
section
variable {X : Cx} {pins : List (Addr × Obj)} {σ : St} {H : Hp} {s : Shared} {a : Addr} {y v : V} {u r : Value} {o : Option V} {A : Around} {E : Value → Shared → Prop}
end
section
variable {X : Cx} {pins : List (Addr × Obj)} {σ : St} {H : Hp} {s : Shared} {a : Addr} {kvs : List (Key × V)} {k : Key} {u : Value} {A : Around} {E : Value → Shared → Prop}
end
section
variable {X : Cx} {o i e value : Expr} {pos pos' tpos : Pos} {td ty tv : TE}
end
section
variable {X : Cx} {pos : Pos}
end
end L2
set_option maxHeartbeats 4000000
namespace L2
open PySem PySem.Spec PyProof.Rows
theorem qhd {env:Env} (names:List (Str × NameKind)) (hf:∀ x∈names,x.2=.free→∃ c,env.cells.lookup x.1=some c):∀ acc:List (Str × Addr),
    ∃ cl:List (Str × Addr),(forIn names acc (fun (x:Str × NameKind) cs=>if (x.2 == .free)=true then do let a ← cellOf env x.1;pure (ForInStep.yield ((x.1,a)::cs)) else pure (ForInStep.yield cs)):Sem (List (Str × Addr)))=pure cl ∧
      (∀ p∈cl,p∈acc∨env.cells.lookup p.1=some p.2)∧(∀ p∈acc,p∈cl)∧∀ x,(x,NameKind.free)∈names→∃ c,(x,c)∈cl:=by
  induction names with
  | nil=>intro acc;exact ⟨acc,rfl,fun p hp=>.inl hp,fun _ hp=>hp,fun x hx=>by simp at hx⟩
  | cons n r ih =>
    intro acc
    obtain ⟨n,k⟩:=n
    have hr:∀ x∈r,x.2=.free→∃ c,env.cells.lookup x.1=some c:=fun x hx=>hf x (List.mem_cons_of_mem _ hx)
    by_cases hk:k=.free
    · subst hk
      obtain ⟨c,hc⟩:=hf (n,.free) List.mem_cons_self rfl
      obtain ⟨cl,e,h1,h2,h3⟩:=ih hr ((n,c)::acc)
      refine ⟨cl,?_,fun p hp=>?_,fun p hp=>h2 p (List.mem_cons_of_mem _ hp),fun x hx=>?_⟩
      · rw [List.forIn_cons,← e]
        have q:cellOf env n=pure c:=by unfold cellOf;rw [hc]
        simp [q]
      · rcases h1 p hp with z | z
        · rcases List.mem_cons.mp z with rfl | z
          · exact .inr hc
          · exact .inl z
        · exact .inr z
      · rcases List.mem_cons.mp hx with z | z
        · cases z;exact ⟨c,h2 _ List.mem_cons_self⟩
        · exact h3 x z
    · obtain ⟨cl,e,h1,h2,h3⟩:=ih hr acc
      refine ⟨cl,?_,h1,h2,fun x hx=>?_⟩
      · rw [List.forIn_cons,← e]
        have q:(k == NameKind.free)=false:=by simpa using hk
        simp [q]
      · rcases List.mem_cons.mp hx with z | z
        · cases z;exact absurd rfl hk
        · exact h3 x z
theorem qew {cl:List (Str × Addr)} {cells:List (Str × Addr)} (h:∀ p∈cl,cells.lookup p.1=some p.2):∀ x c,cl.lookup x=some c→cells.lookup x=some c:=fun x c e=>h (x,c) (PySem.mem_of_lookup e)
theorem qg1 {cl:List (Str × Addr)} {x:Str} {c:Addr}:(x,c)∈cl→∃ c',cl.lookup x=some c':=by
  induction cl with
  | nil=>intro h;simp at h
  | cons p r ih =>
    intro h
    rw [List.lookup_cons]
    cases e:x == p.1 with
    | true=>exact ⟨_,rfl⟩
    | false =>
      rcases List.mem_cons.mp h with z | z
      · subst z;simp at e
      · exact ih z
theorem qcb {scope:Scope} {env:Env} (hf:∀ x∈scope.names,x.2=.free→∃ c,env.cells.lookup x.1=some c) :
    ∃ cl,closureFor scope env=pure cl∧(∀ x c,cl.lookup x=some c→env.cells.lookup x=some c)∧∀ x,(x,NameKind.free)∈scope.names→∃ c,cl.lookup x=some c:=by
  obtain ⟨cl,e,h1,_,h3⟩:=qhd (env:=env) scope.names hf []
  refine ⟨cl,?_,qew fun p hp=>(h1 p hp).elim (fun z=>by simp at z) id,fun x hx=>?_⟩
  · unfold closureFor
    simp only
    rw [← e]
    simp
  · obtain ⟨c,hc⟩:=h3 x hx
    exact qg1 hc
theorem qcD {env:Env}:∀ {names:List (Str × NameKind)} {x:Str} {k:NameKind},
    (names.map fun (n,k)=>if (k == NameKind.free && env.scope.kind == .function && env.kindOf n == some .cell) then (n,NameKind.cell) else (n,k)).lookup x=some k→(k=.cell∨k=.free)→(x,NameKind.free)∈names∨(x,NameKind.cell)∈names
  | [],_,_,h,_=>by simp at h
  | (n,k)::r,x,kk,h,hk=>by
    have ih:=@qcD env r x kk
    have h:List.lookup x ((if (k == NameKind.free && env.scope.kind == .function && env.kindOf n == some .cell)=true then (n,NameKind.cell) else (n,k))::_)=_:=h
    by_cases hb:(k == NameKind.free && env.scope.kind == .function && env.kindOf n == some .cell)=true
    · rw [if_pos hb] at h
      have kf:k=.free:=by
        simp only [Bool.and_eq_true,beq_iff_eq] at hb
        exact hb.1.1
      rw [List.lookup_cons] at h
      cases e:x == n with
      | true =>
        have:x=n:=by simpa using e
        subst this;subst kf
        exact .inl List.mem_cons_self
      | false =>
        simp only [e] at h
        exact (ih h hk).imp (List.mem_cons_of_mem _) (List.mem_cons_of_mem _)
    · rw [if_neg hb] at h
      rw [List.lookup_cons] at h
      cases e:x == n with
      | true =>
        have kk':k=kk:=by simpa [e] using h
        have:x=n:=by simpa using e
        subst this
        subst kk'
        rcases hk with rfl | rfl
        · exact .inr List.mem_cons_self
        · exact .inl List.mem_cons_self
      | false =>
        simp only [e] at h
        exact (ih h hk).imp (List.mem_cons_of_mem _) (List.mem_cons_of_mem _)
def qaW (X:Cx) (scope:Scope) (N':List Str) (cl:List (Str × Addr)) (C:Addr) (s0:Shared) (H0:Hp) (fp:List Addr):Cx where
  prog:=X.prog
  w:=X.w
  K:=X.K
  mg:=X.mg
  base:=X.base
  A:=X.A
  N:=N'
  s₀:=s0
  H₀:=H0
  env:=compEnvC scope cl C X.env
  outer:=X.stack
  stack:=X.stack
  ex:=fp
  fn:=fun x=>scope.names.lookup x == some .cell
  calm:=X.calm
  pn:=[]
  xe:=fun _ _=>False
def qch (cap:List (Option Nat)) (σ:St):St:=cap.map fun o=>o.bind fun i=>(σ[i]?).join
structure CompScope (N:List Str) (sc scope:Scope) (N':List Str) (cap:List (Option Nat)):Prop where
  kind:scope.kind=.function
  cel:∀ x∈scope.names,x.2=.cell→scope.names.lookup x.1=some .cell
  names:∀ x∈scope.names,x.2=.local→scope.names.lookup x.1=some .local
  free:∀ x∈scope.names,x.2=.free→sc.names.lookup x.1=some .cell
  fst:∀ x∈scope.names,x.2=.free→scope.names.lookup x.1=some .free
  nd:N'.Nodup
  len:cap.length=N'.length
  at_:∀ p∈cap.zip N',∀ i,p.1=some i→N[i]?=some p.2∧(p.2,NameKind.free)∈scope.names
def qln (X:Cx) (ifs:List Expr) (t:TT):Prop :=
  ∀ (pins:List (Addr × Obj)) (s:Shared) (σ:St) (H:Hp) (Q:Bool→Hp→Prop),Inv X pins σ H s→t σ H Q →
    wpAny (model X.prog X.w) X.A (forIn ifs true fun c r=>if r=true then do let ok ← isTrue c X.env (eval c X.env);pure (ForInStep.yield ok) else pure (ForInStep.yield r)) (TP X pins σ Q) X.xe s
def qoK:TT:=fun _ H Q=>Q true H
theorem qja {X:Cx}:qln X [] qoK:=fun _ _ _ H _ I h=>wpAny_tests_nil ⟨H,I,h⟩
theorem qiV {X:Cx} {c:Expr} {t:TT} (h:PT X c t):qln X [c] t:=fun pins s σ H Q I hw=>wpAny_tests_one (h pins s σ H Q I hw)
def qeN (wi:TI) (cap:List (Option Nat)) (g:TG) (tc:TT) (te:TE):TE:=fun σ H Q=>wi σ H fun J H1=>∀ D,H1 D=none→∃ W:Nat→Nat→St→Hp→Prop,(∃ m,W 0 m (qch cap σ) (upd H1 D (.lst []))) ∧
  ∀ i m σ' H',W i m σ' H'→(J.stop i H'∧Q (.ref D) H')∨(J.go i H'∧∃ N:St→Hp→Prop,(∀ σ2 H2,N σ2 H2→∃ m',m'<m∧W (i+1) m' σ2 H2) ∧
    ∀ x H2,J.yld i H' x H2→g x σ' H2 fun σ3 H3=>tc σ3 H3 fun b H4=>if b=true then te σ3 H4 fun y H5=>∃ ys,H5 D=some (.lst ys)∧ys.length<sizeLine∧N σ3 (upd H5 D (.lst (ys++[y]))) else N σ3 H4)
theorem qga {prog:Program} {w:World} {A:Around} {R:Result→Shared→Prop} {s:Shared} {elt target iter:Expr} {ifs:List Expr} {scope:Scope} {pos:Pos} {it acc:Value} {env:Env} (I:Nat→Shared→Prop)
    (turn:∀ n s,I n s→wpAny (model prog w) A (pyNext it) (fun r s₁=>match r with
      | none=>R (.ok .next) s₁
      | some v=>wpAny (model prog w) A (letOwnedTupleGo target it v) (fun _ s₁'=>wpAny (model prog w) A (assign target env v) (fun _ s₂ =>
          wpAny (model prog w) A (forIn ifs true fun c r=>if r=true then do let ok ← isTrue c env (eval c env);pure (ForInStep.yield ok) else pure (ForInStep.yield r)) (fun ok s₃ =>
            if ok=true then wpAny (model prog w) A (eval elt env) (fun x s₄ =>
              wpAny (model prog w) A (call (.builtin "list.append") [acc,x]) (fun _ s₅=>∃ m,m<n∧I m s₅) (fun _ _=>False) s₄) (fun _ _=>False) s₃
            else ∃ m,m<n∧I m s₃) (fun _ _=>False) s₂) (fun _ _=>False) s₁') (fun _ _=>False) s₁) (fun _ _=>False) s)
    (n:Nat) (h:I n s):codeAny (model prog w) A (.compLoop (.ListComp elt [⟨target,iter,ifs,0⟩] scope pos) 0 it acc env) R s:=by
  refine codeAny_loop rfl I (fun n s hI=>?_) n h
  show wpAny _ A ((compTurn (.ListComp elt [⟨target,iter,ifs,0⟩] scope pos) 0 it acc env).onRaise (fun x=>do noteFrame x env;theTreesLotGoes x)) _ _ s
  refine wpAny_noted ?_
  rw [compTurn_list]
  refine wpAny_bind (wpAny_standAt (wpAny_bind (wpAny_mono (turn n s hI) (fun r s₁ h₁=>?_) fun _ _ h'=>h'.elim)))
  cases r with
  | none=>exact wpAny_pure h₁
  | some v =>
    refine wpAny_bind (wpAny_mono h₁ (fun _ s₁' h₁'=>?_) fun _ _ h'=>h'.elim)
    refine wpAny_bind (wpAny_mono h₁' (fun _ s₂ h₂=>wpAny_bind (wpAny_mono h₂ (fun ok s₃ h₃=>?_) fun _ _ h'=>h'.elim)) fun _ _ h'=>h'.elim)
    cases ok with
    | false=>exact wpAny_pure ⟨rfl,h₃⟩
    | true =>
      exact wpAny_bind (wpAny_bind (wpAny_mono h₃ (fun x s₄ h₄=>wpAny_bind (wpAny_mono h₄ (fun _ s₅ h₅=>wpAny_pure (wpAny_pure ⟨rfl,h₅⟩)) fun _ _ h'=>h'.elim)) fun _ _ h'=>h'.elim))
section
variable {X : Cx} {elt tg iter : Expr} {ifs : List Expr} {scope : Scope} {pos : Pos} {N' : List Str} {cap : List (Option Nat)} {wi : TI} {g : TG} {tc : TT} {te : TE}
theorem qbl:∀ (names:List (Str × NameKind)) (n:Nat) (acc:List (Str × Addr)),cellsFrom n names acc=cellsFrom n names []++acc
  | [],_,_=>rfl
  | (x,k)::r,n,acc=>by
    unfold cellsFrom
    split
    · rw [qbl r (n+1) ((x,n)::acc),qbl r (n+1) [(x,n)],List.append_assoc];rfl
    · exact qbl r n acc
theorem qb4:∀ (names:List (Str × NameKind)) (n:Nat) {x:Str} {c:Addr},(x,c)∈cellsFrom n names []→(x,NameKind.cell)∈names
  | [],_,_,_,h=>by simp [cellsFrom] at h
  | (y,k)::r,n,x,c,h=>by
    unfold cellsFrom at h
    split at h
    · rename_i hk
      rw [qbl] at h
      rcases List.mem_append.mp h with h | h
      · exact List.mem_cons_of_mem _ (qb4 r _ h)
      · have e:=List.mem_singleton.mp h
        cases e
        have:k=.cell:=by simpa using hk
        subst this
        exact List.mem_cons_self
    · exact List.mem_cons_of_mem _ (qb4 r _ h)
theorem qiO {M:Model} {A:Around} {E:Value→Shared→Prop} {s:Shared} {globals:Addr} {cl:List (Str × Addr)} {qual:Str} {outer:Env} {Q:Env→Shared→Prop}
    (hQ:∀ h',h'.Ns s.heap.objs.size (fun _=>none)→(∀ b o,s.heap.get? b=some o→h'.get? b=some o)→CellsOk h' (s.heap.objs.size+1) (cellsFrom (s.heap.objs.size+1) scope.names []) →
      Q { scope:=scope,locals:=s.heap.objs.size,globals:=globals,cells:=cellsFrom (s.heap.objs.size+1) scope.names []++cl,qual:=qual,func:=none,code:=outer.code,frame:=outer.frame,builtins:=outer.builtins } { s with heap:=h' }) :
    wpAny M A (newFunctionEnv scope globals cl [] qual none .none (some outer)) Q E s:=by
  simp only [newFunctionEnv,Option.isSome_some,if_true]
  refine wpAny_bind (wpAny_alloc ?_)
  refine wpAny_bind (wpAny_layCells _ (fun name kind cells=>by cases hkc:kind == NameKind.cell <;> simp [hkc]) _ _ _ _ ?_)
  have ok:=cellsFrom_ok scope.names (s.heap.push { cls:=.type "dict",data:=.dict #[] }) (s.heap.objs.size+1) [] ⟨fun _ _ hm=>(nomatch hm),List.Pairwise.nil⟩ (by rw [Heap.size_push];exact Nat.le_refl _)
  rw [Heap.size_push] at ok
  rw [show ({ s with heap:=s.heap.push { cls:=.type "dict",data:=.dict #[] } }:Shared).heap.objs.size=s.heap.objs.size+1 from Heap.size_push ..,qbl]
  refine wpAny_bind ?_
  rw [List.forIn_nil]
  exact wpAny_pure (wpAny_pure (hQ _ ((Heap.Ns.new s.heap (.type "dict")).keeps (pushCells_keeps _ _)) (fun b o e=>pushCells_keeps _ _ b o (Heap.get?_push_of_some _ e)) ok))
theorem qiK {pins:List (Addr × Obj)} {σ:St} {H:Hp} {s s4:Shared} {cl nw:List (Str × Addr)} {C:Addr} {fp:List Addr} {m:Str→Option Value} (S:CompScope X.N X.env.scope scope N' cap) (I:Inv X pins σ H s)
    (hcl:∀ x c,cl.lookup x=some c→X.env.cells.lookup x=some c) (hfr:∀ x,(x,NameKind.free)∈scope.names→∃ c,cl.lookup x=some c) (hC:s.heap.objs.size≤C) (hos:s4.os=s.os) (hg:s4.gens=s.gens)
    (hk:∀ b o,s.heap.get? b=some o→s4.heap.get? b=some o) (hn:s4.heap.Ns C m) (hfp:∀ b∈fp,FpOk X pins H b) (hfz:∀ b∈fp,b<s.heap.objs.size) (hw:CellsOk s4.heap (C+1) nw) (hwm:∀ x c,(x,c)∈nw→(x,NameKind.cell)∈scope.names) (hwl:∀ x,(x,NameKind.cell)∈scope.names→∃ c,nw.lookup x=some c) :
    Inv (qaW X scope N' (nw++cl) C s H fp) [] (qch cap σ) H s4:=by
  have hlk:∀ x c,(nw++cl).lookup x=some c→((x,c)∈nw∧C<c)∨(nw.lookup x=none∧X.env.cells.lookup x=some c):=fun x c h=>by
    rw [List.lookup_append] at h
    cases e:nw.lookup x with
    | none=>rw [e] at h;exact .inr ⟨rfl,hcl x c (by simpa using h)⟩
    | some c' =>
      rw [e] at h
      have:c'=c:=by simpa using h
      subst this
      exact .inl ⟨PySem.mem_of_lookup e,(hw.empty _ _ (PySem.mem_of_lookup e)).2⟩
  have hold:∀ x c,X.env.cells.lookup x=some c→c<s.heap.objs.size:=fun x c h=>by obtain ⟨v,q⟩:=I.cell x c h;exact q.lt
  have hfr':∀ x,(x,NameKind.free)∈scope.names→∃ c,(nw++cl).lookup x=some c∧X.env.cells.lookup x=some c:=fun x hx=>by
    obtain ⟨c,hc⟩:=hfr x hx
    refine ⟨c,?_,hcl x c hc⟩
    rw [List.lookup_append]
    cases e:nw.lookup x with
    | none=>simpa using hc
    | some c' =>
      have a1:=S.cel _ (hwm x c' (PySem.mem_of_lookup e)) rfl
      have a2:=S.fst _ hx rfl
      have a1:scope.names.lookup x=some .cell:=a1
      have a2:scope.names.lookup x=some .free:=a2
      rw [a1] at a2;cases a2
  refine ⟨⟨I.ok.mod,S.kind,I.ok.glob,I.ok.blt,hC,fun x y c h1 h2=>?_,fun x hx=>?_,fun x c hx h=>?_,I.ok.hd,I.ok.frames,.inl rfl,
      fun b hb=>⟨Nat.ne_of_lt (Nat.lt_of_lt_of_le (hfz b hb) hC),fun x c e=>?_⟩,I.bs,Nat.le_trans I.ok.bsz I.sz,fun b o e hb=>?_,fun b hb hf=>?_,I.stack,I.stkFree⟩,
    hos,by rw [hg];exact I.bare,Un.kept hk,⟨m,hn,fun i x v h1 h2 h3=>?_⟩,fun x c e=>?_,I.hok.fresh hC,fun x c e=>?_,fun p hp=>absurd (show p∈([]:List (Addr × Obj)) from hp) (by simp),I.hok.kept hk,?_⟩
  · rcases hlk x c h1 with ⟨a1,a2⟩ | ⟨_,a2⟩ <;> rcases hlk y c h2 with ⟨b1,b2⟩ | ⟨_,b2⟩
    · exact name_of_addr hw.apart a1 b1
    · exact absurd (hold y c b2) (Nat.not_lt.mpr (Nat.le_trans hC (Nat.le_of_lt a2)))
    · exact absurd (hold x c a2) (Nat.not_lt.mpr (Nat.le_trans hC (Nat.le_of_lt b2)))
    · exact I.ok.inj x y c a2 b2
  · have q:(x,NameKind.free)∈scope.names∨(x,NameKind.cell)∈scope.names:=by
      rcases hx with hx | hx
      · exact qcD hx (.inl rfl)
      · exact qcD hx (.inr rfl)
    rcases q with q | q
    · obtain ⟨c,h,_⟩:=hfr' x q
      exact ⟨c,h⟩
    · obtain ⟨c,h⟩:=hwl x q
      exact ⟨c,by show (nw++cl).lookup x=_;rw [List.lookup_append,h];rfl⟩
  · have hx:(scope.names.lookup x == some .cell)=true:=hx
    have hx:scope.names.lookup x=some .cell:=by simpa using hx
    obtain ⟨c',h'⟩:=hwl x (PySem.mem_of_lookup hx)
    rcases hlk x c h with ⟨_,a2⟩ | ⟨a1,_⟩
    · exact Nat.le_trans hC (Nat.le_of_lt a2)
    · rw [h'] at a1;cases a1
  · rcases hlk x c e with ⟨_,a2⟩ | ⟨_,a2⟩
    · exact fun z=>absurd (hfz b hb) (Nat.not_lt.mpr (Nat.le_trans hC (by rw [← z];exact Nat.le_of_lt a2)))
    · exact (hfp b hb).2.2.2.2.1 x c a2
  · rcases (hfp b hb).2.2.2.1 with z | z
    · exact I.ok.noex b o e z
    · exact absurd (Nat.lt_of_lt_of_le (Heap.lt_size e) (Nat.le_trans I.ok.bsz z)) (Nat.lt_irrefl _)
  · rcases List.mem_cons.mp (I.stkSub b hf) with z | z
    · exact (hfp b hb).2.1 z
    · exact (hfp b hb).2.2.1 z
  · have h2:(cap.map fun o=>o.bind fun i=>(σ[i]?).join)[i]?=some (some v):=h2
    rw [List.getElem?_map] at h2
    cases ec:cap[i]? with
    | none=>rw [ec] at h2;cases h2
    | some o =>
      rw [ec] at h2
      have h2:(o.bind fun i=>(σ[i]?).join)=some v:=by simpa using h2
      cases o with
      | none=>cases h2
      | some j =>
        have h2:(σ[j]?).join=some v:=h2
        have hj:σ[j]?=some (some v):=by
          cases ej:σ[j]? with
          | none=>rw [ej] at h2;cases h2
          | some y=>rw [ej] at h2;exact congrArg some h2
        have hz:(cap.zip N')[i]?=some (some j,x):=by rw [List.getElem?_zip_eq_some];exact ⟨ec,h1⟩
        obtain ⟨q1,q2⟩:=S.at_ _ (List.mem_of_getElem? hz) j rfl
        obtain ⟨mx,hnx,hl⟩:=I.loc
        have kc:=S.free _ q2 rfl
        obtain ⟨u,r,lk⟩:=hl j x v q1 hj (.inr (.inl kc))
        refine ⟨u,r,?_⟩
        rcases lk with ⟨k1,_⟩ | ⟨_,c,e,z⟩
        · have:X.env.scope.names.lookup x=some .local:=k1
          rw [kc] at this;cases this
        · obtain ⟨c',hc',hd'⟩:=hfr' x q2
          rw [e] at hd';cases hd'
          have kx:(compEnvC scope (nw++cl) C X.env).kindOf x=some .cell∨(compEnvC scope (nw++cl) C X.env).kindOf x=some .free∨(compEnvC scope (nw++cl) C X.env).kindOf x=some .local:=by
            rcases h3 with z | z | z
            · exact .inr (.inr z)
            · exact .inl z
            · exact .inr (.inl z)
          rcases kx with kx | kx | kx
          · exact .inr ⟨.inl kx,c,hc',let ⟨o,ho,hd⟩:=z;⟨o,hk c o ho,hd⟩⟩
          · exact .inr ⟨.inr kx,c,hc',let ⟨o,ho,hd⟩:=z;⟨o,hk c o ho,hd⟩⟩
          · exfalso
            have kl:(relabel scope X.env).names.lookup x=some .local:=kx
            have ml:=PySem.mem_of_lookup kl
            obtain ⟨⟨n,k⟩,hm,e2⟩:=List.mem_map.mp ml
            have e2:(if (k == NameKind.free && X.env.scope.kind == .function && X.env.kindOf n == some .cell)=true then (n,NameKind.cell) else (n,k))=(x,NameKind.local):=e2
            split at e2
            · cases e2
            · cases e2
              have a1:=S.names _ hm rfl
              have a3:scope.names.lookup x=some .free:=S.fst _ q2 rfl
              have a1:scope.names.lookup x=some .local:=a1
              rw [a3] at a1;cases a1
  · rcases hlk x c e with ⟨a1,_⟩ | ⟨_,a2⟩
    · exact ⟨none,(hw.empty x c a1).1⟩
    · obtain ⟨v,o,ho,hd⟩:=I.cell x c a2
      exact ⟨v,o,hk c o ho,hd⟩
  · rcases hlk x c e with ⟨_,a2⟩ | ⟨_,a2⟩
    · exact I.hok.fresh (Nat.le_trans hC (Nat.le_of_lt a2))
    · exact I.freeC x c a2
  · show (qch cap σ).length=N'.length
    unfold qch
    rw [List.length_map,S.len]
theorem qeg {pins:List (Addr × Obj)} {σ:St} {H2:Hp} {s2:Shared} {it:Addr} {fp:List Addr} {tn:Nat→Heap→Prop} {J:It} {cl:List (Str × Addr)} {RR:Value→Addr→Result→Shared→Prop} {E:Value→Shared→Prop} (hcalm:X.calm=true) (S:CompScope X.N X.env.scope scope N' cap)
    (hg:∀ (cl:List (Str × Addr)) (C:Addr) (s0:Shared) (H0:Hp),PG (qaW X scope N' cl C s0 H0 fp) tg g) (ht:∀ (cl:List (Str × Addr)) (C:Addr) (s0:Shared) (H0:Hp),qln (qaW X scope N' cl C s0 H0 fp) ifs tc) (he:∀ (cl:List (Str × Addr)) (C:Addr) (s0:Shared) (H0:Hp),PE (qaW X scope N' cl C s0 H0 fp) elt te)
    (I2:Inv X pins σ H2 s2) (T:Turn X.prog X.w X.K tg J fp it tn) (st2:tn 0 s2.heap) (f2:∀ b∈fp,FpOk X pins H2 b)
    (hcl:∀ x c,cl.lookup x=some c→X.env.cells.lookup x=some c) (hfr:∀ x,(x,NameKind.free)∈scope.names→∃ c,cl.lookup x=some c)
    {P:V→Hp→Prop}
    (w:∀ D,H2 D=none→∃ W:Nat→Nat→St→Hp→Prop,(∃ m,W 0 m (qch cap σ) (upd H2 D (.lst []))) ∧
      ∀ i m σ' H',W i m σ' H'→(J.stop i H'∧P (.ref D) H')∨(J.go i H'∧∃ N:St→Hp→Prop,(∀ σ2 H2,N σ2 H2→∃ m',m'<m∧W (i+1) m' σ2 H2) ∧
        ∀ x H2,J.yld i H' x H2→g x σ' H2 fun σ3 H3=>tc σ3 H3 fun b H4=>if b=true then te σ3 H4 fun y H5=>∃ ys,H5 D=some (.lst ys)∧ys.length<sizeLine∧N σ3 (upd H5 D (.lst (ys++[y]))) else N σ3 H4))
    (hRR:∀ D C H' s' m',X.env.locals≠C→X.s₀.heap.objs.size≤C→(∀ x c,X.env.cells.lookup x=some c→c≠C)→(∀ p∈X.pn++pins,p.1≠C)→H' C=none→s'.heap.Ns C m'→Inv X pins σ H' s'→P (.ref D) H'→RR (.ref D) C (.ok .next) s') :
    wpAny (model X.prog X.w) X.A (newList []) (fun acc s₃=>wpAny (model X.prog X.w) X.A (newFunctionEnv scope X.env.globals cl [] X.env.qual none .none (some X.env)) (fun cenv s₄ =>
      codeAny (model X.prog X.w) X.A (.compStart (.ListComp elt [⟨tg,iter,ifs,0⟩] scope pos) 0 (.ref it) acc { cenv with scope:=relabel scope X.env }) (RR acc cenv.locals) s₄) E s₃) E s2:=by
  refine wpAny_newObj_type ?_ (by show 0≤sizeLine;decide)
  have I3:Inv X pins σ (upd H2 s2.heap.objs.size (.lst [])) { s2 with heap:=s2.heap.push { cls:=.type "list",data:=.seq ([]:List Value).toArray } }:=I2.lnew (t':=s2.toks) .nil (by show 0≤sizeLine;decide)
  have k3:∀ b o,s2.heap.get? b=some o→(s2.heap.push { cls:=.type "list",data:=.seq ([]:List Value).toArray }).get? b=some o:=fun b o e=>Heap.get?_push_of_some _ e
  have z3:(s2.heap.push { cls:=.type "list",data:=.seq ([]:List Value).toArray }).objs.size=s2.heap.objs.size+1:=Heap.size_push ..
  have hD0:H2 s2.heap.objs.size=none:=I2.fresh
  generalize hs3:({ s2 with heap:=s2.heap.push { cls:=.type "list",data:=.seq ([]:List Value).toArray } }:Shared)=s3 at I3 ⊢
  have eh3:s3.heap=s2.heap.push { cls:=.type "list",data:=.seq ([]:List Value).toArray }:=by rw [← hs3]
  have eo3:s3.os=s2.os:=by rw [← hs3]
  generalize hDD:s2.heap.objs.size=D at I3 hD0 z3 ⊢
  rw [← eh3] at k3 z3
  have live:∀ b∈fp,∃ o,s2.heap.get? b=some o∧∀ v,o.data≠.cell v:=fun b hb=>T.obj 0 _ st2 b hb
  have ltD:∀ b∈fp,b<D:=fun b hb=>by obtain ⟨o,e,_⟩:=live b hb;rw [← hDD];exact Heap.lt_size e
  have f3:∀ b∈fp,FpOk X pins (upd H2 D (.lst [])) b:=fun b hb=>⟨by rw [qax (Nat.ne_of_lt (ltD b hb))];exact (f2 b hb).1,(f2 b hb).2⟩
  refine qiO fun h4 hn4 k4 ok4=>?_
  generalize hnw:cellsFrom (s3.heap.objs.size+1) scope.names []=nw at ok4 ⊢
  have st4:tn 0 h4:=T.keep 0 _ _ st2 fun b _ o e=>k4 b o (k3 b o e)
  have I4:Inv (qaW X scope N' (nw++cl) s3.heap.objs.size s3 (upd H2 D (.lst [])) fp) [] (qch cap σ) (upd H2 D (.lst [])) { s3 with heap:=h4 } :=
    qiK S I3 hcl hfr (Nat.le_refl _) rfl rfl k4 hn4 f3 (fun b hb=>by rw [z3];exact Nat.lt_succ_of_lt (ltD b hb)) ok4 (fun x c h=>qb4 _ _ (hnw ▸ h)) fun x h=>hnw ▸ qeI (S.cel _ h rfl)
  obtain ⟨W,⟨m0,w0⟩,turn⟩:=w D hD0
  have fpY:∀ {H':Hp},(∀ b∈fp,H' b=none)→∀ b∈fp,FpOk (qaW X scope N' (nw++cl) s3.heap.objs.size s3 (upd H2 D (.lst [])) fp) [] H' b:=fun hn b hb =>
    ⟨hn b hb,Nat.ne_of_lt (by show b<s3.heap.objs.size;rw [z3];exact Nat.lt_succ_of_lt (ltD b hb)),fun hf=>I4.ok.exfs b hb hf,.inl hb,fun x c e=>(I4.ok.exf b hb).2 x c e,fun p hp=>absurd (show p∈([]:List (Addr × Obj)) from hp) (by simp)⟩
  have loop:∀ s₃:Shared,s₃={ s3 with heap:=h4 } →
      codeAny (model X.prog X.w) X.A (.compLoop (.ListComp elt [⟨tg,iter,ifs,0⟩] scope pos) 0 (.ref it) (.ref D) (compEnvC scope (nw++cl) s3.heap.objs.size X.env)) (RR (.ref D) s3.heap.objs.size) s₃:=by
    rintro s₃ rfl
    refine qga (fun n s'=>∃ i σ' H',Inv (qaW X scope N' (nw++cl) s3.heap.objs.size s3 (upd H2 D (.lst [])) fp) [] σ' H' s'∧tn i s'.heap∧(∀ b∈fp,H' b=none)∧W i n σ' H') ?_ m0
      ⟨0,qch cap σ,upd H2 D (.lst []),I4,st4,fun b hb=>(f3 b hb).1,w0⟩
    rintro n s5 ⟨i,σ5,H5,I5,st5,fr5,w5⟩
    rcases turn i n σ5 H5 w5 with ⟨stop,qn⟩ | ⟨go,N,hN,step⟩
    · refine thn (T.done (qaW X scope N' (nw++cl) s3.heap.objs.size s3 (upd H2 D (.lst [])) fp) rfl rfl rfl hcalm i [] s5 σ5 H5 _ I5 (fpY fr5) st5 stop) fun r s6 hq0=>?_
      obtain ⟨hr,I6⟩:=hq0
      subst hr
      obtain ⟨m6,hn6,_⟩:=I6.loc
      have un:Un (frs X.stack) fp (upd H2 D (.lst [])) H5 s3.heap s6.heap:=I6.base
      refine hRR D s3.heap.objs.size H5 s6 m6 (Nat.ne_of_lt I3.lt) I3.sz (fun x c e=>?_) (fun p hp=>?_) I6.free hn6 ?_ qn
      · obtain ⟨v,q⟩:=I3.cell x c e
        exact Nat.ne_of_lt q.lt
      · exact Nat.ne_of_lt (Heap.lt_size (I3.pin p hp).1)
      · exact I3.call' I6.os un I6.hok I6.bare fun b hb=>⟨(f3 b hb).2.2.2.1,(f3 b hb).2.1,(f3 b hb).2.2.2.2.1,(f3 b hb).2.2.2.2.2⟩
    · refine thn (T.item (qaW X scope N' (nw++cl) s3.heap.objs.size s3 (upd H2 D (.lst [])) fp) rfl rfl rfl hcalm i [] s5 σ5 H5 (fun _ _=>False) I5 (fpY fr5) st5 go) fun r s6 hq1=>?_
      obtain ⟨u,hr,h6⟩:=hq1
      subst hr
      refine thn h6 fun _ s7 hq2=>?_
      obtain ⟨x,H7,I7,r7,y7,st7,fr7⟩:=hq2
      have I7':=I7.pinned (fpY fr7) (T.obj _ _ st7)
      refine thn (hg _ _ _ _ _ s7 σ5 H7 x u _ I7' r7 (step x H7 y7)) fun _ s8 hq3=>?_
      obtain ⟨σ8,H8,I8,q8⟩:=hq3
      refine thn (ht _ _ _ _ _ s8 σ8 H8 _ I8 q8) fun b s9 hq4=>?_
      obtain ⟨H9,I9,q9⟩:=hq4
      have again:∀ {σ9:St} {H9:Hp} {s9:Shared},Inv (qaW X scope N' (nw++cl) s3.heap.objs.size s3 (upd H2 D (.lst [])) fp) ([]++qfr fp s7.heap) σ9 H9 s9→N σ9 H9→∃ m,m<n∧∃ i σ' H',Inv (qaW X scope N' (nw++cl) s3.heap.objs.size s3 (upd H2 D (.lst [])) fp) [] σ' H' s9∧tn i s9.heap∧(∀ b∈fp,H' b=none)∧W i m σ' H':=fun {σ9 H9 s9} I9 n9=>by
        obtain ⟨m',hm,w9⟩:=hN σ9 H9 n9
        refine ⟨m',hm,i+1,σ9,H9,I9.unpinned,T.keep _ _ _ st7 fun b hb o e=>(I9.pin (b,o) (List.mem_append_right _ (List.mem_append_right _ (qct hb e)))).1,fun b hb=>?_,w9⟩
        obtain ⟨o,e,d⟩:=T.obj _ _ st7 b hb
        exact (I9.pin (b,o) (List.mem_append_right _ (List.mem_append_right _ (qct hb e)))).2.1
      cases b with
      | false =>
        rw [if_neg (by decide)] at q9 ⊢
        exact again I9 q9
      | true =>
        rw [if_pos rfl] at q9 ⊢
        refine thn (he _ _ _ _ _ s9 σ8 H9 _ I9 q9) fun yv s10 hq5=>?_
        obtain ⟨y,H10,I10,r10,ys,hD10,hz10,q10⟩:=hq5
        refine thn (qfd _ s10 σ8 H10 (.ref D) [y] (.ref D) [yv] (fun _ H'=>N σ8 H') I10 rfl (.cons r10 .nil) ⟨D,ys,y,rfl,rfl,hD10,hz10,q10⟩) fun _ s11 hq6=>?_
        obtain ⟨_,H11,I11,_,q11⟩:=hq6
        exact again I11 q11
  exact codeAny_compStart_list (loop _ rfl) (T.self _ 0 _ _ _ st4 (loop _ rfl))
theorem qhP (hcalm:X.calm=true) (S:CompScope X.N X.env.scope scope N' cap) (hi:PI X tg iter wi)
    (hg:∀ (cl:List (Str × Addr)) (fp:List Addr) (C:Addr) (s0:Shared) (H0:Hp),PG (qaW X scope N' cl C s0 H0 fp) tg g) (ht:∀ (cl:List (Str × Addr)) (fp:List Addr) (C:Addr) (s0:Shared) (H0:Hp),qln (qaW X scope N' cl C s0 H0 fp) ifs tc)
    (he:∀ (cl:List (Str × Addr)) (fp:List Addr) (C:Addr) (s0:Shared) (H0:Hp),PE (qaW X scope N' cl C s0 H0 fp) elt te) (hs:∀ x,foldedSetIterable iter X.env x=pure x:=by intro _;rfl) :
    PE X (.ListComp elt [⟨tg,iter,ifs,0⟩] scope pos) (qeN wi cap g tc te):=by
  intro pins s σ H Q I h
  obtain ⟨cl,ecl,hcl,hfr⟩:=qcb (scope:=scope) (env:=X.env) fun x hx hf=>I.ok.has x.1 (.inl (S.free x hx hf))
  rw [eval_ListComp]
  refine wpAny_comprehension_free (use:=none) rfl hs ecl S.kind S.names (thn (hi pins s σ H _ I h) fun v s1 h1=>thn h1 fun itv s2 h2=>?_)
  obtain ⟨it,fp,tn,J,H2,e,I2,T,st2,f2,w⟩:=h2
  subst e
  refine qeg (RR:=fun acc C=>compPost (model X.prog X.w) X.A X.xe none (EP X pins σ Q) acc C) hcalm S (fun cl=>hg cl fp) (fun cl=>ht cl fp) (fun cl=>he cl fp) I2 T st2 f2 hcl hfr (P:=Q) w ?_
  intro D C H' s' m' hL hz hcc hpp hC hn I' q
  refine ⟨m',hn,fun h' hs'=>⟨.ref D,H',I'.turned (t':=s'.toks) (fun b o hb e=>(hs'.2 b hb).trans e) hC (Ne.symm hL) (.inr hz) hcc hpp,rfl,q⟩⟩
theorem qgf {i:Nat} {y:Str} {py spos:Pos} (hcalm:X.calm=true) (hN:X.N.Nodup) (hy:X.N[i]?=some y) (hx:Loc X.env.scope y) (S:CompScope X.N X.env.scope scope N' cap) (hi:PI X tg iter wi)
    (hg:∀ (cl:List (Str × Addr)) (fp:List Addr) (C:Addr) (s0:Shared) (H0:Hp),PG (qaW X scope N' cl C s0 H0 fp) tg g) (ht:∀ (cl:List (Str × Addr)) (fp:List Addr) (C:Addr) (s0:Shared) (H0:Hp),qln (qaW X scope N' cl C s0 H0 fp) ifs tc)
    (he:∀ (cl:List (Str × Addr)) (fp:List Addr) (C:Addr) (s0:Shared) (H0:Hp),PE (qaW X scope N' cl C s0 H0 fp) elt te) (hsw:swapsWith (.ListComp elt [⟨tg,iter,ifs,0⟩] scope pos) (some (.Name y py)) spos.line X.env=pure true:=by rfl)
    (hs:∀ x,foldedSetIterable iter X.env x=pure x:=by intro _;rfl) (hf:X.fn y=true∨X.env.scope.names.lookup y=some .local:=by first | exact .inl rfl | exact .inr rfl | assumption) :
    PS X (.Assign [.Name y py] (.ListComp elt [⟨tg,iter,ifs,0⟩] scope pos) spos) (qlm (qeN wi cap g tc te) (qf0 i)):=by
  intro pins s σ H D I h
  obtain ⟨cl,ecl,hcl,hfr⟩:=qcb (scope:=scope) (env:=X.env) fun x hx hf=>I.ok.has x.1 (.inl (S.free x hx hf))
  rw [exec_Assign_Name_used _ _ _ _ hsw]
  refine wpAny_bind (wpAny_standAt (wpAny_bind ?_))
  show wpAny _ X.A (do let _ ← comprehension (.ListComp elt [⟨tg,iter,ifs,0⟩] scope pos) scope X.env _ (newList []) false (eval iter X.env) (some (assign (.Name y py) X.env))) _ _ s
  refine wpAny_bind (wpAny_mono (wpAny_comprehension_free (use:=some (assign (.Name y py) X.env)) (Q:=fun _ s'=>SP X pins D .next s') rfl hs ecl S.kind S.names
    (thn (hi pins s σ H _ I h) fun v s1 h1=>thn h1 fun itv s2 h2=>?_)) (fun _ s' hq=>wpAny_pure (wpAny_pure hq)) fun _ _ e=>e)
  obtain ⟨it,fp,tn,J,H2,e,I2,T,st2,f2,w⟩:=h2
  subst e
  refine qeg (RR:=fun acc C=>compPost (model X.prog X.w) X.A X.xe (some (assign (.Name y py) X.env)) (fun _ s'=>SP X pins D .next s') acc C) hcalm S (fun cl=>hg cl fp) (fun cl=>ht cl fp) (fun cl=>he cl fp) I2 T st2 f2 hcl hfr (P:=fun v H'=>D.nx (σ.set i (some v)) H') w ?_
  intro Dd C H' s' m' hL hz hcc hpp hC hn I' q
  show wpAny _ X.A (assign (.Name y py) X.env (.ref Dd)) _ _ s'
  refine wpAny_assign_Name (qfc (v:=.ref Dd) I' hN hy hx rfl (fun s'' I'' hsb=>?_) hf)
  obtain ⟨a,sb,ha⟩:=hsb
  have hCa:C≠a:=by
    rcases ha with z | z
    · rw [z];exact Ne.symm hL
    · exact Ne.symm (hcc y a z)
  refine ⟨m',hn.sameBut sb hCa,fun h' hs'=>?_⟩
  exact ⟨_,H',I''.turned (t':=s''.toks) (fun b o hb e=>(hs'.2 b hb).trans e) hC (Ne.symm hL) (.inr hz) hcc hpp,q⟩
end
open AutoSeq1 (wpAny_loadPart')
theorem Inv.turnedL {X:Cx} {pins:List (Addr × Obj)} {σ:St} {H:Hp} {s:Shared} {h':Heap} {ch:List Addr} {t':Nat} (I:Inv X pins σ H s) (k:∀ b o,b∉ch→s.heap.get? b=some o→h'.get? b=some o) (hf:∀ b∈ch,FpOk X pins H b) :
    Inv X pins σ H { s with heap:=h',toks:=t' }:=by
  have nit:∀ b u,H b=some u→b∉ch:=fun b u e z=>by rw [(hf b z).1] at e;cases e
  refine I.step (g':=s.gens) (d':=s.drawn) (ch:=ch) (fun b hb=>⟨(hf b hb).2.2.2.1,(hf b hb).2.1,(hf b hb).2.2.2.2.1,(hf b hb).2.2.2.2.2⟩) (fun b o _ _ hc e _=>k b o hc e) (fun b o _ _ hc e _=>⟨o.slots,k b o hc e⟩) (fun _ _ _ _ n=>n)
    (fun b o hc e=>⟨o,k b o hc e⟩) (fun _ _ e=>e) (fun _ _ _ e=>e) (fun b ps e=>e) (fun m hm=>?_) (fun b u e=>?_) I.bare
  · obtain ⟨o,es,ep,ho,r⟩:=hm
    exact ⟨o,es,ep,k _ o (fun z=>(hf _ z).2.1 rfl) ho,r⟩
  · refine (I.hok b u e).stay (fun c v hc q=>k c v ?_ q) (fun _ q=>q) (fun _ _ q=>q) fun _ _ _ q=>q
    rcases hc with z | z
    · rw [z];exact nit b u e
    · exact nit c _ z
def SqI (b:Bool) (h:Heap) (it a:Addr) (i:Nat):Prop:=match b with | true=>h.IsListIter it a i | false=>h.IsTupleIter it a i
def SqO (b:Bool) (h:Heap) (a:Addr) (its:Array Value):Prop:=match b with | true=>h.IsList a its | false=>h.IsTuple a its
def SqB (K:PySem.W.Frag) (b:Bool) (H:Hp) (a:Addr) (xs:List V):Prop:=match b with | true=>SqL K H a xs | false=>SqT K H a xs
def qbR (b:Bool) (a:Addr):Obj:=match b with
  | true=>{ cls:=.type "list_iterator",data:=.fields #[.ref a,.int 0 0] }
  | false=>{ cls:=.type "tuple_iterator",data:=.fields #[.ref a,.int 0 0] }
theorem SqI.at {b:Bool} {h h':Heap} {it a:Addr} {i:Nat} (x:SqI b h it a i) (k:∀ o,h.get? it=some o→h'.get? it=some o):SqI b h' it a i:=by
  cases b <;> (obtain ⟨o,e,r⟩:=x;exact ⟨o,k o e,r⟩)
theorem SqO.at {b:Bool} {h h':Heap} {a:Addr} {its:Array Value} (x:SqO b h a its) (k:∀ o,h.get? a=some o→h'.get? a=some o):SqO b h' a its:=by
  cases b <;> (obtain ⟨o,e,r⟩:=x;exact ⟨o,k o e,r⟩)
theorem SqI.obj {b:Bool} {h:Heap} {it a:Addr} {i:Nat} (x:SqI b h it a i):∃ o,h.get? it=some o∧∀ v,o.data≠.cell v:=by
  cases b <;> (obtain ⟨o,e,_,d⟩:=x;exact ⟨o,e,fun v z=>by rw [d] at z;cases z⟩)
theorem SqI.lt {b:Bool} {h:Heap} {it a:Addr} {i:Nat} (x:SqI b h it a i):it<h.objs.size:=by obtain ⟨o,e,_⟩:=x.obj;exact Heap.lt_size e
theorem SqO.lt {b:Bool} {h:Heap} {a:Addr} {its:Array Value} (x:SqO b h a its):a<h.objs.size:=by
  cases b <;> (obtain ⟨o,e,_⟩:=x;exact Heap.lt_size e)
theorem Inv.sqb {X:Cx} {pins:List (Addr × Obj)} {σ:St} {H:Hp} {s:Shared} {b:Bool} {a:Addr} {xs:List V} (I:Inv X pins σ H s) (h:SqB X.K b H a xs):∃ its:List Value,Vals xs its∧SqO b s.heap a its.toArray∧xs.length≤sizeLine:=by
  cases b with
  | true=>obtain ⟨its,rv,p,hz⟩:=I.list h;exact ⟨its,rv,p.isList,hz⟩
  | false=>obtain ⟨its,rv,p,hz⟩:=I.tuple h;exact ⟨its,rv,p,hz⟩
theorem Inv.sqb_inj {X:Cx} {pins:List (Addr × Obj)} {σ:St} {H:Hp} {s:Shared} {b:Bool} {a:Addr} {xs ys:List V} (I:Inv X pins σ H s) (h:SqB X.K b H a xs) (h':SqB X.K b H a ys):xs=ys:=by
  cases b with
  | true=>exact I.list_inj h h'
  | false=>exact I.tuple_inj h h'
theorem SqB.same {K:PySem.W.Frag} {b:Bool} {H H':Hp} {a:Addr} {xs:List V} (e:Same H H') (h:SqB K b H a xs):SqB K b H' a xs:=by
  cases b with
  | true=>exact e.seq h
  | false =>
    rcases h with (h | ⟨o,h⟩) | h
    · exact .inl (.inl (e _ _ h))
    · exact .inl (.inr ⟨o,e _ _ h⟩)
    · exact .inr h
section
variable {prog : Program} {w : World} {A : Around} {E : Value → Shared → Prop} {s : Shared}
theorem qf7 {b:Bool} {a:Addr} {its:Array Value} {Q:Value→Shared→Prop} (h:SqO b s.heap a its) (q:Q (.ref s.heap.objs.size) { s with heap:=s.heap.push (qbR b a) }):wpAny (model prog w) A (pyIter (.ref a)) Q E s:=by
  cases b with
  | true=>exact wpAny_pyIter_list h q
  | false=>exact wpAny_pyIter_tuple h q
theorem qdp {b:Bool} {h:Heap} {it a:Addr} (e:h.get? it=some (qbR b a)):SqI b h it a 0:=by
  cases b <;> exact ⟨_,e,rfl,rfl⟩
theorem qex {b:Bool} {it a:Addr} {i:Nat} {its:Array Value} {x:Value} {Q:Value→Shared→Prop} (hit:SqI b s.heap it a i) (hl:SqO b s.heap a its) (hx:its[i]?=some x)
    (hQ:∀ h',SqI b h' it a (i+1)→Heap.SameBut it s.heap h'→Q x { s with heap:=h' }):wpAny (model prog w) A (Builtin.SmallTypes.nextOf (.ref it)) Q E s:=by
  cases b with
  | true=>exact wpAny_nextOf_list_item hit hl hx hQ
  | false =>
    have hit:s.heap.IsTupleIter it a i:=hit
    obtain ⟨o,ho,hc,hd⟩:=id hit
    obtain ⟨ol,hol,_,nl,hdl⟩:=hl
    unfold Builtin.SmallTypes.nextOf
    refine wpAny_bind (wpAny_callSpecial?_slot (name:=Str.ofString "__next__") hit.typeIs F.slot_tuple_iterator_next (wpAny_call_entry F.slot_tuple_iterator_next hit.typeIs F.entry_tuple_iterator_next ?_ (F.args_tuple_iterator_next_1 _)))
    show wpAny _ _ (field (.ref it) 0 >>= _) _ _ s
    refine wpAny_bind (wpAny_field ho hd (x:=.ref a) rfl ?_)
    show wpAny _ _ (if (Value.ref a == Value.none)=true then _ else _) _ _ s
    rw [if_neg (show ¬ ((Value.ref a == Value.none)=true) from Bool.false_ne_true)]
    show wpAny _ _ (field (.ref it) 1 >>= _) _ _ s
    refine wpAny_bind (wpAny_field ho hd (x:=.int i 0) rfl ?_)
    show wpAny _ _ (seqItems? (.ref a) >>= _) _ _ s
    refine wpAny_bind (wpAny_seqItems hol hdl ?_)
    simp only [Int.toNat_natCast,hx]
    refine wpAny_bind (wpAny_setField ho hd (by simp) (wpAny_pure ⟨x,rfl,wpAny_pure (hQ _ ?_ (Heap.SameBut.update ..))⟩))
    exact ⟨_,Heap.get?_update_self _ ho (Obj.isFreed_of_fields (Obj.data_mapFields hd _)),(Obj.cls_mapFields ..).trans hc,by rw [Obj.data_mapFields hd];simp [rawInt]⟩
theorem qgG {b:Bool} {it a:Addr} {i:Nat} {its:Array Value} {Q:Value→Shared→Prop} (hh:A.handled=none) (hit:SqI b s.heap it a i) (hl:SqO b s.heap a its) (hx:its[i]?=none)
    (hE:∀ h' e,Heap.ExtBut it s.heap h'→(∃ o,h'.get? e=some o∧o.cls=.type "StopIteration")→E (.ref e) { s with heap:=h' }):wpAny (model prog w) A (Builtin.SmallTypes.nextOf (.ref it)) Q E s:=by
  cases b with
  | true=>exact wpAny_nextOf_list_end hh hit hl hx hE
  | false =>
    have hit:s.heap.IsTupleIter it a i:=hit
    obtain ⟨o,ho,hc,hd⟩:=id hit
    obtain ⟨ol,hol,_,nl,hdl⟩:=hl
    unfold Builtin.SmallTypes.nextOf
    refine wpAny_bind (wpAny_callSpecial?_slot (name:=Str.ofString "__next__") hit.typeIs F.slot_tuple_iterator_next (wpAny_call_entry F.slot_tuple_iterator_next hit.typeIs F.entry_tuple_iterator_next ?_ (F.args_tuple_iterator_next_1 _)))
    show wpAny _ _ (field (.ref it) 0 >>= _) _ _ s
    refine wpAny_bind (wpAny_field ho hd (x:=.ref a) rfl ?_)
    show wpAny _ _ (if (Value.ref a == Value.none)=true then _ else _) _ _ s
    rw [if_neg (show ¬ ((Value.ref a == Value.none)=true) from Bool.false_ne_true)]
    show wpAny _ _ (field (.ref it) 1 >>= _) _ _ s
    refine wpAny_bind (wpAny_field ho hd (x:=.int i 0) rfl ?_)
    show wpAny _ _ (seqItems? (.ref a) >>= _) _ _ s
    refine wpAny_bind (wpAny_seqItems hol hdl ?_)
    simp only [Int.toNat_natCast,hx]
    refine wpAny_bind (wpAny_rule (wpAny_bind (wpAny_setField ho hd (by simp) ?_)))
    show wpAny _ _ (newExc (.type "StopIteration") [] >>= _) _ _ _
    refine wpAny_bind ?_
    simp only [newExc,newTuple]
    refine wpAny_bind (wpAny_newObj_type ?_ (by size_fits))
    refine wpAny_bind (m:=firstArgMember _ _) (wpAny_of_eq (a:=Value.none) (by first | rfl | (simp only [firstArgMember];rfl)) ?_)
    refine wpAny_newObj_type ?_ (by size_fits)
    simp only [raiseNew]
    refine wpAny_bind (wpAny_handled ?_)
    first | rw [show A.in1.handled=none from hh] | rw [hh]
    refine wpAny_bind (wpAny_pure (wpAny_throw ?_))
    exact hE _ _ (((Heap.SameBut.update ..).extBut.push _).push _) ⟨_,Heap.get?_push_size _ rfl,rfl⟩
theorem qiS (hh:A.handled=none) (b:Bool) (it a:Addr) (hne:a≠it) (its:Array Value):Draws prog w A it [it,a] its.size (fun i v=>its[i]?=some v) (fun i h=>SqI b h it a i∧SqO b h a its) where
  live:=fun _ _ st=>let ⟨o,e,_⟩:=st.1.obj;⟨o,e⟩
  frame:=fun _ _ _ st k=>⟨st.1.at fun o e=>k it (by simp) o e,st.2.at fun o e=>k a (by simp) o e⟩
  item:=fun i s Q E hi st hQ=>qex st.1 st.2 (x:=its[i]) (by simp [hi]) fun h' q sb=>hQ _ h' s.toks (by simp [hi]) ⟨q,st.2.at fun o e=>(sb.2 a hne).trans e⟩ sb
  done:=fun s Q E st hE=>qgG hh st.1 st.2 (by simp) hE
theorem qip (l:Addr) (items:Array Value) (n:Nat) (dct:Option Addr) (sl:Array (Option Value)) :
    Meets (Builtin.«enumerate.__new__» ⟨[.type "enumerate",.ref l],[]⟩) (fun _ R s=>s.heap.get? l=some { cls:=.type "tuple",dict:=dct,data:=.seq items n,slots:=sl } ∧
      R (.ok (.ret (.ref (s.heap.push (qbR false l)).objs.size)))
        { s with heap:=(s.heap.push (qbR false l)).push { cls:=.type "enumerate",data:=.fields #[.none,.bool false,.ref s.heap.objs.size,rawInt 0,.none,.none] } }) :=
  .of_wp fun prog w A R s h=>by
    obtain ⟨hp,g,d,tk,os⟩:=s;obtain ⟨hl,h⟩:=h
    have hsub:=sub_enumerate
    have hL:Heap.IsTuple (Shared.heap ⟨hp,g,d,tk,os⟩) l items:=⟨_,hl,rfl,n,rfl⟩
    wp_walk using wpAny_loadPart' hl
    refine wpAny_stack_any fun st=>wpAny_pure ?_
    split
    · rename_i c _ _ _ _ _
      cases (c == Value.type "enumerate")
      · (wp_walk using wpAny_loadPart' hl,wpAny_pyIter_tuple hL);exact ⟨_,rfl,h⟩
      · (wp_walk using wpAny_loadPart' hl,wpAny_pyIter_tuple hL);exact ⟨_,rfl,h⟩
    · (wp_walk using wpAny_loadPart' hl,wpAny_pyIter_tuple hL);exact ⟨_,rfl,h⟩
theorem qhK {b:Bool} {l:Addr} {items:Array Value} {Q:Value→Shared→Prop} (hL:SqO b s.heap l items)
    (h:∀ h',IsEnum h' (s.heap.objs.size+1) s.heap.objs.size 0 .none→SqI b h' s.heap.objs.size l 0→h'.objs.size=s.heap.objs.size+2→(∀ b o,s.heap.get? b=some o→h'.get? b=some o)→Q (.ref (s.heap.objs.size+1)) { s with heap:=h' }) :
    wpAny (model prog w) A (call (.type "enumerate") [.ref l]) Q E s:=by
  cases b with
  | true=>exact call_enumerate_list hL h
  | false =>
    obtain ⟨⟨c,dct,dt,sl⟩,hl,hc,n,hd⟩:=hL
    replace hc:c=.type "tuple":=hc
    replace hd:dt=.seq items n:=hd
    subst hc hd
    refine callType_new F.called_enumerate (by decide) (F.typeCall_enumerate_1 _) (F.newCall_enumerate_1 _) (fun obj=>F.args_object_init_2 obj _) F.entry_enumerate_new (qip l items n dct sl) ⟨hl,?_⟩
    have hz:(s.heap.push (qbR false l)).objs.size=s.heap.objs.size+1:=Heap.size_push ..
    show _∧_
    rw [hz]
    have he:=Heap.get?_push_size (s.heap.push (qbR false l)) (o:={ cls:=.type "enumerate",data:=.fields #[.none,.bool false,.ref s.heap.objs.size,rawInt 0,.none,.none] }) rfl
    rw [hz] at he
    have hi:(s.heap.push (qbR false l)).get? s.heap.objs.size=some (qbR false l):=Heap.get?_push_size _ rfl
    exact ⟨⟨_,he,rfl⟩,h _ he (qdp (Heap.get?_push_of_some _ hi)) (by rw [Heap.size_push,hz]) fun b o x=>Heap.get?_push_of_some _ (Heap.get?_push_of_some _ x)⟩
theorem qji {b:Bool} {e it a:Addr} {i:Nat} {j:Int} {its:Array Value} {old:Value} {Q:Option Value→Shared→Prop} (hh:A.handled=none) (he:IsEnum s.heap e it j old) (hit:SqI b s.heap it a i) (hl:SqO b s.heap a its) (hx:its[i]?=none)
    (hQ:∀ h',Heap.ExtBut it s.heap h'→Q none { s with heap:=h' }):wpAny (model prog w) A (pyNext (.ref e)) Q E s:=by
  have hT:s.TypeIs (.ref e) "enumerate":=⟨_,he,rfl⟩
  unfold pyNext
  refine wpAny_bind (wpAny_attempt (wpAny_callSpecial?_slot (name:=Str.ofString "__next__") hT F.slot_enumerate_next (wpAny_call_entry F.slot_enumerate_next hT F.entry_enumerate_next ?_ (F.args_enumerate_next_1 _))))
  show wpAny _ _ (field (.ref e) 2 >>= _) _ _ _
  refine wpAny_bind (wpAny_field he rfl (x:=.ref it) rfl (wpAny_bind (qgG hh hit hl hx fun h' x he' hx'=>?_)))
  obtain ⟨o,ho,hc⟩:=hx'
  exact wpAny_bind (wpAny_isInstance (T:="StopIteration") (b:=true) ⟨o,ho,hc⟩ isSubtype_stop (wpAny_pure (hQ _ he')))
end
def Ite (K:PySem.W.Frag) (b:Bool) (a:Addr):It :=
  ⟨fun i H=>∃ xs x,SqB K b H a xs∧xs[i]?=some x,fun i H x H'=>∃ t y,H t=none∧x=.ref t∧H'=upd H t (.tup [.int i,y])∧∀ xs,SqB K b H a xs→xs[i]?=some y,fun i H=>∃ xs,SqB K b H a xs∧xs.length≤i⟩
theorem qh9 {P:Program} {w:World} {K:PySem.W.Frag} {es:List Expr} {k:Nat} {pos:Pos} (b:Bool) (a e it:Addr) (hei:e≠it):Turn P w K (.Tuple es k pos) (Ite K b a) [e,it] e (fun i h=>(∃ old,IsEnum h e it i old)∧SqI b h it a i) where
  mem:=by simp
  obj:=fun i h st c hc=>by
    obtain ⟨⟨old,he⟩,hs⟩:=st
    rcases List.mem_cons.mp hc with rfl | hc
    · exact ⟨_,he,fun v z=>by have z':Data.fields _=Data.cell v:=z;cases z'⟩
    · rw [List.mem_singleton.mp hc];exact hs.obj
  keep:=fun i h h' st k=>by
    obtain ⟨⟨old,he⟩,hs⟩:=st
    exact ⟨⟨old,k e (by simp) _ he⟩,hs.at fun o q=>k it (by simp) o q⟩
  item:=by
    intro X hP hw hK hc i pins s σ H E I hf st hg
    subst hP hw hK
    obtain ⟨xs,x,hq,hx⟩:=hg
    obtain ⟨⟨old,he⟩,hs⟩:=st
    obtain ⟨its,rv,p,hz⟩:=I.sqb hq
    obtain ⟨u,hu,ru⟩:=rv.get hx
    have hne:a≠it:=fun z=>by
      subst z
      have h1:=p;have h2:=hs
      cases b <;> (obtain ⟨o1,e1,c1,_⟩:=h1;obtain ⟨o2,e2,c2,_⟩:=h2;rw [e1] at e2;cases e2;rw [c1] at c2;exact absurd c2 (by simp))
    have hne2:a≠e:=fun z=>by
      subst z
      have h1:=p
      cases b <;> (obtain ⟨o1,e1,c1,_⟩:=h1;rw [he] at e1;cases e1;exact absurd c1 (by simp))
    have hil:i<its.toArray.size:=by
      have:i<its.length:=(List.getElem?_eq_some_iff.mp hu).1
      simpa using this
    have hh:X.A.in1.handled=none:=I.ok.hd hc
    refine wpAny_pyNext_enum_itemD (qiS hh b it a hne its.toArray) he ⟨hs,p⟩ hil hei (by simp [hei,Ne.symm hne2]) fun y h' tk hP' ho hst hT hsz hk=>?_
    have hy:y=u:=by
      have:its.toArray[i]?=some u:=by simpa using hu
      rw [this] at hP';exact (Option.some.inj hP').symm
    subst hy
    refine ⟨.ref s.heap.objs.size,rfl,wpAny_letOwnedTupleGo_enum ho fun h2 he2 hs2=>?_⟩
    have zn:H s.heap.objs.size=none:=I.fresh
    have I1:Inv X pins σ (upd H s.heap.objs.size (.tup [.int i,x])) { s with heap:=s.heap.push { cls:=.type "tuple",data:=.seq #[.int i tk,y] },toks:=tk } :=
      I.laid (fun c o q=>Heap.get?_push_of_some _ q) (Nat.le_refl _) ⟨by show 2≤sizeLine;decide,[.int i tk,y],.cons ⟨tk,rfl⟩ (.cons ru .nil),_,Heap.get?_push_size _ rfl,rfl,0,rfl⟩
    have lts:∀ c∈[e,it],c<s.heap.objs.size:=fun c hc=>by
      rcases List.mem_cons.mp hc with rfl | hc
      · exact Heap.lt_size he
      · rw [List.mem_singleton.mp hc];exact hs.lt
    have f1:∀ c∈[e,it],FpOk X pins (upd H s.heap.objs.size (.tup [.int i,x])) c:=fun c hc=>⟨by rw [qax (Nat.ne_of_lt (lts c hc))];exact (hf c hc).1,(hf c hc).2⟩
    have I2:=I1.turnedL (h':=h2) (ch:=[e,it]) (t':=tk+1) (fun c o hc q=>?_) f1
    · refine ⟨.ref s.heap.objs.size,_,I2,rfl,⟨s.heap.objs.size,x,zn,rfl,rfl,fun ys hy=>by rw [I.sqb_inj hy hq];exact hx⟩,⟨⟨_,by simpa using he2⟩,hst.1.at fun o q=>(hs2.2 it (Ne.symm hei)).trans q⟩,fun c hc=>(f1 c hc).1⟩
    · have hce:c≠e:=fun z=>hc (by simp [z])
      have hci:c≠it:=fun z=>hc (by simp [z])
      refine (hs2.2 c hce).trans ?_
      rcases Heap.get?_push_cases q with ⟨z,z'⟩ | q'
      · subst z;subst z';exact hT
      · exact hk c o hce hci q'
  done:=by
    intro X hP hw hK hc i pins s σ H E I hf st hg
    subst hP hw hK
    obtain ⟨xs,hq,hx⟩:=hg
    obtain ⟨⟨old,he⟩,hs⟩:=st
    obtain ⟨its,rv,p,hz⟩:=I.sqb hq
    have hl:=rv.length
    refine qji (I.ok.hd hc) he hs p (by simp;omega) fun h' eb=>⟨rfl,?_⟩
    exact I.turnedL (ch:=[e,it]) (t':=s.toks) (fun c o hc q=>eb c o (fun z=>hc (by simp [z])) q) hf
  self:=fun _ _ _ _ _ st h=>by obtain ⟨⟨old,he⟩,_⟩:=st;exact wpAny_pyIter_enum he h
end L2
namespace L2
open PySem PySem.Spec PyProof.Rows
open AutoSeq1 (wpAny_loadPart')
section
variable {X : Cx}
end
structure ZAp (z TI TO i1 i2:Addr):Prop where
  a1:TI≠z
  a2:TO≠z
  a3:i1≠z
  a4:i2≠z
  a5:TI≠TO
  a6:TI≠i1
  a7:TI≠i2
  a8:TO≠i1
  a9:TO≠i2
  a0:i1≠i2
theorem SqI.but {b:Bool} {h h':Heap} {it a c:Addr} {i:Nat} (x:SqI b h it a i) (s:Heap.SameBut c h h') (n:it≠c):SqI b h' it a i:=x.at fun o e=>(s.2 it n).trans e
theorem SqO.but {b:Bool} {h h':Heap} {a c:Addr} {its:Array Value} (x:SqO b h a its) (s:Heap.SameBut c h h') (n:a≠c):SqO b h' a its:=x.at fun o e=>(s.2 a n).trans e
theorem SqO.ne {b:Bool} {h:Heap} {a c:Addr} {its:Array Value} {o:Obj} (x:SqO b h a its) (e:h.get? c=some o) (n1:o.cls≠.type "list") (n2:o.cls≠.type "tuple"):a≠c:=fun z=>by
  subst z
  cases b <;> (obtain ⟨o',e',c',_⟩:=x;rw [e] at e';cases e')
  · exact n2 c'
  · exact n1 c'
theorem SqO.ne_it {b b':Bool} {h:Heap} {a it l:Addr} {its:Array Value} {i:Nat} (x:SqO b h a its) (y:SqI b' h it l i):a≠it:=by
  cases b' <;> (obtain ⟨o,e,c,_⟩:=y;exact x.ne e (by rw [c];simp) (by rw [c];simp))
section
variable {prog : Program} {w : World} {A : Around} {E : Value → Shared → Prop} {s : Shared}
theorem qi5 {b1 b2:Bool} {z TI TO i1 i2 l1 l2:Addr} {k1 k2:Nat} {xs ys:Array Value} {x y a b:Value} {Q:Value→Shared→Prop} (D:ZAp z TI TO i1 i2)
    (hz:IsZip s.heap z TI TO .none) (hTI:IsPair s.heap TI (.ref i1) (.ref i2)) (hTO:IsPair s.heap TO a b) (n1:l1≠TO) (n2:l2≠TO)
    (h1:SqI b1 s.heap i1 l1 k1) (h2:SqI b2 s.heap i2 l2 k2) (hl1:SqO b1 s.heap l1 xs) (hl2:SqO b2 s.heap l2 ys) (hx:xs[k1]?=some x) (hy:ys[k2]?=some y)
    (hQ:∀ h',IsZip h' z TI TO (rawInt s.heap.objs.size)→IsPair h' TO x y→SqI b1 h' i1 l1 (k1+1)→SqI b2 h' i2 l2 (k2+1)→IsPair h' s.heap.objs.size x y→h'.objs.size=s.heap.objs.size+1 →
      (∀ c o,c∉[z,TO,i1,i2]→s.heap.get? c=some o→h'.get? c=some o)→Q (.ref s.heap.objs.size) { s with heap:=h' }) :
    wpAny (model prog w) A (Builtin.«zip.__next__» ⟨[.ref z],[]⟩) (fun fin s'=>∃ v,fin=.done (.ret v)∧Q v s') E s:=by
  have l1z:l1≠z:=hl1.ne hz (by simp) (by simp)
  have l2z:l2≠z:=hl2.ne hz (by simp) (by simp)
  have l2i1:l2≠i1:=hl2.ne_it h1
  show wpAny _ _ (field (.ref z) 2 >>= _) _ _ _
  refine wpAny_bind (wpAny_field hz rfl (x:=.bool false) rfl ?_)
  show wpAny _ _ (field (.ref z) 3 >>= _) _ _ _
  refine wpAny_bind (wpAny_field hz rfl (x:=.ref TI) rfl (wpAny_bind (wpAny_seqItems hTI rfl ?_)))
  show wpAny _ _ (Builtin.SmallTypes.ownedTupleIsFree (.ref z) >>= _) _ _ _
  refine wpAny_bind ?_
  unfold Builtin.SmallTypes.ownedTupleIsFree
  refine wpAny_bind (wpAny_field hz rfl (x:=.none) rfl (wpAny_pure ?_))
  simp only [if_true]
  refine wpAny_bind (wpAny_rule (wpAny_bind (wpAny_field hz rfl (x:=.ref TO) rfl (wpAny_bind (wpAny_setField_rec hz (by simp) fun g1 z1 s1=>?_)))))
  replace z1:IsZip g1 z TI TO .ellipsis:=z1
  refine wpAny_bind ?_
  simp only [List.zipIdx_cons,List.zipIdx_nil,List.forIn_cons,List.forIn_nil]
  refine wpAny_bind (wpAny_bind (wpAny_onRaise ?_))
  show wpAny _ _ (Builtin.SmallTypes.nextOf (.ref i1) >>= _) _ _ _
  refine wpAny_bind (qex (h1.but s1 D.a3) (hl1.but s1 l1z) hx fun g2 p2 s2=>wpAny_pure ?_)
  have t2:IsPair g2 TO a b:=s2.extBut _ _ D.a8 (s1.extBut _ _ D.a2 hTO)
  refine wpAny_bind (wpAny_seqItems t2 rfl (wpAny_bind (wpAny_updateSeq_pair t2 fun g3 t3 s3=>wpAny_bind (wpAny_letGo (wpAny_pure ?_)))))
  replace t3:IsPair g3 TO x b:=t3
  refine wpAny_bind (wpAny_bind (wpAny_onRaise ?_))
  show wpAny _ _ (Builtin.SmallTypes.nextOf (.ref i2) >>= _) _ _ _
  refine wpAny_bind (qex (((h2.but s1 D.a4).but s2 D.a0.symm).but s3 D.a9.symm) (((hl2.but s1 l2z).but s2 l2i1).but s3 n2) hy fun g4 p4 s4=>wpAny_pure ?_)
  have t4:IsPair g4 TO x b:=s4.extBut _ _ D.a9 t3
  refine wpAny_bind (wpAny_seqItems t4 rfl (wpAny_bind (wpAny_updateSeq_pair t4 fun g5 t5 s5=>wpAny_bind (wpAny_letGo (wpAny_pure (wpAny_pure ?_))))))
  replace t5:IsPair g5 TO x y:=t5
  refine wpAny_bind (wpAny_seqItems t5 rfl (wpAny_bind (wpAny_newTuple ?_)))
  have sz:g5.objs.size=s.heap.objs.size:=by rw [s5.1,s4.1,s3.1,s2.1,s1.1]
  have z5:IsZip g5 z TI TO .ellipsis:=s5.extBut _ _ D.a2.symm (s4.extBut _ _ D.a4.symm (s3.extBut _ _ D.a2.symm (s2.extBut _ _ D.a3.symm z1)))
  have k5:∀ c o,c∉[z,TO,i1,i2]→s.heap.get? c=some o→g5.get? c=some o:=fun c o hc e=>by
    have c1:c≠z:=fun q=>hc (by simp [q])
    have c2:c≠TO:=fun q=>hc (by simp [q])
    have c3:c≠i1:=fun q=>hc (by simp [q])
    have c4:c≠i2:=fun q=>hc (by simp [q])
    exact s5.extBut _ _ c2 (s4.extBut _ _ c4 (s3.extBut _ _ c2 (s2.extBut _ _ c3 (s1.extBut _ _ c1 e))))
  have q1:SqI b1 g5 i1 l1 (k1+1):=((p2.but s3 D.a8.symm).but s4 D.a0).but s5 D.a8.symm
  have q2:SqI b2 g5 i2 l2 (k2+1):=p4.but s5 D.a9.symm
  show wpAny _ _ (Builtin.SmallTypes.ownedTupleHandOut (.ref z) (.ref g5.objs.size) >>= _) _ _ _
  refine wpAny_bind ?_
  unfold Builtin.SmallTypes.ownedTupleHandOut
  have z6:IsZip (g5.push { cls:=.type "tuple",data:=.seq #[x,y] }) z TI TO .ellipsis:=Heap.get?_push_of_some _ z5
  refine wpAny_bind (wpAny_setField_rec z6 (by simp) fun g7 z7 s7=>?_)
  replace z7:IsZip g7 z TI TO (rawInt g5.objs.size):=z7
  refine wpAny_setField_rec z7 (by simp) fun g8 z8 s8=>?_
  replace z8:IsZip g8 z TI TO (rawInt g5.objs.size):=z8
  have up:∀ c o,c≠z→g5.get? c=some o→g8.get? c=some o:=fun c o c1 e=>s8.extBut _ _ c1 (s7.extBut _ _ c1 (Heap.get?_push_of_some _ e))
  have zl:g5.objs.size≠z:=Nat.ne_of_gt (Heap.lt_size z5)
  have t8:IsPair g8 g5.objs.size x y:=s8.extBut _ _ zl (s7.extBut _ _ zl (Heap.get?_push_size _ rfl))
  have e8:g8.objs.size=g5.objs.size+1:=by rw [s8.1,s7.1,Heap.size_push]
  rw [sz] at z8 t8 e8
  refine wpAny_pure ⟨_,rfl,?_⟩
  show Q (.ref g5.objs.size) _
  rw [sz]
  exact hQ g8 z8 (up _ _ D.a2 t5) (q1.at fun o e=>up _ o D.a3 e) (q2.at fun o e=>up _ o D.a4 e) t8 e8 fun c o hc e=>up c o (fun q=>hc (by simp [q])) (k5 c o hc e)
theorem qj8 {b1 b2:Bool} {z TI TO i1 i2 l1 l2:Addr} {k1 k2:Nat} {xs ys:Array Value} {a b:Value} {Q:Fin→Shared→Prop} (hh:A.handled=none) (D:ZAp z TI TO i1 i2)
    (hz:IsZip s.heap z TI TO .none) (hTI:IsPair s.heap TI (.ref i1) (.ref i2)) (hTO:IsPair s.heap TO a b) (n1:l1≠TO) (n2:l2≠TO)
    (h1:SqI b1 s.heap i1 l1 k1) (h2:SqI b2 s.heap i2 l2 k2) (hl1:SqO b1 s.heap l1 xs) (hl2:SqO b2 s.heap l2 ys) (hend:xs[k1]?=none∨ys[k2]?=none)
    (hE:∀ h' e,(∀ c o,c∉[z,TO,i1,i2]→s.heap.get? c=some o→h'.get? c=some o)→(∃ o,h'.get? e=some o∧o.cls=.type "StopIteration")→E (.ref e) { s with heap:=h' }) :
    wpAny (model prog w) A (Builtin.«zip.__next__» ⟨[.ref z],[]⟩) Q E s:=by
  have l1z:l1≠z:=hl1.ne hz (by simp) (by simp)
  have l2z:l2≠z:=hl2.ne hz (by simp) (by simp)
  have l2i1:l2≠i1:=hl2.ne_it h1
  show wpAny _ _ (field (.ref z) 2 >>= _) _ _ _
  refine wpAny_bind (wpAny_field hz rfl (x:=.bool false) rfl ?_)
  show wpAny _ _ (field (.ref z) 3 >>= _) _ _ _
  refine wpAny_bind (wpAny_field hz rfl (x:=.ref TI) rfl (wpAny_bind (wpAny_seqItems hTI rfl ?_)))
  show wpAny _ _ (Builtin.SmallTypes.ownedTupleIsFree (.ref z) >>= _) _ _ _
  refine wpAny_bind ?_
  unfold Builtin.SmallTypes.ownedTupleIsFree
  refine wpAny_bind (wpAny_field hz rfl (x:=.none) rfl (wpAny_pure ?_))
  simp only [if_true]
  refine wpAny_bind (wpAny_rule (wpAny_bind (wpAny_field hz rfl (x:=.ref TO) rfl (wpAny_bind (wpAny_setField_rec hz (by simp) fun g1 z1 s1=>?_)))))
  replace z1:IsZip g1 z TI TO .ellipsis:=z1
  refine wpAny_bind ?_
  simp only [List.zipIdx_cons,List.zipIdx_nil,List.forIn_cons,List.forIn_nil]
  refine wpAny_bind (wpAny_bind (wpAny_onRaise ?_))
  show wpAny _ _ (Builtin.SmallTypes.nextOf (.ref i1) >>= _) _ _ _
  cases hx:xs[k1]? with
  | none =>
    refine wpAny_bind (qgG hh (h1.but s1 D.a3) (hl1.but s1 l1z) hx fun g2 e s2 he=>?_)
    obtain ⟨oe,hoe,hce⟩:=he
    have z2:IsZip g2 z TI TO .ellipsis:=s2 _ _ D.a3.symm z1
    have ez:e≠z:=fun q=>by subst q;rw [z2] at hoe;cases hoe;simp at hce
    refine wpAny_setField_rec z2 (by simp) fun g3 _ s3=>hE g3 e (fun c o hc q=>?_) ⟨oe,s3.extBut _ _ ez hoe,hce⟩
    have c1:c≠z:=fun q=>hc (by simp [q])
    exact s3.extBut _ _ c1 (s2 _ _ (fun q=>hc (by simp [q])) (s1.extBut _ _ c1 q))
  | some x =>
    have hy:ys[k2]?=none:=by
      rcases hend with h | h
      · rw [hx] at h;cases h
      · exact h
    refine wpAny_bind (qex (h1.but s1 D.a3) (hl1.but s1 l1z) hx fun g2 p2 s2=>wpAny_pure ?_)
    have t2:IsPair g2 TO a b:=s2.extBut _ _ D.a8 (s1.extBut _ _ D.a2 hTO)
    refine wpAny_bind (wpAny_seqItems t2 rfl (wpAny_bind (wpAny_updateSeq_pair t2 fun g3 t3 s3=>wpAny_bind (wpAny_letGo (wpAny_pure ?_)))))
    refine wpAny_bind (wpAny_bind (wpAny_onRaise ?_))
    show wpAny _ _ (Builtin.SmallTypes.nextOf (.ref i2) >>= _) _ _ _
    refine wpAny_bind (qgG hh (((h2.but s1 D.a4).but s2 D.a0.symm).but s3 D.a9.symm) (((hl2.but s1 l2z).but s2 l2i1).but s3 n2) hy fun g4 e s4 he=>?_)
    obtain ⟨oe,hoe,hce⟩:=he
    have z4:IsZip g4 z TI TO .ellipsis:=s4 _ _ D.a4.symm (s3.extBut _ _ D.a2.symm (s2.extBut _ _ D.a3.symm z1))
    have ez:e≠z:=fun q=>by subst q;rw [z4] at hoe;cases hoe;simp at hce
    refine wpAny_setField_rec z4 (by simp) fun g5 _ s5=>hE g5 e (fun c o hc q=>?_) ⟨oe,s5.extBut _ _ ez hoe,hce⟩
    have c1:c≠z:=fun q=>hc (by simp [q])
    exact s5.extBut _ _ c1 (s4 _ _ (fun q=>hc (by simp [q])) (s3.extBut _ _ (fun q=>hc (by simp [q])) (s2.extBut _ _ (fun q=>hc (by simp [q])) (s1.extBut _ _ c1 q))))
theorem qkA (b1 b2:Bool) (l1 l2:Addr) (xs ys:Array Value) :
    Meets (Builtin.«zip.__new__» ⟨[.type "zip",.ref l1,.ref l2],[]⟩) (fun _ R s=>SqO b1 s.heap l1 xs∧SqO b2 s.heap l2 ys ∧
      R (.ok (.ret (.ref (s.heap.objs.size+4)))) { s with heap:=((((s.heap.push (qbR b1 l1)).push (qbR b2 l2)).push { cls:=.type "tuple",data:=.seq #[.ref s.heap.objs.size,.ref (s.heap.objs.size+1)] }).push { cls:=.type "tuple",data:=.seq #[.none,.none] }).push { cls:=.type "zip",data:=.fields #[.none,.bool false,.bool false,.ref (s.heap.objs.size+2),.ref (s.heap.objs.size+3)] } }) :=
  .of_wp fun prog w A R s h=>by
    obtain ⟨hp,g,d,tk,os⟩:=s;obtain ⟨hl1,hl2,h⟩:=h
    have hsub:=sub_zip
    have hL1:SqO b1 (Shared.heap ⟨hp,g,d,tk,os⟩) l1 xs:=hl1
    have hL2:SqO b2 (Shared.heap ⟨hp.push (qbR b1 l1),g,d,tk,os⟩) l2 ys:=SqO.at hl2 fun o e=>Heap.get?_push_of_some _ e
    wp_walk using qf7 hL1,qf7 hL2
    have e1:(hp.push (qbR b1 l1)).objs.size=hp.objs.size+1:=Heap.size_push ..
    have e2:((hp.push (qbR b1 l1)).push (qbR b2 l2)).objs.size=hp.objs.size+2:=by rw [Heap.size_push,e1]
    refine ⟨_,rfl,?_⟩
    simp only [Heap.size_push]
    exact h
theorem qi7 {b1 b2:Bool} {l1 l2:Addr} {xs ys:Array Value} {Q:Value→Shared→Prop} (hl1:SqO b1 s.heap l1 xs) (hl2:SqO b2 s.heap l2 ys)
    (h:∀ h',IsZip h' (s.heap.objs.size+4) (s.heap.objs.size+2) (s.heap.objs.size+3) .none→IsPair h' (s.heap.objs.size+2) (.ref s.heap.objs.size) (.ref (s.heap.objs.size+1))→IsPair h' (s.heap.objs.size+3) .none .none →
      SqI b1 h' s.heap.objs.size l1 0→SqI b2 h' (s.heap.objs.size+1) l2 0→(∀ c o,s.heap.get? c=some o→h'.get? c=some o)→Q (.ref (s.heap.objs.size+4)) { s with heap:=h' }) :
    wpAny (model prog w) A (call (.type "zip") [.ref l1,.ref l2]) Q E s:=by
  refine callType_new F.called_zip (by decide) (F.typeCall_zip_2 _ _) (F.newCall_zip_2 _ _) (fun obj=>F.args_object_init_3 obj _ _) F.entry_zip_new (qkA b1 b2 l1 l2 xs ys) ⟨hl1,hl2,?_⟩
  have f1:(qbR b1 l1).isFreed=false:=by cases b1 <;> rfl
  have f2:(qbR b2 l2).isFreed=false:=by cases b2 <;> rfl
  have z1:(s.heap.push (qbR b1 l1)).objs.size=s.heap.objs.size+1:=Heap.size_push ..
  have z2:((s.heap.push (qbR b1 l1)).push (qbR b2 l2)).objs.size=s.heap.objs.size+2:=by rw [Heap.size_push,z1]
  generalize hg2:(s.heap.push (qbR b1 l1)).push (qbR b2 l2)=g2 at z2 ⊢
  have e0:g2.get? s.heap.objs.size=some (qbR b1 l1):=by rw [← hg2];exact Heap.get?_push_of_some _ (Heap.get?_push_size _ f1)
  have e1:g2.get? (s.heap.objs.size+1)=some (qbR b2 l2):=by rw [← hg2,← z1];exact Heap.get?_push_size _ f2
  have k2:∀ c o,s.heap.get? c=some o→g2.get? c=some o:=fun c o q=>by rw [← hg2];exact Heap.get?_push_of_some _ (Heap.get?_push_of_some _ q)
  generalize hg3:g2.push { cls:=.type "tuple",data:=.seq #[.ref s.heap.objs.size,.ref (s.heap.objs.size+1)] }=g3
  have z3:g3.objs.size=s.heap.objs.size+3:=by rw [← hg3,Heap.size_push,z2]
  have e2:IsPair g3 (s.heap.objs.size+2) (.ref s.heap.objs.size) (.ref (s.heap.objs.size+1)):=by rw [← hg3,← z2];exact Heap.get?_push_size _ rfl
  have k3:∀ c o,g2.get? c=some o→g3.get? c=some o:=fun c o q=>by rw [← hg3];exact Heap.get?_push_of_some _ q
  generalize hg4:g3.push { cls:=.type "tuple",data:=.seq #[.none,.none] }=g4
  have z4:g4.objs.size=s.heap.objs.size+4:=by rw [← hg4,Heap.size_push,z3]
  have e3:IsPair g4 (s.heap.objs.size+3) .none .none:=by rw [← hg4,← z3];exact Heap.get?_push_size _ rfl
  have k4:∀ c o,g3.get? c=some o→g4.get? c=some o:=fun c o q=>by rw [← hg4];exact Heap.get?_push_of_some _ q
  generalize hg5:g4.push { cls:=.type "zip",data:=.fields #[.none,.bool false,.bool false,.ref (s.heap.objs.size+2),.ref (s.heap.objs.size+3)] }=g5
  have e4:IsZip g5 (s.heap.objs.size+4) (s.heap.objs.size+2) (s.heap.objs.size+3) .none:=by rw [← hg5,← z4];exact Heap.get?_push_size _ rfl
  have k5:∀ c o,g4.get? c=some o→g5.get? c=some o:=fun c o q=>by rw [← hg5];exact Heap.get?_push_of_some _ q
  show _∧_
  exact ⟨⟨_,e4,rfl⟩,h _ e4 (k5 _ _ (k4 _ _ e2)) (k5 _ _ e3) (qdp (k5 _ _ (k4 _ _ (k3 _ _ e0)))) (qdp (k5 _ _ (k4 _ _ (k3 _ _ e1)))) fun c o q=>k5 _ _ (k4 _ _ (k3 _ _ (k2 _ _ q)))⟩
theorem qhD {b1 b2:Bool} {z TI TO i1 i2 l1 l2:Addr} {k1 k2:Nat} {xs ys:Array Value} {x y a b:Value} {Q:Option Value→Shared→Prop} (D:ZAp z TI TO i1 i2)
    (hz:IsZip s.heap z TI TO .none) (hTI:IsPair s.heap TI (.ref i1) (.ref i2)) (hTO:IsPair s.heap TO a b) (n1:l1≠TO) (n2:l2≠TO)
    (h1:SqI b1 s.heap i1 l1 k1) (h2:SqI b2 s.heap i2 l2 k2) (hl1:SqO b1 s.heap l1 xs) (hl2:SqO b2 s.heap l2 ys) (hx:xs[k1]?=some x) (hy:ys[k2]?=some y)
    (hQ:∀ h',IsZip h' z TI TO (rawInt s.heap.objs.size)→IsPair h' TO x y→SqI b1 h' i1 l1 (k1+1)→SqI b2 h' i2 l2 (k2+1)→IsPair h' s.heap.objs.size x y→h'.objs.size=s.heap.objs.size+1 →
      (∀ c o,c∉[z,TO,i1,i2]→s.heap.get? c=some o→h'.get? c=some o)→Q (some (.ref s.heap.objs.size)) { s with heap:=h' }):wpAny (model prog w) A (pyNext (.ref z)) Q E s:=by
  have hT:s.TypeIs (.ref z) "zip":=⟨_,hz,rfl⟩
  unfold pyNext
  exact wpAny_bind (wpAny_attempt (wpAny_callSpecial?_slot (name:=Str.ofString "__next__") hT F.slot_zip_next (wpAny_call_entry F.slot_zip_next hT F.entry_zip_next
    (qi5 D hz hTI hTO n1 n2 h1 h2 hl1 hl2 hx hy fun h' c1 c2 c3 c4 c5 c6 c7=>wpAny_pure (hQ h' c1 c2 c3 c4 c5 c6 c7)) (F.args_zip_next_1 _))))
theorem qi6 {b1 b2:Bool} {z TI TO i1 i2 l1 l2:Addr} {k1 k2:Nat} {xs ys:Array Value} {a b:Value} {Q:Option Value→Shared→Prop} (hh:A.handled=none) (D:ZAp z TI TO i1 i2)
    (hz:IsZip s.heap z TI TO .none) (hTI:IsPair s.heap TI (.ref i1) (.ref i2)) (hTO:IsPair s.heap TO a b) (n1:l1≠TO) (n2:l2≠TO)
    (h1:SqI b1 s.heap i1 l1 k1) (h2:SqI b2 s.heap i2 l2 k2) (hl1:SqO b1 s.heap l1 xs) (hl2:SqO b2 s.heap l2 ys) (hend:xs[k1]?=none∨ys[k2]?=none)
    (hQ:∀ h',(∀ c o,c∉[z,TO,i1,i2]→s.heap.get? c=some o→h'.get? c=some o)→Q none { s with heap:=h' }):wpAny (model prog w) A (pyNext (.ref z)) Q E s:=by
  have hT:s.TypeIs (.ref z) "zip":=⟨_,hz,rfl⟩
  unfold pyNext
  refine wpAny_bind (wpAny_attempt (wpAny_callSpecial?_slot (name:=Str.ofString "__next__") hT F.slot_zip_next (wpAny_call_entry F.slot_zip_next hT F.entry_zip_next (qj8 hh D hz hTI hTO n1 n2 h1 h2 hl1 hl2 hend fun h' e hk he=>?_) (F.args_zip_next_1 _))))
  obtain ⟨o,ho,hc⟩:=he
  exact wpAny_bind (wpAny_isInstance (T:="StopIteration") (b:=true) ⟨o,ho,hc⟩ isSubtype_stop (wpAny_pure (hQ _ hk)))
end
theorem Inv.sqb_ne {X:Cx} {pins:List (Addr × Obj)} {σ:St} {H:Hp} {s:Shared} {b:Bool} {a c:Addr} {xs:List V} (I:Inv X pins σ H s) (h:SqB X.K b H a xs) (f:FpOk X pins H c):a≠c:=fun z=>by
  subst z
  have nk:∀ o,X.K.lookup a=some o→False:=fun o e=>by
    have e':=I.mod.kin a o e
    rcases f.2.2.2.1 with q | q
    · exact I.ok.noex a o e' q
    · exact absurd (Nat.lt_of_lt_of_le (Heap.lt_size e') (Nat.le_trans I.ok.bsz q)) (Nat.lt_irrefl _)
  cases b with
  | true =>
    rcases h with (h | ⟨o,h⟩) | ⟨o,_,_,h,_⟩
    · rw [f.1] at h;cases h
    · rw [f.1] at h;cases h
    · exact nk o h
  | false =>
    rcases h with (h | ⟨o,h⟩) | ⟨o,_,_,h,_⟩
    · rw [f.1] at h;cases h
    · rw [f.1] at h;cases h
    · exact nk o h
def Itz (K:PySem.W.Frag) (b1:Bool) (a1:Addr) (b2:Bool) (a2:Addr):It :=
  ⟨fun i H=>∃ xs ys x y,SqB K b1 H a1 xs∧SqB K b2 H a2 ys∧xs[i]?=some x∧ys[i]?=some y,
   fun i H v H'=>∃ t x y,H t=none∧v=.ref t∧H'=upd H t (.tup [x,y])∧(∀ xs,SqB K b1 H a1 xs→xs[i]?=some x)∧∀ ys,SqB K b2 H a2 ys→ys[i]?=some y,
   fun i H=>∃ xs ys,SqB K b1 H a1 xs∧SqB K b2 H a2 ys∧(xs.length≤i∨ys.length≤i)⟩
theorem qi9 {P:Program} {w:World} {K:PySem.W.Frag} {es:List Expr} {k:Nat} {pos:Pos} (b1 b2:Bool) (a1 a2 z TI TO i1 i2:Addr) (D:ZAp z TI TO i1 i2) :
    Turn P w K (.Tuple es k pos) (Itz K b1 a1 b2 a2) [z,TI,TO,i1,i2] z (fun i h=>IsZip h z TI TO .none∧IsPair h TI (.ref i1) (.ref i2)∧(∃ a b,IsPair h TO a b)∧SqI b1 h i1 a1 i∧SqI b2 h i2 a2 i) where
  mem:=by simp
  obj:=fun i h st c hc=>by
    obtain ⟨h1,h2,⟨a,b,h3⟩,h4,h5⟩:=st
    simp only [List.mem_cons,List.not_mem_nil,or_false] at hc
    rcases hc with rfl | rfl | rfl | rfl | rfl
    · exact ⟨_,h1,fun v q=>by have q':Data.fields _=Data.cell v:=q;cases q'⟩
    · exact ⟨_,h2,fun v q=>by have q':Data.seq _ _=Data.cell v:=q;cases q'⟩
    · exact ⟨_,h3,fun v q=>by have q':Data.seq _ _=Data.cell v:=q;cases q'⟩
    · exact h4.obj
    · exact h5.obj
  keep:=fun i h h' st k=>by
    obtain ⟨h1,h2,⟨a,b,h3⟩,h4,h5⟩:=st
    exact ⟨k z (by simp) _ h1,k TI (by simp) _ h2,⟨a,b,k TO (by simp) _ h3⟩,h4.at fun o q=>k i1 (by simp) o q,h5.at fun o q=>k i2 (by simp) o q⟩
  item:=by
    intro X hP hw hK hc i pins s σ H E I hf st hg
    subst hP hw hK
    obtain ⟨xs,ys,x,y,hq1,hq2,hx,hy⟩:=hg
    obtain ⟨h1,h2,⟨a,b,h3⟩,h4,h5⟩:=st
    obtain ⟨its1,rv1,p1,_⟩:=I.sqb hq1
    obtain ⟨its2,rv2,p2,_⟩:=I.sqb hq2
    obtain ⟨u,hu,ru⟩:=rv1.get hx
    obtain ⟨v,hv,rv⟩:=rv2.get hy
    refine qhD D h1 h2 h3 (I.sqb_ne hq1 (hf TO (by simp))) (I.sqb_ne hq2 (hf TO (by simp))) h4 h5 p1 p2 (x:=u) (y:=v) (by simpa using hu) (by simpa using hv) fun h' z1 z2 z3 z4 z5 z6 hk=>?_
    refine ⟨.ref s.heap.objs.size,rfl,wpAny_letOwnedTupleGo_zip z1 fun g2 zz hs2=>?_⟩
    have zn:H s.heap.objs.size=none:=I.fresh
    have I1:Inv X pins σ (upd H s.heap.objs.size (.tup [x,y])) { s with heap:=s.heap.push { cls:=.type "tuple",data:=.seq #[u,v] },toks:=s.toks } :=
      I.laid (fun c o q=>Heap.get?_push_of_some _ q) (Nat.le_refl _) ⟨by show 2≤sizeLine;decide,[u,v],.cons ru (.cons rv .nil),_,Heap.get?_push_size _ rfl,rfl,0,rfl⟩
    have lts:∀ c∈[z,TI,TO,i1,i2],c<s.heap.objs.size:=fun c hc=>by
      simp only [List.mem_cons,List.not_mem_nil,or_false] at hc
      rcases hc with rfl | rfl | rfl | rfl | rfl
      · exact Heap.lt_size h1
      · exact Heap.lt_size h2
      · exact Heap.lt_size h3
      · exact h4.lt
      · exact h5.lt
    have f1:∀ c∈[z,TI,TO,i1,i2],FpOk X pins (upd H s.heap.objs.size (.tup [x,y])) c:=fun c hc=>⟨by rw [qax (Nat.ne_of_lt (lts c hc))];exact (hf c hc).1,(hf c hc).2⟩
    have I2:=I1.turnedL (h':=g2) (ch:=[z,TI,TO,i1,i2]) (t':=s.toks) (fun c o hc q=>?_) f1
    · refine ⟨.ref s.heap.objs.size,_,I2,rfl,⟨s.heap.objs.size,x,y,zn,rfl,rfl,fun xs' hy'=>by rw [I.sqb_inj hy' hq1];exact hx,fun ys' hy'=>by rw [I.sqb_inj hy' hq2];exact hy⟩,
        ⟨zz,hs2.extBut _ _ D.a1 (hk TI _ (by simp [D.a1,D.a5,D.a6,D.a7]) h2),⟨_,_,hs2.extBut _ _ D.a2 z2⟩,z3.but hs2 D.a3,z4.but hs2 D.a4⟩,fun c hc=>(f1 c hc).1⟩
    · have hcz:c≠z:=fun e=>hc (by simp [e])
      refine (hs2.2 c hcz).trans ?_
      rcases Heap.get?_push_cases q with ⟨e,e'⟩ | q'
      · subst e;subst e';exact z5
      · exact hk c o (fun e=>hc (by
          simp only [List.mem_cons,List.not_mem_nil,or_false] at e ⊢
          rcases e with e | e | e | e
          · exact .inl e
          · exact .inr (.inr (.inl e))
          · exact .inr (.inr (.inr (.inl e)))
          · exact .inr (.inr (.inr (.inr e))))) q'
  done:=by
    intro X hP hw hK hc i pins s σ H E I hf st hg
    subst hP hw hK
    obtain ⟨xs,ys,hq1,hq2,hend⟩:=hg
    obtain ⟨h1,h2,⟨a,b,h3⟩,h4,h5⟩:=st
    obtain ⟨its1,rv1,p1,_⟩:=I.sqb hq1
    obtain ⟨its2,rv2,p2,_⟩:=I.sqb hq2
    have l1:=rv1.length
    have l2:=rv2.length
    have he:its1.toArray[i]?=none∨its2.toArray[i]?=none:=by
      rcases hend with q | q
      · exact .inl (by simp;omega)
      · exact .inr (by simp;omega)
    refine qi6 (I.ok.hd hc) D h1 h2 h3 (I.sqb_ne hq1 (hf TO (by simp))) (I.sqb_ne hq2 (hf TO (by simp))) h4 h5 p1 p2 he fun h' hk=>⟨rfl,?_⟩
    refine I.turnedL (ch:=[z,TI,TO,i1,i2]) (t':=s.toks) (fun c o hc q=>hk c o (fun e=>hc ?_) q) hf
    simp only [List.mem_cons,List.not_mem_nil,or_false] at e ⊢
    rcases e with e | e | e | e
    · exact .inl e
    · exact .inr (.inr (.inl e))
    · exact .inr (.inr (.inr (.inl e)))
    · exact .inr (.inr (.inr (.inr e)))
  self:=fun _ _ _ _ _ st h=>wpAny_pyIter_zip st.1 h
theorem zap (n:Nat):ZAp (n+4) (n+2) (n+3) n (n+1) :=
  ⟨(by omega:n+2≠n+4),(by omega:n+3≠n+4),(by omega:n≠n+4),(by omega:n+1≠n+4),(by omega:n+2≠n+3),(by omega:n+2≠n),(by omega:n+2≠n+1),(by omega:n+3≠n),(by omega:n+3≠n+1),(by omega:n≠n+1)⟩
section
variable {X : Cx}
end
end L2
namespace L2
open PySem PySem.Spec PyProof.Rows
section
variable {X : Cx}
theorem qky:OpR X (binaryOp .Mult) (rI IntMulOk fun i j=>.int (i*j)):=opI fun _ _ _ _ _ _ _ hc q=>mul_int q hc
def CDivB (i j:Int):Prop:=0<j∧j.natAbs.log2<9000
theorem qjk:OpR X (binaryOp .FloorDiv) (rI CDivB fun i j=>.int (i / j)):=opI fun i j _ _ _ _ _ hc q=>by
  have h1:(0:Int)<j:=hc.1
  exact floordiv_int (by omega) (by rw [Int.fdiv_eq_ediv_of_nonneg i (by omega)];exact q) (.inl (PyProof.noPylong_of_log2 hc.2))
end
theorem qei {n k:Nat} (hk:0<k) (h:n<2 ^ k):n.log2<k:=by
  rcases Nat.eq_zero_or_pos n with z | z
  · subst z;simpa using hk
  · exact (Nat.log2_lt (Nat.ne_of_gt z)).mpr h
theorem CDivB.of {i j:Int} (h0:0<j) (h:j<2 ^ 9000):CDivB i j:=⟨h0,qei (by decide) (by
  have e:(j.natAbs:Int)=j:=Int.natAbs_of_nonneg (Int.le_of_lt h0)
  have:(j.natAbs:Int)<((2 ^ 9000:Nat):Int):=by rw [e];exact_mod_cast h
  exact_mod_cast this)⟩
theorem qeq {a:Int} {k:Nat} (hk:0<k) (h:a.natAbs<2 ^ k):Builtin.Int.intBits a≤k:=by
  unfold Builtin.Int.intBits
  split
  · exact Nat.zero_le _
  · exact qei hk h
theorem qiH {a b:Int} {m n:Nat} (hm:0<m) (hn:0<n) (ha:a.natAbs<2 ^ m) (hb:b.natAbs<2 ^ n) (h:m+n≤134217728):IntMulOk a b:=PyProof.Rows.mulOk_of_bits (qeq hm ha) (qeq hn hb) h
theorem qb0 {a b:Int} (h1:-(2 ^ 64)<a) (h2:a<2 ^ 64):IntMulOk a b:=.of_left (intBits_le_64 h1 h2)
theorem qcZ {a b:Int} (h1:-(2 ^ 64)<b) (h2:b<2 ^ 64):IntMulOk a b:=.of_right (intBits_le_64 h1 h2)
section
variable {prog : Program} {w : World} {A : Around} {E : Value → Shared → Prop} {s : Shared}
theorem qfD {it t:Addr} {items:Array Value} (hne:t≠it):∀ (n i:Nat) (s:Shared) (Q:List Value→Shared→Prop),s.heap.IsListIter it t i→s.heap.IsList t items→i+n≤items.size →
    (∀ h',h'.IsListIter it t (i+n)→Heap.SameBut it s.heap h'→Q ((items.toList.drop i).take n) { s with heap:=h' })→wpAny (model prog w) A (draw (.ref it) n) Q E s
  | 0,i,s,Q,hit,_,_,hQ=>by
    show wpAny _ _ (pure []) Q E s
    exact wpAny_pure (by simpa using hQ s.heap hit (Heap.SameBut.refl ..))
  | n+1,i,s,Q,hit,ht,hle,hQ=>by
    have hlt:i<items.size:=by omega
    show wpAny _ _ (pyNext (.ref it) >>= _) Q E s
    refine wpAny_bind (wpAny_pyNext_list_item hit ht (x:=items[i]) (by simp [hlt]) fun g1 hit1 s1=>?_)
    refine wpAny_bind (wpAny_holding (qfD hne n (i+1) _ _ hit1 (ht.extBut s1.extBut hne) (by omega) fun g2 hit2 s2=>wpAny_pure ?_))
    have hd:items.toList.drop i=items[i]::items.toList.drop (i+1):=by simp [List.drop_eq_getElem_cons,hlt]
    have:=hQ g2 (by rw [show i+(n+1)=i+1+n by omega];exact hit2) (s1.trans s2)
    rw [hd,List.take_succ_cons] at this
    exact this
theorem qdl {t:Addr} {items:Array Value} {Q:List Value→Shared→Prop} (hh:A.handled=none) (ht:s.heap.IsList t items)
    (hQ:∀ h',Heap.ExtBut s.heap.objs.size s.heap h'→Q items.toList { s with heap:=h' }):wpAny (model prog w) A (unpackItems (.ref t) items.size none) Q E s:=by
  have hlt:t≠s.heap.objs.size:=by obtain ⟨o,ho,_⟩:=ht;exact Nat.ne_of_lt (Heap.lt_size ho)
  unfold unpackItems
  refine wpAny_bind ?_
  unfold notIterableAtAll
  refine wpAny_bind (wpAny_specialOf ht.typeIs slot_list_iter.lookup (wpAny_pure ?_))
  simp only [Bool.false_eq_true,if_false]
  refine wpAny_bind (wpAny_holding (wpAny_pyIter_list ht (wpAny_bind (wpAny_holding (qfD hlt items.size 0 _ _ ⟨_,Heap.get?_push_size _ rfl,rfl,rfl⟩ (ht.push _) (by omega) fun g1 hit1 s1=>?_)))))
  have hall:List.take items.size (List.drop 0 items.toList)=items.toList:=by
    rw [List.drop_zero];exact List.take_of_length_le (by simp)
  rw [hall,if_neg (by simp)]
  have ht1:g1.IsList t items:=(ht.push _).extBut s1.extBut hlt
  refine wpAny_bind (wpAny_holding (wpAny_pyNext_list_end hh hit1 ht1 (by simp) fun g2 e2=>?_))
  simp only [Option.isSome_none,Bool.false_eq_true,if_false]
  exact wpAny_pure (hQ g2 fun b o hb e=>e2 b o hb (s1.extBut b o hb (Heap.get?_push_of_some _ e)))
end
section
variable {X : Cx} {pos : Pos}
def qnZ (K:PySem.W.Frag) (n:Nat) (t:TGs):TG:=fun v σ H Q=>∃ a xs,v=.ref a∧SqL K H a xs∧xs.length=n∧t xs σ H Q
theorem qmK {es:List Expr} {k:Nat} {t:TGs} {n:Nat} (hc:X.calm=true) (h:PGs X es t)
    (hn:(assignEach es X.env).length=n:=by rfl) (hst:(assignEach es X.env).findIdx? (·.1)=none:=by rfl):PG X (.Tuple es k pos) (qnZ X.K n t):=by
  intro pins s σ H v u Q I r hw
  obtain ⟨a,xs,e1,hq,hl,hw⟩:=hw
  subst e1
  cases r
  obtain ⟨its,rv,ht,hz⟩:=I.list hq
  rw [assign_Tuple]
  refine wpAny_bind (wpAny_standAt ?_)
  unfold unpack
  have e0:(assignEach es X.env).length=its.toArray.size:=by simp [hn,← hl,rv.length]
  rw [e0,hst]
  refine wpAny_bind (wpAny_holding (qdl (I.ok.hd hc) ht.isList fun h' hx=>?_))
  have I1:Inv X pins σ H { s with heap:=h' }:=I.kept (t':=s.toks) fun b o e=>hx b o (Nat.ne_of_lt (Heap.lt_size e)) e
  exact h pins _ σ H xs _ Q I1 (by simpa using rv) hw
end
inductive IsiV (K:PySem.W.Frag) (H:Hp):V→String→Bool→Prop where
  | int_int (i):IsiV K H (.int i) "int" true
  | int_bool (i):IsiV K H (.int i) "bool" false
  | int_tuple (i):IsiV K H (.int i) "tuple" false
  | int_str (i):IsiV K H (.int i) "str" false
  | bl_int (b):IsiV K H (.bl b) "int" true
  | bl_bool (b):IsiV K H (.bl b) "bool" true
  | bl_tuple (b):IsiV K H (.bl b) "tuple" false
  | str_str (x):IsiV K H (.str x) "str" true
  | str_tuple (x):IsiV K H (.str x) "tuple" false
  | tup_tuple {a xs}:SqT K H a xs→IsiV K H (.ref a) "tuple" true
  | tup_int {a xs}:SqT K H a xs→IsiV K H (.ref a) "int" false
  | lst_tuple {a xs}:SqL K H a xs→IsiV K H (.ref a) "tuple" false
  | lst_list {a xs}:SqL K H a xs→IsiV K H (.ref a) "list" true
def qnS (K:PySem.W.Frag):List V→Hp→VK→Prop:=fun vs H Q=>∃ x T b,vs=[x,.ty T]∧IsiV K H x T b∧Q (.bl b) H
theorem qn1 {x y:V} {us:List Value} (r:Vals [x,y] us):∃ u v,us=[u,v]∧RelV x u∧RelV y v:=by
  cases r with
  | cons r rr =>
    cases rr with
    | cons r' rr=>cases rr;exact ⟨_,_,rfl,r,r'⟩
theorem qiR {X:Cx}:qc1 X (.builtin "isinstance") (qnS X.K):=by
  intro pins s σ H xs us Q I r h
  obtain ⟨x,T,b,rfl,hi,q⟩:=h
  obtain ⟨u,v,rfl,ru,rv⟩:=qn1 r
  have rv:v=.type T:=rv
  subst rv
  have fin:∀ (c:Bool) (t:Nat),Q (.bl c) H→EP X pins σ Q (.bool c) { s with toks:=t }:=fun c t q=>⟨.bl c,H,I.tok t,rfl,q⟩
  cases hi with
  | int_int i=>obtain ⟨t,rfl⟩:=ru;exact IsiPair.int_int (fin _ s.toks q)
  | int_bool i=>obtain ⟨t,rfl⟩:=ru;exact IsiPair.int_bool (fin _ _ q)
  | int_tuple i=>obtain ⟨t,rfl⟩:=ru;exact IsiPair.int_tuple (fin _ _ q)
  | int_str i=>obtain ⟨t,rfl⟩:=ru;exact IsiPair.int_str (fin _ _ q)
  | bl_int b=>cases ru;exact IsiPair.bool_int (fin _ s.toks q)
  | bl_bool b=>cases ru;exact IsiPair.bool_bool (fin _ s.toks q)
  | bl_tuple b=>cases ru;exact IsiPair.bool_tuple (fin _ _ q)
  | str_str x=>obtain ⟨t,rfl⟩:=ru;exact IsiPair.str_str (fin _ s.toks q)
  | str_tuple x=>obtain ⟨t,rfl⟩:=ru;exact IsiPair.str_tuple (fin _ _ q)
  | tup_tuple h =>
    cases ru
    obtain ⟨its,_,p,_⟩:=I.tuple h
    exact call_isinstance (isinstance_true (Tx:="tuple") F.isi_meta_tuple F.sub_tuple_tuple) ⟨p.typeIs,fin _ s.toks q⟩
  | tup_int h =>
    cases ru
    obtain ⟨its,_,⟨o,e,c,_⟩,_⟩:=I.tuple h
    exact call_isinstance (isinstance_false_tuple (by decide +kernel) F.isi_meta_int F.sub_tuple_int) ⟨⟨o,e,c⟩,fin _ _ q⟩
  | lst_tuple h =>
    cases ru
    obtain ⟨its,_,p,_⟩:=I.list h
    obtain ⟨o,e,c,_⟩:=p.isList
    exact call_isinstance (isinstance_false_list (by decide +kernel) F.isi_meta_tuple F.sub_list_tuple) ⟨⟨o,e,c⟩,fin _ _ q⟩
  | lst_list h =>
    cases ru
    obtain ⟨its,_,p,_⟩:=I.list h
    exact call_isinstance (isinstance_true (Tx:="list") F.isi_meta_list F.sub_list_list) ⟨p.isList.typeIs,fin _ s.toks q⟩
theorem qiB {prog:Program} {w:World} {A:Around} (hh:A.handled=none) (b:Bool) (it a:Addr) (hne:a≠it) (its:Array Value):Walks prog w A it [it,a] [it] its.size (fun i v=>its[i]?=some v) (fun i h=>SqI b h it a i∧SqO b h a its) where
  sub:=fun c hc=>by rw [List.mem_singleton.mp hc];simp
  frame:=fun _ _ _ st k=>⟨st.1.at fun o e=>k it (by simp) o e,st.2.at fun o e=>k a (by simp) o e⟩
  item:=fun i s Q E hi st hQ=>by
    cases b with
    | true=>exact wpAny_pyNext_list_item st.1 st.2 (x:=its[i]) (by simp [hi]) fun h' q sb=>hQ _ h' s.toks (by simp [hi]) ⟨q,SqO.at (b:=true) st.2 fun o e=>(sb.2 a hne).trans e⟩ fun c o hc e=>(sb.2 c fun z=>hc (by simp [z])).trans e
    | false=>exact wpAny_pyNext_tuple_item st.1 st.2 (x:=its[i]) (by simp [hi]) fun h' q sb=>hQ _ h' s.toks (by simp [hi]) ⟨q,SqO.at (b:=false) st.2 fun o e=>(sb.2 a hne).trans e⟩ fun c o hc e=>(sb.2 c fun z=>hc (by simp [z])).trans e
  done:=fun s Q E st hQ=>by
    cases b with
    | true=>exact wpAny_pyNext_list_end hh st.1 st.2 (by simp) fun h' eb=>hQ h' s.toks fun c o hc e=>eb c o (fun z=>hc (by simp [z])) e
    | false=>exact wpAny_pyNext_tuple_end hh st.1 st.2 (by simp) fun h' eb=>hQ h' s.toks fun c o hc e=>eb c o (fun z=>hc (by simp [z])) e
  self:=fun i s Q E st hQ=>by
    cases b with
    | true=>exact wpAny_pyIter_listiter st.1 hQ
    | false=>exact wpAny_pyIter_tupleiter st.1 hQ
theorem qoG {x:V} {us:List Value} (r:Vals [x] us):∃ u,us=[u]∧RelV x u:=by
  cases r with
  | cons r rr=>cases rr;exact ⟨_,rfl,r⟩
theorem qdR (val:Nat→Int) (ns:List Int) (h:∀ i n,ns[i]?=some n→val i=n):∀ k,k≤ns.length→preSum val k=(ns.take k).sum
  | 0,_=>by simp [preSum]
  | k+1,hk=>by
    have hlt:k<ns.length:=hk
    have e:=h k ns[k] (by simp [hlt])
    rw [preSum,qdR val ns h k (Nat.le_of_lt hlt),e,List.take_succ_eq_append_getElem hlt,List.sum_append]
    simp
def qoy (K:PySem.W.Frag) (b:Bool):List V→Hp→VK→Prop:=fun vs H Q=>∃ (a:Addr) (ns:List Int),vs=[.ref a]∧SqB K b H a (ns.map V.int)∧Q (.int ns.sum) H
theorem qiF (b:Bool) {X:Cx} (hc:X.calm=true):qc1 X (.builtin "sum") (qoy X.K b):=by
  intro pins s σ H xs us Q I r h
  obtain ⟨a,ns,rfl,hq,q⟩:=h
  obtain ⟨u,rfl,ru⟩:=qoG r
  cases ru
  obtain ⟨its,rv,p,hz⟩:=I.sqb hq
  refine call_sum_walkAnyS (qf7 p ?_)
  have hne:a≠s.heap.objs.size:=Nat.ne_of_lt p.lt
  have W:=qiB (prog:=X.prog) (w:=X.w) (A:=X.A.in1) (I.ok.hd hc) b s.heap.objs.size a hne its.toArray
  have hv:∀ (i:Nat) (v:Value),its.toArray[i]?=some v→∃ t,v=.int (ns.getD i 0) t:=fun i v e=>by
    have e':its[i]?=some v:=by simpa using e
    have hi:i<ns.length:=by
      have:=(List.getElem?_eq_some_iff.mp e').1
      have:=rv.length
      rw [List.length_map] at this
      omega
    obtain ⟨v',h1,h2⟩:=rv.get (i:=i) (x:=V.int (ns.getD i 0)) (by simp [hi])
    rw [e'] at h1;cases h1
    exact h2
  have ln:its.toArray.size=ns.length:=by have:=rv.length;rw [List.length_map] at this;simp [this]
  refine ⟨s.heap.objs.size,[s.heap.objs.size,a],[s.heap.objs.size],_,its.toArray.size,_,_,fun i=>ns.getD i 0,rfl,W.toS,⟨qdp (Heap.get?_push_size _ (by cases b <;> rfl)),p.at fun o e=>Heap.get?_push_of_some _ e⟩,fun c hcm=>?_,hv,fun s' t' hm=>?_⟩
  · rw [Heap.size_push]
    rcases List.mem_cons.mp hcm with rfl | hcm
    · exact Nat.lt_succ_self _
    · rw [List.mem_singleton.mp hcm];exact Nat.lt_succ_of_lt p.lt
  · obtain ⟨hh,hg,hd,ho,_⟩:=hm
    obtain ⟨h',g',d',tk',os'⟩:=s'
    have e1:g'=s.gens:=hg
    have e2:d'=s.drawn:=hd
    have e3:os'=s.os:=ho
    subst e1 e2 e3
    refine ⟨.int ns.sum,H,I.kept (h':=h') (t':=tk') fun c o e=>hh c o (fun z=>?_) (Heap.get?_push_of_some _ e),⟨t',?_⟩,q⟩
    · rw [List.mem_singleton.mp z] at e
      exact absurd (Heap.lt_size e) (Nat.lt_irrefl _)
    · rw [ln,qdR (fun i=>ns.getD i 0) ns (fun i n e=>by
        show ns.getD i 0=n
        rw [List.getD_eq_getElem?_getD,e];rfl) ns.length (Nat.le_refl _),List.take_length]
theorem ql4 (bs:List Bool):(List.range bs.length).all (fun i=>bs.getD i false)=bs.all id:=by
  rw [Bool.eq_iff_iff]
  simp only [List.all_eq_true,List.mem_range,id]
  constructor
  · intro h x hx
    obtain ⟨i,hi,rfl⟩:=List.mem_iff_getElem.mp hx
    have:=h i hi
    simpa [hi] using this
  · intro h i hi
    have:=h bs[i] (List.getElem_mem hi)
    simpa [hi] using this
def qaP (N:List Str) (sc scope:Scope) (N':List Str) (cap:List (Option Nat)):Bool :=
  decide (scope.kind=.function) && scope.names.all (fun x=>decide (x.2=.cell→scope.names.lookup x.1=some .cell)) && scope.names.all (fun x=>decide (x.2=.local→scope.names.lookup x.1=some .local)) &&
    scope.names.all (fun x=>decide (x.2=.free→sc.names.lookup x.1=some .cell∧scope.names.lookup x.1=some .free)) && decide N'.Nodup && decide (cap.length=N'.length) &&
    (cap.zip N').all fun p=>match p.1 with | none=>true | some i=>decide (N[i]?=some p.2∧(p.2,NameKind.free)∈scope.names)
theorem CompScope.ok {N:List Str} {sc scope:Scope} {N':List Str} {cap:List (Option Nat)} (h:qaP N sc scope N' cap=true):CompScope N sc scope N' cap:=by
  unfold qaP at h
  simp only [Bool.and_eq_true,decide_eq_true_eq,List.all_eq_true] at h
  obtain ⟨⟨⟨⟨⟨⟨h1,h2⟩,h3⟩,h4⟩,h5⟩,h6⟩,h7⟩:=h
  refine ⟨h1,h2,h3,fun x hx hf=>(h4 x hx hf).1,fun x hx hf=>(h4 x hx hf).2,h5,h6,fun p hp i hi=>?_⟩
  have:=h7 p hp
  rw [hi] at this
  simpa using this
section
variable {K : PySem.W.Frag} {B : V → St → Hp → (St → Hp → Prop) → Prop} {End : St → Hp → Prop} {σ : St} {H : Hp}
end
theorem qaJ {H:Hp} {p:Addr} (h:H p=none) (o:HO):Same H (upd H p o):=fun b u q=>by rw [qax (qaw q h)];exact q
theorem qgo {H H':Hp} {p:Addr} (s:Same H H') (h:H p=none) (o:HO):Same H (upd H' p o):=fun b u q=>by rw [qax (qaw q h)];exact s b u q
theorem Same.sqt {K:PySem.W.Frag} {H H':Hp} {a:Addr} {xs:List V} (e:Same H H') (h:SqT K H a xs):SqT K H' a xs:=SqB.same (b:=false) e h
theorem small {n:Nat} (h:n≤1000):n≤sizeLine:=Nat.le_of_lt (qap h)
theorem dP {p:Prop} [Decidable p] (h:decide p=true):p:=of_decide_eq_true h
theorem qbc {α:Type} {xs:List α} {i:Nat} {x:α} (h:xs[i]?=some x):xs.take (i+1)=xs.take i++[x]:=by
  obtain ⟨hi,e⟩:=List.getElem?_eq_some_iff.mp h
  rw [List.take_succ_eq_append_getElem hi,e]
theorem qaF {α:Type} {xs:List α} {i:Nat} {x:α} (h:xs[i]?=some x):i<xs.length:=(List.getElem?_eq_some_iff.mp h).1
theorem qmw {α:Type} {xs:List α} {i:Nat} {x:α} {k:Int} (h:xs[i]?=some x) (e:k=(i:Int)):atI xs k=some x:=by
  subst e
  exact qkn h
def qa9 (ns:List Int):Int:=ns.foldl (fun d x=>(Int.gcd x d:Int)) 0
theorem qbC (xs:List Int) (x:Int):qa9 (xs++[x])=(Int.gcd x (qa9 xs):Int):=by unfold qa9;rw [List.foldl_append];rfl
theorem qez {g l:Int} (hg:0≤g) (hl:0<l):Int.gcd l (g % l)=Int.gcd g l:=by
  rw [Int.gcd_comm g l]
  have e:g % l=g - l*(g / l):=by have:=Int.emod_add_mul_ediv g l;omega
  rw [e]
  simpa using Int.gcd_sub_mul_right_right
theorem qc3 (ns:List Int):0≤qa9 ns:=by
  have h:∀ (ns:List Int) (d:Int),0≤d→0≤ns.foldl (fun d x=>(Int.gcd x d:Int)) d:=by
    intro ns
    induction ns with
    | nil=>intro d hd;exact hd
    | cons x r ih=>intro d _;exact ih _ (Int.natCast_nonneg _)
  exact h ns 0 (by decide)
theorem qcQ (ns:List Int):∀ x∈ns,qa9 ns∣x:=by
  have h:∀ (ns:List Int) (d:Int),ns.foldl (fun d x=>(Int.gcd x d:Int)) d∣d∧∀ x∈ns,ns.foldl (fun d x=>(Int.gcd x d:Int)) d∣x:=by
    intro ns
    induction ns with
    | nil=>intro d;exact ⟨Int.dvd_refl _,fun x hx=>absurd hx List.not_mem_nil⟩
    | cons y r ih =>
      intro d
      obtain ⟨h1,h2⟩:=ih (Int.gcd y d:Int)
      refine ⟨Int.dvd_trans h1 (Int.gcd_dvd_right ..),fun x hx=>?_⟩
      rcases List.mem_cons.mp hx with rfl | hx
      · exact Int.dvd_trans h1 (Int.gcd_dvd_left ..)
      · exact h2 x hx
  exact (h ns 0).2
theorem qd0 {ns:List Int} (h:qa9 ns=0):∀ x∈ns,x=0:=fun x hx=>by
  have:=qcQ ns x hx
  rw [h] at this
  exact Int.zero_dvd.mp this
def dot (es ns:List Int):Int:=(List.zipWith (·*·) es ns).sum
def qey {α:Type} (xs:List α) (lo hi:Option Int):List α:=(xs.drop (HT.sIx xs.length 0 lo)).take (HT.sIx xs.length xs.length hi - HT.sIx xs.length 0 lo)
inductive EqT (K:PySem.W.Frag) (H:Hp):Nat→V→V→Prop where
  | int {d:Nat} (i:Int):EqT K H d (.int i) (.int i)
  | bl {d:Nat} (b:Bool):EqT K H d (.bl b) (.bl b)
  | str {d:Nat} (x:Str):EqT K H d (.str x) (.str x)
  | non {d:Nat}:EqT K H d .non .non
  | sq {d:Nat} (q:Bool) {a b:Addr} {xs ys:List V}:SqB K q H a xs→SqB K q H b ys→xs.length=ys.length→(∀ (i:Nat) (x y:V),xs[i]?=some x→ys[i]?=some y→EqT K H d x y)→EqT K H (d+1) (.ref a) (.ref b)
theorem Vals.get' {xs:List V} {us:List Value} (r:Vals xs us) {j:Nat} (h:j<us.length):∃ x,xs[j]?=some x∧RelV x us[j]:=by
  have hl:=Vals.length r
  have hj:j<xs.length:=by omega
  obtain ⟨u,hu,ru⟩:=Vals.get (i:=j) (x:=xs[j]) r (by simp [hj])
  refine ⟨xs[j],by simp [hj],?_⟩
  rw [List.getElem?_eq_getElem h] at hu
  cases hu
  exact ru
section
variable {prog : Program} {w : World} {A : Around} {E : Value → Shared → Prop} {s : Shared}
theorem qkf {t b:Addr} {vs ws:List Value} {Q:Value→Shared→Prop} (ht:IsTup s.heap t vs.toArray) (hb:IsTup s.heap b ws.toArray) (hv:vs=[]) (h:Q (.ref b) s):wpAny (model prog w) A (binaryOp .Add (.ref t) (.ref b)) Q E s:=by
  obtain ⟨⟨cls,dd,data,sl⟩,ho,hc,n,hd⟩:=id ht
  obtain ⟨⟨cls2,dd2,data2,sl2⟩,ho2,hc2,n2,hd2⟩:=id hb
  simp only at hc hd hc2 hd2
  subst hc hd hc2 hd2
  exact concat_meets ⟨_,ho,rfl⟩ ⟨_,ho2,rfl⟩ noFill_tuple_add seq_tuple_add PySem.F.slot_tuple_add PySem.F.entry_tuple_add (PySem.F.args_tuple_add_2 _ _) (tuple_addW0 t b vs.toArray ws.toArray n n2 dd dd2 sl sl2 (by simp [hv])) ⟨ho,ho2,h⟩
end
def qmq (K:PySem.W.Frag):R2:=fun x y H Q=>∃ a b xs ys,x=.ref a∧y=.ref b∧SqT K H a xs∧SqT K H b ys∧xs.length+ys.length≤sizeLine∧∀ p H',Same H H'→SqT K H' p (xs++ys)→Q (.ref p) H'
theorem qlh {X:Cx}:OpR X (binaryOp .Add) (qmq X.K):=by
  intro pins s σ H x y v u Q I rx ry h
  obtain ⟨a,b,xs,ys,rfl,rfl,ha,hb,hz,q⟩:=h
  by_cases hx:xs=[]
  · subst hx
    cases rx
    cases ry
    obtain ⟨its,r1,p1,_⟩:=I.tuple ha
    obtain ⟨its2,r2,p2,_⟩:=I.tuple hb
    exact qkf p1 p2 (r1.nil_iff.mpr rfl) ⟨.ref b,H,I,rfl,q b H (Same.refl H) hb⟩
  · refine qki pins s σ H _ _ v u Q I rx ry ⟨a,b,xs,ys,rfl,rfl,ha,hb,hx,hz,fun e=>?_,fun _ p hp=>q p _ (qaJ hp _) (SqT.of qan)⟩
    subst e
    exact q a H (Same.refl H) (by rw [List.append_nil];exact ha)
theorem qhB {ns:List Int} {m:Nat} (h:∀ x∈ns,x.natAbs<m) (hm:0<m):qa9 ns<m:=by
  by_cases c:qa9 ns=0
  · omega
  · have hx:∃ x∈ns,x≠0:=by
      refine Classical.byContradiction fun n=>c ?_
      have hz:∀ x∈ns,x=0:=fun x hx=>Classical.byContradiction fun z=>n ⟨x,hx,z⟩
      have:∀ (l:List Int) ,(∀ x∈l,x=0)→l.foldl (fun d x=>(Int.gcd x d:Int)) 0=0:=by
        intro l
        induction l with
        | nil=>intro _;rfl
        | cons y r ih =>
          intro hl
          have:=hl y List.mem_cons_self
          subst this
          exact ih fun x hx=>hl x (List.mem_cons_of_mem _ hx)
      exact this ns hz
    obtain ⟨x,hx,x0⟩:=hx
    have h1:=qcQ ns x hx
    have h2:=Int.natAbs_dvd_natAbs.mpr h1
    have h3:=Nat.le_of_dvd (by omega) h2
    have h4:=h x hx
    have h5:=qc3 ns
    omega
section
variable {J : It} {B : V → St → Hp → (St → Hp → Prop) → Prop} {End : St → Hp → Prop} {σ : St} {H : Hp} {D : Addr} {n : Nat} {El : Nat → V → Hp → Prop}
end
section
variable {K : PySem.W.Frag} {B : V → St → Hp → (St → Hp → Prop) → Prop} {End : St → Hp → Prop} {σ : St} {H : Hp} {D a : Addr}
end
section
variable {α : Type} {R R' : V → α → Prop} {vs ws : List V} {rs ss : List α}
end
abbrev Row:=List Int × Int
def qad (rs:List Row) (k:Int):Row:=rs.getD k.toNat ([],0)
theorem qgw {rs:List Row} {k:Int} (h0:0≤k) (h1:k<rs.length):rs[k.toNat]?=some (qad rs k):=by
  have h:k.toNat<rs.length:=by omega
  unfold qad
  rw [List.getD_eq_getElem?_getD,List.getElem?_eq_getElem h]
  rfl
theorem qa6 {rs:List Row} {k:Int} (h0:0≤k) (h1:k<rs.length):qad rs k∈rs:=List.mem_of_getElem? (qgw h0 h1)
theorem qgn {α:Type} (xs:List α) (n:Nat):qey xs none (some (n:Int))=xs.take n:=by
  unfold qey
  have e1:HT.sIx xs.length 0 none=0:=rfl
  have e2:HT.sIx xs.length xs.length (some (n:Int))=min n xs.length:=HT.sIx_nat _ _ _
  rw [e1,e2,List.drop_zero,Nat.sub_zero]
  rcases Nat.le_total n xs.length with h | h
  · rw [Nat.min_eq_left h]
  · rw [Nat.min_eq_right h,List.take_length,List.take_of_length_le h]
theorem qgu {α:Type} (xs:List α) (n:Nat):qey xs (some (n:Int)) none=xs.drop n:=by
  unfold qey
  have e1:HT.sIx xs.length xs.length none=xs.length:=rfl
  have e2:HT.sIx xs.length 0 (some (n:Int))=min n xs.length:=HT.sIx_nat _ _ _
  rw [e1,e2]
  rcases Nat.le_total n xs.length with h | h
  · rw [Nat.min_eq_left h,List.take_of_length_le (by rw [List.length_drop];omega)]
  · rw [Nat.min_eq_right h,List.drop_length,List.drop_of_length_le h]
    simp
theorem qld (xs:List V) (lo hi:Option Int):qjL xs lo hi=qey xs lo hi:=rfl
section
variable {α : Type} {R : V → α → Prop} {vs : List V} {rs : List α}
end
theorem qay {a0 a1 a2 a3} {rest:List Expr} {env:Env}:starEach (.BinOp a0 a1 a2 a3::rest) env=(false,eval (.BinOp a0 a1 a2 a3) env)::starEach rest env:=rfl
theorem qc4 {a0 a1 a2} {rest:List Expr} {env:Env}:starEach (.UnaryOp a0 a1 a2::rest) env=(false,eval (.UnaryOp a0 a1 a2) env)::starEach rest env:=rfl
theorem qal {a0 a1 a2 a3} {rest:List Expr} {env:Env}:starEach (.ListComp a0 a1 a2 a3::rest) env=(false,eval (.ListComp a0 a1 a2 a3) env)::starEach rest env:=rfl
theorem qam {a0 a1 a2 a3} {rest:List Expr} {env:Env}:starEach (.Call a0 a1 a2 a3::rest) env=(false,eval (.Call a0 a1 a2 a3) env)::starEach rest env:=rfl
theorem qai {a0 a1 a2} {rest:List Expr} {env:Env}:starEach (.Constant a0 a1 a2::rest) env=(false,eval (.Constant a0 a1 a2) env)::starEach rest env:=rfl
theorem qat {a0 a1 a2} {rest:List Expr} {env:Env}:starEach (.Attribute a0 a1 a2::rest) env=(false,eval (.Attribute a0 a1 a2) env)::starEach rest env:=rfl
theorem qac {a0 a1 a2} {rest:List Expr} {env:Env}:starEach (.Subscript a0 a1 a2::rest) env=(false,eval (.Subscript a0 a1 a2) env)::starEach rest env:=rfl
theorem qaa {a0 a1} {rest:List Expr} {env:Env}:starEach (.Name a0 a1::rest) env=(false,eval (.Name a0 a1) env)::starEach rest env:=rfl
theorem qia {a0 a1} {rest:List Expr} {env:Env}:starEach (.List a0 a1::rest) env=(false,eval (.List a0 a1) env)::starEach rest env:=rfl
theorem qby {a0 a1 a2} {rest:List Expr} {env:Env}:starEach (.Tuple a0 a1 a2::rest) env=(false,eval (.Tuple a0 a1 a2) env)::starEach rest env:=rfl
theorem qaf {pos:Pos} {env:Env}:(backTo pos (starEach [] env)).any (·.1)=false:=rfl
theorem qae {pos:Pos} {e:Expr} {es:List Expr} {env:Env} (h:starEach (e::es) env=(false,eval e env)::starEach es env) (hr:(backTo pos (starEach es env)).any (·.1)=false):(backTo pos (starEach (e::es) env)).any (·.1)=false:=by
  rw [h]
  exact hr
theorem qcB {pos : Pos} {e : Expr} {env : Env} (h : starEach [e] env = (false, eval e env) :: starEach [] env) : ((backTo pos (starEach [e] env)).all (fun x => !x.1) && (backToKw pos (keywordEach [] env)).all (fun x => x.1.isSome)
      && decide ([e].length+([]:List Keyword).length+(if ([]:List Keyword).isEmpty then 0 else 1)<30))=true:=by
  rw [h]
  rfl
section
variable {X : Cx} {K : PySem.W.Frag}
theorem qhX (h:X.K=K):qc1 X (.builtin "isinstance") (qnS K):=h ▸ qiR
end
end L2
namespace L2
open PySem PySem.Spec PyProof.Rows
section
variable {X : Cx} {K : PySem.W.Frag}
theorem qmQ:OpR X (compareOp .Is) (fun x y H Q=>∃ a b:Bool,x=.bl a∧y=.bl b∧Q (.bl (a == b)) H):=by
  intro pins s σ H x y v u Q I rx ry h
  obtain ⟨a,b,rfl,rfl,q⟩:=h
  cases rx
  cases ry
  exact wpAny_is_plain rfl (qgK I q (by cases a <;> cases b <;> rfl))
theorem qkO:OpR X (compareOp .IsNot) (fun x y H Q=>∃ a b:Bool,x=.bl a∧y=.bl b∧Q (.bl (!(a == b))) H):=by
  intro pins s σ H x y v u Q I rx ry h
  obtain ⟨a,b,rfl,rfl,q⟩:=h
  cases rx
  cases ry
  exact wpAny_isNot_plain rfl (qgK I q (by cases a <;> cases b <;> rfl))
end
end L2
namespace PySem
open Sem (wp)
open Builtin
open AutoSeq1 (wpAny_loadPart')
theorem qc5:fillsNumberSlot (.type "tuple") "mul"=pure false :=
  fillsNumberSlot_seq (id:="tuple.__mul__") (r:=some (.builtin "tuple.__rmul__")) F.slot_tuple_mul.lookup (by decide +kernel) F.slot_tuple_rmul.lookup (by decide +kernel)
theorem qeQ:seqRepeat? (.type "tuple")=pure (some (.builtin "tuple.__mul__")):=by
  unfold seqRepeat?
  rw [seqSlot_of (T:="tuple") (name:="__mul__") (id:="tuple.__mul__") F.slot_tuple_mul.lookup (by decide +kernel),seqSlot_of (T:="tuple") (name:="__rmul__") (id:="tuple.__rmul__") F.slot_tuple_rmul.lookup (by decide +kernel)]
  rfl
theorem qdJ (a:Int) (t:Tok) (l:Addr) (items:Array Value) (n:Nat) (dd:Option Addr) (sl:Array (Option Value)) :
    Meets (Builtin.«int.__rmul__» ⟨[.int a t,.ref l],[]⟩) (fun _ R s=>s.heap.get? l=some { cls:=.type "tuple",dict:=dd,data:=.seq items n,slots:=sl }∧R (.ok (.ret Value.notImplemented)) s) :=
  .of_wp fun prog w A R s h=>by obtain ⟨hp,g,d,tk,os⟩:=s;obtain ⟨hl,h⟩:=h;wp_walk;exact ⟨_,rfl,h⟩
theorem qfS (l:Addr) (items:Array Value) (n:Nat) (dd:Option Addr) (sl:Array (Option Value)) (u:Tok) :
    Meets (Builtin.«tuple.__mul__» ⟨[.ref l,.int 1 u],[]⟩) (fun _ R s=>s.heap.get? l=some { cls:=.type "tuple",dict:=dd,data:=.seq items n,slots:=sl }∧R (.ok (.ret (Value.ref l))) s) :=
  .of_wp fun prog w A R s h=>by obtain ⟨hp,g,d,tk,os⟩:=s;obtain ⟨hl,h⟩:=h;have f1:=AutoSeq1.idx_int;have f2:=AutoSeq1.sub_tuple_tuple;wp_walk using wpAny_loadPart' hl;exact ⟨_,rfl,h⟩
theorem qfY (l:Addr) (items:Array Value) (n:Nat) (dd:Option Addr) (sl:Array (Option Value)) (k:Int) (u:Tok) (hc0:¬ (decide (k < -(2 ^ 63)) || decide (k≥2 ^ 63))=true) (hc1:¬ (items.isEmpty || k == 1)=true) (hc2:(decide (k≤0) || items.isEmpty)=true) :
    Meets (Builtin.«tuple.__mul__» ⟨[.ref l,.int k u],[]⟩) (fun _ R s=>s.heap.get? l=some { cls:=.type "tuple",dict:=dd,data:=.seq items n,slots:=sl }∧R (.ok (.ret (Value.ref s.heap.objs.size))) { s with heap:=s.heap.push { cls:=Value.type "tuple",data:=Data.seq #[] },toks:=s.toks }) :=
  .of_wp fun prog w A R s h=>by obtain ⟨hp,g,d,tk,os⟩:=s;obtain ⟨hl,h⟩:=h;have f1:=AutoSeq1.idx_int;have f2:=AutoSeq1.sub_tuple_tuple;wp_walk using wpAny_loadPart' hl;refine wpAny_ite_false (decide_eq_false hc0) ?_;wp_walk using wpAny_loadPart' hl;exact ⟨_,rfl,h⟩
theorem qf8 (l:Addr) (items:Array Value) (n:Nat) (dd:Option Addr) (sl:Array (Option Value)) (k:Int) (u:Tok) (hc0:¬ (decide (k < -(2 ^ 63)) || decide (k≥2 ^ 63))=true) (hc1:¬ (items.isEmpty || k == 1)=true) (hc2:¬ (decide (k≤0) || items.isEmpty)=true) (hc3:¬ (items.size*k>(2 ^ 63 - 1) / 8)) (hc4:¬ Builtin.Tuple.tupleTooMany (items.size*k)=true) (hsz:(List.foldl (fun x1 x2=>x1++x2) #[] (List.replicate k.toNat items)).size≤sizeLine) :
    Meets (Builtin.«tuple.__mul__» ⟨[.ref l,.int k u],[]⟩) (fun _ R s=>s.heap.get? l=some { cls:=.type "tuple",dict:=dd,data:=.seq items n,slots:=sl }∧R (.ok (.ret (Value.ref s.heap.objs.size))) { s with heap:=s.heap.push { cls:=Value.type "tuple",data:=Data.seq (List.foldl (fun x1 x2=>x1++x2) #[] (List.replicate k.toNat items)) },toks:=s.toks }) :=
  .of_wp fun prog w A R s h=>by obtain ⟨hp,g,d,tk,os⟩:=s;obtain ⟨hl,h⟩:=h;have f1:=AutoSeq1.idx_int;have f2:=AutoSeq1.sub_tuple_tuple;wp_walk using wpAny_loadPart' hl;refine wpAny_ite_false (decide_eq_false hc0) ?_;wp_walk using wpAny_loadPart' hl;refine wpAny_ite_false (decide_eq_false hc3) ?_;wp_walk using wpAny_loadPart' hl;exact ⟨_,rfl,h⟩
end PySem
namespace L2
open PySem PySem.Spec PyProof.Rows
def qmI (K:PySem.W.Frag):R2:=fun x y H Q=>∃ (a:Addr) (k:Int) (xs:List V),x=.ref a∧y=.int k∧SqT K H a xs∧xs≠[]∧0≤k∧k≤1000∧k.toNat*xs.length≤1000∧∀ p H',Same H H'→SqT K H' p (List.replicate k.toNat xs).flatten→Q (.ref p) H'
theorem qkz {X:Cx}:OpR X (binaryOp .Mult) (qmI X.K):=by
  intro pins s σ H x y v u Q I rx ry h
  obtain ⟨a,k,xs,rfl,rfl,ha,hx,h0,h1,hz,q⟩:=h
  cases rx
  obtain ⟨t,rfl⟩:=ry
  obtain ⟨its,r,p1,_⟩:=I.tuple ha
  have hne:its≠[]:=fun z=>hx (r.nil_iff.mp z)
  have hl:=r.length
  have hits:its.toArray.isEmpty=false:=by cases its with | nil=>exact absurd rfl hne | cons _ _=>rfl
  obtain ⟨⟨cls,dd,data,sl⟩,ho,hc,n,hd⟩:=id p1
  simp only at hc hd
  subst hc hd
  refine wpAny_binaryOp_repeat_ref (T:="tuple") (U:="int") (by decide) ⟨_,ho,rfl⟩ (fun s'=>typeIs_int s' k t) qc5 F.fills_int_mul F.slot_int_rmul qeQ F.slot_int_index.lookup
    (call_meets F.slot_int_rmul (typeIs_int s k t) F.entry_int_rmul (F.args_int_rmul_2 _ _) (qdJ k t a its.toArray n dd sl)
      ⟨ho,rfl,⟨_,ho,rfl⟩,?_⟩)
  have hnew:List.foldl (fun x1 x2=>x1++x2) #[] (List.replicate k.toNat its.toArray)=(List.replicate k.toNat its).flatten.toArray:=by
    have:=qdU its k.toNat []
    rw [List.nil_append] at this
    exact this
  have hc0:¬ (decide (k < -(2 ^ 63)) || decide (k≥2 ^ 63))=true:=by
    rw [decide_eq_false (by omega),decide_eq_false (by omega)]
    exact Bool.false_ne_true
  by_cases c1:k=1
  · subst c1
    refine call_meets F.slot_tuple_mul ⟨_,ho,rfl⟩ F.entry_tuple_mul (F.args_tuple_mul_2 _ _) (qfS a its.toArray n dd sl t) ⟨ho,?_⟩
    refine ⟨.ref a,H,I,rfl,q a H (Same.refl H) ?_⟩
    show SqT X.K H a (List.replicate 1 xs).flatten
    rw [List.replicate_one,List.flatten_cons,List.flatten_nil,List.append_nil]
    exact ha
  · have hc1:¬ (its.toArray.isEmpty || k == 1)=true:=by
      rw [hits,beq_eq_false_iff_ne.mpr c1]
      exact Bool.false_ne_true
    have lay:∀ ys:List V,∀ us:List Value,ys.length≤sizeLine→Vals ys us→EP X pins σ Q (.ref s.heap.objs.size) { s with heap:=s.heap.push { cls:=Value.type "tuple",data:=Data.seq us.toArray },toks:=s.toks }∨¬ (∀ p H',Same H H'→SqT X.K H' p ys→Q (.ref p) H'):=fun ys us hzz rr=>by
      by_cases qq:∀ p H',Same H H'→SqT X.K H' p ys→Q (.ref p) H'
      · refine .inl ⟨.ref s.heap.objs.size,_,I.laid (t':=s.toks) (o:=.tup ys) (fun b ob z=>Heap.get?_push_of_some _ z) (Nat.le_refl _) ?_,rfl,qq _ _ (qaJ (I.hok.fresh (Nat.le_refl _)) _) (SqT.of qan)⟩
        exact ⟨hzz,_,rr,IsTup.new _ _⟩
      · exact .inr qq
    by_cases c0:k=0
    · subst c0
      refine call_meets F.slot_tuple_mul ⟨_,ho,rfl⟩ F.entry_tuple_mul (F.args_tuple_mul_2 _ _) (qfY a its.toArray n dd sl 0 t hc0 hc1 rfl) ⟨ho,?_⟩
      rcases lay [] [] (Nat.zero_le _) .nil with z | z
      · exact z
      · exact absurd q z
    · have hc2:¬ (decide (k≤0) || its.toArray.isEmpty)=true:=by
        rw [hits,decide_eq_false (by omega)]
        exact Bool.false_ne_true
      have hlen:its.length*k.toNat≤1000:=by rw [← hl,Nat.mul_comm];exact hz
      have hlenI:(its.toArray.size:Int)*k≤1000:=by
        rw [List.size_toArray]
        have e:k=((k.toNat:Nat):Int):=by omega
        rw [e]
        exact_mod_cast hlen
      have hs:(1000:Int)≤((sizeLine:Nat):Int):=by exact_mod_cast small (Nat.le_refl 1000)
      have hflat:(List.replicate k.toNat its).flatten.length≤1000:=by rw [qge,Nat.mul_comm];exact hlen
      refine call_meets F.slot_tuple_mul ⟨_,ho,rfl⟩ F.entry_tuple_mul (F.args_tuple_mul_2 _ _) (qf8 a its.toArray n dd sl k t hc0 hc1 hc2 (by omega) (by unfold Builtin.Tuple.tupleTooMany;rw [decide_eq_false (by omega)];exact Bool.false_ne_true) (by rw [hnew,List.size_toArray];exact small hflat)) ⟨ho,?_⟩
      rw [hnew]
      rcases lay (List.replicate k.toNat xs).flatten (List.replicate k.toNat its).flatten (by rw [qge];exact small hz) (r.rep k.toNat) with z | z
      · exact z
      · exact absurd q z
inductive D where
  | int (i:Int) | bl (b:Bool) | str (x:Str) | non | tup (xs:List D) | lst (xs:List D) | fzl (xs:List D) | obj (nm:Str) (fs:List (Str × D))
inductive Rp (K:PySem.W.Frag) (H:Hp):D→V→Prop where
  | int (i:Int):Rp K H (.int i) (.int i)
  | bl (b:Bool):Rp K H (.bl b) (.bl b)
  | str (x:Str):Rp K H (.str x) (.str x)
  | non:Rp K H .non .non
  | tup {a:Addr} {vs:List V} {ds:List D}:SqT K H a vs→vs.length=ds.length→(∀ (i:Nat) (v:V) (d:D),vs[i]?=some v→ds[i]?=some d→Rp K H d v)→Rp K H (.tup ds) (.ref a)
  | lst {a:Addr} {vs:List V} {ds:List D}:H a=some (.lst vs)→vs.length=ds.length→(∀ (i:Nat) (v:V) (d:D),vs[i]?=some v→ds[i]?=some d→Rp K H d v)→Rp K H (.lst ds) (.ref a)
  | fzl {a:Addr} {vs:List V} {ds:List D}:SqL K H a vs→vs.length=ds.length→(∀ (i:Nat) (v:V) (d:D),vs[i]?=some v→ds[i]?=some d→Rp K H d v)→Rp K H (.fzl ds) (.ref a)
  | obj {a C dx:Addr} {nm:Str} {vs:List (Str × V)} {fs:List (Str × D)}:PySem.W.nsIn K mainGlobals nm=some (some (.ref C))→H a=some (.ins C dx vs)→vs.map (·.1)=fs.map (·.1)→(∀ (i:Nat) (v:Str × V) (d:Str × D),vs[i]?=some v→fs[i]?=some d→Rp K H d.2 v.2)→Rp K H (.obj nm fs) (.ref a)
def RpL (K:PySem.W.Frag) (H:Hp) (ds:List D) (vs:List V):Prop:=vs.length=ds.length∧∀ (i:Nat) (v:V) (d:D),vs[i]?=some v→ds[i]?=some d→Rp K H d v
section
variable {K : PySem.W.Frag} {H H' Φ Φ' Φ1 H1 Φ2 H2 : Hp} {d : D} {v : V} {ds es : List D} {vs ws : List V}
theorem Rp.same (s:Same H H') (h:Rp K H d v):Rp K H' d v:=by
  induction h with
  | int i=>exact .int i
  | bl b=>exact .bl b
  | str x=>exact .str x
  | non=>exact .non
  | tup h1 h2 _ ih=>exact .tup (s.sqt h1) h2 ih
  | lst h1 h2 _ ih=>exact .lst (s _ _ h1) h2 ih
  | fzl h1 h2 _ ih=>exact .fzl (s.seq h1) h2 ih
  | obj h0 h1 h2 _ ih=>exact .obj h0 (s _ _ h1) h2 ih
theorem RpL.same (s:Same H H') (h:RpL K H ds vs):RpL K H' ds vs:=⟨h.1,fun i v d hv hd=>(h.2 i v d hv hd).same s⟩
theorem RpL.nil:RpL K H [] []:=⟨rfl,fun i v d hv _=>by simp at hv⟩
theorem RpL.cons (r:Rp K H d v) (h:RpL K H ds vs):RpL K H (d::ds) (v::vs):=⟨by simp [h.1],fun i u e hu he=>by
  cases i with
  | zero=>cases hu;cases he;exact r
  | succ i=>exact h.2 i u e hu he⟩
theorem RpL.append (h:RpL K H ds vs) (h':RpL K H es ws):RpL K H (ds++es) (vs++ws):=by
  refine ⟨by rw [List.length_append,List.length_append,h.1,h'.1],fun i u e hu he=>?_⟩
  rcases Nat.lt_or_ge i vs.length with c | c
  · rw [List.getElem?_append_left c] at hu
    rw [List.getElem?_append_left (by rw [← h.1];exact c)] at he
    exact h.2 i u e hu he
  · rw [List.getElem?_append_right c] at hu
    rw [List.getElem?_append_right (by rw [← h.1];exact c),← h.1] at he
    exact h'.2 _ u e hu he
theorem RpL.one (r:Rp K H d v):RpL K H [d] [v]:=.cons r .nil
theorem RpL.take (h:RpL K H ds vs) (k:Nat):RpL K H (ds.take k) (vs.take k):=⟨by rw [List.length_take,List.length_take,h.1],fun i u e hu he=>by
  rcases Nat.lt_or_ge i k with c | c
  · rw [List.getElem?_take_of_lt c] at hu he
    exact h.2 i u e hu he
  · rw [List.getElem?_take_eq_none c] at hu
    cases hu⟩
theorem RpL.drop (h:RpL K H ds vs) (k:Nat):RpL K H (ds.drop k) (vs.drop k):=⟨by rw [List.length_drop,List.length_drop,h.1],fun i u e hu he=>by
  rw [List.getElem?_drop] at hu he
  exact h.2 _ u e hu he⟩
theorem RpL.rep (h:RpL K H ds vs):∀ k:Nat,RpL K H (List.replicate k ds).flatten (List.replicate k vs).flatten
  | 0=>.nil
  | k+1=>by
    rw [List.replicate_succ,List.replicate_succ,List.flatten_cons,List.flatten_cons]
    exact h.append (RpL.rep h k)
theorem RpL.at (h:RpL K H ds vs) {i:Nat} (e:ds[i]?=some d):∃ v,vs[i]?=some v∧Rp K H d v:=by
  have hi:i<vs.length:=by rw [h.1];exact qaF e
  exact ⟨vs[i],by simp [hi],h.2 i _ d (by simp [hi]) e⟩
theorem RpL.at' (h:RpL K H ds vs) {i:Nat} (e:vs[i]?=some v):∃ d,ds[i]?=some d∧Rp K H d v:=by
  have hi:i<ds.length:=by rw [← h.1];exact qaF e
  exact ⟨ds[i],by simp [hi],h.2 i v _ e (by simp [hi])⟩
theorem RpL.cut (h:RpL K H ds vs) (lo hi:Option Int):RpL K H (qey ds lo hi) (qjL vs lo hi):=by
  rw [qld]
  unfold qey
  rw [h.1]
  exact (h.drop _).take _
theorem RpL.tup {a:Addr} (h:RpL K H ds vs) (s:SqT K H a vs):Rp K H (.tup ds) (.ref a):=.tup s h.1 h.2
theorem RpL.lst {a:Addr} (h:RpL K H ds vs) (s:H a=some (.lst vs)):Rp K H (.lst ds) (.ref a):=.lst s h.1 h.2
theorem RpL.fzl {a:Addr} (h:RpL K H ds vs) (s:SqL K H a vs):Rp K H (.fzl ds) (.ref a):=.fzl s h.1 h.2
theorem RpL.ints (ns:List Int):RpL K H (ns.map D.int) (ns.map V.int):=⟨by simp,fun i v d hv hd=>by
  rw [List.getElem?_map] at hv hd
  cases e:ns[i]? with
  | none=>rw [e] at hv;cases hv
  | some k=>rw [e] at hv hd;cases hv;cases hd;exact .int k⟩
def OwK:HO→Prop | .lst _=>True | .dK _=>True | .dT _=>True | _=>False
structure Gr (Φ H Φ' H':Hp):Prop where
  f:Same Φ Φ'
  h:Same H H'
  s:Same Φ' H'
  o:∀ p (u:HO),H p=some u→Φ p=none→(k:OwK u:=by trivial)→Φ' p=none
theorem Gr.refl (s:Same Φ H):Gr Φ H Φ H:=⟨Same.refl _,Same.refl _,s,fun _ _ _ h _=>h⟩
theorem Gr.trans (a:Gr Φ H Φ1 H1) (b:Gr Φ1 H1 Φ2 H2):Gr Φ H Φ2 H2:=⟨a.f.trans b.f,a.h.trans b.h,b.s,fun p u hp hn k=>b.o p u (a.h p _ hp) (a.o p u hp hn k) k⟩
theorem Gr.join (a:Gr Φ H Φ1 H1) (b:Gr Φ1 H Φ2 H2):Gr Φ H Φ2 H2:=⟨a.f.trans b.f,b.h,b.s,fun p u hp hn k=>b.o p u hp (a.o p u hp hn k) k⟩
theorem qib (s:Same Φ H) {p:Addr} (o:HO):Same (upd Φ p o) (upd H p o):=fun b u e=>by
  by_cases c:b=p
  · subst c;rw [qan] at e ⊢;exact e
  · rw [qax c] at e ⊢;exact s b u e
theorem Gr.new (s:Same Φ H) {p:Addr} (hp:H p=none) (o:HO):Gr Φ H (upd Φ p o) (upd H p o) :=
  ⟨qaJ (s.free hp) o,qaJ hp o,qib s o,fun q u hq hn _=>by rw [qax (qaw hq hp)];exact hn⟩
theorem Gr.fresh (s:Same Φ H) {p:Addr} (hp:H p=none) (o:HO):Gr Φ H Φ (upd H p o) :=
  ⟨Same.refl _,qaJ hp o,fun b u e=>qaJ hp o b u (s b u e),fun _ _ _ h _=>h⟩
theorem Gr.freeze (g:Gr Φ H Φ' H') {p:Addr} {o:HO} (h0:H p=none) (hn:Φ' p=none) (hp:H' p=some o):Gr Φ H (upd Φ' p o) H' :=
  ⟨g.f.trans (qaJ hn o),g.h,fun b u e=>by
    by_cases c:b=p
    · subst c;rw [qan] at e;cases e;exact hp
    · rw [qax c] at e;exact g.s b u e,fun q u hq hqn k=>by rw [qax (qaw hq h0)];exact g.o q u hq hqn k⟩
theorem Gr.adopt {p:Addr} {xs:List V} (s:Same Φ H) (h:Same H H') (q:SqT K H' p xs):∃ Φ',Gr Φ H Φ' H'∧SqT K Φ' p xs:=by
  rcases q with q | q
  · obtain ⟨o,ho,hr,hnl⟩:∃ o,H' p=some o∧(o=.tup xs∨∃ b,o=.frz b (.tup xs))∧¬ OwK o:=by
      rcases q with q | ⟨o,q⟩
      · exact ⟨_,q,.inl rfl,fun e=>e⟩
      · exact ⟨_,q,.inr ⟨o,rfl⟩,fun e=>e⟩
    have e1:∀ u,Φ p=some u→u=o:=fun u e=>by have:=h _ _ (s _ _ e);rw [ho] at this;cases this;rfl
    refine ⟨upd Φ p o,⟨fun b u e=>?_,h,fun b u e=>?_,fun b u e n k=>?_⟩,?_⟩
    · by_cases c:b=p
      · subst c;rw [qan,e1 u e]
      · rw [qax c];exact e
    · by_cases c:b=p
      · subst c;rw [qan] at e;cases e;exact ho
      · rw [qax c] at e;exact h _ _ (s _ _ e)
    · by_cases c:b=p
      · subst c
        have:=h _ _ e
        rw [ho] at this
        cases this
        exact absurd k hnl
      · rw [qax c];exact n
    · rcases hr with rfl | ⟨b,rfl⟩
      · exact .inl (.inl qan)
      · exact .inl (.inr ⟨b,qan⟩)
  · exact ⟨Φ,⟨Same.refl _,h,fun b u e=>h _ _ (s _ _ e),fun _ _ _ n _=>n⟩,.inr q⟩
def RpQ (K:PySem.W.Frag) (Φ H:Hp) (d:D) (v:V):Prop:=Rp K Φ d v∨∃ a vs ds,d=.lst ds∧v=.ref a∧H a=some (.lst vs)∧RpL K Φ ds vs
theorem RpQ.gr (g:Gr Φ H Φ' H') (h:RpQ K Φ H d v):RpQ K Φ' H' d v:=by
  rcases h with h | ⟨a,vs,ds,e,e2,h1,h2⟩
  · exact .inl (h.same g.f)
  · exact .inr ⟨a,vs,ds,e,e2,g.h _ _ h1,h2.same g.f⟩
theorem RpQ.lst (s:Same Φ H) (h:RpQ K Φ H (.lst ds) v):∃ a vs,v=.ref a∧H a=some (.lst vs)∧RpL K Φ ds vs:=by
  rcases h with h | ⟨a,vs,ds,e,e2,h1,h2⟩
  · cases h with | lst h1 h2 h3=>exact ⟨_,_,rfl,s _ _ h1,h2,h3⟩
  · cases e;exact ⟨a,vs,e2,h1,h2⟩
theorem RpQ.fzl (s:Same Φ H) (h:RpQ K Φ H (.fzl ds) v):∃ a vs,v=.ref a∧SqL K H a vs∧RpL K Φ ds vs:=by
  rcases h with h | ⟨a,vs,ds,e,e2,h1,h2⟩
  · cases h with | fzl h1 h2 h3=>exact ⟨_,_,rfl,s.seq h1,h2,h3⟩
  · cases e
theorem RpQ.tup (s:Same Φ H) (h:RpQ K Φ H (.tup ds) v):∃ a vs,v=.ref a∧SqT K H a vs∧SqT K Φ a vs∧RpL K Φ ds vs:=by
  rcases h with h | ⟨a,vs,ds,e,e2,h1,h2⟩
  · cases h with | tup h1 h2 h3=>exact ⟨_,_,rfl,s.sqt h1,h1,h2,h3⟩
  · cases e
theorem RpQ.int {i:Int} (h:RpQ K Φ H (.int i) v):v=.int i:=by
  rcases h with h | ⟨a,vs,ds,e,_⟩
  · cases h;rfl
  · cases e
theorem RpQ.bl {i:Bool} (h:RpQ K Φ H (.bl i) v):v=.bl i:=by
  rcases h with h | ⟨a,vs,ds,e,_⟩
  · cases h;rfl
  · cases e
theorem RpQ.str {i:Str} (h:RpQ K Φ H (.str i) v):v=.str i:=by
  rcases h with h | ⟨a,vs,ds,e,_⟩
  · cases h;rfl
  · cases e
theorem RpQ.non (h:RpQ K Φ H .non v):v=.non:=by
  rcases h with h | ⟨a,vs,ds,e,_⟩
  · cases h;rfl
  · cases e
def qiu:D→Option (List D)
  | .lst ds=>some ds
  | .tup ds=>some ds
  | .fzl ds=>some ds
  | _=>none
theorem RpQ.seq (s:Same Φ H) (h:RpQ K Φ H d v) (e:qiu d=some ds):∃ a vs,v=.ref a∧(SqL K H a vs∨SqT K H a vs)∧RpL K Φ ds vs:=by
  cases d with
  | lst ds=>cases e;obtain ⟨a,vs,e,h1,h2⟩:=h.lst s;exact ⟨a,vs,e,.inl (.of h1),h2⟩
  | tup ds=>cases e;obtain ⟨a,vs,e,h1,_,h2⟩:=h.tup s;exact ⟨a,vs,e,.inr h1,h2⟩
  | fzl ds=>cases e;obtain ⟨a,vs,e,h1,h2⟩:=h.fzl s;exact ⟨a,vs,e,.inl h1,h2⟩
  | _=>cases e
theorem Rp.seq (h:Rp K Φ d v) (e:qiu d=some ds):∃ (b:Bool) (a:Addr) (vs:List V),v=.ref a∧SqB K b Φ a vs∧RpL K Φ ds vs:=by
  cases d with
  | lst ds=>cases e;cases h with | lst h1 h2 h3=>exact ⟨true,_,_,rfl,SqL.of h1,h2,h3⟩
  | tup ds=>cases e;cases h with | tup h1 h2 h3=>exact ⟨false,_,_,rfl,h1,h2,h3⟩
  | fzl ds=>cases e;cases h with | fzl h1 h2 h3=>exact ⟨true,_,_,rfl,h1,h2,h3⟩
  | _=>cases e
end
inductive Ow where | lst (xs:List D) | dct (ks:List Key) | dcT (ks:List (List Key))
inductive Sl where | v (d:D) | ob (o:Ow)
abbrev Sl.own (xs:List D):Sl:=.ob (.lst xs)
def OwR (K:PySem.W.Frag) (Φ:Hp):Ow→HO→Prop
  | .lst ds,.lst vs=>RpL K Φ ds vs
  | .dct ks,.dK kvs=>kvs.map (·.1)=ks
  | .dcT ks,.dT kvs=>kvs.map (·.1)=ks
  | _,_=>False
theorem OwR.k {K:PySem.W.Frag} {Φ:Hp} {o:Ow} {u:HO} (r:OwR K Φ o u):OwK u:=by
  cases o with
  | lst ds =>
    cases u with
    | lst vs=>exact True.intro
    | _=>exact r.elim
  | dct ks =>
    cases u with
    | dK kvs=>exact True.intro
    | _=>exact r.elim
  | dcT ks =>
    cases u with
    | dT kvs=>exact True.intro
    | _=>exact r.elim
theorem OwR.same {K:PySem.W.Frag} {Φ Φ':Hp} {o:Ow} {u:HO} (r:OwR K Φ o u) (s:Same Φ Φ'):OwR K Φ' o u:=by
  cases o with
  | lst ds =>
    cases u with
    | lst vs=>exact (show RpL K Φ ds vs from r).same s
    | _=>exact r.elim
  | dct ks =>
    cases u with
    | dK kvs=>exact r
    | _=>exact r.elim
  | dcT ks =>
    cases u with
    | dT kvs=>exact r
    | _=>exact r.elim
abbrev Rho:=List (Option Sl)
def qjB:FuncBody→Option Pos
  | .stmts b=>(match b.getLast? with
    | some (.Return (some (.Call _ _ kws _)) _)=>kws.findSome? fun k=>(match k.value with | .Lambda _ _ _ pos=>some pos | _=>none)
    | _=>none)
  | _=>none
def qgb (K:PySem.W.Frag) (x:Str):Option (Addr × Array Value):=match PySem.W.nsIn K mainGlobals x with
  | some (some (.ref f))=>(match K.lookup f with
    | some ⟨_,_,.func fd,_⟩=>(match fd.code with
      | .ref c=>(match K.lookup c with
        | some ⟨_,_,.fields vs,_⟩=>(match (vs[11]?:Option Value),qjB fd.body with
          | some (.ref P),some pos=>some (P,#[rawInt pos.line,rawInt pos.col,.str (fd.qualname++".<locals>."++"<lambda>") 0])
          | _,_=>none)
        | _=>none)
      | _=>none)
    | _=>none)
  | _=>none
def qa1 (K:PySem.W.Frag):List (Addr × Array Value):=(["least_grown","greatest_first"]:List Str).filterMap (qgb K)
def TabF (K:PySem.W.Frag) (Φ:Hp):Prop:=∀ t∈qa1 K,Φ t.1=some (.tbl t.2)
theorem TabF.same {K:PySem.W.Frag} {Φ Φ':Hp} (h:TabF K Φ) (s:Same Φ Φ'):TabF K Φ':=fun t ht=>s _ _ (h t ht)
structure EnvD (K:PySem.W.Frag) (H0 Φ H:Hp) (σ:St) (ρ:Rho):Prop where
  fz:Same Φ H
  len:σ.length=ρ.length
  sl:∀ (i:Nat) (d:D),ρ[i]?=some (some (.v d))→∃ v,σ[i]?=some (some v)∧Rp K Φ d v
  ow:∀ (i:Nat) (o:Ow),ρ[i]?=some (some (.ob o))→∃ p u,σ[i]?=some (some (.ref p))∧H0 p=none∧Φ p=none∧H p=some u∧OwR K Φ o u
  ne:∀ (i j:Nat) (o w:Ow) (p:Addr),ρ[i]?=some (some (.ob o))→ρ[j]?=some (some (.ob w))→σ[i]?=some (some (.ref p))→σ[j]?=some (some (.ref p))→i=j
  tb:TabF K Φ
section
variable {K : PySem.W.Frag} {H0 H H' Φ Φ' Φ1 H1 Φ2 H2 : Hp} {σ : St} {ρ : Rho} {d : D} {v : V} {ds es : List D} {vs ws : List V}
theorem EnvD.owl (E:EnvD K H0 Φ H σ ρ) (i:Nat) (ds:List D) (h:ρ[i]?=some (some (.own ds))):∃ p vs,σ[i]?=some (some (.ref p))∧H0 p=none∧Φ p=none∧H p=some (.lst vs)∧RpL K Φ ds vs:=by
  obtain ⟨p,u,e,h0,hn,hp,r⟩:=E.ow i _ h
  cases u with
  | lst vs=>exact ⟨p,vs,e,h0,hn,hp,r⟩
  | _=>exact (show False from r).elim
theorem EnvD.gr (E:EnvD K H0 Φ H σ ρ) (g:Gr Φ H Φ' H'):EnvD K H0 Φ' H' σ ρ :=
  ⟨g.s,E.len,fun i d h=>let ⟨v,e,r⟩:=E.sl i d h;⟨v,e,r.same g.f⟩,
    fun i ds h=>let ⟨p,vs,e,h0,hn,hp,r⟩:=E.ow i ds h;⟨p,vs,e,h0,g.o p _ hp hn r.k,g.h _ _ hp,r.same g.f⟩,E.ne,E.tb.same g.f⟩
theorem qbE {α:Type} {l:List α} {i j:Nat} {x y:α} (h:(l.set i x)[j]?=some y):(j=i∧i<l.length∧y=x)∨(j≠i∧l[j]?=some y):=by
  by_cases c:i=j
  · subst c
    have hi:i<l.length:=by have:=qaF h;rwa [List.length_set] at this
    rw [List.getElem?_set_self hi] at h
    cases h
    exact .inl ⟨rfl,hi,rfl⟩
  · rw [List.getElem?_set_ne c] at h
    exact .inr ⟨fun e=>c e.symm,h⟩
theorem EnvD.set (E:EnvD K H0 Φ H σ ρ) (r:Rp K Φ d v) (i:Nat):EnvD K H0 Φ H (σ.set i (some v)) (ρ.set i (some (.v d))):=by
  have nn:∀ {j:Nat} {x:Option V},j≠i→σ[j]?=some x→(σ.set i (some v))[j]?=some x:=fun c h=>by rw [List.getElem?_set_ne (Ne.symm c)];exact h
  refine ⟨E.fz,by rw [List.length_set,List.length_set,E.len],fun j e h=>?_,fun j ds h=>?_,fun j k ds es p hj hk sj sk=>?_,E.tb⟩
  · rcases qbE h with ⟨rfl,hi,e1⟩ | ⟨c,h⟩
    · cases e1
      exact ⟨v,by rw [List.getElem?_set_self (by rw [E.len];exact hi)],r⟩
    · obtain ⟨u,hu,ru⟩:=E.sl j e h
      exact ⟨u,nn c hu,ru⟩
  · rcases qbE h with ⟨rfl,hi,e1⟩ | ⟨c,h⟩
    · cases e1
    · obtain ⟨p,vs,e,q⟩:=E.ow j ds h
      exact ⟨p,vs,nn c e,q⟩
  · rcases qbE hj with ⟨rfl,_,e1⟩ | ⟨cj,hj⟩
    · cases e1
    rcases qbE hk with ⟨rfl,_,e1⟩ | ⟨ck,hk⟩
    · cases e1
    rw [List.getElem?_set_ne (Ne.symm cj)] at sj
    rw [List.getElem?_set_ne (Ne.symm ck)] at sk
    exact E.ne j k ds es p hj hk sj sk
theorem EnvD.setOb (E:EnvD K H0 Φ H σ ρ) {p:Addr} {o:Ow} {u:HO} (r:OwR K Φ o u) (h0:H0 p=none) (hn:Φ p=none) (hp:H p=some u) (hnew:∀ (j:Nat) (w:Ow),ρ[j]?=some (some (.ob w))→σ[j]?≠some (some (.ref p))) (i:Nat):EnvD K H0 Φ H (σ.set i (some (.ref p))) (ρ.set i (some (.ob o))):=by
  have nn:∀ {j:Nat} {x:Option V},j≠i→σ[j]?=some x→(σ.set i (some (.ref p)))[j]?=some x:=fun c h=>by rw [List.getElem?_set_ne (Ne.symm c)];exact h
  refine ⟨E.fz,by rw [List.length_set,List.length_set,E.len],fun j e h=>?_,fun j ds h=>?_,fun j k ds es q hj hk sj sk=>?_,E.tb⟩
  · rcases qbE h with ⟨rfl,hi,e1⟩ | ⟨c,h⟩
    · cases e1
    · obtain ⟨u,hu,ru⟩:=E.sl j e h
      exact ⟨u,nn c hu,ru⟩
  · rcases qbE h with ⟨rfl,hi,e1⟩ | ⟨c,h⟩
    · cases e1
      exact ⟨p,u,by rw [List.getElem?_set_self (by rw [E.len];exact hi)],h0,hn,hp,r⟩
    · obtain ⟨p,vs,e,q⟩:=E.ow j ds h
      exact ⟨p,vs,nn c e,q⟩
  · rcases qbE hj with ⟨e1,hl,_⟩ | ⟨cj,hj'⟩
    · rcases qbE hk with ⟨e2,_,_⟩ | ⟨ck,hk'⟩
      · rw [e1,e2]
      · rw [e1,List.getElem?_set_self (by rw [E.len];exact hl)] at sj
        cases sj
        rw [List.getElem?_set_ne (Ne.symm ck)] at sk
        exact absurd sk (hnew k _ hk')
    · rw [List.getElem?_set_ne (Ne.symm cj)] at sj
      rcases qbE hk with ⟨e2,hl,_⟩ | ⟨ck,hk'⟩
      · rw [e2,List.getElem?_set_self (by rw [E.len];exact hl)] at sk
        cases sk
        exact absurd sj (hnew j _ hj')
      · rw [List.getElem?_set_ne (Ne.symm ck)] at sk
        exact E.ne j k _ _ q hj' hk' sj sk
theorem EnvD.putOb (E:EnvD K H0 Φ H σ ρ) {i:Nat} {p:Addr} {o o':Ow} {u:HO} (ho:ρ[i]?=some (some (.ob o))) (hs:σ[i]?=some (some (.ref p))) (r:OwR K Φ o' u):EnvD K H0 Φ (upd H p u) σ (ρ.set i (some (.ob o'))):=by
  obtain ⟨p',vs,e,h0,hn,hp,_⟩:=E.ow i _ ho
  rw [hs] at e
  cases e
  have hi:=qaF ho
  refine ⟨fun b u e=>?_,by rw [List.length_set,E.len],fun j e h=>?_,fun j fs h=>?_,fun j k fs gs q hj hk sj sk=>?_,E.tb⟩
  · rw [qax (qaw e hn)]
    exact E.fz b u e
  · rcases qbE h with ⟨rfl,_,e1⟩ | ⟨c,h⟩
    · cases e1
    · exact E.sl j e h
  · rcases qbE h with ⟨rfl,_,e1⟩ | ⟨c,h⟩
    · cases e1
      exact ⟨p,u,hs,h0,hn,qan,r⟩
    · obtain ⟨q,us,e,q0,qn,qp,qr⟩:=E.ow j fs h
      refine ⟨q,us,e,q0,qn,?_,qr⟩
      rw [qax fun z=>c (E.ne j i fs o p h ho (by rw [e,z]) hs)]
      exact qp
  · have old:∀ {j:Nat} {fs:Ow},(ρ.set i (some (.ob o')))[j]?=some (some (.ob fs))→∃ gs,ρ[j]?=some (some (.ob gs)):=fun {j fs} h=>by
      rcases qbE h with ⟨rfl,_,_⟩ | ⟨_,h⟩
      · exact ⟨o,ho⟩
      · exact ⟨fs,h⟩
    obtain ⟨fs',hj⟩:=old hj
    obtain ⟨gs',hk⟩:=old hk
    exact E.ne j k fs' gs' q hj hk sj sk
theorem EnvD.setOwn (E:EnvD K H0 Φ H σ ρ) {p:Addr} (r:RpL K Φ ds vs) (h0:H0 p=none) (hn:Φ p=none) (hp:H p=some (.lst vs)) (hnew:∀ (j:Nat) (w:Ow),ρ[j]?=some (some (.ob w))→σ[j]?≠some (some (.ref p))) (i:Nat):EnvD K H0 Φ H (σ.set i (some (.ref p))) (ρ.set i (some (.own ds))):=E.setOb (o:=.lst ds) (u:=.lst vs) r h0 hn hp hnew i
theorem EnvD.put (E:EnvD K H0 Φ H σ ρ) {i:Nat} {p:Addr} (ho:ρ[i]?=some (some (.own ds))) (hs:σ[i]?=some (some (.ref p))) (r:RpL K Φ es ws):EnvD K H0 Φ (upd H p (.lst ws)) σ (ρ.set i (some (.own es))):=E.putOb (o':=.lst es) (u:=.lst ws) ho hs r
def frz (i:Nat) (ρ:Rho):Rho:=match ρ[i]? with | some (some (.ob (.lst ds)))=>ρ.set i (some (.v (.lst ds))) | _=>ρ
theorem EnvD.frz (E:EnvD K H0 Φ H σ ρ) (g:Gr Φ0 H0 Φ H) (i:Nat):∃ Φ',Gr Φ0 H0 Φ' H∧EnvD K H0 Φ' H σ (frz i ρ):=by
  unfold L2.frz
  split
  · next ds ho =>
    obtain ⟨p,vs,e,h0,hn,hp,r⟩:=E.owl i ds ho
    have s1:=qaJ hn (.lst vs)
    refine ⟨upd Φ p (.lst vs),g.freeze h0 hn hp,fun b u e=>?_,by rw [List.length_set,E.len],fun j e2 h=>?_,fun j fs h=>?_,fun j k fs gs q hj hk sj sk=>?_,E.tb.same s1⟩
    · by_cases c:b=p
      · subst c;rw [qan] at e;cases e;exact hp
      · rw [qax c] at e;exact E.fz b u e
    · rcases qbE h with ⟨rfl,_,e1⟩ | ⟨c,h⟩
      · cases e1
        exact ⟨_,e,(r.same s1).lst qan⟩
      · obtain ⟨u,hu,ru⟩:=E.sl j e2 h
        exact ⟨u,hu,ru.same s1⟩
    · rcases qbE h with ⟨rfl,_,e1⟩ | ⟨c,h⟩
      · cases e1
      · obtain ⟨q,us,e3,q0,qn,qp,qr⟩:=E.ow j fs h
        refine ⟨q,us,e3,q0,?_,qp,qr.same s1⟩
        rw [qax fun z=>c (E.ne j i fs _ p h ho (by rw [e3,z]) e)]
        exact qn
    · rcases qbE hj with ⟨_,_,e1⟩ | ⟨_,hj⟩
      · cases e1
      rcases qbE hk with ⟨_,_,e1⟩ | ⟨_,hk⟩
      · cases e1
      exact E.ne j k fs gs q hj hk sj sk
  · exact ⟨Φ,g,E⟩
theorem EnvD.weak {ρ':Rho} (E:EnvD K H0 Φ H σ ρ) (hl:ρ'.length=ρ.length) (hw:∀ (i:Nat) x,ρ'[i]?=some (some x)→ρ[i]?=some (some x)):EnvD K H0 Φ H σ ρ' :=
  ⟨E.fz,by rw [E.len,hl],fun i d h=>E.sl i d (hw i _ h),fun i ds h=>E.ow i ds (hw i _ h),fun i j ds es p hi hj=>E.ne i j ds es p (hw i _ hi) (hw j _ hj),E.tb⟩
end
def NF {α:Type} (x:α) (R:α→Prop):Prop:=∃ y,x=y∧R y
theorem NF.get {α:Type} {x:α} {R:α→Prop} (h:NF x R):R x:=by
  obtain ⟨_,rfl,h⟩:=h
  exact h
abbrev TD:=Rho→(D→Prop)→Prop
abbrev TDL:=Rho→(List D→Prop)→Prop
abbrev TDB:=Rho→(Bool→Prop)→Prop
def lE (K:PySem.W.Frag) (t:TD):TE:=fun σ H Q=>∃ H0 Φ ρ R,EnvD K H0 Φ H σ ρ∧t ρ R∧∀ d Φ' H' v,R d→Gr Φ H Φ' H'→Rp K Φ' d v→Q v H'
def lQ (K:PySem.W.Frag) (t:TD):TE:=fun σ H Q=>∃ H0 Φ ρ R,EnvD K H0 Φ H σ ρ∧t ρ R∧∀ d Φ' H' v,R d→Gr Φ H Φ' H'→RpQ K Φ' H' d v→Q v H'
def lF (K:PySem.W.Frag) (t:TDL):TE:=fun σ H Q=>∃ H0 Φ ρ R,EnvD K H0 Φ H σ ρ∧t ρ R∧∀ ds Φ' H' p vs,R ds→Gr Φ H Φ' H'→H p=none→Φ' p=none→H' p=some (.lst vs)→RpL K Φ' ds vs→Q (.ref p) H'
def lA (K:PySem.W.Frag) (n:Nat) (t:TDL):TA:=fun σ H Q=>∃ H0 Φ ρ R,EnvD K H0 Φ H σ ρ∧t ρ R∧∀ ds Φ' H' vs,R ds→Gr Φ H Φ' H'→RpL K Φ' ds vs→ds.length=n→Q vs H'
def lT (K:PySem.W.Frag) (t:TDB):TT:=fun σ H Q=>∃ H0 Φ ρ R,EnvD K H0 Φ H σ ρ∧t ρ R∧∀ b Φ' H',R b→Gr Φ H Φ' H'→Q b H'
structure PD (K:PySem.W.Frag) (X:Cx) (e:Expr) (t:TD):Prop where pe:X.K=K→PE X e (lE K t)
structure PQ (K:PySem.W.Frag) (X:Cx) (e:Expr) (t:TD):Prop where pe:X.K=K→PE X e (lQ K t)
structure PF (K:PySem.W.Frag) (X:Cx) (e:Expr) (t:TDL):Prop where pe:X.K=K→PE X e (lF K t)
structure PAD (K:PySem.W.Frag) (X:Cx) (es:List Expr) (t:TDL):Prop where pa:X.K=K→PA X es (lA K es.length t)
structure PTD (K:PySem.W.Frag) (X:Cx) (e:Expr) (t:TDB):Prop where pt:X.K=K→PT X e (lT K t)
structure PWD (K:PySem.W.Frag) (X:Cx) (e:Expr) (t:TDB):Prop where pw:X.K=K→PW X e (lT K t)
theorem PE.imp {X:Cx} {e:Expr} {t t':TE} (h:PE X e t) (k:∀ σ H Q,t' σ H Q→t σ H Q):PE X e t':=fun pins s σ H Q I hw=>h pins s σ H Q I (k σ H Q hw)
theorem PT.imp {X:Cx} {e:Expr} {t t':TT} (h:PT X e t) (k:∀ σ H Q,t' σ H Q→t σ H Q):PT X e t':=fun pins s σ H Q I hw=>h pins s σ H Q I (k σ H Q hw)
theorem PW.imp {X:Cx} {e:Expr} {t t':TT} (h:PW X e t) (k:∀ σ H Q,t' σ H Q→t σ H Q):PW X e t':=fun wh pins s σ H Q I hw=>h wh pins s σ H Q I (k σ H Q hw)
theorem PA.imp {X:Cx} {e:List Expr} {t t':TA} (h:PA X e t) (k:∀ σ H Q,t' σ H Q→t σ H Q):PA X e t':=fun pos pins s σ H Q I hw=>h pos pins s σ H Q I (k σ H Q hw)
theorem PS.imp {X:Cx} {e:Stmt} {t t':TS} (h:PS X e t) (k:∀ D σ H,t' D σ H→t D σ H):PS X e t':=fun pins s σ H D I hw=>h pins s σ H D I (k D σ H hw)
theorem PSs.imp {X:Cx} {e:List Stmt} {t t':TS} (h:PSs X e t) (k:∀ D σ H,t' D σ H→t D σ H):PSs X e t':=fun pins s σ H D I hw=>h pins s σ H D I (k D σ H hw)
section
variable {K : PySem.W.Frag} {X : Cx} {e a b c : Expr} {es : List Expr} {pos : Pos} {t ta tb : TD} {tf : TDL} {tl : TDL} {tt tu : TDB}
theorem PD.q (h:PD K X e t):PQ K X e t:=⟨fun hK=>(h.pe hK).imp fun σ H Q hq0=>by obtain ⟨H0,Φ,ρ,R,E,t,k⟩:=hq0;exact ⟨H0,Φ,ρ,R,E,t,fun d Φ' H' v r g rr=>k d Φ' H' v r g (.inl rr)⟩⟩
def qm1 (t:TDL):TD:=fun ρ R=>t ρ fun ds=>R (.lst ds)
theorem PF.d (h:PF K X e tf):PD K X e (qm1 tf):=⟨fun hK=>(h.pe hK).imp fun σ H Q hq0=>by obtain ⟨H0,Φ,ρ,R,E,t,k⟩:=hq0;exact ⟨H0,Φ,ρ,_,E,t,fun ds Φ' H' p vs r g h0 hn hp rr =>
  k (.lst ds) _ H' _ r (g.freeze h0 hn hp) ((rr.same (qaJ hn _)).lst qan)⟩⟩
def qnO (i:Nat):TD:=fun ρ R=>match ρ[i]? with | some (some (.v d))=>R d | _=>False
def qmg (i:Nat):TD:=fun ρ R=>match ρ[i]? with | some (some (.v d))=>R d | some (some (.ob (.lst ds)))=>R (.lst ds) | _=>False
theorem dv (i:Nat) {x:Str} (hN:X.N[i]?=some x:=by rfl) (hv:Vis X.env.scope x:=by first | exact Or.inl rfl | exact Or.inr (Or.inl rfl) | exact Or.inr (Or.inr rfl)) (hd:(x == ("__debug__":Str))=false:=by decide)
    (hcd:(x == ("__classdict__":Str))=false:=by decide):PD K X (.Name x pos) (qnO i):=⟨fun _=>(pv i hN hv hd hcd).imp fun σ H Q hq0=>by
  obtain ⟨H0,Φ,ρ,R,E,t,k⟩:=hq0
  unfold qnO at t
  split at t
  · next d h =>
    obtain ⟨v,e,r⟩:=E.sl i d h
    exact ⟨v,e,k d Φ H v t (.refl E.fz) r⟩
  · exact t.elim⟩
theorem dvq (i:Nat) {x:Str} (hN:X.N[i]?=some x:=by rfl) (hv:Vis X.env.scope x:=by first | exact Or.inl rfl | exact Or.inr (Or.inl rfl) | exact Or.inr (Or.inr rfl)) (hd:(x == ("__debug__":Str))=false:=by decide)
    (hcd:(x == ("__classdict__":Str))=false:=by decide):PQ K X (.Name x pos) (qmg i):=⟨fun _=>(pv i hN hv hd hcd).imp fun σ H Q hq0=>by
  obtain ⟨H0,Φ,ρ,R,E,t,k⟩:=hq0
  unfold qmg at t
  split at t
  · next d h =>
    obtain ⟨v,e,r⟩:=E.sl i d h
    exact ⟨v,e,k d Φ H v t (.refl E.fz) (.inl r)⟩
  · next ds h =>
    obtain ⟨p,vs,e,_,_,hp,r⟩:=E.owl i ds h
    exact ⟨_,e,k _ Φ H _ t (.refl E.fz) (.inr ⟨p,vs,ds,rfl,rfl,hp,r⟩)⟩
  · exact t.elim⟩
def dC (d:D):TD:=fun _ R=>R d
theorem qiE {v:V} {d:D} (h:PE X e (tC v)) (r:∀ Φ,Rp K Φ d v):PD K X e (dC d):=⟨fun _=>h.imp fun σ H Q hq0=>by obtain ⟨H0,Φ,ρ,R,E,t,k⟩:=hq0;exact k d Φ H v t (.refl E.fz) (r Φ)⟩
theorem qah {i j}:PD K X (.Constant (.int i) j pos) (dC (.int i)):=qiE qmo fun _=>.int i
theorem qhi {i j}:PD K X (.Constant (.bool i) j pos) (dC (.bl i)):=qiE qnu fun _=>.bl i
theorem qbo {i j}:PD K X (.Constant (.str i) j pos) (dC (.str i)):=qiE qlZ fun _=>.str i
theorem qbX {j}:PD K X (.Constant .none j pos) (dC .non):=qiE ql0 fun _=>.non
abbrev RD2:=D→D→(D→Prop)→Prop
def lR2 (K:PySem.W.Frag) (r:RD2):R2:=fun x y H Q=>∃ Φ dx dy R,Same Φ H∧RpQ K Φ H dx x∧RpQ K Φ H dy y∧r dx dy R∧∀ d Φ' H' v,R d→Gr Φ H Φ' H'→Rp K Φ' d v→Q v H'
structure OpD (K:PySem.W.Frag) (X:Cx) (f:Value→Value→Sem Value) (r:RD2):Prop where o:X.K=K→OpR X f (lR2 K r)
def dOp (r:RD2) (ta tb:TD):TD:=fun ρ R=>ta ρ fun x=>tb ρ fun y=>r x y R
theorem qeC {r:RD2} {σ:St} {H:Hp} {Q:VK} (h:lE K (dOp r ta tb) σ H Q):tOp (lR2 K r) (lQ K ta) (lQ K tb) σ H Q:=by
  obtain ⟨H0,Φ,ρ,R,E,t,k⟩:=h
  exact ⟨H0,Φ,ρ,_,E,t,fun dx Φ1 H1 x t1 g1 rx=>⟨H0,Φ1,ρ,_,E.gr g1,t1,fun dy Φ2 H2 y t2 g2 ry=>⟨Φ2,dx,dy,R,g2.s,rx.gr g2,ry,t2,fun d Φ' H' v r g rr=>k d Φ' H' v r ((g1.trans g2).trans g) rr⟩⟩⟩
theorem qaI {op:Operator} {r:RD2} (ho:OpD K X (binaryOp op) r) (ha:PQ K X a ta) (hb:PQ K X b tb):PD K X (.BinOp a op b pos) (dOp r ta tb) :=
  ⟨fun hK=>(qnh (ho.o hK) (ha.pe hK) (hb.pe hK)).imp fun _ _ _=>qeC⟩
theorem qmf {op:CmpOp} {r:RD2} (ho:OpD K X (compareOp op) r) (ha:PQ K X a ta) (hb:PQ K X b tb) (hm:behindInMarks op b=false):PD K X (.Compare a [op] [b] pos) (dOp r ta tb) :=
  ⟨fun hK=>(qj5 (ho.o hK) (ha.pe hK) (hb.pe hK) hm).imp fun _ _ _=>qeC⟩
def qmi (t:TD):TDB:=fun ρ R=>t ρ fun d=>match d with | .bl b=>R b | _=>False
theorem qhQ {r:RD2} {σ:St} {H:Hp} {Q:Bool→Hp→Prop} (h:lT K (qmi (dOp r ta tb)) σ H Q):qlF (tOp (lR2 K r) (lQ K ta) (lQ K tb)) σ H Q:=by
  obtain ⟨H0,Φ,ρ,R,E,t,k⟩:=h
  refine qeC ⟨H0,Φ,ρ,_,E,t,fun d Φ' H' v r g rr=>?_⟩
  cases d with
  | bl b=>cases rr;exact ⟨b,rfl,k b Φ' H' r g⟩
  | _=>exact r.elim
theorem qaQ {op:CmpOp} {r:RD2} (ho:OpD K X (compareOp op) r) (ha:PQ K X a ta) (hb:PQ K X b tb) (hm:behindInMarks op b=false):PTD K X (.Compare a [op] [b] pos) (qmi (dOp r ta tb)) :=
  ⟨fun hK=>(qkN (ho.o hK) (ha.pe hK) (hb.pe hK) hm).imp fun _ _ _=>qhQ⟩
abbrev RD1:=D→(D→Prop)→Prop
def dUn (r:RD1) (ta:TD):TD:=fun ρ R=>ta ρ fun x=>r x R
def qoI:RD1:=fun x R=>match x with | .int i=>R (.int (-i)) | _=>False
theorem qfE (ha:PQ K X a ta):PD K X (.UnaryOp .USub a pos) (dUn qoI ta):=⟨fun hK=>(qm2 qlC (ha.pe hK)).imp fun σ H Q hq0=>by obtain ⟨H0,Φ,ρ,R,E,t,k⟩:=hq0;exact ⟨H0,Φ,ρ,_,E,t,fun dx Φ1 H1 x t1 g1 rx=>by
  cases dx with
  | int i=>exact ⟨i,rx.int,k _ Φ1 H1 _ t1 g1 (.int _)⟩
  | _=>exact t1.elim⟩⟩
def qoH:RD1:=fun x R=>match x with | .bl i=>R (.bl (!i)) | _=>False
theorem qm5 (ha:PQ K X a ta):PD K X (.UnaryOp .Not a pos) (dUn qoH ta):=⟨fun hK=>(qmk (ha.pe hK)).imp fun σ H Q hq0=>by obtain ⟨H0,Φ,ρ,R,E,t,k⟩:=hq0;exact ⟨H0,Φ,ρ,_,E,t,fun dx Φ1 H1 x t1 g1 rx=>by
  cases dx with
  | bl i=>exact ⟨i,rx.bl,k _ Φ1 H1 _ t1 g1 (.bl _)⟩
  | _=>exact t1.elim⟩⟩
def qnJ:D→(Bool→Prop)→Prop:=fun d R=>match d with
  | .int i=>R (i != 0) | .bl b=>R b | .non=>R false | .str x=>x.length≤sizeLine∧R ((x.length:Int) != 0) | .lst ds=>R (!ds.isEmpty) | .tup ds=>R (!ds.isEmpty) | .fzl ds=>R (!ds.isEmpty) | .obj _ _=>False
theorem qc9 {Φ:Hp} {ds:List D} {vs:List V} (h:RpL K Φ ds vs):(!ds.isEmpty)=!vs.isEmpty:=by
  have:=h.1
  cases ds <;> cases vs <;> simp_all
theorem qmU {Φ H:Hp} {d:D} {v:V} {R:Bool→Prop} (s:Same Φ H) (h:RpQ K Φ H d v) (t:qnJ d R):∃ k,qne K v H k∧R k:=by
  cases d with
  | int i=>rw [h.int];exact ⟨_,rfl,t⟩
  | bl i=>rw [h.bl];exact ⟨_,rfl,t⟩
  | non=>rw [h.non];exact ⟨_,rfl,t⟩
  | str i=>rw [h.str];exact ⟨_,⟨t.1,rfl⟩,t.2⟩
  | lst ds=>obtain ⟨a,vs,rfl,h1,h2⟩:=h.lst s;exact ⟨_,.inl ⟨vs,.of h1,rfl⟩,by rw [← qc9 h2];exact t⟩
  | tup ds=>obtain ⟨a,vs,rfl,h1,_,h2⟩:=h.tup s;exact ⟨_,.inr (.inl ⟨vs,h1,rfl⟩),by rw [← qc9 h2];exact t⟩
  | fzl ds=>obtain ⟨a,vs,rfl,h1,h2⟩:=h.fzl s;exact ⟨_,.inl ⟨vs,h1,rfl⟩,by rw [← qc9 h2];exact t⟩
  | obj C fs=>exact t.elim
def qoj (t:TD):TDB:=fun ρ R=>t ρ fun d=>qnJ d R
theorem qhG (ha:PQ K X a ta) (he:∀ whole,isTrue a X.env whole=(do let v ← whole;standAt a.pos;holding [v] (truthy v))):PTD K X a (qoj ta) :=
  ⟨fun hK=>(qiG (ha.pe hK) he).imp fun σ H Q hq0=>by obtain ⟨H0,Φ,ρ,R,E,t,k⟩:=hq0;exact ⟨H0,Φ,ρ,_,E,t,fun d Φ1 H1 v t1 g1 rv=>by
    obtain ⟨b,h1,h2⟩:=qmU g1.s rv t1
    rw [hK]
    exact ⟨b,h1,k b Φ1 H1 h2 g1⟩⟩⟩
def qoe (t u:TDB):TDB:=fun ρ R=>t ρ fun c=>(c=true→u ρ R)∧(c=false→R false)
def zOr (t u:TDB):TDB:=fun ρ R=>t ρ fun c=>(c=true→R true)∧(c=false→u ρ R)
def qns (t:TDB):TDB:=fun ρ R=>t ρ fun c=>R (!c)
theorem PWD.td (h:PWD K X e tt):PTD K X e tt:=⟨fun hK=>(h.pw hK).pt⟩
theorem qgz (ha:PTD K X a tt):PWD K X (.BoolOp .And [a] pos) tt:=⟨fun hK=>qkC (ha.pt hK)⟩
theorem qfX (ha:PTD K X a tt):PWD K X (.BoolOp .Or [a] pos) tt:=⟨fun hK=>ql1 (ha.pt hK)⟩
theorem qiP (ha:PTD K X a tt) (hb:PWD K X (.BoolOp .And (b::es) pos) tu):PWD K X (.BoolOp .And (a::b::es) pos) (qoe tt tu) :=
  ⟨fun hK=>(qlU (ha.pt hK) (hb.pw hK)).imp fun σ H Q hq0=>by obtain ⟨H0,Φ,ρ,R,E,t,k⟩:=hq0;exact ⟨H0,Φ,ρ,_,E,t,fun c Φ1 H1 r g=>by
    cases c with
    | true=>rw [if_pos rfl];exact ⟨H0,Φ1,ρ,R,E.gr g,r.1 rfl,fun b Φ' H' rb g'=>k b Φ' H' rb (g.trans g')⟩
    | false=>rw [if_neg (by decide)];exact k _ Φ1 H1 (r.2 rfl) g⟩⟩
theorem qk4 (ha:PTD K X a tt) (hb:PWD K X (.BoolOp .Or (b::es) pos) tu):PWD K X (.BoolOp .Or (a::b::es) pos) (zOr tt tu) :=
  ⟨fun hK=>(qna (ha.pt hK) (hb.pw hK)).imp fun σ H Q hq0=>by obtain ⟨H0,Φ,ρ,R,E,t,k⟩:=hq0;exact ⟨H0,Φ,ρ,_,E,t,fun c Φ1 H1 r g=>by
    cases c with
    | true=>rw [if_pos rfl];exact k _ Φ1 H1 (r.1 rfl) g
    | false=>rw [if_neg (by decide)];exact ⟨H0,Φ1,ρ,R,E.gr g,r.2 rfl,fun b Φ' H' rb g'=>k b Φ' H' rb (g.trans g')⟩⟩⟩
theorem qjv (ha:PTD K X a tt):PTD K X (.UnaryOp .Not a pos) (qns tt) :=
  ⟨fun hK=>(qlr (ha.pt hK)).imp fun σ H Q hq0=>by obtain ⟨H0,Φ,ρ,R,E,t,k⟩:=hq0;exact ⟨H0,Φ,ρ,_,E,t,fun c Φ1 H1 r g=>k _ Φ1 H1 r g⟩⟩
def qog (t u:TD):TD:=fun ρ R=>t ρ fun c=>match c with | .bl c=>(c=true→u ρ R)∧(c=false→R (.bl false)) | _=>False
theorem qnc {op} (h:PD K X a ta):PD K X (.BoolOp op [a] pos) ta:=⟨fun hK=>qlv (h.pe hK)⟩
theorem qnH (ha:PD K X a ta) (hb:PD K X (.BoolOp .And (b::es) pos) tb):PD K X (.BoolOp .And (a::b::es) pos) (qog ta tb) :=
  ⟨fun hK=>(qmT (ha.pe hK) (hb.pe hK)).imp fun σ H Q hq0=>by obtain ⟨H0,Φ,ρ,R,E,t,k⟩:=hq0;exact ⟨H0,Φ,ρ,_,E,t,fun c Φ1 H1 v r g rv=>by
    cases c with
    | bl c =>
      cases rv
      refine ⟨c,rfl,?_⟩
      cases c with
      | true=>rw [if_pos rfl];exact ⟨H0,Φ1,ρ,R,E.gr g,r.1 rfl,fun b Φ' H' v rb g' rr=>k b Φ' H' v rb (g.trans g') rr⟩
      | false=>rw [if_neg (by decide)];exact k _ Φ1 H1 _ (r.2 rfl) g (.bl _)
    | _=>exact r.elim⟩⟩
def dIf (t:TDB) (u v:TD):TD:=fun ρ R=>t ρ fun c=>(c=true→u ρ R)∧(c=false→v ρ R)
theorem qnP (hc:PTD K X c tt) (ha:PD K X a ta) (hb:PD K X b tb):PD K X (.IfExp c a b pos) (dIf tt ta tb) :=
  ⟨fun hK=>(qiU (hc.pt hK) (ha.pe hK) (hb.pe hK)).imp fun σ H Q hq0=>by obtain ⟨H0,Φ,ρ,R,E,t,k⟩:=hq0;exact ⟨H0,Φ,ρ,_,E,t,fun c Φ1 H1 r g=>by
    cases c with
    | true=>rw [if_pos rfl];exact ⟨H0,Φ1,ρ,R,E.gr g,r.1 rfl,fun b Φ' H' v rb g' rr=>k b Φ' H' v rb (g.trans g') rr⟩
    | false=>rw [if_neg (by decide)];exact ⟨H0,Φ1,ρ,R,E.gr g,r.2 rfl,fun b Φ' H' v rb g' rr=>k b Φ' H' v rb (g.trans g') rr⟩⟩⟩
def qnU:TDL:=fun _ R=>R []
def qmu (t:TD) (u:TDL):TDL:=fun ρ R=>t ρ fun d=>u ρ fun ds=>R (d::ds)
theorem qak:PAD K X [] qnU:=⟨fun _=>pa_nil.imp fun σ H Q hq0=>by obtain ⟨H0,Φ,ρ,R,E,t,k⟩:=hq0;exact k [] Φ H [] t (.refl E.fz) .nil rfl⟩
theorem qab (ha:PD K X e t) (hr:PAD K X es tl) (hs:starEach (e::es) X.env=(false,eval e X.env)::starEach es X.env):PAD K X (e::es) (qmu t tl) :=
  ⟨fun hK=>(qb7 (ha.pe hK) (hr.pa hK) hs).imp fun σ H Q hq0=>by obtain ⟨H0,Φ,ρ,R,E,t,k⟩:=hq0;exact ⟨H0,Φ,ρ,_,E,t,fun d Φ1 H1 v r g rv=>⟨H0,Φ1,ρ,_,E.gr g,r,fun ds Φ2 H2 vs r2 g2 rl hl =>
    k _ Φ2 H2 _ r2 (g.trans g2) (.cons (rv.same g2.f) rl) (by rw [List.length_cons,List.length_cons,hl])⟩⟩⟩
def qn2 (t:TDL):TD:=fun ρ R=>t ρ fun ds=>R (.tup ds)
def qow (t:TDL):TDL:=t
theorem qjP {n:Nat} (h:Nat.ble n 1000=true):n≤sizeLine:=Nat.le_trans (Nat.le_of_ble_eq_true h) (by decide)
theorem qbe {x1} (h:PAD K X es tl) (hes:Nat.ble es.length 1000=true:=by rfl):PD K X (.Tuple es x1 pos) (qn2 tl) :=
  ⟨fun hK=>(qlA (h.pa hK)).imp fun σ H Q hq0=>by obtain ⟨H0,Φ,ρ,R,E,t,k⟩:=hq0;exact ⟨H0,Φ,ρ,_,E,t,fun ds Φ1 H1 vs r g rl hl=>⟨by rw [rl.1,hl];exact qjP hes,fun p hp =>
    k _ _ _ _ r (g.trans (.new g.s hp _)) ((rl.same (qaJ (g.s.free hp) _)).tup (.of qan))⟩⟩⟩
theorem qbm (h:PAD K X es tl) (hes:Nat.ble es.length 1000=true:=by rfl):PF K X (.List es pos) (qow tl) :=
  ⟨fun hK=>(qlJ (h.pa hK)).imp fun σ H Q hq0=>by obtain ⟨H0,Φ,ρ,R,E,t,k⟩:=hq0;exact ⟨H0,Φ,ρ,_,E,t,fun ds Φ1 H1 vs r g rl hl=>⟨by rw [rl.1,hl];exact qjP hes,fun p hp =>
    k _ _ _ p vs r (g.trans (.fresh g.s hp _)) (g.h.free hp) (g.s.free hp) qan rl⟩⟩⟩
end
section
variable {K : PySem.W.Frag} {X : Cx} {e a b c : Expr} {es : List Expr} {pos : Pos} {t ta tb : TD} {tf : TDL} {tl : TDL} {tt tu : TDB}
def qod:RD2:=fun x y R=>match x,y with
  | .int i,.int j=>R (.int (i+j))
  | .str i,.str j=>i.length+j.length≤sizeLine∧R (.str (i++j))
  | .lst xs,.lst ys=>xs.length+ys.length≤sizeLine∧NF (xs++ys) fun zs=>R (.lst zs)
  | .tup xs,.tup ys=>xs.length+ys.length≤sizeLine∧NF (xs++ys) fun zs=>R (.tup zs)
  | _,_=>False
theorem qbv:OpD K X (binaryOp .Add) qod:=⟨fun hK pins s σ H x y v u Q I rx ry hq0=>by
  obtain ⟨Φ,dx,dy,R,sm,hx,hy,h,k⟩:=hq0
  cases dx with
  | int i =>
    cases dy with
    | int j=>cases hx.int;cases hy.int;exact qmS pins s σ H _ _ v u Q I rx ry ⟨i,j,rfl,rfl,k _ Φ H _ h (.refl sm) (.int _)⟩
    | _=>exact h.elim
  | str i =>
    cases dy with
    | str j=>cases hx.str;cases hy.str;exact qgT pins s σ H _ _ v u Q I rx ry ⟨i,j,rfl,rfl,h.1,k _ Φ H _ h.2 (.refl sm) (.str _)⟩
    | _=>exact h.elim
  | lst xs =>
    cases dy with
    | lst ys =>
      obtain ⟨a,vs,rfl,h1,h2⟩:=hx.lst sm
      obtain ⟨b,ws,rfl,h3,h4⟩:=hy.lst sm
      exact qmt pins s σ H _ _ v u Q I rx ry ⟨a,b,vs,ws,rfl,rfl,h1,h3,by rw [h2.1,h4.1];exact h.1,fun p hp=>k _ _ _ _ h.2.get (.new sm hp _) (((h2.append h4).same (qaJ (sm.free hp) _)).lst qan)⟩
    | _=>exact h.elim
  | tup xs =>
    cases dy with
    | tup ys =>
      obtain ⟨a,vs,rfl,h1,h1',h2⟩:=hx.tup sm
      obtain ⟨b,ws,rfl,h3,h3',h4⟩:=hy.tup sm
      exact (hK ▸ qlh:OpR X (binaryOp .Add) (qmq K)) pins s σ H _ _ v u Q I rx ry ⟨a,b,vs,ws,rfl,rfl,h1,h3,by rw [h2.1,h4.1];exact h.1,fun p H' s' q=>by
        obtain ⟨Φ',g,q'⟩:=Gr.adopt sm s' q
        exact k _ Φ' H' _ h.2.get g (((h2.append h4).same g.f).tup q')⟩
    | _=>exact h.elim
  | _=>exact h.elim⟩
def zI (C:Int→Int→Prop) (g:Int→Int→D):RD2:=fun x y R=>match x,y with | .int i,.int j=>C i j∧R (g i j) | _,_=>False
def zI0 (g:Int→Int→D):RD2:=fun x y R=>match x,y with | .int i,.int j=>R (g i j) | _,_=>False
theorem qj2 {f:Value→Value→Sem Value} {C:Int→Int→Prop} {g:Int→Int→Int} (h:OpR X f (rI C fun i j=>.int (g i j))):OpD K X f (zI C fun i j=>.int (g i j)) :=
  ⟨fun hK pins s σ H x y v u Q I rx ry hq0=>by
    obtain ⟨Φ,dx,dy,R,sm,hx,hy,q,k⟩:=hq0
    cases dx with
    | int i =>
      cases dy with
      | int j=>cases hx.int;cases hy.int;exact h pins s σ H _ _ v u Q I rx ry ⟨i,j,rfl,rfl,q.1,k _ Φ H _ q.2 (.refl sm) (.int _)⟩
      | _=>exact q.elim
    | _=>exact q.elim⟩
theorem qme {f:Value→Value→Sem Value} {g:Int→Int→Int} (h:OpR X f (rI0 fun i j=>.int (g i j))):OpD K X f (zI0 fun i j=>.int (g i j)) :=
  ⟨fun hK pins s σ H x y v u Q I rx ry hq0=>by
    obtain ⟨Φ,dx,dy,R,sm,hx,hy,q,k⟩:=hq0
    cases dx with
    | int i =>
      cases dy with
      | int j=>cases hx.int;cases hy.int;exact h pins s σ H _ _ v u Q I rx ry ⟨i,j,rfl,rfl,k _ Φ H _ q (.refl sm) (.int _)⟩
      | _=>exact q.elim
    | _=>exact q.elim⟩
theorem qjE {f:Value→Value→Sem Value} {g:Int→Int→Bool} (h:OpR X f (rI0 fun i j=>.bl (g i j))):OpD K X f (zI0 fun i j=>.bl (g i j)) :=
  ⟨fun hK pins s σ H x y v u Q I rx ry hq0=>by
    obtain ⟨Φ,dx,dy,R,sm,hx,hy,q,k⟩:=hq0
    cases dx with
    | int i =>
      cases dy with
      | int j=>cases hx.int;cases hy.int;exact h pins s σ H _ _ v u Q I rx ry ⟨i,j,rfl,rfl,k _ Φ H _ q (.refl sm) (.bl _)⟩
      | _=>exact q.elim
    | _=>exact q.elim⟩
theorem qcv:OpD K X (binaryOp .Sub) (zI0 fun i j=>.int (i - j)):=qme qlV
theorem qbp:OpD K X (binaryOp .FloorDiv) (zI CDivB fun i j=>.int (i / j)):=qj2 qjk
theorem qft:OpD K X (binaryOp .Mod) (zI (fun _ j=>0<j) fun i j=>.int (i % j)):=qj2 qmD
theorem qlP:OpD K X (binaryOp .Pow) (zI qn0 fun i j=>.int (i ^ j.toNat)):=qj2 qma
theorem qgS:OpD K X (compareOp .Lt) (zI0 fun i j=>.bl (decide (i<j))):=qjE qnb
theorem qkZ:OpD K X (compareOp .Gt) (zI0 fun i j=>.bl (decide (j<i))):=qjE qnm
def qor:RD2:=fun x y R=>match x,y with
  | .int i,.int j=>IntMulOk i j∧R (.int (i*j))
  | .lst xs,.int k=>(-(2 ^ 63)≤k∧k<2 ^ 63∧xs.length*k.toNat≤sizeLine)∧NF (List.replicate k.toNat xs).flatten fun zs=>R (.lst zs)
  | .tup xs,.int k=>(xs≠[]∧0≤k∧k≤1000∧k.toNat*xs.length≤1000)∧NF (List.replicate k.toNat xs).flatten fun zs=>R (.tup zs)
  | _,_=>False
theorem qaX:OpD K X (binaryOp .Mult) qor:=⟨fun hK pins s σ H x y v u Q I rx ry hq0=>by
  obtain ⟨Φ,dx,dy,R,sm,hx,hy,h,k⟩:=hq0
  cases dx with
  | int i =>
    cases dy with
    | int j=>cases hx.int;cases hy.int;exact qky pins s σ H _ _ v u Q I rx ry ⟨i,j,rfl,rfl,h.1,k _ Φ H _ h.2 (.refl sm) (.int _)⟩
    | _=>exact h.elim
  | lst xs =>
    cases dy with
    | int j =>
      obtain ⟨a,vs,rfl,h1,h2⟩:=hx.lst sm
      cases hy.int
      exact qlW pins s σ H _ _ v u Q I rx ry ⟨a,j,vs,rfl,rfl,h1,h.1.1,h.1.2.1,by rw [h2.1];exact h.1.2.2,fun p hp=>k _ _ _ _ h.2.get (.new sm hp _) (((h2.rep _).same (qaJ (sm.free hp) _)).lst qan)⟩
    | _=>exact h.elim
  | tup xs =>
    cases dy with
    | int j =>
      obtain ⟨a,vs,rfl,h1,h1',h2⟩:=hx.tup sm
      cases hy.int
      have hne:vs≠[]:=fun e=>h.1.1 (List.length_eq_zero_iff.mp (by rw [← h2.1,e];rfl))
      exact (hK ▸ qkz:OpR X (binaryOp .Mult) (qmI K)) pins s σ H _ _ v u Q I rx ry ⟨a,j,vs,rfl,rfl,h1,hne,h.1.2.1,h.1.2.2.1,by rw [h2.1];exact h.1.2.2.2,fun p H' s' q=>by
        obtain ⟨Φ',g,q'⟩:=Gr.adopt sm s' q
        exact k _ Φ' H' _ h.2.get g (((h2.rep _).same g.f).tup q')⟩
    | _=>exact h.elim
  | _=>exact h.elim⟩
end
def cmL (f:D→D→Option Bool):List D→List D→Option Bool
  | [],[]=>some true
  | x::xs,y::ys=>(f x y).bind fun b=>(cmL f xs ys).map (b && ·)
  | _,_=>some false
def cmB:Nat→D→D→Option Bool
  | _,.int i,.int j=>some (i == j)
  | _,.bl i,.bl j=>some (i == j)
  | _,.str i,.str j=>some (i == j)
  | _,.non,.non=>some true
  | n+1,.tup xs,.tup ys=>cmL (cmB n) xs ys
  | n+1,.lst xs,.lst ys=>if xs.length=ys.length then cmL (cmB n) xs ys else some false
  | _,_,_=>none
theorem qdE {f:D→D→Option Bool}:∀ {xs ys:List D} {b:Bool},cmL f xs ys=some b→∃ g:Nat→Bool,(∀ (j:Nat) (x y:D),xs[j]?=some x→ys[j]?=some y→f x y=some (g j))∧b=((List.range (min xs.length ys.length)).all g && xs.length == ys.length)
  | [],[],b,h=>by cases h;exact ⟨fun _=>true,fun j x y hx=>by simp at hx,by simp⟩
  | [],_::_,b,h=>by cases h;exact ⟨fun _=>true,fun j x y hx=>by simp at hx,by simp⟩
  | _::_,[],b,h=>by cases h;exact ⟨fun _=>true,fun j x y _ hy=>by simp at hy,by simp⟩
  | x::xs,y::ys,b,h=>by
    unfold cmL at h
    cases e:f x y with
    | none=>rw [e] at h;cases h
    | some c =>
      cases e2:cmL f xs ys with
      | none=>rw [e,e2] at h;cases h
      | some c2 =>
        rw [e,e2] at h
        cases h
        obtain ⟨g,h1,h2⟩:=qdE e2
        refine ⟨fun j=>match j with | 0=>c | j+1=>g j,fun j u v hu hv=>?_,?_⟩
        · cases j with
          | zero=>cases hu;cases hv;exact e
          | succ j=>exact h1 j u v hu hv
        · have em:min (x::xs).length (y::ys).length=min xs.length ys.length+1:=by simp only [List.length_cons];omega
          have el:((x::xs).length == (y::ys).length)=(xs.length == ys.length):=by simp
          rw [em,el,List.range_succ_eq_map,List.all_cons,List.all_map,h2,Bool.and_assoc]
          rfl
section
variable {K : PySem.W.Frag} {X : Cx} {pins : List (Addr × Obj)} {σ : St} {Φ H : Hp} {s : Shared}
theorem qmL {n:Nat} {g:Nat→Bool} (h:∀ j,j<n→g j=true):(List.range n).all g=true:=by
  rw [List.all_eq_true]
  intro j hj
  exact h j (List.mem_range.mp hj)
theorem qaA {α:Type} {xs:List α} {j:Nat} (h:j<xs.length):xs[j]?=some xs[j]:=by simp [h]
theorem qhu (hK:X.K=K) (I:Inv X pins σ H s) (sm:Same Φ H):∀ (n:Nat) {d e:D} {b:Bool} {v:V},cmB n d e=some b→Rp K Φ d v→Rp K Φ e v→b=true:=by
  intro n
  induction n with
  | zero =>
    intro d e b v h r1 r2
    cases r1 with
    | int i=>cases r2;have h':some (i == i)=some b:=h;cases h';simp
    | bl i=>cases r2;have h':some (i == i)=some b:=h;cases h';simp
    | str i=>cases r2;have h':some (i == i)=some b:=h;cases h';simp
    | non=>cases r2;cases h;rfl
    | tup _ _ _=>cases r2 <;> cases h
    | lst _ _ _=>cases r2 <;> cases h
    | fzl _ _ _=>cases r2 <;> cases h
    | obj _ _ _ _=>cases r2 <;> cases h
  | succ n ih =>
    intro d e b v h r1 r2
    cases r1 with
    | int i=>cases r2;have h':some (i == i)=some b:=h;cases h';simp
    | bl i=>cases r2;have h':some (i == i)=some b:=h;cases h';simp
    | str i=>cases r2;have h':some (i == i)=some b:=h;cases h';simp
    | non=>cases r2;cases h;rfl
    | @tup a vs xs h1 h2 h3=>cases r2 with
      | @tup _ ws ys k1 k2 k3 =>
        have hvw:vs=ws:=I.tuple_inj (hK ▸ sm.sqt h1) (hK ▸ sm.sqt k1)
        subst hvw
        obtain ⟨g,hg,hb⟩:=qdE (show cmL (cmB n) xs ys=some b from h)
        rw [hb,qmL fun j hj=>?_]
        · simp;omega
        · have j0:j<vs.length:=by omega
          have j1:j<xs.length:=by omega
          have j2:j<ys.length:=by omega
          exact ih (hg j _ _ (qaA j1) (qaA j2)) (h3 j _ _ (qaA j0) (qaA j1)) (k3 j _ _ (qaA j0) (qaA j2))
      | _=>cases h
    | @lst a vs xs h1 h2 h3=>cases r2 with
      | @lst _ ws ys k1 k2 k3 =>
        have hvw:vs=ws:=by rw [h1] at k1;cases k1;rfl
        subst hvw
        have h':(if xs.length=ys.length then cmL (cmB n) xs ys else some false)=some b:=h
        rw [if_pos (by omega)] at h'
        obtain ⟨g,hg,hb⟩:=qdE h'
        rw [hb,qmL fun j hj=>?_]
        · simp;omega
        · have j0:j<vs.length:=by omega
          have j1:j<xs.length:=by omega
          have j2:j<ys.length:=by omega
          exact ih (hg j _ _ (qaA j1) (qaA j2)) (h3 j _ _ (qaA j0) (qaA j1)) (k3 j _ _ (qaA j0) (qaA j2))
      | _=>cases h
    | fzl _ _ _=>cases r2 <;> cases h
    | obj _ _ _ _=>cases r2 <;> cases h
open PySem.SeqAt in
theorem qhz {n:Nat} {d e:D} {b:Bool} {x y:V} (h:cmB n d e=some b) (rx:Rp K Φ d x) (ry:Rp K Φ e y) (hf:(∀ a,x≠.ref a)) {A:Around} {u v:Value} (ru:RelV x u) (rv:RelV y v):EqAt A s u v b∧RcAt A s u v b∧RcNeAt A s u v (!b):=by
  cases rx with
  | int i=>cases ry with
    | int j =>
      obtain ⟨t,rfl⟩:=ru;obtain ⟨t',rfl⟩:=rv
      have h':some (i == j)=some b:=by cases n <;> exact h
      cases h'
      exact ⟨EqAt.int_int i t j t',RcAt.int_int i t j t',RcNeAt.int_int i t j t'⟩
    | _=>cases n <;> cases h
  | bl i=>cases ry with
    | bl j =>
      cases ru;cases rv
      have h':some (i == j)=some b:=by cases n <;> exact h
      cases h'
      exact ⟨EqAt.bool_bool i j,RcAt.bool_bool i j,RcNeAt.bool_bool i j⟩
    | _=>cases n <;> cases h
  | str i=>cases ry with
    | str j =>
      obtain ⟨t,rfl⟩:=ru;obtain ⟨t',rfl⟩:=rv
      have h':some (i == j)=some b:=by cases n <;> exact h
      cases h'
      exact ⟨EqAt.str_str i t j t',RcAt.str_str i t j t',RcNeAt.str_str i t j t'⟩
    | _=>cases n <;> cases h
  | non=>cases ry with
    | non =>
      cases ru;cases rv
      have h':some true=some b:=by cases n <;> exact h
      cases h'
      exact ⟨EqAt.same _,RcAt.none_none,RcNeAt.none_none⟩
    | _=>cases n <;> cases h
  | tup _ _ _=>exact absurd rfl (hf _)
  | lst _ _ _=>exact absurd rfl (hf _)
  | fzl _ _ _=>exact absurd rfl (hf _)
  | obj _ _ _ _=>exact absurd rfl (hf _)
open PySem.SeqAt in
theorem qjD (hK:X.K=K) (I:Inv X pins σ H s) (sm:Same Φ H):∀ (n:Nat) {d e:D} {b:Bool} {x y:V},cmB n d e=some b→Rp K Φ d x→Rp K Φ e y →
    ∀ (A:Around) (u v:Value),A.units+n<cLine→RelV x u→RelV y v→EqAt A s u v b∧RcAt A s u v b∧RcNeAt A s u v (!b):=by
  intro n
  induction n with
  | zero =>
    intro d e b x y h rx ry A u v hu ru rv
    refine qhz h rx ry (fun a ea=>?_) ru rv
    subst ea
    cases rx <;> cases ry <;> cases h
  | succ n ih =>
    intro d e b x y h rx ry A u v hu ru rv
    by_cases hf:∀ a,x≠.ref a
    · exact qhz h rx ry hf ru rv
    have hu':A.units<cLine:=by omega
    cases rx with
    | int i=>exact absurd (fun a e=>nomatch e) hf
    | bl i=>exact absurd (fun a e=>nomatch e) hf
    | str i=>exact absurd (fun a e=>nomatch e) hf
    | non=>exact absurd (fun a e=>nomatch e) hf
    | @tup a vs xs h1 h2 h3=>cases ry with
      | @tup c ws ys k1 k2 k3 =>
        cases ru;cases rv
        obtain ⟨g,hg,hb⟩:=qdE (show cmL (cmB n) xs ys=some b from h)
        obtain ⟨its,r1,p1,_⟩:=I.sqb (b:=false) (hK ▸ sm.sqt h1)
        obtain ⟨its',r2,p2,_⟩:=I.sqb (b:=false) (hK ▸ sm.sqt k1)
        have l1:=Vals.length r1
        have l2:=Vals.length r2
        have he:∀ j (j1:j<its.toArray.size) (j2:j<its'.toArray.size),EqAt A.in1 s its.toArray[j] its'.toArray[j] (g j):=by
          intro j j1 j2
          simp only [List.size_toArray] at j1 j2
          obtain ⟨x,hx,rx⟩:=Vals.get' r1 j1
          obtain ⟨y,hy,ry⟩:=Vals.get' r2 j2
          have i1:j<xs.length:=by omega
          have i2:j<ys.length:=by omega
          exact (ih (hg j _ _ (qaA i1) (qaA i2)) (h3 j x _ hx (qaA i1)) (k3 j y _ hy (qaA i2)) A.in1 _ _ (by show A.units+1+n<cLine;omega) rx ry).1
        have R:=RcAt.tuples (e:=g) p1 p2 hu' he
        have R':=RcNeAt.tuples (e:=g) p1 p2 hu' he
        have et:((List.range (min its.toArray.size its'.toArray.size)).all g && its.toArray.size == its'.toArray.size)=b:=by
          rw [hb]
          simp only [List.size_toArray]
          rw [← l1,← l2,h2,k2]
        rw [et] at R R'
        refine ⟨?_,R,R'⟩
        by_cases hab:a=c
        · subst hab
          rw [qhu hK I sm (n+1) h (.tup h1 h2 h3) (.tup k1 k2 k3)];exact EqAt.same _
        · exact EqAt.of_refs hab R
      | _=>cases h
    | @lst a vs xs h1 h2 h3=>cases ry with
      | @lst c ws ys k1 k2 k3 =>
        cases ru;cases rv
        have h':(if xs.length=ys.length then cmL (cmB n) xs ys else some false)=some b:=h
        obtain ⟨its,r1,p1,_⟩:=I.sqb (b:=true) (show SqL X.K H a vs from SqL.of (sm _ _ h1))
        obtain ⟨its',r2,p2,_⟩:=I.sqb (b:=true) (show SqL X.K H c ws from SqL.of (sm _ _ k1))
        have l1:=Vals.length r1
        have l2:=Vals.length r2
        have fin:RcAt A s (.ref a) (.ref c) b∧RcNeAt A s (.ref a) (.ref c) (!b):=by
          by_cases hl:xs.length=ys.length
          · rw [if_pos hl] at h'
            obtain ⟨g,hg,hb⟩:=qdE h'
            have he:∀ j (j1:j<its.toArray.size) (j2:j<its'.toArray.size),EqAt A.in1 s its.toArray[j] its'.toArray[j] (g j):=by
              intro j j1 j2
              simp only [List.size_toArray] at j1 j2
              obtain ⟨x,hx,rx⟩:=Vals.get' r1 j1
              obtain ⟨y,hy,ry⟩:=Vals.get' r2 j2
              have i1:j<xs.length:=by omega
              have i2:j<ys.length:=by omega
              exact (ih (hg j _ _ (qaA i1) (qaA i2)) (h3 j x _ hx (qaA i1)) (k3 j y _ hy (qaA i2)) A.in1 _ _ (by show A.units+1+n<cLine;omega) rx ry).1
            have hsz:its.toArray.size=its'.toArray.size:=by simp;omega
            have R:=RcAt.lists (e:=g) p1 p2 hsz hu' he
            have R':=RcNeAt.lists (e:=g) p1 p2 hsz hu' he
            have et:(List.range its.toArray.size).all g=b:=by
              have e1:min xs.length ys.length=its.length:=by omega
              have e2:(xs.length == ys.length)=true:=by simp [hl]
              rw [hb,e1,e2,Bool.and_true,List.size_toArray]
            rw [et] at R R'
            exact ⟨R,R'⟩
          · rw [if_neg hl] at h'
            cases h'
            have hsz:(its.toArray.size != its'.toArray.size)=true:=by simp;omega
            exact ⟨RcAt.lists_lengths p1 p2 hsz hu',RcNeAt.lists_lengths p1 p2 hsz hu'⟩
        refine ⟨?_,fin.1,fin.2⟩
        by_cases hab:a=c
        · subst hab
          rw [qhu hK I sm (n+1) h (.lst h1 h2 h3) (.lst k1 k2 k3)];exact EqAt.same _
        · exact EqAt.of_refs hab fin.1
      | _=>cases h
    | fzl _ _ _=>cases ry <;> cases h
    | obj _ _ _ _=>cases ry <;> cases h
end
def zEq:RD2:=fun x y R=>match cmB 40 x y with | some b=>R (.bl b) | none=>False
def zNe:RD2:=fun x y R=>match cmB 40 x y with | some b=>R (.bl (!b)) | none=>False
section
variable {K : PySem.W.Frag} {X : Cx}
theorem RpQ.any {Φ H:Hp} {d:D} {v:V} (h:RpQ K Φ H d v) (s:Same Φ H):Rp K H d v:=by
  rcases h with h | ⟨a,vs,ds,e,e2,h1,h2⟩
  · exact h.same s
  · subst e e2;exact (h2.same s).lst h1
theorem qfK (hu:X.A.units+64<cLine):OpD K X (compareOp .Eq) zEq:=⟨fun hK pins s σ H x y u v Q I rx ry hq0=>by
  obtain ⟨Φ,dx,dy,R,sm,hx,hy,h,k⟩:=hq0
  unfold zEq at h
  split at h
  · next b hb=>exact (qjD hK I (Same.refl H) 40 hb (hx.any sm) (hy.any sm) X.A u v (by omega) rx ry).2.1 X.prog X.w _ _ ⟨.bl b,H,I,rfl,k _ Φ H _ h (.refl sm) (.bl b)⟩
  · exact h.elim⟩
theorem qm0 (hu:X.A.units+64<cLine):OpD K X (compareOp .NotEq) zNe:=⟨fun hK pins s σ H x y u v Q I rx ry hq0=>by
  obtain ⟨Φ,dx,dy,R,sm,hx,hy,h,k⟩:=hq0
  unfold zNe at h
  split at h
  · next b hb=>exact (qjD hK I (Same.refl H) 40 hb (hx.any sm) (hy.any sm) X.A u v (by omega) rx ry).2.2 X.prog X.w _ _ ⟨.bl (!b),H,I,rfl,k _ Φ H _ h (.refl sm) (.bl _)⟩
  · exact h.elim⟩
def qjo:D→Bool
  | .non=>true
  | _=>false
def zIs (neg:Bool):RD2:=fun x y R=>match y with | .non=>R (.bl (qjo x != neg)) | .bl b=>(match x with | .bl a=>R (.bl ((a == b) != neg)) | _=>False) | _=>False
theorem qh5 {Φ H:Hp} {d:D} {v:V} (h:RpQ K Φ H d v):decide (v=V.non)=qjo d:=by
  cases d with
  | int i=>rw [h.int];rfl
  | bl i=>rw [h.bl];rfl
  | str i=>rw [h.str];rfl
  | non=>rw [h.non];rfl
  | tup ds => rcases h with h | ⟨a, vs, ds, e, _⟩
              · cases h;rfl
              · cases e
  | lst ds => rcases h with h | ⟨a, vs, ds, e, e2, _⟩
              · cases h;rfl
              · rw [e2];rfl
  | fzl ds => rcases h with h | ⟨a, vs, ds, e, _⟩
              · cases h;rfl
              · cases e
  | obj C fs => rcases h with h | ⟨a, vs, ds, e, _⟩
                · cases h;rfl
                · cases e
theorem qjx:OpD K X (compareOp .Is) (zIs false):=⟨fun hK pins s σ H x y u v Q I rx ry hq0=>by
  obtain ⟨Φ,dx,dy,R,sm,hx,hy,h,k⟩:=hq0
  cases dy with
  | non =>
    cases hy.non
    refine qlu pins s σ H _ _ u v Q I rx ry ⟨rfl,?_⟩
    rw [qh5 hx]
    have h':R (.bl (qjo dx != false)):=h
    rw [Bool.bne_false] at h'
    exact k _ Φ H _ h' (.refl sm) (.bl _)
  | bl b =>
    cases hy.bl
    cases dx with
    | bl a =>
      cases hx.bl
      have h':R (.bl ((a == b) != false)):=h
      rw [Bool.bne_false] at h'
      exact qmQ pins s σ H _ _ u v Q I rx ry ⟨a,b,rfl,rfl,k _ Φ H _ h' (.refl sm) (.bl _)⟩
    | _=>exact h.elim
  | _=>exact h.elim⟩
theorem qk2:OpD K X (compareOp .IsNot) (zIs true):=⟨fun hK pins s σ H x y u v Q I rx ry hq0=>by
  obtain ⟨Φ,dx,dy,R,sm,hx,hy,h,k⟩:=hq0
  cases dy with
  | non =>
    cases hy.non
    refine qku pins s σ H _ _ u v Q I rx ry ⟨rfl,?_⟩
    rw [qh5 hx]
    have h':R (.bl (qjo dx != true)):=h
    rw [Bool.bne_true] at h'
    exact k _ Φ H _ h' (.refl sm) (.bl _)
  | bl b =>
    cases hy.bl
    cases dx with
    | bl a =>
      cases hx.bl
      have h':R (.bl ((a == b) != true)):=h
      rw [Bool.bne_true] at h'
      exact qkO pins s σ H _ _ u v Q I rx ry ⟨a,b,rfl,rfl,k _ Φ H _ h' (.refl sm) (.bl _)⟩
    | _=>exact h.elim
  | _=>exact h.elim⟩
end
end L2
namespace HT
open PySem PySem.Spec PyProof.Rows
theorem getItem_tuple_all {prog:Program} {w:World} {A:Around} {E:Value→Shared→Prop} {s:Shared} {t sl:Addr} {items:Array Value} {vl vu:Value} {lo hi:Option Int} {Q:Value→Shared→Prop} (ht:IsTup s.heap t items) (hs:s.heap.IsSliceOf sl vl vu .none) (pl:IsPart vl lo) (pu:IsPart vu hi)
    (hw:sIx items.size 0 lo=0∧sIx items.size items.size hi=items.size) (h:Q (.ref t) s):wpAny (model prog w) A (getItem (.ref t) (.ref sl)) Q E s:=by
  obtain ⟨os,hos,hcs,hds⟩:=id hs
  have hTs:s.TypeIs (.ref sl) "slice":=⟨os,hos,hcs⟩
  unfold getItem
  try with_reducible refine wpAny_holding ?_
  first | refine wpAny_bind (wpAny_pure ?_) | skip
  refine wpAny_bind (wpAny_sequenceKey ht.typeIs (by decide) ?_)
  refine wpAny_bind (wpAny_callSpecial?_slot (name:=Str.ofString "__getitem__") ht.typeIs PyProof.Rows.slot_tuple_getitem
    (wpAny_call_entry PyProof.Rows.slot_tuple_getitem ht.typeIs entry_tuple_getitem ?_ (args_tuple_getitem _ _)))
  show wpAny _ _ (Builtin.Tuple.tupleItemsOf (.ref t) >>= _) _ _ s
  refine wpAny_bind (tupleItemsOf_ ht ?_)
  refine wpAny_bind (wpAny_typeOf hTs ?_)
  rw [if_pos (by decide)]
  refine wpAny_bind (qcd hs pl pu ?_)
  have hyes:(((sIx items.size 0 lo:Nat):Int) == 0 && (1:Int) == 1 && (sIx items.size items.size hi - sIx items.size 0 lo) == items.size)=true:=by
    rw [hw.1,hw.2]
    simp
  show wpAny _ _ (if (((sIx items.size 0 lo:Nat):Int) == 0 && (1:Int) == 1 && (sIx items.size items.size hi - sIx items.size 0 lo) == items.size)=true then _ else _) _ _ s
  rw [if_pos hyes]
  refine wpAny_bind (show wpAny _ _ (typeOf (.ref t) >>= fun c=>pure (c == .type "tuple")) _ _ s from wpAny_bind (wpAny_typeOf ht.typeIs (wpAny_pure ?_)))
  rw [if_pos (by decide)]
  exact wpAny_bind (wpAny_rule (wpAny_pure ⟨_,rfl,wpAny_pure h⟩))
end HT
namespace L2
open PySem PySem.Spec PyProof.Rows
section
variable {K : PySem.W.Frag} {X : Cx} {e a b c : Expr} {es : List Expr} {pos p2 : Pos} {t ta tb : TD} {tf : TDL} {tl : TDL} {tt tu : TDB}
def zIx:RD2:=fun x y R=>match y with
  | .int i=>(match x with
    | .lst ds=>∃ d,atI ds i=some d∧R d
    | .tup ds=>∃ d,atI ds i=some d∧R d
    | .fzl ds=>∃ d,atI ds i=some d∧R d
    | .str z=>z.length≤sizeLine∧∃ c,atI z.cps.toList i=some c∧R (.str ⟨#[c]⟩)
    | _=>False)
  | _=>False
theorem qkh {Φ:Hp} {ds:List D} {vs:List V} {d:D} {i:Int} (h:RpL K Φ ds vs) (e:atI ds i=some d):∃ v,atI vs i=some v∧Rp K Φ d v:=by
  unfold atI at e ⊢
  rw [h.1]
  cases hj:ixN ds.length i with
  | none=>rw [hj] at e;cases e
  | some j =>
    rw [hj,Option.bind_some] at e
    rw [Option.bind_some]
    exact h.at e
theorem qoA (hK:X.K=K):IxR X (lR2 K zIx):=by
  intro value slice pins s σ H x y v u Q I rx ry ⟨Φ,dx,dy,R,sm,hx,hy,h,k⟩ hs
  cases dy with
  | int i =>
    cases hy.int
    cases dx with
    | lst ds =>
      obtain ⟨d,h1,h2⟩:=h
      obtain ⟨a,vs,rfl,q1,q2⟩:=hx.lst sm
      obtain ⟨w,hw,rw'⟩:=qkh q2 h1
      exact qh0 value slice pins s σ H _ _ v u Q I rx ry ⟨a,vs,i,w,rfl,rfl,.of q1,hw,k _ Φ H _ h2 (.refl sm) rw'⟩ hs
    | tup ds =>
      obtain ⟨d,h1,h2⟩:=h
      obtain ⟨a,vs,rfl,q1,_,q2⟩:=hx.tup sm
      obtain ⟨w,hw,rw'⟩:=qkh q2 h1
      exact qmO value slice pins s σ H _ _ v u Q I rx ry ⟨a,vs,i,w,rfl,rfl,hK ▸ q1,hw,k _ Φ H _ h2 (.refl sm) rw'⟩ hs
    | fzl ds =>
      obtain ⟨d,h1,h2⟩:=h
      obtain ⟨a,vs,rfl,q1,q2⟩:=hx.fzl sm
      obtain ⟨w,hw,rw'⟩:=qkh q2 h1
      exact qh0 value slice pins s σ H _ _ v u Q I rx ry ⟨a,vs,i,w,rfl,rfl,hK ▸ q1,hw,k _ Φ H _ h2 (.refl sm) rw'⟩ hs
    | str z =>
      obtain ⟨h0,c,h1,h2⟩:=h
      cases hx.str
      exact qlx value slice pins s σ H _ _ v u Q I rx ry ⟨z,i,c,rfl,rfl,h0,h1,k _ Φ H _ h2 (.refl sm) (.str _)⟩ hs
    | _=>exact h.elim
  | _=>exact h.elim
theorem qaO (ha:PQ K X a ta) (hb:PQ K X b tb) (hs:qh8 b):PD K X (.Subscript a b pos) (dOp zIx ta tb) :=
  ⟨fun hK=>(qnx (qoA hK) (ha.pe hK) (hb.pe hK) hs).imp fun _ _ _=>qeC⟩
abbrev TOD:=Rho→(Option Int→Prop)→Prop
def lO (K:PySem.W.Frag) (t:TOD):TO:=fun σ H Q=>∃ H0 Φ ρ R,EnvD K H0 Φ H σ ρ∧t ρ R∧∀ o Φ' H',R o→Gr Φ H Φ' H'→Q o H'
structure POD (K:PySem.W.Frag) (X:Cx) (e:Option Expr) (t:TOD):Prop where po:X.K=K→PO X e (lO K t)
def qnA:TOD:=fun _ R=>R none
def qnF (t:TD):TOD:=fun ρ R=>t ρ fun d=>match d with | .int i=>R (some i) | _=>False
theorem PO.imp {o:Option Expr} {t t':TO} (h:PO X o t) (k:∀ σ H Q,t' σ H Q→t σ H Q):PO X o t':=fun pins s σ H Q I hw=>h pins s σ H Q I (k σ H Q hw)
theorem qgB:POD K X none qnA:=⟨fun _=>po_none.imp fun σ H Q hq0=>by obtain ⟨H0,Φ,ρ,R,E,t,k⟩:=hq0;exact k none Φ H t (.refl E.fz)⟩
theorem qgL (h:PQ K X e t):POD K X (some e) (qnF t):=⟨fun hK=>(qj4 (h.pe hK)).imp fun σ H Q hq0=>by obtain ⟨H0,Φ,ρ,R,E,t,k⟩:=hq0;exact ⟨H0,Φ,ρ,_,E,t,fun d Φ1 H1 v r g rv=>by
  cases d with
  | int i=>exact ⟨i,rv.int,k _ Φ1 H1 r g⟩
  | _=>exact r.elim⟩⟩
variable {lo hi : Option Expr} {to tp : TOD}
def qnQ (K:PySem.W.Frag):V→Option Int→Option Int→Hp→VK→Prop:=fun x lo hi H Q=>∃ a xs,x=.ref a∧SqT K H a xs∧(HT.sIx xs.length 0 lo=0∧HT.sIx xs.length xs.length hi=xs.length)∧Q (.ref a) H
theorem qlS:SlR X (qnQ X.K):=by
  intro pins s σ H x v vl vu lo hi sl Q I rx hs pl pu h
  obtain ⟨a,xs,rfl,hx,hw,q⟩:=h
  cases rx
  obtain ⟨its,r,ht,hz⟩:=I.tuple hx
  have hlen:its.toArray.size=xs.length:=by rw [List.size_toArray];exact r.length.symm
  refine ⟨"tuple",_,PyProof.Rows.slot_tuple_getitem.lookup,ht.typeIs,?_⟩
  exact HT.getItem_tuple_all ht hs pl pu (by rw [hlen];exact hw) ⟨.ref a,H,I,rfl,q⟩
theorem qk3 {α:Type} {xs:List α} {l h:Option Int} (hw:HT.sIx xs.length 0 l=0∧HT.sIx xs.length xs.length h=xs.length):qey xs l h=xs:=by
  unfold qey
  rw [hw.1,hw.2,List.drop_zero,Nat.sub_zero,List.take_length]
def zSl (x:D) (l h:Option Int) (R:D→Prop):Prop:=match x with
  | .lst ds=>NF (qey ds l h) fun zs=>R (.lst zs)
  | .fzl ds=>NF (qey ds l h) fun zs=>R (.lst zs)
  | .tup ds=>NF (qey ds l h) fun zs=>R (.tup zs)
  | _=>False
def dSl (t:TD) (to tp:TOD):TD:=fun ρ R=>t ρ fun x=>to ρ fun l=>tp ρ fun h=>zSl x l h R
theorem qmW (ha:PQ K X a ta) (hl:POD K X lo to) (hh:POD K X hi tp):PD K X (.Subscript a (.Slice lo hi none p2) pos) (dSl ta to tp) :=
  ⟨fun hK=>(qjs (hK ▸ sl_list.or (sl_tup.or qlS):SlR X (fun x lo hi H Q=>qnW K x lo hi H Q∨qnY K x lo hi H Q∨qnQ K x lo hi H Q)) (ha.pe hK) (hl.po hK) (hh.po hK)).imp fun σ H Q hq0=>by obtain ⟨H0,Φ,ρ,R,E,t,k⟩:=hq0;exact
    ⟨H0,Φ,ρ,_,E,t,fun dx Φ1 H1 x t1 g1 rx=>⟨H0,Φ1,ρ,_,E.gr g1,t1,fun l Φ2 H2 t2 g2=>⟨H0,Φ2,ρ,_,(E.gr g1).gr g2,t2,fun h Φ3 H3 t3 g3=>by
      have g:=(g1.trans g2).trans g3
      have rx3:=rx.gr (g2.trans g3)
      cases dx with
      | lst ds =>
        obtain ⟨a,vs,rfl,q1,q2⟩:=rx3.lst g.s
        exact .inl ⟨a,vs,rfl,.of q1,fun p hp=>k _ _ _ _ t3.get (g.trans (.new g.s hp _)) (((q2.cut l h).same (qaJ (g.s.free hp) _)).lst qan)⟩
      | fzl ds =>
        obtain ⟨a,vs,rfl,q1,q2⟩:=rx3.fzl g.s
        exact .inl ⟨a,vs,rfl,q1,fun p hp=>k _ _ _ _ t3.get (g.trans (.new g.s hp _)) (((q2.cut l h).same (qaJ (g.s.free hp) _)).lst qan)⟩
      | tup ds =>
        obtain ⟨a,vs,rfl,q1,q0,q2⟩:=rx3.tup g.s
        by_cases hw:HT.sIx vs.length 0 l=0∧HT.sIx vs.length vs.length h=vs.length
        · refine .inr (.inr ⟨a,vs,rfl,q1,hw,?_⟩)
          have e:qey ds l h=ds:=qk3 (by rw [← q2.1];exact hw)
          have t4:=t3.get
          rw [e] at t4
          exact k _ _ _ _ t4 g (q2.tup q0)
        · exact .inr (.inl ⟨a,vs,rfl,q1,hw,fun p hp=>k _ _ _ _ t3.get (g.trans (.new g.s hp _)) (((q2.cut l h).same (qaJ (g.s.free hp) _)).tup (.of qan))⟩)
      | _=>exact t3.elim⟩⟩⟩⟩
abbrev SpD:=List D→(D→Prop)→Prop
def lSp (K:PySem.W.Frag) (sp:SpD):Sp:=fun vs H Q _=>∃ Φ ds R,Same Φ H∧TabF K Φ∧RpL K Φ ds vs∧sp ds R∧∀ d Φ' H' v,R d→Gr Φ H Φ' H'→Rp K Φ' d v→Q v H'
def qi0 (sp:SpD) (t:TDL):TD:=fun ρ R=>t ρ fun ds=>sp ds R
variable {CX : CXT} {k : Nat} {f : Addr} {fd : FuncData} {ps : List Str} {sp : SpD} {x : Str} {p : Pos} {E : XK}
theorem qmc (F:FnOk X.prog X.w X.K X.mg X.base CX k f fd ps (lSp K sp)) (hr:Room k X.A) (hg:Gl X x) (hm:X.mg x=some (.ref f)) (hk:PySem.W.keepIn X.K (.ref f)=true) (hb:Binds X.K fd ps []) (hx:qdY CX X E)
    (ha:PAD K X (e::es) tl) (he:starEach (e::es) X.env=(false,eval e X.env)::starEach es X.env) (hpl:(backTo pos (starEach es X.env)).any (·.1)=false) (hdb:(x == ("__debug__":Str))=false:=by decide) :
    PD K X (.Call (.Name x p) (e::es) [] pos) (qi0 sp tl) :=
  ⟨fun hK=>(qkr F hr hg hm hk hb .nil hx (ha.pa hK) hdb he hpl).imp fun σ H Q hq0=>by obtain ⟨H0,Φ,ρ,R,E,t,k⟩:=hq0;exact ⟨H0,Φ,ρ,_,E,t,fun ds Φ1 H1 vs r g rl _=>⟨Φ1,ds,R,g.s,E.tb.same g.f,by rw [List.append_nil];exact rl,r,fun d Φ' H' v rd g' rv=>k d Φ' H' v rd (g.trans g') rv⟩⟩⟩
def qno (K:PySem.W.Frag) (Φ H:Hp) (ds:List D) (vs:List V):Prop:=vs.length=ds.length∧∀ (i:Nat) (v:V) (d:D),vs[i]?=some v→ds[i]?=some d→RpQ K Φ H d v
def lAQ (K:PySem.W.Frag) (t:TDL):TA:=fun σ H Q=>∃ H0 Φ ρ R,EnvD K H0 Φ H σ ρ∧t ρ R∧∀ ds Φ' H' vs,R ds→Gr Φ H Φ' H'→qno K Φ' H' ds vs→Q vs H'
structure PAQ (K:PySem.W.Frag) (X:Cx) (es:List Expr) (t:TDL):Prop where pa:X.K=K→PA X es (lAQ K t)
theorem qaB:PAQ K X [] qnU:=⟨fun _=>pa_nil.imp fun σ H Q hq0=>by obtain ⟨H0,Φ,ρ,R,E,t,k⟩:=hq0;exact k [] Φ H [] t (.refl E.fz) ⟨rfl,fun i v d hv _=>by simp at hv⟩⟩
theorem qar (ha:PQ K X e t) (hr:PAQ K X es tl) (hs:starEach (e::es) X.env=(false,eval e X.env)::starEach es X.env):PAQ K X (e::es) (qmu t tl) :=
  ⟨fun hK=>(qb7 (ha.pe hK) (hr.pa hK) hs).imp fun σ H Q hq0=>by obtain ⟨H0,Φ,ρ,R,E,t,k⟩:=hq0;exact ⟨H0,Φ,ρ,_,E,t,fun d Φ1 H1 v r g rv=>⟨H0,Φ1,ρ,_,E.gr g,r,fun ds Φ2 H2 vs r2 g2 rl =>
    k _ Φ2 H2 _ r2 (g.trans g2) ⟨by simp [rl.1],fun i u d hu hd=>by
      cases i with
      | zero=>cases hu;cases hd;exact rv.gr g2
      | succ i=>exact rl.2 i u d hu hd⟩⟩⟩⟩
def lC (K:PySem.W.Frag) (r:SpD):List V→Hp→VK→Prop:=fun vs H Q=>∃ Φ ds R,Same Φ H∧qno K Φ H ds vs∧r ds R∧∀ d Φ' H' v,R d→Gr Φ H Φ' H'→Rp K Φ' d v→Q v H'
structure CallD (K:PySem.W.Frag) (X:Cx) (f:Value) (r:SpD):Prop where c:X.K=K→qc1 X f (lC K r)
theorem qaK {id:String} {r:SpD} (hc:CallD K X (.builtin id) r) (hg:Gl X x) (hm:X.mg x=none) (hv:bootBuiltins x=some (.builtin id)) (ha:PAQ K X (e::es) tl)
    (he:starEach (e::es) X.env=(false,eval e X.env)::starEach es X.env) (hpl:(backTo pos (starEach es X.env)).any (·.1)=false) (hn:x≠"__name__":=by decide) (hdb:(x == ("__debug__":Str))=false:=by decide):PD K X (.Call (.Name x p) (e::es) [] pos) (qi0 r tl) :=
  ⟨fun hK=>(qgD (hc.c hK) hg hm hv (ha.pa hK) hn hdb he hpl).imp fun σ H Q hq0=>by obtain ⟨H0,Φ,ρ,R,E,t,k⟩:=hq0;exact ⟨H0,Φ,ρ,_,E,t,fun ds Φ1 H1 vs r g rl=>⟨Φ1,ds,R,g.s,rl,r,fun d Φ' H' v rd g' rv=>k d Φ' H' v rd (g.trans g') rv⟩⟩⟩
theorem qaH {T:String} {r:SpD} (hc:CallD K X (.type T) r) (hg:Gl X x) (hm:X.mg x=none) (hv:bootBuiltins x=some (.type T)) (ha:PAQ K X (e::es) tl)
    (he:starEach (e::es) X.env=(false,eval e X.env)::starEach es X.env) (hpl:(backTo pos (starEach es X.env)).any (·.1)=false) (hn:x≠"__name__":=by decide) (hdb:(x == ("__debug__":Str))=false:=by decide):PD K X (.Call (.Name x p) (e::es) [] pos) (qi0 r tl) :=
  ⟨fun hK=>(qcW (hc.c hK) hg hm hv (ha.pa hK) hn hdb he hpl).imp fun σ H Q hq0=>by obtain ⟨H0,Φ,ρ,R,E,t,k⟩:=hq0;exact ⟨H0,Φ,ρ,_,E,t,fun ds Φ1 H1 vs r g rl=>⟨Φ1,ds,R,g.s,rl,r,fun d Φ' H' v rd g' rv=>k d Φ' H' v rd (g.trans g') rv⟩⟩⟩
theorem qcA {Φ H:Hp} {d:D} {vs:List V} (h:qno K Φ H [d] vs):∃ v,vs=[v]∧RpQ K Φ H d v:=by
  obtain ⟨h1,h2⟩:=h
  match vs,h1,h2 with
  | [v],_,h2=>exact ⟨v,rfl,h2 0 v d rfl rfl⟩
def qoq:SpD:=fun ds R=>match ds with | [.lst xs]=>R (.int xs.length) | [.tup xs]=>R (.int xs.length) | [.fzl xs]=>R (.int xs.length) | [.str z]=>z.length≤sizeLine∧R (.int z.length) | _=>False
theorem qcG:CallD K X (.builtin "len") qoq:=⟨fun hK pins s σ H xs us Q I rr hq0=>by
  obtain ⟨Φ,ds,R,sm,hl,h,k⟩:=hq0
  match ds,h with
  | [.lst xs],h =>
    obtain ⟨v,rfl,r⟩:=qcA hl
    obtain ⟨a,vs,rfl,q1,q2⟩:=r.lst sm
    exact qcq pins s σ H _ us Q I rr ⟨a,vs,rfl,.inl (.of q1),by rw [q2.1];exact k _ Φ H _ h (.refl sm) (.int _)⟩
  | [.tup xs],h =>
    obtain ⟨v,rfl,r⟩:=qcA hl
    obtain ⟨a,vs,rfl,q1,_,q2⟩:=r.tup sm
    exact qcq pins s σ H _ us Q I rr ⟨a,vs,rfl,.inr (hK ▸ q1),by rw [q2.1];exact k _ Φ H _ h (.refl sm) (.int _)⟩
  | [.fzl xs],h =>
    obtain ⟨v,rfl,r⟩:=qcA hl
    obtain ⟨a,vs,rfl,q1,q2⟩:=r.fzl sm
    exact qcq pins s σ H _ us Q I rr ⟨a,vs,rfl,.inl (hK ▸ q1),by rw [q2.1];exact k _ Φ H _ h (.refl sm) (.int _)⟩
  | [.str z],h =>
    obtain ⟨v,rfl,r⟩:=qcA hl
    cases r.str
    exact qe7 pins s σ H _ us Q I rr ⟨z,rfl,h.1,k _ Φ H _ h.2 (.refl sm) (.int _)⟩⟩
def qoz:SpD:=fun ds R=>match ds with | [.int i]=>R (.int (if i<0 then -i else i)) | _=>False
theorem qg7:CallD K X (.builtin "abs") qoz:=⟨fun hK pins s σ H xs us Q I rr hq0=>by
  obtain ⟨Φ,ds,R,sm,hl,h,k⟩:=hq0
  match ds,h with
  | [.int i],h =>
    obtain ⟨v,rfl,r⟩:=qcA hl
    cases r.int
    exact qiz pins s σ H _ us Q I rr ⟨i,rfl,k _ Φ H _ h (.refl sm) (.int _)⟩⟩
theorem qlj {Φ:Hp} {ns:List Int} {vs:List V} (h:RpL K Φ (ns.map D.int) vs):vs=ns.map V.int:=by
  refine List.ext_getElem? fun i=>?_
  rw [List.getElem?_map]
  cases e:ns[i]? with
  | none =>
    have:=List.getElem?_eq_none_iff.mp e
    rw [List.getElem?_eq_none (by rw [h.1,List.length_map];exact this)]
    rfl
  | some n =>
    obtain ⟨v,hv,r⟩:=h.at (i:=i) (d:=.int n) (by rw [List.getElem?_map,e];rfl)
    cases r
    rw [hv]
    rfl
theorem RpQ.sqb {Φ H:Hp} {d:D} {v:V} {ds:List D} (s:Same Φ H) (h:RpQ K Φ H d v) (e:qiu d=some ds):∃ (q:Bool) (a:Addr) (vs:List V),v=.ref a∧SqB K q H a vs∧RpL K Φ ds vs:=by
  obtain ⟨a,vs,e1,h1,h2⟩:=h.seq s e
  rcases h1 with h1 | h1
  · exact ⟨true,a,vs,e1,h1,h2⟩
  · exact ⟨false,a,vs,e1,h1,h2⟩
def qoE:SpD:=fun ds R=>match ds with | [d]=>∃ ns:List Int,qiu d=some (ns.map D.int)∧R (.int ns.sum) | _=>False
theorem qmm (hc:X.calm=true):CallD K X (.builtin "sum") qoE:=⟨fun hK pins s σ H xs us Q I rr hq0=>by
  obtain ⟨Φ,ds,R,sm,hl,h,k⟩:=hq0
  match ds,h with
  | [d],⟨ns,e,h⟩ =>
    obtain ⟨v,rfl,r⟩:=qcA hl
    obtain ⟨q,a,vs,rfl,q1,q2⟩:=r.sqb sm e
    rw [qlj q2] at q1
    exact qiF q hc pins s σ H _ us Q I rr ⟨a,ns,rfl,hK ▸ q1,k _ Φ H _ h (.refl sm) (.int _)⟩⟩
def qmh:SpD:=fun ds R=>match ds with | [.lst xs]=>R (.tup xs) | [.tup xs]=>R (.tup xs) | [.fzl xs]=>R (.tup xs) | _=>False
theorem qaS:CallD K X (.type "tuple") qmh:=⟨fun hK pins s σ H xs us Q I rr hq0=>by
  obtain ⟨Φ,ds,R,sm,hl,h,k⟩:=hq0
  match ds,h with
  | [.lst xs],h =>
    obtain ⟨v,rfl,r⟩:=qcA hl
    obtain ⟨a,vs,rfl,q1,q2⟩:=r.lst sm
    exact qb3 pins s σ H _ us Q I rr ⟨a,vs,rfl,.inl ⟨.of q1,fun p hp=>k _ _ _ _ h (.new sm hp _) ((q2.same (qaJ (sm.free hp) _)).tup (.of qan))⟩⟩
  | [.fzl xs],h =>
    obtain ⟨v,rfl,r⟩:=qcA hl
    obtain ⟨a,vs,rfl,q1,q2⟩:=r.fzl sm
    exact qb3 pins s σ H _ us Q I rr ⟨a,vs,rfl,.inl ⟨hK ▸ q1,fun p hp=>k _ _ _ _ h (.new sm hp _) ((q2.same (qaJ (sm.free hp) _)).tup (.of qan))⟩⟩
  | [.tup xs],h =>
    obtain ⟨v,rfl,r⟩:=qcA hl
    obtain ⟨a,vs,rfl,q1,q3,q2⟩:=r.tup sm
    exact qb3 pins s σ H _ us Q I rr ⟨a,vs,rfl,.inr ⟨hK ▸ q1,k _ Φ H _ h (.refl sm) (q2.tup q3)⟩⟩⟩
def qnp (t:TD):TDL:=fun ρ R=>t ρ fun d=>∃ ds,qiu d=some ds∧R ds
theorem qmF (hg:Gl X "list") (hm:X.mg "list"=none) (ha:PQ K X e t) (he:starEach [e] X.env=(false,eval e X.env)::starEach [] X.env):PF K X (.Call (.Name "list" p) [e] [] pos) (qnp t) :=
  ⟨fun hK=>(qcW qfJ hg hm boot_list (qb7 (ha.pe hK) pa_nil he) (by decide) (by decide) he qaf).imp fun σ H Q hq0=>by obtain ⟨H0,Φ,ρ,R,E,t,k⟩:=hq0;exact ⟨H0,Φ,ρ,_,E,t,fun d Φ1 H1 v r g rv=>by
    obtain ⟨ds,e1,r⟩:=r
    obtain ⟨a,vs,rfl,q1,q2⟩:=rv.seq g.s e1
    exact ⟨a,vs,rfl,hK ▸ q1,fun l hl=>k _ _ _ l _ r (g.trans (.fresh g.s hl _)) (g.h.free hl) (g.s.free hl) qan q2⟩⟩⟩
def qlq (d:D) (T:String):Option Bool:=match d with
  | .int _=>if T="int" then some true else if T="bool" then some false else if T="tuple" then some false else if T="str" then some false else none
  | .bl _=>if T="int" then some true else if T="bool" then some true else if T="tuple" then some false else none
  | .str _=>if T="str" then some true else if T="tuple" then some false else none
  | .tup _=>if T="tuple" then some true else if T="int" then some false else none
  | .lst _=>if T="tuple" then some false else if T="list" then some true else none
  | _=>none
end
structure SteadyD (K:PySem.W.Frag) (J:It) (Φ:Hp) (ds:List D):Prop where
  go:∀ i H,Same Φ H→i<ds.length→J.go i H
  yl:∀ i Φ2 H x H2 d,Same Φ Φ2→Same Φ2 H→ds[i]?=some d→J.yld i H x H2→∃ Φ3,Gr Φ2 H Φ3 H2∧Rp K Φ3 d x
  stop:∀ H,Same Φ H→J.stop ds.length H
section
variable {K : PySem.W.Frag} {Φ : Hp} {ds es : List D} {vs ws : List V} {a : Addr}
theorem qfj (h:SqL K Φ a vs) (r:RpL K Φ ds vs):SteadyD K (Itl K a) Φ ds :=
  ⟨fun i H s hi=>⟨vs,vs[i]'(by rw [r.1];exact hi),s.seq h,qaA _⟩,fun i Φ2 H x H2 d s2 s hd y=>by
    obtain ⟨e,y⟩:=y
    subst e
    exact ⟨Φ2,.refl s,(r.2 i x d (y vs ((s2.trans s).seq h)) hd).same s2⟩,fun H s=>⟨vs,s.seq h,by rw [r.1];exact Nat.le_refl _⟩⟩
theorem qf4 (h:SqT K Φ a vs) (r:RpL K Φ ds vs):SteadyD K (Itt K a) Φ ds :=
  ⟨fun i H s hi=>⟨vs,vs[i]'(by rw [r.1];exact hi),s.sqt h,qaA _⟩,fun i Φ2 H x H2 d s2 s hd y=>by
    obtain ⟨e,y⟩:=y
    subst e
    exact ⟨Φ2,.refl s,(r.2 i x d (y vs ((s2.trans s).sqt h)) hd).same s2⟩,fun H s=>⟨vs,s.sqt h,by rw [r.1];exact Nat.le_refl _⟩⟩
def qbs (lo:Int) (n:Nat):List D:=(List.range n).map fun i=>D.int (lo+(i:Nat))
theorem qaN (lo:Int) (n:Nat):(qbs lo n).length=n:=by unfold qbs;simp
theorem qbb {lo:Int} {n i:Nat} {d:D} (h:(qbs lo n)[i]?=some d):i<n∧d=.int (lo+(i:Nat)):=by
  have hi:i<n:=by have:=qaF h;rwa [qaN] at this
  unfold qbs at h
  rw [List.getElem?_map,List.getElem?_range hi] at h
  cases h
  exact ⟨hi,rfl⟩
theorem qe0 {lo:Int} {n:Nat}:SteadyD K (Itr lo n) Φ (qbs lo n) :=
  ⟨fun i H s hi=>by rw [qaN] at hi;exact hi,fun i Φ2 H x H2 d s2 s hd y=>by
    obtain ⟨e,y⟩:=y
    subst e y
    rw [(qbb hd).2]
    exact ⟨Φ2,.refl s,.int _⟩,fun H s=>by rw [qaN];exact Nat.le_refl n⟩
def qeX (ds:List D):List D:=ds.zipIdx.map fun p=>.tup [.int (p.2:Nat),p.1]
theorem qcX (ds:List D):(qeX ds).length=ds.length:=by unfold qeX;simp
theorem qeW {i:Nat} {d:D} (h:(qeX ds)[i]?=some d):∃ e,ds[i]?=some e∧d=.tup [.int (i:Nat),e]:=by
  unfold qeX at h
  rw [List.getElem?_map,List.getElem?_zipIdx] at h
  cases e:ds[i]? with
  | none=>rw [e] at h;cases h
  | some x=>rw [e] at h;cases h;exact ⟨x,rfl,by simp⟩
theorem Rp.pair {H:Hp} {t:Addr} {d e:D} {x y:V} (h:H t=some (.tup [x,y])) (r1:Rp K H d x) (r2:Rp K H e y):Rp K H (.tup [d,e]) (.ref t):=(RpL.cons r1 (.one r2)).tup (.of h)
theorem qe5 {b:Bool} (h:SqB K b Φ a vs) (r:RpL K Φ ds vs):SteadyD K (Ite K b a) Φ (qeX ds) :=
  ⟨fun i H s hi=>by rw [qcX] at hi;exact ⟨vs,vs[i]'(by rw [r.1];exact hi),SqB.same s h,qaA _⟩,fun i Φ2 H x H2 d s2 s hd y=>by
    obtain ⟨t,v,hn,e,e',y⟩:=y
    subst e e'
    obtain ⟨e,he,rfl⟩:=qeW hd
    have rv:=(r.2 i v e (y vs (SqB.same (s2.trans s) h)) he).same (s2.trans (qaJ (s.free hn) (.tup [.int i,v])))
    exact ⟨_,.new s hn _,.pair qan (.int _) rv⟩,fun H s=>by rw [qcX];exact ⟨vs,SqB.same s h,by rw [r.1];exact Nat.le_refl _⟩⟩
def qh4 (ds es:List D):List D:=List.zipWith (fun x y=>.tup [x,y]) ds es
theorem qgp (ds es:List D):(qh4 ds es).length=min ds.length es.length:=by unfold qh4;simp
theorem qka {i:Nat} {d:D} (h:(qh4 ds es)[i]?=some d):∃ x y,ds[i]?=some x∧es[i]?=some y∧d=.tup [x,y]:=by
  unfold qh4 at h
  rw [List.getElem?_zipWith] at h
  cases e:ds[i]? with
  | none=>rw [e] at h;cases h
  | some x =>
    cases e2:es[i]? with
    | none=>rw [e,e2] at h;cases h
    | some y=>rw [e,e2] at h;cases h;exact ⟨x,y,rfl,rfl,rfl⟩
theorem qf1 {b1 b2:Bool} {a1 a2:Addr} (h1:SqB K b1 Φ a1 vs) (h2:SqB K b2 Φ a2 ws) (r1:RpL K Φ ds vs) (r2:RpL K Φ es ws):SteadyD K (Itz K b1 a1 b2 a2) Φ (qh4 ds es) :=
  ⟨fun i H s hi=>by
    rw [qgp] at hi
    have i1:i<vs.length:=by rw [r1.1];omega
    have i2:i<ws.length:=by rw [r2.1];omega
    exact ⟨vs,ws,vs[i],ws[i],SqB.same s h1,SqB.same s h2,qaA i1,qaA i2⟩,fun i Φ2 H x H2 d s2 s hd y=>by
    obtain ⟨t,u,v,hn,e,e',y1,y2⟩:=y
    subst e e'
    obtain ⟨p,q,hp,hq,rfl⟩:=qka hd
    have sn:=s2.trans (qaJ (s.free hn) (.tup [u,v]))
    exact ⟨_,.new s hn _,.pair qan ((r1.2 i u p (y1 vs (SqB.same (s2.trans s) h1)) hp).same sn) ((r2.2 i v q (y2 ws (SqB.same (s2.trans s) h2)) hq).same sn)⟩,fun H s=>by
    rw [qgp]
    exact ⟨vs,ws,SqB.same s h1,SqB.same s h2,by rw [r1.1,r2.1];omega⟩⟩
end
def lI (K:PySem.W.Frag) (t:TDL):TI:=fun σ H R'=>∃ H0 Φ ρ R,EnvD K H0 Φ H σ ρ∧t ρ R∧∀ ds Φ' H' J,R ds→Gr Φ H Φ' H'→SteadyD K J Φ' ds→R' J H'
structure PID (K:PySem.W.Frag) (X:Cx) (tg e:Expr) (t:TDL):Prop where pi:X.K=K→PI X tg e (lI K t)
theorem PI.imp {X:Cx} {tg e:Expr} {t t':TI} (h:PI X tg e t) (k:∀ σ H R,t' σ H R→t σ H R):PI X tg e t':=fun pins s σ H R I hw=>h pins s σ H R I (k σ H R hw)
section
variable {K : PySem.W.Frag} {X : Cx} {tg e a b : Expr} {es : List Expr} {pos p tp : Pos} {t ta tb : TD} {tl : TDL}
theorem qi2 {es:List Expr} {k:Nat} {t:TGs} {n:Nat} (hK:X.K=K) (hc:X.calm=true) (h:PGs X es t) (hn:(assignEach es X.env).length=n) (hst:(assignEach es X.env).findIdx? (·.1)=none):PG X (.Tuple es k pos) (qnV K n t):=hK ▸ ql9 hc h hn hst
theorem qjj {es:List Expr} {k:Nat} {t:TGs} {n:Nat} (hK:X.K=K) (hc:X.calm=true) (h:PGs X es t) (hn:(assignEach es X.env).length=n) (hst:(assignEach es X.env).findIdx? (·.1)=none):PG X (.Tuple es k pos) (qnZ K n t):=hK ▸ qmK hc h hn hst
def qle (t:TDL):TDL:=fun ρ R=>t ρ fun ds=>match ds with | [.int j]=>(-(2 ^ 62)≤j∧j<2 ^ 62)∧R (qbs 0 j.toNat) | _=>False
theorem RpL.one_inv {Φ:Hp} {d:D} {vs:List V} (h:RpL K Φ [d] vs):∃ v,vs=[v]∧Rp K Φ d v:=by
  obtain ⟨h1,h2⟩:=h
  match vs,h1,h2 with
  | [v],_,h2=>exact ⟨v,rfl,h2 0 v d rfl rfl⟩
theorem RpL.two_inv {Φ:Hp} {d e:D} {vs:List V} (h:RpL K Φ [d,e] vs):∃ v w,vs=[v,w]∧Rp K Φ d v∧Rp K Φ e w:=by
  obtain ⟨h1,h2⟩:=h
  match vs,h1,h2 with
  | [v,w],_,h2=>exact ⟨v,w,rfl,h2 0 v d rfl rfl,h2 1 w e rfl rfl⟩
theorem qa8 (hg:Gl X "range") (hm:X.mg "range"=none) (ha:PAD K X [a] tl) (hs:starEach [a] X.env=[(false,eval a X.env)]:=by rfl):PID K X tg (.Call (.Name "range" p) [a] [] pos) (qle tl) :=
  ⟨fun hK=>(qhh hg hm (ha.pa hK) hs).imp fun σ H R' hq0=>by obtain ⟨H0,Φ,ρ,R,E,t,k⟩:=hq0;exact ⟨H0,Φ,ρ,_,E,t,fun ds Φ1 H1 vs r g rv _=>by
    match ds,r with
    | [.int j],r =>
      obtain ⟨v,rfl,r1⟩:=rv.one_inv
      cases r1
      exact ⟨j,rfl,r.1.1,r.1.2,k _ Φ1 H1 _ r.2 g qe0⟩⟩⟩
end
abbrev TGD:=D→Rho→(Rho→Prop)→Prop
abbrev qg0:=List D→Rho→(Rho→Prop)→Prop
def lG (K:PySem.W.Frag) (g:TGD):TG:=fun v σ H Q=>∃ H0 Φ ρ d R,EnvD K H0 Φ H σ ρ∧Rp K Φ d v∧g d ρ R∧∀ ρ' σ',R ρ'→EnvD K H0 Φ H σ' ρ'→Q σ' H
def lGs (K:PySem.W.Frag) (g:qg0):TGs:=fun vs σ H Q=>∃ H0 Φ ρ ds R,EnvD K H0 Φ H σ ρ∧RpL K Φ ds vs∧g ds ρ R∧∀ ρ' σ',R ρ'→EnvD K H0 Φ H σ' ρ'→Q σ' H
structure PGD (K:PySem.W.Frag) (X:Cx) (e:Expr) (g:TGD):Prop where pg:X.K=K→PG X e (lG K g)
structure PGDs (K:PySem.W.Frag) (X:Cx) (es:List Expr) (g:qg0):Prop where pg:X.K=K→PGs X es (lGs K g)
theorem PG.imp {X:Cx} {e:Expr} {t t':TG} (h:PG X e t) (k:∀ v σ H Q,t' v σ H Q→t v σ H Q):PG X e t':=fun pins s σ H v u Q I r hw=>h pins s σ H v u Q I r (k v σ H Q hw)
theorem PGs.imp {X:Cx} {e:List Expr} {t t':TGs} (h:PGs X e t) (k:∀ v σ H Q,t' v σ H Q→t v σ H Q):PGs X e t':=fun pins s σ H v u Q I r hw=>h pins s σ H v u Q I r (k v σ H Q hw)
section
variable {K : PySem.W.Frag} {X : Cx} {e : Expr} {es : List Expr} {pos : Pos} {g : TGD} {gs : qg0}
def qnf (i:Nat):TGD:=fun d ρ R=>R (ρ.set i (some (.v d)))
theorem qao {i:Nat} {x:Str} (hN:X.N.Nodup) (hi:X.N[i]?=some x) (hx:Loc X.env.scope x) (hf:X.fn x=true∨X.env.scope.names.lookup x=some .local:=by first | exact .inl rfl | exact .inr rfl | assumption):PGD K X (.Name x pos) (qnf i) :=
  ⟨fun _=>(qlk hN hi hx hf).imp fun v σ H Q hq0=>by obtain ⟨H0,Φ,ρ,d,R,E,r,g,k⟩:=hq0;exact k _ _ g (E.set r i)⟩
def qli:qg0:=fun ds ρ R=>match ds with | []=>R ρ | _=>False
def qgC (t:TGD) (u:qg0):qg0:=fun ds ρ R=>match ds with | d::r=>t d ρ fun ρ'=>u r ρ' R | []=>False
theorem qbD:PGDs K X [] qli:=⟨fun _=>pgs_nil.imp fun v σ H Q hq0=>by
  obtain ⟨H0,Φ,ρ,ds,R,E,r,g,k⟩:=hq0
  cases ds with
  | nil=>exact ⟨List.length_eq_zero_iff.mp r.1,k _ _ g E⟩
  | cons=>exact g.elim⟩
theorem qav (h1:PGD K X e g) (h2:PGDs K X es gs) (hs:(assignEach (e::es) X.env).map (·.2)=assign e X.env::(assignEach es X.env).map (·.2):=by rfl):PGDs K X (e::es) (qgC g gs) :=
  ⟨fun hK=>(qjh (h1.pg hK) (h2.pg hK) hs).imp fun vs σ H Q hq0=>by
    obtain ⟨H0,Φ,ρ,ds,R,E,r,g,k⟩:=hq0
    cases ds with
    | nil=>exact g.elim
    | cons d ds =>
      cases vs with
      | nil=>exact absurd r.1 (by simp)
      | cons v vs =>
        refine ⟨v,vs,rfl,H0,Φ,ρ,d,_,E,r.2 0 v d rfl rfl,g,fun ρ' σ' g' E'=>⟨H0,Φ,ρ',ds,R,E',⟨by have:=r.1;simpa using this,fun i u f hu hf=>r.2 (i+1) u f hu hf⟩,g',k⟩⟩⟩
end
def qfL (cap:List (Option Nat)) (ρ:Rho):Rho:=cap.map fun o=>o.bind fun i=>(ρ[i]?).join
theorem qhL {α:Type} {o:Option (Option α)} {x:α} (h:o.join=some x):o=some (some x):=by
  cases o with
  | none=>cases h
  | some o=>cases o with
    | none=>cases h
    | some y=>cases h;rfl
theorem qef {α:Type} {cap:List (Option Nat)} {l:List (Option α)} {i:Nat} {x:α} (h:(cap.map fun o=>o.bind fun i=>(l[i]?).join)[i]?=some (some x)):∃ j,cap[i]?=some (some j)∧l[j]?=some (some x):=by
  rw [List.getElem?_map] at h
  cases e:cap[i]? with
  | none=>rw [e] at h;cases h
  | some o =>
    rw [e] at h
    cases o with
    | none=>cases h
    | some j=>exact ⟨j,rfl,qhL (by simpa using h)⟩
theorem EnvD.cap {K:PySem.W.Frag} {H0 Φ H:Hp} {σ:St} {ρ:Rho} {cap:List (Option Nat)} (E:EnvD K H0 Φ H σ ρ) (inj:∀ i j k:Nat,cap[i]?=some (some k)→cap[j]?=some (some k)→i=j):EnvD K H0 Φ H (qch cap σ) (qfL cap ρ):=by
  have st:∀ {i j:Nat} {v:V},cap[i]?=some (some j)→σ[j]?=some (some v)→(qch cap σ)[i]?=some (some v):=fun hc hs=>by
    unfold qch
    rw [List.getElem?_map,hc]
    simp [hs]
  have ts:∀ {i j:Nat} {v:V},cap[i]?=some (some j)→(qch cap σ)[i]?=some (some v)→σ[j]?=some (some v):=fun hc hs=>by
    obtain ⟨j',h1,h2⟩:=qef hs
    rw [hc] at h1
    cases h1
    exact h2
  refine ⟨E.fz,by unfold qch qfL;simp,fun i d h=>?_,fun i ds h=>?_,fun i j ds es p hi hj si sj=>?_,E.tb⟩
  · obtain ⟨j,h1,h2⟩:=qef h
    obtain ⟨v,e,r⟩:=E.sl j d h2
    exact ⟨v,st h1 e,r⟩
  · obtain ⟨j,h1,h2⟩:=qef h
    obtain ⟨p,vs,e,q⟩:=E.ow j ds h2
    exact ⟨p,vs,st h1 e,q⟩
  · obtain ⟨i',h1,h2⟩:=qef hi
    obtain ⟨j',h3,h4⟩:=qef hj
    have:=E.ne i' j' ds es p h2 h4 (ts h1 si) (ts h3 sj)
    subst this
    exact inj i j i' h1 h3
structure GK (k:Nat) (g:TGD):Prop where p:∀ d ρ R,g d ρ R→g d ρ fun ρ1=>ρ1.length=ρ.length∧ρ1.drop k=ρ.drop k∧R ρ1
structure GKs (k:Nat) (g:qg0):Prop where p:∀ ds ρ R,g ds ρ R→g ds ρ fun ρ1=>ρ1.length=ρ.length∧ρ1.drop k=ρ.drop k∧R ρ1
theorem qms {k i:Nat} (h:i<k):GK k (qnf i):=⟨fun d ρ R r=>⟨by simp,by rw [List.drop_set_of_lt h],r⟩⟩
theorem qmr {k:Nat}:GKs k qli:=⟨fun ds ρ R r=>by
  cases ds with
  | nil=>exact ⟨rfl,rfl,r⟩
  | cons=>exact r⟩
theorem qf2 {t:TGD} {u:qg0} (ht:∀ d ρ R R',(∀ x,R x→R' x)→t d ρ R→t d ρ R') (hu:∀ d ρ R R',(∀ x,R x→R' x)→u d ρ R→u d ρ R'):∀ d ρ R R',(∀ x,R x→R' x)→qgC t u d ρ R→qgC t u d ρ R':=by
  intro ds ρ R R' h r
  cases ds with
  | nil=>exact r
  | cons d ds=>exact ht d ρ _ _ (fun x hx=>hu ds x _ _ h hx) r
structure GM (k:Nat) (g:TGD):Prop where
  k:GK k g
  m:∀ d ρ R R',(∀ x,R x→R' x)→g d ρ R→g d ρ R'
structure GMs (k:Nat) (g:qg0):Prop where
  k:GKs k g
  m:∀ d ρ R R',(∀ x,R x→R' x)→g d ρ R→g d ρ R'
theorem qaG {k i:Nat} (h:i<k):GM k (qnf i):=⟨qms h,fun d ρ R R' h r=>h _ r⟩
theorem qcx {k:Nat}:GMs k qli:=⟨qmr,fun ds ρ R R' h r=>by
  cases ds with
  | nil=>exact h _ r
  | cons=>exact r⟩
theorem qa0 {k:Nat} {t:TGD} {u:qg0} (h1:GM k t) (h2:GMs k u):GMs k (qgC t u):=⟨⟨fun ds ρ R r=>by
  cases ds with
  | nil=>exact r
  | cons d ds =>
    have r1:t d ρ fun ρ'=>u ds ρ' R:=r
    refine h1.m _ _ _ _ (fun ρ1 q=>?_) (h1.k.p d ρ _ r1)
    exact h2.m _ _ _ _ (fun ρ2 q2=>⟨q2.1.trans q.1,q2.2.1.trans q.2.1,q2.2.2⟩) (h2.k.p ds ρ1 R q.2.2)⟩,qf2 h1.m h2.m⟩
def qkt:TDB:=fun _ R=>R true
structure PIfD (K:PySem.W.Frag) (X:Cx) (ifs:List Expr) (t:TDB):Prop where p:X.K=K→qln X ifs (lT K t)
theorem qhx {K:PySem.W.Frag} {X:Cx}:PIfD K X [] qkt:=⟨fun _ pins s σ H Q I hq0=>by obtain ⟨H0,Φ,ρ,R,E,t,k⟩:=hq0;exact qja pins s σ H Q I (k true Φ H t (.refl E.fz))⟩
theorem qjC {K:PySem.W.Frag} {X:Cx} {c:Expr} {t:TDB} (h:PTD K X c t):PIfD K X [c] t:=⟨fun hK=>qiV (h.pt hK)⟩
theorem EnvD.side {K:PySem.W.Frag} {H0 Φ H:Hp} {σ:St} {ρ:Rho} {p:Addr} {o u:HO} (E:EnvD K H0 Φ H σ ρ) (h0:H0 p=some u) (hn:Φ p=none):EnvD K H0 Φ (upd H p o) σ ρ :=
  ⟨fun b w e=>by rw [qax (qaw e hn)];exact E.fz b w e,E.len,E.sl,fun i ds h=>by
    obtain ⟨q,vs,e,q0,qn,qp,qr⟩:=E.ow i ds h
    exact ⟨q,vs,e,q0,qn,by rw [qax fun z=>by rw [z,h0] at q0;cases q0];exact qp,qr⟩,E.ne,E.tb⟩
theorem EnvD.base {K:PySem.W.Frag} {H0 Φ H:Hp} {σ:St} {ρ:Rho} {p:Addr} {u:HO} (E:EnvD K H0 Φ H σ ρ) (hp:H p=none):EnvD K (upd H0 p u) Φ H σ ρ :=
  ⟨E.fz,E.len,E.sl,fun i ds h=>by
    obtain ⟨q,vs,e,q0,qn,qp,qr⟩:=E.ow i ds h
    exact ⟨q,vs,e,by rw [qax (qaw qp hp)];exact q0,qn,qp,qr⟩,E.ne,E.tb⟩
def qj9 (ti:TDL) (cap:List (Option Nat)) (g:TGD) (tc:TDB) (te:TD):TDL:=fun ρ R=>ti ρ fun ds=>ds.length<sizeLine∧∃ P:Nat→Option D→Prop,
  (∀ i d,ds[i]?=some d→g d (qfL cap ρ) fun ρ1=>tc ρ1 fun b=>(b=true→te ρ1 fun y=>P i (some y))∧(b=false→P i none))∧∀ ys:List (Option D),ys.length=ds.length→(∀ i y,ys[i]?=some y→P i y)→R (ys.filterMap id)
theorem qk5 (ys:List (Option D)) (y:D):(ys++[some y]).filterMap id=ys.filterMap id++[y]:=by simp
theorem qjy (ys:List (Option D)):(ys++[none]).filterMap id=ys.filterMap id:=by simp
theorem qmV (ys:List (Option D)):(ys.filterMap id).length≤ys.length:=List.length_filterMap_le _ _
theorem qgh {α:Type} {ys:List α} {y:α} {P:Nat→α→Prop} {n:Nat} (hl:ys.length=n) (h:∀ i z,ys[i]?=some z→P i z) (hy:P n y):∀ i z,(ys++[y])[i]?=some z→P i z:=by
  intro i z hz
  rcases Nat.lt_or_ge i ys.length with c | c
  · rw [List.getElem?_append_left c] at hz
    exact h i z hz
  · rw [List.getElem?_append_right c] at hz
    have h0:i - ys.length=0:=by
      rcases Nat.eq_zero_or_pos (i - ys.length) with e | e
      · exact e
      · rw [List.getElem?_eq_none (by simp only [List.length_cons,List.length_nil];omega)] at hz;cases hz
    rw [h0] at hz
    cases hz
    have:i=n:=by omega
    subst this
    exact hy
def qc0 (k:Nat) (cap:List (Option Nat)):Bool:=(cap.take k).all (·.isNone) && decide ((cap.filterMap id).Nodup)
theorem qhA {k:Nat} {cap:List (Option Nat)} (h:qc0 k cap=true) {i:Nat} (hi:i<k) {o:Option Nat} (e:cap[i]?=some o):o=none:=by
  unfold qc0 at h
  rw [Bool.and_eq_true] at h
  have:=List.all_eq_true.mp h.1 o (List.mem_of_getElem? (i:=i) (by rw [List.getElem?_take_of_lt hi];exact e))
  cases o with
  | none=>rfl
  | some _=>cases this
theorem qfs {k:Nat} {cap:List (Option Nat)} (h:qc0 k cap=true):∀ i j n:Nat,cap[i]?=some (some n)→cap[j]?=some (some n)→i=j:=by
  unfold qc0 at h
  rw [Bool.and_eq_true] at h
  have nd:=of_decide_eq_true h.2
  clear h
  induction cap with
  | nil=>intro i j n hi;simp at hi
  | cons o cap ih =>
    intro i j n hi hj
    have nd':(cap.filterMap id).Nodup:=by
      cases o with
      | none=>simpa using nd
      | some m => have e : (some m :: cap).filterMap id = m :: cap.filterMap id := rfl
                  rw [e] at nd;exact (List.nodup_cons.mp nd).2
    have one:∀ {i:Nat},o=some n→cap[i]?=some (some n)→False:=fun {i} ho hi'=>by
      subst ho
      have e:(some n::cap).filterMap id=n::cap.filterMap id:=rfl
      rw [e] at nd
      exact (List.nodup_cons.mp nd).1 (List.mem_filterMap.mpr ⟨some n,List.mem_of_getElem? hi',rfl⟩)
    cases i with
    | zero=>cases j with
      | zero=>rfl
      | succ j=>exact (one (by simpa using hi) (by simpa using hj)).elim
    | succ i=>cases j with
      | zero=>exact (one (by simpa using hj) (by simpa using hi)).elim
      | succ j=>exact congrArg Nat.succ (ih nd' i j n (by simpa using hi) (by simpa using hj))
section
variable {K : PySem.W.Frag} {X : Cx} {tg iter elt : Expr} {ifs : List Expr} {scope : Scope} {pos : Pos} {N' : List Str} {cap : List (Option Nat)} {ti : TDL} {g : TGD} {tc : TDB} {te : TD}
theorem qfb {k:Nat} (hcap:qc0 k cap=true) (hk:GM k g) {σ:St} {H:Hp} {Q:VK} {H0 Φ:Hp} {ρ:Rho} {R W:List D→Prop} (E:EnvD K H0 Φ H σ ρ) (t:ti ρ W)
    (conv:∀ ds,W ds→ds.length<sizeLine∧∃ P:Nat→Option D→Prop,(∀ i d,ds[i]?=some d→g d (qfL cap ρ) fun ρ1=>tc ρ1 fun b=>(b=true→te ρ1 fun y=>P i (some y))∧(b=false→P i none))∧∀ ys:List (Option D),ys.length=ds.length→(∀ i y,ys[i]?=some y→P i y)→R (ys.filterMap id))
    (kk:∀ ds Φ' H' p vs,R ds→Gr Φ H Φ' H'→H p=none→Φ' p=none→H' p=some (.lst vs)→RpL K Φ' ds vs→Q (.ref p) H'):qeN (lI K ti) cap (lG K g) (lT K tc) (lE K te) σ H Q:=by
  refine ⟨H0,Φ,ρ,W,E,t,fun ds Φ1 H1 J hW g1 S Dd hD=>?_⟩
  obtain ⟨hlen,P,hp,hr⟩:=conv ds hW
  have E1:=E.gr g1
  have hDΦ:Φ1 Dd=none:=g1.s.free hD
  have C0:EnvD K (upd H0 Dd (.lst [])) Φ1 (upd H1 Dd (.lst [])) (qch cap σ) (qfL cap ρ):=((E1.base (u:=.lst []) hD).side (o:=.lst []) qan hDΦ).cap (qfs hcap)
  refine ⟨fun i m σ' H'=>m=ds.length - i∧i≤ds.length∧∃ (Φ':Hp) (vs:List V) (ys:List (Option D)),EnvD K (upd H0 Dd (.lst [])) Φ' H' σ' (qfL cap ρ)∧Gr Φ1 H1 Φ' H'∧Φ' Dd=none∧H' Dd=some (.lst vs)∧RpL K Φ' (ys.filterMap id) vs∧ys.length=i∧∀ j y,ys[j]?=some y→P j y,⟨ds.length,by simp,Nat.zero_le _,Φ1,[],[],C0,.fresh g1.s hD _,hDΦ,qan,.nil,rfl,fun j y hj=>by simp at hj⟩,?_⟩
  rintro i m σ' H' ⟨rfl,hi,Φ',vs,ys,Ei,gi,hDi,hDl,hrl,hyl,hy⟩
  by_cases hlt:i<ds.length
  · refine .inr ⟨S.go i H' (gi.f.trans gi.s) hlt,fun σ2 H2=>∃ (Φ':Hp) (vs:List V) (ys:List (Option D)),EnvD K (upd H0 Dd (.lst [])) Φ' H2 σ2 (qfL cap ρ)∧Gr Φ1 H1 Φ' H2∧Φ' Dd=none∧H2 Dd=some (.lst vs)∧RpL K Φ' (ys.filterMap id) vs∧ys.length=i+1∧∀ j y,ys[j]?=some y→P j y,fun σ2 H2 h2=>⟨ds.length - (i+1),by omega,rfl,hlt,h2⟩,fun x H2 y=>?_⟩
    obtain ⟨Φ3,g3,rx⟩:=S.yl i Φ' H' x H2 _ gi.f gi.s (qaA hlt) y
    have E3:=Ei.gr g3
    refine ⟨_,Φ3,qfL cap ρ,_,_,E3,rx,hk.k.p _ _ _ (hp i _ (qaA hlt)),fun ρ1 σ3 hq0 E4=>?_⟩
    obtain ⟨hl1,hd1,t1⟩:=hq0
    have wk:∀ (j:Nat) x,(qfL cap ρ)[j]?=some (some x)→ρ1[j]?=some (some x):=fun j x hj=>by
      rcases Nat.lt_or_ge j k with c | c
      · obtain ⟨n,h1,_⟩:=qef hj
        cases qhA hcap c h1
      · have e1:(qfL cap ρ)[j]?=((qfL cap ρ).drop k)[j - k]?:=by rw [List.getElem?_drop];congr 1;omega
        have e2:ρ1[j]?=(ρ1.drop k)[j - k]?:=by rw [List.getElem?_drop];congr 1;omega
        rw [e2,hd1,← e1]
        exact hj
    have hD3:Φ3 Dd=none:=g3.o _ _ hDl hDi
    refine ⟨_,Φ3,ρ1,_,E4,t1,fun b Φ4 H4 rb g4=>?_⟩
    have E5:=(E4.gr g4)
    have hDl4:=g4.h _ _ (g3.h _ _ hDl)
    have hD4:Φ4 Dd=none:=g4.o _ _ (g3.h _ _ hDl) hD3
    cases b with
    | false =>
      refine qnt ?_
      refine ⟨Φ4,vs,ys++[none],E5.weak hl1.symm wk,(gi.trans g3).trans g4,hD4,hDl4,?_,by rw [List.length_append,hyl];rfl,qgh hyl hy (rb.2 rfl)⟩
      rw [qjy]
      exact (hrl.same g3.f).same g4.f
    | true =>
      refine qm7 ?_
      refine ⟨_,Φ4,ρ1,_,E5,rb.1 rfl,fun d Φ5 H5 v rd g5 rv=>?_⟩
      have E6:=E5.gr g5
      have hDl5:=g5.h _ _ hDl4
      have hD5:Φ5 Dd=none:=g5.o _ _ hDl4 hD4
      have gg:=((gi.trans g3).trans g4).trans g5
      refine ⟨vs,hDl5,?_,Φ5,vs++[v],ys++[some d],(E6.weak hl1.symm wk).side qan hD5,?_,hD5,qan,?_,by rw [List.length_append,hyl];rfl,qgh hyl hy rd⟩
      · have:=qmV ys
        rw [hrl.1]
        omega
      · exact ⟨gg.f,qgo gg.h hD _,fun b u e=>by rw [qax (qaw e hD5)];exact gg.s b u e,fun p u hp hn k=>gg.o p u hp hn k⟩
      · rw [qk5]
        exact (((hrl.same g3.f).same g4.f).same g5.f).append (.one rv)
  · have e:i=ds.length:=by omega
    subst e
    exact .inl ⟨S.stop H' (gi.f.trans gi.s),kk _ Φ' H' Dd vs (hr ys hyl hy) (g1.trans gi) (g1.h.free hD) hDi hDl hrl⟩
theorem qfq {k:Nat} (hcap:qc0 k cap=true) (hk:GM k g) {σ:St} {H:Hp} {Q:VK} (h:lF K (qj9 ti cap g tc te) σ H Q):qeN (lI K ti) cap (lG K g) (lT K tc) (lE K te) σ H Q:=by
  obtain ⟨H0,Φ,ρ,R,E,t,kk⟩:=h
  exact qfb hcap hk E t (fun ds h=>h) kk
theorem qmA {k:Nat} (hcalm:X.calm=true) (S:CompScope X.N X.env.scope scope N' cap) (hcap:qc0 k cap=true) (hk:GM k g) (hi:PID K X tg iter ti)
    (hg:∀ (cl:List (Str × Addr)) (fp:List Addr) (C:Addr) (s0:Shared) (H0:Hp),PGD K (qaW X scope N' cl C s0 H0 fp) tg g) (ht:∀ (cl:List (Str × Addr)) (fp:List Addr) (C:Addr) (s0:Shared) (H0:Hp),PIfD K (qaW X scope N' cl C s0 H0 fp) ifs tc)
    (he:∀ (cl:List (Str × Addr)) (fp:List Addr) (C:Addr) (s0:Shared) (H0:Hp),PD K (qaW X scope N' cl C s0 H0 fp) elt te) (hs:∀ x,foldedSetIterable iter X.env x=pure x:=by intro _;rfl):PF K X (.ListComp elt [⟨tg,iter,ifs,0⟩] scope pos) (qj9 ti cap g tc te) :=
  ⟨fun hK=>(qhP hcalm S (hi.pi hK) (fun cl fp C s0 H0=>(hg cl fp C s0 H0).pg hK) (fun cl fp C s0 H0=>(ht cl fp C s0 H0).p hK) (fun cl fp C s0 H0=>(he cl fp C s0 H0).pe hK) hs).imp fun _ _ _=>qfq hcap hk⟩
def qgl (ti:TDL) (cap:List (Option Nat)) (g:TGD) (te:TD):TDL:=fun ρ R=>ti ρ fun ds=>ds.length<sizeLine∧∃ P:Nat→D→Prop,
  (∀ i d,ds[i]?=some d→g d (qfL cap ρ) fun ρ1=>te ρ1 (P i))∧∀ ys:List D,ys.length=ds.length→(∀ i y,ys[i]?=some y→P i y)→R ys
def qoJ (P:Nat→D→Prop):Nat→Option D→Prop:=fun i o=>match o with | some y=>P i y | none=>False
theorem qgH {P:Nat→D→Prop}:∀ (ys:List (Option D)),(∀ (i:Nat) y,ys[i]?=some y→∃ z,y=some z)→∃ zs:List D,ys=zs.map some
  | [],_=>⟨[],rfl⟩
  | y::ys,h=>by
    obtain ⟨z,rfl⟩:=h 0 y rfl
    obtain ⟨zs,rfl⟩:=qgH (P:=P) ys fun i y hy=>h (i+1) y hy
    exact ⟨z::zs,rfl⟩
theorem qg3 {ds:List D} {ρ:Rho} {R:List D→Prop} (h:ds.length<sizeLine∧∃ P:Nat→D→Prop,(∀ i d,ds[i]?=some d→g d (qfL cap ρ) fun ρ1=>te ρ1 (P i))∧∀ ys:List D,ys.length=ds.length→(∀ i y,ys[i]?=some y→P i y)→R ys) {k:Nat} (hk:GM k g) :
    ds.length<sizeLine∧∃ P:Nat→Option D→Prop,(∀ i d,ds[i]?=some d→g d (qfL cap ρ) fun ρ1=>qkt ρ1 fun b=>(b=true→te ρ1 fun y=>P i (some y))∧(b=false→P i none))∧∀ ys:List (Option D),ys.length=ds.length→(∀ i y,ys[i]?=some y→P i y)→R (ys.filterMap id):=by
  obtain ⟨h0,P,h1,h2⟩:=h
  refine ⟨h0,qoJ P,fun i d hd=>hk.m _ _ _ _ (fun ρ1 q=>⟨fun _=>q,fun e=>by cases e⟩) (h1 i d hd),fun ys hl hy=>?_⟩
  obtain ⟨zs,rfl⟩:=qgH (P:=P) ys fun i y e=>by
    have:=hy i y e
    cases y with
    | none=>exact this.elim
    | some z=>exact ⟨z,rfl⟩
  rw [List.filterMap_map]
  have e:zs.filterMap (id ∘ some)=zs:=by simp
  rw [e]
  refine h2 zs (by simpa using hl) fun i y e=>?_
  exact hy i (some y) (by rw [List.getElem?_map,e];rfl)
theorem qda {k:Nat} (hcap:qc0 k cap=true) (hk:GM k g) {σ:St} {H:Hp} {Q:VK} (h:lF K (qgl ti cap g te) σ H Q):qeN (lI K ti) cap (lG K g) (lT K qkt) (lE K te) σ H Q:=by
  obtain ⟨H0,Φ,ρ,R,E,t,kk⟩:=h
  exact qfb hcap hk E t (fun ds h=>qg3 h hk) kk
theorem qaT {k:Nat} (hcalm:X.calm=true) (S:CompScope X.N X.env.scope scope N' cap) (hcap:qc0 k cap=true) (hk:GM k g) (hi:PID K X tg iter ti)
    (hg:∀ (cl:List (Str × Addr)) (fp:List Addr) (C:Addr) (s0:Shared) (H0:Hp),PGD K (qaW X scope N' cl C s0 H0 fp) tg g)
    (he:∀ (cl:List (Str × Addr)) (fp:List Addr) (C:Addr) (s0:Shared) (H0:Hp),PD K (qaW X scope N' cl C s0 H0 fp) elt te) (hs:∀ x,foldedSetIterable iter X.env x=pure x:=by intro _;rfl):PF K X (.ListComp elt [⟨tg,iter,[],0⟩] scope pos) (qgl ti cap g te) :=
  ⟨fun hK=>(qhP hcalm S (hi.pi hK) (fun cl fp C s0 H0=>(hg cl fp C s0 H0).pg hK) (fun cl fp C s0 H0=>(qhx (K:=K)).p hK) (fun cl fp C s0 H0=>(he cl fp C s0 H0).pe hK) hs).imp fun _ _ _=>qda hcap hk⟩
end
structure EndsD where
  nx:Rho→Prop
  rt:D→Prop
  bk:Rho→Prop:=fun _=>False
  ct:Rho→Prop:=fun _=>False
abbrev TSD:=EndsD→Rho→Prop
def EnK (K:PySem.W.Frag) (Φ0 H0:Hp) (P:Rho→Prop) (Q:St→Hp→Prop):Prop:=∀ ρ' Φ' H' σ',P ρ'→Gr Φ0 H0 Φ' H'→EnvD K H0 Φ' H' σ' ρ'→Q σ' H'
structure EndOk (K:PySem.W.Frag) (Φ0 H0:Hp) (De:EndsD) (E:Ends):Prop where
  nx:EnK K Φ0 H0 De.nx E.nx
  rt:∀ d Φ' H' v,De.rt d→Gr Φ0 H0 Φ' H'→Rp K Φ' d v→E.rt v H'
  bk:EnK K Φ0 H0 De.bk E.bk
  ct:EnK K Φ0 H0 De.ct E.ct
def lS (K:PySem.W.Frag) (t:TSD):TS:=fun E σ H=>∃ Φ0 H0 Φ ρ De,Gr Φ0 H0 Φ H∧EnvD K H0 Φ H σ ρ∧t De ρ∧EndOk K Φ0 H0 De E
structure PSD (K:PySem.W.Frag) (X:Cx) (st:Stmt) (t:TSD):Prop where ps:X.K=K→PS X st (lS K t)
structure PSsD (K:PySem.W.Frag) (X:Cx) (st:List Stmt) (t:TSD):Prop where ps:X.K=K→PSs X st (lS K t)
section
variable {K : PySem.W.Frag} {X : Cx} {st : Stmt} {rest : List Stmt} {t u : TSD} {e a : Expr} {te : TD} {tf : TDL} {pos : Pos} {tt : TDB}
def qnG:TSD:=fun De ρ=>De.nx ρ
def qoh (t u:TSD):TSD:=fun De ρ=>t { De with nx:=u De } ρ
def qoO (t u:TSD):TSD:=fun De ρ=>∃ I:Rho→Prop,t { De with nx:=I } ρ∧∀ ρ',I ρ'→u De ρ'
theorem qbd:PSsD K X [] qnG:=⟨fun _=>pss_nil.imp fun E σ H hq0=>by obtain ⟨Φ0,H0,Φ,ρ,De,g,V,t,k⟩:=hq0;exact k.nx ρ Φ H σ t g V⟩
theorem qaj (h1:PSD K X st t) (h2:PSsD K X rest u):PSsD K X (st::rest) (qoh t u):=⟨fun hK=>(qcR (h1.ps hK) (h2.ps hK)).imp fun E σ H hq0=>by obtain ⟨Φ0,H0,Φ,ρ,De,g,V,t,k⟩:=hq0;exact
  ⟨Φ0,H0,Φ,ρ,_,g,V,t,⟨fun ρ' Φ' H' σ' t' g' V'=>⟨Φ0,H0,Φ',ρ',De,g',V',t',k⟩,k.rt,k.bk,k.ct⟩⟩⟩
theorem qbL (h1:PSD K X st t) (h2:PSsD K X rest u):PSsD K X (st::rest) (qoO t u):=⟨fun hK=>(qcR (h1.ps hK) (h2.ps hK)).imp fun E σ H hq0=>by obtain ⟨Φ0,H0,Φ,ρ,De,g,V,⟨I,t,c⟩,k⟩:=hq0;exact
  ⟨Φ0,H0,Φ,ρ,_,g,V,t,⟨fun ρ' Φ' H' σ' t' g' V'=>⟨Φ0,H0,Φ',ρ',De,g',V',c ρ' t',k⟩,k.rt,k.bk,k.ct⟩⟩⟩
theorem qas (h1:PSD K X st t):PSsD K X [st] t:=⟨fun hK=>qhM (h1.ps hK)⟩
def qoN (i:Nat) (t:TSD):TSD:=fun De ρ=>t De (frz i ρ)
theorem qg2 (i:Nat) (h:PSsD K X rest t):PSsD K X rest (qoN i t):=⟨fun hK=>(h.ps hK).imp fun E σ H hq0=>by
  obtain ⟨Φ0,H0,Φ,ρ,De,g,V,t,k⟩:=hq0
  obtain ⟨Φ',g',V'⟩:=V.frz g i
  exact ⟨Φ0,H0,Φ',L2.frz i ρ,De,g',V',t,k⟩⟩
def qlL:TSD:=fun _ _=>False
theorem qkU:PSD K X st qlL:=⟨fun _=>ps_never.imp fun E σ H hq0=>by obtain ⟨Φ0,H0,Φ,ρ,De,g,V,t,k⟩:=hq0;exact t⟩
def qlT (i:Nat) (te:TD):TSD:=fun De ρ=>te ρ fun d=>De.nx (ρ.set i (some (.v d)))
theorem qiM {i:Nat} {E:Ends} {σ:St} {H:Hp} (h:lS K (qlT i te) E σ H):qlm (lE K te) (qf0 i) E σ H:=by
  obtain ⟨Φ0,H0,Φ,ρ,De,g,V,t,k⟩:=h
  exact ⟨H0,Φ,ρ,_,V,t,fun d Φ1 H1 v r g1 rv=>k.nx _ Φ1 H1 _ r (g.trans g1) ((V.gr g1).set rv i)⟩
theorem qau {i:Nat} {x:Str} {pos':Pos} (hN:X.N.Nodup) (hi:X.N[i]?=some x) (hx:Loc X.env.scope x) (he:PD K X e te) (hs:swapsWith e (some (.Name x pos')) pos.line X.env=pure false:=by rfl) (hf:X.fn x=true∨X.env.scope.names.lookup x=some .local:=by first | exact .inl rfl | exact .inr rfl | assumption) :
    PSD K X (.Assign [.Name x pos'] e pos) (qlT i te):=⟨fun hK=>(qjU hN hi hx (he.pe hK) hs hf).imp fun _ _ _=>qiM⟩
def qmZ (i:Nat) (tf:TDL):TSD:=fun De ρ=>tf ρ fun ds=>De.nx (ρ.set i (some (.own ds)))
theorem qfx {i:Nat} {E:Ends} {σ:St} {H:Hp} (h:lS K (qmZ i tf) E σ H):lF K tf σ H fun v H'=>qf0 i v σ H' E.nx:=by
  obtain ⟨Φ0,H0,Φ,ρ,De,g,V,t,k⟩:=h
  refine ⟨H0,Φ,ρ,_,V,t,fun ds Φ1 H1 p vs r g1 hp hn hl rl=>k.nx _ Φ1 H1 _ r (g.trans g1) ((V.gr g1).setOwn rl (g.h.free hp) hn hl (fun j es hj z=>?_) i)⟩
  obtain ⟨q,ws,e,_,_,hq,_⟩:=V.ow j _ hj
  rw [e] at z
  cases z
  rw [hp] at hq
  cases hq
theorem qgQ {i:Nat} {x:Str} {pos':Pos} (hN:X.N.Nodup) (hi:X.N[i]?=some x) (hx:Loc X.env.scope x) (he:PF K X e tf) (hs:swapsWith e (some (.Name x pos')) pos.line X.env=pure false:=by rfl) (hf:X.fn x=true∨X.env.scope.names.lookup x=some .local:=by first | exact .inl rfl | exact .inr rfl | assumption) :
    PSD K X (.Assign [.Name x pos'] e pos) (qmZ i tf):=⟨fun hK=>(qjU hN hi hx (he.pe hK) hs hf).imp fun _ _ _ h=>qfx h⟩
def qn8 (te:TD):TSD:=fun De ρ=>te ρ De.rt
theorem qaM (he:PD K X e te):PSD K X (.Return (some e) pos) (qn8 te) :=
  ⟨fun hK=>(qlR (he.pe hK)).imp fun E σ H hq0=>by obtain ⟨Φ0,H0,Φ,ρ,De,g,V,t,k⟩:=hq0;exact ⟨H0,Φ,ρ,_,V,t,fun d Φ1 H1 v r g1 rv=>k.rt d Φ1 H1 v r (g.trans g1) rv⟩⟩
def sIf (c:TDB) (t u:TSD):TSD:=fun De ρ=>c ρ fun b=>(b=true→t De ρ)∧(b=false→u De ρ)
theorem qcp {c:Expr} {a b:List Stmt} (hc:PTD K X c tt) (ha:PSsD K X a t) (hb:PSsD K X b u):PSD K X (.If c a b pos) (sIf tt t u) :=
  ⟨fun hK=>(qnE (hc.pt hK) (ha.ps hK) (hb.ps hK)).imp fun E σ H hq0=>by obtain ⟨Φ0,H0,Φ,ρ,De,g,V,t,k⟩:=hq0;exact ⟨H0,Φ,ρ,_,V,t,fun c Φ1 H1 r g1=>by
    cases c with
    | true=>refine qm7 ?_;exact ⟨Φ0,H0,Φ1,ρ,De,g.trans g1,V.gr g1,r.1 rfl,k⟩
    | false=>refine qnt ?_;exact ⟨Φ0,H0,Φ1,ρ,De,g.trans g1,V.gr g1,r.2 rfl,k⟩⟩⟩
def qoD (te:TD) (g:TGD):TSD:=fun De ρ=>te ρ fun d=>g d ρ De.nx
theorem qih {tg:Expr} {gd:TGD} (he:PD K X e te) (hg:PGD K X tg gd) (hs:swapsWithSole [tg] e pos.line X.env=pure false:=by rfl) (hw:swappedStores [tg] e X.env=pure none:=by rfl)
    (h1:(assignEach [tg] X.env).map (·.2)=[assign tg X.env]:=by rfl):PSD K X (.Assign [tg] e pos) (qoD te gd) :=
  ⟨fun hK=>(qmz (he.pe hK) (hg.pg hK) hs hw h1).imp fun E σ H hq0=>by obtain ⟨Φ0,H0,Φ,ρ,De,g,V,t,k⟩:=hq0;exact ⟨H0,Φ,ρ,_,V,t,fun d Φ1 H1 v r g1 rv=>⟨H0,Φ1,ρ,d,_,V.gr g1,rv,r,fun ρ' σ' r' V'=>k.nx ρ' Φ1 H1 σ' r' (g.trans g1) V'⟩⟩⟩
def qmN (c:TDB) (tb:TSD):TSD:=fun De ρ=>∃ I:Nat→Rho→Prop,(∃ m,I m ρ)∧∀ m ρ',I m ρ'→c ρ' fun b=>(b=true→tb { De with nx:=fun ρ2=>∃ m',m'<m∧I m' ρ2,ct:=fun ρ2=>∃ m',m'<m∧I m' ρ2,bk:=De.nx } ρ')∧(b=false→De.nx ρ')
theorem qeT {c:Expr} {body:List Stmt} {tb:TSD} (hp:PassesOwn (model X.prog X.w) X.A X.env X.xe) (hc:PTD K X c tt) (hb:PSsD K X body tb):PSD K X (.While c body [] pos) (qmN tt tb) :=
  ⟨fun hK=>(qi4 hp (hc.pt hK) (hb.ps hK)).imp fun E σ H hq0=>by
    obtain ⟨Φ0,H0,Φ,ρ,De,g,V,⟨I,⟨m,h0⟩,hw⟩,k⟩:=hq0
    refine ⟨fun m σ H=>∃ Φ' ρ',Gr Φ0 H0 Φ' H∧EnvD K H0 Φ' H σ ρ'∧I m ρ',⟨m,Φ,ρ,g,V,h0⟩,?_⟩
    rintro m σ' H' ⟨Φ',ρ',g',V',hi⟩
    refine ⟨H0,Φ',ρ',_,V',hw m ρ' hi,fun b Φ1 H1 r g1=>?_⟩
    cases b with
    | false=>refine qnt ?_;exact k.nx ρ' Φ1 H1 σ' (r.2 rfl) (g'.trans g1) (V'.gr g1)
    | true =>
      refine qm7 ?_
      refine ⟨fun σ2 H2=>∃ m',m'<m∧∃ Φ' ρ',Gr Φ0 H0 Φ' H2∧EnvD K H0 Φ' H2 σ2 ρ'∧I m' ρ',fun σ2 H2 h=>h,Φ0,H0,Φ1,ρ',_,g'.trans g1,V'.gr g1,r.1 rfl,⟨?_,k.rt,k.nx,?_⟩⟩
      · rintro ρ2 Φ2 H2 σ2 ⟨m',hm,hi'⟩ g2 V2
        exact ⟨m',hm,Φ2,ρ2,g2,V2,hi'⟩
      · rintro ρ2 Φ2 H2 σ2 ⟨m',hm,hi'⟩ g2 V2
        exact ⟨m',hm,Φ2,ρ2,g2,V2,hi'⟩⟩
def qn9 (ti:TDL) (gd:TGD) (tb:TSD):TSD:=fun De ρ=>ti ρ fun ds=>∃ I:Nat→Rho→Prop,I 0 ρ∧(∀ i d ρ',ds[i]?=some d→I i ρ'→gd d ρ' fun ρ2=>tb { De with nx:=I (i+1),ct:=I (i+1),bk:=De.nx } ρ2)∧∀ ρ',I ds.length ρ'→De.nx ρ'
theorem qcF {tg iter:Expr} {body:List Stmt} {ti:TDL} {gd:TGD} {tb:TSD} (hp:PassesOwn (model X.prog X.w) X.A X.env X.xe) (hc:X.calm=true) (hi:PID K X tg iter ti) (hg:PGD K X tg gd) (hb:PSsD K X body tb)
    (hs:∀ x,foldedSetIterable iter X.env x=pure x:=by intro _;rfl):PSD K X (.For tg iter body [] pos) (qn9 ti gd tb) :=
  ⟨fun hK=>(qly hp hc (hi.pi hK) (hg.pg hK) (hb.ps hK) hs).imp fun E σ H hq0=>by
    obtain ⟨Φ0,H0,Φ,ρ,De,g,V,t,k⟩:=hq0
    refine ⟨H0,Φ,ρ,_,V,t,fun ds Φ1 H1 J hq1 g1 S=>?_⟩
    obtain ⟨I,h0,hst,hend⟩:=hq1
    refine ⟨fun i m σ H'=>m=ds.length - i∧i≤ds.length∧∃ Φ' ρ',Gr Φ0 H0 Φ' H'∧Same Φ1 Φ'∧EnvD K H0 Φ' H' σ ρ'∧I i ρ',⟨ds.length,by simp,Nat.zero_le _,Φ1,ρ,g.trans g1,Same.refl _,V.gr g1,h0⟩,?_⟩
    rintro i m σ' H' ⟨rfl,hi,Φ',ρ',g',s',V',hI⟩
    by_cases hlt:i<ds.length
    · refine .inr ⟨S.go i H' (s'.trans V'.fz) hlt,fun σ2 H2=>∃ Φ' ρ',Gr Φ0 H0 Φ' H2∧Same Φ1 Φ'∧EnvD K H0 Φ' H2 σ2 ρ'∧I (i+1) ρ',fun σ2 H2 h2=>⟨ds.length - (i+1),by omega,rfl,hlt,h2⟩,fun x H2 y=>?_⟩
      obtain ⟨Φ3,g3,rx⟩:=S.yl i Φ' H' x H2 _ s' V'.fz (qaA hlt) y
      refine ⟨H0,Φ3,ρ',_,_,V'.gr g3,rx,hst i _ ρ' (qaA hlt) hI,fun ρ2 σ3 t2 V3=>?_⟩
      refine ⟨Φ3,H0,Φ3,ρ2,_,?_,V3,t2,⟨?_,?_,?_,?_⟩⟩
      · exact ⟨Same.refl _,(g'.trans g3).h,g3.s,fun p u hp hn _=>hn⟩
      · intro ρ4 Φ4 H4 σ4 t4 g4 V4
        exact ⟨Φ4,ρ4,(g'.trans g3).join g4,(s'.trans g3.f).trans g4.f,V4,t4⟩
      · intro d Φ4 H4 v r g4 rv
        exact k.rt d Φ4 H4 v r ((g'.trans g3).join g4) rv
      · intro ρ4 Φ4 H4 σ4 t4 g4 V4
        exact k.nx ρ4 Φ4 H4 σ4 t4 ((g'.trans g3).join g4) V4
      · intro ρ4 Φ4 H4 σ4 t4 g4 V4
        exact ⟨Φ4,ρ4,(g'.trans g3).join g4,(s'.trans g3.f).trans g4.f,V4,t4⟩
    · have e:i=ds.length:=by omega
      subst e
      exact .inl ⟨S.stop H' (s'.trans V'.fz),k.nx ρ' Φ' H' σ' (hend ρ' hI) g' V'⟩⟩
end
section
variable {K : PySem.W.Frag} {X : Cx} {tg iter elt e a : Expr} {ifs : List Expr} {scope : Scope} {pos py spos : Pos} {N' : List Str} {cap : List (Option Nat)} {ti : TDL} {g : TGD} {tc : TDB} {te ta tb : TD} {i : Nat} {y : Str}
theorem qdi {tf:TDL} {E:Ends} {σ:St} {H:Hp} (lift:∀ {σ:St} {H:Hp} {Q:VK},lF K tf σ H Q→qeN (lI K ti) cap (lG K g) (lT K tc) (lE K te) σ H Q) (h:lS K (qlT i (qm1 tf)) E σ H):qlm (qeN (lI K ti) cap (lG K g) (lT K tc) (lE K te)) (qf0 i) E σ H:=by
  obtain ⟨Φ0,H0,Φ,ρ,De,gg,V,t,kk⟩:=h
  exact lift ⟨H0,Φ,ρ,_,V,t,fun ds Φ' H' p vs r g1 h0 hn hp rr=>kk.nx _ _ H' _ r (gg.trans (g1.freeze h0 hn hp)) ((V.gr (g1.freeze h0 hn hp)).set ((rr.same (qaJ hn _)).lst qan) i)⟩
theorem qdO {k:Nat} (hcalm:X.calm=true) (hN:X.N.Nodup) (hy:X.N[i]?=some y) (hx:Loc X.env.scope y) (S:CompScope X.N X.env.scope scope N' cap) (hcap:qc0 k cap=true) (hk:GM k g) (hi:PID K X tg iter ti)
    (hg:∀ (cl:List (Str × Addr)) (fp:List Addr) (C:Addr) (s0:Shared) (H0:Hp),PGD K (qaW X scope N' cl C s0 H0 fp) tg g)
    (he:∀ (cl:List (Str × Addr)) (fp:List Addr) (C:Addr) (s0:Shared) (H0:Hp),PD K (qaW X scope N' cl C s0 H0 fp) elt te) (hsw:swapsWith (.ListComp elt [⟨tg,iter,[],0⟩] scope pos) (some (.Name y py)) spos.line X.env=pure true:=by rfl)
    (hs:∀ x,foldedSetIterable iter X.env x=pure x:=by intro _;rfl) (hf:X.fn y=true∨X.env.scope.names.lookup y=some .local:=by first | exact .inl rfl | exact .inr rfl | assumption) :
    PSD K X (.Assign [.Name y py] (.ListComp elt [⟨tg,iter,[],0⟩] scope pos) spos) (qlT i (qm1 (qgl ti cap g te))) :=
  ⟨fun hK=>(qgf hcalm hN hy hx S (hi.pi hK) (fun cl fp C s0 H0=>(hg cl fp C s0 H0).pg hK) (fun cl fp C s0 H0=>(qhx (K:=K)).p hK) (fun cl fp C s0 H0=>(he cl fp C s0 H0).pe hK) hsw hs hf).imp fun _ _ _ h=>qdi (fun q=>qda hcap hk q) h⟩
theorem qmb {k:Nat} (hcalm:X.calm=true) (hN:X.N.Nodup) (hy:X.N[i]?=some y) (hx:Loc X.env.scope y) (S:CompScope X.N X.env.scope scope N' cap) (hcap:qc0 k cap=true) (hk:GM k g) (hi:PID K X tg iter ti)
    (hg:∀ (cl:List (Str × Addr)) (fp:List Addr) (C:Addr) (s0:Shared) (H0:Hp),PGD K (qaW X scope N' cl C s0 H0 fp) tg g) (ht:∀ (cl:List (Str × Addr)) (fp:List Addr) (C:Addr) (s0:Shared) (H0:Hp),PIfD K (qaW X scope N' cl C s0 H0 fp) ifs tc)
    (he:∀ (cl:List (Str × Addr)) (fp:List Addr) (C:Addr) (s0:Shared) (H0:Hp),PD K (qaW X scope N' cl C s0 H0 fp) elt te) (hsw:swapsWith (.ListComp elt [⟨tg,iter,ifs,0⟩] scope pos) (some (.Name y py)) spos.line X.env=pure true:=by rfl)
    (hs:∀ x,foldedSetIterable iter X.env x=pure x:=by intro _;rfl) (hf:X.fn y=true∨X.env.scope.names.lookup y=some .local:=by first | exact .inl rfl | exact .inr rfl | assumption) :
    PSD K X (.Assign [.Name y py] (.ListComp elt [⟨tg,iter,ifs,0⟩] scope pos) spos) (qlT i (qm1 (qj9 ti cap g tc te))) :=
  ⟨fun hK=>(qgf hcalm hN hy hx S (hi.pi hK) (fun cl fp C s0 H0=>(hg cl fp C s0 H0).pg hK) (fun cl fp C s0 H0=>(ht cl fp C s0 H0).p hK) (fun cl fp C s0 H0=>(he cl fp C s0 H0).pe hK) hsw hs hf).imp fun _ _ _ h=>qdi (fun q=>qfq hcap hk q) h⟩
theorem qfp {tf:TDL} {E:Ends} {σ:St} {H:Hp} (lift:∀ {σ:St} {H:Hp} {Q:VK},lF K tf σ H Q→qeN (lI K ti) cap (lG K g) (lT K tc) (lE K te) σ H Q) (h:lS K (qmZ i tf) E σ H):qlm (qeN (lI K ti) cap (lG K g) (lT K tc) (lE K te)) (qf0 i) E σ H:=lift (qfx h)
theorem qjt {k:Nat} (hcalm:X.calm=true) (hN:X.N.Nodup) (hy:X.N[i]?=some y) (hx:Loc X.env.scope y) (S:CompScope X.N X.env.scope scope N' cap) (hcap:qc0 k cap=true) (hk:GM k g) (hi:PID K X tg iter ti)
    (hg:∀ (cl:List (Str × Addr)) (fp:List Addr) (C:Addr) (s0:Shared) (H0:Hp),PGD K (qaW X scope N' cl C s0 H0 fp) tg g)
    (he:∀ (cl:List (Str × Addr)) (fp:List Addr) (C:Addr) (s0:Shared) (H0:Hp),PD K (qaW X scope N' cl C s0 H0 fp) elt te) (hsw:swapsWith (.ListComp elt [⟨tg,iter,[],0⟩] scope pos) (some (.Name y py)) spos.line X.env=pure true:=by rfl)
    (hs:∀ x,foldedSetIterable iter X.env x=pure x:=by intro _;rfl) (hf:X.fn y=true∨X.env.scope.names.lookup y=some .local:=by first | exact .inl rfl | exact .inr rfl | assumption) :
    PSD K X (.Assign [.Name y py] (.ListComp elt [⟨tg,iter,[],0⟩] scope pos) spos) (qmZ i (qgl ti cap g te)) :=
  ⟨fun hK=>(qgf hcalm hN hy hx S (hi.pi hK) (fun cl fp C s0 H0=>(hg cl fp C s0 H0).pg hK) (fun cl fp C s0 H0=>(qhx (K:=K)).p hK) (fun cl fp C s0 H0=>(he cl fp C s0 H0).pe hK) hsw hs hf).imp fun _ _ _ h=>qfp (fun q=>qda hcap hk q) h⟩
theorem qlY {Φ0 H0 Φ H:Hp} {p:Addr} {o:HO} (g:Gr Φ0 H0 Φ H) (h0:H0 p=none) (hn:Φ p=none):Gr Φ0 H0 Φ (upd H p o) :=
  ⟨g.f,qgo g.h h0 _,fun b u e=>by rw [qax (qaw e hn)];exact g.s b u e,fun p u hp hn k=>g.o p u hp hn k⟩
def qhN (i:Nat) (te:TD):TSD:=fun De ρ=>match ρ[i]? with | some (some (.ob (.lst ds)))=>te ρ fun d=>ds.length<sizeLine∧NF (ds++[d]) fun es=>De.nx (ρ.set i (some (.own es))) | _=>False
theorem qbz {apos cpos npos:Pos} {x:Str} (i:Nat) (he:PD K X e te) (hfew:((backTo cpos (starEach [e] X.env)).all (fun x=>!x.1) && (backToKw cpos (keywordEach [] X.env)).all (fun x=>x.1.isSome) && decide (([e]:List Expr).length+([]:List Keyword).length+(if ([]:List Keyword).isEmpty then 0 else 1)<30))=true)
    (hse:starEach [e] X.env=(false,eval e X.env)::starEach [] X.env) (hN:X.N[i]?=some x:=by rfl) (hv:Vis X.env.scope x:=by first | exact Or.inl rfl | exact Or.inr (Or.inl rfl) | exact Or.inr (Or.inr rfl)) (hd:(x == ("__debug__":Str))=false:=by decide) (hcd:(x == ("__classdict__":Str))=false:=by decide)
    (hbase:attributeBase (.Name x npos) "append" X.env (eval (.Name x npos) X.env)=eval (.Name x npos) X.env:=by rfl) (hline:(apos.endLine == cpos.line)=true:=by rfl) (hs:swapsWith (.Call (.Attribute (.Name x npos) "append" apos) [e] [] cpos) none pos.line X.env=pure false:=by rfl) :
    PSD K X (.Expr (.Call (.Attribute (.Name x npos) "append" apos) [e] [] cpos) pos) (qhN i te) :=
  ⟨fun hK=>(qks (qnl PySem.F.plainAttrs_list PySem.F.slot_list_append PySem.F.type_list_append qfd (pv i hN hv hd hcd) (qb7 (he.pe hK) pa_nil hse) hbase hfew hline hse qaf) hs).imp fun E σ H hq0=>by
    obtain ⟨Φ0,H0,Φ,ρ,De,g,V,t,k⟩:=hq0
    unfold qhN at t
    split at t
    · next ds ho =>
      obtain ⟨p,vs,e1,h0,hn,hp,rl⟩:=V.owl i ds ho
      refine ⟨_,e1,.inl ⟨rfl,vs,SqL.of hp⟩,H0,Φ,ρ,_,V,t,fun d Φ1 H1 v r g1 rv=>?_⟩
      have hp1:=g1.h _ _ hp
      have hn1:=g1.o _ _ hp hn
      refine ⟨p,vs,v,rfl,rfl,hp1,by rw [rl.1];exact r.1,k.nx _ Φ1 _ σ r.2.get (qlY (g.trans g1) h0 hn1) ((V.gr g1).put ho e1 ((rl.same g1.f).append (.one rv)))⟩
    · exact t.elim⟩
end
def qde (N:List Str) (ds:List D):Rho:=ds.map (fun d=>some (.v d))++List.replicate (N.length - ds.length) none
theorem qfa {K:PySem.W.Frag} {Φ H:Hp} {N:List Str} {ds:List D} {vs:List V} (sm:Same Φ H) (tb:TabF K Φ) (r:RpL K Φ ds vs):EnvD K H Φ H (start N vs) (qde N ds):=by
  have own:∀ {i:Nat} {x:Sl},(qde N ds)[i]?=some (some x)→∃ d,ds[i]?=some d∧x=.v d:=fun {i x} h=>by
    unfold qde at h
    rcases Nat.lt_or_ge i (ds.map fun d=>some (Sl.v d)).length with c | c
    · rw [List.getElem?_append_left c,List.getElem?_map] at h
      cases e:ds[i]? with
      | none=>rw [e] at h;cases h
      | some d=>rw [e] at h;cases h;exact ⟨d,rfl,rfl⟩
    · rw [List.getElem?_append_right c,List.getElem?_replicate] at h
      split at h
      · cases h
      · cases h
  refine ⟨sm,by unfold start qde;simp [r.1],fun i d h=>?_,fun i es h=>?_,fun i j es fs p h=>?_,tb⟩
  · obtain ⟨d',h1,h2⟩:=own h
    cases h2
    obtain ⟨v,hv,rv⟩:=r.at h1
    refine ⟨v,?_,rv⟩
    unfold start
    rw [List.getElem?_append_left (by rw [List.length_map];exact qaF hv),List.getElem?_map,hv]
    rfl
  · obtain ⟨d',h1,h2⟩:=own h
    cases h2
  · obtain ⟨d',h1,h2⟩:=own h
    cases h2
section
variable {P : Program} {w : World} {K : PySem.W.Frag} {mg : Str → Option Value} {base : Heap}
theorem Fun.okD {x qual:Str} {st:Stmt} {f:Addr} {fd:FuncData} {N ps:List Str} {k:Nat} {sp:SpD} (F:Fun K x qual st f fd) (S:FnScope N ps (qag st)) (len:∀ ds R,sp ds R→ds.length=ps.length)
    (hbody:∀ (cdv:Value) (A:Around) (outer:List Env) (s:Shared) (H:Hp) (E:XK) (ds:List D) (R:D→Prop),Room k (A.deeper (envOfC qual (qag st) s.heap.objs.size f cdv))→sp ds R →
      ∃ t,PSsD K (qjr CX0 P w K mg base N qual (qag st) f cdv A outer s H E).nox (qbf st) t∧t { nx:=fun _=>R .non,rt:=R } (qde N ds)):FnOk P w K mg base CX0 (k+1) f fd ps (lSp K sp):=by
  refine F.ok S (fun vs H Q E ⟨Φ,ds,R,sm,tb,rl,h,_⟩=>by rw [rl.1];exact len ds R h) (fun cdv A outer s H vs Q E hr ⟨Φ,ds,R,sm,tb,rl,h,kk⟩=>?_)
  obtain ⟨t,ht,hq⟩:=hbody cdv A outer s H E ds R hr h
  exact ⟨lS K t,ht.ps rfl,Φ,H,Φ,qde N ds,_,.refl sm,qfa sm tb rl,hq,⟨fun ρ' Φ' H' σ' r g V=>kk .non Φ' H' .non r g .non,kk,fun _ _ _ _ h=>h.elim,fun _ _ _ _ h=>h.elim⟩⟩
end
def Itb (K:PySem.W.Frag) (b:Bool) (a:Addr):It:=match b with | true=>Itl K a | false=>Itt K a
section
variable {K : PySem.W.Frag} {X : Cx} {tg e a b : Expr} {es : List Expr} {pos p tp : Pos} {t ta tb : TD} {tl : TDL}
theorem qlp {l:Expr} {tl:TE} (hK:X.K=K) (hl:PE X l tl):PI X tg l (fun σ H R=>tl σ H fun x H1=>∃ q a,x=.ref a∧(∃ xs,SqB K q H1 a xs)∧R (Itb K q a) H1):=by
  subst hK
  intro pins s σ H R I h
  refine thn (hl pins s σ H _ I h) fun v s1 hq0=>?_
  obtain ⟨x,H1,I1,r1,q1⟩:=hq0
  obtain ⟨bb,a,e,⟨xs,hq⟩,q⟩:=q1
  subst e
  cases r1
  have fp:∀ b∈[s1.heap.objs.size],FpOk X pins H1 b:=fun b hb=>by
    have e:b=s1.heap.objs.size:=by simpa using hb
    subst e
    exact I1.fpOk (Nat.le_refl _) (I1.hok.fresh (Nat.le_refl _))
  cases bb with
  | true =>
    obtain ⟨its,rv,p,hz⟩:=I1.list hq
    refine wpAny_pyIter_list p.isList ?_
    exact ⟨s1.heap.objs.size,[s1.heap.objs.size],_,_,H1,rfl,I1.kept (t':=s1.toks) fun b o e=>Heap.get?_push_of_some _ e,qhS a _,⟨_,Heap.get?_push_size _ rfl,rfl,rfl⟩,fp,q⟩
  | false =>
    obtain ⟨its,rv,p,hz⟩:=I1.tuple hq
    refine wpAny_pyIter_tuple (show s1.heap.IsTuple a its.toArray from p) ?_
    exact ⟨s1.heap.objs.size,[s1.heap.objs.size],_,_,H1,rfl,I1.kept (t':=s1.toks) fun b o e=>Heap.get?_push_of_some _ e,qgP a _,⟨_,Heap.get?_push_size _ rfl,rfl,rfl⟩,fp,q⟩
theorem qfT {Φ:Hp} {ds:List D} {vs:List V} {a:Addr} {q:Bool} (h:SqB K q Φ a vs) (r:RpL K Φ ds vs):SteadyD K (Itb K q a) Φ ds:=by
  cases q with
  | true=>exact qfj h r
  | false=>exact qf4 h r
def qop (t:TD):TDL:=fun ρ R=>t ρ fun d=>match d with | .lst ds=>R ds | .tup ds=>R ds | .fzl ds=>R ds | _=>False
theorem qkq {d:D} {R:List D→Prop} (h:match d with | .lst ds=>R ds | .tup ds=>R ds | .fzl ds=>R ds | _=>False):∃ ds,qiu d=some ds∧R ds:=by
  cases d with
  | lst ds=>exact ⟨ds,rfl,h⟩
  | tup ds=>exact ⟨ds,rfl,h⟩
  | fzl ds=>exact ⟨ds,rfl,h⟩
  | _=>exact h.elim
theorem qbI (h:PD K X e t):PID K X tg e (qop t):=⟨fun hK=>(qlp hK (h.pe hK)).imp fun σ H R' hq0=>by obtain ⟨H0,Φ,ρ,R,E,t,k⟩:=hq0;exact ⟨H0,Φ,ρ,_,E,t,fun d Φ1 H1 v r g rv=>by
  obtain ⟨ds,e1,r⟩:=qkq r
  obtain ⟨q,a,vs,rfl,h1,h2⟩:=rv.seq e1
  exact ⟨q,a,rfl,⟨vs,SqB.same g.s h1⟩,k _ Φ1 H1 _ r g (qfT h1 h2)⟩⟩⟩
theorem qiL {a:Expr} {ta:TA} {es:List Expr} {k:Nat} (hK:X.K=K) (hg:Gl X "enumerate") (hm:X.mg "enumerate"=none) (ha:PA X [a] ta) (hs:starEach [a] X.env=[(false,eval a X.env)]) :
    PI X (.Tuple es k tp) (.Call (.Name "enumerate" p) [a] [] pos) (fun σ H R=>ta σ H fun vs H1=>∃ b a xs,vs=[.ref a]∧SqB K b H1 a xs∧R (Ite K b a) H1):=by
  subst hK
  intro pins s σ H R I h
  refine Call_ (qdj I hg hm boot_enumerate (PyProof.Rows.callWith_type1 (thn (ha pos pins s σ H _ I h) fun us s1 hq0=>?_) hs rfl))
  obtain ⟨vs,H1,I1,r1,q1⟩:=hq0
  obtain ⟨b,l,xs,e,hq,q⟩:=q1
  subst e
  cases r1 with
  | cons r rr =>
    cases rr
    cases r
    obtain ⟨its,rv,p,hz⟩:=I1.sqb hq
    refine qhK p fun h' he hi hsz hk=>wpAny_pyIter_enum he ?_
    have I2:Inv X pins σ H1 { s1 with heap:=h' }:=I1.kept (t':=s1.toks) hk
    have fr:∀ c,s1.heap.objs.size≤c→FpOk X pins H1 c:=fun c hc=>I1.fpOk hc (I1.hok.fresh hc)
    exact ⟨s1.heap.objs.size+1,[s1.heap.objs.size+1,s1.heap.objs.size],_,_,H1,rfl,I2,qh9 b l _ _ (Nat.succ_ne_self _),⟨⟨_,he⟩,hi⟩,fun c hc=>by
      rcases List.mem_cons.mp hc with rfl | hc
      · exact fr _ (Nat.le_succ _)
      · rw [List.mem_singleton.mp hc];exact fr _ (Nat.le_refl _),q⟩
theorem qkT {a b:Expr} {ta:TA} {es:List Expr} {k:Nat} (hK:X.K=K) (hg:Gl X "zip") (hm:X.mg "zip"=none) (ha:PA X [a,b] ta) (hs:starEach [a,b] X.env=[(false,eval a X.env),(false,eval b X.env)]) (hs2:starEach [b] X.env=[(false,eval b X.env)]) :
    PI X (.Tuple es k tp) (.Call (.Name "zip" p) [a,b] [] pos) (fun σ H R=>ta σ H fun vs H1=>∃ b1 b2 a1 a2 xs ys,vs=[.ref a1,.ref a2]∧SqB K b1 H1 a1 xs∧SqB K b2 H1 a2 ys∧R (Itz K b1 a1 b2 a2) H1):=by
  subst hK
  intro pins s σ H R I h
  refine Call_ (qdj I hg hm boot_zip (PyProof.Rows.callWith_type1 (thn (ha pos pins s σ H _ I h) fun us s1 ⟨vs,H1,I1,r1,q1⟩=>?_) (by rw [hs,hs2]) (by rw [hs2];rfl)))
  obtain ⟨b1,b2,l1,l2,xs,ys,e,hq1,hq2,q⟩:=q1
  subst e
  cases r1 with
  | cons r rr =>
    cases rr with
    | cons r' rr =>
      cases rr
      cases r
      cases r'
      obtain ⟨its1,rv1,p1,_⟩:=I1.sqb hq1
      obtain ⟨its2,rv2,p2,_⟩:=I1.sqb hq2
      refine qi7 p1 p2 fun h' z1 z2 z3 z4 z5 hk=>wpAny_pyIter_zip z1 ?_
      have I2:Inv X pins σ H1 { s1 with heap:=h' }:=I1.kept (t':=s1.toks) hk
      have fr:∀ c,s1.heap.objs.size≤c→FpOk X pins H1 c:=fun c hc=>I1.fpOk hc (I1.hok.fresh hc)
      generalize s1.heap.objs.size=n at *
      refine ⟨n+4,[n+4,n+2,n+3,n,n+1],_,_,H1,rfl,I2,qi9 b1 b2 l1 l2 (n+4) (n+2) (n+3) n (n+1) (zap n),⟨z1,z2,⟨_,_,z3⟩,z4,z5⟩,fun c hc=>fr c ?_,q⟩
      simp only [List.mem_cons,List.not_mem_nil,or_false] at hc
      rcases hc with rfl | rfl | rfl | rfl | rfl
      · exact Nat.le_add_right _ _
      · exact Nat.le_add_right _ _
      · exact Nat.le_add_right _ _
      · exact Nat.le_refl _
      · exact Nat.le_add_right _ _
def qlw (t:TDL):TDL:=fun ρ R=>t ρ fun ds=>match ds with | [.lst xs]=>R (qeX xs) | [.tup xs]=>R (qeX xs) | [.fzl xs]=>R (qeX xs) | _=>False
theorem qhj {ets:List Expr} {ek:Nat} (hg:Gl X "enumerate") (hm:X.mg "enumerate"=none) (ha:PAD K X [a] tl) (hs:starEach [a] X.env=[(false,eval a X.env)]:=by rfl):PID K X (.Tuple ets ek tp) (.Call (.Name "enumerate" p) [a] [] pos) (qlw tl) :=
  ⟨fun hK=>(qiL hK hg hm (ha.pa hK) hs).imp fun σ H R' hq0=>by obtain ⟨H0,Φ,ρ,R,E,t,k⟩:=hq0;exact ⟨H0,Φ,ρ,_,E,t,fun ds Φ1 H1 vs r g rv _=>by
    have fin:∀ {d:D} {xs:List D},RpL K Φ1 [d] vs→qiu d=some xs→R (qeX xs)→∃ b a xs,vs=[.ref a]∧SqB K b H1 a xs∧R' (Ite K b a) H1:=fun {d xs} rv hx r=>by
      obtain ⟨v,rfl,r1⟩:=rv.one_inv
      obtain ⟨q,a,ws,rfl,h1,h2⟩:=r1.seq hx
      exact ⟨q,a,ws,rfl,SqB.same g.s h1,k _ Φ1 H1 _ r g (qe5 h1 h2)⟩
    match ds,r with
    | [.lst xs],r=>exact fin rv rfl r
    | [.tup xs],r=>exact fin rv rfl r
    | [.fzl xs],r=>exact fin rv rfl r⟩⟩
def qnq (t:TDL):TDL:=fun ρ R=>t ρ fun ds=>match ds with | [d,e]=>∃ xs ys,qiu d=some xs∧qiu e=some ys∧R (qh4 xs ys) | _=>False
theorem qek {ets:List Expr} {ek:Nat} (hg:Gl X "zip") (hm:X.mg "zip"=none) (ha:PAD K X [a,b] tl) (hs:starEach [a,b] X.env=[(false,eval a X.env),(false,eval b X.env)]:=by rfl) (hs2:starEach [b] X.env=[(false,eval b X.env)]:=by rfl):PID K X (.Tuple ets ek tp) (.Call (.Name "zip" p) [a,b] [] pos) (qnq tl) :=
  ⟨fun hK=>(qkT hK hg hm (ha.pa hK) hs hs2).imp fun σ H R' hq0=>by obtain ⟨H0,Φ,ρ,R,E,t,k⟩:=hq0;exact ⟨H0,Φ,ρ,_,E,t,fun ds Φ1 H1 vs r g rv _=>by
    match ds,r with
    | [d,e],⟨xs,ys,hx,hy,r⟩ =>
      obtain ⟨v,w,rfl,r1,r2⟩:=rv.two_inv
      obtain ⟨q1,a1,ws,rfl,h1,h2⟩:=r1.seq hx
      obtain ⟨q2,a2,us,rfl,h3,h4⟩:=r2.seq hy
      exact ⟨q1,q2,a1,a2,ws,us,rfl,SqB.same g.s h1,SqB.same g.s h3,k _ Φ1 H1 _ r g (qf1 h1 h3 h2 h4)⟩⟩⟩
variable {gs : qg0}
def qlG (n:Nat) (t:qg0):TGD:=fun d ρ R=>match d with | .tup ds=>ds.length=n∧t ds ρ R | .lst ds=>ds.length=n∧t ds ρ R | _=>False
theorem PG.or {tg:Expr} {t t':TG} (h:PG X tg t) (h':PG X tg t'):PG X tg (fun v σ H Q=>t v σ H Q∨t' v σ H Q):=by
  intro pins s σ H v u Q I r hw
  rcases hw with hw | hw
  · exact h pins s σ H v u Q I r hw
  · exact h' pins s σ H v u Q I r hw
theorem qcs {k n:Nat} (hc:X.calm=true) (h:PGDs K X es gs) (hn:(assignEach es X.env).length=n:=by rfl) (hst:(assignEach es X.env).findIdx? (·.1)=none:=by rfl):PGD K X (.Tuple es k pos) (qlG n gs) :=
  ⟨fun hK=>((qi2 hK hc (h.pg hK) hn hst).or (qjj hK hc (h.pg hK) hn hst)).imp fun v σ H Q hq0=>by
    obtain ⟨H0,Φ,ρ,d,R,E,r,g,k⟩:=hq0
    cases d with
    | tup ds=>cases r with | tup h1 h2 h3=>exact .inl ⟨_,_,rfl,E.fz.sqt h1,by rw [h2];exact g.1,H0,Φ,ρ,ds,R,E,⟨h2,h3⟩,g.2,k⟩
    | lst ds=>cases r with | lst h1 h2 h3=>exact .inr ⟨_,_,rfl,.of (E.fz _ _ h1),by rw [h2];exact g.1,H0,Φ,ρ,ds,R,E,⟨h2,h3⟩,g.2,k⟩
    | _=>exact g.elim⟩
theorem qcy {k n:Nat} {t:qg0} (h:GMs k t):GM k (qlG n t):=⟨⟨fun d ρ R r=>by
  cases d with
  | tup ds=>exact ⟨r.1,h.k.p ds ρ R r.2⟩
  | lst ds=>exact ⟨r.1,h.k.p ds ρ R r.2⟩
  | _=>exact r⟩,fun d ρ R R' hr r=>by
  cases d with
  | tup ds=>exact ⟨r.1,h.m ds ρ R R' hr r.2⟩
  | lst ds=>exact ⟨r.1,h.m ds ρ R R' hr r.2⟩
  | _=>exact r⟩
theorem ql2 {Φ H:Hp} {d:D} {v:V} {T:String} {r:Bool} (s:Same Φ H) (h:RpQ K Φ H d v) (e:qlq d T=some r):IsiV K H v T r:=by
  have sp:∀ {c:Prop} [Decidable c] {x:Bool} {y:Option Bool},(if c then some x else y)=some r→(c∧x=r)∨y=some r:=fun {c _ x y} h=>by
    by_cases hc:c
    · rw [if_pos hc] at h;cases h;exact .inl ⟨hc,rfl⟩
    · rw [if_neg hc] at h;exact .inr h
  cases d with
  | int i =>
    cases h.int
    rcases sp e with ⟨rfl,rfl⟩ | e
    · exact .int_int _
    rcases sp e with ⟨rfl,rfl⟩ | e
    · exact .int_bool _
    rcases sp e with ⟨rfl,rfl⟩ | e
    · exact .int_tuple _
    rcases sp e with ⟨rfl,rfl⟩ | e
    · exact .int_str _
    cases e
  | bl i =>
    cases h.bl
    rcases sp e with ⟨rfl,rfl⟩ | e
    · exact .bl_int _
    rcases sp e with ⟨rfl,rfl⟩ | e
    · exact .bl_bool _
    rcases sp e with ⟨rfl,rfl⟩ | e
    · exact .bl_tuple _
    cases e
  | str i =>
    cases h.str
    rcases sp e with ⟨rfl,rfl⟩ | e
    · exact .str_str _
    rcases sp e with ⟨rfl,rfl⟩ | e
    · exact .str_tuple _
    cases e
  | non=>cases e
  | tup ds =>
    obtain ⟨a,vs,rfl,h1,_,h2⟩:=h.tup s
    rcases sp e with ⟨rfl,rfl⟩ | e
    · exact .tup_tuple h1
    rcases sp e with ⟨rfl,rfl⟩ | e
    · exact .tup_int h1
    cases e
  | lst ds =>
    obtain ⟨a,vs,rfl,h1,h2⟩:=h.lst s
    rcases sp e with ⟨rfl,rfl⟩ | e
    · exact .lst_tuple (.of h1)
    rcases sp e with ⟨rfl,rfl⟩ | e
    · exact .lst_list (.of h1)
    cases e
  | fzl ds=>cases e
  | obj C fs=>cases e
def qox (T:String) (t:TD):TD:=fun ρ R=>t ρ fun d=>∃ r,qlq d T=some r∧R (.bl r)
theorem qiQ {T:String} {tx:Str} {p2:Pos} (hg:Gl X "isinstance") (hm:X.mg "isinstance"=none) (ha:PQ K X a t) (hT:PE X (.Name tx p2) (tC (.ty T)))
    (he:starEach [a,.Name tx p2] X.env=(false,eval a X.env)::starEach [.Name tx p2] X.env) (he2:starEach [.Name tx p2] X.env=(false,eval (.Name tx p2) X.env)::starEach [] X.env):PD K X (.Call (.Name "isinstance" p) [a,.Name tx p2] [] pos) (qox T t) :=
  ⟨fun hK=>(qgD (qhX hK) hg hm boot_isinstance (qb7 (ha.pe hK) (qb7 hT pa_nil he2) he) (by decide) (by decide) he (qae he2 qaf)).imp fun σ H Q hq0=>by obtain ⟨H0,Φ,ρ,R,E,t,k⟩:=hq0;exact ⟨H0,Φ,ρ,_,E,t,fun d Φ1 H1 v r g rv=>by
    obtain ⟨rr,hr,r⟩:=r
    exact ⟨v,T,rr,rfl,ql2 g.s rv hr,k _ Φ1 H1 _ r g (.bl _)⟩⟩⟩
theorem qlI (i:Int):qlq (.int i) "int"=some true:=rfl
theorem qlM (i:Int):qlq (.int i) "bool"=some false:=rfl
theorem qjX (xs:List D):qlq (.tup xs) "tuple"=some true:=rfl
end
theorem qbZ {α:Type} {f:α→D} {ns:List α} {i:Nat} {x:D} (h:(ns.map f)[i]?=some x):∃ k,x=f k∧ns[i]?=some k:=by
  rw [List.getElem?_map] at h
  cases e:ns[i]? with
  | none=>rw [e] at h;cases h
  | some k=>rw [e] at h;cases h;exact ⟨k,rfl,rfl⟩
theorem qgj {ns:List Int} {i:Nat} {x:D} (h:(ns.map D.int)[i]?=some x):∃ k,x=.int k∧ns[i]?=some k:=qbZ h
theorem qbr {α:Type} {f:α→D} {ns:List α} {i:Nat} {n:α} {k:Int} (h:ns[i]?=some n) (e:k=(i:Int)):atI (ns.map f) k=some (f n):=qmw (by rw [List.getElem?_map,h];rfl) e
theorem qif {ns:List Int} {k:Int} (h0:0≤k) (h:k<(ns.length:Int)):∃ v:Int,atI (ns.map D.int) k=some (.int v):=by
  have hk:k.toNat<ns.length:=by omega
  exact ⟨_,qbr (qaA hk) (by omega)⟩
def qjS:SpD:=fun ds R=>∃ ns:List Int,ds=[.fzl (ns.map D.int)]∧ns.length≤63∧R (.bl true)
def qmJ (K:PySem.W.Frag):Sp:=fun vs H Q _=>∃ (a:Addr) (ns:List Int),vs=[.ref a]∧SqL K H a (ns.map V.int)∧ns.length≤63∧TabF K H∧∀ H',Q (.bl true) H'
theorem qiC {K:PySem.W.Frag}:∀ vs H Q E,qmJ K vs H Q E→lSp K qjS vs H Q E:=by
  rintro vs H Q E ⟨a,ns,rfl,hS,hl,tb,q⟩
  refine ⟨H,[.fzl (ns.map D.int)],fun d=>d=.bl true,Same.refl _,tb,.one ((RpL.ints ns).fzl hS),⟨ns,rfl,hl,rfl⟩,fun d Φ' H' v r g rv=>?_⟩
  subst r
  cases rv
  exact q _
def qa3 (r:Row):D:=.tup [.tup (r.1.map D.int),.int r.2]
def prD (s:Int × Int):D:=.tup [.int s.1,.int s.2]
section
variable {K : PySem.W.Frag} {H H' Φ : Hp} {v : V} {vs : List V}
end
theorem qdr {α β:Type} (f:α→β) (xs:List α) (lo hi:Option Int):qey (xs.map f) lo hi=(qey xs lo hi).map f:=by
  unfold qey
  rw [List.length_map,List.map_take,List.map_drop]
theorem qbO (k:Nat) (z:Int):(List.replicate k [D.int z]).flatten=(List.replicate k z).map D.int:=by
  induction k with
  | zero=>rfl
  | succ k ih=>rw [List.replicate_succ,List.flatten_cons,ih];rfl
section
variable {g : TGD} {te : TD} {ρ : Rho} {R : List D → Prop}
theorem qjp {ds:List D} (ws:List D) (hw:ws.length=ds.length) (hlen:ds.length<sizeLine) (Q:Nat→D→Prop) (hQ:∀ i y,Q i y→ws[i]?=some y) (hb:∀ i d,ds[i]?=some d→g d ρ fun ρ1=>te ρ1 (Q i)) (k:R ws) :
    ds.length<sizeLine∧∃ P:Nat→D→Prop,(∀ i d,ds[i]?=some d→g d ρ fun ρ1=>te ρ1 (P i))∧∀ ys:List D,ys.length=ds.length→(∀ i y,ys[i]?=some y→P i y)→R ys:=by
  refine ⟨hlen,Q,hb,fun ys hl hy=>?_⟩
  have:ys=ws:=by
    refine List.ext_getElem? fun i=>?_
    rcases Nat.lt_or_ge i ys.length with c | c
    · rw [qaA c,hQ i _ (hy i _ (qaA c))]
    · rw [List.getElem?_eq_none c,List.getElem?_eq_none (by omega)]
  rw [this]
  exact k
theorem qbk {α:Type} {f:α→D} {xs:List α} (h:α→D) (hlen:xs.length<sizeLine) (hb:∀ x∈xs,g (f x) ρ fun ρ1=>te ρ1 fun y=>y=h x) (k:R (xs.map h)) :
    (xs.map f).length<sizeLine∧∃ P:Nat→D→Prop,(∀ i d,(xs.map f)[i]?=some d→g d ρ fun ρ1=>te ρ1 (P i))∧∀ ys:List D,ys.length=(xs.map f).length→(∀ i y,ys[i]?=some y→P i y)→R ys:=by
  refine qjp (xs.map h) (by simp) (by rw [List.length_map];exact hlen) (fun i=>match xs[i]? with | some x=>fun y=>y=h x | none=>fun _=>False) (fun i y q=>?_) (fun i d hd=>?_) k
  · rw [List.getElem?_map]
    cases e:xs[i]? with
    | none=>rw [e] at q;exact q.elim
    | some x=>rw [e] at q;rw [q];rfl
  · obtain ⟨x,rfl,hx⟩:=qbZ hd
    have e:(match xs[i]? with | some x=>fun y=>y=h x | none=>fun _=>False:D→Prop)=fun y=>y=h x:=by rw [hx]
    rw [e]
    exact hb x (List.mem_of_getElem? hx)
theorem qbT {lo:Int} {n:Nat} (h:Nat→D) (hlen:n<sizeLine) (hb:∀ i,i<n→g (.int (lo+(i:Nat))) ρ fun ρ1=>te ρ1 fun y=>y=h i) (k:R ((List.range n).map h)) :
    (qbs lo n).length<sizeLine∧∃ P:Nat→D→Prop,(∀ i d,(qbs lo n)[i]?=some d→g d ρ fun ρ1=>te ρ1 (P i))∧∀ ys:List D,ys.length=(qbs lo n).length→(∀ i y,ys[i]?=some y→P i y)→R ys :=
  qbk (f:=fun i:Nat=>D.int (lo+(i:Nat))) (xs:=List.range n) h (by rw [List.length_range];exact hlen) (fun x hx=>hb x (List.mem_range.mp hx)) k
theorem qj0 {α β:Type} (f:α→D) (h:β→D) (xs:List α) (ys:List β):qh4 (xs.map f) (ys.map h)=(List.zip xs ys).map fun p=>.tup [f p.1,h p.2]:=by
  unfold qh4
  rw [List.zipWith_map,List.map_zip_eq_zipWith]
  rfl
theorem qb1 {α β:Type} {f:α→D} {h:β→D} {xs:List α} {ys:List β} (w:α→β→D) (hlen:xs.length<sizeLine) (hb:∀ x∈xs,∀ y∈ys,g (.tup [f x,h y]) ρ fun ρ1=>te ρ1 fun z=>z=w x y) (k:R (List.zipWith w xs ys)) :
    (qh4 (xs.map f) (ys.map h)).length<sizeLine∧∃ P:Nat→D→Prop,(∀ i d,(qh4 (xs.map f) (ys.map h))[i]?=some d→g d ρ fun ρ1=>te ρ1 (P i))∧∀ zs:List D,zs.length=(qh4 (xs.map f) (ys.map h)).length→(∀ i y,zs[i]?=some y→P i y)→R zs:=by
  rw [qj0]
  refine qbk (fun p:α × β=>w p.1 p.2) ?_ (fun p hp=>hb p.1 (List.of_mem_zip hp).1 p.2 (List.of_mem_zip hp).2) ?_
  · rw [List.length_zip];omega
  · rw [List.map_zip_eq_zipWith];exact k
end
end L2
namespace L2
theorem ff {p:Prop} (h:false=true):p:=by cases h
theorem tf {p:Prop} (h:true=false):p:=by cases h
end L2
namespace L2
end L2
namespace L2
theorem qcm {α:Type} (f:α→D) (es:List α) (d:α):es.map f++[f d]=(es++[d]).map f:=by simp
theorem qlo {α:Type} (f:α→D) (es fs:List α):es.map f++fs.map f=(es++fs).map f:=by simp
end L2
namespace L2
open PySem PySem.Spec PyProof.Rows
section
variable {g : TGD} {te : TD} {ρ : Rho} {R : List D → Prop}
theorem qa5 {α:Type} {f:α→D} {xs:List α} (h:α→Int) (hlen:xs.length<sizeLine) (hb:∀ x∈xs,g (f x) ρ fun ρ1=>te ρ1 fun y=>y=.int (h x)) (k:R ((xs.map h).map D.int)) :
    (xs.map f).length<sizeLine∧∃ P:Nat→D→Prop,(∀ i d,(xs.map f)[i]?=some d→g d ρ fun ρ1=>te ρ1 (P i))∧∀ ys:List D,ys.length=(xs.map f).length→(∀ i y,ys[i]?=some y→P i y)→R ys :=
  qbk (fun x=>D.int (h x)) hlen hb (by rw [List.map_map] at k;exact k)
end
section
variable {K : PySem.W.Frag} {X : Cx} {pins : List (Addr × Obj)} {σ : St} {Φ H : Hp} {s : Shared}
end
section
variable {K : PySem.W.Frag} {X : Cx} {a b : Expr} {ta tb : TD} {apos cpos : Pos}
end
section
variable {K : PySem.W.Frag} {X : Cx} {e b : Expr} {te tk : TD} {pos spos npos : Pos} {x : Str}
end
section
variable {K : PySem.W.Frag} {X : Cx} {e a st : Expr} {pos p2 : Pos} {te : TE}
end
section
variable {K : PySem.W.Frag} {X : Cx} {a st : Expr} {pos p2 : Pos} {ta : TD} {to : TOD}
end
section
variable {K : PySem.W.Frag} {Φ Φ0 Φ1 H H0 H1 : Hp} {p : Addr} {d : D} {v : V} {ds : List D} {vs : List V}
end
section
variable {K : PySem.W.Frag} {X : Cx} {e : Expr} {te : TD} {pos pos' : Pos}
end
section
variable {K : PySem.W.Frag} {X : Cx} {Φ H : Hp} {a e : Expr} {es : List Expr} {ta : TD} {tl : TDL} {C : Addr} {fl : Str} {pos p : Pos}
theorem qfn {g:Str} {d:D}:∀ {vs:List (Str × V)} {fs:List (Str × D)},vs.map (·.1)=fs.map (·.1)→(∀ (i:Nat) (v:Str × V) (e:Str × D),vs[i]?=some v→fs[i]?=some e→Rp K Φ e.2 v.2)→fs.lookup g=some d→∃ v,vs.lookup g=some v∧Rp K Φ d v
  | [],[],_,_,h=>by cases h
  | [],_::_,h,_,_=>by cases h
  | _::_,[],h,_,_=>by cases h
  | (x,v)::vs,(y,f)::fs,h,hr,hl=>by
    rw [List.map_cons,List.map_cons] at h
    obtain ⟨h1,h2⟩:=List.cons.inj h
    have h1:x=y:=h1
    subst h1
    rw [List.lookup_cons] at hl ⊢
    cases c:g == x with
    | true =>
      rw [c] at hl
      cases hl
      exact ⟨v,rfl,hr 0 _ _ rfl rfl⟩
    | false =>
      rw [c] at hl
      exact qfn h2 (fun i u e hu he=>hr (i+1) u e hu he) hl
def qn5 (nm:Str) (f:Str) (t:TD):TD:=fun ρ R=>t ρ fun x=>match x with | .obj nm' fs=>nm'=nm∧∃ d,fs.lookup f=some d∧R d | _=>False
theorem qk7 {te:TE} (hK:X.K=K) (he:PE X a te) (hb:attributeBase a fl X.env (eval a X.env)=eval a X.env):PE X (.Attribute a fl pos) (qnN K te fl):=hK ▸ qlD he hb
theorem qb2 {nm:Str} (c:Cls K C) (nA:NoAttr K C fl) (hC:PySem.W.nsIn K mainGlobals nm=some (some (.ref C))) (ha:PQ K X a ta) (hb:attributeBase a fl X.env (eval a X.env)=eval a X.env:=by rfl):PD K X (.Attribute a fl pos) (qn5 nm fl ta) :=
  ⟨fun hK=>(qk7 hK (ha.pe hK) hb).imp fun σ H Q hq0=>by obtain ⟨H0,Φ,ρ,R,E,t,k⟩:=hq0;exact ⟨H0,Φ,ρ,_,E,t,fun d Φ1 H1 v r g rv=>by
    cases d with
    | obj C' fs =>
      obtain ⟨rfl,d,hl,r⟩:=r
      rcases rv with rv | ⟨_,_,_,e,_⟩
      · cases rv with
        | obj h0 h1 h2 h3 =>
          rw [hC] at h0
          cases h0
          obtain ⟨v,hv,rd⟩:=qfn h2 h3 hl
          exact ⟨_,_,_,_,v,rfl,g.s _ _ h1,c,nA,hv,k d Φ1 H1 v r g rd⟩
      · cases e
    | _=>exact r.elim⟩⟩
def qnR (C:Addr) (ns:List Str):Sp:=fun vs H Q _=>∃ (x dx:Addr) (ws:List V),vs=.ref x::ws∧ws.length=ns.length∧H x=some (.ins C dx [])∧∀ H':Hp,(∀ b,b≠x→H' b=H b)→H' x=some (.ins C dx (ns.zip ws))→Q .non H'
def dMk (nm:Str) (ns:List Str) (t:TDL):TD:=fun ρ R=>t ρ fun ds=>ds.length=ns.length∧R (.obj nm (ns.zip ds))
variable {CX : CXT} {k : Nat} {f : Addr} {fd : FuncData} {ps ns : List Str} {x : Str} {E : XK}
theorem qf6 {α:Type}:∀ {ns:List Str} {xs:List α},xs.length=ns.length→(ns.zip xs).map (·.1)=ns
  | [],[],_=>rfl
  | n::ns,y::xs,h=>by
    show n::(ns.zip xs).map (·.1)=_
    rw [qf6 (by simpa using h)]
theorem qjM (hC:PySem.W.nsIn K mainGlobals x=some (some (.ref C))) (M:Mk K C f) (F:FnOk X.prog X.w X.K X.mg X.base CX k f fd ps (qnR C ns)) (hr:Room (k+1) X.A) (hg:Gl X x) (hm:X.mg x=some (.ref C)) (hb:Binds X.K fd ps []) (hx:qdY CX X E)
    (ha:PAD K X (e::es) tl) (he:starEach (e::es) X.env=(false,eval e X.env)::starEach es X.env) (hpl:(backTo pos (starEach es X.env)).any (·.1)=false) (hdb:(x == ("__debug__":Str))=false:=by decide) :
    PD K X (.Call (.Name x p) (e::es) [] pos) (dMk x ns tl) :=
  ⟨fun hK=>(qkw (show Mk X.K C f from hK ▸ M) F hr hg hm hb .nil hx (ha.pa hK) hdb he hpl).imp fun σ H Q hq0=>by obtain ⟨H0,Φ,ρ,R,E,t,k⟩:=hq0;exact ⟨H0,Φ,ρ,_,E,t,fun ds Φ1 H1 vs r g rl _=>by
    intro y dy hy hdy hne
    rw [List.append_nil]
    have lv:vs.length=ns.length:=by rw [rl.1];exact r.1
    refine ⟨y,dy,vs,rfl,lv,qan,fun H' hoff hon=>⟨rfl,?_⟩⟩
    have fy:=g.s.free hy
    have fdy:=g.s.free hdy
    have old:∀ b u,H1 b=some u→H' b=some u:=fun b u e=>by
      have n1:b≠y:=qaw e hy
      have n2:b≠dy:=qaw e hdy
      rw [hoff b n1,qax n1,qax n2]
      exact e
    have sf:Same Φ1 (upd Φ1 y (.ins C dy (ns.zip vs))):=qaJ fy _
    have g2:Gr Φ1 H1 (upd Φ1 y (.ins C dy (ns.zip vs))) H':=⟨sf,old,fun b u e=>by
      by_cases c:b=y
      · subst c;rw [qan] at e;cases e;exact hon
      · rw [qax c] at e;exact old b u (g.s b u e),fun q u hq hn _=>by rw [qax (qaw hq hy)];exact hn⟩
    refine k _ _ H' _ r.2 (g.trans g2) (.obj (dx:=dy) hC qan ?_ fun i v d hv hd=>?_)
    · rw [qf6 lv,qf6 r.1]
    · rw [List.getElem?_zip_eq_some] at hv hd
      exact (rl.2 i v.2 d.2 hv.2 hd.2).same sf⟩⟩
end
section
variable {prog : Program} {w : World} {A : Around} {E : Value → Shared → Prop} {s : Shared}
theorem qeE {Q:List Value→Shared→Prop} {r:Addr} {a b c:Int} {t u v:Tok} {n:Nat} (hh:A.handled=none) (hr:IsRange s.heap r a b c t u v) (hsmall:Builtin.Range.small a b c=true)
    (hn:Builtin.Range.rangeSize a b c=n) (hlen:n≤2 ^ 24)
    (hQ:∀ h' tk acc',(∀ b o',s.heap.get? b=some o'→h'.get? b=some o')→ItemsOf (fun i v=>∃ t,v=.int (a+i*c) t) acc' n→Q acc'.toList { s with heap:=h',toks:=tk }) :
    wpAny (model prog w) A (collect (.ref r)) Q E s:=by
  unfold collect
  refine wpAny_bind (wpAny_runValue (codeAny_builtin F.entry_proto_collect ?_))
  rw [Around.under_plainId F.plain_proto_collect _]
  show wpAny _ A.in1 (newList [] >>= fun l=>again (.builtin "list.__iadd__" ⟨[l,.ref r],[]⟩)) _ _ s
  refine wpAny_bind (wpAny_newObj_type ?_)
  refine wpAny_pure ⟨plainId_quiet F.plain_list_iadd _,codeAny_builtin F.entry_list_iadd ?_⟩
  rw [Around.under_plainId F.plain_list_iadd _]
  show wpAny _ A.in1 (Builtin.List.listExtendWith (.ref s.heap.objs.size) (.ref r) (.ref s.heap.objs.size)) _ _ _
  have hS:(s.heap.push { cls:=.type "list",data:=.seq ([]:List Value).toArray }).get? s.heap.objs.size=some { cls:=.type "list",data:=.seq #[] 0 }:=Heap.get?_push_size _ rfl
  have fin':∀ (h':Heap) (tk:Nat) (acc':Array Value) (c':Nat),(∀ b o,b≠s.heap.objs.size→(s.heap.push { cls:=.type "list",data:=.seq ([]:List Value).toArray }).get? b=some o→h'.get? b=some o) →
      h'.get? s.heap.objs.size=some { cls:=.type "list",dict:=none,data:=.seq acc' c',slots:=#[] }→ItemsOf (fun i v=>∃ t,v=.int (a+i*c) t) acc' n→wpAny (model prog w) A (match Value.ref s.heap.objs.size with
      | Value.ref a=>do
        match (← load a).data with
          | Data.seq xs _=>pure xs.toList
          | _=>unsupported "internal:collect"
      | _=>unsupported "internal:collect") Q E { s with heap:=h',toks:=tk }:=fun h' tk acc' c' hk hS' hacc=>by
    show wpAny _ A (load s.heap.objs.size >>= _) _ _ _
    refine wpAny_bind (wpAny_load hS' ?_)
    refine wpAny_pure ?_
    exact hQ h' tk acc' (fun b o hb=>hk b o (Nat.ne_of_lt (Heap.lt_size hb)) (Heap.get?_push_of_some _ hb)) hacc
  refine wpAny_mono (wpAny_extend_range (A:=A) (R:=fun r s'=>r=.ok (.ret (.ref s.heap.objs.size))∧∃ h' tk acc' c',s'={ s with heap:=h',toks:=tk }∧(∀ b o,b≠s.heap.objs.size→(s.heap.push { cls:=.type "list",data:=.seq ([]:List Value).toArray }).get? b=some o→h'.get? b=some o)∧h'.get? s.heap.objs.size=some { cls:=.type "list",dict:=none,data:=.seq acc' c',slots:=#[] }∧ItemsOf (fun i v=>∃ t,v=.int (a+i*c) t) acc' n)
    (s:={ s with heap:=s.heap.push { cls:=.type "list",data:=.seq ([]:List Value).toArray } }) hh (Heap.get?_push_of_some _ hr) hsmall hn hlen _ _ 0 hS fun h' tk acc' c' hk hS' hacc=>⟨rfl,h',tk,acc',c',rfl,hk,hS',hacc⟩) (fun fin s' h=>?_) (fun e s' h=>?_)
  · cases fin with
    | done f =>
      obtain ⟨e,h',tk,acc',c',rfl,hk,hS',hacc⟩:=h
      cases e
      exact fin' h' tk acc' c' hk hS' hacc
    | again c'=>exact ⟨h.1,codeAny_mono h.2 fun r s'' hr=>by
        obtain ⟨rfl,h',tk,acc',c',rfl,hk,hS',hacc⟩:=hr
        exact fin' h' tk acc' c' hk hS' hacc⟩
  · exact absurd h.1 (by simp)
theorem qdo {Q₁:Value→Shared→Prop} {r:Addr} {a b c:Int} {t u v:Tok} {n:Nat} (hh:A.handled=none) (hr:IsRange s.heap r a b c t u v) (hsmall:Builtin.Range.small a b c=true)
    (hn:Builtin.Range.rangeSize a b c=n) (hlen:n≤2 ^ 24)
    (h:∀ (h':Heap) (tk:Nat) (acc:Array Value),(∀ b o',s.heap.get? b=some o'→h'.get? b=some o')→ItemsOf (fun i v=>∃ t,v=.int (a+i*c) t) acc n→Q₁ (.ref h'.objs.size) { s with heap:=h'.push { cls:=.type "tuple",data:=.seq acc },toks:=tk }) :
    codeAny (model prog w) A (.call (.builtin "tuple.__new__") ⟨[.type "tuple",.ref r],[]⟩) (wants Q₁ E) s:=by
  refine codeAny_of_tree ?_
  show wpAny _ A.in1 (do checkBuiltinCall "tuple.__new__" ⟨[.type "tuple",.ref r],[]⟩;again (.builtin "tuple.__new__" ⟨[.type "tuple",.ref r],[]⟩)) _ _ s
  refine wpAny_bind (wpAny_of_eq (F.newCall_tuple_1 _) (wpAny_pure ⟨plainId_quiet F.plain_tuple_new _,codeAny_builtin F.entry_tuple_new ?_⟩))
  rw [Around.under_plainId F.plain_tuple_new _]
  have hsub:=sub_tuple_self
  have hinit:=init_tuple_lookup
  have hmh:=madeHere_tuple
  have hTI:s.TypeIs (.ref r) "range":=⟨_,hr,rfl⟩
  wp_walk using wpAny_typeOf hTI,qeE (A:=A.in1) hh hr hsmall hn hlen
  intro h' tk acc hk hacc
  show wpAny _ _ (Builtin.Tuple.tupleExact acc.toList.toArray >>= fun v=>ret v) _ _ _
  unfold Builtin.Tuple.tupleExact
  refine wpAny_bind (wpAny_newObj_type ?_ (by show acc.toList.toArray.size≤sizeLine;simp only [Array.toArray_toList];rw [hacc.1,sizeLine_eq];omega))
  refine wpAny_pure ?_
  have e:acc.toList.toArray=acc:=by simp
  rw [e]
  exact h h' tk acc hk hacc
theorem qdm {Q:Value→Shared→Prop} {r:Addr} {a b c:Int} {t u v:Tok} {n:Nat} (hh:A.handled=none) (hr:IsRange s.heap r a b c t u v) (hsmall:Builtin.Range.small a b c=true)
    (hn:Builtin.Range.rangeSize a b c=n) (hlen:n≤2 ^ 24)
    (hQ:∀ (h':Heap) (tk:Nat) (acc:Array Value),(∀ b o',s.heap.get? b=some o'→h'.get? b=some o')→ItemsOf (fun i v=>∃ t,v=.int (a+i*c) t) acc n→Q (.ref h'.objs.size) { s with heap:=h'.push { cls:=.type "tuple",data:=.seq acc },toks:=tk }) :
    wpAny (model prog w) A (call (.type "tuple") [.ref r]) Q E s:=by
  refine callType_codes (Q₁:=fun obj s₁=>s₁.TypeIs obj "tuple"∧Q obj s₁) F.called_tuple (F.typeCall_tuple_1 _) F.entry_object_init
    (qdo hh hr hsmall hn hlen fun h' tk acc hk hacc=>⟨⟨_,Heap.get?_push_size _ rfl,rfl⟩,hQ h' tk acc hk hacc⟩) fun obj s₁ h₁=>?_
  exact ⟨h₁.1,F.args_object_init_2 obj _,object_init_meets F.called_tuple.init.lookup F.called_tuple.made (by decide) prog w A.in1 _ s₁ ⟨h₁.1,rfl,h₁.2⟩⟩
end
section
variable {K : PySem.W.Frag} {X : Cx} {a : Expr} {pos p p2 pos2 : Pos} {tl : TDL}
def qoi (t:TA):TE:=fun σ H Q=>t σ H fun vs H1=>∃ j:Int,vs=[.int j]∧∀ r,H1 r=none→Q (.ref r) (upd H1 r (.rng 0 j))
theorem qfy {ta:TA} (hg:Gl X "range") (hm:X.mg "range"=none) (ha:PA X [a] ta) (hs:starEach [a] X.env=[(false,eval a X.env)]:=by rfl):PE X (.Call (.Name "range" p) [a] [] pos) (qoi ta):=by
  intro pins s σ H R I h
  refine Call_ (qdj I hg hm boot_range (PyProof.Rows.callWith_type1 (thn (ha pos pins s σ H _ I h) fun us s1 hq0=>?_) hs rfl))
  obtain ⟨vs,H1,I1,r1,q1⟩:=hq0
  obtain ⟨j,e,q⟩:=q1
  subst e
  cases r1 with
  | cons r rr =>
    cases rr
    obtain ⟨t,rfl⟩:=r
    refine call_range_1 ⟨.ref s1.heap.objs.size,_,I1.laid (a:=s1.heap.objs.size) (o:=.rng 0 j) (t':=s1.toks+1+1) (fun b o e=>Heap.get?_push_of_some _ e) (Nat.le_refl _) ⟨_,_,_,Heap.get?_push_size _ rfl⟩,rfl,q _ (I1.hok.fresh (Nat.le_refl _))⟩
def qbN (n:Nat):List V:=(List.range n).map fun i=>V.int (i:Nat)
theorem qbM (n:Nat):(qbN n).length=n:=by unfold qbN;simp
theorem qdK {α β:Type} {F:α→β→Prop}:∀ {xs:List α} {ys:List β},xs.length=ys.length→(∀ (i:Nat) x y,xs[i]?=some x→ys[i]?=some y→F x y)→Paired F xs ys
  | [],[],_,_=>.nil
  | x::xs,y::ys,hl,h=>.cons (h 0 x y rfl rfl) (qdK (by simpa using hl) fun i u v hu hv=>h (i+1) u v hu hv)
theorem qdL {n i:Nat} {v:V} (h:(qbN n)[i]?=some v):v=.int (i:Nat):=by
  have hi:i<n:=by have:=qaF h;rwa [qbM] at this
  unfold qbN at h
  rw [List.getElem?_map,List.getElem?_range hi] at h
  cases h
  rfl
theorem qea (hcalm:X.calm=true):qc1 X (.type "tuple") (fun xs H Q=>∃ p j,xs=[.ref p]∧H p=some (.rng 0 j)∧-(2 ^ 62)≤j∧j≤1000∧∀ l,H l=none→Q (.ref l) (upd H l (.tup (qbN j.toNat)))):=by
  intro pins s σ H xs us Q I r h
  obtain ⟨p,j,rfl,hp,j0,j1,q⟩:=h
  obtain ⟨u,rfl,rx⟩:=qfW r
  cases rx
  obtain ⟨t,u,v,ho⟩:=(show ObjOk X.prog X.w H s.heap p (.rng 0 j) from I.hok p _ hp)
  have hn:Builtin.Range.rangeSize 0 j 1=(j.toNat:Int):=by rw [rangeSize_one];split <;> omega
  refine qdm (I.ok.hd hcalm) ho (small_one (by decide) (by decide) j0 (by omega)) hn (by omega) fun h' tk acc kp hacc=>?_
  have I1:Inv X pins σ H { s with heap:=h',toks:=tk }:=I.kept (t':=tk) kp
  have hv:Vals (qbN j.toNat) acc.toList:=qdK (by rw [qbM,Array.length_toList,hacc.1]) fun i x y hx hy=>by
    rw [qdL hx]
    obtain ⟨t,rfl⟩:=hacc.2 i y (by simpa using hy)
    exact ⟨t,by simp⟩
  have I2:Inv X pins σ (upd H h'.objs.size (.tup (qbN j.toNat))) { s with heap:=h'.push { cls:=.type "tuple",data:=.seq acc },toks:=tk } :=
    I1.laid (t':=tk) (fun b o e=>Heap.get?_push_of_some _ e) (Nat.le_refl _) (show ObjOk X.prog X.w _ _ _ (.tup (qbN j.toNat)) from ⟨by rw [qbM,sizeLine_eq];omega,acc.toList,hv,by simpa using IsTup.new _ _⟩)
  exact ⟨.ref h'.objs.size,_,I2,rfl,q _ (I1.hok.fresh (Nat.le_refl _))⟩
def qho (t:TDL):TD:=fun ρ R=>t ρ fun ds=>match ds with | [.int j]=>(-(2 ^ 62)≤j∧j≤1000)∧R (.tup (qbs 0 j.toNat)) | _=>False
theorem qhk {Φ:Hp} (n:Nat):RpL K Φ (qbs 0 n) (qbN n):=⟨by rw [qbM,qaN],fun i v d hv hd=>by
  rw [qdL hv,(qbb hd).2,Int.zero_add]
  exact .int _⟩
theorem qeh (hcalm:X.calm=true) (hg1:Gl X "tuple") (hm1:X.mg "tuple"=none) (hg2:Gl X "range") (hm2:X.mg "range"=none) (ha:PAD K X [a] tl) (hs:starEach [a] X.env=[(false,eval a X.env)]:=by rfl) :
    PD K X (.Call (.Name "tuple" p) [.Call (.Name "range" p2) [a] [] pos2] [] pos) (qho tl) :=
  ⟨fun hK=>(qcW (qea hcalm) hg1 hm1 boot_tuple (qb7 (qfy hg2 hm2 (ha.pa hK) hs) pa_nil qam) (by decide) (by decide) qam qaf).imp fun σ H Q hq0=>by obtain ⟨H0,Φ,ρ,R,E,t,k⟩:=hq0;exact ⟨H0,Φ,ρ,_,E,t,fun ds Φ1 H1 vs r g rl _=>by
    match ds,r with
    | [.int j],r =>
      obtain ⟨v,rfl,r1⟩:=rl.one_inv
      cases r1
      refine ⟨j,rfl,fun r0 hr0=>⟨r0,j,rfl,qan,r.1.1,r.1.2,fun l hl=>?_⟩⟩
      have g1:=Gr.fresh g.s hr0 (.rng 0 j)
      have g2:=Gr.new g1.s hl (.tup (qbN j.toNat))
      exact k _ _ _ _ r.2 ((g.trans g1).trans g2) ((qhk _).tup (.of qan))⟩⟩
end
def qhw (X:Cx) (A:Around) (scope:Scope) (N':List Str) (cl:List (Str × Addr)) (f:Addr) (qual:Str) (cd:Value) (s0:Shared) (H0:Hp):Cx where
  prog:=X.prog
  w:=X.w
  K:=X.K
  mg:=X.mg
  base:=X.base
  A:=A.deeper (PySem.W.envX qual scope s0.heap.objs.size f cd cl)
  N:=N'
  s₀:=s0
  H₀:=H0
  env:=PySem.W.envX qual scope s0.heap.objs.size f cd cl
  outer:=X.stack
  stack:=PySem.W.envX qual scope s0.heap.objs.size f cd cl::X.stack
  ex:=[]
  fn:=fun _=>false
  calm:=true
  pn:=[]
  xe:=fun _ _=>False
section
variable {X : Cx} {A : Around} {scope : Scope} {p : Str} {r : List Str} {cap : List (Option Nat)} {cl : List (Str × Addr)} {f c' : Addr} {qual name : Str} {cd pm ctv : Value} {pins : List (Addr × Obj)} {σ : St} {H : Hp} {s s1 : Shared} {v : V} {u : Value} {params : Arguments} {body : Expr} {te : TE} {Q : VK} {E : Value → Shared → Prop}
theorem qj1 (hnc:∀ y∈scope.names,y.2≠.cell) (S:CompScope X.N X.env.scope scope (p::r) (none::cap)) (hpl:scope.names.lookup p=some .local) (hA:A.frames=some X.stack) (hh:A.handled=none) (I:Inv X pins σ H s)
    (hcl:∀ x c,cl.lookup x=some c→X.env.cells.lookup x=some c) (hfr:∀ x,(x,NameKind.free)∈scope.names→∃ c,cl.lookup x=some c) (hos:s1.os=s.os) (hg:s1.gens=s.gens)
    (hk:∀ b o,s.heap.get? b=some o→s1.heap.get? b=some o) (hn:s1.heap.Ns s.heap.objs.size (fun y=>List.lookup y [(p,u)])) (rv:RelV v u) :
    Inv (qhw X A scope (p::r) cl f qual cd s H) [] ((qch (none::cap) σ).set 0 (some v)) H s1:=by
  have noA:∀ b:Addr,b∉(qhw X A scope (p::r) cl f qual cd s H).ex:=fun b z=>absurd (show b∈([]:List Addr) from z) (by simp)
  refine ⟨⟨I.ok.mod,S.kind,rfl,rfl,Nat.le_refl _,fun x y c h1 h2=>I.ok.inj x y c (hcl x c h1) (hcl y c h2),fun x hx=>?_,fun x c hx _=>absurd hx (by show ¬ (false=true);decide),fun _=>hh,Around.frames_deeper hA,.inr ⟨rfl,rfl⟩,
      fun b hb=>absurd hb (noA b),I.bs,Nat.le_trans I.ok.bsz I.sz,fun b o e hb=>absurd hb (noA b),fun b hb hf=>absurd hb (noA b),I.stack,I.stkFree⟩,
    hos,by rw [hg];exact I.bare,Un.kept hk,⟨_,hn,fun i x v' h1 h2 h3=>?_⟩,fun x c e=>?_,I.hok.fresh (Nat.le_refl _),fun x c e=>I.freeC x c (hcl x c e),fun p hp=>absurd (show p∈([]:List (Addr × Obj)) from hp) (by simp),I.hok.kept hk,?_⟩
  · have hx:scope.names.lookup x=some .cell∨scope.names.lookup x=some .free:=hx
    rcases hx with hx | hx
    · exact absurd rfl (hnc _ (PySem.mem_of_lookup hx))
    · exact hfr x (PySem.mem_of_lookup hx)
  · rcases qbE h2 with ⟨rfl,_,e1⟩ | ⟨c0,h2⟩
    · cases e1
      have h1:(p::r)[0]?=some x:=h1
      cases h1
      exact ⟨u,rv,.inl ⟨hpl,by simp⟩⟩
    · have h2:((none::cap).map fun o=>o.bind fun i=>(σ[i]?).join)[i]?=some (some v'):=h2
      rw [List.getElem?_map] at h2
      cases ec:(none::cap)[i]? with
      | none=>rw [ec] at h2;cases h2
      | some o =>
        rw [ec] at h2
        have h2:(o.bind fun i=>(σ[i]?).join)=some v':=by simpa using h2
        cases o with
        | none=>cases h2
        | some j =>
          have h2:(σ[j]?).join=some v':=h2
          have hj:σ[j]?=some (some v'):=by
            cases ej:σ[j]? with
            | none=>rw [ej] at h2;cases h2
            | some y=>rw [ej] at h2;exact congrArg some h2
          have hz:((none::cap).zip (p::r))[i]?=some (some j,x):=by rw [List.getElem?_zip_eq_some];exact ⟨ec,h1⟩
          obtain ⟨q1,q2⟩:=S.at_ _ (List.mem_of_getElem? hz) j rfl
          obtain ⟨mx,hnx,hl⟩:=I.loc
          have kc:=S.free _ q2 rfl
          obtain ⟨u',r',lk⟩:=hl j x v' q1 hj (.inr (.inl kc))
          refine ⟨u',r',?_⟩
          rcases lk with ⟨k1,_⟩ | ⟨_,c,e,z⟩
          · have:X.env.scope.names.lookup x=some .local:=k1
            rw [kc] at this;cases this
          · obtain ⟨c',hc'⟩:=hfr x q2
            have:=hcl x c' hc'
            rw [e] at this;cases this
            exact .inr ⟨.inr (S.fst _ q2 rfl),c,hc',let ⟨o,ho,hd⟩:=z;⟨o,hk c o ho,hd⟩⟩
  · obtain ⟨v,o,ho,hd⟩:=I.cell x c (hcl x c e)
    exact ⟨v,o,hk c o ho,hd⟩
  · show ((qch (none::cap) σ).set 0 (some v)).length=(p::r).length
    rw [List.length_set]
    unfold qch
    rw [List.length_map,S.len]
theorem qiv (hnc:∀ y∈scope.names,y.2≠.cell) (S:CompScope X.N X.env.scope scope (p::r) (none::cap)) (hpl:scope.names.lookup p=some .local) (hA:A.frames=some X.stack) (hh:A.handled=none) (hroom:A.depth<recursionLimit) (I:Inv X pins σ H s)
    (hcl:∀ x c,cl.lookup x=some c→X.env.cells.lookup x=some c) (hfr:∀ x,(x,NameKind.free)∈scope.names→∃ c,cl.lookup x=some c)
    (ho:s.heap.get? f=some (PySem.W.kla_obj name qual params body scope cl pm c' ctv)) (hcd:s.heap.CodeRec (.ref c') qual)
    (hbind:bindArgs (PySem.W.kla_fn name qual params body scope cl pm (.ref c') ctv) ⟨[u],[]⟩=pure [(p,u)]) (hco:scope.isCoroutine=false) (hgen:scope.isGenerator=false)
    (hb:PE (qhw X A scope (p::r) cl f qual (.ref c') s H) body te) (rv:RelV v u) (hq:te ((qch (none::cap) σ).set 0 (some v)) H Q) :
    wpAny (model X.prog X.w) A (call (.ref f) [u]) (EP X pins σ Q) E s:=by
  refine wpAny_call (PySem.W.kla_callFunE hroom ho rfl hco hgen rfl hcd ?_)
  rw [hbind]
  refine wpAny_pure (wpAny_newFunctionEnv hnc (fun y hy=>by rw [show y=(p,u) by simpa using hy];exact hpl) (fun h₁ hns hsb=>⟨I.nolimit.fresh _ hsb,?_⟩) S.kind)
  have hk₁:∀ b o,s.heap.get? b=some o→h₁.get? b=some o:=fun b o e=>hsb.extBut b o (Nat.ne_of_lt (Heap.lt_size e)) (Heap.get?_push_of_some _ e)
  show codeAny _ _ (.expr body (PySem.W.envX qual scope s.heap.objs.size f (.ref c') cl)) _ _
  have Iv:Inv (qhw X A scope (p::r) cl f qual (.ref c') s H) [] ((qch (none::cap) σ).set 0 (some v)) H { s with heap:=h₁,toks:=s.toks+1 } :=
    qj1 hnc S hpl hA hh I hcl hfr rfl rfl hk₁ hns rv
  refine PySem.W.kla_codeExpr (wpAny_mono (hb [] _ _ H Q Iv hq) (fun u' s' hq0=>?_) fun _ _ z=>z.elim)
  obtain ⟨x,H',I',r',q⟩:=hq0
  exact ⟨x,H',I.call' (ch:=[]) I'.os I'.base I'.hok I'.bare (fun b z=>absurd z (by simp)),r',q⟩
end
section
variable {X : Cx} {A : Around} {pins : List (Addr × Obj)} {σ : St} {H : Hp} {s : Shared} {params : Arguments} {body : Expr} {scope : Scope} {pos : Pos} {c P : Addr} {t0 : Tok} {Q : Value → Shared → Prop} {E : Value → Shared → Prop}
theorem Inv.bat (I:Inv X pins σ H s) {ps:Array Value} (hP:s.heap.get? P=some (PySem.W.tabObj ps)):mainGlobals≠P∧s.heap.BuiltinsAt X.mg P:=by
  have G:=I.mod.glob.keeps I.bk
  have hgP:mainGlobals≠P:=fun q=>by
    obtain ⟨o,es,ep,e,hd,_⟩:=G
    rw [q,hP] at e;cases e;cases hd
  obtain ⟨bm,ob,b1,b2,b3,b4,b5,b6⟩:=I.mod.bmod
  have b3:=I.bk _ _ b3
  refine ⟨hgP,bm,ob,b1,b2,fun q=>?_,fun q=>?_,b3,b4,b5,b6⟩
  · obtain ⟨o,es,ep,e,hd,_⟩:=G
    rw [q,e] at b3;cases b3;rw [hd] at b6;cases b6
  · rw [q,hP] at b3;cases b3;cases b4
theorem Inv.tabbed (I:Inv X pins σ H s) {ps:Array Value} (hP:H P=some (.tbl ps)) {c':Addr} {h':Heap} {o:Obj} {vs:Array Value} {x y:Value} {q:Str} {t t':Tok} (tk:Nat) (hps:ps=#[x,y,.str q t])
    (hx:Heap.ExtBut P s.heap h') (hge:s.heap.objs.size≤c') (ho:h'.get? c'=some o) (hd:o.data=.fields vs) (hv:vs[1]?=some (.str q t')) (hT:h'.get? P=some (PySem.W.tabObj #[x,y,.ref c'])) :
    Inv X pins σ (upd H c' (.frz o (.own P))) { s with heap:=h',toks:=tk }:=by
  have hn:H c'=none:=I.hok.fresh hge
  have nP:∀ b,H b=none→b≠P:=fun b e z=>by rw [z,hP] at e;cases e
  have up:∀ b u,H b=some u→upd H c' (.frz o (.own P)) b=some u:=fun b u e=>by rw [qax (qaw e hn)];exact e
  have lt:∀ b ob,s.heap.get? b=some ob→b≠c':=fun b ob e=>Nat.ne_of_lt (Nat.lt_of_lt_of_le (Heap.lt_size e) hge)
  refine I.un ⟨fun b ob e n _ _=>hx b ob (nP b n) e,fun b ob e n _ _=>⟨ob.slots,hx b ob (nP b n) e⟩,fun b ob e n _=>by rw [qax (lt b ob e)];exact n,fun b ob e _=>?_,fun b xs e=>up _ _ e,fun b ob u e=>up _ _ e,fun b us e=>up _ _ e⟩ fun b u e=>?_
  · by_cases hb:b=P
    · subst hb;exact ⟨_,hT⟩
    · exact ⟨ob,hx b ob hb e⟩
  · by_cases hb:b=c'
    · subst hb
      rw [qan] at e
      cases e
      exact ⟨ho,o,ho⟩
    · rw [qax hb] at e
      by_cases hp:b=P
      · subst hp
        rw [hP] at e
        cases e
        exact .inr ⟨c',o,vs,x,y,q,t,t',hps,qan,hT,hd,hv⟩
      · refine (I.hok b u e).stay (fun d w hc q=>hx d w ?_ q) (fun d q=>up _ _ q) (fun d xs q=>up _ _ q) fun d ob w q=>up _ _ q
        rcases hc with z | z
        · rw [z];exact hp
        · intro z2;rw [z2,hP] at z;cases z
theorem qiy (hP:H P=some (.tbl #[rawInt pos.line,rawInt pos.col,.str (X.env.qual++"<lambda>") t0])) (hcode:X.env.code=.ref c) (hC:PySem.W.codeHdIn X.K c P=true) (hdef:defaultsOf params X.env=([],[])) (I:Inv X pins σ H s)
    (hfree:∀ x∈scope.names,x.2=.free→X.env.scope.names.lookup x.1=some .cell)
    (h:∀ (f c':Addr) (cl:List (Str × Addr)) (pm ctv:Value) (o:Obj) (vs:Array Value) (t':Tok) (H':Hp) (s':Shared),(∀ x c,cl.lookup x=some c→X.env.cells.lookup x=some c)→(∀ x,(x,NameKind.free)∈scope.names→∃ c,cl.lookup x=some c) →
      (H'=H∨∃ b u,H b=none∧(∀ xs,u≠.lst xs)∧H'=upd H b u)→Inv X pins σ H' s'→s'.heap.get? f=some (PySem.W.kla_obj "<lambda>" (X.env.qual++"<lambda>") params body scope cl pm c' ctv)→FpOk X pins H' f →
      H' c'=some (.frz o (.own P))→o.data=.fields vs→vs[1]?=some (.str (X.env.qual++"<lambda>") t')→s.heap.objs.size≤f→Q (.ref f) s') :
    wpAny (model X.prog X.w) A (eval (.Lambda params body scope pos) X.env) Q E s:=by
  have C:=PySem.W.codeHd_of_K I.kIn hC
  obtain ⟨cl,hcl,h1,h2⟩:=qcb (scope:=scope) (env:=X.env) fun x hx hf=>I.ok.has x.1 (.inl (hfree x hx hf))
  have G:=I.mod.glob.keeps I.bk
  refine PySem.W.kla_eval hdef ?_
  rcases (show ObjOk X.prog X.w H s.heap P (.tbl _) from I.hok P _ hP) with hT | ⟨c',o,vs,x,y,q,t,t',e1,e2,e3,e4,e5⟩
  · obtain ⟨hgP,hb⟩:=I.bat hT
    refine PySem.W.kla_makeFunction (mg:=X.mg) hcl I.ok.glob G hcode C hT (show TriplesOk [] from trivial) rfl hgP hb fun c' ctv h' tk hx hge hlt hrec htb=>?_
    obtain ⟨c2,o,vs,t',e,ho,hd,hv⟩:=hrec
    cases e
    have I1:=I.tabbed hP tk rfl hx hge ho hd hv (by simpa using htb)
    have I2:Inv X pins σ _ { s with heap:=h'.push (PySem.W.kla_obj "<lambda>" (X.env.qual++"<lambda>") params body scope cl ((X.mg "__name__").getD .none) c' ctv),toks:=tk }:=I1.kept (t':=tk) fun b u e=>Heap.get?_push_of_some _ e
    refine h h'.objs.size c' cl _ ctv o vs t' _ _ h1 h2 (.inr ⟨c',_,I.hok.fresh hge,fun xs z=>(by cases z),rfl⟩) I2 (Heap.get?_push_size _ rfl) (I1.fpOk (Nat.le_refl _) (I1.hok.fresh (Nat.le_refl _))) qan hd hv (Nat.le_trans hge (Nat.le_of_lt hlt))
  · cases e1
    obtain ⟨_,hb⟩:=I.bat e3
    refine PySem.W.kla_makeFunctionHit (cv:=.ref c') (mg:=X.mg) hcl I.ok.glob G hcode C e3 (show TriplesOk [.int _ _,.int _ _,_] from trivial) (by simp [codeAmong,rawInt]) hb fun ctv h' tk hk hsz=>?_
    have I1:Inv X pins σ H { s with heap:=h',toks:=tk }:=I.kept (t':=tk) hk
    have I2:Inv X pins σ H { s with heap:=h'.push (PySem.W.kla_obj "<lambda>" (X.env.qual++"<lambda>") params body scope cl ((X.mg "__name__").getD .none) c' ctv),toks:=tk }:=I1.kept (t':=tk) fun b u e=>Heap.get?_push_of_some _ e
    exact h h'.objs.size c' cl _ ctv o vs t' H _ h1 h2 (.inl rfl) I2 (Heap.get?_push_size _ rfl) (I1.fpOk (Nat.le_refl _) (I1.hok.fresh (Nat.le_refl _))) e2 e4 e5 hsz
end
theorem FpOk.to {X:Cx} {pins:List (Addr × Obj)} {H H':Hp} {b:Addr} (h:FpOk X pins H b) (hn:H' b=none):FpOk X pins H' b:=⟨hn,h.2⟩
section
variable {X : Cx} {pins : List (Addr × Obj)} {σ : St} {H : Hp} {xs : List V} {l S I f : Addr} {fob : Obj} {kf : Nat → Int} {G : Hp → Prop} {R : Result → Shared → Prop} {kw : List (Str × Value)}
theorem qi8 (hh:X.A.handled=none) (hfo:∀ v,fob.data≠.cell v) (fS:FpOk X pins H S) (fI:FpOk X pins H I) (ff:FpOk X pins H f) (nSI:S≠I) (nSf:S≠f) (nIf:I≠f) (nlI:l≠I)
    (hG:∀ H',G H'→H' l=some (.lst xs))
    (turn:∀ (i:Nat) (x:V) (u:Value) (s:Shared) (H':Hp) (pl:List (Addr × Obj)),xs[i]?=some x→RelV x u→G H'→s.heap.get? f=some fob→Inv X pl σ H' s →
      wpAny (model X.prog X.w) X.A.in1 (call (.ref f) [u]) (EP X pl σ fun v H2=>v=.int (kf i)∧G H2) (fun _ _=>False) s)
    (hR:∀ i x u s H',xs[i]?=some x→RelV x u→(∀ j,j<xs.length→kf i≤kf j∧(j<i→kf i<kf j))→G H'→Inv X pins σ H' s→R (.ok (.ret u)) s) :
    ∀ (r j i:Nat) (s:Shared) (H':Hp) (x:V) (vb:Value) (tb:Tok) (c:Nat),xs.length - (j+1)=r→j+1≤xs.length→G H'→Inv X pins σ H' s→H' S=none→H' I=none→H' f=none →
      s.heap.get? S=some (seqObj "list" #[vb,.int (kf i) tb] c)→s.heap.IsListIter I l (j+1)→s.heap.get? f=some fob→xs[i]?=some x→RelV x vb→i≤j→(∀ j',j'≤j→kf i≤kf j'∧(j'<i→kf i<kf j')) →
      codeAny (model X.prog X.w) X.A (.builtin "min.loop" ⟨[.ref I,.ref f,.ref S],kw⟩) R s:=by
  have hname:(toString "min"++toString ".loop":String)="min.loop":=by decide
  intro r
  induction r with
  | zero =>
    intro j i s H' x vb tb c hr hj hg IV nS nI nf oS hit of hx rv hij hbest
    have hin:j+1=xs.length:=by omega
    obtain ⟨hz,its,n,rvs,e1,e2⟩:=IV.lstM (hG H' hg)
    have W:=Walks.list (prog:=X.prog) (w:=X.w) (A:=X.A.in1) hh I l nlI its.toArray
    have hsz:its.toArray.size=xs.length:=by rw [List.size_toArray,e1]
    refine codeAny_builtin PySem.F.entry_min_loop ?_
    rw [Around.under_plainId PySem.F.plain_min_loop _]
    show wpAny _ X.A.in1 (seqItems? (.ref S) >>= _) _ _ _
    refine wpAny_bind (wpAny_seqItems oS rfl ?_)
    show wpAny _ X.A.in1 (tryCatch (pyNext (.ref I)) _ >>= _) _ _ _
    refine wpAny_bind (wpAny_tryCatch (W.done _ _ _ ⟨by rw [hsz,← hin];exact hit,⟨_,e2,rfl,_,rfl⟩⟩ fun h' tk' hk'=>?_))
    have oS':=hk' S _ (by simpa using nSI) oS
    have s1:=Heap.SameBut.update h' S (Obj.mapSeq fun _=>(#[]:Array Value))
    show wpAny _ X.A.in1 (updateSeq S (fun _=>#[]) >>= _) _ _ _
    refine wpAny_bind ?_
    refine wpAny_updateSeq oS' rfl (wpAny_bind (wpAny_letGo (wpAny_pure ?_)))
    have I1:=IV.turnedL (ch:=[I]) (h':=h') (t':=tk') (fun b o hb e=>hk' b o hb e) (fun b hb=>by rw [List.mem_singleton.mp hb];exact fI.to nI)
    have I2:=I1.turnedL (ch:=[S]) (h':=h'.update S (Obj.mapSeq fun _=>(#[]:Array Value))) (t':=tk') (fun b o hb e=>(s1.2 b (fun z=>hb (by simp [z]))).trans e) (fun b hb=>by rw [List.mem_singleton.mp hb];exact fS.to nS)
    exact hR i x vb _ H' hx rv (fun j' hj'=>hbest j' (by omega)) hg I2
  | succ r ih =>
    intro j i s H' x vb tb c hr hj hg IV nS nI nf oS hit of hx rv hij hbest
    have hlt:j+1<xs.length:=by omega
    obtain ⟨hz,its,n,rvs,e1,e2⟩:=IV.lstM (hG H' hg)
    have W:=Walks.list (prog:=X.prog) (w:=X.w) (A:=X.A.in1) hh I l nlI its.toArray
    have hsz:its.toArray.size=xs.length:=by rw [List.size_toArray,e1]
    refine codeAny_builtin PySem.F.entry_min_loop ?_
    rw [Around.under_plainId PySem.F.plain_min_loop _]
    show wpAny _ X.A.in1 (seqItems? (.ref S) >>= _) _ _ _
    refine wpAny_bind (wpAny_seqItems oS rfl ?_)
    show wpAny _ X.A.in1 (tryCatch (pyNext (.ref I)) _ >>= _) _ _ _
    refine wpAny_bind (wpAny_tryCatch (W.item (j+1) _ _ _ (by rw [hsz];exact hlt) ⟨hit,⟨_,e2,rfl,_,rfl⟩⟩ fun v h' tk' hP hst' hk'=>?_))
    have hv:its[j+1]?=some v:=by simpa using hP
    obtain ⟨y,hy⟩:∃ y,xs[j+1]?=some y:=⟨_,qaA hlt⟩
    obtain ⟨v',hv',ry⟩:=rvs.get hy
    rw [hv] at hv'
    cases hv'
    obtain ⟨oI',hoI',hoc,hod⟩:=id hst'.1
    have I1:Inv X pins σ H' { s with heap:=h',toks:=tk' }:=IV.turnedL (ch:=[I]) (h':=h') (t':=tk') (fun b o hb e=>hk' b o hb e) (fun b hb=>by rw [List.mem_singleton.mp hb];exact fI.to nI)
    have I2:Inv X (pins++[(S,seqObj "list" #[vb,.int (kf i) tb] c),(I,oI'),(f,fob)]) σ H' { s with heap:=h',toks:=tk' }:=I1.pins_of fun p hp=>by
      rcases List.mem_append.mp hp with hp | hp
      · exact I1.pin p (List.mem_append_right _ hp)
      · simp only [List.mem_cons,List.not_mem_nil,or_false] at hp
        rcases hp with rfl | rfl | rfl
        · exact ⟨hk' S _ (by simpa using nSI) oS,nS,fS.2.1,fS.2.2.1,fun v z=>by cases z⟩
        · exact ⟨hoI',nI,fI.2.1,fI.2.2.1,fun v z=>by rw [hod] at z;cases z⟩
        · exact ⟨hk' f _ (by simpa using nIf.symm) of,nf,ff.2.1,ff.2.2.1,hfo⟩
    show wpAny _ X.A.in1 (tryCatch (holding [v] (call (.ref f) [v])) _ >>= _) _ _ _
    refine wpAny_bind (wpAny_tryCatch (wpAny_holding (wpAny_mono (turn (j+1) y v _ H' _ hy ry hg (hk' f _ (by simpa using nIf.symm) of) I2) (fun u s2 he=>?_) fun _ _ hF=>hF.elim)))
    obtain ⟨v2,H2,I3,r3,rfl,g2⟩:=he
    obtain ⟨t2,rfl⟩:=(show ∃ t,u=Value.int (kf (j+1)) t from r3)
    have pS:=I3.pin (S,seqObj "list" #[vb,.int (kf i) tb] c) (List.mem_append_right _ (List.mem_append_right _ (by simp)))
    have pI:=I3.pin (I,oI') (List.mem_append_right _ (List.mem_append_right _ (by simp)))
    have pf:=I3.pin (f,fob) (List.mem_append_right _ (List.mem_append_right _ (by simp)))
    have I4:Inv X pins σ H2 s2:=I3.unpinned
    have hit2:s2.heap.IsListIter I l (j+1+1):=⟨oI',pI.1,hoc,hod⟩
    show wpAny _ X.A.in1 (tryCatch (holding [v,.int (kf (j+1)) t2] (richCompare .Lt (.int (kf (j+1)) t2) (.int (kf i) tb) >>= _)) _ >>= _) _ _ _
    refine wpAny_bind (wpAny_tryCatch (wpAny_holding (wpAny_bind (CmpOf.ints_lt (prog:=X.prog) (w:=X.w) (A:=X.A.in1) (P:=fun i v=>∃ t,v=.int (kf i) t) kf (fun i v h=>h) (j+1) i _ _ _ _ _ ⟨t2,rfl⟩ ⟨tb,rfl⟩ ?_))))
    refine wpAny_bind (wpAny_holding (wpAny_truthy_bool ?_))
    refine wpAny_bind (wpAny_letGo (wpAny_pure ?_))
    by_cases hb':kf (j+1)<kf i
    · have s1:=Heap.SameBut.update s2.heap S (Obj.mapSeq fun _=>#[v,.int (kf (j+1)) t2])
      obtain ⟨c2,hc2⟩:∃ c2,(s2.heap.update S (Obj.mapSeq fun _=>#[v,.int (kf (j+1)) t2])).get? S=some (seqObj "list" #[v,.int (kf (j+1)) t2] c2):=⟨_,get?_update_seq pS.1 fun _=>#[v,.int (kf (j+1)) t2]⟩
      simp only [hb',decide_true,if_true]
      refine wpAny_bind ?_
      refine wpAny_updateSeq pS.1 rfl (wpAny_bind (wpAny_letGo ?_))
      rw [hname]
      have I5:=I4.turnedL (ch:=[S]) (h':=s2.heap.update S (Obj.mapSeq fun _=>#[v,.int (kf (j+1)) t2])) (t':=s2.toks) (fun b o hb e=>(s1.2 b (fun z=>hb (by simp [z]))).trans e) (fun b hb=>by rw [List.mem_singleton.mp hb];exact fS.to pS.2.1)
      refine wpAny_pure ⟨plainId_quiet PySem.F.plain_min_loop _,ih (j+1) (j+1) _ H2 y v t2 c2 (by omega) hlt g2 I5 pS.2.1 pI.2.1 pf.2.1 hc2 ⟨oI',(s1.2 I nSI.symm).trans pI.1,hoc,hod⟩ ((s1.2 f nSf.symm).trans pf.1) hy ry (Nat.le_refl _) fun j' hj'=>?_⟩
      by_cases e:j'=j+1
      · subst e
        exact ⟨by omega,fun _=>by omega⟩
      · have hb1:=hbest j' (by omega)
        have hb2:=hb1.1
        exact ⟨by omega,fun _=>by omega⟩
    · simp only [hb',decide_false,Bool.false_eq_true,if_false]
      refine wpAny_bind (wpAny_letGo ?_)
      rw [hname]
      refine wpAny_pure ⟨plainId_quiet PySem.F.plain_min_loop _,ih (j+1) i s2 H2 x vb tb c (by omega) hlt g2 I4 pS.2.1 pI.2.1 pf.2.1 pS.1 hit2 pf.1 hx rv (by omega) fun j' hj'=>?_⟩
      by_cases e:j'=j+1
      · subst e
        exact ⟨by omega,fun _=>by omega⟩
      · exact hbest j' (by omega)
end
theorem qmG (a v u:Value):argsOk "min" ⟨[a],[(Str.ofString "key",v),(Str.ofString "default",u)]⟩:=by unfold argsOk;kernel_rfl
section
variable {X : Cx} {pins : List (Addr × Obj)} {σ : St} {H : Hp} {xs : List V} {l f : Addr} {fob : Obj} {kf : Nat → Int} {G : Hp → Prop} {s : Shared} {Q : Value → Shared → Prop} {E : Value → Shared → Prop}
theorem qkj (hh:X.A.handled=none) (hfo:∀ v,fob.data≠.cell v) (ff:FpOk X pins H f) (IV:Inv X pins σ H s) (g0:G H) (of:s.heap.get? f=some fob)
    (hG:∀ H',G H'→H' l=some (.lst xs))
    (turn:∀ (i:Nat) (x:V) (u:Value) (s:Shared) (H':Hp) (pl:List (Addr × Obj)),xs[i]?=some x→RelV x u→G H'→s.heap.get? f=some fob→Inv X pl σ H' s →
      wpAny (model X.prog X.w) X.A.in1 (call (.ref f) [u]) (EP X pl σ fun v H2=>v=.int (kf i)∧G H2) (fun _ _=>False) s)
    (hQ0:xs=[]→∀ s,Inv X pins σ H s→Q .none s)
    (hQ:∀ i x u s H',xs[i]?=some x→RelV x u→(∀ j,j<xs.length→kf i≤kf j∧(j<i→kf i<kf j))→G H'→Inv X pins σ H' s→Q u s) :
    wpAny (model X.prog X.w) X.A (call (.builtin "min") [.ref l] [(Str.ofString "key",.ref f),(Str.ofString "default",.none)]) Q E s:=by
  have hname:(toString "min"++toString ".loop":String)="min.loop":=by decide
  obtain ⟨hz,its,n,rvs,e1,e2⟩:=IV.lstM (hG H g0)
  have hls:s.heap.IsList l its.toArray:=⟨_,e2,rfl,_,rfl⟩
  refine kmk_tree PySem.F.kind_min PySem.F.plain_min PySem.F.entry_min (qmG _ _ _) ?_
  show wpAny _ X.A.in1 (Builtin.Builtins.bindParams "min" ["key","default"] 0 ⟨[],[(Str.ofString "key",.ref f),(Str.ofString "default",.none)]⟩ >>= _) _ _ s
  refine wpAny_bind (wpAny_of_eq (show Builtin.Builtins.bindParams "min" ["key","default"] 0 ⟨[],[(Str.ofString "key",.ref f),(Str.ofString "default",.none)]⟩=pure [some (.ref f),some .none] from rfl) ?_)
  refine wpAny_bind (wpAny_pure ?_)
  refine wpAny_bind (wpAny_pyIter_list hls ?_)
  refine wpAny_bind (wpAny_newList ?_ (Nat.zero_le _))
  rw [hname]
  generalize eI:s.heap.push { cls:=.type "list_iterator",data:=.fields #[.ref l,.int 0 0] }=h1
  have k1:∀ b o,s.heap.get? b=some o→h1.get? b=some o:=fun b o e=>by rw [← eI];exact Heap.get?_push_of_some _ e
  have z1:h1.objs.size=s.heap.objs.size+1:=by rw [← eI];exact Heap.size_push ..
  have gI:h1.get? s.heap.objs.size=some { cls:=.type "list_iterator",data:=.fields #[.ref l,.int 0 0] }:=by rw [← eI];exact Heap.get?_push_size _ rfl
  have I1:Inv X pins σ H { s with heap:=h1 }:=IV.kept (t':=s.toks) k1
  have I2:Inv X pins σ H { s with heap:=h1.push (seqObj "list" #[] 0) }:=I1.kept (t':=s.toks) fun b o e=>Heap.get?_push_of_some _ e
  have fI:FpOk X pins H s.heap.objs.size:=IV.fpOk (Nat.le_refl _) IV.fresh
  have fS:FpOk X pins H h1.objs.size:=I1.fpOk (Nat.le_refl _) I1.fresh
  have gS:(h1.push (seqObj "list" #[] 0)).get? h1.objs.size=some (seqObj "list" #[] 0):=Heap.get?_push_size _ rfl
  have gI2:=Heap.get?_push_of_some (seqObj "list" #[] 0) gI
  have nSI:h1.objs.size≠s.heap.objs.size:=by rw [z1];exact Nat.succ_ne_self _
  have nIf:s.heap.objs.size≠f:=Nat.ne_of_gt (Heap.lt_size of)
  have nSf:h1.objs.size≠f:=Nat.ne_of_gt (by rw [z1];exact Nat.lt_succ_of_lt (Heap.lt_size of))
  have nlI:l≠s.heap.objs.size:=Nat.ne_of_lt (Heap.lt_size e2)
  have of2:=Heap.get?_push_of_some (seqObj "list" #[] 0) (k1 _ _ of)
  have ol2:=Heap.get?_push_of_some (seqObj "list" #[] 0) (k1 _ _ e2)
  have W:=Walks.list (prog:=X.prog) (w:=X.w) (A:=X.A.in1) hh s.heap.objs.size l nlI its.toArray
  have hsz:its.toArray.size=xs.length:=by rw [List.size_toArray,e1]
  refine wpAny_pure ⟨plainId_quiet PySem.F.plain_min_loop _,?_⟩
  refine codeAny_builtin PySem.F.entry_min_loop ?_
  rw [Around.under_plainId PySem.F.plain_min_loop _]
  show wpAny _ X.A.in1 (seqItems? (.ref h1.objs.size) >>= _) _ _ _
  refine wpAny_bind (wpAny_seqItems gS rfl ?_)
  show wpAny _ X.A.in1 (tryCatch (pyNext (.ref s.heap.objs.size)) _ >>= _) _ _ _
  cases xs with
  | nil =>
    refine wpAny_bind (wpAny_tryCatch (W.done _ _ _ ⟨by rw [hsz];exact ⟨_,gI2,rfl,rfl⟩,⟨_,ol2,rfl,_,rfl⟩⟩ fun h' tk' hk'=>?_))
    have I3:=I2.turnedL (ch:=[s.heap.objs.size]) (h':=h') (t':=tk') (fun b o hb e=>hk' b o hb e) (fun b hb=>by rw [List.mem_singleton.mp hb];exact fI)
    exact wpAny_bind (wpAny_rule (wpAny_pure (hQ0 rfl _ I3)))
  | cons x0 xs =>
    refine wpAny_bind (wpAny_tryCatch (W.item 0 _ _ _ (by rw [hsz];exact Nat.succ_pos _) ⟨⟨_,gI2,rfl,rfl⟩,⟨_,ol2,rfl,_,rfl⟩⟩ fun v h' tk' hP hst' hk'=>?_))
    have hv:its[0]?=some v:=by simpa using hP
    obtain ⟨v',hv',ry⟩:=rvs.get (i:=0) (x:=x0) rfl
    rw [hv] at hv'
    cases hv'
    obtain ⟨oI',hoI',hoc,hod⟩:=id hst'.1
    have I3:Inv X pins σ H { s with heap:=h',toks:=tk' }:=I2.turnedL (ch:=[s.heap.objs.size]) (h':=h') (t':=tk') (fun b o hb e=>hk' b o hb e) (fun b hb=>by rw [List.mem_singleton.mp hb];exact fI)
    have of3:=hk' f _ (by simpa using nIf.symm) of2
    have oS3:=hk' h1.objs.size _ (by simpa using nSI) gS
    have I4:Inv X (pins++[(h1.objs.size,seqObj "list" #[] 0),(s.heap.objs.size,oI'),(f,fob)]) σ H { s with heap:=h',toks:=tk' }:=I3.pins_of fun p hp=>by
      rcases List.mem_append.mp hp with hp | hp
      · exact I3.pin p (List.mem_append_right _ hp)
      · simp only [List.mem_cons,List.not_mem_nil,or_false] at hp
        rcases hp with rfl | rfl | rfl
        · exact ⟨oS3,fS.1,fS.2.1,fS.2.2.1,fun v z=>by cases z⟩
        · exact ⟨hoI',fI.1,fI.2.1,fI.2.2.1,fun v z=>by rw [hod] at z;cases z⟩
        · exact ⟨of3,ff.1,ff.2.1,ff.2.2.1,hfo⟩
    show wpAny _ X.A.in1 (tryCatch (holding [v] (call (.ref f) [v])) _ >>= _) _ _ _
    refine wpAny_bind (wpAny_tryCatch (wpAny_holding (wpAny_mono (turn 0 x0 v _ H _ rfl ry g0 of3 I4) (fun u s2 he=>?_) fun _ _ hF=>hF.elim)))
    obtain ⟨v2,H2,I5,r3,rfl,g2⟩:=he
    obtain ⟨t2,rfl⟩:=(show ∃ t,u=Value.int (kf 0) t from r3)
    have pS:=I5.pin (h1.objs.size,seqObj "list" #[] 0) (List.mem_append_right _ (List.mem_append_right _ (by simp)))
    have pI:=I5.pin (s.heap.objs.size,oI') (List.mem_append_right _ (List.mem_append_right _ (by simp)))
    have pf:=I5.pin (f,fob) (List.mem_append_right _ (List.mem_append_right _ (by simp)))
    have I6:Inv X pins σ H2 s2:=I5.unpinned
    have s1:=Heap.SameBut.update s2.heap h1.objs.size (Obj.mapSeq fun _=>#[v,.int (kf 0) t2])
    obtain ⟨c2,hc2⟩:∃ c2,(s2.heap.update h1.objs.size (Obj.mapSeq fun _=>#[v,.int (kf 0) t2])).get? h1.objs.size=some (seqObj "list" #[v,.int (kf 0) t2] c2):=⟨_,get?_update_seq pS.1 fun _=>#[v,.int (kf 0) t2]⟩
    show wpAny _ X.A.in1 (updateSeq h1.objs.size (fun _=>#[v,.int (kf 0) t2]) >>= _) _ _ _
    refine wpAny_bind ?_
    refine wpAny_updateSeq pS.1 rfl ?_
    rw [hname]
    have I7:=I6.turnedL (ch:=[h1.objs.size]) (h':=s2.heap.update h1.objs.size (Obj.mapSeq fun _=>#[v,.int (kf 0) t2])) (t':=s2.toks) (fun b o hb e=>(s1.2 b (fun z=>hb (by simp [z]))).trans e) (fun b hb=>by rw [List.mem_singleton.mp hb];exact fS.to pS.2.1)
    refine wpAny_pure ⟨plainId_quiet PySem.F.plain_min_loop _,qi8 (kf:=kf) (G:=G) hh hfo fS fI ff nSI nSf nIf nlI hG turn hQ _ 0 0 _ H2 x0 v t2 c2 rfl (Nat.succ_le_succ (Nat.zero_le _)) g2 I7 pS.2.1 pI.2.1 pf.2.1 hc2 ⟨oI',(s1.2 _ nSI.symm).trans pI.1,hoc,hod⟩ ((s1.2 f nSf.symm).trans pf.1) rfl ry (Nat.le_refl _) fun j' hj'=>?_⟩
    have e:j'=0:=by omega
    subst e
    exact ⟨Int.le_refl _,fun z=>absurd z (Nat.lt_irrefl _)⟩
end
def qj7 (tl:TD) (cap:List (Option Nat)) (tb:TD):TD:=fun ρ R=>tl ρ fun d=>match d with
  | .lst ds=>∃ kf:Nat→Int,(∀ i e,ds[i]?=some e→tb ((qfL (none::cap) ρ).set 0 (some (.v e))) fun r=>r=.int (kf i))∧(ds=[]→R .non) ∧
      ∀ i e,ds[i]?=some e→(∀ j,j<ds.length→kf i≤kf j∧(j<i→kf i<kf j))→R e
  | _=>False
section
variable {K : PySem.W.Frag} {X : Cx} {l body : Expr} {tl tb : TD} {scope : Scope} {p : Str} {r : List Str} {cap : List (Option Nat)} {params : Arguments} {np pos lp kp1 kp2 kp3 : Pos} {c P : Addr} {j : Nat}
theorem qjc (hr:Room 1 X.A) (hg:Gl X "min") (hm:X.mg "min"=none) (hl:PQ K X l tl) (S:CompScope X.N X.env.scope scope (p::r) (none::cap)) (hcap:qc0 1 (none::cap)=true)
    (hpl:scope.names.lookup p=some .local) (hco:scope.isCoroutine=false) (hgen:scope.isGenerator=false) (hdef:defaultsOf params X.env=([],[]))
    (hbind:∀ (qual:Str) (cl:List (Str × Addr)) (pm cd ctv u:Value),bindArgs (PySem.W.kla_fn "<lambda>" qual params body scope cl pm cd ctv) ⟨[u],[]⟩=pure [(p,u)])
    (hcode:X.env.code=.ref c) (hC:PySem.W.codeHdIn X.K c P=true) (ht:(P,#[rawInt lp.line,rawInt lp.col,.str (X.env.qual++"<lambda>") 0])∈qa1 K)
    (hb:∀ (A:Around) (cl:List (Str × Addr)) (f:Addr) (cd:Value) (s0:Shared) (H0:Hp),PD K (qhw X A scope (p::r) cl f (X.env.qual++"<lambda>") cd s0 H0) body tb)
    (he:starEach [l] X.env=[(false,eval l X.env)]) (hnc:∀ y∈scope.names,y.2≠.cell:=by decide) :
    PD K X (.Call (.Name "min" np) [l] [⟨some "key",.Lambda params body scope lp,kp1⟩,⟨some "default",.Constant .none j kp2,kp3⟩] pos) (qj7 tl cap tb):=⟨fun hK=>by
  subst hK
  intro pins s σ H Q I ⟨H0,Φ,ρ,R,V,t,k⟩
  refine wpAny_Call_Name_kw (qdj I hg hm boot_min ?_)
  have he':backTo pos (starEach [l] X.env)=(false,eval l X.env)::backTo pos (starEach [] X.env):=by rw [he];rfl
  refine callWith_kw (thn (qb7 (hl.pe rfl) pa_nil (by rw [he];rfl) pos pins s σ H (fun vs H1=>∃ x ds Φ1,vs=[x]∧Gr Φ H Φ1 H1∧RpQ X.K Φ1 H1 (.lst ds) x∧∃ kf:Nat→Int,(∀ i e,ds[i]?=some e→tb ((qfL (none::cap) ρ).set 0 (some (.v e))) fun r=>r=.int (kf i))∧(ds=[]→R .non) ∧
      ∀ i e,ds[i]?=some e→(∀ j,j<ds.length→kf i≤kf j∧(j<i→kf i<kf j))→R e) I ⟨H0,Φ,ρ,_,V,t,fun d Φ1 H1 v r g rv=>?_⟩) fun us s1 ⟨vs,H1,I1,r1,q1⟩=>?_) he' (by rw [he'];rfl)
  · cases d with
    | lst ds=>exact ⟨v,ds,Φ1,rfl,g,rv,r⟩
    | _=>exact r.elim
  · obtain ⟨x,ds,Φ1,rfl,g1,rq,kf,hk1,hk2,hk3⟩:=q1
    obtain ⟨a,xs,rfl,hxs,rl⟩:=rq.lst g1.s
    cases r1 with
    | cons r rr =>
    cases rr
    cases r
    have V1:=V.gr g1
    have hP:=g1.s _ _ (V1.tb _ ht)
    refine kws_cons (qiy hP hcode hC hdef I1 S.free fun f c' cl pm ctv o vs t' H2 s2 hcl hfr hH I2 of ff hc hod hv hsz=>?_)
    refine kws_cons (Constant_none (kws_nil ?_))
    show wpAny _ X.A (call (.builtin "min") [.ref a] [(Str.ofString "key",.ref f),(Str.ofString "default",.none)]) _ _ _
    have g2:Gr Φ1 H1 Φ1 H2:=by
      rcases hH with rfl | ⟨b,u,hb0,_,rfl⟩
      · exact .refl g1.s
      · exact .fresh g1.s hb0 _
    refine qkj (kf:=kf) (G:=fun H'=>∃ Φ',Gr Φ1 H2 Φ' H') hr.hd (fun v z=>by cases z) ff I2 ⟨Φ1,.refl g2.s⟩ of (fun H' hq1=>by obtain ⟨Φ',g'⟩:=hq1;exact g'.h _ _ (g2.h _ _ hxs)) (fun i x u s3 H3 pl hx ru ⟨Φ3,g3⟩ of3 I3=>?_) (fun hnil s3 I3=>?_) fun i x u s3 H3 hx ru hbest ⟨Φ3,g3⟩ I3=>?_
    · obtain ⟨e,hei,re⟩:=rl.at' hx
      have hc3:=g3.h _ _ hc
      obtain ⟨o3,_⟩:=(show ObjOk X.prog X.w H3 s3.heap c' (.frz o (.own P)) from I3.hok c' _ hc3)
      have V3:=((V1.gr g2).gr g3).cap (qfs hcap)
      refine qiv hnc S hpl (show X.A.in1.frames=some X.stack from I.ok.frames) (show X.A.in1.handled=none from hr.hd) (show X.A.in1.depth<recursionLimit from hr.depth) I3 hcl hfr of3 ⟨c',o,vs,t',rfl,o3,hod,hv⟩ (hbind _ _ _ _ _ u) hco hgen ((hb _ _ _ _ _ _).pe rfl) ru
        ⟨H0,Φ3,_,_,V3.set (re.same (g2.f.trans g3.f)) 0,hk1 i e hei,fun d Φ4 H4 v r g4 rv=>?_⟩
      subst r
      cases rv
      exact ⟨rfl,Φ4,g3.trans g4⟩
    · have hd:ds=[]:=by
        have:=rl.1
        rw [hnil] at this
        exact List.length_eq_zero_iff.mp this.symm
      exact ⟨.non,H2,I3,rfl,k .non Φ1 H2 .non (hk2 hd) (g1.trans g2) .non⟩
    · obtain ⟨e,hei,re⟩:=rl.at' hx
      exact ⟨x,H3,I3,ru,k e Φ3 H3 x (hk3 i e hei fun j hj=>hbest j (by rw [rl.1];exact hj)) ((g1.trans g2).trans g3) (re.same (g2.f.trans g3.f))⟩⟩
end
structure LamT (K:PySem.W.Frag) (q:Str) (fd:FuncData) (c P:Addr) (lp:Pos):Prop where
  code:fd.code=.ref c
  hd:PySem.W.codeHdIn K c P=true
  tab:(P,#[rawInt lp.line,rawInt lp.col,.str (q++".<locals>."++"<lambda>") 0])∈qa1 K
section
variable {P : Program} {w : World} {K : PySem.W.Frag} {mg : Str → Option Value} {base : Heap}
theorem Fun.okL {x qual:Str} {st:Stmt} {f:Addr} {fd:FuncData} {N ps:List Str} {k:Nat} {sp:Sp} (F:Fun K x qual st f fd) (S:FnScope N ps (qag st)) (len:∀ vs H Q E,sp vs H Q E→vs.length=ps.length)
    (hbody:∀ (cdv:Value) (A:Around) (outer:List Env) (s:Shared) (H:Hp) (vs:List V) (Q:VK) (E:XK),fd.code=cdv→Room k (A.deeper (envOfC qual (qag st) s.heap.objs.size f cdv))→sp vs H Q E →
      ∃ t,PSs (qjr CX0 P w K mg base N qual (qag st) f cdv A outer s H E).nox (qbf st) t∧t { nx:=fun _ H'=>Q .non H',rt:=Q } (start N vs) H):FnOk P w K mg base CX0 (k+1) f fd ps sp:=by
  obtain ⟨oc,od,kV,doc,pm,an,cdv,ct,osl,rfl,lk,hcd⟩:=F.ex
  refine qmC lk hcd S len fun A outer s H vs Q E hr hsp=>?_
  obtain ⟨t,h,q⟩:=hbody cdv A outer s H vs Q E rfl hr hsp
  exact ⟨t,h.nox,q⟩
theorem Fun.okDL {x qual:Str} {st:Stmt} {f:Addr} {fd:FuncData} {N ps:List Str} {k:Nat} {sp:SpD} (F:Fun K x qual st f fd) (S:FnScope N ps (qag st)) (len:∀ ds R,sp ds R→ds.length=ps.length)
    (hbody:∀ (cdv:Value) (A:Around) (outer:List Env) (s:Shared) (H:Hp) (E:XK) (ds:List D) (R:D→Prop),fd.code=cdv→Room k (A.deeper (envOfC qual (qag st) s.heap.objs.size f cdv))→sp ds R →
      ∃ t,PSsD K (qjr CX0 P w K mg base N qual (qag st) f cdv A outer s H E).nox (qbf st) t∧t { nx:=fun _=>R .non,rt:=R } (qde N ds)):FnOk P w K mg base CX0 (k+1) f fd ps (lSp K sp):=by
  refine F.okL S (fun vs H Q E ⟨Φ,ds,R,sm,tb,rl,h,_⟩=>by rw [rl.1];exact len ds R h) (fun cdv A outer s H vs Q E hcd hr ⟨Φ,ds,R,sm,tb,rl,h,kk⟩=>?_)
  obtain ⟨t,ht,hq⟩:=hbody cdv A outer s H E ds R hcd hr h
  exact ⟨lS K t,ht.ps rfl,Φ,H,Φ,qde N ds,_,.refl sm,qfa sm tb rl,hq,⟨fun ρ' Φ' H' σ' r g V=>kk .non Φ' H' .non r g .non,kk,fun _ _ _ _ h=>h.elim,fun _ _ _ _ h=>h.elim⟩⟩
end
theorem qgA {K:PySem.W.Frag} {x:Str} {f c P:Addr} {fd:FuncData} {oc oc':Value} {od od':Option Addr} {sl sl':Array (Option Value)} {vs:Array Value} {pos:Pos} (a:PySem.W.nsIn K mainGlobals x=some (some (.ref f))) (l:K.lookup f=some ⟨oc,od,.func fd,sl⟩)
    (e:fd.code=.ref c) (lc:K.lookup c=some ⟨oc',od',.fields vs,sl'⟩) (h11:(vs[11]?:Option Value)=some (.ref P)) (hp:qjB fd.body=some pos) :
    qgb K x=some (P,#[rawInt pos.line,rawInt pos.col,.str (fd.qualname++".<locals>."++"<lambda>") 0]):=by
  unfold qgb
  simp only [a,l,e,lc,h11,hp]
theorem qhb {K:PySem.W.Frag} {c P:Addr} {o:Obj} (h:K.lookup c=some o) (v:PySem.W.codeHdIn [(c,o)] c P=true):PySem.W.codeHdIn K c P=true:=by
  have e:List.lookup c [(c,o)]=some o:=by simp
  unfold PySem.W.codeHdIn at v ⊢
  rw [h]
  rw [e] at v
  exact v
theorem qeb {K:PySem.W.Frag} {x:Str} (a:PySem.W.nsIn K mainGlobals x=some none):qgb K x=none:=by
  unfold qgb
  simp only [a]
theorem qep {K:PySem.W.Frag} {t:Addr × Array Value} (h1:qgb K "least_grown"=some t) (h2:qgb K "greatest_first"=none):qa1 K=[t]:=by
  unfold qa1
  simp [h1,h2]
def qfM (K:PySem.W.Frag):Hp:=fun b=>((qa1 K).find? fun u=>u.1 == b).map fun u=>HO.tbl u.2
theorem qio {P:Program} {w:World} {K:PySem.W.Frag} {mg mb:Str→Option Value} {CX:CXT} {k:Nat} {fa a:Addr} {fd:FuncData} {x:Str} {sp:Sp} {s₁:Shared} {vs:List Value} {ns:List Int}
    (KX:K.In s₁.heap) (hns:s₁.heap.Ns mainGlobals mg) (hb:s₁.heap.Ns builtinsNs mb) (hbb:∀ x:Str,x≠"__name__"→mb x=bootBuiltins x) (hlim:s₁.heap.NoLimit)
    (hbm:∃ bm ob,mg "__builtins__"=some (.ref bm)∧bm≠builtinsNs∧s₁.heap.get? bm=some ob∧ob.cls=.type "module"∧ob.dict=some builtinsNs∧ob.data=.plain) (hg:s₁.gens=#[])
    (ha:s₁.heap.get? a=some { cls:=.type "list",data:=.seq vs.toArray }) (hi:IntsAre vs ns) (hl:ns.length≤sizeLine) (hr:Room k callerA)
    (F:∀ base:Heap,K.In base→base.Ns mainGlobals mg→FnOk P w K mg base CX k fa fd [x] sp) (hbind:∀ (s:Shared) (u:Value),BindsTo s fd ⟨[u],[]⟩ [(x,u)])
    (hT:∀ t∈qa1 K,s₁.heap.get? t.1=some (PySem.W.tabObj #[])∧K.lookup t.1=none∧isCodeTable s₁.heap t.1) (hnd:∀ t∈qa1 K,∀ u∈qa1 K,t.1=u.1→t=u)
    (hsp:∀ H:Hp,SqL K H a (ns.map V.int)→TabF K H→sp [.ref a] H (fun v _=>v=.bl true) fun _ _ _=>False)
    (hCX:∀ H e s',CX [] H s₁ (fun _ _ _=>False) e s'→False) :
    codeAny (model P w) callerA (.call (.ref fa) ⟨[.ref a],[]⟩) (fun r s'=>r=.ok (.ret (.bool true))∧OldK s₁.heap s'.heap∧s'.os=s₁.os∧AllBare s'.gens) s₁:=by
  have rv:=qfk hi
  have lenV:=hi.length
  have core:∀ H:Hp,SqL K H a (ns.map V.int)→TabF K H→(∀ b u,H b=some u→(b=a∧K.lookup a=none∧u=.frz { cls:=.type "list",data:=.seq vs.toArray } (.lst (ns.map V.int)))∨∃ t∈qa1 K,t.1=b∧u=.tbl t.2) →
      codeAny (model P w) callerA (.call (.ref fa) ⟨[.ref a],[]⟩) (fun r s'=>r=.ok (.ret (.bool true))∧OldK s₁.heap s'.heap∧s'.os=s₁.os∧AllBare s'.gens) s₁:=by
    intro H hS hTab hcl
    have hok:HOk P w H s₁.heap:=fun b u e=>by
      rcases hcl b u e with ⟨rfl,_,rfl⟩ | ⟨t,ht,rfl,rfl⟩
      · exact ⟨ha,by rw [List.length_map];exact hl,vs,_,rv,ha⟩
      · exact .inl (hT t ht).1
    have base_of:∀ {b:Addr} {o:Obj},s₁.heap.get? b=some o→H b=none→(qjd s₁.heap H).get? b=some o:=fun e n=>qjb e n
    have noO:∀ {b:Addr} {o:Obj},s₁.heap.get? b=some o→(o={ cls:=.type "list",data:=.seq vs.toArray }→False)→(o=PySem.W.tabObj #[]→False)→H b=none:=fun {b o} e n1 n2=>by
      cases q:H b with
      | none=>rfl
      | some u =>
        rcases hcl b u q with ⟨rfl,_,_⟩ | ⟨t,ht,rfl,_⟩
        · rw [ha] at e;cases e;exact (n1 rfl).elim
        · rw [(hT t ht).1] at e;cases e;exact (n2 rfl).elim
    have nsK:∀ {b:Addr} {m:Str→Option Value},s₁.heap.Ns b m→(qjd s₁.heap H).Ns b m:=fun {b m} hq0=>by obtain ⟨o,es,ep,e,d,r⟩:=hq0;exact ⟨o,es,ep,base_of e (noO e (fun z=>by rw [z] at d;cases d) fun z=>by rw [z] at d;cases d),d,r⟩
    have hKb:K.In (qjd s₁.heap H):=fun b o e=>base_of (KX b o e) (by
      cases q:H b with
      | none=>rfl
      | some u =>
        rcases hcl b u q with ⟨rfl,z,_⟩ | ⟨t,ht,rfl,_⟩
        · rw [z] at e;cases e
        · rw [(hT t ht).2.1] at e;cases e)
    have hM:Mod K mg (qjd s₁.heap H):=⟨hKb,nsK hns,⟨mb,nsK hb,hbb⟩,let ⟨mc,h1,h2⟩:=hlim;⟨mc,nsK h1,h2⟩,let ⟨bm,ob,b1,b2,b3,b4,b5,b6⟩:=hbm;⟨bm,ob,b1,b2,base_of b3 (noO b3 (fun z=>by rw [z] at b6;cases b6) fun z=>by rw [z] at b6;cases b6),b4,b5,b6⟩⟩
    have e0:Env0 P w K mg (qjd s₁.heap H) callerA [] s₁ H:=⟨rfl,hM,fun b o e=>qkb e,Nat.le_of_eq (qhF _ _),trivial,fun b hb=>absurd (show b∈([]:List Addr) from hb) (by simp),hok,.of_eq hg⟩
    refine codeAny_mono ((F _ hKb (nsK hns)).run callerA [] s₁ H ⟨[.ref a],[]⟩ [.ref a] [.ref a] _ _ hr e0 (hbind s₁ (.ref a)) (.cons rfl .nil) (hsp H hS hTab)) fun r s' h=>?_
    cases r with
    | error e=>exact (hCX H e s' h).elim
    | ok fl =>
      cases fl with
      | next=>exact False.elim h
      | brk=>exact False.elim h
      | cont=>exact False.elim h
      | ret u =>
        obtain ⟨v,H',os,bare,un,hok',r',q⟩:=h
        have q':v=.bl true:=q
        subst q'
        obtain rfl:u=Value.bool true:=r'
        refine ⟨rfl,⟨fun b o e=>?_,fun b o e=>un.there b o e (by simp)⟩,os,bare⟩
        cases q:H b with
        | none=>exact .inl (un.keep b o e q (by intro z;exact absurd (show b∈([]:List Addr) from z) (by simp)) (by simp))
        | some u =>
          rcases hcl b u q with ⟨rfl,_,rfl⟩ | ⟨t,ht,rfl,rfl⟩
          · obtain ⟨e1,_⟩:=hok b _ q
            obtain ⟨e2,_⟩:=hok' b _ (un.frzs b _ _ q)
            rw [e] at e1;cases e1
            exact .inl e2
          · rw [(hT t ht).1] at e
            cases e
            rcases (show ObjOk P w H' s'.heap t.1 (.tbl t.2) from hok' t.1 _ (un.tbls t.1 _ q)) with z | ⟨c,oc,us,y,z,qq,t1,t2,_,_,z3,_⟩
            · exact .inl z
            · exact .inr (.inl ⟨(hT t ht).2.2,rfl,#[],#[y,z,.ref c],rfl,by simpa using z3⟩)
  have tabH:∀ t∈qa1 K,qfM K t.1=some (.tbl t.2):=fun t ht=>by
    unfold qfM
    cases e:(qa1 K).find? fun u=>u.1 == t.1 with
    | none=>have:=List.find?_eq_none.mp e t ht;simp at this
    | some u =>
      have h1:=List.find?_some e
      have h2:=List.mem_of_find?_eq_some e
      have h3:u=t:=hnd u h2 t ht (by simpa using h1)
      rw [h3];rfl
  have tabI:∀ b u,qfM K b=some u→∃ t∈qa1 K,t.1=b∧u=.tbl t.2:=fun b u h=>by
    unfold qfM at h
    cases e:(qa1 K).find? fun u=>u.1 == b with
    | none=>rw [e] at h;cases h
    | some t =>
      rw [e] at h
      cases h
      exact ⟨t,List.mem_of_find?_eq_some e,by simpa using List.find?_some e,rfl⟩
  have naT:∀ t∈qa1 K,t.1≠a:=fun t ht z=>by
    have:=(hT t ht).1
    rw [z,ha] at this
    cases this
  cases hk:K.lookup a with
  | some o =>
    have e:=KX a o hk
    rw [ha] at e
    cases e
    exact core (qfM K) (.inr ⟨_,vs.toArray,_,hk,rfl,rfl,rfl,by rw [List.size_toArray,lenV];exact hl,by simpa using rv⟩) tabH fun b u z=>.inr (tabI b u z)
  | none =>
    refine core (fun b=>if b=a then some (.frz { cls:=.type "list",data:=.seq vs.toArray } (.lst (ns.map V.int))) else qfM K b) (.inl (.inr ⟨{ cls:=.type "list",data:=.seq vs.toArray },if_pos rfl⟩)) (fun t ht=>?_) fun b u z=>?_
    · show (if t.1=a then _ else qfM K t.1)=_
      rw [if_neg (naT t ht)]
      exact tabH t ht
    · by_cases hb:b=a
      · have z':=(if_pos hb).symm.trans z
        cases z'
        exact .inl ⟨hb,hk,rfl⟩
      · have z':=(if_neg hb).symm.trans z
        exact .inr (tabI b u z')
theorem walk_ofT {l:PySem.W.OpenLaw} {n k:Nat} {q:Program} {loose:List Str} {XP:(Str→Option Value)→Heap→Prop} {YP:World→Heap→Prop} {d:DefRec} {K:Params→PySem.W.Frag} {CX:World→CXT} {sp:World→Sp} {x:Str}
    (hn:l.most=some n) (hn2:n≤sizeLine) (hdf:d.params.defaults=[]) (hr:Room k callerA)
    (hY:∀ (w:World) (h:Heap),YP w h→(K w.params).In h)
    (hT:∀ (w:World) (h:Heap),YP w h→∀ t∈qa1 (K w.params),h.get? t.1=some (PySem.W.tabObj #[])∧(K w.params).lookup t.1=none∧isCodeTable h t.1) (hnd:∀ (w:World),∀ t∈qa1 (K w.params),∀ u∈qa1 (K w.params),t.1=u.1→t=u)
    (F:∀ (w:World) (mg:Str→Option Value) (fa:Addr) (h:Heap),(K w.params).In h→h.Ns mainGlobals mg→mg d.name=some (.ref fa) →
      ∃ fd:FuncData,(∀ (s:Shared) (u:Value),BindsTo s fd ⟨[u],[]⟩ [(x,u)]) ∧
        ∀ base:Heap,(K w.params).In base→base.Ns mainGlobals mg→FnOk l.prog w (K w.params) mg base (CX w) k fa fd [x] (sp w))
    (hsp:∀ (w:World) (H:Hp) (a:Addr) (ns:List Int),ns.length≤n→SqL (K w.params) H a (ns.map V.int)→TabF (K w.params) H→sp w [.ref a] H (fun v _=>v=.bl true) fun _ _ _=>False)
    (hCX:∀ (w:World) (H:Hp) (s:Shared) (e:Value) (s':Shared),CX w [] H s (fun _ _ _=>False) e s'→False) :
    PySem.W.WalkO q loose XP YP l.row.toRowW d [] (fun f vs=>PySem.call f vs):=by
  refine Att.attach_call hn hdf fun w s₀ s₁ mg mb fa o pm cd doc a vs ns G Y ho hd hcd hmg hobj hints hlen hg=>?_
  have KX:=hY w _ Y
  obtain ⟨fd,hb,hF⟩:=F w mg fa _ KX G.T.g hmg
  exact qio KX G.T.g G.T.b G.T.builtins G.T.nolimit G.T.bmain hg hobj hints (Nat.le_trans hlen hn2) hr hF hb (hT w _ Y) (hnd w) (fun H hS hTb=>hsp w H a ns hlen hS hTb) fun H e s'=>hCX w H s₁ e s'
end L2
namespace L2
open PySem PySem.W PyProof.Rows
def Go {α:Type} (f:Nat→Nat→Bool) (N:Nat) (P:α→Prop):KasT α→Prop
  | .ret a=>P a
  | .ask i j k=>i<N∧j<N∧Go f N P (k (f i j))
theorem Go.bind {α β:Type} {f:Nat→Nat→Bool} {N:Nat} {P:α→Prop} {P':β→Prop} {g:α→KasT β}:∀ {t:KasT α},Go f N P t→(∀ a,P a→Go f N P' (g a))→Go f N P' (t.bind g)
  | .ret a,h,hg=>hg a h
  | .ask i j k,h,hg=>⟨h.1,h.2.1,Go.bind (t:=k (f i j)) h.2.2 hg⟩
theorem Go.imp {α:Type} {f:Nat→Nat→Bool} {N:Nat} {P P':α→Prop}:∀ {t:KasT α},Go f N P t→(∀ a,P a→P' a)→Go f N P' t
  | .ret a,h,hg=>hg a h
  | .ask i j k,h,hg=>⟨h.1,h.2.1,Go.imp (t:=k (f i j)) h.2.2 hg⟩
theorem Go.wp {α:Type} {f:Nat→Nat→Bool} {N:Nat} {P:α→Prop} {cmp:Nat→Nat→(Bool→Shared→Prop)→Shared→Prop} {Q:α→Shared→Prop} {s:Shared}
    (hc:∀ i j (C:Bool→Shared→Prop),i<N→j<N→C (f i j) s→cmp i j C s) (hq:∀ a,P a→Q a s):∀ {t:KasT α},Go f N P t→t.kasWp cmp Q s
  | .ret a,h=>hq a h
  | .ask i j k,h=>hc i j _ h.1 h.2.1 (Go.wp hc hq (t:=k (f i j)) h.2.2)
section
variable {key : Nat → Int} {N : Nat} {p : Array Nat}
def Ky (key:Nat→Int) (p:Array Nat) (i:Nat):Int:=key (p.getD i 0)
abbrev fk (key:Nat→Int):Nat→Nat→Bool:=fun i j=>decide (key i<key j)
def Asc (key:Nat→Int) (p:Array Nat) (n:Nat):Prop:=∀ i,i+1<n→Ky key p i<Ky key p (i+1)
def Dsc (key:Nat→Int) (p:Array Nat) (n:Nat):Prop:=∀ i,i+1<n→Ky key p (i+1)<Ky key p i
structure Pm (key:Nat→Int) (N:Nat) (p:Array Nat):Prop where
  sz:p.size=N
  pm:p.Perm (List.range N).toArray
theorem qfH {p:Array Nat} {i:Nat} (h:i<p.size):p[i]?=some (p.getD i 0):=by simp [Array.getD,h]
theorem Pm.lt (h:Pm key N p) (hN:0<N) (i:Nat):p.getD i 0<N:=by
  by_cases c:i<p.size
  · have h1:p.getD i 0∈p:=by
      have e:p.getD i 0=p[i]:=by simp [Array.getD,c]
      rw [e]
      exact Array.getElem_mem c
    have h2:=(h.pm.mem_iff).mp h1
    simpa using h2
  · have e:p.getD i 0=0:=by simp [Array.getD,c]
    rw [e]
    exact hN
theorem Pm.inj (h:Pm key N p) {i j:Nat} (hi:i<N) (hj:j<N) (e:p.getD i 0=p.getD j 0):i=j:=by
  have nd:p.toList.Nodup:=by
    have:=h.pm.toList
    exact this.nodup_iff.mpr (by simpa using List.nodup_range)
  have e1:p.toList[i]?=some (p.getD i 0):=by rw [Array.getElem?_toList];exact qfH (by rw [h.sz];exact hi)
  have e2:p.toList[j]?=some (p.getD j 0):=by rw [Array.getElem?_toList];exact qfH (by rw [h.sz];exact hj)
  obtain ⟨h1,q1⟩:=List.getElem?_eq_some_iff.mp e1
  obtain ⟨h2,q2⟩:=List.getElem?_eq_some_iff.mp e2
  exact (List.getElem_inj nd).mp (q1.trans (e.trans q2.symm))
variable (hk : ∀ i j, i < N → j < N → key i = key j → i = j)
include hk
theorem Pm.ne (h:Pm key N p) {i j:Nat} (hi:i<N) (hj:j<N) (hne:i≠j):Ky key p i≠Ky key p j:=fun e =>
  hne (h.inj hi hj (hk _ _ (h.lt (by omega) i) (h.lt (by omega) j) e))
theorem qhR (h:Pm key N p):∀ f n,1≤n→n+f≤N→Asc key p n→Go (fk key) N (fun m=>n≤m∧m≤n+f∧Asc key p m∧(m<n+f→Ky key p m<Ky key p (m - 1))) (kas_asc p f n)
  | 0,n,_,_,ha=>⟨Nat.le_refl _,Nat.le_refl _,ha,fun h=>absurd h (by omega)⟩
  | f+1,n,h1,h2,ha=>by
    refine ⟨h.lt (by omega) n,h.lt (by omega) (n - 1),?_⟩
    by_cases c:key (p.getD n 0)<key (p.getD (n - 1) 0)
    · simp only [fk,decide_eq_true c,if_true]
      exact ⟨Nat.le_refl _,by omega,ha,fun _=>c⟩
    · simp only [fk,decide_eq_false c,Bool.false_eq_true,if_false]
      have hne:=h.ne hk (i:=n) (j:=n - 1) (by omega) (by omega) (by omega)
      have hlt:Ky key p (n - 1)<Ky key p n:=by
        have c':¬ Ky key p n<Ky key p (n - 1):=c
        omega
      refine (qhR h f (n+1) (by omega) (by omega) fun i hi=>?_).imp fun m hm=>⟨by omega,by omega,hm.2.2.1,fun z=>hm.2.2.2 (by omega)⟩
      by_cases e:i+1=n
      · have e':n - 1=i:=by omega
        rw [e'] at hlt
        rw [e]
        exact hlt
      · exact ha i (by omega)
theorem qh7 (h:Pm key N p):∀ f n,1≤n→n+f≤N→Dsc key p n→Go (fk key) N (fun r=>r.1=p∧n≤r.2.1∧r.2.1≤n+f∧r.2.2=0∧Dsc key p r.2.1) (kas_desc f p n 0)
  | 0,n,_,_,ha=>⟨rfl,Nat.le_refl _,Nat.le_refl _,rfl,ha⟩
  | f+1,n,h1,h2,ha=>by
    refine ⟨h.lt (by omega) n,h.lt (by omega) (n - 1),?_⟩
    have hne:=h.ne hk (i:=n) (j:=n - 1) (by omega) (by omega) (by omega)
    by_cases c:key (p.getD n 0)<key (p.getD (n - 1) 0)
    · simp only [fk,decide_eq_true c,if_true]
      rw [if_neg (by omega)]
      refine (qh7 h f (n+1) (by omega) (by omega) fun i hi=>?_).imp fun r hr=>⟨hr.1,by omega,by omega,hr.2.2.2⟩
      by_cases e:i+1=n
      · have e':n - 1=i:=by omega
        rw [e]
        have c':Ky key p n<Ky key p (n - 1):=c
        rw [e'] at c'
        exact c'
      · exact ha i (by omega)
    · simp only [fk,decide_eq_false c,Bool.false_eq_true,if_false]
      refine ⟨h.lt (by omega) (n - 1),h.lt (by omega) n,?_⟩
      have c2:key (p.getD (n - 1) 0)<key (p.getD n 0):=by
        have c':¬ Ky key p n<Ky key p (n - 1):=c
        show Ky key p (n - 1)<Ky key p n
        omega
      simp only [decide_eq_true c2,if_true]
      exact ⟨rfl,Nat.le_refl _,by show n≤n+(f+1);omega,rfl,ha⟩
omit hk in
theorem Pm.rev (h:Pm key N p) {n:Nat}:Pm key N (kas_rev p 0 n):=⟨by unfold kas_rev;rw [mirror_size];exact h.sz,(mirror_perm ..).trans h.pm⟩
omit hk in
theorem qjT (h:Pm key N p) {n i:Nat} (hn:n≤N):Ky key (kas_rev p 0 n) i=if i<n then Ky key p (n - 1 - i) else Ky key p i:=by
  have e:=getElem?_mirror (xs:=p) (i:=0) (j:=n) (by rw [h.sz];exact hn) ((n - 0) / 2) (by omega) i
  have g:∀ (q:Array Nat) (k:Nat),q.getD k 0=(q[k]?).getD 0:=fun q k=>by simp [Array.getD_eq_getD_getElem?]
  unfold Ky kas_rev
  rw [g,e]
  by_cases c:i<n
  · rw [if_pos c]
    by_cases d:(0≤i∧i<0+(n - 0) / 2)∨(n - (n - 0) / 2≤i∧i<n)
    · rw [if_pos d,g]
      congr 3
      omega
    · rw [if_neg d,g]
      congr 3
      omega
  · rw [if_neg c,if_neg (by omega),g]
theorem qkV (h:Pm key N p) {n:Nat} (h1:1≤n) (h2:n≤N) (hd:Dsc key p n):Go (fk key) N (fun r=>1≤r.1∧r.1≤N∧Pm key N r.2∧Asc key r.2 r.1) (kas_tail3 n N p):=by
  unfold kas_tail3
  have ha:Asc key (kas_rev p 0 n) n:=fun i hi=>by
    rw [qjT h h2,qjT h h2,if_pos (by omega),if_pos hi]
    have:=hd (n - 1 - (i+1)) (by omega)
    have e:n - 1 - (i+1)+1=n - 1 - i:=by omega
    rw [e] at this
    exact this
  exact (qhR hk h.rev (N - n) n h1 (by omega) ha).bind fun m hm=>⟨by omega,by omega,h.rev,hm.2.2.1⟩
theorem qiw (h:Pm key N p) (h1:1≤N):Go (fk key) N (fun r=>1≤r.1∧r.1≤N∧Pm key N r.2∧Asc key r.2 r.1) (kas_count N p):=by
  unfold kas_count
  refine (qhR hk h (N - 1) 1 (by omega) (by omega) fun i hi=>absurd hi (by omega)).bind fun n hn=>?_
  obtain ⟨n1,n2,ha,hs⟩:=hn
  by_cases c:(n == N)=true
  · rw [if_pos c]
    exact ⟨n1,by omega,h,ha⟩
  · rw [if_neg c]
    have cn:n≠N:=fun e=>c (by simp [e])
    by_cases d:n>1
    · rw [if_pos d]
      refine ⟨h.lt (by omega) 0,h.lt (by omega) (n - 1),?_⟩
      have up:∀ k,0<k→k<n→Ky key p 0<Ky key p k:=by
        intro k
        induction k with
        | zero=>intro z;omega
        | succ k ih =>
          intro _ hkn
          have h3:=ha k hkn
          by_cases e:k=0
          · subst e;exact h3
          · have:=ih (by omega) (by omega)
            omega
      have c2:key (p.getD 0 0)<key (p.getD (n - 1) 0):=up (n - 1) (by omega) (by omega)
      simp only [fk,decide_eq_true c2,if_true]
      exact ⟨n1,by omega,h,ha⟩
    · rw [if_neg d]
      have e1:n=1:=by omega
      subst e1
      unfold kas_descPart
      have h2:=hs (by omega)
      refine (qh7 hk h (N - (1+1)) (1+1) (by omega) (by omega) fun i hi=>?_).bind fun r hr=>?_
      · have e:i=0:=by omega
        subst e
        exact h2
      · obtain ⟨e1,r1,r2,e2,hd⟩:=hr
        rw [if_neg (by omega),e1]
        exact qkV hk h (by omega) (by omega) hd
theorem qeH (h:Pm key N p) {k:Nat} (hkN:k<N) (ha:Asc key p k):∀ f l r,l≤r→r≤k→r - l≤f→(∀ i,i<l→Ky key p i<Ky key p k)→(∀ i,r≤i→i<k→Ky key p k<Ky key p i) →
    Go (fk key) N (fun m=>m≤k∧(∀ i,i<m→Ky key p i<Ky key p k)∧∀ i,m≤i→i<k→Ky key p k<Ky key p i) (kas_place p k f l r)
  | 0,l,r,h1,h2,h3,h4,h5=>⟨by omega,h4,fun i hi=>h5 i (by omega)⟩
  | f+1,l,r,h1,h2,h3,h4,h5=>by
    have mono:∀ i j,i<j→j<k→Ky key p i<Ky key p j:=by
      intro i j
      induction j with
      | zero=>intro z;omega
      | succ j ih =>
        intro hij hjk
        have:=ha j hjk
        by_cases e:i=j
        · subst e;exact this
        · have:=ih (by omega) (by omega)
          omega
    unfold kas_place
    by_cases c:l≥r
    · rw [if_pos c]
      exact ⟨by omega,h4,fun i hi=>h5 i (by omega)⟩
    · rw [if_neg c]
      refine ⟨h.lt (by omega) k,h.lt (by omega) _,?_⟩
      have hne:=h.ne hk (i:=k) (j:=(l+r) / 2) (by omega) (by omega) (by omega)
      by_cases d:key (p.getD k 0)<key (p.getD ((l+r) / 2) 0)
      · simp only [fk,decide_eq_true d,if_true]
        refine qeH h hkN ha f l ((l+r) / 2) (by omega) (by omega) (by omega) h4 fun i hi hik=>?_
        have d':Ky key p k<Ky key p ((l+r) / 2):=d
        by_cases e:i=(l+r) / 2
        · rw [e];exact d'
        · have:=mono ((l+r) / 2) i (by omega) hik
          omega
      · simp only [fk,decide_eq_false d,Bool.false_eq_true,if_false]
        refine qeH h hkN ha f ((l+r) / 2+1) r (by omega) (by omega) (by omega) (fun i hi=>?_) h5
        have d':¬ Ky key p k<Ky key p ((l+r) / 2):=d
        by_cases e:i=(l+r) / 2
        · rw [e];omega
        · have:=mono i ((l+r) / 2) (by omega) (by omega)
          omega
omit hk in
theorem Pm.bub (h:Pm key N p) {k d:Nat}:Pm key N (bubble p k d):=⟨by rw [bubble_size];exact h.sz,(bubble_perm ..).trans h.pm⟩
theorem qjJ:∀ f (p:Array Nat) k,Pm key N p→k+f=N→1≤k→Asc key p k→Go (fk key) N (fun q=>Pm key N q∧Asc key q N) (kas_bin f p k)
  | 0, p, k, h, e, _, ha => ⟨h, by have : k = N := by omega
                                   subst this;exact ha⟩
  | f+1,p,k,h,e,h1,ha=>by
    unfold kas_bin
    refine (qeH hk h (by omega) ha k 0 k (by omega) (by omega) (by omega) (fun i hi=>absurd hi (by omega)) fun i hi hi2=>absurd hi (by omega)).bind fun l hl=>?_
    obtain ⟨l1,l2,l3⟩:=hl
    refine qjJ f _ (k+1) h.bub (by omega) (by omega) fun i hi=>?_
    have g:∀ (q:Array Nat) (k:Nat),q.getD k 0=(q[k]?).getD 0:=fun q k=>by simp [Array.getD_eq_getD_getElem?]
    have ky:∀ j,Ky key (bubble p k (k - l)) j=if j=l then Ky key p k else if l<j∧j≤k then Ky key p (j - 1) else Ky key p j:=fun j=>by
      have e:=getElem?_bubble (xs:=p) (src:=k) (by rw [h.sz];omega) (k - l) (by omega) j
      have e1:k - (k - l)=l:=by omega
      rw [e1] at e
      unfold Ky
      rw [g,e]
      by_cases c:j=l
      · rw [if_pos c,if_pos c,g]
      · rw [if_neg c,if_neg c]
        by_cases d:l<j∧j≤k
        · rw [if_pos d,if_pos d,g]
        · rw [if_neg d,if_neg d,g]
    rw [ky,ky]
    by_cases c1:i=l
    · subst c1
      rw [if_pos rfl,if_neg (by omega),if_pos (by omega)]
      exact l3 _ (by omega) (by omega)
    · rw [if_neg c1]
      by_cases c2:i+1=l
      · rw [if_pos c2,if_neg (by omega)]
        exact l2 i (by omega)
      · rw [if_neg c2]
        by_cases c3:l<i
        · rw [if_pos (by omega),if_pos (by omega)]
          have:=ha (i - 1) (by omega)
          have e1:i - 1+1=i:=by omega
          rw [e1] at this
          exact this
        · rw [if_neg (by omega),if_neg (by omega)]
          exact ha i (by omega)
theorem qkx (h1:1≤N):Go (fk key) N (fun q=>Pm key N q∧Asc key q N) (kas_sort N):=by
  unfold kas_sort
  have h0:Pm key N (List.toArray (List.range N)):=⟨by simp,Array.Perm.refl _⟩
  refine (qiw hk h0 h1).bind fun r hr=>?_
  obtain ⟨r1,r2,hp,ha⟩:=hr
  by_cases c:r.1<N
  · rw [if_pos c]
    have e:max r.1 1=r.1:=by omega
    rw [e]
    exact qjJ hk (N - r.1) r.2 r.1 hp (by omega) r1 ha
  · rw [if_neg c]
    have e:r.1=N:=by omega
    rw [e] at ha
    exact ⟨hp,ha⟩
end
end L2
namespace L2
open PySem PySem.Spec PySem.W PyProof.Rows PySem.Calls
section
variable {prog : Program} {w : World} {A : Around} {E : Value → Shared → Prop} {s : Shared} {h₀ : Heap} {L a : Addr} {m : Str → Option Value} {news : List (Addr × Obj)} {vs : List Value}
theorem qg4 {n:Nat} {P:PySem.Fin→Shared→Prop} (F:Fr h₀ L s.heap m) (N:News h₀ L s.heap news) (ho:s.heap.get? a=some (seqObj "list" vs.toArray n)) (haL:a≠L) (ha0:h₀.get? a=none) (hna:∀ p∈news,p.1≠a)
    (h2:vs.length<2) (h:∀ h' c,Fr h₀ L h' m→News h₀ L h' ((a,seqObj "list" vs.toArray c)::news)→P (.done (.ret .none)) { s with heap:=h' }) :
    wpAny (model prog w) A (Builtin.«list.sort» ⟨[.ref a],[]⟩) P E s:=by
  have ha:a<s.heap.objs.size:=Heap.lt_size ho
  have s1:=Heap.SameBut.update s.heap a (Obj.mapSeq fun _=>(#[]:Array Value))
  obtain ⟨e1,ho1⟩:∃ e1,(s.heap.update a (Obj.mapSeq fun _=>(#[]:Array Value))).get? a=some (seqObj "list" #[] e1):=⟨_,get?_update_seq ho fun _=>#[]⟩
  have F3:Fr h₀ L (((s.heap.update a (Obj.mapSeq fun _=>(#[]:Array Value))).push (seqObj "tuple" vs.toArray 0)).push (seqObj "list" #[] 0)) m:=((kas_fr F s1 haL ha0).push _).push _
  have N2:News h₀ L (((s.heap.update a (Obj.mapSeq fun _=>(#[]:Array Value))).push (seqObj "tuple" vs.toArray 0)).push (seqObj "list" #[] 0)) news :=
    (kas_news N s1 hna).grown fun b x e=>Heap.get?_push_of_some _ (Heap.get?_push_of_some _ e)
  have ho3:(((s.heap.update a (Obj.mapSeq fun _=>(#[]:Array Value))).push (seqObj "tuple" vs.toArray 0)).push (seqObj "list" #[] 0)).get? a=some (seqObj "list" #[] e1):=Heap.get?_push_of_some _ (Heap.get?_push_of_some _ ho1)
  rw [list_sort_plain]
  refine wpAny_bind (listItems_at ho rfl ?_)
  refine wpAny_bind (listUpdate_at ho rfl ?_ (by rw [List.size_toArray,sizeLine_eq];omega) (Nat.zero_le _))
  refine wpAny_bind (seqEpoch_at ho1 rfl ?_)
  refine wpAny_bind (wpAny_newTuple ?_ (by show vs.length≤_;rw [sizeLine_eq];omega))
  refine wpAny_bind (wpAny_newList ?_ (Nat.zero_le _))
  refine wpAny_holding ?_
  show wpAny (model prog w) A _ P E { s with heap:=((s.heap.update a (Obj.mapSeq fun _=>(#[]:Array Value))).push (seqObj "tuple" vs.toArray 0)).push (seqObj "list" #[] 0) }
  dsimp only
  have hn2:vs.toArray.size<2:=by rw [List.size_toArray];omega
  rw [if_pos hn2,if_pos hn2]
  refine wpAny_bind (wpAny_pure ?_)
  refine wpAny_bind (wpAny_of_eq (show (pure ():StateT SortSt Sem Unit).run (SortSt.mk' general' (vs.toArray.zip vs.toArray) #[] 7 none)=pure ((),SortSt.mk' general' (vs.toArray.zip vs.toArray) #[] 7 none) from rfl) ?_)
  dsimp only
  have hout:(arrOf (SortSt.mk' general' (vs.toArray.zip vs.toArray) #[] 7 none)).map (·.2)=vs.toArray:=by
    show (vs.toArray.zip vs.toArray).map (·.2)=vs.toArray
    have key:∀ l:List Value,(l.zip l).map (·.2)=l:=by
      intro l
      induction l with
      | nil=>rfl
      | cons x t ih=>rw [List.zip_cons_cons,List.map_cons,ih]
    apply Array.toList_inj.mp
    simp [key]
  rw [hout]
  generalize ((s.heap.update a (Obj.mapSeq fun _=>(#[]:Array Value))).push (seqObj "tuple" vs.toArray 0)).push (seqObj "list" #[] 0)=h3 at *
  have s2:=Heap.SameBut.update h3 a (Obj.mapSeq fun _=>vs.toArray)
  obtain ⟨c2,hc2⟩:∃ c2,(h3.update a (Obj.mapSeq fun _=>vs.toArray)).get? a=some (seqObj "list" vs.toArray c2):=⟨_,get?_update_seq ho3 fun _=>vs.toArray⟩
  refine wpAny_bind (seqEpoch_at ho3 rfl ?_)
  refine wpAny_bind (listUpdate_at ho3 rfl ?_ (Nat.zero_le _) (by rw [List.size_toArray,sizeLine_eq];omega))
  simp only [bne_self_eq_false,Bool.false_eq_true,if_false]
  refine wpAny_pure (h _ c2 (kas_fr F3 s2 haL ha0) fun p hp=>?_)
  rcases List.mem_cons.mp hp with rfl | hp
  · exact ⟨hc2,haL,ha0⟩
  · exact kas_news N2 s2 hna p hp
theorem qfB {l:Addr} {Q:Value→Shared→Prop} (F:Fr h₀ L s.heap m) (N:News h₀ L s.heap news) (hl:s.heap.IsList l vs.toArray) (h2:vs.length<2)
    (h:∀ D h' c,Fr h₀ L h' m→News h₀ L h' ((D,seqObj "list" vs.toArray c)::news)→s.heap.objs.size≤D→Q (.ref D) { s with heap:=h' }) :
    wpAny (model prog w) A (call (.builtin "sorted") [.ref l]) Q E s:=by
  refine Calls.call_function_entry kind_sorted plain_sorted entry_sorted (args_sorted1 _) ?_
  unfold Builtin.«sorted»
  refine wpAny_bind (m:=checkCount "sorted" 1 1 _) (wpAny_pure ?_)
  refine wpAny_bind (collect_list hl ?_ (by rw [sizeLine_eq];omega))
  refine wpAny_bind (wpAny_newList ?_ (by rw [sizeLine_eq];omega))
  have hsz:((s.heap.push (seqObj "list" #[] 0)).update s.heap.objs.size (Obj.mapSeq (·++vs.toArray))).objs.size=s.heap.objs.size+1:=by
    rw [Heap.size_update,size_push']
  have hoL:(((s.heap.push (seqObj "list" #[] 0)).update s.heap.objs.size (Obj.mapSeq (·++vs.toArray))).push (seqObj "list" vs.toArray 0)).get? (s.heap.objs.size+1)=some (seqObj "list" vs.toArray 0):=by
    rw [← hsz];exact Heap.get?_push_size _ rfl
  have keep:∀ b o,s.heap.get? b=some o→(((s.heap.push (seqObj "list" #[] 0)).update s.heap.objs.size (Obj.mapSeq (·++vs.toArray))).push (seqObj "list" vs.toArray 0)).get? b=some o:=fun b o q=>by
    have hlt:b<s.heap.objs.size:=Heap.lt_size q
    rw [Heap.get?_push_ne _ _ _ (by rw [hsz];exact Nat.ne_of_lt (Nat.lt_succ_of_lt hlt)),Heap.get?_update_ne _ _ _ _ (Nat.ne_of_lt hlt),Heap.get?_push_ne _ _ _ (Nat.ne_of_lt hlt)]
    exact q
  have hL:L<s.heap.objs.size:=F.ns.lt
  show wpAny _ _ _ _ _ { s with heap:=((s.heap.push (seqObj "list" #[] 0)).update s.heap.objs.size (Obj.mapSeq (·++vs.toArray))).push (seqObj "list" vs.toArray 0) }
  rw [hsz]
  refine wpAny_bind (wpAny_holding (wpAny_call_entry slot_list_sort ⟨_,hoL,rfl⟩ entry_list_sort ?body (args_list_sort _)))
  case body =>
    refine qg4 (s:={ s with heap:=((s.heap.push (seqObj "list" #[] 0)).update s.heap.objs.size (Obj.mapSeq (·++vs.toArray))).push (seqObj "list" vs.toArray 0) })
      (F.kept keep) (N.grown keep) hoL (Nat.ne_of_gt (Nat.lt_succ_of_lt hL)) (Heap.get?_none_of_le (Nat.le_trans F.above (Nat.le_succ_of_le (Nat.le_of_lt hL))))
      (fun p hp=>Nat.ne_of_lt (Nat.lt_succ_of_lt (Heap.lt_size (N p hp).1))) h2 fun h' c F' N'=>?_
    exact ⟨_,rfl,wpAny_pure ⟨_,rfl,h _ h' c F' N' (Nat.le_succ _)⟩⟩
theorem qlf {x y:Addr} {a1 a2 b1 b2:Int} {t1 t2 u1 u2:Tok} {Q:Bool→Shared→Prop} (hx:IsTup s.heap x #[.int a1 t1,.int a2 t2]) (hy:IsTup s.heap y #[.int b1 u1,.int b2 u2])
    (h:Q (decide (a1<b1)) s) (he:a1=b1→a2=b2):wpAny (model prog w) A (keyLt' (tuples' true) (.ref x) (.ref y)) Q E s:=by
  obtain ⟨ox,hox,_,n,hdx⟩:=hx
  obtain ⟨oy,hoy,_,k,hdy⟩:=hy
  refine kat_lt hox hdx hoy hdy ?_
  refine kat_cons (wpAny_eqBool_int ?_)
  by_cases c:a1=b1
  · subst c
    have c2:=he rfl
    subst c2
    have e1:(a1 == a1)=true:=by simp
    rw [e1]
    refine kat_yes (kat_cons (wpAny_eqBool_int ?_))
    have e2:(a2 == a2)=true:=by simp
    rw [e2]
    refine kat_yes (kat_nil ?_)
    have e3:decide (a1<a1)=false:=by simp
    rw [e3] at h
    exact h
  · have e1:(a1 == b1)=false:=by simpa using c
    rw [e1]
    refine kat_no ?_
    show wpAny _ _ (oneLt' true _ _) _ _ _
    exact kat_lt_int h
end
end L2
namespace L2
open PySem PySem.Spec PySem.W PyProof.Rows PySem.Calls
theorem HOk.there {P:Program} {w:World} {H:Hp} {h:Heap} {a:Addr} {o:HO} (x:HOk P w H h) (e:H a=some o):∃ ob,h.get? a=some ob:=by
  have x:=x a o e
  cases o with
  | lst xs=>obtain ⟨_,_,_,_,e⟩:=x;exact ⟨_,e⟩
  | tup xs=>obtain ⟨_,_,_,ob,e,_⟩:=x;exact ⟨_,e⟩
  | dK kvs=>obtain ⟨_,_,_,_,o,_,_,e,_⟩:=x;exact ⟨_,e⟩
  | dT kvs=>obtain ⟨_,_,_,_,o,_,_,e,_⟩:=x;exact ⟨_,e⟩
  | set S n=>obtain ⟨o,_,_,_,e,_⟩:=x;exact ⟨_,e⟩
  | ins C dx fs=>obtain ⟨_,_,_,e,_⟩:=x;exact ⟨_,e⟩
  | own y=>obtain ⟨_,e⟩:=x;exact ⟨_,e⟩
  | xd fs=>obtain ⟨_,⟨_,_,_,e,_⟩,_⟩:=x;exact ⟨_,e⟩
  | rng lo hi=>obtain ⟨_,_,_,e⟩:=x;exact ⟨_,e⟩
  | frz ob u=>obtain ⟨e,_⟩:=x;exact ⟨_,e⟩
  | tbl ps=>rcases x with x | ⟨_,_,_,_,_,_,_,_,_,_,x,_⟩ <;> exact ⟨_,x⟩
  | met f y=>exact ⟨_,(show h.get? a=some _ from x)⟩
  | ext φ=>obtain ⟨_,⟨_,e⟩,_⟩:=x;exact ⟨_,e⟩
theorem Inv.listNew {X:Cx} {pins:List (Addr × Obj)} {σ:St} {H:Hp} {s:Shared} {h':Heap} {m:Str→Option Value} {Da:Addr} {vs:List V} {its:List Value} {c:Nat} (I:Inv X pins σ H s) (hm:s.heap.Ns X.env.locals m) (hm':h'.Ns X.env.locals m)
    (keep:∀ b o,b≠X.env.locals→s.heap.get? b=some o→h'.get? b=some o) (hD:s.heap.get? Da=none) (hDo:h'.get? Da=some (seqObj "list" its.toArray c)) (rv:Vals vs its) (hz:vs.length≤sizeLine) :
    H Da=none∧Inv X pins σ (upd H Da (.lst vs)) { s with heap:=h' }:=by
  have hn:H Da=none:=by
    cases e:H Da with
    | none=>rfl
    | some o=>obtain ⟨ob,q⟩:=I.hok.there e;rw [hD] at q;cases q
  refine ⟨hn,I.step (H':=upd H Da (.lst vs)) (h':=h') (g':=s.gens) (t':=s.toks) (d':=s.drawn) (ch:=[]) (fun b z=>absurd z (by simp)) (fun b o hL _ _ e _=>keep b o hL e) (fun b o hL _ _ e _=>⟨o.slots,keep b o hL e⟩) (fun b o _ e n=>?_) (fun b o _ e=>?_)
    (fun b xs e=>by rw [qax (qaw e hn)];exact e) (fun b o u e=>by rw [qax (qaw e hn)];exact e) (fun b ps e=>by rw [qax (qaw e hn)];exact e) (fun m' h2=>?_) (fun b u e=>?_) I.bare⟩
  · have hb:b≠Da:=fun z=>by rw [z,hD] at e;cases e
    rw [qax hb];exact n
  · by_cases hL:b=X.env.locals
    · obtain ⟨o',_,_,ho',_⟩:=hm'
      exact ⟨o',by rw [hL];exact ho'⟩
    · exact ⟨o,keep b o hL e⟩
  · rw [h2.eq_nsMap,← hm.eq_nsMap]
    exact hm'
  · by_cases hb:b=Da
    · subst hb
      rw [qan] at e
      cases e
      exact ⟨hz,its,c,rv,hDo⟩
    · rw [qax hb] at e
      refine (I.hok b u e).stay (fun d v hc q=>keep d v ?_ q) (fun d q=>by rw [qax (qaw q hn)];exact q) (fun d xs q=>by rw [qax (qaw q hn)];exact q) fun d ob w q=>by rw [qax (qaw q hn)];exact q
      rcases hc with z | z
      · rw [z];intro z2;rw [z2,I.free] at e;cases e
      · intro z2;rw [z2,I.free] at z;cases z
theorem qen {h:Heap}:∀ {its:List Value},(∀ v∈its,∃ (x:Addr) (a b:Int) (t t':Tok),v=.ref x∧IsTup h x #[.int a t,.int b t'])→∃ fs,KatTups h its fs∧fs.length=its.length∧∀ v∈fs,∃ (i:Int) (t:Tok),v=Value.int i t
  | [],_=>⟨[],.nil,rfl,fun v hv=>by simp at hv⟩
  | v::its,hv=>by
    obtain ⟨fs,h1,h2,h3⟩:=qen (its:=its) fun v' hv'=>hv v' (List.mem_cons_of_mem _ hv')
    obtain ⟨x,a,b,t,t',rfl,o,ho,hc,n,hd⟩:=hv v List.mem_cons_self
    refine ⟨.int a t::fs,.cons ho hc hd rfl h1,by simp [h2],fun v' hv'=>?_⟩
    rcases List.mem_cons.mp hv' with rfl | hv'
    · exact ⟨a,t,rfl⟩
    · exact h3 v' hv'
theorem qfl {vs:List V} {its:List Value} (r:Vals vs its):∀ l:List Nat,Vals (l.map fun i=>vs.getD i .non) (l.map fun i=>its.getD i .none)
  | []=>.nil
  | i::l=>by
    refine .cons ?_ (qfl r l)
    show RelV (vs.getD i .non) (its.getD i .none)
    rw [List.getD_eq_getElem?_getD,List.getD_eq_getElem?_getD]
    cases e:vs[i]? with
    | none=>rw [r.none_of e];rfl
    | some v=>obtain ⟨u,h1,h2⟩:=r.get e;rw [h1];exact h2
abbrev prT (p:Int × Int):D:=.tup [.int p.1,.int p.2]
def qlN:SpD:=fun ds R=>match ds with
  | [.lst es]=>∃ ps:List (Int × Int),es=ps.map prT∧ps.length<64∧(∀ (i j:Nat) (p q:Int × Int),ps[i]?=some p→ps[j]?=some q→p.1=q.1→i=j)∧∀ qs:List (Int × Int),qs.Perm ps→qs.Pairwise (fun a b=>a.1<b.1)→R (.lst (qs.map prT))
  | _=>False
theorem qc2 {α:Type} (d:α) (l:List α):(List.range l.length).map (fun i=>l.getD i d)=l:=by
  refine List.ext_getElem? fun i=>?_
  rw [List.getElem?_map]
  by_cases h:i<l.length
  · rw [List.getElem?_range h]
    show some (l.getD i d)=_
    rw [List.getD_eq_getElem?_getD,List.getElem?_eq_getElem h]
    rfl
  · rw [List.getElem?_eq_none (by rw [List.length_range];omega),List.getElem?_eq_none (by omega)]
    rfl
section
variable {K : PySem.W.Frag} {X : Cx}
theorem qeL:CallD K X (.builtin "sorted") qlN:=⟨fun hK pins s σ H xs us Q I rr hq0=>by
  obtain ⟨Φ,ds,R,sm,hl,h,k⟩:=hq0
  subst hK
  match ds,h with
  | [.lst es],⟨ps,hes,h64,hinj,hR⟩ =>
    subst hes
    obtain ⟨v,rfl,r⟩:=qcA hl
    obtain ⟨a,vs,rfl,q1,q2⟩:=r.lst sm
    cases rr with
    | cons r0 rr =>
    cases rr
    cases r0
    obtain ⟨hz,its,n,rvs,e1,e2⟩:=I.lstM q1
    have lv:vs.length=ps.length:=by rw [q2.1,List.length_map]
    have tp:∀ (i:Nat) (p:Int × Int),ps[i]?=some p→∃ (x:Addr) (t t':Tok),its[i]?=some (.ref x)∧IsTup s.heap x #[.int p.1 t,.int p.2 t']:=fun i p hp=>by
      obtain ⟨v,hv,rv⟩:=q2.at (i:=i) (d:=prT p) (by rw [List.getElem?_map,hp];rfl)
      cases rv with
      | @tup x ws _ h1 h2 h3 =>
        obtain ⟨u,hu,ru⟩:=rvs.get hv
        cases (show u=Value.ref x from ru)
        match ws,h2,h1,h3 with
        | [y,z],_,h1,h3 =>
          have r1:=h3 0 y (.int p.1) rfl rfl
          have r2:=h3 1 z (.int p.2) rfl rfl
          cases r1
          cases r2
          obtain ⟨its',r',p',_⟩:=I.tuple (sm.sqt h1)
          cases r' with
          | cons a1 r' =>
          cases r' with
          | cons a2 r' =>
          cases r'
          obtain ⟨t,rfl⟩:=a1
          obtain ⟨t',rfl⟩:=a2
          exact ⟨x,t,t',hu,p'⟩
    obtain ⟨m,hm,hloc⟩:=id I.loc
    have F:=Att.fr_all hm
    have N:News (Att.noObjs s.heap) X.env.locals s.heap (qdB (Att.noObjs s.heap) s.heap X.env.locals):=qiX
    have keepN:∀ {h':Heap} {l:List (Addr × Obj)},News (Att.noObjs s.heap) X.env.locals h' l→(∀ q∈qdB (Att.noObjs s.heap) s.heap X.env.locals,q∈l)→∀ b o,b≠X.env.locals→s.heap.get? b=some o→h'.get? b=some o:=fun N' hs b o hL e=>(N' (b,o) (hs _ (qdZ hL (Att.noObjs_get _ _) e))).1
    have notT:∀ {x:Addr} {us:Array Value},IsTup s.heap x us→x≠X.env.locals:=fun {x us} hq1 z=>by
      obtain ⟨o,ho,_,n,hd⟩:=hq1
      obtain ⟨o',es,ep,ho',hd',_⟩:=hm
      rw [z,ho'] at ho;cases ho;rw [hd'] at hd;cases hd
    have fin:∀ (l:List Nat) (Da:Addr) (h':Heap) (c:Nat),l.Perm (List.range ps.length)→(l.map fun i=>ps.getD i (0,0)).Pairwise (fun a b=>a.1<b.1)→s.heap.get? Da=none→h'.Ns X.env.locals m→(∀ b o,b≠X.env.locals→s.heap.get? b=some o→h'.get? b=some o) →
        h'.get? Da=some (seqObj "list" (l.map fun i=>its.getD i .none).toArray c)→EP X pins σ Q (.ref Da) { s with heap:=h' }:=fun l Da h' c hp hs hD hm' keep hDo=>by
      have rp:=qfl rvs l
      have ll:l.length=ps.length:=by rw [hp.length_eq,List.length_range]
      obtain ⟨hn,I2⟩:=I.listNew hm hm' keep hD hDo rp (by rw [List.length_map,ll,← lv];exact hz)
      have sn:=qaJ (sm.free hn) (.lst (l.map fun i=>vs.getD i .non))
      have rl:RpL X.K Φ ((l.map fun i=>ps.getD i (0,0)).map prT) (l.map fun i=>vs.getD i .non):=by
        refine ⟨by simp,fun i v d hv hd=>?_⟩
        rw [List.getElem?_map] at hv hd
        rw [List.getElem?_map] at hd
        cases e:l[i]? with
        | none=>rw [e] at hv;cases hv
        | some j =>
          rw [e] at hv hd
          cases hv
          cases hd
          have hj:j<ps.length:=List.mem_range.mp (hp.mem_iff.mp (List.mem_of_getElem? e))
          refine q2.2 j _ _ ?_ ?_
          · show vs[j]?=some (vs.getD j .non)
            rw [List.getD_eq_getElem?_getD,qaA (show j<vs.length by omega)];rfl
          · show (ps.map prT)[j]?=some (prT (ps.getD j (0,0)))
            rw [List.getElem?_map,List.getD_eq_getElem?_getD,qaA hj];rfl
      have pq:(l.map fun i=>ps.getD i (0,0)).Perm ps:=by
        have:=hp.map fun i=>ps.getD i (0,0)
        rw [qc2] at this
        exact this
      exact ⟨.ref Da,_,I2,rfl,k _ _ _ _ (hR _ pq hs) (.new sm hn _) ((rl.same sn).lst qan)⟩
    have hls:s.heap.IsList a its.toArray:=⟨_,e2,rfl,_,rfl⟩
    by_cases c2:its.length<2
    · refine qfB F N hls c2 fun Da h' c F' N' hge=>?_
      refine fin (List.range ps.length) Da h' c (.refl _) ?_ (Heap.get?_none_of_le hge) F'.ns (keepN N' fun q hq=>List.mem_cons_of_mem _ hq) ?_
      · rw [qc2]
        match ps,(show ps.length<2 by omega) with
        | [],_=>exact .nil
        | [p],_=>exact List.pairwise_singleton _ _
      · have:(List.range ps.length).map (fun i=>its.getD i Value.none)=its:=by
          rw [← lv,e1]
          exact qc2 _ its
        rw [this]
        exact (N' _ List.mem_cons_self).1
    · have lp:its.length=ps.length:=by omega
      refine kat_sorted F N hls (by omega) (by omega) fun Da d1 h' F' N' hlt=>?_
      have keep:=keepN N' fun q hq=>List.mem_cons_of_mem _ hq
      have hD:s.heap.get? Da=none:=by
        cases e:s.heap.get? Da with
        | none=>rfl
        | some o =>
          have nL:=(N' _ List.mem_cons_self).2.1
          exact absurd (hlt _ (qdZ nL (Att.noObjs_get _ _) e)) (Nat.lt_irrefl _)
      have tp':∀ (i:Nat) (p:Int × Int),ps[i]?=some p→∃ (x:Addr) (t t':Tok),its[i]?=some (.ref x)∧IsTup h' x #[.int p.1 t,.int p.2 t']:=fun i p hp=>by
        obtain ⟨x,t,t',h1,h2⟩:=tp i p hp
        have nL:=notT h2
        obtain ⟨o,ho,r⟩:=h2
        exact ⟨x,t,t',h1,o,keep _ _ nL ho,r⟩
      obtain ⟨fs,k1,k2,k3⟩:=qen (h:=h') (its:=its) fun v hv=>by
        obtain ⟨i,hi⟩:=List.getElem?_of_mem hv
        have hil:i<ps.length:=by have:=qaF hi;omega
        obtain ⟨x,t,t',h1,h2⟩:=tp' i _ (qaA hil)
        rw [hi] at h1
        cases h1
        exact ⟨x,_,_,t,t',rfl,h2⟩
      refine kat_kind (s:={ s with heap:=h' }) (T:=.type "int") k1 (by omega) (fun v hv=>by obtain ⟨i,t,rfl⟩:=k3 v hv;exact Looks.of_pure rfl) (by decide) ?_
      show KasT.kasWp (kas_ask _ _ _ (tuples' true) its) (kas_sort its.length) _ _
      have hk:∀ i j,i<its.length→j<its.length→(fun i=>(ps.getD i (0,0)).1) i=(fun i=>(ps.getD i (0,0)).1) j→i=j:=fun i j hi hj e=>by
        have g:∀ i,i<ps.length→ps[i]?=some (ps.getD i (0,0)):=fun i hi=>by rw [List.getD_eq_getElem?_getD,qaA hi];rfl
        exact hinj i j _ _ (g i (by omega)) (g j (by omega)) e
      refine Go.wp (f:=fk fun i=>(ps.getD i (0,0)).1) (N:=its.length) (fun i j C hi hj hC=>?_) (fun p hp=>?_) (qkx (key:=fun i=>(ps.getD i (0,0)).1) hk (by omega))
      · have g:∀ i,i<ps.length→ps[i]?=some (ps.getD i (0,0)):=fun i hi=>by rw [List.getD_eq_getElem?_getD,qaA hi];rfl
        obtain ⟨x,t1,t2,x1,x2⟩:=tp' i _ (g i (by omega))
        obtain ⟨y,u1,u2,y1,y2⟩:=tp' j _ (g j (by omega))
        have ex:its.getD i Value.none=.ref x:=by rw [List.getD_eq_getElem?_getD,x1];rfl
        have ey:its.getD j Value.none=.ref y:=by rw [List.getD_eq_getElem?_getD,y1];rfl
        unfold kas_ask
        rw [ex,ey]
        exact qlf x2 y2 hC fun e=>by
          have:=hinj i j _ _ (g i (by omega)) (g j (by omega)) e
          rw [this]
      · obtain ⟨hpm,hasc⟩:=hp
        refine KasFin.intro F' N' (.head fun q hq=>Nat.ne_of_lt (hlt q hq)) fun h2 c F2 N2=>?_
        have hp:p.toList.Perm (List.range ps.length):=by
          have:=hpm.pm.toList
          rw [← lp]
          simpa using this
        refine fin p.toList Da h2 c hp ?_ hD F2.ns (keepN N2 fun q hq=>List.mem_cons_of_mem _ hq) (N2 _ List.mem_cons_self).1
        have up:∀ j i,i<j→j<its.length→Ky (fun i=>(ps.getD i (0,0)).1) p i<Ky (fun i=>(ps.getD i (0,0)).1) p j:=by
          intro j
          induction j with
          | zero=>intro i hi;omega
          | succ j ih =>
            intro i hi hj
            have h3:=hasc j hj
            by_cases e:i=j
            · subst e;exact h3
            · have:=ih i (by omega) (by omega)
              omega
        rw [List.pairwise_iff_getElem]
        intro i j hi hj hij
        rw [List.length_map] at hi hj
        have hpl:p.toList.length=its.length:=by rw [Array.length_toList];exact hpm.sz
        have h4:=up j i hij (by omega)
        have gd:∀ i (hi:i<p.toList.length),p.getD i 0=p.toList[i]:=fun i hi=>by
          have:i<p.size:=by simpa using hi
          simp [Array.getD,this]
        unfold Ky at h4
        rw [gd i hi,gd j hj] at h4
        simpa using h4⟩
end
end L2
namespace L2
open PySem PySem.Spec PyProof.Rows
section
variable {X : Cx}
end
section
variable {K : PySem.W.Frag} {X : Cx} {e e2 : Expr} {te te2 : TD} {pos : Pos}
end
def qlb:Key→D
  | .inl i=>.int i
  | .inr s=>.str s
theorem ql6 {K:PySem.W.Frag} {Φ:Hp} {k:Key} {v:V} (r:Rp K Φ (qlb k) v):v=kV k:=by
  cases k with
  | inl i=>cases r;rfl
  | inr s=>cases r;rfl
theorem qkg {K:PySem.W.Frag} {Φ H:Hp} {k:Key} {v:V} (r:RpQ K Φ H (qlb k) v):v=kV k:=by
  cases k with
  | inl i=>exact RpQ.int r
  | inr s=>exact RpQ.str r
theorem qi3 {K:PySem.W.Frag} {Φ:Hp} {ks:List Key} {vs:List V} (r:RpL K Φ (ks.map qlb) vs):vs=ks.map kV:=by
  refine List.ext_getElem? fun i=>?_
  rw [List.getElem?_map]
  cases h:ks[i]? with
  | none =>
    have h1:=List.getElem?_eq_none_iff.mp h
    exact List.getElem?_eq_none (by rw [r.1,List.length_map];exact h1)
  | some k =>
    obtain ⟨v,hv,rv⟩:=r.at (i:=i) (d:=qlb k) (by rw [List.getElem?_map,h];rfl)
    rw [hv,ql6 rv]
    rfl
def qit (k:Key) (ks:List Key):Bool:=ks.any fun j=>decide (j=k)
theorem qjz (k:Key) (ks:List Key):qit k ks=true↔k∈ks:=by
  unfold qit
  rw [List.any_eq_true]
  exact ⟨fun ⟨j,h1,h2⟩=>of_decide_eq_true h2 ▸ h1,fun h=>⟨k,h,decide_eq_true rfl⟩⟩
theorem qgI (k:Key):qeF (kV k)=true:=by cases k <;> rfl
theorem qkS (j k:Key):eqV (kV j) (kV k)=decide (j=k):=by
  cases j with
  | inl a =>
    cases k with
    | inl b=>show (a == b)=_;by_cases h:a=b <;> simp [h]
    | inr b=>show false=_;simp
  | inr a =>
    cases k with
    | inl b=>show false=_;simp
    | inr b=>show (a == b)=_;by_cases h:a=b <;> simp [h]
theorem qjq (k:Key) (ks:List Key):inV (kV k) (ks.map kV)=qit k ks:=by
  unfold inV qit
  rw [List.any_map]
  exact List.any_congr rfl fun j=>qkS j k
def zIn (neg:Bool):RD2:=fun dx dy R=>∃ (k:Key) (ks:List Key),dx=qlb k∧qiu dy=some (ks.map qlb)∧R (.bl (neg != qit k ks))
section
variable {K : PySem.W.Frag} {X : Cx}
theorem qkK:OpD K X (compareOp .NotIn) (zIn true):=⟨fun hK pins s σ H x y u v Q I rx ry hq0=>by
  obtain ⟨Φ,dx,dy,R,sm,hx,hy,⟨k,ks,rfl,e,h⟩,kk⟩:=hq0
  cases qkg hx
  obtain ⟨a,vs,rfl,q,rl⟩:=hy.seq sm e
  cases qi3 rl
  refine qfz pins s σ H _ _ u v Q I rx ry ⟨a,_,rfl,by rw [hK];exact q,qgI k,?_,?_⟩
  · rw [List.all_eq_true]
    intro z hz
    obtain ⟨j,_,rfl⟩:=List.mem_map.mp hz
    exact qgI j
  · have e2:(if true=true then !inV (kV k) (ks.map kV) else inV (kV k) (ks.map kV))=(true != qit k ks):=by rw [qjq];simp
    rw [e2]
    exact kk _ Φ H _ h (.refl sm) (.bl _)⟩
end
section
variable {K : PySem.W.Frag} {X : Cx} {e ev : Expr} {te tv : TD} {pos : Pos}
end
section
variable {X : Cx}
end
section
variable {K : PySem.W.Frag} {X : Cx} {a b : Expr} {ta tb : TD} {apos cpos : Pos}
end
end L2
namespace L2
open PySem PySem.Spec PySem.W PyProof.Rows PySem.Calls
section
variable {K : PySem.W.Frag} {X : Cx}
end
end L2
namespace L2
open PySem PySem.Spec PyProof.Rows
section
variable {K : PySem.W.Frag} {X : Cx} {e ev : Expr} {te tv : TD} {tk : TDK} {pos p : Pos}
end
section
variable {K : PySem.W.Frag} {X : Cx} {a : Expr} {pos p p2 pos2 : Pos} {tl : TDL}
theorem qes (hcalm:X.calm=true):qc1 X (.type "list") (fun xs H Q=>∃ p j,xs=[.ref p]∧H p=some (.rng 0 j)∧-(2 ^ 62)≤j∧j≤1000∧∀ l,H l=none→Q (.ref l) (upd H l (.lst (qbN j.toNat)))):=by
  intro pins s σ H xs us Q I r h
  obtain ⟨p,j,rfl,hp,j0,j1,q⟩:=h
  obtain ⟨u,rfl,rx⟩:=qfW r
  cases rx
  obtain ⟨t,u,v,ho⟩:=(show ObjOk X.prog X.w H s.heap p (.rng 0 j) from I.hok p _ hp)
  have hn:Builtin.Range.rangeSize 0 j 1=(j.toNat:Int):=by rw [rangeSize_one];split <;> omega
  refine call_list_range (I.ok.hd hcalm) ho (small_one (by decide) (by decide) j0 (by omega)) hn (by omega) fun h' tk acc c kp hS hacc=>?_
  have hv:Vals (qbN j.toNat) acc.toList:=qdK (by rw [qbM,Array.length_toList,hacc.1]) fun i x y hx hy=>by
    rw [qdL hx]
    obtain ⟨t,rfl⟩:=hacc.2 i y (by simpa using hy)
    exact ⟨t,by simp⟩
  have I2:Inv X pins σ (upd H s.heap.objs.size (.lst (qbN j.toNat))) { s with heap:=h',toks:=tk } :=
    I.laid (t':=tk) (fun b o e=>kp b o e) (Nat.le_refl _) (show ObjOk X.prog X.w _ _ _ (.lst (qbN j.toNat)) from ⟨by rw [qbM,sizeLine_eq];omega,acc.toList,c,hv,by simpa using hS⟩)
  exact ⟨.ref s.heap.objs.size,_,I2,rfl,q _ (I.hok.fresh (Nat.le_refl _))⟩
def qha (t:TDL):TDL:=fun ρ R=>t ρ fun ds=>match ds with | [.int j]=>(-(2 ^ 62)≤j∧j≤1000)∧R (qbs 0 j.toNat) | _=>False
theorem qfN (hcalm:X.calm=true) (hg1:Gl X "list") (hm1:X.mg "list"=none) (hg2:Gl X "range") (hm2:X.mg "range"=none) (ha:PAD K X [a] tl) (hs:starEach [a] X.env=[(false,eval a X.env)]:=by rfl) :
    PF K X (.Call (.Name "list" p) [.Call (.Name "range" p2) [a] [] pos2] [] pos) (qha tl) :=
  ⟨fun hK=>(qcW (qes hcalm) hg1 hm1 boot_list (qb7 (qfy hg2 hm2 (ha.pa hK) hs) pa_nil qam) (by decide) (by decide) qam qaf).imp fun σ H Q hq0=>by
    obtain ⟨H0,Φ,ρ,R,E,t,k⟩:=hq0
    exact ⟨H0,Φ,ρ,_,E,t,fun ds Φ1 H1 vs r g rl _=>by
      match ds,r with
      | [.int j],r =>
        obtain ⟨v,rfl,r1⟩:=rl.one_inv
        cases r1
        refine ⟨j,rfl,fun r0 hr0=>⟨r0,j,rfl,qan,r.1.1,r.1.2,fun l hl=>?_⟩⟩
        have g1:=Gr.fresh g.s hr0 (.rng 0 j)
        have g2:=Gr.fresh g1.s hl (.lst (qbN j.toNat))
        have hl1:H1 l=none:=g1.h.free hl
        exact k _ _ _ l _ r.2 ((g.trans g1).trans g2) (g.h.free hl1) (g1.s.free hl) qan (qhk _)⟩⟩
end
section
variable {K : PySem.W.Frag} {X : Cx} {e : Expr} {es : List Expr} {pos p : Pos} {tl : TDL} {te : TD} {tf : TDL} {sp : SpD} {CX : CXT} {k : Nat} {f : Addr} {fd : FuncData} {ps : List Str} {x : Str} {E : XK}
end
structure Cl (P:Program) (w:World) (K:PySem.W.Frag) (mg:Str→Option Value) (base:Heap) (n:Nat) (x:Str) (ps:List Str) (z:SpD):Prop where
  ex:∃ (f:Addr) (fd:FuncData),FnOk P w K mg base CX0 n f fd ps (lSp K z)∧Binds K fd ps []∧PySem.W.keepIn K (.ref f)=true∧mg x=some (.ref f)
section
variable {P : Program} {w : World} {K : PySem.W.Frag} {mg : Str → Option Value} {base : Heap} {n m : Nat} {x : Str} {ps : List Str} {z : SpD} {X : Cx} {e : Expr} {es : List Expr} {pos p : Pos} {tl : TDL} {st : Stmt} {f : Addr} {fd : FuncData} {h : Heap}
theorem Cl.mono (C:Cl P w K mg base n x ps z) (k:n≤m):Cl P w K mg base m x ps z:=by
  obtain ⟨f,fd,F,r⟩:=C.ex
  exact ⟨f,fd,F.mono k,r⟩
theorem Cl.of (F:Fun K x x st f fd) (b:Binds K fd ps []) (m:mg x=some (.ref f)) (H:FnOk P w K mg base CX0 n f fd ps (lSp K z)):Cl P w K mg base n x ps z:=⟨f,fd,H,b,F.kp,m⟩
theorem qaq (C:Cl X.prog X.w K X.mg X.base n x ps z) (hr:Room n X.A) (hg:Gl X x)
    (ha:PAD K X (e::es) tl) (he:starEach (e::es) X.env=(false,eval e X.env)::starEach es X.env) (hpl:(backTo pos (starEach es X.env)).any (·.1)=false) (hdb:(x == ("__debug__":Str))=false:=by decide) :
    PD K X (.Call (.Name x p) (e::es) [] pos) (qi0 z tl):=⟨fun hK=>by
  subst hK
  obtain ⟨f,fd,F,b,k,m⟩:=C.ex
  exact (qmc F hr hg m k b qlg ha he hpl hdb).pe rfl⟩
def dE (P:Params) (x:Str) (n:Nat) (v:Value):DictEntry:=⟨PyData.keyHash P x,.str x n,v⟩
def cO (n:Str) (a:Nat) (q:Str) (b c:Nat) (l m:Int) (k:Int) (r:Nat) (g:Int) (t:Nat) (x y:Value) (z:Nat) (i:Int) (d:Nat):Obj:=⟨.type "code",none,.fields #[.str n a,.str q b,.str "/claim/cut.py" c,.int l 0,.int m 0,.int 0 0,.int 0 0,.int k 0,.ref r,.bool true,.int g 0,.ref t,.none,x,y,.ref z,.int i 0,.int l 0,.str "/claim/cut.py" d],#[]⟩
def fO (s:Stmt) (n q m:Str) (i c:Nat):Obj:=⟨.type "function",none,.func (PySem.W.fnOf n q (qbQ s) (qbf s) (qag s) .none .none .none (.str m i) none (.ref c) .none),#[]⟩
def Has (K:PySem.W.Frag) (s:Stmt) (x:Str):Prop:=∃ f m i c,PySem.W.nsIn K mainGlobals x=some (some (.ref f))∧K.lookup f=some (fO s x x m i c)∧PySem.W.codeIn K (.ref c) x=true
theorem Has.of {s:Stmt} {m:Str} {i c:Nat} (a:PySem.W.nsIn K mainGlobals x=some (some (.ref f))) (l:K.lookup f=some (fO s x x m i c)) (k:PySem.W.codeIn K (.ref c) x=true):Has K s x:=⟨f,m,i,c,a,l,k⟩
theorem Has.fn (a:Has K st x) (X:K.In h) (G:h.Ns mainGlobals mg):∃ f fd,Fun K x x st f fd∧mg x=some (.ref f)∧∃ m i c,fd=PySem.W.fnOf x x (qbQ st) (qbf st) (qag st) .none .none .none (.str m i) none (.ref c) .none:=by
  obtain ⟨f,m,i,c,a,l,k⟩:=a
  exact ⟨f,_,qhC l k (by unfold PySem.W.keepIn;simp only [l];rfl),PySem.W.mg_of X G a,m,i,c,rfl⟩
theorem Fun.cl (F:Fun K x x st f fd) (m:mg x=some (.ref f)) (H:FnOk P w K mg base CX0 n f fd ps (lSp K z))
    (b:∀ (kV doc pm:Value) (an:Option Addr) (cdv ct:Value) (us:List Value),us.length=ps.length→bindArgs (PySem.W.fnOf x x (qbQ st) (qbf st) (qag st) .none kV doc pm an cdv ct) ⟨us,[]⟩=pure (ps.zip us)):Cl P w K mg base n x ps z:=.of F (F.binds b) m H
end
section
variable {K : PySem.W.Frag} {X : Cx} {n : Nat} {x : Str} {ps : List Str} {z : SpD} {e : Expr} {es : List Expr} {pos p : Pos} {tl : TDL}
end
end L2
namespace Wk
def sm:Nat→(Nat→Int)→Int
  | 0,_=>0
  | n+1,f=>sm n f+f n
theorem sm_congr:∀ {n:Nat} {f g:Nat→Int},(∀ i,i<n→f i=g i)→sm n f=sm n g
  | 0,_,_,_=>rfl
  | n+1,f,g,h=>by
    show sm n f+f n=sm n g+g n
    rw [sm_congr fun i hi=>h i (by omega),h n (by omega)]
theorem sm_zero:∀ (n:Nat),sm n (fun _=>0)=0
  | 0=>rfl
  | n+1=>by show sm n _+0=0;rw [sm_zero n];rfl
theorem qdg (x y:Int) (f g:Nat→Int):∀ n:Nat,sm n (fun i=>x*f i+y*g i)=x*sm n f+y*sm n g
  | 0=>by show (0:Int)=x*0+y*0;omega
  | n+1=>by
    show sm n _+(x*f n+y*g n)=x*(sm n f+f n)+y*(sm n g+g n)
    rw [qdg x y f g n]
    grind
theorem qhE (f g:Nat→Int) (n:Nat):sm n (fun i=>f i+g i)=sm n f+sm n g:=by
  have:=qdg 1 1 f g n
  simp only [Int.one_mul] at this
  exact this
theorem qbn (x:Int) (f:Nat→Int) (n:Nat):sm n (fun i=>x*f i)=x*sm n f:=by
  have:=qdg x 0 f f n
  simp only [Int.zero_mul,Int.add_zero] at this
  exact this
theorem qcg:∀ {n k:Nat} {f:Nat→Int},k<n→(∀ i,i<n→i≠k→f i=0)→sm n f=f k
  | 0,_,_,h,_=>absurd h (by omega)
  | n+1,k,f,h,hz=>by
    show sm n f+f n=f k
    by_cases c:k=n
    · subst c
      rw [sm_congr (g:=fun _=>0) fun i hi=>hz i (by omega) (by omega),sm_zero]
      omega
    · rw [qcg (by omega:k<n) fun i hi=>hz i (by omega),hz n (by omega) (by omega)]
      omega
theorem qjV:∀ {n k:Nat} {f:Nat→Int},k+1<n→(∀ i,i<n→i≠k→i≠k+1→f i=0)→sm n f=f k+f (k+1)
  | 0,_,_,h,_=>absurd h (by omega)
  | n+1,k,f,h,hz=>by
    show sm n f+f n=f k+f (k+1)
    by_cases c:k+1=n
    · subst c
      rw [qcg (by omega:k<k+1) fun i hi hne=>hz i (by omega) hne (by omega)]
    · rw [qjV (by omega:k+1<n) fun i hi=>hz i (by omega),hz n (by omega) (by omega) (by omega)]
      omega
theorem qdC (f:Nat→Nat→Int) (m:Nat):∀ n:Nat,sm n (fun i=>sm m (f i))=sm m (fun j=>sm n fun i=>f i j)
  | 0=>(sm_zero m).symm
  | n+1=>by
    show sm n _+sm m (f n)=sm m (fun j=>sm n (fun i=>f i j)+f n j)
    rw [qdC f m n,← qhE]
abbrev Mx:=Nat→Nat→Int
def mn (i:Nat) (A:Mx):Mx:=fun a j=>A (if a<i then a else a+1) (j+1)
def sg:Nat→Int
  | 0=>1
  | n+1=>- sg n
def det:Nat→Mx→Int
  | 0,_=>1
  | n+1,A=>sm (n+1) fun i=>sg i*A i 0*det n (mn i A)
def up (A:Mx) (k:Nat) (r:Nat→Int):Mx:=fun i j=>if i=k then r j else A i j
theorem qck {A:Mx} {k:Nat} {r:Nat→Int}:up A k r k=r:=by funext j;unfold up;rw [if_pos rfl]
theorem qeY {A:Mx} {k i:Nat} {r:Nat→Int} (h:i≠k):up A k r i=A i:=by funext j;unfold up;rw [if_neg h]
theorem qnd {A:Mx} {k:Nat} {r q:Nat→Int}:up (up A k r) k q=up A k q:=by
  funext i j
  unfold up
  split <;> rfl
theorem qgc {A:Mx} {k:Nat}:up A k (A k)=A:=by
  funext i j
  unfold up
  split
  · next h=>rw [h]
  · rfl
theorem qfV {A:Mx} {k l:Nat} {r q:Nat→Int} (h:k≠l):up (up A k r) l q=up (up A l q) k r:=by
  funext i j
  unfold up
  by_cases c:i=l
  · subst c
    rw [if_pos rfl,if_neg (Ne.symm h),if_pos rfl]
  · rw [if_neg c,if_neg c]
theorem qfR {A:Mx} {i:Nat} {r:Nat→Int}:mn i (up A i r)=mn i A:=by
  funext a j
  unfold mn up
  have:¬ (if a<i then a else a+1)=i:=by split <;> omega
  rw [if_neg this]
theorem qkQ {A:Mx} {i k:Nat} {r:Nat→Int} (h:i≠k):mn i (up A k r)=up (mn i A) (if k<i then k else k - 1) (fun j=>r (j+1)):=by
  funext a j
  unfold mn up
  by_cases c:(if a<i then a else a+1)=k
  · have c':a=(if k<i then k else k - 1):=by split at c <;> split <;> omega
    rw [if_pos c,if_pos c']
  · have c':¬ a=(if k<i then k else k - 1):=by split at c <;> split <;> omega
    rw [if_neg c,if_neg c']
theorem det_congr:∀ {n:Nat} {A B:Mx},(∀ i j,i<n→j<n→A i j=B i j)→det n A=det n B
  | 0,_,_,_=>rfl
  | n+1,A,B,h=>by
    unfold det
    refine sm_congr fun i hi=>?_
    rw [h i 0 hi (by omega),det_congr (A:=mn i A) (B:=mn i B) fun a j ha hj=>h _ _ (by split <;> omega) (by omega)]
theorem qdz (x y:Int):∀ {n:Nat} {A:Mx} {k:Nat} (r q:Nat→Int),k<n→det n (up A k fun j=>x*r j+y*q j)=x*det n (up A k r)+y*det n (up A k q)
  | 0,_,_,_,_,h=>absurd h (by omega)
  | n+1,A,k,r,q,h=>by
    unfold det
    rw [← qdg]
    refine sm_congr fun i hi=>?_
    by_cases c:i=k
    · subst c
      rw [qfR,qfR,qfR,qck,qck,qck]
      grind
    · rw [qkQ c,qkQ c,qkQ c,qeY c,qeY c,qeY c]
      rw [qdz x y (A:=mn i A) (k:=if k<i then k else k - 1) (fun j=>r (j+1)) (fun j=>q (j+1)) (by split <;> omega)]
      grind
theorem qeR:∀ {n:Nat} {A:Mx} {k:Nat},k+1<n→(∀ j,j<n→A k j=A (k+1) j)→det n A=0
  | 0,_,_,h,_=>absurd h (by omega)
  | n+1,A,k,h,he=>by
    unfold det
    rw [qjV h fun i hi h1 h2=>?_]
    · have e:det n (mn k A)=det n (mn (k+1) A):=det_congr fun a j ha hj=>by
        unfold mn
        by_cases c:a=k
        · subst c
          rw [if_neg (by omega),if_pos (by omega)]
          exact (he (j+1) (by omega)).symm
        · by_cases c2:a<k
          · rw [if_pos c2,if_pos (by omega)]
          · rw [if_neg c2,if_neg (by omega)]
      rw [e,he 0 (by omega)]
      show sg k*A (k+1) 0*_+(- sg k)*A (k+1) 0*_=0
      grind
    · have:det n (mn i A)=0:=by
        by_cases c:i<k
        · refine qeR (k:=k - 1) (by omega) fun j hj=>?_
          unfold mn
          rw [if_neg (by omega),if_neg (by omega),show k - 1+1=k by omega]
          exact he (j+1) (by omega)
        · refine qeR (k:=k) (by omega) fun j hj=>?_
          unfold mn
          rw [if_pos (by omega),if_pos (by omega)]
          exact he (j+1) (by omega)
      rw [this,Int.mul_zero]
theorem qiY {n:Nat} {A:Mx} {k:Nat} (h:k+1<n) (r q:Nat→Int):det n (up (up A k r) (k+1) q) = - det n (up (up A k q) (k+1) r):=by
  have z:∀ s:Nat→Int,det n (up (up A k s) (k+1) s)=0:=fun s=>qeR h fun j _=>by
    rw [qeY (by omega:k≠k+1),qck,qck]
  have lk:∀ v:Nat→Int,det n (up (up A k fun j=>1*r j+1*q j) (k+1) v)=1*det n (up (up A k r) (k+1) v)+1*det n (up (up A k q) (k+1) v):=fun v=>by
    have hc:k≠k+1:=by omega
    rw [qfV hc,qfV hc,qfV hc]
    exact qdz 1 1 r q (by omega)
  have e1:=z fun j=>1*r j+1*q j
  rw [qdz 1 1 r q (by omega),lk,lk,z,z] at e1
  omega
theorem qf5:∀ (d:Nat) {n:Nat} {A:Mx} {k:Nat},k+d+1<n→(∀ j,A k j=A (k+d+1) j)→det n A=0
  | 0,n,A,k,h,he=>qeR h fun j _=>he j
  | d+1,n,A,k,h,he=>by
    have e:A=up (up A (k+d+1) (A (k+d+1))) (k+d+1+1) (A (k+d+1+1)):=by rw [qgc,qgc]
    rw [e,qiY (by omega)]
    have:det n (up (up A (k+d+1) (A (k+d+1+1))) (k+d+1+1) (A (k+d+1)))=0:=by
      refine qf5 d (k:=k) (by omega) fun j=>?_
      rw [qeY (by omega),qeY (by omega),qeY (by omega),qck]
      exact he j
    rw [this]
    rfl
theorem qlc {n:Nat} {A:Mx} {k l:Nat} (hk:k<n) (hl:l<n) (hne:k≠l) (he:A k=A l):det n A=0:=by
  rcases Nat.lt_or_ge k l with c | c
  · exact qf5 (l - k - 1) (k:=k) (by omega) fun j=>by rw [show k+(l - k - 1)+1=l by omega,he]
  · exact qf5 (k - l - 1) (k:=l) (by omega) fun j=>by rw [show l+(k - l - 1)+1=k by omega,he]
def un (i:Nat):Nat→Int:=fun j=>if j=i then 1 else 0
theorem qgd:∀ n:Nat,det n un=1
  | 0=>rfl
  | n+1=>by
    unfold det
    rw [qcg (k:=0) (by omega) fun i hi hne=>?_]
    · have e:mn 0 un=un:=by
        funext a j
        show (if j+1=(if a<0 then a else a+1) then (1:Int) else 0)=if j=a then 1 else 0
        rw [show (if a<0 then a else a+1)=a+1 from if_neg (by omega)]
        by_cases c:j=a
        · rw [if_pos c,if_pos (by omega)]
        · rw [if_neg c,if_neg (by omega)]
      rw [e,qgd n]
      rfl
    · show sg i*(if (0:Nat)=i then 1 else 0)*_=0
      rw [if_neg (by omega)]
      grind
def co (n:Nat) (A:Mx) (k:Nat):Nat→Int:=fun j=>det n (up A k (un j))
theorem qjl {n:Nat} {A:Mx} {k:Nat} (h:k<n):det n (up A k fun _=>0)=0:=by
  have:=qdz 0 0 (A:=A) (fun _=>0) (fun _=>0) h
  have e:(fun j:Nat=>(0:Int)*(fun _=>0) j+0*(fun _=>0) j)=fun _=>0:=by funext j;rfl
  rw [e] at this
  omega
theorem qmp {n:Nat} {A:Mx} {k:Nat} (h:k<n) (r:Nat→Int):∀ m:Nat,det n (up A k fun j=>if j<m then r j else 0)=sm m (fun j=>r j*co n A k j)
  | 0=>by
    have e:(fun j=>if j<0 then r j else 0)=fun _=>(0:Int):=by funext j;rw [if_neg (by omega)]
    rw [e]
    exact qjl h
  | m+1=>by
    have e:(fun j=>if j<m+1 then r j else 0)=fun j=>1*(if j<m then r j else 0)+r m*un m j:=by
      funext j
      unfold un
      by_cases c:j=m
      · subst c;rw [if_pos (by omega),if_neg (by omega),if_pos rfl];omega
      · rw [if_neg c]
        by_cases c2:j<m
        · rw [if_pos c2,if_pos (by omega)];omega
        · rw [if_neg c2,if_neg (by omega)];omega
    rw [e,qdz 1 (r m) _ (un m) h,qmp h r m]
    show 1*_+r m*co n A k m=_+r m*co n A k m
    omega
theorem qjI {n:Nat} {A:Mx} {k:Nat} (h:k<n) (r:Nat→Int):sm n (fun j=>r j*co n A k j)=det n (up A k r):=by
  rw [← qmp h r n]
  refine det_congr fun i j hi hj=>?_
  unfold up
  split
  · show (if j<n then r j else 0)=r j
    rw [if_pos hj]
  · rfl
theorem qkM {n:Nat} {A:Mx} {k l:Nat} (h:k<n) (hl:l<n):sm n (fun j=>A l j*co n A k j)=if l=k then det n A else 0:=by
  rw [qjI h]
  split
  · next e=>subst e;rw [qgc]
  · next e =>
    refine qlc h hl (Ne.symm e) ?_
    rw [qck,qeY e]
theorem qni {n:Nat} {A:Mx} {k:Nat} {r:Nat→Int}:co n (up A k r) k=co n A k:=by
  funext j
  unfold co
  rw [qnd]
theorem sm_abs {E:Nat}:∀ {n:Nat} {f:Nat→Int},(∀ i,i<n→(f i).natAbs≤E)→(sm n f).natAbs≤n*E
  | 0,_,_=>by show (0:Int).natAbs≤_;simp
  | n+1,f,h=>by
    show (sm n f+f n).natAbs≤_
    have h1:=sm_abs (n:=n) (f:=f) fun i hi=>h i (by omega)
    have h2:=h n (by omega)
    have h3:=Int.natAbs_add_le (sm n f) (f n)
    rw [Nat.succ_mul]
    omega
theorem qjK:∀ n:Nat,(sg n).natAbs=1
  | 0=>rfl
  | n+1=>by show (- sg n).natAbs=1;rw [Int.natAbs_neg,qjK n]
theorem det_abs {E:Nat}:∀ {n N:Nat} {A:Mx},n≤N→(∀ i j,i<n→j<n→(A i j).natAbs≤E)→(det n A).natAbs≤(N*E) ^ n
  | 0,_,_,_,_=>by show (1:Int).natAbs≤_;simp
  | n+1,N,A,hN,h=>by
    unfold det
    have h1:(sm (n+1) fun i=>sg i*A i 0*det n (mn i A)).natAbs≤(n+1)*(E*(N*E) ^ n):=sm_abs fun i hi=>by
      rw [Int.natAbs_mul,Int.natAbs_mul,qjK,Nat.one_mul]
      exact Nat.mul_le_mul (h i 0 hi (by omega)) (det_abs (by omega) fun a j ha hj=>h _ _ (by split <;> omega) (by omega))
    refine Nat.le_trans h1 ?_
    rw [Nat.pow_succ,← Nat.mul_assoc,Nat.mul_comm ((N*E) ^ n)]
    exact Nat.mul_le_mul_right _ (Nat.mul_le_mul_right _ hN)
end Wk
namespace Wk
def dt (n:Nat) (x y:Nat→Int):Int:=sm n fun i=>x i*y i
theorem qed (n:Nat) (r:Nat→Int) (x y:Int) (u v:Nat→Int):dt n r (fun i=>x*u i+y*v i)=x*dt n r u+y*dt n r v:=by
  unfold dt
  rw [← qdg]
  exact sm_congr fun i _=>by grind
theorem qmd (n m:Nat) (r:Nat→Int) (c:Nat→Int) (u:Mx):dt n r (fun i=>sm m fun k=>c k*u k i)=sm m fun k=>c k*dt n r (u k):=by
  unfold dt
  have e:(fun i=>r i*sm m fun k=>c k*u k i)=fun i=>sm m fun k=>c k*(r i*u k i):=by
    funext i
    rw [← qbn]
    exact sm_congr fun k _=>by grind
  rw [e,qdC]
  exact sm_congr fun k _=>qbn _ _ _
structure Sd where
  h:Nat→Nat
  W:Mx
  x:Nat→Int
  b:Int
structure Ok (n:Nat) (a:Mx) (B:Nat→Int) (M:Nat) (S:Sd):Prop where
  pos:0<S.b
  lt:∀ k,k<n→S.h k<M
  eps:∃ e:Int,(e=1∨e = -1)∧S.b=e*det n (fun k=>a (S.h k))∧∀ k j,k<n→j<n→S.W k j=e*co n (fun k=>a (S.h k)) k j
  lf:∀ i j,i<n→j<n→sm n (fun k=>S.W k i*a (S.h k) j)=if i=j then S.b else 0
  cor:∀ i,i<n→S.x i=sm n fun k=>B (S.h k)*S.W k i
section
variable {n M : Nat} {a : Mx} {B : Nat → Int} {S : Sd}
theorem Ok.rt (o:Ok n a B M S) {l k:Nat} (hl:l<n) (hk:k<n):dt n (a (S.h l)) (S.W k)=if l=k then S.b else 0:=by
  obtain ⟨e,_,hb,hw⟩:=o.eps
  have h1:dt n (a (S.h l)) (S.W k)=e*sm n (fun j=>a (S.h l) j*co n (fun k=>a (S.h k)) k j):=by
    unfold dt
    rw [← qbn]
    exact sm_congr fun j hj=>by rw [hw k j hk hj];grind
  rw [h1,qkM (A:=fun k=>a (S.h k)) hk hl]
  split
  · exact hb.symm
  · exact Int.mul_zero e
theorem Ok.row (o:Ok n a B M S) (r:Nat→Int) {j:Nat} (hj:j<n):sm n (fun k=>dt n r (S.W k)*a (S.h k) j)=S.b*r j:=by
  have e:(sm n fun k=>dt n r (S.W k)*a (S.h k) j)=sm n fun i=>r i*sm n fun k=>S.W k i*a (S.h k) j:=by
    have e1:(fun k=>dt n r (S.W k)*a (S.h k) j)=fun k=>sm n fun i=>r i*(S.W k i*a (S.h k) j):=by
      funext k
      unfold dt
      rw [Int.mul_comm,← qbn]
      exact sm_congr fun i _=>by grind
    rw [e1,qdC]
    exact sm_congr fun i _=>qbn _ _ _
  rw [e,qcg hj fun i hi hne=>by rw [o.lf i j hi hj,if_neg hne,Int.mul_zero],o.lf j j hj hj,if_pos rfl,Int.mul_comm]
theorem Ok.comb (o:Ok n a B M S) (r y:Nat→Int):S.b*dt n r y=sm n fun k=>dt n r (S.W k)*dt n (a (S.h k)) y:=by
  have e:(sm n fun k=>dt n r (S.W k)*dt n (a (S.h k)) y)=sm n fun j=>y j*sm n fun k=>dt n r (S.W k)*a (S.h k) j:=by
    have e1:(fun k=>dt n r (S.W k)*dt n (a (S.h k)) y)=fun k=>sm n fun j=>y j*(dt n r (S.W k)*a (S.h k) j):=by
      funext k
      conv=>lhs;rhs;unfold dt
      rw [← qbn]
      exact sm_congr fun i _=>by grind
    rw [e1,qdC]
    exact sm_congr fun i _=>qbn _ _ _
  rw [e]
  conv=>lhs;unfold dt
  rw [← qbn]
  exact sm_congr fun j hj=>by rw [o.row r hj];grind
theorem Ok.corner (o:Ok n a B M S) {k:Nat} (hk:k<n):dt n (a (S.h k)) S.x=B (S.h k)*S.b:=by
  have e:dt n (a (S.h k)) S.x=dt n (a (S.h k)) (fun i=>sm n fun l=>B (S.h l)*S.W l i):=sm_congr fun i hi=>by rw [o.cor i hi]
  rw [e,qmd,qcg hk fun l hl hne=>by rw [o.rt hk hl,if_neg (Ne.symm hne),Int.mul_zero],o.rt hk hk,if_pos rfl]
theorem Ok.nil (o:Ok n a B M S) {y:Nat→Int} (h:∀ k,k<n→dt n (a (S.h k)) y=0) {i:Nat} (hi:i<n):y i=0:=by
  have e:S.b*y i=sm n fun k=>S.W k i*dt n (a (S.h k)) y:=by
    have e1:(fun k=>S.W k i*dt n (a (S.h k)) y)=fun k=>sm n fun j=>y j*(S.W k i*a (S.h k) j):=by
      funext k
      unfold dt
      rw [← qbn]
      exact sm_congr fun i _=>by grind
    rw [e1,qdC]
    have e2:∀ j,j<n→(sm n fun k=>y j*(S.W k i*a (S.h k) j))=y j*(if i=j then S.b else 0):=fun j hj=>by rw [qbn,o.lf i j hi hj]
    rw [sm_congr e2,qcg hi fun j hj hne=>by rw [if_neg (Ne.symm hne),Int.mul_zero],if_pos rfl,Int.mul_comm]
  rw [sm_congr (g:=fun _=>0) fun k hk=>by rw [h k hk,Int.mul_zero],sm_zero] at e
  rcases Int.mul_eq_zero.mp e with h | h
  · have:=o.pos;omega
  · exact h
def gr (n:Nat) (a:Mx) (S:Sd) (q k:Nat):Int:=dt n (a q) (S.W k)
def ov (n:Nat) (a:Mx) (B:Nat→Int) (S:Sd) (q:Nat):Int:=dt n (a q) S.x - B q*S.b
def wy (n:Nat) (a:Mx) (S:Sd) (p q:Nat):Nat→Int:=fun i=>if gr n a S q p<0 then - S.W p i else S.W p i
def pv (n:Nat) (a:Mx) (B:Nat→Int) (S:Sd) (p q:Nat):Sd where
  h:=fun k=>if k=p then q else S.h k
  W:=fun o i=>if o=p then wy n a S p q i else (((gr n a S q p).natAbs:Int)*S.W o i - gr n a S q o*wy n a S p q i) / S.b
  x:=fun i=>(((gr n a S q p).natAbs:Int)*S.x i - ov n a B S q*wy n a S p q i) / S.b
  b:=((gr n a S q p).natAbs:Int)
theorem qkH {p q:Nat}:(fun k=>a ((pv n a B S p q).h k))=up (fun k=>a (S.h k)) p (a q):=by
  funext k j
  show a (if k=p then q else S.h k) j=if k=p then a q j else a (S.h k) j
  split <;> rfl
theorem Ok.pv_all (o:Ok n a B M S) {p q:Nat} (hp:p<n) (hq:q<M) (hg:gr n a S q p≠0) :
    Ok n a B M (pv n a B S p q)∧(∀ l i,l<n→l≠p→i<n→S.b*(pv n a B S p q).W l i=(pv n a B S p q).b*S.W l i - gr n a S q l*wy n a S p q i) ∧
      (∀ i,i<n→S.b*(pv n a B S p q).x i=(pv n a B S p q).b*S.x i - ov n a B S q*wy n a S p q i):=by
  obtain ⟨e,he,hb,hw⟩:=o.eps
  have bp:=o.pos
  obtain ⟨sn,hsn,hs,hwy⟩:∃ sn:Int,(sn=1∨sn = -1)∧((gr n a S q p).natAbs:Int)=sn*gr n a S q p∧wy n a S p q=fun i=>sn*S.W p i:=by
    by_cases c:gr n a S q p<0
    · exact ⟨-1,.inr rfl,by omega,by funext i;unfold wy;rw [if_pos c];omega⟩
    · exact ⟨1,.inl rfl,by omega,by funext i;unfold wy;rw [if_neg c];omega⟩
  have hs2:sn*sn=1:=by rcases hsn with h | h <;> rw [h] <;> rfl
  have he2:e*e=1:=by rcases he with h | h <;> rw [h] <;> rfl
  generalize hsz:((gr n a S q p).natAbs:Int)=s at hs
  have hs0:0<s:=by omega
  let A:Mx:=fun k=>a (S.h k)
  let A':Mx:=up A p (a q)
  have eA':(fun k=>a ((pv n a B S p q).h k))=A':=qkH
  have hgr:gr n a S q p=e*det n A':=by
    have:gr n a S q p=e*sm n (fun j=>a q j*co n A p j):=by
      unfold gr dt
      rw [← qbn]
      exact sm_congr fun j hj=>by rw [hw p j hp hj];grind
    rw [this,qjI hp]
  have hdet:det n A'=e*gr n a S q p:=by rw [hgr];grind
  have hb':s=(sn*e)*det n A':=by rw [hs,hgr];grind
  have dtwy:∀ r:Nat→Int,dt n r (wy n a S p q)=sn*dt n r (S.W p):=fun r=>by
    rw [hwy]
    unfold dt
    rw [← qbn]
    exact sm_congr fun j _=>by grind
  have exact_:∀ l,l<n→l≠p→∀ i,i<n→S.b*((sn*e)*co n A' l i)=s*S.W l i - gr n a S q l*wy n a S p q i:=by
    intro l hl hne
    let y:Nat→Int:=fun i=>S.b*((sn*e)*co n A' l i) - (s*S.W l i - gr n a S q l*wy n a S p q i)
    have hy:∀ r:Nat→Int,dt n r y=S.b*(sn*e)*dt n r (co n A' l) - (s*dt n r (S.W l) - gr n a S q l*(sn*dt n r (S.W p))):=fun r=>by
      rw [← dtwy]
      have e1:dt n r y=dt n r (fun i=>1*(fun i=>(S.b*(sn*e))*co n A' l i+0*0) i+(-1)*(fun i=>s*S.W l i+(- gr n a S q l)*wy n a S p q i) i):=by
        unfold dt
        exact sm_congr fun i _=>by show r i*(_ - _)=r i*_;grind
      rw [e1,qed,qed,qed]
      grind
    have cow:∀ k,k<n→dt n (A' k) (co n A' l)=if k=l then det n A' else 0:=fun k hk=>qkM hl hk
    have aq:dt n (a q) y=0:=by
      have h1:=cow p hp
      rw [if_neg (Ne.symm hne)] at h1
      have h2:A' p=a q:=qck
      rw [h2] at h1
      rw [hy,h1]
      show _ - (s*gr n a S q l - gr n a S q l*(sn*gr n a S q p))=0
      rw [hs]
      grind
    have rest:∀ k,k<n→k≠p→dt n (a (S.h k)) y=0:=fun k hk hkp=>by
      have h1:=cow k hk
      have h2:A' k=a (S.h k):=qeY hkp
      rw [h2] at h1
      rw [hy,h1,o.rt hk hl,o.rt hk hp,if_neg hkp]
      split
      · have:S.b*(sn*e)*det n A'=S.b*s:=by rw [hb'];grind
        rw [this]
        grind
      · grind
    have ap:dt n (a (S.h p)) y=0:=by
      have h1:=o.comb (a q) y
      rw [aq,Int.mul_zero,qcg hp fun k hk hkp=>by rw [rest k hk hkp,Int.mul_zero]] at h1
      rcases Int.mul_eq_zero.mp h1.symm with h | h
      · exact absurd h hg
      · exact h
    intro i hi
    have h0:y i=0:=o.nil (fun k hk=>by
      by_cases c:k=p
      · subst c;exact ap
      · exact rest k hk c) hi
    have h0':S.b*((sn*e)*co n A' l i) - (s*S.W l i - gr n a S q l*wy n a S p q i)=0:=h0
    omega
  have hWl:∀ l i,l<n→l≠p→i<n→(pv n a B S p q).W l i=(sn*e)*co n A' l i:=fun l i hl hne hi=>by
    show (if l=p then _ else (((gr n a S q p).natAbs:Int)*S.W l i - gr n a S q l*wy n a S p q i) / S.b)=_
    rw [if_neg hne,hsz,← exact_ l hl hne i hi,Int.mul_ediv_cancel_left _ (by omega)]
  have hWp:∀ i,(pv n a B S p q).W p i=wy n a S p q i:=fun i=>if_pos rfl
  have eb:(pv n a B S p q).b=s:=hsz
  have hmul:∀ l i,l<n→l≠p→i<n→S.b*(pv n a B S p q).W l i=s*S.W l i - gr n a S q l*wy n a S p q i:=fun l i hl hne hi=>by
    rw [hWl l i hl hne hi];exact exact_ l hl hne i hi
  have pz:∀ i,s*S.W p i - gr n a S q p*wy n a S p q i=0:=fun i=>by rw [hwy,hs];grind
  have hall:∀ l i,l<n→i<n→S.b*(pv n a B S p q).W l i=(s*S.W l i - gr n a S q l*wy n a S p q i)+(if l=p then S.b*wy n a S p q i else 0):=fun l i hl hi=>by
    by_cases c:l=p
    · subst c
      rw [hWp,pz,if_pos rfl,Int.zero_add]
    · rw [if_neg c,hmul l i hl c hi,Int.add_zero]
  have hx:∀ i,i<n→S.b*(sm n fun k=>B ((pv n a B S p q).h k)*(pv n a B S p q).W k i)=s*S.x i - ov n a B S q*wy n a S p q i:=fun i hi=>by
    have gx:(sm n fun k=>B (S.h k)*gr n a S q k)=dt n (a q) S.x:=by
      have e1:dt n (a q) S.x=dt n (a q) (fun i=>sm n fun l=>B (S.h l)*S.W l i):=sm_congr fun i hi=>by rw [o.cor i hi]
      rw [e1,qmd]
      rfl
    rw [← qbn]
    have e1:∀ k,k<n→S.b*(B ((pv n a B S p q).h k)*(pv n a B S p q).W k i)=(s*(B (S.h k)*S.W k i)+(- wy n a S p q i)*(B (S.h k)*gr n a S q k))+(if k=p then B q*(S.b*wy n a S p q i) else 0):=fun k hk=>by
      have h1:=hall k i hk hi
      by_cases c:k=p
      · subst c
        have h2:(pv n a B S k q).h k=q:=if_pos rfl
        have h3:=pz i
        rw [h2,if_pos rfl]
        rw [if_pos rfl,h3] at h1
        have h4:s*(B (S.h k)*S.W k i)+(- wy n a S k q i)*(B (S.h k)*gr n a S q k)=B (S.h k)*(s*S.W k i - gr n a S q k*wy n a S k q i):=by grind
        rw [h4,h3]
        grind
      · have h2:(pv n a B S p q).h k=S.h k:=if_neg c
        rw [h2,if_neg c]
        rw [if_neg c] at h1
        grind
    rw [sm_congr e1,qhE,qdg,← o.cor i hi,gx,qcg hp fun k _ hne=>if_neg hne,if_pos rfl]
    unfold ov
    grind
  have hxx:∀ i,i<n→(pv n a B S p q).x i=sm n fun k=>B ((pv n a B S p q).h k)*(pv n a B S p q).W k i:=fun i hi=>by
    show (((gr n a S q p).natAbs:Int)*S.x i - ov n a B S q*wy n a S p q i) / S.b=_
    rw [hsz,← hx i hi,Int.mul_ediv_cancel_left _ (by omega)]
  refine ⟨⟨by rw [eb];exact hs0,fun k hk=>?_,⟨sn*e,?_,by rw [eb,eA'];exact hb',fun k j hk hj=>?_⟩,fun i j hi hj=>?_,hxx⟩,fun l i hl hne hi=>by rw [eb];exact hmul l i hl hne hi,fun i hi=>by rw [hxx i hi,eb];exact hx i hi⟩
  · show (if k=p then q else S.h k)<M
    split
    · exact hq
    · exact o.lt k hk
  · rcases hsn with h | h <;> rcases he with h' | h' <;> rw [h,h'] <;> simp
  · rw [eA']
    by_cases c:k=p
    · subst c
      rw [hWp,hwy,show co n A' k=co n A k from qni]
      show sn*S.W k j=_
      rw [hw k j hk hj]
      grind
    · exact hWl k j hk c hj
  · rw [eb]
    have e1:S.b*(sm n fun k=>(pv n a B S p q).W k i*a ((pv n a B S p q).h k) j)=S.b*(if i=j then s else 0):=by
      rw [← qbn]
      have e2:∀ k,k<n→S.b*((pv n a B S p q).W k i*a ((pv n a B S p q).h k) j)=(s*(S.W k i*a (S.h k) j)+(- wy n a S p q i)*(gr n a S q k*a (S.h k) j))+(if k=p then S.b*wy n a S p q i*a q j else 0):=fun k hk=>by
        have h1:=hall k i hk hi
        by_cases c:k=p
        · subst c
          have h2:(pv n a B S k q).h k=q:=if_pos rfl
          have h3:=pz i
          rw [h2,if_pos rfl]
          rw [if_pos rfl,h3] at h1
          have h4:s*(S.W k i*a (S.h k) j)+(- wy n a S k q i)*(gr n a S q k*a (S.h k) j)=(s*S.W k i - gr n a S q k*wy n a S k q i)*a (S.h k) j:=by grind
          rw [h4,h3]
          grind
        · have h2:(pv n a B S p q).h k=S.h k:=if_neg c
          rw [h2,if_neg c]
          rw [if_neg c] at h1
          grind
      rw [sm_congr e2,qhE,qdg,o.lf i j hi hj,qcg hp fun k _ hne=>if_neg hne,if_pos rfl]
      have e3:(sm n fun k=>gr n a S q k*a (S.h k) j)=S.b*a q j:=o.row (a q) hj
      rw [e3]
      split <;> grind
    exact Int.eq_of_mul_eq_mul_left (by omega) e1
end
end Wk
namespace Wk
theorem qhY:∀ {n:Nat} {f:Nat→Int},(∀ i,i<n→f i≤0)→sm n f≤0
  | 0,_,_=>Int.le_refl 0
  | n+1,f,h=>by
    show sm n f+f n≤0
    have h1:=qhY (n:=n) (f:=f) fun i hi=>h i (by omega)
    have h2:=h n (by omega)
    omega
theorem qjR:∀ {n k:Nat} {f:Nat→Int},(∀ i,i<n→f i≤0)→k<n→f k<0→sm n f<0
  | 0,_,_,_,h,_=>absurd h (by omega)
  | n+1,k,f,h,hk,hn=>by
    show sm n f+f n<0
    by_cases c:k=n
    · subst c
      have h1:=qhY (n:=k) (f:=f) fun i hi=>h i (by omega)
      omega
    · have h1:=qjR (n:=n) (f:=f) (fun i hi=>h i (by omega)) (by omega:k<n) hn
      have h2:=h n (by omega)
      omega
theorem np {a b:Int} (ha:0≤a) (hb:b≤0):a*b≤0:=Int.mul_nonpos_of_nonneg_of_nonpos ha hb
theorem pn {a b:Int} (ha:a≤0) (hb:0≤b):a*b≤0:=Int.mul_nonpos_of_nonpos_of_nonneg ha hb
theorem qgv {a b:Int} (ha:0<a) (hb:b<0):a*b<0:=Int.mul_neg_of_pos_of_neg ha hb
def In (n:Nat) (S:Sd) (r:Nat):Prop:=∃ k,k<n∧S.h k=r
structure StA (n M:Nat) (a:Mx) (B:Nat→Int) (S:Sd) (p q:Nat):Prop where
  hp:p<n
  hq:q<M
  mis:ov n a B S q<0
  least:∀ r,r<q→0≤ov n a B S r
  grows:0<gr n a S q p
  first:∀ k,k<n→S.h k<S.h p→gr n a S q k≤0
structure StB (n M:Nat) (a:Mx) (B:Nat→Int) (c:Nat→Int) (S:Sd) (p q:Nat):Prop where
  hp:p<n
  hq:q<M
  feas:∀ r,r<M→0≤ov n a B S r
  gain:0<dt n c (S.W p)
  first:∀ k,k<n→S.h k<S.h p→dt n c (S.W k)≤0
  falls:gr n a S q p<0
  least:∀ r,r<M→gr n a S r p<0→ov n a B S q*(- gr n a S r p)≤ov n a B S r*(- gr n a S q p)∧(r<q→ov n a B S q*(- gr n a S r p)<ov n a B S r*(- gr n a S q p))
section
variable {n M : Nat} {a : Mx} {B : Nat → Int} {c : Nat → Int} {S T : Sd}
theorem Ok.inj (o:Ok n a B M S) {k l:Nat} (hk:k<n) (hl:l<n) (e:S.h k=S.h l):k=l:=by
  have h1:=o.rt hl hk
  rw [← e,o.rt hk hk,if_pos rfl] at h1
  split at h1
  · next h=>exact h.symm
  · have:=o.pos;omega
theorem Ok.ov0 (o:Ok n a B M S) {r:Nat} (h:In n S r):ov n a B S r=0:=by
  obtain ⟨k,hk,rfl⟩:=h
  unfold ov
  rw [o.corner hk]
  omega
theorem Ok.uniq (o:Ok n a B M S) (o':Ok n a B M T) (h:∀ k,k<n→S.h k=T.h k):S.b=T.b∧(∀ k j,k<n→j<n→S.W k j=T.W k j)∧∀ i,i<n→S.x i=T.x i:=by
  obtain ⟨e,he,hb,hw⟩:=o.eps
  obtain ⟨f,hf,hb',hw'⟩:=o'.eps
  have ed:det n (fun k=>a (S.h k))=det n (fun k=>a (T.h k)):=det_congr fun i j hi _=>by show a (S.h i) j=a (T.h i) j;rw [h i hi]
  have ec:∀ k j,k<n→co n (fun k=>a (S.h k)) k j=co n (fun k=>a (T.h k)) k j:=fun k j hk=>det_congr fun i l hi _=>by
    unfold up
    split
    · rfl
    · show a (S.h i) l=a (T.h i) l;rw [h i hi]
  have p1:=o.pos
  have p2:=o'.pos
  have ef:e=f:=by
    rw [hb] at p1
    rw [hb',← ed] at p2
    rcases he with rfl | rfl <;> rcases hf with rfl | rfl
    · rfl
    · omega
    · omega
    · rfl
  subst ef
  have hW:∀ k j,k<n→j<n→S.W k j=T.W k j:=fun k j hk hj=>by rw [hw k j hk hj,hw' k j hk hj,ec k j hk]
  refine ⟨by rw [hb,hb',ed],hW,fun i hi=>?_⟩
  rw [o.cor i hi,o'.cor i hi]
  exact sm_congr fun k hk=>by rw [h k hk,hW k i hk hi]
structure Nx (n M:Nat) (a:Mx) (B:Nat→Int) (S T:Sd) (p q:Nat):Prop where
  ok:Ok n a B M S
  ok':Ok n a B M T
  hp:p<n
  hq:q<M
  ne:gr n a S q p≠0
  hh:∀ k,k<n→T.h k=if k=p then q else S.h k
theorem Nx.at (x:Nx n M a B S T p q):T.b=(gr n a S q p).natAbs∧∀ i,i<n→S.b*T.x i=T.b*S.x i - ov n a B S q*wy n a S p q i:=by
  obtain ⟨o,h1,h2⟩:=x.ok.pv_all x.hp x.hq x.ne
  obtain ⟨eb,_,ex⟩:=x.ok'.uniq o x.hh
  refine ⟨eb,fun i hi=>?_⟩
  rw [ex i hi,h2 i hi,eb]
theorem Nx.dtx (x:Nx n M a B S T p q) (r:Nat→Int):S.b*dt n r T.x=T.b*dt n r S.x - ov n a B S q*dt n r (wy n a S p q):=by
  have e:S.b*dt n r T.x=dt n r (fun i=>T.b*S.x i+(- ov n a B S q)*wy n a S p q i):=by
    unfold dt
    rw [← qbn]
    refine sm_congr fun i hi=>?_
    have:=x.at.2 i hi
    grind
  rw [e,qed]
  grind
theorem qjO (r u:Nat→Int):dt n r (fun i=>- u i) = - dt n r u:=by
  have:=qed n r (-1) 0 u u
  have e:(fun i=>-1*u i+0*u i)=fun i=>- u i:=by funext i;omega
  rw [e] at this
  omega
theorem qjH {p q:Nat} (h:gr n a S q p<0):wy n a S p q=fun i=>- S.W p i:=by
  funext i
  unfold wy
  rw [if_pos h]
theorem Nx.inn (x:Nx n M a B S T p q) (hq:¬ In n S q) {r:Nat}:In n T r↔(In n S r∧r≠S.h p)∨r=q:=by
  constructor
  · rintro ⟨k,hk,rfl⟩
    rw [x.hh k hk]
    split
    · exact .inr rfl
    · next h=>exact .inl ⟨⟨k,hk,rfl⟩,fun e=>h (x.ok.inj hk x.hp e)⟩
  · rintro (⟨⟨k,hk,rfl⟩,h⟩ | rfl)
    · refine ⟨k,hk,?_⟩
      rw [x.hh k hk,if_neg fun e=>h (by rw [e])]
    · exact ⟨p,x.hp,by rw [x.hh p x.hp,if_pos rfl]⟩
theorem StA.notin (s:StA n M a B S p q) (o:Ok n a B M S):¬ In n S q:=fun h=>by
  have:=o.ov0 h
  have:=s.mis
  omega
theorem StB.notin (s:StB n M a B c S p q) (o:Ok n a B M S):¬ In n S q:=fun ⟨k,hk,e⟩=>by
  have h1:=s.falls
  unfold gr at h1
  rw [← e,o.rt hk s.hp] at h1
  have:=o.pos
  split at h1 <;> omega
theorem StB.stays (s:StB n M a B c S p q) (x:Nx n M a B S T p q) {r:Nat} (hr:r<M):0≤ov n a B T r:=by
  have h1:=x.dtx (a r)
  rw [qjH s.falls,qjO] at h1
  have hb:=x.at.1
  have hf:=s.falls
  have hTb:T.b = - gr n a S q p:=by omega
  have p0:=x.ok.pos
  have o1:=s.feas r hr
  have o2:=s.feas q s.hq
  have key:S.b*ov n a B T r=(- gr n a S q p)*ov n a B S r+ov n a B S q*gr n a S r p:=by
    unfold ov gr at *
    rw [Int.mul_sub,h1,hTb]
    grind
  have nn:0≤S.b*ov n a B T r:=by
    rw [key]
    by_cases c:gr n a S r p<0
    · have:=(s.least r hr c).1
      grind
    · have m1:=Int.mul_nonneg (show 0≤- gr n a S q p by omega) o1
      have m2:=Int.mul_nonneg o2 (show 0≤gr n a S r p by omega)
      omega
  rcases Int.lt_or_le (ov n a B T r) 0 with h | h
  · have:=Int.mul_neg_of_pos_of_neg p0 h
    omega
  · exact h
theorem StB.worth (s:StB n M a B c S p q) (x:Nx n M a B S T p q):S.b*dt n c T.x=T.b*dt n c S.x+ov n a B S q*dt n c (S.W p):=by
  have h1:=x.dtx c
  rw [qjH s.falls,qjO] at h1
  rw [h1]
  grind
theorem qdI (o:Ok n a B M S) (o':Ok n a B M T) (h:∀ r,In n S r→In n T r):∀ i,i<n→T.b*S.x i=S.b*T.x i:=fun i hi=>by
  have:(fun i=>T.b*S.x i+(- S.b)*T.x i) i=0:=o.nil (y:=fun i=>T.b*S.x i+(- S.b)*T.x i) (fun k hk=>by
    rw [qed,o.corner hk]
    obtain ⟨l,hl,e⟩:=h _ ⟨k,hk,rfl⟩
    rw [← e,o'.corner hl]
    grind) hi
  have:T.b*S.x i+(- S.b)*T.x i=0:=this
  grind
theorem qlH {x y:Nat→Int} {s t:Int} (h:∀ i,i<n→t*x i=s*y i) (r:Nat→Int):t*dt n r x=s*dt n r y:=by
  unfold dt
  rw [← qbn,← qbn]
  exact sm_congr fun i hi=>by have:=h i hi;grind
theorem qkF (h:∀ i,i<n→T.b*S.x i=S.b*T.x i) (r:Nat):T.b*ov n a B S r=S.b*ov n a B T r:=by
  have:=qlH h (a r)
  unfold ov
  grind
end
structure Chain (n M:Nat) (a:Mx) (B:Nat→Int) (c:Nat→Int) (m:Nat) (S:Nat→Sd) (P Q:Nat→Nat):Prop where
  nx:∀ i,i<m→Nx n M a B (S i) (S (i+1)) (P i) (Q i)
  st:∀ i,i<m→StA n M a B (S i) (P i) (Q i)∨StB n M a B c (S i) (P i) (Q i)
section
variable {n M : Nat} {a : Mx} {B : Nat → Int} {c : Nat → Int} {m : Nat} {S : Nat → Sd} {P Q : Nat → Nat}
theorem Chain.notin (C:Chain n M a B c m S P Q) {i:Nat} (hi:i<m):¬ In n (S i) (Q i):=(C.st i hi).elim (fun s=>s.notin (C.nx i hi).ok) (fun s=>s.notin (C.nx i hi).ok)
theorem Chain.ok (C:Chain n M a B c m S P Q) (hm:0<m) {i:Nat} (hi:i≤m):Ok n a B M (S i):=by
  rcases Nat.lt_or_ge i m with h | h
  · exact (C.nx i h).ok
  · obtain ⟨j,rfl⟩:∃ j,i=j+1:=⟨i - 1,by omega⟩
    exact (C.nx j (by omega)).ok'
theorem Chain.inn (C:Chain n M a B c m S P Q) {i:Nat} (hi:i<m) {r:Nat}:In n (S (i+1)) r↔(In n (S i) r∧r≠(S i).h (P i))∨r=Q i:=(C.nx i hi).inn (C.notin hi)
theorem Chain.still (C:Chain n M a B c m S P Q) (he:∀ r,In n (S 0) r↔In n (S m) r) {r:Nat} (hr:∀ i,i<m→Q i≠r) {i:Nat} (hi:i≤m):In n (S i) r↔In n (S 0) r:=by
  have down:∀ d j,j+d≤m→In n (S (j+d)) r→In n (S j) r:=by
    intro d
    induction d with
    | zero=>intro j _ h;exact h
    | succ d ih =>
      intro j hj h
      refine ih j (by omega) ?_
      have h2:In n (S (j+d+1)) r:=h
      rcases (C.inn (by omega:j+d<m)).mp h2 with h | h
      · exact h.1
      · exact absurd h.symm (hr _ (by omega))
  constructor
  · intro h;exact down i 0 (by omega) (by rw [Nat.zero_add];exact h)
  · intro h
    have:=(he r).mp h
    exact down (m - i) i (by omega) (by rw [show i+(m - i)=m by omega];exact this)
theorem Chain.left (C:Chain n M a B c m S P Q) (he:∀ r,In n (S 0) r↔In n (S m) r) {i:Nat} (hi:i<m):∃ j,j<m∧Q j=(S i).h (P i):=by
  apply Classical.byContradiction
  intro no
  have hr:∀ j,j<m→Q j≠(S i).h (P i):=fun j hj e=>no ⟨j,hj,e⟩
  have hin:In n (S i) ((S i).h (P i)):=⟨P i,(C.nx i hi).hp,rfl⟩
  have h1:=(C.still he hr (Nat.le_of_lt hi)).mp hin
  have h2:=(C.still he hr (show i+1≤m by omega)).mpr h1
  rcases (C.inn hi).mp h2 with h | h
  · exact h.2 rfl
  · exact hr i hi h.symm
theorem Chain.enters (C:Chain n M a B c m S P Q) (he:∀ r,In n (S 0) r↔In n (S m) r) {i:Nat} (hi:i<m):∃ j,j<m∧(S j).h (P j)=Q i:=by
  apply Classical.byContradiction
  intro no
  have up_:∀ d j,j+d≤m→In n (S j) (Q i)→In n (S (j+d)) (Q i):=by
    intro d
    induction d with
    | zero=>intro j _ h;exact h
    | succ d ih =>
      intro j hj h
      exact (C.inn (by omega:j+d<m)).mpr (.inl ⟨ih j (by omega) h,fun e=>no ⟨j+d,by omega,e.symm⟩⟩)
  have h1:In n (S (i+1)) (Q i):=(C.inn hi).mpr (.inr rfl)
  have h2:=up_ (m - (i+1)) (i+1) (by omega) h1
  rw [show i+1+(m - (i+1))=m by omega] at h2
  have h3:=up_ i 0 (by omega) ((he _).mpr h2)
  rw [Nat.zero_add] at h3
  exact C.notin hi h3
theorem qk6 (Q:Nat→Nat):∀ m,0<m→∃ i,i<m∧∀ j,j<m→Q j≤Q i
  | 0,h=>absurd h (by omega)
  | 1,_=>⟨0,by omega,fun j hj=>by rw [show j=0 by omega];exact Nat.le_refl _⟩
  | m+2,_=>by
    obtain ⟨i,hi,h⟩:=qk6 Q (m+1) (by omega)
    by_cases e:Q (m+1)≤Q i
    · exact ⟨i,by omega,fun j hj=>by
        by_cases e2:j=m+1
        · rw [e2];exact e
        · exact h j (by omega)⟩
    · exact ⟨m+1,by omega,fun j hj=>by
        by_cases e2:j=m+1
        · rw [e2];exact Nat.le_refl _
        · have:=h j (by omega);omega⟩
theorem Chain.allA (C:Chain n M a B c m S P Q) (hm:0<m) (he:∀ r,In n (S 0) r↔In n (S m) r) (hA:∀ i,i<m→StA n M a B (S i) (P i) (Q i)):False:=by
  obtain ⟨i2,h2,ht⟩:=qk6 Q m hm
  obtain ⟨i1,h1,hl⟩:=C.enters he h2
  have o1:=(C.nx i1 h1).ok
  have o2:=(C.nx i2 h2).ok
  have s1:=hA i1 h1
  have s2:=hA i2 h2
  have p1:=o1.pos
  have p2:=o2.pos
  have key:(S i1).b*ov n a B (S i2) (Q i1)=(sm n fun k=>gr n a (S i1) (Q i1) k*ov n a B (S i2) ((S i1).h k))+(S i2).b*ov n a B (S i1) (Q i1):=by
    have e1:=o1.comb (a (Q i1)) (S i2).x
    have e2:=o1.comb (a (Q i1)) (S i1).x
    have e3:(sm n fun k=>dt n (a (Q i1)) ((S i1).W k)*dt n (a ((S i1).h k)) (S i1).x)=(S i1).b*sm n fun k=>gr n a (S i1) (Q i1) k*B ((S i1).h k):=by
      rw [← qbn]
      exact sm_congr fun k hk=>by rw [o1.corner hk];unfold gr;grind
    rw [e3] at e2
    have e4:=Int.eq_of_mul_eq_mul_left (by omega) e2
    have e5:(sm n fun k=>gr n a (S i1) (Q i1) k*ov n a B (S i2) ((S i1).h k))=1*(sm n fun k=>gr n a (S i1) (Q i1) k*dt n (a ((S i1).h k)) (S i2).x)+(- (S i2).b)*(sm n fun k=>gr n a (S i1) (Q i1) k*B ((S i1).h k)):=by
      rw [← qdg]
      exact sm_congr fun k _=>by unfold ov;grind
    rw [e5,← e4]
    have e6:(sm n fun k=>gr n a (S i1) (Q i1) k*dt n (a ((S i1).h k)) (S i2).x)=(S i1).b*dt n (a (Q i1)) (S i2).x:=e1.symm
    rw [e6]
    unfold ov
    grind
  have neg:ov n a B (S i2) (Q i1)<0:=by
    have hs:(sm n fun k=>gr n a (S i1) (Q i1) k*ov n a B (S i2) ((S i1).h k))≤0:=qhY fun k hk=>by
      by_cases c1:∃ j,j<m∧Q j=(S i1).h k
      · obtain ⟨j,hj,ej⟩:=c1
        have hle:=ht j hj
        by_cases c2:(S i1).h k=Q i2
        · have ek:k=P i1:=o1.inj hk s1.hp (by rw [c2,hl])
          subst ek
          have g1:=s1.grows
          have m2:=s2.mis
          rw [c2]
          exact np (by omega) (by omega)
        · have g1:=s1.first k hk (by rw [hl];omega)
          have m2:=s2.least ((S i1).h k) (by omega)
          exact pn g1 m2
      · have hr:∀ j,j<m→Q j≠(S i1).h k:=fun j hj e=>c1 ⟨j,hj,e⟩
        have hin:=(C.still he hr (Nat.le_of_lt h1)).mp ⟨k,hk,rfl⟩
        have hin2:=(C.still he hr (Nat.le_of_lt h2)).mpr hin
        rw [o2.ov0 hin2,Int.mul_zero]
        exact Int.le_refl 0
    have hm1:=qgv p2 s1.mis
    rcases Int.lt_or_le (ov n a B (S i2) (Q i1)) 0 with h | h
    · exact h
    · have:=Int.mul_nonneg (Int.le_of_lt p1) h
      omega
  have hne:Q i1≠Q i2:=fun e=>s1.notin o1 ⟨P i1,s1.hp,by rw [hl,e]⟩
  have hle:=ht i1 h1
  have:=s2.least (Q i1) (by omega)
  omega
theorem Chain.allB (C:Chain n M a B c m S P Q) (hm:0<m) (he:∀ r,In n (S 0) r↔In n (S m) r) (hB:∀ i,i<m→StB n M a B c (S i) (P i) (Q i)):False:=by
  have up_:∀ i,i≤m→0≤(S 0).b*dt n c (S i).x - (S i).b*dt n c (S 0).x:=by
    intro i
    induction i with
    | zero=>intro _;omega
    | succ i ih =>
      intro hi
      have h0:=ih (by omega)
      have w:=(hB i (by omega)).worth (C.nx i (by omega))
      have g:=(hB i (by omega)).gain
      have f:=(hB i (by omega)).feas _ (hB i (by omega)).hq
      have q0:=(C.ok hm (show 0≤m by omega)).pos
      have q1:=(C.ok hm (show i≤m by omega)).pos
      have q2:=(C.ok hm hi).pos
      have m1:=Int.mul_nonneg f (Int.le_of_lt g)
      have m2:=Int.mul_nonneg (Int.le_of_lt q0) m1
      have m3:=Int.mul_nonneg (Int.le_of_lt q2) h0
      have e:(S i).b*((S 0).b*dt n c (S (i+1)).x - (S (i+1)).b*dt n c (S 0).x)=(S (i+1)).b*((S 0).b*dt n c (S i).x - (S i).b*dt n c (S 0).x)+(S 0).b*(ov n a B (S i) (Q i)*dt n c ((S i).W (P i))):=by grind
      rcases Int.lt_or_le ((S 0).b*dt n c (S (i+1)).x - (S (i+1)).b*dt n c (S 0).x) 0 with h | h
      · have:=qgv q1 h
        omega
      · exact h
  have sc:=qdI (C.ok hm (show 0≤m by omega)) (C.ok hm (Nat.le_refl m)) fun r=>(he r).mp
  have end_:(S 0).b*dt n c (S m).x - (S m).b*dt n c (S 0).x=0:=by
    have:=qlH sc c
    omega
  have flat:∀ d,d≤m→(S 0).b*dt n c (S (m - d)).x - (S (m - d)).b*dt n c (S 0).x=0∧(0<d→ov n a B (S (m - d)) (Q (m - d))=0):=by
    intro d
    induction d with
    | zero=>intro _;exact ⟨by rw [Nat.sub_zero];exact end_,fun h=>absurd h (by omega)⟩
    | succ d ih =>
      intro hd
      have h0:=(ih (by omega)).1
      obtain ⟨i,hi,hi'⟩:∃ i,m - (d+1)=i∧m - d=i+1:=⟨m - (d+1),rfl,by omega⟩
      rw [hi'] at h0
      rw [hi]
      have w:=(hB i (by omega)).worth (C.nx i (by omega))
      have g:=(hB i (by omega)).gain
      have f:=(hB i (by omega)).feas _ (hB i (by omega)).hq
      have q0:=(C.ok hm (show 0≤m by omega)).pos
      have q1:=(C.ok hm (show i≤m by omega)).pos
      have q2:=(C.ok hm (show i+1≤m by omega)).pos
      have u:=up_ i (by omega)
      have m1:=Int.mul_nonneg f (Int.le_of_lt g)
      have m2:=Int.mul_nonneg (Int.le_of_lt q0) m1
      have m3:=Int.mul_nonneg (Int.le_of_lt q2) u
      have e:(S i).b*((S 0).b*dt n c (S (i+1)).x - (S (i+1)).b*dt n c (S 0).x)=(S (i+1)).b*((S 0).b*dt n c (S i).x - (S i).b*dt n c (S 0).x)+(S 0).b*(ov n a B (S i) (Q i)*dt n c ((S i).W (P i))):=by grind
      rw [h0,Int.mul_zero] at e
      have e1:(S (i+1)).b*((S 0).b*dt n c (S i).x - (S i).b*dt n c (S 0).x)=0:=by omega
      have e2:(S 0).b*(ov n a B (S i) (Q i)*dt n c ((S i).W (P i)))=0:=by omega
      refine ⟨?_,fun _=>?_⟩
      · rcases Int.mul_eq_zero.mp e1 with h | h
        · omega
        · exact h
      · rcases Int.mul_eq_zero.mp e2 with h | h
        · omega
        · rcases Int.mul_eq_zero.mp h with h | h
          · exact h
          · omega
  have zero:∀ i,i<m→ov n a B (S i) (Q i)=0:=fun i hi=>by
    have:=(flat (m - i) (by omega)).2 (by omega)
    rw [show m - (m - i)=i by omega] at this
    exact this
  have corner:∀ i,i≤m→∀ j,j<n→(S 0).b*(S i).x j=(S i).b*(S 0).x j:=by
    intro i
    induction i with
    | zero=>intro _ j _;rfl
    | succ i ih =>
      intro hi j hj
      have h0:=ih (by omega) j hj
      have h1:=(C.nx i (by omega)).at.2 j hj
      rw [zero i (by omega),Int.zero_mul,Int.sub_zero] at h1
      have q1:=(C.ok hm (show i≤m by omega)).pos
      refine Int.eq_of_mul_eq_mul_left (show (S i).b≠0 by omega) ?_
      grind
  have ovz:∀ i j r,i≤m→j≤m→ov n a B (S i) r=0→ov n a B (S j) r=0:=fun i j r hi hj h=>by
    have e1:=qkF (a:=a) (B:=B) (S:=S i) (T:=S 0) (corner i hi) r
    have e2:=qkF (a:=a) (B:=B) (S:=S j) (T:=S 0) (corner j hj) r
    have q0:=(C.ok hm (show 0≤m by omega)).pos
    have q1:=(C.ok hm hi).pos
    rw [h,Int.mul_zero] at e1
    rcases Int.mul_eq_zero.mp e1.symm with h3 | h3
    · omega
    · rw [h3,Int.mul_zero] at e2
      rcases Int.mul_eq_zero.mp e2 with h4 | h4
      · omega
      · exact h4
  obtain ⟨i2,h2,ht⟩:=qk6 Q m hm
  obtain ⟨i1,h1,hl⟩:=C.enters he h2
  have o1:=(C.nx i1 h1).ok
  have o2:=(C.nx i2 h2).ok
  have s1:=hB i1 h1
  have s2:=hB i2 h2
  have key:=o1.comb c ((S i2).W (P i2))
  have hs:(sm n fun k=>dt n c ((S i1).W k)*dt n (a ((S i1).h k)) ((S i2).W (P i2)))<0:=by
    refine qjR (k:=P i1) (fun k hk=>?_) s1.hp ?_
    · by_cases c1:∃ j,j<m∧Q j=(S i1).h k
      · obtain ⟨j,hj,ej⟩:=c1
        have hle:=ht j hj
        by_cases c2:(S i1).h k=Q i2
        · have ek:k=P i1:=o1.inj hk s1.hp (by rw [c2,hl])
          subst ek
          have g1:=s1.gain
          have f2:=s2.falls
          unfold gr at f2
          rw [c2]
          exact np (by omega) (by omega)
        · have g1:=s1.first k hk (by rw [hl];omega)
          refine pn g1 ?_
          rcases Int.lt_or_le (dt n (a ((S i1).h k)) ((S i2).W (P i2))) 0 with h | h
          · have hlt:=o1.lt k hk
            have l2:=(s2.least ((S i1).h k) hlt h).2 (by omega)
            have z1:ov n a B (S i2) ((S i1).h k)=0:=ovz i1 i2 _ (by omega) (by omega) (o1.ov0 ⟨k,hk,rfl⟩)
            rw [zero i2 h2,z1,Int.zero_mul,Int.zero_mul] at l2
            omega
          · exact h
      · have hr:∀ j,j<m→Q j≠(S i1).h k:=fun j hj e=>c1 ⟨j,hj,e⟩
        have hin:=(C.still he hr (Nat.le_of_lt h1)).mp ⟨k,hk,rfl⟩
        obtain ⟨l,hl2,e2⟩:=(C.still he hr (Nat.le_of_lt h2)).mpr hin
        have hne:l≠P i2:=fun e=>by
          obtain ⟨j,hj,ej⟩:=C.left he h2
          exact hr j hj (by rw [ej,← e2,e])
        rw [← e2,o2.rt hl2 s2.hp,if_neg hne,Int.mul_zero]
        exact Int.le_refl 0
    · have g1:=s1.gain
      have f2:=s2.falls
      unfold gr at f2
      rw [hl]
      exact qgv g1 f2
  rw [← key] at hs
  have:=Int.mul_pos o1.pos s2.gain
  omega
theorem Chain.never (C:Chain n M a B c m S P Q) (hm:0<m) (he:∀ r,In n (S 0) r↔In n (S m) r):False:=by
  by_cases hf:∃ i,i<m∧StB n M a B c (S i) (P i) (Q i)
  · obtain ⟨i0,hi0,s0⟩:=hf
    have fe:∀ d,i0+d≤m→∀ r,r<M→0≤ov n a B (S (i0+d)) r:=by
      intro d
      induction d with
      | zero=>intro _ r hr;exact s0.feas r hr
      | succ d ih =>
        intro hd r hr
        rcases C.st (i0+d) (by omega) with s | s
        · have:=ih (by omega) _ s.hq
          have:=s.mis
          omega
        · exact s.stays (C.nx (i0+d) (by omega)) hr
    have fm:=fe (m - i0) (by omega)
    rw [show i0+(m - i0)=m by omega] at fm
    have sc:=qdI (C.ok hm (show 0≤m by omega)) (C.ok hm (Nat.le_refl m)) fun r=>(he r).mp
    have f0:∀ r,r<M→0≤ov n a B (S 0) r:=fun r hr=>by
      have e:=qkF (a:=a) (B:=B) sc r
      have q0:=(C.ok hm (show 0≤m by omega)).pos
      have qm:=(C.ok hm (Nat.le_refl m)).pos
      rcases Int.lt_or_le (ov n a B (S 0) r) 0 with h | h
      · have:=qgv qm h
        have:=Int.mul_nonneg (Int.le_of_lt q0) (fm r hr)
        omega
      · exact h
    have fall_:∀ i,i≤m→∀ r,r<M→0≤ov n a B (S i) r:=by
      intro i
      induction i with
      | zero=>intro _;exact f0
      | succ i ih =>
        intro hi r hr
        rcases C.st i (by omega) with s | s
        · have:=ih (by omega) _ s.hq
          have:=s.mis
          omega
        · exact s.stays (C.nx i (by omega)) hr
    refine C.allB hm he fun i hi=>?_
    rcases C.st i hi with s | s
    · have:=fall_ i (by omega) _ s.hq
      have:=s.mis
      omega
    · exact s
  · refine C.allA hm he fun i hi=>?_
    rcases C.st i hi with s | s
    · exact s
    · exact absurd ⟨i,hi,s⟩ hf
end
end Wk
namespace Wk
theorem qgF:∀ (N:Nat) {m:Nat} {f:Nat→Nat},(∀ i,i≤m→f i<N)→(∀ i j,i<j→j≤m→f i≠f j)→m<N
  | 0,m,f,h,_=>absurd (h 0 (by omega)) (by omega)
  | N+1,m,f,h,hi=>by
    by_cases c:∃ i,i≤m∧f i=N
    · obtain ⟨k,hk,e⟩:=c
      by_cases c0:m=0
      · omega
      · have:=qgF N (m:=m - 1) (f:=fun i=>if i<k then f i else f (i+1)) (fun i h1=>?_) (fun i j h1 h2=>?_)
        · omega
        · show (if i<k then f i else f (i+1))<N
          split
          · next h2 =>
            have:=h i (by omega)
            have:=hi i k h2 hk
            omega
          · next h2 =>
            have:=h (i+1) (by omega)
            have:=hi k (i+1) (by omega) (by omega)
            omega
        · show (if i<k then f i else f (i+1))≠(if j<k then f j else f (j+1))
          split <;> split
          · exact hi i j h1 (by omega)
          · exact hi i (j+1) (by omega) (by omega)
          · omega
          · exact hi (i+1) (j+1) (by omega) (by omega)
    · have:=qgF N (m:=m) (f:=f) (fun i h1=>by
        have:=h i h1
        have:f i≠N:=fun e=>c ⟨i,h1,e⟩
        omega) hi
      omega
def msk (p:Nat→Bool):Nat→Nat
  | 0=>0
  | r+1=>msk p r+(if p r=true then 2 ^ r else 0)
theorem qgq (p:Nat→Bool):∀ M,msk p M<2 ^ M
  | 0=>Nat.zero_lt_one
  | r+1=>by
    have:=qgq p r
    show msk p r+_<2 ^ (r+1)
    rw [Nat.pow_succ]
    split <;> omega
theorem qhp {p q:Nat→Bool}:∀ {M:Nat},msk p M=msk q M→∀ r,r<M→p r=q r
  | 0,_,r,hr=>absurd hr (by omega)
  | M+1,h,r,hr=>by
    have h':msk p M+(if p M=true then 2 ^ M else 0)=msk q M+(if q M=true then 2 ^ M else 0):=h
    have l1:=qgq p M
    have l2:=qgq q M
    have e:p M=q M:=by
      cases c1:p M <;> cases c2:q M
      · rfl
      · rw [c1,c2,if_neg (by decide),if_pos rfl] at h';omega
      · rw [c1,c2,if_pos rfl,if_neg (by decide)] at h';omega
      · rfl
    by_cases c:r=M
    · rw [c,e]
    · rw [e] at h'
      exact qhp (M:=M) (by omega) r (by omega)
open Classical in
noncomputable def qmY (n:Nat) (S:Sd) (M:Nat):Nat:=msk (fun r=>decide (In n S r)) M
section
variable {n M : Nat} {a : Mx} {B : Nat → Int} {c : Nat → Int} {m : Nat} {S : Nat → Sd} {P Q : Nat → Nat}
theorem Chain.part (C:Chain n M a B c m S P Q) {i j:Nat} (h:j≤m):Chain n M a B c (j - i) (fun k=>S (i+k)) (fun k=>P (i+k)) (fun k=>Q (i+k)) :=
  ⟨fun k hk=>C.nx (i+k) (by omega),fun k hk=>C.st (i+k) (by omega)⟩
theorem Ok.in_lt {S:Sd} (o:Ok n a B M S) {r:Nat} (h:In n S r):r<M:=by
  obtain ⟨k,hk,rfl⟩:=h
  exact o.lt k hk
open Classical in
theorem Chain.unlike (C:Chain n M a B c m S P Q) {i j:Nat} (h:i<j) (hj:j≤m):qmY n (S i) M≠qmY n (S j) M:=fun e=>by
  have o1:=C.ok (by omega) (show i≤m by omega)
  have o2:=C.ok (by omega) hj
  have hs:∀ r,In n (S i) r↔In n (S j) r:=fun r=>by
    by_cases c:r<M
    · have h1:=qhp e r c
      constructor
      · intro h
        exact of_decide_eq_true (h1.symm.trans (decide_eq_true h))
      · intro h
        exact of_decide_eq_true (h1.trans (decide_eq_true h))
    · exact ⟨fun h=>absurd (o1.in_lt h) c,fun h=>absurd (o2.in_lt h) c⟩
  refine (C.part (i:=i) hj).never (by omega) fun r=>?_
  show In n (S (i+0)) r↔In n (S (i+(j - i))) r
  rw [show i+(j - i)=j by omega]
  exact hs r
theorem Chain.short (C:Chain n M a B c m S P Q):m<2 ^ M :=
  qgF (2 ^ M) (m:=m) (f:=fun i=>qmY n (S i) M) (fun i _=>qgq _ M) fun i j h hj=>C.unlike h hj
theorem Chain.more (C:Chain n M a B c m S P Q) {T:Sd} {p q:Nat} (x:Nx n M a B (S m) T p q) (s:StA n M a B (S m) p q∨StB n M a B c (S m) p q) :
    Chain n M a B c (m+1) (fun i=>if i≤m then S i else T) (fun i=>if i<m then P i else p) (fun i=>if i<m then Q i else q):=by
  constructor
  · intro i hi
    show Nx n M a B (if i≤m then S i else T) (if i+1≤m then S (i+1) else T) (if i<m then P i else p) (if i<m then Q i else q)
    by_cases c:i<m
    · rw [if_pos (by omega),if_pos (by omega),if_pos c,if_pos c]
      exact C.nx i c
    · obtain rfl:i=m:=by omega
      rw [if_pos (by omega),if_neg (by omega),if_neg c,if_neg c]
      exact x
  · intro i hi
    show StA n M a B (if i≤m then S i else T) (if i<m then P i else p) (if i<m then Q i else q)∨StB n M a B _ (if i≤m then S i else T) (if i<m then P i else p) (if i<m then Q i else q)
    by_cases c:i<m
    · rw [if_pos (by omega),if_pos c,if_pos c]
      exact C.st i c
    · obtain rfl:i=m:=by omega
      rw [if_pos (by omega),if_neg c,if_neg c]
      exact s
theorem chain0 (T:Sd):Chain n M a B c 0 (fun _=>T) (fun _=>0) (fun _=>0):=⟨fun i h=>absurd h (by omega),fun i h=>absurd h (by omega)⟩
theorem ok_start (hn:n≤M) (ha:∀ k j,k<n→j<n→a k j=un k j):Ok n a B M ⟨fun k=>k,fun k=>un k,fun i=>B i,1⟩:=by
  have ed:det n (fun k=>a k)=1:=by
    rw [← qgd n]
    exact det_congr fun i j hi hj=>ha i j hi hj
  have ec:∀ k j,k<n→j<n→co n (fun k=>a k) k j=un k j:=fun k j hk hj=>by
    have e1:co n (fun k=>a k) k j=co n un k j:=det_congr fun i l hi hl=>by
      unfold up
      split
      · rfl
      · exact ha i l hi hl
    rw [e1]
    have h:=qkM (A:=un) hk hj
    rw [qcg hj fun i hi hne=>?_] at h
    · rw [qgd] at h
      have e2:un j j=1:=if_pos rfl
      rw [e2,Int.one_mul] at h
      rw [h]
      rfl
    · show (if i=j then (1:Int) else 0)*_=0
      rw [if_neg hne,Int.zero_mul]
  refine ⟨by show (0:Int)<1;decide,fun k hk=>by show k<M;omega,⟨1,.inl rfl,?_,fun k j hk hj=>?_⟩,fun i j hi hj=>?_,fun i hi=>?_⟩
  · show (1:Int)=1*det n (fun k=>a k)
    rw [ed]
    rfl
  · show un k j=1*co n (fun k=>a k) k j
    rw [ec k j hk hj,Int.one_mul]
  · show (sm n fun k=>un k i*a k j)=if i=j then 1 else 0
    rw [qcg hi fun k hk hne=>?_,ha i j hi hj]
    · have e2:un i i=1:=if_pos rfl
      rw [e2,Int.one_mul]
      unfold un
      by_cases c:i=j
      · rw [if_pos c,if_pos c.symm]
      · rw [if_neg c,if_neg (Ne.symm c)]
    · show (if i=k then (1:Int) else 0)*_=0
      rw [if_neg (Ne.symm hne),Int.zero_mul]
  · show B i=sm n fun k=>B k*un k i
    rw [qcg hi fun k hk hne=>?_]
    · have e2:un i i=1:=if_pos rfl
      rw [e2,Int.mul_one]
    · show _*(if i=k then (1:Int) else 0)=0
      rw [if_neg (Ne.symm hne),Int.mul_zero]
end
end Wk
namespace Wk
def enc (M:Nat) (h:Nat→Nat):Nat→Nat
  | 0=>0
  | n+1=>enc M h n*M+h n
theorem qht {M:Nat} {h:Nat→Nat}:∀ {n:Nat},(∀ k,k<n→h k<M)→enc M h n<M ^ n
  | 0,_=>by show 0<1;decide
  | n+1,hl=>by
    have ih:=qht (n:=n) fun k hk=>hl k (by omega)
    have h1:=hl n (by omega)
    show enc M h n*M+h n<M ^ n*M
    have h2:(enc M h n+1)*M≤M ^ n*M:=Nat.mul_le_mul_right M ih
    rw [Nat.add_mul] at h2
    omega
theorem qhm {M:Nat} {h g:Nat→Nat}:∀ {n:Nat},(∀ k,k<n→h k<M)→(∀ k,k<n→g k<M)→enc M h n=enc M g n→∀ k,k<n→h k=g k
  | 0,_,_,_,k,hk=>absurd hk (by omega)
  | n+1,h1,h2,e,k,hk=>by
    have e:enc M h n*M+h n=enc M g n*M+g n:=e
    have a:=h1 n (by omega)
    have b:=h2 n (by omega)
    have em:(enc M h n*M+h n) % M=(enc M g n*M+g n) % M:=by rw [e]
    rw [Nat.mul_add_mod_self_right,Nat.mul_add_mod_self_right,Nat.mod_eq_of_lt a,Nat.mod_eq_of_lt b] at em
    by_cases c:k=n
    · rw [c];exact em
    · have e2:enc M h n*M=enc M g n*M:=by omega
      have e3:=Nat.eq_of_mul_eq_mul_right (show 0<M by omega) e2
      exact qhm (fun k hk=>h1 k (by omega)) (fun k hk=>h2 k (by omega)) e3 k (by omega)
section
variable {n M : Nat} {a : Mx} {B : Nat → Int} {c : Nat → Int} {m : Nat} {S : Nat → Sd} {P Q : Nat → Nat}
theorem Chain.fewer (C:Chain n M a B c m S P Q) (o0:Ok n a B M (S 0)):m<M ^ n:=by
  by_cases hm:m=0
  · subst hm
    have:=qht (M:=M) (h:=(S 0).h) (n:=n) fun k hk=>o0.lt k hk
    omega
  refine qgF (M ^ n) (m:=m) (f:=fun i=>enc M (S i).h n) (fun i hi=>qht fun k hk=>(C.ok (by omega) hi).lt k hk) fun i j h hj e=>?_
  have o1:=C.ok (by omega) (show i≤m by omega)
  have o2:=C.ok (by omega) hj
  have hh:=qhm (fun k hk=>o1.lt k hk) (fun k hk=>o2.lt k hk) e
  refine C.unlike h hj ?_
  unfold qmY
  have:(fun r=>@decide (In n (S i) r) (Classical.propDecidable _))=fun r=>@decide (In n (S j) r) (Classical.propDecidable _):=by
    funext r
    have:In n (S i) r↔In n (S j) r:=⟨fun ⟨k,hk,e⟩=>⟨k,hk,by rw [← hh k hk];exact e⟩,fun ⟨k,hk,e⟩=>⟨k,hk,by rw [hh k hk];exact e⟩⟩
    exact decide_eq_decide.mpr this
  rw [this]
end
end Wk
namespace Kx
open PySem L2
section
variable {P : Program} {w : World} {K : PySem.W.Frag} {mg : Str → Option Value} {base : Heap}
def top (i:Nat):Stmt:=PySem.Challenge.pw_cutyard_k11_trail_by_the_rule.main.body.getD i (.Pass ⟨0,0,0,0⟩)
abbrev qbj:Stmt:=top 4
theorem sc_common_of_two:FnScope ["one","other","greater","lesser","rest"] ["one","other"] (qag qbj):=⟨rfl,rfl,rfl,by decide +kernel,rfl,by decide +kernel,by decide +kernel⟩
abbrev qds:Stmt:=top 5
theorem sc_common:FnScope ["numbers","divisor","number"] ["numbers"] (qag qds):=⟨rfl,rfl,rfl,by decide +kernel,rfl,by decide +kernel,by decide +kernel⟩
abbrev qcS:Stmt:=top 6
theorem sc_lowest:FnScope ["tops","bottom","divisor"] ["tops","bottom"] (qag qcS):=⟨rfl,rfl,rfl,by decide +kernel,rfl,by decide +kernel,by decide +kernel⟩
abbrev qe3:Stmt:=top 8
theorem qk8:FnScope ["n","place"] ["n","place"] (qag qe3):=⟨rfl,rfl,rfl,by decide +kernel,rfl,by decide +kernel,by decide +kernel⟩
abbrev qfh:Stmt:=top 9
theorem qla:FnScope ["entries","spot"] ["entries","spot"] (qag qfh):=⟨rfl,rfl,rfl,by decide +kernel,rfl,by decide +kernel,by decide +kernel⟩
abbrev qbt:Stmt:=top 12
theorem sc_beginning:FnScope ["rows","n","ways","tops"] ["rows","n"] (qag qbt):=⟨rfl,rfl,rfl,by decide +kernel,rfl,by decide +kernel,by decide +kernel⟩
abbrev qcr:Stmt:=top 13
theorem qgY:FnScope ["stand","entries"] ["stand","entries"] (qag qcr):=⟨rfl,rfl,rfl,by decide +kernel,rfl,by decide +kernel,by decide +kernel⟩
abbrev qgJ:Stmt:=top 14
theorem qkE:FnScope ["row","stand"] ["row","stand"] (qag qgJ):=⟨rfl,rfl,rfl,by decide +kernel,rfl,by decide +kernel,by decide +kernel⟩
abbrev qbW:Stmt:=top 15
theorem sc_missed_row:FnScope ["rows","numbers","stand","number"] ["rows","numbers","stand"] (qag qbW):=⟨rfl,rfl,rfl,by decide +kernel,rfl,by decide +kernel,by decide +kernel⟩
abbrev qaz:Stmt:=top 16
theorem sc_least_grown:FnScope ["stand","grown","places"] ["stand","grown"] (qag qaz):=⟨rfl,rfl,rfl,by decide +kernel,rfl,by decide +kernel,by decide +kernel⟩
abbrev qbA:Stmt:=top 17
theorem sc_stopping_row:FnScope ["rows","numbers","stand","way","chosen","chosen_over","chosen_fall","number","fall","row_over"] ["rows","numbers","stand","way"] (qag qbA):=⟨rfl,rfl,rfl,by decide +kernel,rfl,by decide +kernel,by decide +kernel⟩
abbrev qdA:Stmt:=top 18
theorem qiZ:FnScope ["numbers","way","shift","size","bottom"] ["numbers","way","shift","size","bottom"] (qag qdA):=⟨rfl,rfl,rfl,by decide +kernel,rfl,by decide +kernel,by decide +kernel⟩
abbrev qbx:Stmt:=top 19
theorem sc_exchanged:FnScope ["rows","stand","place","number","row","grown","size","way","ways","other","tops","held"] ["rows","stand","place","number"] (qag qbx):=⟨rfl,rfl,rfl,by decide +kernel,rfl,by decide +kernel,by decide +kernel⟩
abbrev qcM:Stmt:=top 20
theorem qij:FnScope ["stand","grown"] ["stand","grown"] (qag qcM):=⟨rfl,rfl,rfl,by decide +kernel,rfl,by decide +kernel,by decide +kernel⟩
abbrev qbu:Stmt:=top 21
theorem sc_in_lowest:FnScope ["pairs","bottom","reduced"] ["pairs","bottom"] (qag qbu):=⟨rfl,rfl,rfl,by decide +kernel,rfl,by decide +kernel,by decide +kernel⟩
abbrev qbK:Stmt:=top 22
theorem sc_none_ending:FnScope ["stand","number","grown","reduced"] ["stand","number","grown"] (qag qbK):=⟨rfl,rfl,rfl,by decide +kernel,rfl,by decide +kernel,by decide +kernel⟩
abbrev qbH:Stmt:=top 23
theorem sc_best_ending:FnScope ["stand","grown","reduced"] ["stand","grown"] (qag qbH):=⟨rfl,rfl,rfl,by decide +kernel,rfl,by decide +kernel,by decide +kernel⟩
abbrev qa4:Stmt:=top 24
theorem sc_endless_ending:FnScope ["stand","way","divisor"] ["stand","way"] (qag qa4):=⟨rfl,rfl,rfl,by decide +kernel,rfl,by decide +kernel,by decide +kernel⟩
abbrev qca:Stmt:=top 25
theorem sc_next_step:FnScope ["rows","numbers","goal","stand","number","raised","place","grown"] ["rows","numbers","goal","stand"] (qag qca):=⟨rfl,rfl,rfl,by decide +kernel,rfl,by decide +kernel,by decide +kernel⟩
abbrev qcT:Stmt:=top 26
theorem sc_walk_on:FnScope ["rows","numbers","goal","stand","steps","told"] ["rows","numbers","goal","stand"] (qag qcT):=⟨rfl,rfl,rfl,by decide +kernel,rfl,by decide +kernel,by decide +kernel⟩
abbrev qgy:Stmt:=top 27
theorem qj3:FnScope ["rows","goal"] ["rows","goal"] (qag qgy):=⟨rfl,rfl,rfl,by decide +kernel,rfl,by decide +kernel,by decide +kernel⟩
abbrev qer:Stmt:=top 28
theorem qiD:FnScope ["rows","goal"] ["rows","goal"] (qag qer):=⟨rfl,rfl,rfl,by decide +kernel,rfl,by decide +kernel,by decide +kernel⟩
abbrev qeO:Stmt:=top 29
theorem qiA:FnScope ["rows","goal"] ["rows","goal"] (qag qeO):=⟨rfl,rfl,rfl,by decide +kernel,rfl,by decide +kernel,by decide +kernel⟩
abbrev qbU:Stmt:=top 31
theorem qeP:FnScope ["_law_seen"] ["_law_seen"] (qag qbU):=⟨rfl,rfl,rfl,by decide +kernel,rfl,by decide +kernel,by decide +kernel⟩
abbrev qb6:Stmt:=top 32
theorem qfG:FnScope ["_law_script","_law_k"] ["_law_script","_law_k"] (qag qb6):=⟨rfl,rfl,rfl,by decide +kernel,rfl,by decide +kernel,by decide +kernel⟩
abbrev qbV:Stmt:=top 33
theorem sc__law_mixed:FnScope ["_law_cell_here","_law_salt","_law_size","_law_number","_law_reach","_law_seed"] ["_law_cell_here","_law_salt","_law_size"] (qag qbV):=⟨rfl,rfl,rfl,by decide +kernel,rfl,by decide +kernel,by decide +kernel⟩
abbrev qbY:Stmt:=top 34
theorem sc__law_draws:FnScope ["_law_cell_here","_law_salt","_law_sizes","_law_told","_law_rest","_law_plain","_law_k","_law_size"] ["_law_cell_here","_law_salt","_law_sizes"] (qag qbY):=⟨rfl,rfl,rfl,by decide +kernel,rfl,by decide +kernel,by decide +kernel⟩
abbrev qbJ:Stmt:=top 35
theorem sc__law_shared:FnScope ["_law_numbers","_law_seen","_law_number","_law_one","_law_rest"] ["_law_numbers"] (qag qbJ):=⟨rfl,rfl,rfl,by decide +kernel,rfl,by decide +kernel,by decide +kernel⟩
abbrev qbP:Stmt:=top 36
theorem sc__law_rows:FnScope ["_law_script","_law_count","_law_many","_law_size","_law_rows_here","_law_k","_law_least","_law_drawn","_law_entries","_law_at"] ["_law_script","_law_count","_law_many","_law_size"] (qag qbP):=⟨rfl,rfl,rfl,by decide +kernel,rfl,by decide +kernel,by decide +kernel⟩
abbrev qbB:Stmt:=top 37
theorem qet:FnScope ["_law_entries","_law_numbers"] ["_law_entries","_law_numbers"] (qag qbB):=⟨rfl,rfl,rfl,by decide +kernel,rfl,by decide +kernel,by decide +kernel⟩
abbrev qaY:Stmt:=top 38
theorem sc__law_least_growing:FnScope ["_law_held","_law_ways","_law_entries","_law_seen","_law_k"] ["_law_held","_law_ways","_law_entries"] (qag qaY):=⟨rfl,rfl,rfl,by decide +kernel,rfl,by decide +kernel,by decide +kernel⟩
abbrev qb8:Stmt:=top 39
theorem sc__law_stop:FnScope ["_law_rows_here","_law_state","_law_way","_law_held","_law_ways","_law_tops","_law_base","_law_best","_law_i","_law_fall","_law_spare"] ["_law_rows_here","_law_state","_law_way"] (qag qb8):=⟨rfl,rfl,rfl,by decide +kernel,rfl,by decide +kernel,by decide +kernel⟩
abbrev qcu:Stmt:=top 40
theorem sc__law_due:FnScope ["_law_rows_here","_law_goal","_law_state","_law_held","_law_ways","_law_tops","_law_base","_law_i","_law_at","_law_stop_here"] ["_law_rows_here","_law_goal","_law_state"] (qag qcu):=⟨rfl,rfl,rfl,by decide +kernel,rfl,by decide +kernel,by decide +kernel⟩
abbrev qaE:Stmt:=top 41
theorem sc__law_exchanged:FnScope ["_law_rows_here","_law_state","_law_at","_law_i","_law_held","_law_ways","_law_tops","_law_base","_law_turn","_law_spare","_law_sign","_law_fresh","_law_k","_law_other","_law_numbers","_law_way","_law_shared_here"] ["_law_rows_here","_law_state","_law_at","_law_i"] (qag qaE):=⟨rfl,rfl,rfl,by decide +kernel,rfl,by decide +kernel,by decide +kernel⟩
abbrev qb9:Stmt:=top 42
theorem sc__law_owed:FnScope ["_law_held","_law_ways","_law_entries","_law_pairs","_law_k"] ["_law_held","_law_ways","_law_entries"] (qag qb9):=⟨rfl,rfl,rfl,by decide +kernel,rfl,by decide +kernel,by decide +kernel⟩
abbrev qa7:Stmt:=top 43
theorem sc__law_end:FnScope ["_law_rows_here","_law_goal","_law_state","_law_due_here","_law_held","_law_ways","_law_tops","_law_base","_law_shared_here","_law_point","_law_pairs"] ["_law_rows_here","_law_goal","_law_state","_law_due_here"] (qag qa7):=⟨rfl,rfl,rfl,by decide +kernel,rfl,by decide +kernel,by decide +kernel⟩
abbrev qf3:Stmt:=top 44
theorem sc_law:FnScope ["_law_script","_law_count","_law_many","_law_wide","_law_idle","_law_large","_law_size","_law_rows_here","_law_goal","_law_told","_law_units","_law_state","_law_step","_law_due_here"] ["_law_script"] (qag qf3):=⟨rfl,rfl,rfl,by decide +kernel,rfl,by decide +kernel,by decide +kernel⟩
abbrev qaL:Stmt:=qll (top 11) 0
theorem qcJ:FnScope ["self","held","ways","tops","bottom"] ["self","held","ways","tops","bottom"] (qag qaL):=⟨rfl,rfl,rfl,by decide +kernel,rfl,by decide +kernel,by decide +kernel⟩
structure TxtStand (K:PySem.W.Frag) (mg:Str→Option Value) (C:Addr):Prop where
  cl:Cls K C
  n_held:NoAttr K C "held"
  n_ways:NoAttr K C "ways"
  n_tops:NoAttr K C "tops"
  n_bottom:NoAttr K C "bottom"
  mgC:mg "Stand"=some (.ref C)
  ns:PySem.W.nsIn K mainGlobals "Stand"=some (some (.ref C))
abbrev qco (x:Int):Prop:=x.natAbs<2 ^ 60000
abbrev qhU (r:Row):Prop:=(∀ x∈r.1,qco x)∧qco r.2
theorem qbq {a b:Int} (ha:qco a) (hb:qco b):IntMulOk a b:=qiH (m:=60000) (n:=60000) (by decide) (by decide) ha hb (by decide)
theorem qcz {rs:List Row} {k:Int} (h0:0≤k) (h1:k<rs.length):atI (rs.map qa3) k=some (qa3 (qad rs k)):=qbr (qgw h0 h1) (by omega)
def qgE:SpD:=fun ds R=>∃ (xs ys:List Int),ds=[.tup (xs.map D.int),.tup (ys.map D.int)]∧xs.length≤1000∧(∀ x∈xs,qco x)∧(∀ y∈ys,qco y)∧R (.int (dot xs ys))
theorem qkW {n:Nat} {f:Addr} {fd:FuncData} (F:Fun K "left" "left" qfh f fd) (z_sum:mg "sum"=none) (z_zip:mg "zip"=none):FnOk P w K mg base CX0 (n+1) f fd ["entries","spot"] (lSp K qgE):=by
  refine F.okD qla (fun ds R h=>?_) (fun cdv A outer s H E ds R hr h=>?_)
  · obtain ⟨xs,ys,rfl,_⟩:=h;rfl
  obtain ⟨xs,ys,rfl,hl,hx,hy,q⟩:=h
  refine ⟨_,(qas (qaM (qaK (qmm rfl) rfl z_sum PyProof.Rows.boot_sum (qar (PD.q (PF.d (qaT (k:=2) (N':=["entry","number"]) (cap:=[none,none]) rfl (.ok (show qaP ["entries","spot"] (qag qfh) _ ["entry","number"] [none,none]=true by decide +kernel)) (by decide +kernel) (qcy (n:=2) (qa0 (qaG (by decide)) (qa0 (qaG (by decide)) qcx))) (qek rfl z_zip (qab (dv 0) (qab (dv 1) qak qaa) qaa)) (fun _ _ _ _ _=>(qcs (n:=2) rfl (qav (qao (i:=0) (show List.Nodup (["entry","number"]:List Str) by decide +kernel) rfl (Or.inl rfl)) (qav (qao (i:=1) (show List.Nodup (["entry","number"]:List Str) by decide +kernel) rfl (Or.inl rfl)) qbD)))) (fun _ _ _ _ _=>(qaI qaX (dvq 0) (dvq 1)))))) qaB qal) qal qaf))),?_⟩
  refine ⟨_,_,rfl,rfl,?_⟩
  refine qb1 (fun x y=>D.int (x*y)) (qap hl) (fun x hx' y hy'=>⟨rfl,qbq (hx x hx') (hy y hy'),rfl⟩) ?_
  exact ⟨List.zipWith (fun x y=>x*y) xs ys,by rw [List.map_zipWith];rfl,q⟩
theorem qeS (f:Str) (v:V):∀ fs:List (Str × V),(qd9 f v fs).length≤fs.length+1
  | []=>Nat.le_refl 1
  | (g,x)::r=>by
    have:=qeS f v r
    unfold qd9
    split
    · rw [List.length_cons,List.length_cons];omega
    · rw [List.length_cons,List.length_cons];omega
abbrev qbi (K:PySem.W.Frag) (C:Addr):Sp:=qnR C ["held","ways","tops","bottom"]
theorem qcU {n:Nat} {f:Addr} {fd:FuncData} (F:Fun K "__init__" "Stand.__init__" qaL f fd) {C_Stand:Addr} (T_Stand:TxtStand K mg C_Stand):FnOk P w K mg base CX0 (n+1) f fd ["self","held","ways","tops","bottom"] (qbi K C_Stand):=by
  refine F.ok qcJ (fun vs H Q E h=>?_) (fun cdv A outer s H vs Q E hr h=>?_)
  · obtain ⟨x,dx,ws,rfl,hl,_⟩:=h;rw [List.length_cons,hl];rfl
  obtain ⟨x,dx,ws,rfl,hl,hx,q⟩:=h
  obtain ⟨w1,w2,w3,w4,rfl⟩:∃ w1 w2 w3 w4,ws=[w1,w2,w3,w4]:=by
    match ws,hl with
    | [w1,w2,w3,w4],_=>exact ⟨w1,w2,w3,w4,rfl⟩
  refine ⟨_,(qcR (qgm (pv 0) (pv 1) rfl)
      (qcR (qgm (pv 0) (pv 2) rfl)
      (qcR (qgm (pv 0) (pv 3) rfl)
      (qhM (qgm (pv 0) (pv 4) rfl))))),?_⟩
  refine ⟨_,rfl,_,rfl,x,C_Stand,dx,[],rfl,hx,T_Stand.cl,T_Stand.n_held,by decide,?_⟩
  have l1:=qeS "held" w1 []
  have l2:=qeS "ways" w2 (qd9 "held" w1 [])
  have l3:=qeS "tops" w3 (qd9 "ways" w2 (qd9 "held" w1 []))
  rw [List.length_nil] at l1
  refine ⟨_,rfl,_,rfl,x,C_Stand,dx,_,rfl,qan,T_Stand.cl,T_Stand.n_ways,by omega,?_⟩
  refine ⟨_,rfl,_,rfl,x,C_Stand,dx,_,rfl,qan,T_Stand.cl,T_Stand.n_tops,by omega,?_⟩
  refine ⟨_,rfl,_,rfl,x,C_Stand,dx,_,rfl,qan,T_Stand.cl,T_Stand.n_bottom,by omega,?_⟩
  refine q _ (fun b hb=>by rw [qax hb,qax hb,qax hb,qax hb]) ?_
  rw [qan]
  rfl
structure Std where
  held:List Int
  ways:List (List Int)
  tops:List Int
  bot:Int
def wD (w:List Int):D:=.tup (w.map D.int)
def stD (s:Std):D:=.obj "Stand" [("held",.tup (s.held.map D.int)),("ways",.tup (s.ways.map wD)),("tops",.tup (s.tops.map D.int)),("bottom",.int s.bot)]
structure StB (s:Std):Prop where
  hl:s.held.length≤1000
  wl:s.ways.length≤1000
  wb:∀ w∈s.ways,∀ x∈w,qco x
  tb:∀ x∈s.tops,qco x
  bb:qco s.bot
theorem qdG (s:Std):([("held",.tup (s.held.map D.int)),("ways",.tup (s.ways.map wD)),("tops",.tup (s.tops.map D.int)),("bottom",.int s.bot)]:List (Str × D)).lookup ("held":Str)=some (.tup (s.held.map D.int)):=by rfl
theorem qdX (s:Std):([("held",.tup (s.held.map D.int)),("ways",.tup (s.ways.map wD)),("tops",.tup (s.tops.map D.int)),("bottom",.int s.bot)]:List (Str × D)).lookup ("ways":Str)=some (.tup (s.ways.map wD)):=by rfl
theorem qe1 (s:Std):([("held",.tup (s.held.map D.int)),("ways",.tup (s.ways.map wD)),("tops",.tup (s.tops.map D.int)),("bottom",.int s.bot)]:List (Str × D)).lookup ("tops":Str)=some (.tup (s.tops.map D.int)):=by rfl
theorem qdS (s:Std):([("held",.tup (s.held.map D.int)),("ways",.tup (s.ways.map wD)),("tops",.tup (s.tops.map D.int)),("bottom",.int s.bot)]:List (Str × D)).lookup ("bottom":Str)=some (.int s.bot):=by rfl
def qdM:SpD:=fun ds R=>∃ (s:Std) (es:List Int),ds=[stD s,.tup (es.map D.int)]∧StB s∧es.length≤1000∧(∀ x∈es,qco x)∧R (.tup ((s.ways.map fun w=>dot es w).map D.int))
theorem qg5 {n:Nat} {f:Addr} {fd:FuncData} (F:Fun K "growths" "growths" qcr f fd) {C_Stand:Addr} (T_Stand:TxtStand K mg C_Stand) (Q_left:Cl P w K mg base n "left" ["entries","spot"] qgE) (z_tuple:mg "tuple"=none):FnOk P w K mg base CX0 (n+1) f fd ["stand","entries"] (lSp K qdM):=by
  refine F.okD qgY (fun ds R h=>?_) (fun cdv A outer s H E ds R hr h=>?_)
  · obtain ⟨s,es,rfl,_⟩:=h;rfl
  obtain ⟨s,es,rfl,hs,hl,he,q⟩:=h
  refine ⟨_,(qas (qaM (qaH qaS rfl z_tuple PyProof.Rows.boot_tuple (qar (PD.q (PF.d (qaT (k:=1) (N':=["way","entries"]) (cap:=[none,some 1]) rfl (.ok (show qaP ["stand","entries"] (qag qcr) _ ["way","entries"] [none,some 1]=true by decide +kernel)) (by decide +kernel) (qaG (by decide)) (qbI (qb2 T_Stand.cl T_Stand.n_ways T_Stand.ns (dvq 0))) (fun _ _ _ _ _=>(qao (i:=0) (show List.Nodup (["way","entries"]:List Str) by decide +kernel) rfl (Or.inl rfl))) (fun _ _ _ _ _=>(qaq Q_left hr rfl (qab (dv 1) (qab (dv 0) qak qaa) qaa) qaa (qae qaa qaf)))))) qaB qal) qal qaf))),?_⟩
  refine ⟨rfl,_,qdX s,?_⟩
  exact qa5 (f:=wD) (fun w=>dot es w) (qap hs.wl) (fun w hw=>⟨es,w,rfl,hl,he,hs.wb w hw,rfl⟩) q
def ovL (r:Row) (s:Std):Int:=dot r.1 s.tops - r.2*s.bot
def qgN:SpD:=fun ds R=>∃ (r:Row) (s:Std),ds=[qa3 r,stD s]∧StB s∧r.1.length≤1000∧qhU r∧R (.int (ovL r s))
theorem qkB {n:Nat} {f:Addr} {fd:FuncData} (F:Fun K "over" "over" qgJ f fd) {C_Stand:Addr} (T_Stand:TxtStand K mg C_Stand) (Q_left:Cl P w K mg base n "left" ["entries","spot"] qgE):FnOk P w K mg base CX0 (n+1) f fd ["row","stand"] (lSp K qgN):=by
  refine F.okD qkE (fun ds R h=>?_) (fun cdv A outer s H E ds R hr h=>?_)
  · obtain ⟨r,sd,rfl,_⟩:=h;rfl
  obtain ⟨r,sd,rfl,hs,hl,hb,q⟩:=h
  refine ⟨_,(qas (qaM (qaI qcv (PD.q (qaq Q_left hr rfl (qab (qaO (dvq 0) (PD.q qah) (fun _ _=>rfl)) (qab (qb2 T_Stand.cl T_Stand.n_tops T_Stand.ns (dvq 1)) qak qat) qac) qac (qae qat qaf))) (PD.q (qaI qaX (PD.q (qaO (dvq 0) (PD.q qah) (fun _ _=>rfl))) (PD.q (qb2 T_Stand.cl T_Stand.n_bottom T_Stand.ns (dvq 1)))))))),?_⟩
  exact ⟨_,rfl,rfl,_,qe1 sd,r.1,sd.tops,rfl,hl,hb.1,hs.tb,_,rfl,rfl,_,qdS sd,qbq hb.2 hs.bb,q⟩
abbrev RsB (rs:List Row):Prop:=∀ r∈rs,r.1.length≤1000∧qhU r
def qdd:SpD:=fun ds R=>∃ (rs:List Row) (ns:List Int) (sd:Std),ds=[.tup (rs.map qa3),.tup (ns.map D.int),stD sd]∧StB sd∧RsB rs∧(∀ k∈ns,0≤k∧k<rs.length) ∧
  (∀ (i:Nat) (k:Int),ns[i]?=some k→ovL (qad rs k) sd<0→(∀ (j:Nat) (k':Int),j<i→ns[j]?=some k'→0≤ovL (qad rs k') sd)→R (.int k))∧((∀ k∈ns,0≤ovL (qad rs k) sd)→R .non)
theorem qeu {n:Nat} {f:Addr} {fd:FuncData} (F:Fun K "missed_row" "missed_row" qbW f fd) (Q_over:Cl P w K mg base n "over" ["row","stand"] qgN):FnOk P w K mg base CX0 (n+1) f fd ["rows","numbers","stand"] (lSp K qdd):=by
  refine F.okD sc_missed_row (fun ds R h=>?_) (fun cdv A outer s H E ds R hr h=>?_)
  · obtain ⟨rs,ns,sd,rfl,_⟩:=h;rfl
  obtain ⟨rs,ns,sd,rfl,hs,hrr,hn,q1,q0⟩:=h
  refine ⟨_,(qaj (qcF PassesOwn.never rfl (qbI (dv 1)) (qao (i:=3) sc_missed_row.nd rfl (Or.inl rfl)) (qas (qcp (qaQ qgS (PD.q (qaq Q_over hr rfl (qab (qaO (dvq 0) (dvq 3) (fun _ _=>rfl)) (qab (dv 2) qak qaa) qac) qac (qae qaa qaf))) (PD.q qah) (qaC _)) (qas (qaM (dv 3))) qbd)))
      (qas (qaM qbX))),?_⟩
  refine ⟨fun i ρ=>∃ u3:Option Sl,ρ=[some (.v (.tup (rs.map qa3))),some (.v (.tup (ns.map D.int))),some (.v (stD sd)),u3]∧∀ (j:Nat) (k':Int),j<i→ns[j]?=some k'→0≤ovL (qad rs k') sd,⟨_,rfl,fun j k' h=>absurd h (by omega)⟩,?_,?_⟩
  · rintro i d ρ hd ⟨u3,rfl,hI⟩
    obtain ⟨k,rfl,hk⟩:=qbZ hd
    obtain ⟨k0,k1⟩:=hn k (List.mem_of_getElem? hk)
    have hrow:=hrr _ (qa6 k0 k1)
    refine ⟨_,qcz k0 k1,qad rs k,sd,rfl,hs,hrow.1,hrow.2,fun h=>q1 i k hk (dP h) hI,fun h=>⟨_,rfl,fun j k' hj hk'=>?_⟩⟩
    by_cases c:j=i
    · subst c
      rw [hk] at hk'
      cases hk'
      have:=of_decide_eq_false h
      omega
    · exact hI j k' (by omega) hk'
  · rintro ρ ⟨u3,rfl,hI⟩
    rw [List.length_map] at hI
    exact q0 fun k hk=>by
      obtain ⟨j,hj⟩:=List.getElem?_of_mem hk
      exact hI j k (qaF hj) hj
def qaV (rs:List Row) (way:List Int) (k:Int):Int:=- dot (qad rs k).1 way
def qnL:Option Int→D
  | none=>.non
  | some k=>.int k
def Stop (rs:List Row) (ns:List Int) (sd:Std) (way:List Int) (m:Nat):Option Int→Prop
  | none=>∀ (j:Nat) (k':Int),j<m→ns[j]?=some k'→qaV rs way k'≤0
  | some k=>∃ i:Nat,i<m∧ns[i]?=some k∧0<qaV rs way k∧∀ (j:Nat) (k':Int),j<m→ns[j]?=some k'→0<qaV rs way k'→ovL (qad rs k) sd*qaV rs way k'≤ovL (qad rs k') sd*qaV rs way k∧(j<i→ovL (qad rs k) sd*qaV rs way k'<ovL (qad rs k') sd*qaV rs way k)
theorem qgM {o f oq fq ok fk:Int} (hq:0<fq) (hf:0<f) (hk:0<fk) (h1:ok*fq<oq*fk) (h2:oq*f≤o*fq):ok*f<o*fk:=by
  have a1:=Int.mul_lt_mul_of_pos_right h1 hf
  have a2:=Int.mul_le_mul_of_nonneg_right h2 (Int.le_of_lt hk)
  have e1:ok*fq*f=(ok*f)*fq:=by grind
  have e2:o*fq*fk=(o*fk)*fq:=by grind
  have e3:oq*fk*f=oq*f*fk:=by grind
  have:(ok*f)*fq<(o*fk)*fq:=by omega
  exact Int.lt_of_mul_lt_mul_right this (Int.le_of_lt hq)
theorem Stop.keep {rs:List Row} {ns:List Int} {sd:Std} {way:List Int} {m:Nat} {o:Option Int} {k:Int} (h:Stop rs ns sd way m o) (hk:ns[m]?=some k) (hf:qaV rs way k≤0):Stop rs ns sd way (m+1) o:=by
  have old:∀ j k',j<m+1→ns[j]?=some k'→0<qaV rs way k'→j<m:=fun j k' hj hk' hp=>by
    by_cases c:j=m
    · subst c
      rw [hk] at hk'
      cases hk'
      omega
    · omega
  cases o with
  | none =>
    show ∀ (j:Nat) (k':Int),j<m+1→ns[j]?=some k'→qaV rs way k'≤0
    intro j k' hj hk'
    rcases Int.lt_or_le 0 (qaV rs way k') with hp | hp
    · exact h j k' (old j k' hj hk' hp) hk'
    · exact hp
  | some q =>
    obtain ⟨i,hi,hq,hqf,hall⟩:=h
    exact ⟨i,by omega,hq,hqf,fun j k' hj hk' hp=>hall j k' (old j k' hj hk' hp) hk' hp⟩
theorem Stop.take {rs:List Row} {ns:List Int} {sd:Std} {way:List Int} {m:Nat} {k:Int} (h:∀ (j:Nat) (k':Int),j<m→ns[j]?=some k'→0<qaV rs way k'→ovL (qad rs k) sd*qaV rs way k'<ovL (qad rs k') sd*qaV rs way k) (hk:ns[m]?=some k) (hf:0<qaV rs way k):Stop rs ns sd way (m+1) (some k):=by
  refine ⟨m,by omega,hk,hf,fun j k' hj hk' hp=>?_⟩
  by_cases c:j=m
  · subst c
    rw [hk] at hk'
    cases hk'
    exact ⟨Int.le_refl _,fun h=>absurd h (by omega)⟩
  · have:=h j k' (by omega) hk' hp
    exact ⟨Int.le_of_lt this,fun _=>this⟩
def qcw:SpD:=fun ds R=>∃ (rs:List Row) (ns:List Int) (sd:Std) (way:List Int),ds=[.tup (rs.map qa3),.tup (ns.map D.int),stD sd,.tup (way.map D.int)]∧StB sd∧RsB rs∧(∀ k∈ns,0≤k∧k<rs.length)∧(∀ x∈way,qco x) ∧
  (∀ k∈ns,qco (ovL (qad rs k) sd)∧qco (qaV rs way k))∧∀ o,Stop rs ns sd way ns.length o→R (qnL o)
theorem qdv {n:Nat} {f:Addr} {fd:FuncData} (F:Fun K "stopping_row" "stopping_row" qbA f fd) (Q_left:Cl P w K mg base n "left" ["entries","spot"] qgE) (Q_over:Cl P w K mg base n "over" ["row","stand"] qgN):FnOk P w K mg base CX0 (n+1) f fd ["rows","numbers","stand","way"] (lSp K qcw):=by
  refine F.okD sc_stopping_row (fun ds R h=>?_) (fun cdv A outer s H E ds R hr h=>?_)
  · obtain ⟨rs,ns,sd,way,rfl,_⟩:=h;rfl
  obtain ⟨rs,ns,sd,way,rfl,hs,hrr,hn,hw,hbig,q⟩:=h
  refine ⟨_,(qaj (qau (i:=4) sc_stopping_row.nd rfl (Or.inl rfl) qbX)
      (qaj (qau (i:=5) sc_stopping_row.nd rfl (Or.inl rfl) qah)
      (qaj (qau (i:=6) sc_stopping_row.nd rfl (Or.inl rfl) qah)
      (qaj (qcF PassesOwn.never rfl (qbI (dv 1)) (qao (i:=7) sc_stopping_row.nd rfl (Or.inl rfl)) (qaj (qau (i:=8) sc_stopping_row.nd rfl (Or.inl rfl) (qfE (PD.q (qaq Q_left hr rfl (qab (qaO (PD.q (qaO (dvq 0) (dvq 7) (fun _ _=>rfl))) (PD.q qah) (fun _ _=>rfl)) (qab (dv 3) qak qaa) qac) qac (qae qaa qaf)))))
      (qas (qcp (qaQ qkZ (dvq 8) (PD.q qah) (qaC _)) (qaj (qau (i:=9) sc_stopping_row.nd rfl (Or.inl rfl) (qaq Q_over hr rfl (qab (qaO (dvq 0) (dvq 7) (fun _ _=>rfl)) (qab (dv 2) qak qaa) qac) qac (qae qaa qaf)))
      (qas (qcp (PWD.td (qk4 (qaQ qjx (dvq 4) (PD.q qbX) (qaC _)) (qfX (qaQ qgS (PD.q (qaI qaX (dvq 9) (dvq 6))) (PD.q (qaI qaX (dvq 5) (dvq 8))) (qaC _))))) (qaj (qau (i:=4) sc_stopping_row.nd rfl (Or.inl rfl) (dv 7))
      (qaj (qau (i:=5) sc_stopping_row.nd rfl (Or.inl rfl) (dv 9))
      (qas (qau (i:=6) sc_stopping_row.nd rfl (Or.inl rfl) (dv 8))))) qbd))) qbd))))
      (qas (qaM (dv 4))))))),?_⟩
  refine ⟨fun i ρ=>∃ (o:Option Int) (ov fl:Int) (u7 u8 u9:Option Sl),ρ=[some (.v (.tup (rs.map qa3))),some (.v (.tup (ns.map D.int))),some (.v (stD sd)),some (.v (.tup (way.map D.int))),some (.v (qnL o)),some (.v (.int ov)),some (.v (.int fl)),u7,u8,u9]∧Stop rs ns sd way i o∧∀ q,o=some q→ov=ovL (qad rs q) sd∧fl=qaV rs way q∧q∈ns,⟨none,0,1,_,_,_,rfl,fun j k' h=>absurd h (by omega),fun q h=>by cases h⟩,?_,?_⟩
  · rintro i d ρ hd ⟨o,ov,fl,u7,u8,u9,rfl,hst,ho⟩
    obtain ⟨k,rfl,hk⟩:=qbZ hd
    have hkm:=List.mem_of_getElem? hk
    obtain ⟨k0,k1⟩:=hn k hkm
    have hrow:=hrr _ (qa6 k0 k1)
    obtain ⟨b1,b2⟩:=hbig k hkm
    refine ⟨_,qcz k0 k1,_,rfl,(qad rs k).1,way,rfl,hrow.1,hrow.2.1,hw,fun h=>?_,fun h=>?_⟩
    · have hf:0<qaV rs way k:=dP h
      refine ⟨_,qcz k0 k1,qad rs k,sd,rfl,hs,hrow.1,hrow.2,?_⟩
      cases o with
      | none =>
        refine ⟨fun _=>⟨fun _=>⟨some k,ovL (qad rs k) sd,qaV rs way k,_,_,_,rfl,?_,fun q e=>by cases e;exact ⟨rfl,rfl,hkm⟩⟩,fun h=>ff h.symm⟩,fun h=>by cases h⟩
        refine Stop.take (fun j k' hj hk' hp=>?_) hk hf
        have:=hst j k' hj hk'
        omega
      | some p =>
        obtain ⟨rfl,rfl,hpm⟩:=ho p rfl
        obtain ⟨c1,c2⟩:=hbig p hpm
        refine ⟨fun h=>(by cases h),fun _=>⟨qbq b1 c2,qbq c1 b2,fun h=>?_,fun h=>?_⟩⟩
        · have hlt:=dP h
          refine ⟨some k,ovL (qad rs k) sd,qaV rs way k,_,_,_,rfl,?_,fun q e=>by cases e;exact ⟨rfl,rfl,hkm⟩⟩
          obtain ⟨i0,_,_,hpf,hall⟩:=hst
          exact Stop.take (fun j k' hj hk' hp=>qgM hpf hp hf hlt (hall j k' hj hk' hp).1) hk hf
        · have hge:=of_decide_eq_false h
          refine ⟨some p,_,_,_,_,_,rfl,?_,fun q e=>by cases e;exact ⟨rfl,rfl,hpm⟩⟩
          obtain ⟨i0,hi0,hp0,hpf,hall⟩:=hst
          refine ⟨i0,by omega,hp0,hpf,fun j k' hj hk' hp=>?_⟩
          by_cases c:j=i
          · subst c
            rw [hk] at hk'
            cases hk'
            have hge':¬ ovL (qad rs k) sd*qaV rs way p<ovL (qad rs p) sd*qaV rs way k:=hge
            exact ⟨by omega,fun h=>absurd h (by omega)⟩
          · exact hall j k' (by omega) hk' hp
    · have hf:=of_decide_eq_false h
      have hf':¬ 0<qaV rs way k:=hf
      exact ⟨o,ov,fl,_,_,_,rfl,hst.keep hk (by omega),ho⟩
  · rintro ρ ⟨o,ov,fl,u7,u8,u9,rfl,hst,_⟩
    rw [List.length_map] at hst
    exact q o hst
def mvL (sz sh b:Int) (xs ys:List Int):List Int:=List.zipWith (fun x y=>(sz*x - sh*y) / b) xs ys
def qhV:SpD:=fun ds R=>∃ (xs ys:List Int) (sh sz b:Int),ds=[.tup (xs.map D.int),.tup (ys.map D.int),.int sh,.int sz,.int b]∧xs.length≤1000∧(∀ x∈xs,qco x)∧(∀ y∈ys,qco y)∧qco sh∧qco sz∧0<b∧b<2 ^ 9000∧R (.tup ((mvL sz sh b xs ys).map D.int))
theorem qi1 {n:Nat} {f:Addr} {fd:FuncData} (F:Fun K "moved" "moved" qdA f fd) (z_tuple:mg "tuple"=none) (z_zip:mg "zip"=none):FnOk P w K mg base CX0 (n+1) f fd ["numbers","way","shift","size","bottom"] (lSp K qhV):=by
  refine F.okD qiZ (fun ds R h=>?_) (fun cdv A outer s H E ds R hr h=>?_)
  · obtain ⟨xs,ys,sh,sz,b,rfl,_⟩:=h;rfl
  obtain ⟨xs,ys,sh,sz,b,rfl,hl,hx,hy,h1,h2,b0,b1,q⟩:=h
  refine ⟨_,(qas (qaM (qaH qaS rfl z_tuple PyProof.Rows.boot_tuple (qar (PD.q (PF.d (qaT (k:=2) (N':=["number","step","bottom","size","shift"]) (cap:=[none,none,some 4,some 3,some 2]) rfl (.ok (show qaP ["numbers","way","shift","size","bottom"] (qag qdA) _ ["number","step","bottom","size","shift"] [none,none,some 4,some 3,some 2]=true by decide +kernel)) (by decide +kernel) (qcy (n:=2) (qa0 (qaG (by decide)) (qa0 (qaG (by decide)) qcx))) (qek rfl z_zip (qab (dv 0) (qab (dv 1) qak qaa) qaa)) (fun _ _ _ _ _=>(qcs (n:=2) rfl (qav (qao (i:=0) (show List.Nodup (["number","step","bottom","size","shift"]:List Str) by decide +kernel) rfl (Or.inl rfl)) (qav (qao (i:=1) (show List.Nodup (["number","step","bottom","size","shift"]:List Str) by decide +kernel) rfl (Or.inl rfl)) qbD)))) (fun _ _ _ _ _=>(qaI qbp (PD.q (qaI qcv (PD.q (qaI qaX (dvq 3) (dvq 0))) (PD.q (qaI qaX (dvq 4) (dvq 1))))) (dvq 2)))))) qaB qal) qal qaf))),?_⟩
  refine ⟨_,_,rfl,rfl,?_⟩
  refine qb1 (fun x y=>D.int ((sz*x - sh*y) / b)) (qap hl) (fun x hx' y hy'=>⟨rfl,qbq h2 (hx x hx'),qbq h1 (hy y hy'),CDivB.of b0 b1,rfl⟩) ?_
  have e:List.zipWith (fun x y=>D.int ((sz*x - sh*y) / b)) xs ys=(mvL sz sh b xs ys).map D.int:=by
    unfold mvL
    rw [List.map_zipWith]
  rw [e]
  exact q
def wyL (sd:Std) (r:Row) (p:Nat):List Int:=if dot r.1 (sd.ways.getD p [])<0 then (sd.ways.getD p []).map (fun x=>-x) else sd.ways.getD p []
def szL (sd:Std) (r:Row) (p:Nat):Int:=if dot r.1 (sd.ways.getD p [])<0 then - dot r.1 (sd.ways.getD p []) else dot r.1 (sd.ways.getD p [])
theorem qh6 (sd:Std) (r:Row) (p:Nat):szL sd r p=((dot r.1 (sd.ways.getD p [])).natAbs:Int):=by unfold szL;split <;> omega
def exL (r:Row) (sd:Std) (p:Nat) (q:Int):Std where
  held:=(List.range sd.ways.length).map fun o=>if o=p then q else sd.held.getD o 0
  ways:=(List.range sd.ways.length).map fun o=>if o=p then wyL sd r p else mvL (szL sd r p) (dot r.1 (sd.ways.getD o [])) sd.bot (sd.ways.getD o []) (wyL sd r p)
  tops:=mvL (szL sd r p) (ovL r sd) sd.bot sd.tops (wyL sd r p)
  bot:=szL sd r p
structure ExB (r:Row) (sd:Std) (p:Nat):Prop where
  sb:StB sd
  rl:r.1.length≤1000
  rb:qhU r
  hp:p<sd.ways.length
  hh:sd.held.length=sd.ways.length
  wl:∀ w∈sd.ways,w.length≤1000
  tl:sd.tops.length≤1000
  gb:∀ w∈sd.ways,qco (dot r.1 w)
  ob:qco (ovL r sd)
  b0:0<sd.bot
  b1:sd.bot<2 ^ 9000
theorem qaD {α:Type} {xs:List α} {i:Nat} {d:α} (h:i<xs.length):xs.getD i d∈xs:=by
  rw [List.getD_eq_getElem?_getD,qaA h]
  exact List.getElem_mem h
theorem qaR {α:Type} {xs:List α} {i:Nat} {d:α} (h:i<xs.length):xs[i]?=some (xs.getD i d):=by
  rw [List.getD_eq_getElem?_getD,qaA h]
  rfl
theorem qkp {r:Row} {sd:Std} {p:Nat} (h:ExB r sd p):(∀ x∈wyL sd r p,qco x)∧(wyL sd r p).length=(sd.ways.getD p []).length:=by
  unfold wyL
  split
  · refine ⟨fun x hx=>?_,by rw [List.length_map]⟩
    obtain ⟨y,hy,rfl⟩:=List.mem_map.mp hx
    show (-y).natAbs<_
    rw [Int.natAbs_neg]
    exact h.sb.wb _ (qaD h.hp) y hy
  · exact ⟨fun x hx=>h.sb.wb _ (qaD h.hp) x hx,rfl⟩
def qdw:SpD:=fun ds R=>∃ (rs:List Row) (sd:Std) (p:Nat) (q:Int),ds=[.tup (rs.map qa3),stD sd,.int (p:Int),.int q]∧(0≤q∧q<rs.length)∧ExB (qad rs q) sd p∧R (stD (exL (qad rs q) sd p q))
theorem qfw {n:Nat} {f:Addr} {fd:FuncData} (F:Fun K "exchanged" "exchanged" qbx f fd) {C_Stand:Addr} (T_Stand:TxtStand K mg C_Stand) (Q_growths:Cl P w K mg base (n+1) "growths" ["stand","entries"] qdM) (Q_moved:Cl P w K mg base (n+1) "moved" ["numbers","way","shift","size","bottom"] qhV) (Q_over:Cl P w K mg base (n+1) "over" ["row","stand"] qgN) {f_Stand____init__:Addr} {d_Stand____init__:FuncData} (G_Stand____init__:FnOk P w K mg base CX0 n f_Stand____init__ d_Stand____init__ ["self","held","ways","tops","bottom"] (qbi K C_Stand)) (b_Stand____init__:Binds K d_Stand____init__ ["self","held","ways","tops","bottom"] []) (M_Stand:Mk K C_Stand f_Stand____init__) (z_abs:mg "abs"=none) (z_range:mg "range"=none) (z_tuple:mg "tuple"=none) (z_len:mg "len"=none):FnOk P w K mg base CX0 (n+2) f fd ["rows","stand","place","number"] (lSp K qdw):=by
  refine F.okD sc_exchanged (fun ds R h=>?_) (fun cdv A outer s H E ds R hr h=>?_)
  · obtain ⟨rs,sd,p,qn,rfl,_⟩:=h;rfl
  obtain ⟨rs,sd,p,qn,rfl,⟨q0,q1⟩,hx,q⟩:=h
  refine ⟨_,(qaj (qau (i:=4) sc_exchanged.nd rfl (Or.inl rfl) (qaO (dvq 0) (dvq 3) (fun _ _=>rfl)))
      (qaj (qau (i:=5) sc_exchanged.nd rfl (Or.inl rfl) (qaq Q_growths hr rfl (qab (dv 1) (qab (qaO (dvq 4) (PD.q qah) (fun _ _=>rfl)) qak qac) qaa) qaa (qae qac qaf)))
      (qaj (qau (i:=6) sc_exchanged.nd rfl (Or.inl rfl) (qaK qg7 rfl z_abs PyProof.Rows.boot_abs (qar (PD.q (qaO (dvq 5) (dvq 2) (fun _ _=>rfl))) qaB qac) qac qaf))
      (qaj (qau (i:=7) sc_exchanged.nd rfl (Or.inl rfl) (qaO (PD.q (qb2 T_Stand.cl T_Stand.n_ways T_Stand.ns (dvq 1))) (dvq 2) (fun _ _=>rfl)))
      (qbL (qcp (qaQ qgS (PD.q (qaO (dvq 5) (dvq 2) (fun _ _=>rfl))) (PD.q qah) (qaC _)) (qas (qau (i:=7) sc_exchanged.nd rfl (Or.inl rfl) (qaH qaS rfl z_tuple PyProof.Rows.boot_tuple (qar (PD.q (PF.d (qaT (k:=1) (N':=["step"]) (cap:=[none]) rfl (.ok (show qaP ["rows","stand","place","number","row","grown","size","way","ways","other","tops","held"] (qag qbx) _ ["step"] [none]=true by decide +kernel)) (by decide +kernel) (qaG (by decide)) (qbI (dv 7)) (fun _ _ _ _ _=>(qao (i:=0) (show List.Nodup (["step"]:List Str) by decide +kernel) rfl (Or.inl rfl))) (fun _ _ _ _ _=>(qfE (dvq 0)))))) qaB qal) qal qaf))) qbd)
      (qaj (qgQ (i:=8) sc_exchanged.nd rfl (Or.inl rfl) (qbm qak))
      (qaj (qcF PassesOwn.never rfl (qa8 rfl z_range (qab (qaK qcG rfl z_len PySem.boot_len (qar (dvq 5) qaB qaa) qaa qaf) qak qam)) (qao (i:=9) sc_exchanged.nd rfl (Or.inl rfl)) (qas (qcp (qaQ (qfK hr.units) (dvq 9) (dvq 2) (qaC _)) (qas (qbz 8 (dv 7) (qcB qaa) qaa)) (qas (qbz 8 (qaq Q_moved hr rfl (qab (qaO (PD.q (qb2 T_Stand.cl T_Stand.n_ways T_Stand.ns (dvq 1))) (dvq 9) (fun _ _=>rfl)) (qab (dv 7) (qab (qaO (dvq 5) (dvq 9) (fun _ _=>rfl)) (qab (dv 6) (qab (qb2 T_Stand.cl T_Stand.n_bottom T_Stand.ns (dvq 1)) qak qat) qaa) qac) qaa) qac) qac (qae qaa (qae qac (qae qaa (qae qat qaf))))) (qcB qam) qam)))))
      (qaj (qau (i:=10) sc_exchanged.nd rfl (Or.inl rfl) (qaq Q_moved hr rfl (qab (qb2 T_Stand.cl T_Stand.n_tops T_Stand.ns (dvq 1)) (qab (dv 7) (qab (qaq Q_over hr rfl (qab (dv 4) (qab (dv 1) qak qaa) qaa) qaa (qae qaa qaf)) (qab (dv 6) (qab (qb2 T_Stand.cl T_Stand.n_bottom T_Stand.ns (dvq 1)) qak qat) qaa) qam) qaa) qat) qat (qae qaa (qae qam (qae qaa (qae qat qaf))))))
      (qaj (qdO (i:=11) (k:=1) (N':=["other","number","place","stand"]) (cap:=[none,some 3,some 2,some 1]) rfl sc_exchanged.nd rfl (Or.inl rfl) (.ok (show qaP ["rows","stand","place","number","row","grown","size","way","ways","other","tops","held"] (qag qbx) _ ["other","number","place","stand"] [none,some 3,some 2,some 1]=true by decide +kernel)) (by decide +kernel) (qaG (by decide)) (qa8 rfl z_range (qab (qaK qcG rfl z_len PySem.boot_len (qar (dvq 5) qaB qaa) qaa qaf) qak qam)) (fun _ _ _ _ _=>(qao (i:=0) (show List.Nodup (["other","number","place","stand"]:List Str) by decide +kernel) rfl (Or.inl rfl))) (fun _ _ _ _ _=>(qnP (qaQ (qfK hr.units) (dvq 0) (dvq 2) (qaC _)) (dv 1) (qaO (PD.q (qb2 T_Stand.cl T_Stand.n_held T_Stand.ns (dvq 3))) (dvq 0) (fun _ _=>rfl)))))
      (qas (qaM (qjM T_Stand.ns M_Stand G_Stand____init__ hr rfl T_Stand.mgC b_Stand____init__ qlg (qab (qaH qaS rfl z_tuple PyProof.Rows.boot_tuple (qar (dvq 11) qaB qaa) qaa qaf) (qab (qaH qaS rfl z_tuple PyProof.Rows.boot_tuple (qar (dvq 8) qaB qaa) qaa qaf) (qab (dv 10) (qab (dv 6) qak qaa) qaa) qam) qam) qam (qae qam (qae qaa (qae qaa qaf))))))))))))))),?_⟩
  have hwp:=qaD (d:=[]) hx.hp
  have hgl:(((sd.ways.map fun w=>dot (qad rs qn).1 w).map D.int).length:Int)=(sd.ways.length:Int):=by rw [List.length_map,List.length_map]
  have gat:∀ (o:Nat) (k:Int),o<sd.ways.length→k=(o:Int)→atI ((sd.ways.map fun w=>dot (qad rs qn).1 w).map D.int) k=some (.int (dot (qad rs qn).1 (sd.ways.getD o []))):=fun o k ho e=>qbr (i:=o) (by rw [List.getElem?_map,qaR (d:=[]) ho];rfl) e
  have wat:∀ (o:Nat) (k:Int),o<sd.ways.length→k=(o:Int)→atI (sd.ways.map wD) k=some (wD (sd.ways.getD o [])):=fun o k ho e=>qbr (i:=o) (qaR ho) e
  have hat:∀ (o:Nat) (k:Int),o<sd.ways.length→k=(o:Int)→atI (sd.held.map D.int) k=some (.int (sd.held.getD o 0)):=fun o k ho e=>qbr (i:=o) (qaR (by rw [hx.hh];exact ho)) e
  obtain ⟨wb,wl⟩:=qkp hx
  have hsz:qco (szL sd (qad rs qn) p):=by
    have:=hx.gb _ hwp
    rw [qh6]
    show (((dot (qad rs qn).1 (sd.ways.getD p [])).natAbs:Int)).natAbs<_
    rw [Int.natAbs_natCast]
    exact this
  refine ⟨_,qcz q0 q1,_,rfl,sd,(qad rs qn).1,rfl,hx.sb,hx.rl,hx.rb.1,?_⟩
  refine ⟨_,gat p _ hx.hp rfl,rfl,_,qdX sd,_,wat p _ hx.hp rfl,?_⟩
  refine ⟨fun ρ=>ρ=[some (.v (.tup (rs.map qa3))),some (.v (stD sd)),some (.v (.int p)),some (.v (.int qn)),some (.v (qa3 (qad rs qn))),some (.v (.tup ((sd.ways.map fun w=>dot (qad rs qn).1 w).map D.int))),some (.v (.int (szL sd (qad rs qn) p))),some (.v (wD (wyL sd (qad rs qn) p))),none,none,none,none],?_,?_⟩
  · refine ⟨_,gat p _ hx.hp rfl,fun h=>?_,fun h=>?_⟩
    · refine qa5 (f:=D.int) (fun x=>-x) (qap (hx.wl _ hwp)) (fun x _=>rfl) ?_
      have e:wyL sd (qad rs qn) p=(sd.ways.getD p []).map fun x=>-x:=by unfold wyL;rw [if_pos (dP h)]
      rw [e]
      rfl
    · have e:wyL sd (qad rs qn) p=sd.ways.getD p []:=by unfold wyL;rw [if_neg (of_decide_eq_false h)]
      rw [e]
      rfl
  rintro ρ rfl
  have hwl:=hx.sb.wl
  refine ⟨⟨by omega,by omega⟩,fun i ρ=>∃ u9:Option Sl,ρ=[some (.v (.tup (rs.map qa3))),some (.v (stD sd)),some (.v (.int p)),some (.v (.int qn)),some (.v (qa3 (qad rs qn))),some (.v (.tup ((sd.ways.map fun w=>dot (qad rs qn).1 w).map D.int))),some (.v (.int (szL sd (qad rs qn) p))),some (.v (wD (wyL sd (qad rs qn) p))),some (.own (((exL (qad rs qn) sd p qn).ways.take i).map wD)),u9,none,none],⟨_,rfl⟩,?_,?_⟩
  · rintro i d ρ hd ⟨u9,rfl⟩
    obtain ⟨hi,rfl⟩:=qbb hd
    have hi':i<sd.ways.length:=by omega
    have hel:(exL (qad rs qn) sd p qn).ways.length=sd.ways.length:=by show ((List.range _).map _).length=_;rw [List.length_map,List.length_range]
    have hei:(exL (qad rs qn) sd p qn).ways[i]?=some (if i=p then wyL sd (qad rs qn) p else mvL (szL sd (qad rs qn) p) (dot (qad rs qn).1 (sd.ways.getD i [])) sd.bot (sd.ways.getD i []) (wyL sd (qad rs qn) p)):=by
      show ((List.range _).map _)[i]?=_
      rw [List.getElem?_map,List.getElem?_range hi']
      rfl
    have hsn:∀ w,(exL (qad rs qn) sd p qn).ways[i]?=some w→(((exL (qad rs qn) sd p qn).ways.take i).map wD)++[wD w]=((exL (qad rs qn) sd p qn).ways.take (i+1)).map wD:=fun w hw=>by
      rw [qcm,List.take_succ,hw]
      rfl
    have hlt:(((exL (qad rs qn) sd p qn).ways.take i).map wD).length<sizeLine:=by rw [List.length_map,List.length_take];exact qap (by omega)
    by_cases c:i=p
    · subst c
      rw [if_pos rfl] at hei
      refine ⟨fun _=>⟨hlt,_,hsn _ hei,_,rfl⟩,fun h=>?_⟩
      have:((0+(i:Int)) == (i:Int))=false:=h
      rw [Int.zero_add] at this
      simp at this
    · rw [if_neg c] at hei
      refine ⟨fun h=>?_,fun _=>?_⟩
      · have:((0+(i:Int)) == (p:Int))=true:=h
        have:=eq_of_beq this
        omega
      · refine ⟨rfl,_,qdX sd,_,wat i _ hi' (by omega),_,gat i _ hi' (by omega),rfl,_,qdS sd,sd.ways.getD i [],wyL sd (qad rs qn) p,_,_,_,rfl,hx.wl _ (qaD hi'),hx.sb.wb _ (qaD hi'),wb,hx.gb _ (qaD hi'),hsz,hx.b0,hx.b1,hlt,_,hsn _ hei,_,rfl⟩
  rintro ρ ⟨u9,rfl⟩
  have hel:(exL (qad rs qn) sd p qn).ways.length=sd.ways.length:=by show ((List.range _).map _).length=_;rw [List.length_map,List.length_range]
  refine ⟨rfl,_,qe1 sd,qad rs qn,sd,rfl,hx.sb,hx.rl,hx.rb,rfl,_,qdS sd,sd.tops,wyL sd (qad rs qn) p,_,_,_,rfl,hx.tl,hx.sb.tb,wb,hx.ob,hsz,hx.b0,hx.b1,⟨by omega,by omega⟩,?_⟩
  refine qbT (fun o=>D.int (if o=p then qn else sd.held.getD o 0)) (qap (by omega)) (fun i hi=>?_) ?_
  · have hi':i<sd.ways.length:=by omega
    by_cases c:i=p
    · subst c
      refine ⟨fun _=>by rw [if_pos rfl];rfl,fun h=>?_⟩
      have:((0+(i:Int)) == (i:Int))=false:=h
      rw [Int.zero_add] at this
      simp at this
    · refine ⟨fun h=>?_,fun _=>⟨rfl,_,qdG sd,_,hat i _ hi' (by omega),by rw [if_neg c]⟩⟩
      have:((0+(i:Int)) == (p:Int))=true:=h
      have:=eq_of_beq this
      omega
  refine ⟨rfl,?_⟩
  have e0:((((sd.ways.map fun w=>dot (qad rs qn).1 w).map D.int).length:Int)).toNat=sd.ways.length:=by omega
  have e1:(exL (qad rs qn) sd p qn).ways.take sd.ways.length=(exL (qad rs qn) sd p qn).ways:=List.take_of_length_le (by omega)
  have e2:(List.range sd.ways.length).map (fun o=>D.int (if o=p then qn else sd.held.getD o 0))=(exL (qad rs qn) sd p qn).held.map D.int:=by
    show _=((List.range _).map _).map _
    rw [List.map_map]
    rfl
  show R (.obj "Stand" [("held",.tup _),("ways",.tup _),("tops",.tup _),("bottom",.int _)])
  rw [qaN,e0,e1,e2]
  exact q
def qbS:SpD:=fun ds R=>∃ a b:Int,ds=[.int a,.int b]∧R (.int (Int.gcd a b))
theorem qdn {n:Nat} {f:Addr} {fd:FuncData} (F:Fun K "common_of_two" "common_of_two" qbj f fd) (z_abs:mg "abs"=none):FnOk P w K mg base CX0 (n+1) f fd ["one","other"] (lSp K qbS):=by
  refine F.okD sc_common_of_two (fun ds R h=>?_) (fun cdv A outer s H E ds R hr h=>?_)
  · obtain ⟨a,b,rfl,_⟩:=h;rfl
  obtain ⟨a,b,rfl,q⟩:=h
  refine ⟨_,(qaj (qau (i:=2) sc_common_of_two.nd rfl (Or.inl rfl) (qaK qg7 rfl z_abs PyProof.Rows.boot_abs (qar (dvq 0) qaB qaa) qaa qaf))
      (qaj (qau (i:=3) sc_common_of_two.nd rfl (Or.inl rfl) (qaK qg7 rfl z_abs PyProof.Rows.boot_abs (qar (dvq 1) qaB qaa) qaa qaf))
      (qaj (qeT PassesOwn.never (qaQ (qm0 hr.units) (dvq 3) (PD.q qah) (qaC _)) (qaj (qau (i:=4) sc_common_of_two.nd rfl (Or.inl rfl) (qaI qft (dvq 2) (dvq 3)))
      (qaj (qau (i:=2) sc_common_of_two.nd rfl (Or.inl rfl) (dv 3))
      (qas (qau (i:=3) sc_common_of_two.nd rfl (Or.inl rfl) (dv 4))))))
      (qas (qaM (dv 2)))))),?_⟩
  refine ⟨fun m ρ=>∃ (g l:Int) (u4:Option Sl),ρ=[some (.v (.int a)),some (.v (.int b)),some (.v (.int g)),some (.v (.int l)),u4]∧m=l.toNat∧0≤g∧0≤l∧Int.gcd g l=Int.gcd a b,⟨_,_,_,_,rfl,rfl,by split <;> omega,by split <;> omega,?_⟩,?_⟩
  · have h1:∀ x:Int,(if x<0 then -x else x)=(x.natAbs:Int):=fun x=>by split <;> omega
    rw [h1,h1]
    unfold Int.gcd
    simp
  rintro m ρ ⟨g,l,u4,rfl,rfl,hg,hl,e⟩
  refine ⟨fun h=>?_,fun h=>?_⟩
  · have hne:l≠0:=fun e0=>by rw [e0] at h;cases h
    have hl':0<l:=by omega
    have h1:=Int.emod_lt_of_pos g hl'
    have h2:=Int.emod_nonneg g (b:=l) (by omega)
    exact ⟨hl',(g % l).toNat,by omega,l,g % l,_,rfl,rfl,hl,h2,(qez hg hl').trans e⟩
  · have h0:l=0:=by
      have:(!(l == 0))=false:=h
      simp at this
      exact this
    subst h0
    have e2:g=(Int.gcd a b:Int):=by
      rw [← e]
      simp
      omega
    rw [e2]
    exact q
def qeB:SpD:=fun ds R=>∃ ns:List Int,ds=[.tup (ns.map D.int)]∧R (.int (qa9 ns))
theorem qhg {n:Nat} {f:Addr} {fd:FuncData} (F:Fun K "common" "common" qds f fd) (Q_common_of_two:Cl P w K mg base n "common_of_two" ["one","other"] qbS):FnOk P w K mg base CX0 (n+1) f fd ["numbers"] (lSp K qeB):=by
  refine F.okD sc_common (fun ds R h=>?_) (fun cdv A outer s H E ds R hr h=>?_)
  · obtain ⟨ns,rfl,_⟩:=h;rfl
  obtain ⟨ns,rfl,q⟩:=h
  refine ⟨_,(qaj (qau (i:=1) sc_common.nd rfl (Or.inl rfl) qah)
      (qaj (qcF PassesOwn.never rfl (qbI (dv 0)) (qao (i:=2) sc_common.nd rfl (Or.inl rfl)) (qas (qau (i:=1) sc_common.nd rfl (Or.inl rfl) (qaq Q_common_of_two hr rfl (qab (dv 2) (qab (dv 1) qak qaa) qaa) qaa (qae qaa qaf)))))
      (qas (qaM (dv 1))))),?_⟩
  refine ⟨fun i ρ=>∃ u2:Option Sl,ρ=[some (.v (.tup (ns.map D.int))),some (.v (.int (qa9 (ns.take i)))),u2],⟨_,rfl⟩,?_,?_⟩
  · rintro i d ρ hd ⟨u2,rfl⟩
    obtain ⟨k,rfl,hk⟩:=qbZ hd
    refine ⟨_,_,rfl,some (.v (.int k)),?_⟩
    rw [qbc hk,qbC]
    rfl
  · rintro ρ ⟨u2,rfl⟩
    rw [List.length_map,List.take_length]
    exact q
def qce (ts:List Int) (b:Int):Int:=Int.gcd (qa9 ts) b
def qdu:SpD:=fun ds R=>∃ (ts:List Int) (b:Int),ds=[.tup (ts.map D.int),.int b]∧0<b∧b<2 ^ 9000∧ts.length≤1000∧R (.tup [.tup ((ts.map (· / qce ts b)).map D.int),.int (b / qce ts b)])
theorem qhr {n:Nat} {f:Addr} {fd:FuncData} (F:Fun K "lowest" "lowest" qcS f fd) (Q_common_of_two:Cl P w K mg base n "common_of_two" ["one","other"] qbS) (Q_common:Cl P w K mg base n "common" ["numbers"] qeB) (z_tuple:mg "tuple"=none):FnOk P w K mg base CX0 (n+1) f fd ["tops","bottom"] (lSp K qdu):=by
  refine F.okD sc_lowest (fun ds R h=>?_) (fun cdv A outer s H E ds R hr h=>?_)
  · obtain ⟨ts,b,rfl,_⟩:=h;rfl
  obtain ⟨ts,b,rfl,b0,b1,hl,q⟩:=h
  refine ⟨_,(qbL (qcp (qaQ qgS (dvq 1) (PD.q qah) (qaC _)) (qas qkU) qbd)
      (qaj (qau (i:=2) sc_lowest.nd rfl (Or.inr rfl) (qaq Q_common_of_two hr rfl (qab (qaq Q_common hr rfl (qab (dv 0) qak qaa) qaa qaf) (qab (dv 1) qak qaa) qam) qam (qae qaa qaf)))
      (qas (qaM (qbe (qab (qaH qaS rfl z_tuple PyProof.Rows.boot_tuple (qar (PD.q (PF.d (qaT (k:=1) (N':=["top","divisor"]) (cap:=[none,some 2]) rfl (.ok (show qaP ["tops","bottom","divisor"] (qag qcS) _ ["top","divisor"] [none,some 2]=true by decide +kernel)) (by decide +kernel) (qaG (by decide)) (qbI (dv 0)) (fun _ _ _ _ _=>(qao (i:=0) (show List.Nodup (["top","divisor"]:List Str) by decide +kernel) rfl (Or.inl rfl))) (fun _ _ _ _ _=>(qaI qbp (dvq 0) (dvq 1)))))) qaB qal) qal qaf) (qab (qaI qbp (dvq 1) (dvq 2)) qak qay) qam)))))),?_⟩
  have hd0:0<qce ts b:=by
    unfold qce
    have:=Int.gcd_pos_of_ne_zero_right (qa9 ts) (show b≠0 by omega)
    omega
  have hd1:qce ts b<2 ^ 9000:=by
    have:qce ts b≤b:=by
      unfold qce
      exact Int.le_of_dvd b0 (Int.gcd_dvd_right ..)
    omega
  refine ⟨fun ρ=>ρ=[some (.v (.tup (ts.map D.int))),some (.v (.int b)),none],⟨fun h=>?_,fun _=>rfl⟩,?_⟩
  · have:=dP h
    omega
  rintro ρ rfl
  refine ⟨ts,rfl,qa9 ts,b,rfl,?_⟩
  refine qa5 (f:=D.int) (fun x=>x / qce ts b) (qap hl) (fun x _=>⟨CDivB.of hd0 hd1,rfl⟩) ?_
  exact ⟨CDivB.of hd0 hd1,q⟩
def qkL (c:Nat→Bool) (h:Nat→D) (i:Nat):Option D→Prop
  | some y=>y=h i∧c i=true
  | none=>c i=false
theorem qem {c:Nat→Bool} {h:Nat→D} {n:Nat} {ys:List (Option D)} (hyl:ys.length=n) (hy:∀ i y,ys[i]?=some y→qkL c h i y):ys.filterMap id=((List.range n).filter c).map h:=by
  have e:ys=(List.range n).map fun i=>if c i then some (h i) else none:=by
    refine List.ext_getElem? fun i=>?_
    rw [List.getElem?_map]
    by_cases hi:i<n
    · rw [List.getElem?_range hi,qaA (show i<ys.length by omega)]
      have q:=hy i _ (qaA (show i<ys.length by omega))
      cases e:ys[i]'(by omega) with
      | none =>
        rw [e] at q
        have q':c i=false:=q
        show some none=some (if c i=true then _ else _)
        rw [q']
        rfl
      | some y =>
        rw [e] at q
        have q':y=h i∧c i=true:=q
        show some (some y)=some (if c i=true then _ else _)
        rw [q'.2,q'.1]
        rfl
    · rw [List.getElem?_eq_none (by omega),List.getElem?_eq_none (by rw [List.length_range];omega)]
      rfl
  have key:∀ l:List Nat,(l.map fun i=>if c i then some (h i) else none).filterMap id=(l.filter c).map h:=by
    intro l
    induction l with
    | nil=>rfl
    | cons x l ih =>
      rw [List.map_cons]
      cases e:c x with
      | true=>rw [if_pos rfl,List.filterMap_cons_some (f:=id) (a:=some (h x)) (b:=h x) rfl,List.filter_cons_of_pos e,List.map_cons,ih]
      | false=>rw [if_neg (by decide),List.filterMap_cons_none (f:=id) (a:=none) rfl,List.filter_cons_of_neg (by rw [e];decide),ih]
  rw [e,key]
def qbF (sd:Std) (gs:List Int):List (Int × Int):=((List.range gs.length).filter fun i=>decide (gs.getD i 0<0)).map fun i=>(sd.held.getD i 0,- gs.getD i 0)
def qeJ:SpD:=fun ds R=>∃ (sd:Std) (gs:List Int),ds=[stD sd,.tup (gs.map D.int)]∧gs.length≤1000∧sd.held.length=gs.length∧R (.lst ((qbF sd gs).map prD))
theorem qin {n:Nat} {f:Addr} {fd:FuncData} (F:Fun K "fallen" "fallen" qcM f fd) {C_Stand:Addr} (T_Stand:TxtStand K mg C_Stand) (z_range:mg "range"=none) (z_len:mg "len"=none):FnOk P w K mg base CX0 (n+1) f fd ["stand","grown"] (lSp K qeJ):=by
  refine F.okD qij (fun ds R h=>?_) (fun cdv A outer s H E ds R hr h=>?_)
  · obtain ⟨sd,gs,rfl,_⟩:=h;rfl
  obtain ⟨sd,gs,rfl,hl,hh,q⟩:=h
  refine ⟨_,(qas (qaM (PF.d (qmA (k:=1) (N':=["place","stand","grown"]) (cap:=[none,some 0,some 1]) rfl (.ok (show qaP ["stand","grown"] (qag qcM) _ ["place","stand","grown"] [none,some 0,some 1]=true by decide +kernel)) (by decide +kernel) (qaG (by decide)) (qa8 rfl z_range (qab (qaK qcG rfl z_len PySem.boot_len (qar (dvq 1) qaB qaa) qaa qaf) qak qam)) (fun _ _ _ _ _=>(qao (i:=0) (show List.Nodup (["place","stand","grown"]:List Str) by decide +kernel) rfl (Or.inl rfl))) (fun _ _ _ _ _=>(qjC (qaQ qgS (PD.q (qaO (dvq 2) (dvq 0) (fun _ _=>rfl))) (PD.q qah) (qaC _)))) (fun _ _ _ _ _=>(qbe (qab (qaO (PD.q (qb2 T_Stand.cl T_Stand.n_held T_Stand.ns (dvq 1))) (dvq 0) (fun _ _=>rfl)) (qab (qfE (PD.q (qaO (dvq 2) (dvq 0) (fun _ _=>rfl)))) qak qc4) qac))))))),?_⟩
  have gat:∀ (o:Nat) (k:Int),o<gs.length→k=(o:Int)→atI (gs.map D.int) k=some (.int (gs.getD o 0)):=fun o k ho e=>qbr (i:=o) (qaR ho) e
  have hat:∀ (o:Nat) (k:Int),o<gs.length→k=(o:Int)→atI (sd.held.map D.int) k=some (.int (sd.held.getD o 0)):=fun o k ho e=>qbr (i:=o) (qaR (by rw [hh];exact ho)) e
  have hgl:(((gs.map D.int).length:Nat):Int)=(gs.length:Int):=by rw [List.length_map]
  refine ⟨⟨by omega,by omega⟩,?_⟩
  refine ⟨by rw [qaN];exact qap (by omega),qkL (fun i=>decide (gs.getD i 0<0)) (fun i=>prD (sd.held.getD i 0,- gs.getD i 0)),fun i d hd=>?_,fun ys hyl hy=>?_⟩
  · obtain ⟨hi,rfl⟩:=qbb hd
    have hi':i<gs.length:=by omega
    refine ⟨_,gat i _ hi' (by omega),fun h=>?_,fun h=>h⟩
    exact ⟨rfl,_,qdG sd,_,hat i _ hi' (by omega),_,gat i _ hi' (by omega),rfl,h⟩
  · rw [qaN] at hyl
    have e0:(((gs.map D.int).length:Int)).toNat=gs.length:=by omega
    rw [qem hyl hy,e0]
    have e1:(qbF sd gs).map prD=((List.range gs.length).filter fun i=>decide (gs.getD i 0<0)).map fun i=>prD (sd.held.getD i 0,- gs.getD i 0):=by
      unfold qbF
      rw [List.map_map]
      rfl
    rw [e1] at q
    exact q
def qcC:SpD:=fun ds R=>∃ (ps:List (Int × Int)) (b:Int),ds=[.lst (ps.map prD),.int b]∧0<b∧b<2 ^ 9000∧ps.length≤1000∧R (.tup [.lst ((ps.map fun p=>(p.1,p.2 / qce (ps.map (·.2)) b)).map prD),.int (b / qce (ps.map (·.2)) b)])
theorem qfe {n:Nat} {f:Addr} {fd:FuncData} (F:Fun K "in_lowest" "in_lowest" qbu f fd) (Q_lowest:Cl P w K mg base n "lowest" ["tops","bottom"] qdu) (z_tuple:mg "tuple"=none) (z_zip:mg "zip"=none):FnOk P w K mg base CX0 (n+1) f fd ["pairs","bottom"] (lSp K qcC):=by
  refine F.okD sc_in_lowest (fun ds R h=>?_) (fun cdv A outer s H E ds R hr h=>?_)
  · obtain ⟨ps,b,rfl,_⟩:=h;rfl
  obtain ⟨ps,b,rfl,b0,b1,hl,q⟩:=h
  refine ⟨_,(qaj (qau (i:=2) sc_in_lowest.nd rfl (Or.inl rfl) (qaq Q_lowest hr rfl (qab (qaH qaS rfl z_tuple PyProof.Rows.boot_tuple (qar (PD.q (PF.d (qaT (k:=1) (N':=["pair"]) (cap:=[none]) rfl (.ok (show qaP ["pairs","bottom","reduced"] (qag qbu) _ ["pair"] [none]=true by decide +kernel)) (by decide +kernel) (qaG (by decide)) (qbI (dv 0)) (fun _ _ _ _ _=>(qao (i:=0) (show List.Nodup (["pair"]:List Str) by decide +kernel) rfl (Or.inl rfl))) (fun _ _ _ _ _=>(qaO (dvq 0) (PD.q qah) (fun _ _=>rfl)))))) qaB qal) qal qaf) (qab (dv 1) qak qaa) qam) qam (qae qaa qaf)))
      (qas (qaM (qbe (qab (PF.d (qaT (k:=2) (N':=["pair","weight"]) (cap:=[none,none]) rfl (.ok (show qaP ["pairs","bottom","reduced"] (qag qbu) _ ["pair","weight"] [none,none]=true by decide +kernel)) (by decide +kernel) (qcy (n:=2) (qa0 (qaG (by decide)) (qa0 (qaG (by decide)) qcx))) (qek rfl z_zip (qab (dv 0) (qab (qaO (dvq 2) (PD.q qah) (fun _ _=>rfl)) qak qac) qaa)) (fun _ _ _ _ _=>(qcs (n:=2) rfl (qav (qao (i:=0) (show List.Nodup (["pair","weight"]:List Str) by decide +kernel) rfl (Or.inl rfl)) (qav (qao (i:=1) (show List.Nodup (["pair","weight"]:List Str) by decide +kernel) rfl (Or.inl rfl)) qbD)))) (fun _ _ _ _ _=>(qbe (qab (qaO (dvq 0) (PD.q qah) (fun _ _=>rfl)) (qab (dv 1) qak qaa) qac))))) (qab (qaO (dvq 2) (PD.q qah) (fun _ _=>rfl)) qak qac) qal))))),?_⟩
  refine qa5 (f:=prD) (fun p=>p.2) (qap hl) (fun p _=>⟨_,rfl,rfl⟩) ?_
  refine ⟨ps.map (fun p=>p.2),b,rfl,b0,b1,by rw [List.length_map];exact hl,?_⟩
  refine ⟨_,rfl,_,_,rfl,rfl,?_⟩
  refine qb1 (f:=prD) (h:=D.int) (fun p w=>prD (p.1,w)) (qap hl) (fun p _ w _=>⟨rfl,_,rfl,rfl⟩) ?_
  have e:List.zipWith (fun (p:Int × Int) (w:Int)=>prD (p.1,w)) ps ((ps.map (fun p=>p.2)).map (· / qce (ps.map (fun p=>p.2)) b))=(ps.map fun p=>(p.1,p.2 / qce (ps.map (·.2)) b)).map prD:=by
    generalize qce (ps.map (fun p=>p.2)) b=d
    have key:∀ l:List (Int × Int),List.zipWith (fun (p:Int × Int) (w:Int)=>prD (p.1,w)) l ((l.map (fun p=>p.2)).map (· / d))=(l.map fun p=>(p.1,p.2 / d)).map prD:=by
      intro l
      induction l with
      | nil=>rfl
      | cons p t ih =>
        rw [List.map_cons,List.map_cons,List.zipWith_cons_cons,List.map_cons,List.map_cons,ih]
    exact key ps
  rw [e]
  exact ⟨_,rfl,q⟩
def unL (n k:Nat):List Int:=(List.range n).map fun o=>if o=k then 1 else 0
def qjG:SpD:=fun ds R=>∃ n k:Nat,ds=[.int (n:Int),.int (k:Int)]∧n≤1000∧R (wD (unL n k))
theorem qke {n:Nat} {f:Addr} {fd:FuncData} (F:Fun K "unit" "unit" qe3 f fd) (z_tuple:mg "tuple"=none) (z_range:mg "range"=none):FnOk P w K mg base CX0 (n+1) f fd ["n","place"] (lSp K qjG):=by
  refine F.okD qk8 (fun ds R h=>?_) (fun cdv A outer s H E ds R hr h=>?_)
  · obtain ⟨m,k,rfl,_⟩:=h;rfl
  obtain ⟨m,k,rfl,hm,q⟩:=h
  refine ⟨_,(qas (qaM (qaH qaS rfl z_tuple PyProof.Rows.boot_tuple (qar (PD.q (PF.d (qaT (k:=1) (N':=["other","place"]) (cap:=[none,some 1]) rfl (.ok (show qaP ["n","place"] (qag qe3) _ ["other","place"] [none,some 1]=true by decide +kernel)) (by decide +kernel) (qaG (by decide)) (qa8 rfl z_range (qab (dv 0) qak qaa)) (fun _ _ _ _ _=>(qao (i:=0) (show List.Nodup (["other","place"]:List Str) by decide +kernel) rfl (Or.inl rfl))) (fun _ _ _ _ _=>(qnP (qaQ (qfK hr.units) (dvq 0) (dvq 1) (qaC _)) qah qah))))) qaB qal) qal qaf))),?_⟩
  refine ⟨⟨by omega,by omega⟩,?_⟩
  refine qbT (fun o=>D.int (if o=k then 1 else 0)) (qap (by omega)) (fun i hi=>?_) ?_
  · by_cases c:i=k
    · subst c
      refine ⟨fun _=>by rw [if_pos rfl];rfl,fun h=>?_⟩
      have:((0+(i:Int)) == (i:Int))=false:=h
      rw [Int.zero_add] at this
      simp at this
    · refine ⟨fun h=>?_,fun _=>by rw [if_neg c];rfl⟩
      have:((0+(i:Int)) == (k:Int))=true:=h
      have:=eq_of_beq this
      omega
  have e:(List.range ((m:Int)).toNat).map (fun o=>D.int (if o=k then 1 else 0))=(unL m k).map D.int:=by
    unfold unL
    rw [List.map_map,Int.toNat_natCast]
    rfl
  rw [e]
  exact q
def qd3 (rs:List Row) (n:Nat):Std where
  held:=(List.range n).map fun (i:Nat)=>(i:Int)
  ways:=(List.range n).map fun k=>unL n k
  tops:=(List.range n).map fun (k:Nat)=>(qad rs (k:Int)).2
  bot:=1
def qdF:SpD:=fun ds R=>∃ (rs:List Row) (n:Nat),ds=[.tup (rs.map qa3),.int (n:Int)]∧n≤1000∧n≤rs.length∧R (stD (qd3 rs n))
theorem qff {n:Nat} {f:Addr} {fd:FuncData} (F:Fun K "beginning" "beginning" qbt f fd) {C_Stand:Addr} (T_Stand:TxtStand K mg C_Stand) (Q_unit:Cl P w K mg base (n+1) "unit" ["n","place"] qjG) {f_Stand____init__:Addr} {d_Stand____init__:FuncData} (G_Stand____init__:FnOk P w K mg base CX0 n f_Stand____init__ d_Stand____init__ ["self","held","ways","tops","bottom"] (qbi K C_Stand)) (b_Stand____init__:Binds K d_Stand____init__ ["self","held","ways","tops","bottom"] []) (M_Stand:Mk K C_Stand f_Stand____init__) (z_tuple:mg "tuple"=none) (z_range:mg "range"=none):FnOk P w K mg base CX0 (n+2) f fd ["rows","n"] (lSp K qdF):=by
  refine F.okD sc_beginning (fun ds R h=>?_) (fun cdv A outer s H E ds R hr h=>?_)
  · obtain ⟨rs,m,rfl,_⟩:=h;rfl
  obtain ⟨rs,m,rfl,hm,hl,q⟩:=h
  refine ⟨_,(qaj (qau (i:=2) sc_beginning.nd rfl (Or.inl rfl) (qaH qaS rfl z_tuple PyProof.Rows.boot_tuple (qar (PD.q (PF.d (qaT (k:=1) (N':=["place","n"]) (cap:=[none,some 1]) rfl (.ok (show qaP ["rows","n","ways","tops"] (qag qbt) _ ["place","n"] [none,some 1]=true by decide +kernel)) (by decide +kernel) (qaG (by decide)) (qa8 rfl z_range (qab (dv 1) qak qaa)) (fun _ _ _ _ _=>(qao (i:=0) (show List.Nodup (["place","n"]:List Str) by decide +kernel) rfl (Or.inl rfl))) (fun _ _ _ _ _=>(qaq Q_unit hr rfl (qab (dv 1) (qab (dv 0) qak qaa) qaa) qaa (qae qaa qaf)))))) qaB qal) qal qaf))
      (qaj (qau (i:=3) sc_beginning.nd rfl (Or.inl rfl) (qaH qaS rfl z_tuple PyProof.Rows.boot_tuple (qar (PD.q (PF.d (qaT (k:=1) (N':=["place","rows"]) (cap:=[none,some 0]) rfl (.ok (show qaP ["rows","n","ways","tops"] (qag qbt) _ ["place","rows"] [none,some 0]=true by decide +kernel)) (by decide +kernel) (qaG (by decide)) (qa8 rfl z_range (qab (dv 1) qak qaa)) (fun _ _ _ _ _=>(qao (i:=0) (show List.Nodup (["place","rows"]:List Str) by decide +kernel) rfl (Or.inl rfl))) (fun _ _ _ _ _=>(qaO (PD.q (qaO (dvq 1) (dvq 0) (fun _ _=>rfl))) (PD.q qah) (fun _ _=>rfl)))))) qaB qal) qal qaf))
      (qas (qaM (qjM T_Stand.ns M_Stand G_Stand____init__ hr rfl T_Stand.mgC b_Stand____init__ qlg (qab (qeh rfl rfl z_tuple rfl z_range (qab (dv 1) qak qaa)) (qab (dv 2) (qab (dv 3) (qab qah qak qai) qaa) qaa) qam) qam (qae qaa (qae qaa (qae qai qaf)))))))),?_⟩
  refine ⟨⟨by omega,by omega⟩,?_⟩
  refine qbT (fun k=>wD (unL m k)) (qap (by omega)) (fun i hi=>⟨m,i,by rw [Int.zero_add],hm,rfl⟩) ?_
  refine ⟨⟨by omega,by omega⟩,?_⟩
  refine qbT (fun (k:Nat)=>D.int (qad rs (k:Int)).2) (qap (by omega)) (fun i hi=>⟨_,qcz (by omega) (by omega),_,rfl,by rw [Int.zero_add]⟩) ?_
  refine ⟨⟨by omega,by omega⟩,rfl,?_⟩
  have e0:((m:Int)).toNat=m:=Int.toNat_natCast m
  have e1:(List.range m).map (fun k=>wD (unL m k))=(qd3 rs m).ways.map wD:=by
    show _=((List.range _).map _).map _
    rw [List.map_map]
    rfl
  have e2:(List.range m).map (fun (k:Nat)=>D.int (qad rs (k:Int)).2)=(qd3 rs m).tops.map D.int:=by
    show _=((List.range _).map _).map _
    rw [List.map_map]
    rfl
  have e3:qbs 0 m=(qd3 rs m).held.map D.int:=by
    show _=((List.range _).map _).map _
    unfold qbs
    rw [List.map_map]
    exact List.map_congr_left fun i _=>by show D.int (0+(i:Int))=D.int (i:Int);rw [Int.zero_add]
  show R (.obj "Stand" [("held",.tup _),("ways",.tup _),("tops",.tup _),("bottom",.int 1)])
  rw [e0,e1,e2,e3]
  exact q
def qhe (ts:List Int) (b:Int):Row:=(ts.map (· / qce ts b),b / qce ts b)
def qcc:SpD:=fun ds R=>∃ (sd:Std) (way:List Int),ds=[stD sd,.tup (way.map D.int)]∧sd.tops.length≤1000∧0<sd.bot∧sd.bot<2 ^ 9000∧way.length≤1000∧0<qa9 way∧qa9 way<2 ^ 9000∧R (.tup [.str "endless",qa3 (qhe sd.tops sd.bot),.tup ((way.map (· / qa9 way)).map D.int)])
theorem qdb {n:Nat} {f:Addr} {fd:FuncData} (F:Fun K "endless_ending" "endless_ending" qa4 f fd) {C_Stand:Addr} (T_Stand:TxtStand K mg C_Stand) (Q_common:Cl P w K mg base n "common" ["numbers"] qeB) (Q_lowest:Cl P w K mg base n "lowest" ["tops","bottom"] qdu) (z_tuple:mg "tuple"=none):FnOk P w K mg base CX0 (n+1) f fd ["stand","way"] (lSp K qcc):=by
  refine F.okD sc_endless_ending (fun ds R h=>?_) (fun cdv A outer s H E ds R hr h=>?_)
  · obtain ⟨sd,way,rfl,_⟩:=h;rfl
  obtain ⟨sd,way,rfl,tl,b0,b1,wl,g0,g1,q⟩:=h
  refine ⟨_,(qaj (qau (i:=2) sc_endless_ending.nd rfl (Or.inr rfl) (qaq Q_common hr rfl (qab (dv 1) qak qaa) qaa qaf))
      (qas (qaM (qbe (qab qbo (qab (qaq Q_lowest hr rfl (qab (qb2 T_Stand.cl T_Stand.n_tops T_Stand.ns (dvq 0)) (qab (qb2 T_Stand.cl T_Stand.n_bottom T_Stand.ns (dvq 0)) qak qat) qat) qat (qae qat qaf)) (qab (qaH qaS rfl z_tuple PyProof.Rows.boot_tuple (qar (PD.q (PF.d (qaT (k:=1) (N':=["step","divisor"]) (cap:=[none,some 2]) rfl (.ok (show qaP ["stand","way","divisor"] (qag qa4) _ ["step","divisor"] [none,some 2]=true by decide +kernel)) (by decide +kernel) (qaG (by decide)) (qbI (dv 1)) (fun _ _ _ _ _=>(qao (i:=0) (show List.Nodup (["step","divisor"]:List Str) by decide +kernel) rfl (Or.inl rfl))) (fun _ _ _ _ _=>(qaI qbp (dvq 0) (dvq 1)))))) qaB qal) qal qaf) qak qam) qam) qai))))),?_⟩
  refine ⟨way,rfl,rfl,_,qe1 sd,rfl,_,qdS sd,sd.tops,sd.bot,rfl,b0,b1,tl,?_⟩
  refine qa5 (f:=D.int) (fun x=>x / qa9 way) (qap wl) (fun x _=>⟨CDivB.of g0 g1,rfl⟩) ?_
  exact q
def qnj:Option Nat→D
  | none=>.non
  | some k=>.int (k:Int)
def Lg (sd:Std) (gs:List Int):Option Nat→Prop
  | none=>∀ i,i<gs.length→gs.getD i 0≤0
  | some p=>p<gs.length∧0<gs.getD p 0∧∀ j,j<gs.length→0<gs.getD j 0→sd.held.getD p 0≤sd.held.getD j 0
def qcV:SpD:=fun ds R=>∃ (sd:Std) (gs:List Int),ds=[stD sd,.tup (gs.map D.int)]∧gs.length≤1000∧sd.held.length=gs.length∧∀ o,Lg sd gs o→R (qnj o)
theorem qd4 {n:Nat} {f:Addr} {fd:FuncData} (F:Fun K "least_grown" "least_grown" qaz f fd) {C_Stand:Addr} (T_Stand:TxtStand K mg C_Stand) (z_min:mg "min"=none) (z_range:mg "range"=none) (z_len:mg "len"=none) {cL PL:Addr} (L_least_grown:LamT K "least_grown" fd cL PL ⟨53,27,53,58⟩):FnOk P w K mg base CX0 (n+2) f fd ["stand","grown"] (lSp K qcV):=by
  refine F.okDL sc_least_grown (fun ds R h=>?_) (fun cdv A outer s H E ds R hcd hr h=>?_)
  · obtain ⟨sd,gs,rfl,_⟩:=h;rfl
  obtain ⟨sd,gs,rfl,hl,hh,q⟩:=h
  refine ⟨_,(qaj (qmb (i:=2) (k:=1) (N':=["place","grown"]) (cap:=[none,some 1]) rfl sc_least_grown.nd rfl (Or.inl rfl) (.ok (show qaP ["stand","grown","places"] (qag qaz) _ ["place","grown"] [none,some 1]=true by decide +kernel)) (by decide +kernel) (qaG (by decide)) (qa8 rfl z_range (qab (qaK qcG rfl z_len PySem.boot_len (qar (dvq 1) qaB qaa) qaa qaf) qak qam)) (fun _ _ _ _ _=>(qao (i:=0) (show List.Nodup (["place","grown"]:List Str) by decide +kernel) rfl (Or.inl rfl))) (fun _ _ _ _ _=>(qjC (qaQ qkZ (PD.q (qaO (dvq 1) (dvq 0) (fun _ _=>rfl))) (PD.q qah) (qaC _)))) (fun _ _ _ _ _=>(dv 0)))
      (qas (qaM (qjc (p:="place") (r:=["stand"]) (cap:=[some 0]) (hr.mono (by omega)) rfl z_min (dvq 2) (.ok (show qaP ["stand","grown","places"] (qag qaz) _ ["place","stand"] [none,some 0]=true by decide +kernel)) (by decide +kernel) rfl rfl rfl rfl (fun _ _ _ _ _ _=>rfl) (hcd.symm.trans L_least_grown.code) L_least_grown.hd L_least_grown.tab (fun _ _ _ _ _ _=>(qaO (PD.q (qb2 T_Stand.cl T_Stand.n_held T_Stand.ns (dvq 1))) (dvq 0) (fun _ _=>rfl))) qaa)))),?_⟩
  have gat:∀ (o:Nat) (k:Int),o<gs.length→k=(o:Int)→atI (gs.map D.int) k=some (.int (gs.getD o 0)):=fun o k ho e=>qbr (i:=o) (qaR ho) e
  have hat:∀ (o:Nat) (k:Int),o<gs.length→k=(o:Int)→atI (sd.held.map D.int) k=some (.int (sd.held.getD o 0)):=fun o k ho e=>qbr (i:=o) (qaR (by rw [hh];exact ho)) e
  have hgl:(((gs.map D.int).length:Nat):Int)=(gs.length:Int):=by rw [List.length_map]
  refine ⟨⟨by omega,by omega⟩,?_⟩
  refine ⟨by rw [qaN];exact qap (by omega),qkL (fun i=>decide (0<gs.getD i 0)) (fun i=>D.int (i:Int)),fun i d hd=>?_,fun ys hyl hy=>?_⟩
  · obtain ⟨hi,rfl⟩:=qbb hd
    have hi':i<gs.length:=by omega
    refine ⟨_,gat i _ hi' (by omega),fun h=>?_,fun h=>h⟩
    exact ⟨by rw [Int.zero_add],h⟩
  · rw [qaN] at hyl
    have e0:(((gs.map D.int).length:Int)).toNat=gs.length:=by omega
    rw [qem hyl hy,e0]
    have hin:∀ (i:Nat) (e:D),(((List.range gs.length).filter fun i=>decide (0<gs.getD i 0)).map fun (i:Nat)=>D.int (i:Int))[i]?=some e→∃ k:Nat,e=.int (k:Int)∧((List.range gs.length).filter fun i=>decide (0<gs.getD i 0))[i]?=some k∧k<gs.length∧0<gs.getD k 0:=fun i e he=>by
      obtain ⟨k,rfl,hk⟩:=qbZ he
      have:=List.mem_filter.mp (List.mem_of_getElem? hk)
      exact ⟨k,rfl,hk,List.mem_range.mp this.1,of_decide_eq_true this.2⟩
    refine ⟨fun i=>sd.held.getD (((List.range gs.length).filter fun i=>decide (0<gs.getD i 0)).getD i 0) 0,fun i e he=>?_,fun hn=>?_,fun i e he hb=>?_⟩
    · obtain ⟨k,rfl,hk,hkl,hkg⟩:=hin i e he
      have e1:((List.range gs.length).filter fun i=>decide (0<gs.getD i 0)).getD i 0=k:=by rw [List.getD_eq_getElem?_getD,hk];rfl
      exact ⟨rfl,_,qdG sd,_,hat k _ hkl rfl,by show D.int _=D.int (sd.held.getD (List.getD _ i 0) 0);rw [e1]⟩
    · refine q none fun i hi=>?_
      have hz:=List.map_eq_nil_iff.mp hn
      rcases Int.lt_or_le 0 (gs.getD i 0) with c | c
      · have:i∈(List.range gs.length).filter fun i=>decide (0<gs.getD i 0):=List.mem_filter.mpr ⟨List.mem_range.mpr hi,decide_eq_true c⟩
        rw [hz] at this
        cases this
      · exact c
    · obtain ⟨k,rfl,hk,hkl,hkg⟩:=hin i e he
      have e1:((List.range gs.length).filter fun i=>decide (0<gs.getD i 0)).getD i 0=k:=by rw [List.getD_eq_getElem?_getD,hk];rfl
      refine q (some k) ⟨hkl,hkg,fun j hj hjg=>?_⟩
      have hm:j∈(List.range gs.length).filter fun i=>decide (0<gs.getD i 0):=List.mem_filter.mpr ⟨List.mem_range.mpr hj,decide_eq_true hjg⟩
      obtain ⟨i',hi'⟩:=List.getElem?_of_mem hm
      have h3:=(hb i' (by rw [List.length_map];exact qaF hi')).1
      have e2:((List.range gs.length).filter fun i=>decide (0<gs.getD i 0)).getD i' 0=j:=by rw [List.getD_eq_getElem?_getD,hi'];rfl
      have h4:sd.held.getD (((List.range gs.length).filter fun i=>decide (0<gs.getD i 0)).getD i 0) 0≤sd.held.getD (((List.range gs.length).filter fun i=>decide (0<gs.getD i 0)).getD i' 0) 0:=h3
      rw [e1,e2] at h4
      exact h4
theorem qcN {ps:List (Int × Int)} (h:(ps.map (·.1)).Nodup):∀ (i j:Nat) (p q:Int × Int),ps[i]?=some p→ps[j]?=some q→p.1=q.1→i=j:=fun i j p q hp hq e=>by
  have e1:(ps.map (·.1))[i]?=some p.1:=by rw [List.getElem?_map,hp];rfl
  have e2:(ps.map (·.1))[j]?=some q.1:=by rw [List.getElem?_map,hq];rfl
  obtain ⟨h1,q1⟩:=List.getElem?_eq_some_iff.mp e1
  obtain ⟨h2,q2⟩:=List.getElem?_eq_some_iff.mp e2
  exact (List.getElem_inj h).mp (q1.trans (e.trans q2.symm))
def shG (sd:Std) (gs:List Int):Int:=qce ((qbF sd gs).map (·.2)) sd.bot
def shP (sd:Std) (gs:List Int):List (Int × Int):=(qbF sd gs).map fun p=>(p.1,p.2 / shG sd gs)
def shD (sd:Std) (gs:List Int):Int:=sd.bot / shG sd gs
theorem qf9 (sd:Std) (gs:List Int):(shP sd gs).map (·.1)=((List.range gs.length).filter fun i=>decide (gs.getD i 0<0)).map fun i=>sd.held.getD i 0:=by
  unfold shP qbF
  rw [List.map_map,List.map_map]
  rfl
theorem qcY {sd:Std} {gs:List Int} (hh:sd.held.length=gs.length) (hn:sd.held.Nodup):((shP sd gs).map (·.1)).Nodup:=by
  rw [qf9]
  have nd:((List.range gs.length).filter fun i=>decide (gs.getD i 0<0)).Nodup:=List.nodup_range.filter _
  refine List.pairwise_map.mpr (List.Pairwise.imp_of_mem (fun {a b} ha hb hab e=>hab ?_) nd)
  have la:=List.mem_range.mp (List.mem_filter.mp ha).1
  have lb:=List.mem_range.mp (List.mem_filter.mp hb).1
  have e1:=qaR (xs:=sd.held) (d:=0) (i:=a) (by omega)
  have e2:=qaR (xs:=sd.held) (d:=0) (i:=b) (by omega)
  obtain ⟨h1,q1⟩:=List.getElem?_eq_some_iff.mp e1
  obtain ⟨h2,q2⟩:=List.getElem?_eq_some_iff.mp e2
  exact (List.getElem_inj hn).mp (q1.trans (e.trans q2.symm))
theorem qc7 (sd:Std) (gs:List Int):(shP sd gs).length≤gs.length:=by
  unfold shP qbF
  rw [List.length_map,List.length_map]
  have:=List.length_filter_le (fun i=>decide (gs.getD i 0<0)) (List.range gs.length)
  rw [List.length_range] at this
  exact this
theorem qcK (sd:Std) (gs:List Int):(qbF sd gs).length≤gs.length:=by
  have:=qc7 sd gs
  unfold shP at this
  rw [List.length_map] at this
  exact this
def qcL:SpD:=fun ds R=>∃ (sd:Std) (q:Int) (gs:List Int),ds=[stD sd,.int q,.tup (gs.map D.int)]∧gs.length≤60∧sd.held.length=gs.length∧0<sd.bot∧sd.bot<2 ^ 9000∧sd.held.Nodup∧q∉sd.held ∧
  ∀ qs:List (Int × Int),qs.Perm (shP sd gs++[(q,shD sd gs)])→qs.Pairwise (fun a b=>a.1<b.1)→R (.tup [.str "none",.tup (qs.map prD)])
theorem qd7 {n:Nat} {f:Addr} {fd:FuncData} (F:Fun K "none_ending" "none_ending" qbK f fd) {C_Stand:Addr} (T_Stand:TxtStand K mg C_Stand) (Q_in_lowest:Cl P w K mg base n "in_lowest" ["pairs","bottom"] qcC) (Q_fallen:Cl P w K mg base n "fallen" ["stand","grown"] qeJ) (z_tuple:mg "tuple"=none) (z_sorted:mg "sorted"=none):FnOk P w K mg base CX0 (n+1) f fd ["stand","number","grown"] (lSp K qcL):=by
  refine F.okD sc_none_ending (fun ds R h=>?_) (fun cdv A outer s H E ds R hr h=>?_)
  · obtain ⟨sd,qn,gs,rfl,_⟩:=h;rfl
  obtain ⟨sd,qn,gs,rfl,hl,hh,b0,b1,hn,hq,q⟩:=h
  refine ⟨_,(qaj (qau (i:=3) sc_none_ending.nd rfl (Or.inl rfl) (qaq Q_in_lowest hr rfl (qab (qaq Q_fallen hr rfl (qab (dv 0) (qab (dv 2) qak qaa) qaa) qaa (qae qaa qaf)) (qab (qb2 T_Stand.cl T_Stand.n_bottom T_Stand.ns (dvq 0)) qak qat) qam) qam (qae qat qaf)))
      (qas (qaM (qbe (qab qbo (qab (qaH qaS rfl z_tuple PyProof.Rows.boot_tuple (qar (PD.q (qaK qeL rfl z_sorted PyProof.Rows.boot_sorted (qar (PD.q (qaI qbv (PD.q (qaO (dvq 3) (PD.q qah) (fun _ _=>rfl))) (PD.q (PF.d (qbm (qab (qbe (qab (dv 1) (qab (qaO (dvq 3) (PD.q qah) (fun _ _=>rfl)) qak qac) qaa)) qak qby)))))) qaB qay) qay qaf)) qaB qam) qam qaf) qak qam) qai))))),?_⟩
  have l1:=qcK sd gs
  refine ⟨sd,gs,rfl,by omega,hh,rfl,_,qdS sd,qbF sd gs,sd.bot,rfl,b0,b1,by omega,?_⟩
  refine ⟨_,rfl,_,rfl,?_,_,rfl,?_⟩
  · rw [List.length_map]
    show (shP sd gs).length+1≤sizeLine
    have:=qc7 sd gs
    exact Nat.le_of_lt (qap (by omega))
  refine ⟨shP sd gs++[(qn,shD sd gs)],by rw [List.map_append];rfl,?_,qcN ?_,fun qs hp hs=>q qs hp hs⟩
  · rw [List.length_append]
    have:=qc7 sd gs
    show (shP sd gs).length+1<64
    omega
  · rw [List.map_append]
    refine List.nodup_append.mpr ⟨qcY hh hn,by simp,fun a ha b hb e=>?_⟩
    have hb':b=qn:=by simpa using hb
    rw [e,hb'] at ha
    rw [qf9] at ha
    obtain ⟨i,hi,e2⟩:=List.mem_map.mp ha
    have li:=List.mem_range.mp (List.mem_filter.mp hi).1
    exact hq (by rw [← e2];exact qaD (by omega))
def qcP:SpD:=fun ds R=>∃ (sd:Std) (gs:List Int),ds=[stD sd,.tup (gs.map D.int)]∧gs.length≤60∧sd.held.length=gs.length∧0<sd.bot∧sd.bot<2 ^ 9000∧sd.held.Nodup∧sd.tops.length≤1000 ∧
  ∀ qs:List (Int × Int),qs.Perm (shP sd gs)→qs.Pairwise (fun a b=>a.1<b.1)→R (.tup [.str "best",qa3 (qhe sd.tops sd.bot),.tup (qs.map prD),.int (shD sd gs)])
theorem qd8 {n:Nat} {f:Addr} {fd:FuncData} (F:Fun K "best_ending" "best_ending" qbH f fd) {C_Stand:Addr} (T_Stand:TxtStand K mg C_Stand) (Q_in_lowest:Cl P w K mg base n "in_lowest" ["pairs","bottom"] qcC) (Q_fallen:Cl P w K mg base n "fallen" ["stand","grown"] qeJ) (Q_lowest:Cl P w K mg base n "lowest" ["tops","bottom"] qdu) (z_tuple:mg "tuple"=none) (z_sorted:mg "sorted"=none):FnOk P w K mg base CX0 (n+1) f fd ["stand","grown"] (lSp K qcP):=by
  refine F.okD sc_best_ending (fun ds R h=>?_) (fun cdv A outer s H E ds R hr h=>?_)
  · obtain ⟨sd,gs,rfl,_⟩:=h;rfl
  obtain ⟨sd,gs,rfl,hl,hh,b0,b1,hn,tl,q⟩:=h
  refine ⟨_,(qaj (qau (i:=2) sc_best_ending.nd rfl (Or.inl rfl) (qaq Q_in_lowest hr rfl (qab (qaq Q_fallen hr rfl (qab (dv 0) (qab (dv 1) qak qaa) qaa) qaa (qae qaa qaf)) (qab (qb2 T_Stand.cl T_Stand.n_bottom T_Stand.ns (dvq 0)) qak qat) qam) qam (qae qat qaf)))
      (qas (qaM (qbe (qab qbo (qab (qaq Q_lowest hr rfl (qab (qb2 T_Stand.cl T_Stand.n_tops T_Stand.ns (dvq 0)) (qab (qb2 T_Stand.cl T_Stand.n_bottom T_Stand.ns (dvq 0)) qak qat) qat) qat (qae qat qaf)) (qab (qaH qaS rfl z_tuple PyProof.Rows.boot_tuple (qar (PD.q (qaK qeL rfl z_sorted PyProof.Rows.boot_sorted (qar (PD.q (qaO (dvq 2) (PD.q qah) (fun _ _=>rfl))) qaB qac) qac qaf)) qaB qam) qam qaf) (qab (qaO (dvq 2) (PD.q qah) (fun _ _=>rfl)) qak qac) qam) qam) qai))))),?_⟩
  have l1:=qcK sd gs
  have l2:=qc7 sd gs
  refine ⟨sd,gs,rfl,by omega,hh,rfl,_,qdS sd,qbF sd gs,sd.bot,rfl,b0,b1,by omega,?_⟩
  refine ⟨rfl,_,qe1 sd,rfl,_,qdS sd,sd.tops,sd.bot,rfl,b0,b1,tl,?_⟩
  refine ⟨_,rfl,shP sd gs,rfl,by omega,qcN (qcY hh hn),fun qs hp hs=>⟨_,rfl,q qs hp hs⟩⟩
def aL (rs:List Row):Wk.Mx:=fun r j=>((qad rs (r:Int)).1).getD j 0
def BL (rs:List Row):Nat→Int:=fun r=>(qad rs (r:Int)).2
def cL (goal:List Int):Nat→Int:=fun j=>goal.getD j 0
def sdL (sd:Std):Wk.Sd:=⟨fun k=>(sd.held.getD k 0).toNat,fun k i=>(sd.ways.getD k []).getD i 0,fun i=>sd.tops.getD i 0,sd.bot⟩
structure Wf (rs:List Row) (n:Nat) (sd:Std):Prop where
  hl:sd.held.length=n
  h0:∀ k∈sd.held,0≤k
  wl:sd.ways.length=n
  ww:∀ w∈sd.ways,w.length=n
  tl:sd.tops.length=n
  ok:Wk.Ok n (aL rs) (BL rs) rs.length (sdL sd)
structure RsW (rs:List Row) (n:Nat):Prop where
  len:∀ r∈rs,r.1.length=n
  eb:∀ r∈rs,∀ x∈r.1,x.natAbs≤2 ^ 900
  bb:∀ r∈rs,r.2.natAbs≤2 ^ 900
  n8:n≤8
  nM:n≤rs.length
  M1:rs.length≤1000
theorem qgx (f:Nat→Int):∀ n:Nat,Wk.sm (n+1) f=f 0+Wk.sm n (fun i=>f (i+1))
  | 0=>by show 0+f 0=f 0+0;omega
  | n+1=>by
    have:=qgx f n
    show Wk.sm (n+1) f+f (n+1)=f 0+(Wk.sm n (fun i=>f (i+1))+f (n+1))
    omega
theorem qfC:∀ {n:Nat} {xs ys:List Int},xs.length=n→ys.length=n→dot xs ys=Wk.dt n (fun i=>xs.getD i 0) (fun i=>ys.getD i 0)
  | 0,[],[],_,_=>rfl
  | n+1,x::xs,y::ys,h1,h2=>by
    have ih:=qfC (n:=n) (xs:=xs) (ys:=ys) (by simpa using h1) (by simpa using h2)
    have e:dot (x::xs) (y::ys)=x*y+dot xs ys:=by unfold dot;rw [List.zipWith_cons_cons,List.sum_cons]
    rw [e,ih]
    unfold Wk.dt
    rw [qgx]
    rfl
theorem qcH {rs:List Row} {q:Int} (h:0≤q):qad rs ((q.toNat:Nat):Int)=qad rs q:=by
  have:((q.toNat:Nat):Int)=q:=by omega
  rw [this]
theorem qkJ {rs:List Row} {n:Nat} {sd:Std} (hf:Wf rs n sd) (hr:RsW rs n) {q:Int} (h0:0≤q) (h1:q<rs.length) {k:Nat} (hk:k<n):dot (qad rs q).1 (sd.ways.getD k [])=Wk.gr n (aL rs) (sdL sd) q.toNat k:=by
  have e:=qfC (hr.len _ (qa6 h0 h1)) (hf.ww _ (qaD (d:=[]) (show k<sd.ways.length by rw [hf.wl];exact hk)))
  rw [e]
  unfold Wk.gr aL sdL
  rw [qcH h0]
theorem qjn {rs:List Row} {n:Nat} {sd:Std} (hf:Wf rs n sd) (hr:RsW rs n) {q:Int} (h0:0≤q) (h1:q<rs.length):ovL (qad rs q) sd=Wk.ov n (aL rs) (BL rs) (sdL sd) q.toNat:=by
  unfold ovL Wk.ov BL
  rw [qfC (hr.len _ (qa6 h0 h1)) hf.tl,qcH h0]
  unfold aL sdL
  rw [qcH h0]
theorem c_L {rs:List Row} {n:Nat} {sd:Std} (hf:Wf rs n sd) {goal:List Int} (hg:goal.length=n) {k:Nat} (hk:k<n):dot goal (sd.ways.getD k [])=Wk.dt n (cL goal) ((sdL sd).W k):=qfC hg (hf.ww _ (qaD (d:=[]) (show k<sd.ways.length by rw [hf.wl];exact hk)))
theorem qfZ {f:Int→Int→Int} {xs ys:List Int} {i:Nat} (h1:i<xs.length) (h2:i<ys.length):(List.zipWith f xs ys).getD i 0=f (xs.getD i 0) (ys.getD i 0):=by
  rw [List.getD_eq_getElem?_getD,List.getElem?_zipWith,qaR (d:=0) h1,qaR (d:=0) h2]
  rfl
theorem qaZ {α:Type} {xs:List α} {i:Nat} {d:α} (h:xs.length≤i):xs.getD i d=d:=by rw [List.getD_eq_getElem?_getD,List.getElem?_eq_none h];rfl
theorem qkl (n:Nat) (x:Nat→Int):Wk.dt n x (fun _=>0)=0:=by
  unfold Wk.dt
  have e:(fun i=>x i*(0:Int))=fun _=>0:=by funext i;exact Int.mul_zero _
  rw [e]
  exact Wk.sm_zero n
theorem qdc {sd:Std} {r:Row} {p:Nat}:(wyL sd r p).length=(sd.ways.getD p []).length:=by
  unfold wyL
  split
  · rw [List.length_map]
  · rfl
theorem qkm {rs:List Row} {n:Nat} {sd:Std} (hf:Wf rs n sd) (hr:RsW rs n) {p:Nat} {q:Int} (hp:p<n) (h0:0≤q) (h1:q<rs.length):sdL (exL (qad rs q) sd p q)=Wk.pv n (aL rs) (BL rs) (sdL sd) p q.toNat:=by
  have hpw:p<sd.ways.length:=by rw [hf.wl];exact hp
  have hlp:(sd.ways.getD p []).length=n:=hf.ww _ (qaD hpw)
  have hgr:∀ k,k<n→dot (qad rs q).1 (sd.ways.getD k [])=Wk.gr n (aL rs) (sdL sd) q.toNat k:=fun k hk=>qkJ hf hr h0 h1 hk
  have hov:=qjn hf hr h0 h1
  have hsz:szL sd (qad rs q) p=((Wk.gr n (aL rs) (sdL sd) q.toNat p).natAbs:Int):=by rw [qh6,hgr p hp]
  have hwy:∀ i,(wyL sd (qad rs q) p).getD i 0=Wk.wy n (aL rs) (sdL sd) p q.toNat i:=fun i=>by
    unfold wyL Wk.wy
    rw [hgr p hp]
    by_cases c:Wk.gr n (aL rs) (sdL sd) q.toNat p<0
    · rw [if_pos c,if_pos c]
      show _ = - (sd.ways.getD p []).getD i 0
      by_cases hi:i<(sd.ways.getD p []).length
      · rw [List.getD_eq_getElem?_getD,List.getElem?_map,qaR (d:=0) hi]
        rfl
      · rw [qaZ (by rw [List.length_map];omega),qaZ (by omega)]
        rfl
    · rw [if_neg c,if_neg c]
      rfl
  have wyo:∀ i,n≤i→Wk.wy n (aL rs) (sdL sd) p q.toNat i=0:=fun i hi=>by
    rw [← hwy,qaZ]
    rw [qdc,hlp];exact hi
  have hmv:∀ (sh:Int) (xs:List Int) (i:Nat),xs.length=n→(mvL (szL sd (qad rs q) p) sh sd.bot xs (wyL sd (qad rs q) p)).getD i 0=(((Wk.gr n (aL rs) (sdL sd) q.toNat p).natAbs:Int)*xs.getD i 0 - sh*Wk.wy n (aL rs) (sdL sd) p q.toNat i) / sd.bot:=fun sh xs i hx=>by
    unfold mvL
    by_cases hi:i<n
    · rw [qfZ (by omega) (by rw [qdc,hlp];exact hi),hwy,hsz]
    · rw [qaZ (by rw [List.length_zipWith,qdc,hlp,hx];omega),wyo i (by omega),qaZ (by omega),Int.mul_zero,Int.mul_zero]
      simp
  have nz:∀ k,n≤k→∀ i,(sdL sd).W k i=0:=fun k hk i=>by
    show (sd.ways.getD k []).getD i 0=0
    rw [qaZ (d:=[]) (by rw [hf.wl];exact hk)]
    rfl
  have eh:(sdL (exL (qad rs q) sd p q)).h=(Wk.pv n (aL rs) (BL rs) (sdL sd) p q.toNat).h:=by
    funext k
    show (((List.range sd.ways.length).map fun o=>if o=p then q else sd.held.getD o 0).getD k 0).toNat=if k=p then q.toNat else (sd.held.getD k 0).toNat
    by_cases hk:k<n
    · rw [List.getD_eq_getElem?_getD,List.getElem?_map,List.getElem?_range (by rw [hf.wl];exact hk)]
      show (if k=p then q else sd.held.getD k 0).toNat=_
      split <;> rfl
    · rw [qaZ (by rw [List.length_map,List.length_range,hf.wl];omega),if_neg (by omega),qaZ (by rw [hf.hl];omega)]
  have eW:(sdL (exL (qad rs q) sd p q)).W=(Wk.pv n (aL rs) (BL rs) (sdL sd) p q.toNat).W:=by
    funext k i
    show (((List.range sd.ways.length).map fun o=>if o=p then wyL sd (qad rs q) p else mvL (szL sd (qad rs q) p) (dot (qad rs q).1 (sd.ways.getD o [])) sd.bot (sd.ways.getD o []) (wyL sd (qad rs q) p)).getD k []).getD i 0 =
      if k=p then Wk.wy n (aL rs) (sdL sd) p q.toNat i else (((Wk.gr n (aL rs) (sdL sd) q.toNat p).natAbs:Int)*(sdL sd).W k i - Wk.gr n (aL rs) (sdL sd) q.toNat k*Wk.wy n (aL rs) (sdL sd) p q.toNat i) / sd.bot
    by_cases hk:k<n
    · have e:((List.range sd.ways.length).map fun o=>if o=p then wyL sd (qad rs q) p else mvL (szL sd (qad rs q) p) (dot (qad rs q).1 (sd.ways.getD o [])) sd.bot (sd.ways.getD o []) (wyL sd (qad rs q) p)).getD k []=if k=p then wyL sd (qad rs q) p else mvL (szL sd (qad rs q) p) (dot (qad rs q).1 (sd.ways.getD k [])) sd.bot (sd.ways.getD k []) (wyL sd (qad rs q) p):=by
        rw [List.getD_eq_getElem?_getD,List.getElem?_map,List.getElem?_range (by rw [hf.wl];exact hk)]
        rfl
      rw [e]
      by_cases c:k=p
      · rw [if_pos c,if_pos c,hwy]
      · rw [if_neg c,if_neg c,hmv _ _ i (hf.ww _ (qaD (by rw [hf.wl];exact hk))),hgr k hk]
        rfl
    · rw [qaZ (d:=[]) (by rw [List.length_map,List.length_range,hf.wl];omega),if_neg (by omega),nz k (by omega)]
      have e:Wk.gr n (aL rs) (sdL sd) q.toNat k=0:=by
        unfold Wk.gr
        have:(sdL sd).W k=fun _=>0:=by funext i;exact nz k (by omega) i
        rw [this]
        exact qkl n _
      rw [e,Int.mul_zero,Int.zero_mul]
      simp
  have ex:(sdL (exL (qad rs q) sd p q)).x=(Wk.pv n (aL rs) (BL rs) (sdL sd) p q.toNat).x:=by
    funext i
    show (mvL (szL sd (qad rs q) p) (ovL (qad rs q) sd) sd.bot sd.tops (wyL sd (qad rs q) p)).getD i 0=_
    rw [hmv _ _ i hf.tl,hov]
    rfl
  have eb:(sdL (exL (qad rs q) sd p q)).b=(Wk.pv n (aL rs) (BL rs) (sdL sd) p q.toNat).b:=hsz
  generalize sdL (exL (qad rs q) sd p q)=S at *
  generalize Wk.pv n (aL rs) (BL rs) (sdL sd) p q.toNat=T at *
  cases S
  cases T
  simp only at eh eW ex eb
  rw [eh,eW,ex,eb]
theorem Wf.ex {rs:List Row} {n:Nat} {sd:Std} (hf:Wf rs n sd) (hr:RsW rs n) {p:Nat} {q:Int} (hp:p<n) (h0:0≤q) (h1:q<rs.length) (hg:Wk.gr n (aL rs) (sdL sd) q.toNat p≠0):Wf rs n (exL (qad rs q) sd p q):=by
  have hlp:(sd.ways.getD p []).length=n:=hf.ww _ (qaD (by rw [hf.wl];exact hp))
  refine ⟨?_,fun k hk=>?_,?_,fun w hw=>?_,?_,?_⟩
  · show ((List.range _).map _).length=n
    rw [List.length_map,List.length_range,hf.wl]
  · obtain ⟨o,ho,rfl⟩:=List.mem_map.mp (show k∈(List.range _).map _ from hk)
    have lo:=List.mem_range.mp ho
    split
    · exact h0
    · exact hf.h0 _ (qaD (by rw [hf.hl,← hf.wl];exact lo))
  · show ((List.range _).map _).length=n
    rw [List.length_map,List.length_range,hf.wl]
  · obtain ⟨o,ho,rfl⟩:=List.mem_map.mp (show w∈(List.range _).map _ from hw)
    have lo:=List.mem_range.mp ho
    split
    · rw [qdc,hlp]
    · unfold mvL
      rw [List.length_zipWith,qdc,hlp,hf.ww _ (qaD lo)]
      omega
  · show (mvL _ _ _ _ _).length=n
    unfold mvL
    rw [List.length_zipWith,qdc,hlp,hf.tl]
    omega
  · rw [qkm hf hr hp h0 h1]
    exact (hf.ok.pv_all hp (by omega) hg).1
theorem qcI {a b:Nat} (h:a≤b):2 ^ a≤2 ^ b:=Nat.pow_le_pow_right (by decide) h
theorem qba {x:Int} {m:Nat} (h:x.natAbs≤2 ^ m) (hm:m<60000):qco x:=Nat.lt_of_le_of_lt h (Nat.pow_lt_pow_right (by decide) hm)
theorem qhI {n:Nat} (h:n≤8):(8*2 ^ 900) ^ n≤2 ^ 7224:=by
  have e:8*2 ^ 900=2 ^ 903:=by rw [show (8:Nat)=2 ^ 3 by decide,← Nat.pow_add]
  rw [e,← Nat.pow_mul]
  exact qcI (by omega)
theorem qhy {n a b:Nat} {x y:Nat→Int} (hn:n≤8) (hx:∀ i,i<n→(x i).natAbs≤2 ^ a) (hy:∀ i,i<n→(y i).natAbs≤2 ^ b):(Wk.dt n x y).natAbs≤2 ^ (a+b+3):=by
  have h:=Wk.sm_abs (E:=2 ^ (a+b)) (n:=n) (f:=fun i=>x i*y i) fun i hi=>by
    show (x i*y i).natAbs≤_
    rw [Int.natAbs_mul,Nat.pow_add]
    exact Nat.mul_le_mul (hx i hi) (hy i hi)
  refine Nat.le_trans h (Nat.le_trans (Nat.mul_le_mul_right _ hn) ?_)
  rw [show (8:Nat)=2 ^ 3 by decide,← Nat.pow_add]
  exact qcI (by omega)
theorem qmR {rs:List Row} {n:Nat} (hr:RsW rs n) {r:Nat} (h:r<rs.length) (j:Nat):(aL rs r j).natAbs≤2 ^ 900:=by
  unfold aL
  by_cases c:j<(qad rs (r:Int)).1.length
  · exact hr.eb _ (qa6 (by omega) (by omega)) _ (qaD c)
  · rw [qaZ (by omega)]
    exact Nat.zero_le _
structure Sz (rs:List Row) (n:Nat) (sd:Std):Prop where
  b0:0<sd.bot
  b:sd.bot.natAbs≤2 ^ 7224
  w:∀ w∈sd.ways,∀ x∈w,x.natAbs≤2 ^ 7224
  t:∀ x∈sd.tops,x.natAbs≤2 ^ 8127
theorem Wf.sz {rs:List Row} {n:Nat} {sd:Std} (hf:Wf rs n sd) (hr:RsW rs n):Sz rs n sd:=by
  obtain ⟨e,he,hb,hw⟩:=hf.ok.eps
  have ea:∀ z:Int,(e*z).natAbs=z.natAbs:=fun z=>by rcases he with h | h <;> rw [h] <;> omega
  have hW:∀ k i,k<n→i<n→((sdL sd).W k i).natAbs≤2 ^ 7224:=fun k i hk hi=>by
    rw [hw k i hk hi,ea]
    refine Nat.le_trans (Wk.det_abs (E:=2 ^ 900) (N:=8) hr.n8 fun l j hl hj=>?_) (qhI hr.n8)
    unfold Wk.up
    split
    · unfold Wk.un
      split
      · exact Nat.one_le_two_pow
      · exact Nat.zero_le _
    · exact qmR hr (hf.ok.lt l hl) j
  have mem:∀ {α:Type} {l:List α} {x:α} (d:α),x∈l→∃ i,i<l.length∧l.getD i d=x:=fun {α l x} d hx=>by
    obtain ⟨i,hi⟩:=List.getElem?_of_mem hx
    exact ⟨i,qaF hi,by rw [List.getD_eq_getElem?_getD,hi];rfl⟩
  refine ⟨hf.ok.pos,?_,fun w hw' x hx=>?_,fun x hx=>?_⟩
  · show (sdL sd).b.natAbs≤_
    rw [hb,ea]
    exact Nat.le_trans (Wk.det_abs (E:=2 ^ 900) (N:=8) hr.n8 fun l j hl hj=>qmR hr (hf.ok.lt l hl) j) (qhI hr.n8)
  · obtain ⟨k,hk,rfl⟩:=mem [] hw'
    obtain ⟨i,hi,rfl⟩:=mem 0 hx
    rw [hf.wl] at hk
    rw [hf.ww _ (qaD (by rw [hf.wl];exact hk))] at hi
    exact hW k i hk hi
  · obtain ⟨i,hi,rfl⟩:=mem 0 hx
    rw [hf.tl] at hi
    have h1:=hf.ok.cor i hi
    show ((sdL sd).x i).natAbs≤_
    rw [h1]
    have:=qhy (n:=n) (a:=900) (b:=7224) (x:=fun k=>BL rs ((sdL sd).h k)) (y:=fun k=>(sdL sd).W k i) hr.n8 (fun k hk=>hr.bb _ (qa6 (by omega) (by have:=hf.ok.lt k hk;omega))) fun k hk=>hW k i hk hi
    exact this
theorem qid {xs:List Int} {m:Nat} (h:∀ x∈xs,x.natAbs≤2 ^ m) (i:Nat):(xs.getD i 0).natAbs≤2 ^ m:=by
  by_cases c:i<xs.length
  · exact h _ (qaD c)
  · rw [qaZ (by omega)];exact Nat.zero_le _
theorem qd1 {n a b:Nat} {xs ys:List Int} (hn:n≤8) (h1:xs.length=n) (h2:ys.length=n) (hx:∀ x∈xs,x.natAbs≤2 ^ a) (hy:∀ y∈ys,y.natAbs≤2 ^ b):(dot xs ys).natAbs≤2 ^ (a+b+3):=by
  rw [qfC h1 h2]
  exact qhy hn (fun i _=>qid hx i) fun i _=>qid hy i
theorem qjF {rs:List Row} {n:Nat} {sd:Std} (hf:Wf rs n sd) (hr:RsW rs n) {r:Row} (hm:r∈rs):(ovL r sd).natAbs≤2 ^ 9031:=by
  have z:=hf.sz hr
  have h1:=qd1 hr.n8 (hr.len r hm) hf.tl (hr.eb r hm) z.t
  have h2:(r.2*sd.bot).natAbs≤2 ^ (900+7224):=by
    rw [Int.natAbs_mul,Nat.pow_add]
    exact Nat.mul_le_mul (hr.bb r hm) z.b
  unfold ovL
  have h3:=qcI (a:=900+7224) (b:=9030) (by decide)
  have e:2 ^ 9031=2 ^ 9030+2 ^ 9030:=by rw [show (9031:Nat)=9030+1 by rfl,Nat.pow_succ,Nat.mul_two]
  have h4:(dot r.1 sd.tops).natAbs≤2 ^ 9030:=h1
  have h5:=Nat.le_trans h2 h3
  rw [e]
  generalize 2 ^ 9030=z at *
  omega
theorem Wf.nd {rs:List Row} {n:Nat} {sd:Std} (hf:Wf rs n sd):sd.held.Nodup:=by
  rw [List.nodup_iff_pairwise_ne,List.pairwise_iff_getElem]
  intro i j hi hj hij e
  have e1:sd.held.getD i 0=sd.held.getD j 0:=by
    rw [List.getD_eq_getElem?_getD,List.getD_eq_getElem?_getD,qaA hi,qaA hj]
    exact e
  have:=hf.ok.inj (k:=i) (l:=j) (by rw [← hf.hl];exact hi) (by rw [← hf.hl];exact hj) (by show (sd.held.getD i 0).toNat=(sd.held.getD j 0).toNat;rw [e1])
  omega
theorem Wf.heldNat {rs:List Row} {n:Nat} {sd:Std} (hf:Wf rs n sd) {k:Nat} (hk:k<n):((sdL sd).h k:Int)=sd.held.getD k 0:=by
  have:=hf.h0 _ (qaD (d:=0) (show k<sd.held.length by rw [hf.hl];exact hk))
  show (((sd.held.getD k 0).toNat:Nat):Int)=_
  omega
theorem Wf.notheld {rs:List Row} {n:Nat} {sd:Std} (hf:Wf rs n sd) {q:Int} (h0:0≤q) (h:¬ Wk.In n (sdL sd) q.toNat):q∉sd.held:=fun hm=>by
  obtain ⟨i,hi⟩:=List.getElem?_of_mem hm
  have il:i<n:=by rw [← hf.hl];exact qaF hi
  refine h ⟨i,il,?_⟩
  show (sd.held.getD i 0).toNat=q.toNat
  rw [List.getD_eq_getElem?_getD,hi]
  rfl
theorem Wf.big {rs:List Row} {n:Nat} {sd:Std} (hf:Wf rs n sd) (hr:RsW rs n):StB sd:=by
  have z:=hf.sz hr
  have:=hr.n8
  exact ⟨by rw [hf.hl];omega,by rw [hf.wl];omega,fun w hw x hx=>qba (z.w w hw x hx) (by decide),fun x hx=>qba (z.t x hx) (by decide),qba z.b (by decide)⟩
theorem RsW.big {rs:List Row} {n:Nat} (hr:RsW rs n):RsB rs:=fun r h=>by
  have:=hr.n8
  exact ⟨by rw [hr.len r h];omega,fun x hx=>qba (hr.eb r h x hx) (by decide),qba (hr.bb r h) (by decide)⟩
theorem Sz.b9 {rs:List Row} {n:Nat} {sd:Std} (z:Sz rs n sd):sd.bot<2 ^ 9000:=by
  have h1:=z.b
  have h2:(2:Nat) ^ 7224<2 ^ 9000:=Nat.pow_lt_pow_right (by decide) (by decide)
  have h3:sd.bot.natAbs<2 ^ 9000:=Nat.lt_of_le_of_lt h1 h2
  have h4:=z.b0
  have h5:((sd.bot.natAbs:Nat):Int)<((2 ^ 9000:Nat):Int):=by exact_mod_cast h3
  have h6:((2 ^ 9000:Nat):Int)=2 ^ 9000:=by rw [Int.natCast_pow];rfl
  rw [h6] at h5
  omega
def gsL (sd:Std) (es:List Int):List Int:=sd.ways.map fun w=>dot es w
def qbh (M:Nat):List Int:=(List.range M).map fun (i:Nat)=>(i:Int)
theorem qdt {M i:Nat} {k:Int} (h:(qbh M)[i]?=some k):k=(i:Int)∧i<M:=by
  unfold qbh at h
  rw [List.getElem?_map] at h
  by_cases c:i<M
  · rw [List.getElem?_range c] at h
    cases h
    exact ⟨rfl,c⟩
  · rw [List.getElem?_eq_none (by rw [List.length_range];omega)] at h
    cases h
theorem qcO {M i:Nat} (h:i<M):(qbh M)[i]?=some (i:Int):=by
  unfold qbh
  rw [List.getElem?_map,List.getElem?_range h]
  rfl
theorem qhs {M:Nat} {k:Int} (h:k∈qbh M):0≤k∧k<M:=by
  obtain ⟨i,hi⟩:=List.getElem?_of_mem h
  obtain ⟨e,l⟩:=qdt hi
  omega
theorem qis (M:Nat):(qbh M).length=M:=by unfold qbh;rw [List.length_map,List.length_range]
def Miss (rs:List Row) (sd:Std) (q:Int):Prop:=(0≤q∧q<rs.length)∧ovL (qad rs q) sd<0∧∀ r:Int,0≤r→r<q→0≤ovL (qad rs r) sd
def Met (rs:List Row) (sd:Std):Prop:=∀ r:Int,0≤r→r<rs.length→0≤ovL (qad rs r) sd
def qeU (p:Nat) (q:Int):D:=.tup [.str "step",.int (p:Int),.int q]
def qmy (qs:List (Int × Int)):D:=.tup [.str "none",.tup (qs.map prD)]
def qmv (pt:Row) (qs:List (Int × Int)) (d:Int):D:=.tup [.str "best",qa3 pt,.tup (qs.map prD),.int d]
def qmn (pt:Row) (ray:List Int):D:=.tup [.str "endless",qa3 pt,.tup (ray.map D.int)]
inductive Nxt (rs:List Row) (goal:List Int) (sd:Std):D→Prop
  | stepA (q:Int) (p:Nat):Miss rs sd q→Lg sd (gsL sd (qad rs q).1) (some p)→Nxt rs goal sd (qeU p q)
  | non (q:Int) (qs:List (Int × Int)):Miss rs sd q→Lg sd (gsL sd (qad rs q).1) none→qs.Perm (shP sd (gsL sd (qad rs q).1)++[(q,shD sd (gsL sd (qad rs q).1))])→qs.Pairwise (fun a b=>a.1<b.1)→Nxt rs goal sd (qmy qs)
  | best (qs:List (Int × Int)):Met rs sd→Lg sd (gsL sd goal) none→qs.Perm (shP sd (gsL sd goal))→qs.Pairwise (fun a b=>a.1<b.1)→Nxt rs goal sd (qmv (qhe sd.tops sd.bot) qs (shD sd (gsL sd goal)))
  | endl (p:Nat):Met rs sd→Lg sd (gsL sd goal) (some p)→Stop rs (qbh rs.length) sd (sd.ways.getD p []) rs.length none→Nxt rs goal sd (qmn (qhe sd.tops sd.bot) ((sd.ways.getD p []).map (· / qa9 (sd.ways.getD p []))))
  | stepB (q:Int) (p:Nat):Met rs sd→Lg sd (gsL sd goal) (some p)→Stop rs (qbh rs.length) sd (sd.ways.getD p []) rs.length (some q)→Nxt rs goal sd (qeU p q)
theorem qdk {sd:Std} {es:List Int} {k:Nat} (h:k<sd.ways.length):(gsL sd es).getD k 0=dot es (sd.ways.getD k []):=by
  unfold gsL
  rw [List.getD_eq_getElem?_getD,List.getElem?_map,qaR (d:=[]) h]
  rfl
theorem qaU (sd:Std) (es:List Int):(gsL sd es).length=sd.ways.length:=by unfold gsL;rw [List.length_map]
theorem qik {xs ys:List Int} (h:∀ y∈ys,y=0):dot xs ys=0:=by
  unfold dot
  induction xs generalizing ys with
  | nil=>rfl
  | cons x xs ih =>
    cases ys with
    | nil=>rfl
    | cons y ys =>
      rw [List.zipWith_cons_cons,List.sum_cons,ih fun z hz=>h z (List.mem_cons_of_mem _ hz),h y List.mem_cons_self]
      omega
abbrev qhv (goal:List Int) (m:Nat):Prop:=goal.length=m∧∀ x∈goal,x.natAbs≤2 ^ 900
def qdW:SpD:=fun ds R=>∃ (rs:List Row) (goal:List Int) (m:Nat) (sd:Std),ds=[.tup (rs.map qa3),.tup ((qbh rs.length).map D.int),.tup (goal.map D.int),stD sd]∧RsW rs m∧Wf rs m sd∧qhv goal m∧∀ d,Nxt rs goal sd d→R d
theorem qfu {n:Nat} {f:Addr} {fd:FuncData} (F:Fun K "next_step" "next_step" qca f fd) {C_Stand:Addr} (T_Stand:TxtStand K mg C_Stand) (Q_missed_row:Cl P w K mg base n "missed_row" ["rows","numbers","stand"] qdd) (Q_growths:Cl P w K mg base n "growths" ["stand","entries"] qdM) (Q_least_grown:Cl P w K mg base n "least_grown" ["stand","grown"] qcV) (Q_stopping_row:Cl P w K mg base n "stopping_row" ["rows","numbers","stand","way"] qcw) (Q_best_ending:Cl P w K mg base n "best_ending" ["stand","grown"] qcP) (Q_endless_ending:Cl P w K mg base n "endless_ending" ["stand","way"] qcc) (Q_none_ending:Cl P w K mg base n "none_ending" ["stand","number","grown"] qcL):FnOk P w K mg base CX0 (n+1) f fd ["rows","numbers","goal","stand"] (lSp K qdW):=by
  refine F.okD sc_next_step (fun ds R h=>?_) (fun cdv A outer s H E ds R hr h=>?_)
  · obtain ⟨rs,goal,m,sd,rfl,_⟩:=h;rfl
  obtain ⟨rs,goal,m,sd,rfl,hrw,hf,⟨hgl,hgb⟩,q⟩:=h
  refine ⟨_,(qaj (qau (i:=4) sc_next_step.nd rfl (Or.inl rfl) (qaq Q_missed_row hr rfl (qab (dv 0) (qab (dv 1) (qab (dv 3) qak qaa) qaa) qaa) qaa (qae qaa (qae qaa qaf))))
      (qbL (qcp (qaQ qk2 (dvq 4) (PD.q qbX) (qaC _)) (qaj (qau (i:=5) sc_next_step.nd rfl (Or.inl rfl) (qaq Q_growths hr rfl (qab (dv 3) (qab (qaO (PD.q (qaO (dvq 0) (dvq 4) (fun _ _=>rfl))) (PD.q qah) (fun _ _=>rfl)) qak qac) qaa) qaa (qae qac qaf)))
      (qaj (qau (i:=6) sc_next_step.nd rfl (Or.inl rfl) (qaq Q_least_grown hr rfl (qab (dv 3) (qab (dv 5) qak qaa) qaa) qaa (qae qaa qaf)))
      (qbL (qcp (qaQ qjx (dvq 6) (PD.q qbX) (qaC _)) (qas (qaM (qaq Q_none_ending hr rfl (qab (dv 3) (qab (dv 4) (qab (dv 5) qak qaa) qaa) qaa) qaa (qae qaa (qae qaa qaf))))) qbd)
      (qas (qaM (qbe (qab qbo (qab (dv 6) (qab (dv 4) qak qaa) qaa) qai))))))) qbd)
      (qaj (qau (i:=7) sc_next_step.nd rfl (Or.inl rfl) (qaq Q_growths hr rfl (qab (dv 3) (qab (dv 2) qak qaa) qaa) qaa (qae qaa qaf)))
      (qaj (qau (i:=6) sc_next_step.nd rfl (Or.inl rfl) (qaq Q_least_grown hr rfl (qab (dv 3) (qab (dv 7) qak qaa) qaa) qaa (qae qaa qaf)))
      (qbL (qcp (qaQ qjx (dvq 6) (PD.q qbX) (qaC _)) (qas (qaM (qaq Q_best_ending hr rfl (qab (dv 3) (qab (dv 7) qak qaa) qaa) qaa (qae qaa qaf)))) qbd)
      (qaj (qau (i:=4) sc_next_step.nd rfl (Or.inl rfl) (qaq Q_stopping_row hr rfl (qab (dv 0) (qab (dv 1) (qab (dv 3) (qab (qaO (PD.q (qb2 T_Stand.cl T_Stand.n_ways T_Stand.ns (dvq 3))) (dvq 6) (fun _ _=>rfl)) qak qac) qaa) qaa) qaa) qaa (qae qaa (qae qaa (qae qac qaf)))))
      (qbL (qcp (qaQ qjx (dvq 4) (PD.q qbX) (qaC _)) (qas (qaM (qaq Q_endless_ending hr rfl (qab (dv 3) (qab (qaO (PD.q (qb2 T_Stand.cl T_Stand.n_ways T_Stand.ns (dvq 3))) (dvq 6) (fun _ _=>rfl)) qak qac) qaa) qaa (qae qac qaf)))) qbd)
      (qas (qaM (qbe (qab qbo (qab (dv 6) (qab (dv 4) qak qaa) qaa) qai))))))))))),?_⟩
  have z:=hf.sz hrw
  have n8:=hrw.n8
  have hbig:=hf.big hrw
  have hrb:=hrw.big
  have hns:∀ k∈qbh rs.length,0≤k∧k<(rs.length:Int):=fun k hk=>qhs hk
  have gb:∀ x∈goal,qco x:=fun x hx=>qba (hgb x hx) (by decide)
  have hw1:sd.ways.length=m:=hf.wl
  have hh1:=hf.hl
  refine ⟨rs,qbh rs.length,sd,rfl,hbig,hrb,hns,fun i k hk hov hpre=>?_,fun hall=>?_⟩
  · obtain ⟨rfl,hi⟩:=qdt hk
    have hms:Miss rs sd (i:Int):=⟨⟨by omega,by omega⟩,hov,fun r r0 r1=>by
      have:=hpre r.toNat r (by omega) (by rw [qcO (by omega)];congr 1;omega)
      exact this⟩
    have hrow:=hrb _ (qa6 (rs:=rs) (k:=(i:Int)) (by omega) (by omega))
    refine ⟨fun _=>False,⟨fun _=>?_,fun h=>(by cases h)⟩,fun _ h=>h.elim⟩
    refine ⟨_,qcz (by omega) (by omega),_,rfl,sd,(qad rs (i:Int)).1,rfl,hbig,hrow.1,hrow.2.1,?_⟩
    refine ⟨sd,gsL sd (qad rs (i:Int)).1,rfl,by rw [qaU];omega,by rw [qaU];omega,fun o ho=>?_⟩
    cases o with
    | none =>
      refine ⟨fun _=>False,⟨fun _=>?_,fun h=>(by cases h)⟩,fun _ h=>h.elim⟩
      have hnh:(i:Int)∉sd.held:=hf.notheld (by omega) fun hin=>by
        have e:=hf.ok.ov0 hin
        rw [← qjn hf hrw (by omega) (by omega)] at e
        omega
      exact ⟨sd,(i:Int),gsL sd (qad rs (i:Int)).1,rfl,by rw [qaU];omega,by rw [qaU];omega,z.b0,z.b9,hf.nd,hnh,fun qs hp hs=>q _ (.non _ qs hms ho hp hs)⟩
    | some p =>
      refine ⟨fun ρ=>ρ=[some (.v (.tup (rs.map qa3))),some (.v (.tup ((qbh rs.length).map D.int))),some (.v (.tup (goal.map D.int))),some (.v (stD sd)),some (.v (.int (i:Int))),some (.v (.tup ((gsL sd (qad rs (i:Int)).1).map D.int))),some (.v (.int (p:Int))),none],⟨fun h=>(by cases h),fun _=>rfl⟩,?_⟩
      rintro ρ rfl
      exact q _ (.stepA _ p hms ho)
  · have hmet:Met rs sd:=fun r r0 r1=>hall r (List.mem_of_getElem? (i:=r.toNat) (by rw [qcO (by omega)];congr 1;omega))
    refine ⟨fun ρ=>ρ=[some (.v (.tup (rs.map qa3))),some (.v (.tup ((qbh rs.length).map D.int))),some (.v (.tup (goal.map D.int))),some (.v (stD sd)),some (.v .non),none,none,none],⟨fun h=>(by cases h),fun _=>rfl⟩,?_⟩
    rintro ρ rfl
    refine ⟨sd,goal,rfl,hbig,by omega,gb,?_⟩
    refine ⟨sd,gsL sd goal,rfl,by rw [qaU];omega,by rw [qaU];omega,fun o ho=>?_⟩
    cases o with
    | none =>
      refine ⟨fun _=>False,⟨fun _=>?_,fun h=>(by cases h)⟩,fun _ h=>h.elim⟩
      exact ⟨sd,gsL sd goal,rfl,by rw [qaU];omega,by rw [qaU];omega,z.b0,z.b9,hf.nd,by rw [hf.tl];omega,fun qs hp hs=>q _ (.best qs hmet ho hp hs)⟩
    | some p =>
      refine ⟨fun ρ=>ρ=[some (.v (.tup (rs.map qa3))),some (.v (.tup ((qbh rs.length).map D.int))),some (.v (.tup (goal.map D.int))),some (.v (stD sd)),some (.v .non),none,some (.v (.int (p:Int))),some (.v (.tup ((gsL sd goal).map D.int)))],⟨fun h=>(by cases h),fun _=>rfl⟩,?_⟩
      rintro ρ rfl
      obtain ⟨hp1,hp2,hp3⟩:=id ho
      have hpl:p<sd.ways.length:=by rw [qaU] at hp1;exact hp1
      have hwp:=qaD (d:=[]) hpl
      have wat:atI (sd.ways.map wD) (p:Int)=some (wD (sd.ways.getD p [])):=qbr (i:=p) (qaR hpl) rfl
      have hwl:=hf.ww _ hwp
      refine ⟨rfl,_,qdX sd,_,wat,rs,qbh rs.length,sd,sd.ways.getD p [],rfl,hbig,hrb,hns,hbig.wb _ hwp,fun k hk=>?_,fun o2 ho2=>?_⟩
      · obtain ⟨k0,k1⟩:=hns k hk
        have hm:=qa6 k0 k1
        refine ⟨qba (qjF hf hrw hm) (by decide),?_⟩
        show (- dot (qad rs k).1 (sd.ways.getD p [])).natAbs<_
        rw [Int.natAbs_neg]
        exact qba (qd1 n8 (hrw.len _ hm) hwl (hrw.eb _ hm) (z.w _ hwp)) (by decide)
      · rw [qis] at ho2
        cases o2 with
        | none =>
          refine ⟨fun _=>False,⟨fun _=>?_,fun h=>(by cases h)⟩,fun _ h=>h.elim⟩
          have g0:0<qa9 (sd.ways.getD p []):=by
            have h1:=qc3 (sd.ways.getD p [])
            by_cases c:qa9 (sd.ways.getD p [])=0
            · have:=qd0 c
              rw [qdk hpl,qik this] at hp2
              omega
            · omega
          have g1:qa9 (sd.ways.getD p [])<2 ^ 9000:=by
            have h1:=qhB (ns:=sd.ways.getD p []) (m:=2 ^ 9000) (fun x hx=>Nat.lt_of_le_of_lt (z.w _ hwp x hx) (Nat.pow_lt_pow_right (by decide) (by decide))) (Nat.pow_pos (by decide))
            have h6:((2 ^ 9000:Nat):Int)=2 ^ 9000:=by rw [Int.natCast_pow];rfl
            rw [h6] at h1
            exact h1
          exact ⟨rfl,_,qdX sd,_,wat,sd,sd.ways.getD p [],rfl,by rw [hf.tl];omega,z.b0,z.b9,by omega,g0,g1,q _ (.endl p hmet ho ho2)⟩
        | some k =>
          refine ⟨fun ρ=>ρ=[some (.v (.tup (rs.map qa3))),some (.v (.tup ((qbh rs.length).map D.int))),some (.v (.tup (goal.map D.int))),some (.v (stD sd)),some (.v (.int k)),none,some (.v (.int (p:Int))),some (.v (.tup ((gsL sd goal).map D.int)))],⟨fun h=>(by cases h),fun _=>rfl⟩,?_⟩
          rintro ρ rfl
          exact q _ (.stepB k p hmet ho ho2)
def Few (rs:List Row) (m:Nat):Prop:=2 ^ rs.length≤8388608∨rs.length ^ m≤8388608
def StepOk (rs:List Row) (goal:List Int) (sd:Std) (p:Nat) (q:Int):Prop:=(Miss rs sd q∧Lg sd (gsL sd (qad rs q).1) (some p))∨(Met rs sd∧Lg sd (gsL sd goal) (some p)∧Stop rs (qbh rs.length) sd (sd.ways.getD p []) rs.length (some q))
inductive Run (rs:List Row) (goal:List Int) (a:Std):Nat→Std→Prop
  | nil:Run rs goal a 0 a
  | snoc {j:Nat} {b:Std} {p:Nat} {q:Int}:Run rs goal a j b→b.held.Nodup→b.held.length=b.ways.length→StepOk rs goal b p q→Run rs goal a (j+1) (exL (qad rs q) b p q)
inductive Tr (rs:List Row) (goal:List Int) (m:Nat) (a:Std):Std→List (Int × Int)→Prop
  | nil:Tr rs goal m a a []
  | snoc {b:Std} {st:List (Int × Int)} {p:Nat} {q:Int}:Tr rs goal m a b st→Wf rs m b→StepOk rs goal b p q→Tr rs goal m a (exL (qad rs q) b p q) (st++[(b.held.getD p 0,q)])
structure Hist (rs:List Row) (goal:List Int) (m:Nat) (sd0 sd:Std) (st:List (Int × Int)) (j:Nat):Prop where
  run:Run rs goal sd0 j sd
  tr:Tr rs goal m sd0 sd st
  ex:∃ S P Q,Wk.Chain m rs.length (aL rs) (BL rs) (cL goal) j S P Q∧S 0=sdL sd0∧S j=sdL sd∧st.length=j∧∀ i,i<j→st[i]?=some (((S i).h (P i):Int),(Q i:Int))
inductive End (rs:List Row) (goal:List Int) (sd:Std):D→Prop
  | non (q:Int) (qs:List (Int × Int)):Miss rs sd q→Lg sd (gsL sd (qad rs q).1) none→qs.Perm (shP sd (gsL sd (qad rs q).1)++[(q,shD sd (gsL sd (qad rs q).1))])→qs.Pairwise (fun a b=>a.1<b.1)→End rs goal sd (qmy qs)
  | best (qs:List (Int × Int)):Met rs sd→Lg sd (gsL sd goal) none→qs.Perm (shP sd (gsL sd goal))→qs.Pairwise (fun a b=>a.1<b.1)→End rs goal sd (qmv (qhe sd.tops sd.bot) qs (shD sd (gsL sd goal)))
  | endl (p:Nat):Met rs sd→Lg sd (gsL sd goal) (some p)→Stop rs (qbh rs.length) sd (sd.ways.getD p []) rs.length none→End rs goal sd (qmn (qhe sd.tops sd.bot) ((sd.ways.getD p []).map (· / qa9 (sd.ways.getD p []))))
theorem Hist.start (rs:List Row) (goal:List Int) (m:Nat) (sd:Std):Hist rs goal m sd sd [] 0:=⟨.nil,.nil,fun _=>sdL sd,fun _=>0,fun _=>0,Wk.chain0 _,rfl,rfl,rfl,fun i h=>absurd h (by omega)⟩
theorem Hist.less {rs:List Row} {goal:List Int} {m:Nat} {sd0 sd:Std} {st:List (Int × Int)} {j:Nat} (h:Hist rs goal m sd0 sd st j) (o:Wf rs m sd0) (hf:Few rs m):j<8388608∧st.length=j:=by
  obtain ⟨S,P,Q,C,e0,e1,e2,_⟩:=h.ex
  refine ⟨?_,e2⟩
  rcases hf with f | f
  · have:=C.short
    omega
  · have:=C.fewer (by rw [e0];exact o.ok)
    omega
theorem StepOk.all {rs:List Row} {goal:List Int} {m:Nat} {sd:Std} {p:Nat} {q:Int} (h:StepOk rs goal sd p q) (hrw:RsW rs m) (hf:Wf rs m sd) (hg:qhv goal m) :
    p<m∧(0≤q∧q<rs.length)∧Wk.gr m (aL rs) (sdL sd) q.toNat p≠0∧(Wk.StA m rs.length (aL rs) (BL rs) (sdL sd) p q.toNat∨Wk.StB m rs.length (aL rs) (BL rs) (cL goal) (sdL sd) p q.toNat):=by
  have hw:=hf.wl
  have ix:∀ r:Nat,((r:Int)).toNat=r:=fun r=>by omega
  have hlt:∀ k,k<m→(sdL sd).h k<(sdL sd).h p→p<m→sd.held.getD k 0<sd.held.getD p 0:=fun k hk h hp=>by
    have e1:=hf.heldNat hk
    have e2:=hf.heldNat hp
    omega
  rcases h with ⟨⟨⟨q0,q1⟩,hm,hl⟩,hp,hpg,hpl⟩ | ⟨hmet,⟨hp,hpg,hpl⟩,i,hi,hiq,hfq,hall⟩
  · rw [qaU,hw] at hp
    rw [qdk (by omega),qkJ hf hrw q0 q1 hp] at hpg
    refine ⟨hp,⟨q0,q1⟩,by omega,.inl ⟨hp,by omega,?_,fun r hr=>?_,hpg,fun k hk hkp=>?_⟩⟩
    · rw [← qjn hf hrw q0 q1];exact hm
    · have:=hl (r:Int) (by omega) (by omega)
      rw [qjn hf hrw (by omega) (by omega),ix] at this
      exact this
    · rcases Int.lt_or_le 0 (Wk.gr m (aL rs) (sdL sd) q.toNat k) with c | c
      · have:=hpl k (by rw [qaU,hw];exact hk) (by rw [qdk (by omega),qkJ hf hrw q0 q1 hk];exact c)
        have:=hlt k hk hkp hp
        omega
      · exact c
  · rw [qaU,hw] at hp
    rw [qdk (by omega),c_L hf hg.1 hp] at hpg
    obtain ⟨rfl,hi'⟩:=qdt hiq
    have fl:∀ r:Int,0≤r→r<rs.length→qaV rs (sd.ways.getD p []) r = - Wk.gr m (aL rs) (sdL sd) r.toNat p:=fun r r0 r1=>by
      unfold qaV
      rw [qkJ hf hrw r0 r1 hp]
    have q0:(0:Int)≤(i:Int):=by omega
    have q1:(i:Int)<rs.length:=by omega
    rw [fl _ q0 q1] at hfq
    refine ⟨hp,⟨q0,q1⟩,by omega,.inr ⟨hp,by omega,fun r hr=>?_,hpg,fun k hk hkp=>?_,by omega,fun r hr hrg=>?_⟩⟩
    · have:=hmet (r:Int) (by omega) (by omega)
      rw [qjn hf hrw (by omega) (by omega),ix] at this
      exact this
    · rcases Int.lt_or_le 0 (Wk.dt m (cL goal) ((sdL sd).W k)) with c | c
      · have:=hpl k (by rw [qaU,hw];exact hk) (by rw [qdk (by omega),c_L hf hg.1 hk];exact c)
        have:=hlt k hk hkp hp
        omega
      · exact c
    · have h1:=hall r (r:Int) (by omega) (qcO hr) (by rw [fl _ (by omega) (by omega),ix];omega)
      rw [fl (r:Int) (by omega) (by omega),fl _ q0 q1,qjn hf hrw q0 q1,qjn hf hrw (q:=(r:Int)) (by omega) (by omega),ix,ix] at h1
      rw [ix]
      exact ⟨h1.1,fun hrq=>h1.2 (by omega)⟩
theorem Hist.step {rs:List Row} {goal:List Int} {m:Nat} {sd0 sd:Std} {st:List (Int × Int)} {j p:Nat} {q:Int} (h:Hist rs goal m sd0 sd st j) (s:StepOk rs goal sd p q) (hrw:RsW rs m) (hf:Wf rs m sd) (hg:qhv goal m) :
    Wf rs m (exL (qad rs q) sd p q)∧Hist rs goal m sd0 (exL (qad rs q) sd p q) (st++[(sd.held.getD p 0,q)]) (j+1):=by
  obtain ⟨hp,⟨q0,q1⟩,hgr,hst⟩:=s.all hrw hf hg
  have hf2:=hf.ex hrw hp q0 q1 hgr
  refine ⟨hf2,?_⟩
  obtain ⟨S,P,Q,C,e0,e1,e2,e3⟩:=h.ex
  have x:Wk.Nx m rs.length (aL rs) (BL rs) (S j) (sdL (exL (qad rs q) sd p q)) p q.toNat:=by
    rw [e1]
    exact ⟨hf.ok,hf2.ok,hp,by omega,hgr,fun k hk=>by rw [qkm hf hrw hp q0 q1];rfl⟩
  have C2:=C.more x (by rw [e1];exact hst)
  refine ⟨.snoc h.run hf.nd (by rw [hf.hl,hf.wl]) s,.snoc h.tr hf s,_,_,_,C2,?_,?_,by rw [List.length_append,e2];rfl,fun i hi=>?_⟩
  · show (if 0≤j then S 0 else _)=_
    rw [if_pos (by omega)];exact e0
  · show (if j+1≤j then _ else _)=_
    rw [if_neg (by omega)]
  · show _=some ((((if i≤j then S i else _).h (if i<j then P i else p):Nat):Int),(((if i<j then Q i else q.toNat):Nat):Int))
    by_cases c:i<j
    · rw [if_pos (by omega),if_pos c,if_pos c,List.getElem?_append_left (by omega)]
      exact e3 i c
    · have e:i=j:=by omega
      subst e
      rw [if_pos (by omega),if_neg c,if_neg c,List.getElem?_append_right (by omega),e2,Nat.sub_self,e1,hf.heldNat hp]
      show some (sd.held.getD p 0,q)=_
      congr 2
      omega
theorem Hist.exB {rs:List Row} {m:Nat} {sd:Std} {p:Nat} {q:Int} (hrw:RsW rs m) (hf:Wf rs m sd) (hp:p<m) (h0:0≤q) (h1:q<rs.length):ExB (qad rs q) sd p:=by
  have z:=hf.sz hrw
  have n8:=hrw.n8
  have hm:=qa6 h0 h1
  have hrb:=hrw.big _ hm
  exact ⟨hf.big hrw,hrb.1,hrb.2,by rw [hf.wl];exact hp,by rw [hf.hl,hf.wl],fun w hw=>by rw [hf.ww w hw];omega,by rw [hf.tl];omega,fun w hw=>qba (qd1 n8 (hrw.len _ hm) (hf.ww w hw) (hrw.eb _ hm) (z.w w hw)) (by decide),qba (qjF hf hrw hm) (by decide),z.b0,z.b9⟩
def qe4:SpD:=fun ds R=>∃ (rs:List Row) (goal:List Int) (m:Nat) (sd0:Std),ds=[.tup (rs.map qa3),.tup ((qbh rs.length).map D.int),.tup (goal.map D.int),stD sd0]∧RsW rs m∧Wf rs m sd0∧qhv goal m∧Few rs m ∧
  ∀ sd st j d,Hist rs goal m sd0 sd st j→Wf rs m sd→End rs goal sd d→R (.tup [.tup (st.map prD),stD sd,d])
theorem qgU {n:Nat} {f:Addr} {fd:FuncData} (F:Fun K "walk_on" "walk_on" qcT f fd) {C_Stand:Addr} (T_Stand:TxtStand K mg C_Stand) (Q_next_step:Cl P w K mg base n "next_step" ["rows","numbers","goal","stand"] qdW) (Q_exchanged:Cl P w K mg base n "exchanged" ["rows","stand","place","number"] qdw) (z_tuple:mg "tuple"=none):FnOk P w K mg base CX0 (n+1) f fd ["rows","numbers","goal","stand"] (lSp K qe4):=by
  refine F.okD sc_walk_on (fun ds R h=>?_) (fun cdv A outer s H E ds R hr h=>?_)
  · obtain ⟨rs,goal,m,sd0,rfl,_⟩:=h;rfl
  obtain ⟨rs,goal,m,sd0,rfl,hrw,hf0,hg,hfew,q⟩:=h
  refine ⟨_,(qaj (qgQ (i:=4) sc_walk_on.nd rfl (Or.inl rfl) (qbm qak))
      (qaj (qau (i:=5) sc_walk_on.nd rfl (Or.inl rfl) (qaq Q_next_step hr rfl (qab (dv 0) (qab (dv 1) (qab (dv 2) (qab (dv 3) qak qaa) qaa) qaa) qaa) qaa (qae qaa (qae qaa (qae qaa qaf)))))
      (qaj (qeT PassesOwn.never (qaQ (qfK hr.units) (PD.q (qaO (dvq 5) (PD.q qah) (fun _ _=>rfl))) (PD.q qbo) (qaC _)) (qaj (qbz 4 (qbe (qab (qaO (PD.q (qb2 T_Stand.cl T_Stand.n_held T_Stand.ns (dvq 3))) (PD.q (qaO (dvq 5) (PD.q qah) (fun _ _=>rfl))) (fun _ _=>rfl)) (qab (qaO (dvq 5) (PD.q qah) (fun _ _=>rfl)) qak qac) qac)) (qcB qby) qby)
      (qaj (qau (i:=3) sc_walk_on.nd rfl (Or.inl rfl) (qaq Q_exchanged hr rfl (qab (dv 0) (qab (dv 3) (qab (qaO (dvq 5) (PD.q qah) (fun _ _=>rfl)) (qab (qaO (dvq 5) (PD.q qah) (fun _ _=>rfl)) qak qac) qac) qaa) qaa) qaa (qae qaa (qae qac (qae qac qaf)))))
      (qas (qau (i:=5) sc_walk_on.nd rfl (Or.inl rfl) (qaq Q_next_step hr rfl (qab (dv 0) (qab (dv 1) (qab (dv 2) (qab (dv 3) qak qaa) qaa) qaa) qaa) qaa (qae qaa (qae qaa (qae qaa qaf)))))))))
      (qas (qaM (qbe (qab (qaH qaS rfl z_tuple PyProof.Rows.boot_tuple (qar (dvq 4) qaB qaa) qaa qaf) (qab (dv 3) (qab (dv 5) qak qaa) qaa) qam))))))),?_⟩
  refine ⟨rs,goal,m,sd0,rfl,hrw,hf0,hg,fun d0 hN0=>?_⟩
  refine ⟨fun k ρ=>∃ sd st j d,ρ=[some (.v (.tup (rs.map qa3))),some (.v (.tup ((qbh rs.length).map D.int))),some (.v (.tup (goal.map D.int))),some (.v (stD sd)),some (.own (st.map prD)),some (.v d)]∧Hist rs goal m sd0 sd st j∧Wf rs m sd∧Nxt rs goal sd d∧k=8388608 - j,⟨_,sd0,[],0,d0,rfl,.start rs goal m sd0,hf0,hN0,rfl⟩,?_⟩
  rintro k ρ ⟨sd,st,j,d,rfl,hH,hf,hN,rfl⟩
  obtain ⟨hj,hsl⟩:=hH.less hf0 hfew
  have hat:∀ p,p<m→atI (sd.held.map D.int) (p:Int)=some (.int (sd.held.getD p 0)):=fun p hp=>qbr (i:=p) (qaR (by rw [hf.hl];exact hp)) rfl
  have more:∀ p qn,StepOk rs goal sd p qn→∀ d',Nxt rs goal (exL (qad rs qn) sd p qn) d'→∃ k',k'<8388608 - j∧∃ sd' st' j' d'',[some (Sl.v (.tup (rs.map qa3))),some (.v (.tup ((qbh rs.length).map D.int))),some (.v (.tup (goal.map D.int))),some (.v (stD (exL (qad rs qn) sd p qn))),some (.own ((st++[(sd.held.getD p 0,qn)]).map prD)),some (.v d')]=[some (.v (.tup (rs.map qa3))),some (.v (.tup ((qbh rs.length).map D.int))),some (.v (.tup (goal.map D.int))),some (.v (stD sd')),some (.own (st'.map prD)),some (.v d'')]∧Hist rs goal m sd0 sd' st' j'∧Wf rs m sd'∧Nxt rs goal sd' d''∧k'=8388608 - j':=fun p qn hs d' hN'=>by
    obtain ⟨hf2,hH2⟩:=hH.step hs hrw hf hg
    exact ⟨8388608 - (j+1),by omega,_,_,_,_,rfl,hH2,hf2,hN',rfl⟩
  have hsz:(st.map prD).length<sizeLine:=by rw [List.length_map,hsl];exact Nat.lt_of_lt_of_le hj (by decide)
  cases hN with
  | stepA qn p h1 h2 =>
    have hs:StepOk rs goal sd p qn:=.inl ⟨h1,h2⟩
    obtain ⟨hp,⟨q0,q1⟩,_,_⟩:=hs.all hrw hf hg
    obtain ⟨hf2,hH2⟩:=hH.step hs hrw hf hg
    refine ⟨_,rfl,fun _=>?_,fun h=>(by cases h)⟩
    refine ⟨rfl,_,qdG sd,_,rfl,_,hat p hp,_,rfl,hsz,_,qcm prD st (sd.held.getD p 0,qn),?_⟩
    refine ⟨_,rfl,_,rfl,rs,sd,p,qn,rfl,⟨q0,q1⟩,Hist.exB hrw hf hp q0 q1,?_⟩
    exact ⟨rs,goal,m,_,rfl,hrw,hf2,hg,fun d' hN'=>more p qn hs d' hN'⟩
  | stepB qn p h1 h2 h3 =>
    have hs:StepOk rs goal sd p qn:=.inr ⟨h1,h2,h3⟩
    obtain ⟨hp,⟨q0,q1⟩,_,_⟩:=hs.all hrw hf hg
    obtain ⟨hf2,hH2⟩:=hH.step hs hrw hf hg
    refine ⟨_,rfl,fun _=>?_,fun h=>(by cases h)⟩
    refine ⟨rfl,_,qdG sd,_,rfl,_,hat p hp,_,rfl,hsz,_,qcm prD st (sd.held.getD p 0,qn),?_⟩
    refine ⟨_,rfl,_,rfl,rs,sd,p,qn,rfl,⟨q0,q1⟩,Hist.exB hrw hf hp q0 q1,?_⟩
    exact ⟨rs,goal,m,_,rfl,hrw,hf2,hg,fun d' hN'=>more p qn hs d' hN'⟩
  | non qn qs h1 h2 h3 h4 =>
    refine ⟨_,rfl,fun h=>(by cases h),fun _=>?_⟩
    exact q sd st j _ hH hf (.non qn qs h1 h2 h3 h4)
  | best qs h1 h2 h3 h4 =>
    refine ⟨_,rfl,fun h=>(by cases h),fun _=>?_⟩
    exact q sd st j _ hH hf (.best qs h1 h2 h3 h4)
  | endl p h1 h2 h3 =>
    refine ⟨_,rfl,fun h=>(by cases h),fun _=>?_⟩
    exact q sd st j _ hH hf (.endl p h1 h2 h3)
theorem qiI {n M:Nat} {a:Wk.Mx} {B:Nat→Int} {S T:Wk.Sd} (o:Wk.Ok n a B M S) (hh:∀ k,k<n→T.h k=S.h k) (hW:∀ k i,k<n→i<n→T.W k i=S.W k i) (hx:∀ i,i<n→T.x i=S.x i) (hb:T.b=S.b):Wk.Ok n a B M T:=by
  obtain ⟨e,he,h1,h2⟩:=o.eps
  have ed:Wk.det n (fun k=>a (T.h k))=Wk.det n (fun k=>a (S.h k)):=Wk.det_congr fun i j hi _=>by show a (T.h i) j=a (S.h i) j;rw [hh i hi]
  have ec:∀ k j,Wk.co n (fun k=>a (T.h k)) k j=Wk.co n (fun k=>a (S.h k)) k j:=fun k j=>Wk.det_congr fun i l hi _=>by
    unfold Wk.up
    split
    · rfl
    · show a (T.h i) l=a (S.h i) l;rw [hh i hi]
  refine ⟨by rw [hb];exact o.pos,fun k hk=>by rw [hh k hk];exact o.lt k hk,⟨e,he,by rw [hb,ed];exact h1,fun k j hk hj=>by rw [hW k j hk hj,ec];exact h2 k j hk hj⟩,fun i j hi hj=>?_,fun i hi=>?_⟩
  · rw [hb,← o.lf i j hi hj]
    exact Wk.sm_congr fun k hk=>by rw [hW k i hk hi,hh k hk]
  · rw [hx i hi,o.cor i hi]
    exact Wk.sm_congr fun k hk=>by rw [hW k i hk hi,hh k hk]
def ql5 (rs:List Row) (m:Nat):Prop:=∀ k:Nat,k<m→(qad rs (k:Int)).1=unL m k
theorem qdq {α β:Type} (f:α→β) (g:Nat→α) {n k:Nat} {d:β} (h:k<n):((List.range n).map fun i=>f (g i)).getD k d=f (g k):=by
  rw [List.getD_eq_getElem?_getD,List.getElem?_map,List.getElem?_range h]
  rfl
theorem qjY {m k j:Nat} (hj:j<m):(unL m k).getD j 0=Wk.un k j:=by
  unfold unL Wk.un
  exact qdq (fun x:Int=>x) (fun o=>if o=k then (1:Int) else 0) hj
theorem qkG (m k:Nat):(unL m k).length=m:=by unfold unL;rw [List.length_map,List.length_range]
theorem qjZ {rs:List Row} {m:Nat} (hr:RsW rs m) (hu:ql5 rs m):Wf rs m (qd3 rs m):=by
  refine ⟨by show ((List.range m).map _).length=m;rw [List.length_map,List.length_range],fun k hk=>?_,by show ((List.range m).map _).length=m;rw [List.length_map,List.length_range],fun w hw=>?_,by show ((List.range m).map _).length=m;rw [List.length_map,List.length_range],?_⟩
  · obtain ⟨i,_,rfl⟩:=List.mem_map.mp (show k∈(List.range m).map _ from hk)
    omega
  · obtain ⟨i,_,rfl⟩:=List.mem_map.mp (show w∈(List.range m).map _ from hw)
    exact qkG m i
  · refine qiI (Wk.ok_start (n:=m) (M:=rs.length) (a:=aL rs) (B:=BL rs) hr.nM fun k j hk hj=>?_) (fun k hk=>?_) (fun k i hk hi=>?_) (fun i hi=>?_) rfl
    · unfold aL
      rw [hu k hk]
      exact qjY hj
    · show (((List.range m).map fun (i:Nat)=>(i:Int)).getD k 0).toNat=k
      rw [qdq (fun x:Int=>x) (fun i=>(i:Int)) hk]
      omega
    · show (((List.range m).map fun k=>unL m k).getD k []).getD i 0=Wk.un k i
      rw [qdq (fun x:List Int=>x) (fun i=>unL m i) hk]
      exact qjY hi
    · show ((List.range m).map fun (k:Nat)=>(qad rs (k:Int)).2).getD i 0=BL rs i
      exact qdq (fun x:Int=>x) (fun i=>(qad rs (i:Int)).2) hi
structure FirstOk (rs:List Row) (goal:List Int) (m:Nat):Prop where
  rw_:RsW rs m
  gw:qhv goal m
  few:Few rs m
  un:ql5 rs m
def qii:SpD:=fun ds R=>∃ (rs:List Row) (goal:List Int) (m:Nat),ds=[.tup (rs.map qa3),.tup (goal.map D.int)]∧FirstOk rs goal m∧∀ sd st j d,Hist rs goal m (qd3 rs m) sd st j→Wf rs m sd→End rs goal sd d→R (.tup [.tup (st.map prD),stD sd,d])
theorem qkd {n:Nat} {f:Addr} {fd:FuncData} (F:Fun K "walk" "walk" qgy f fd) (Q_walk_on:Cl P w K mg base n "walk_on" ["rows","numbers","goal","stand"] qe4) (Q_beginning:Cl P w K mg base n "beginning" ["rows","n"] qdF) (z_tuple:mg "tuple"=none) (z_range:mg "range"=none) (z_len:mg "len"=none):FnOk P w K mg base CX0 (n+1) f fd ["rows","goal"] (lSp K qii):=by
  refine F.okD qj3 (fun ds R h=>?_) (fun cdv A outer s H E ds R hr h=>?_)
  · obtain ⟨rs,goal,m,rfl,_⟩:=h;rfl
  obtain ⟨rs,goal,m,rfl,ho,q⟩:=h
  refine ⟨_,(qas (qaM (qaq Q_walk_on hr rfl (qab (dv 0) (qab (qeh rfl rfl z_tuple rfl z_range (qab (qaK qcG rfl z_len PySem.boot_len (qar (dvq 0) qaB qaa) qaa qaf) qak qam)) (qab (dv 1) (qab (qaq Q_beginning hr rfl (qab (dv 0) (qab (qaK qcG rfl z_len PySem.boot_len (qar (dvq 1) qaB qaa) qaa qaf) qak qam) qaa) qaa (qae qam qaf)) qak qam) qaa) qam) qaa) qaa (qae qam (qae qaa (qae qam qaf)))))),?_⟩
  have hM:=ho.rw_.M1
  have n8:=ho.rw_.n8
  have hgl:=ho.gw.1
  have hnl:(((rs.map qa3).length:Nat):Int)=(rs.length:Int):=by rw [List.length_map]
  have hgl2:(((goal.map D.int).length:Nat):Int)=(m:Int):=by rw [List.length_map,hgl]
  refine ⟨⟨by omega,by omega⟩,?_⟩
  have e3:qbs 0 (((rs.map qa3).length:Int)).toNat=(qbh rs.length).map D.int:=by
    rw [hnl]
    unfold qbs qbh
    rw [List.map_map,Int.toNat_natCast]
    exact List.map_congr_left fun i _=>by show D.int (0+(i:Int))=D.int (i:Int);rw [Int.zero_add]
  refine ⟨rs,m,by rw [← hgl2],by omega,ho.rw_.nM,?_⟩
  rw [e3]
  exact ⟨rs,goal,m,qd3 rs m,rfl,ho.rw_,qjZ ho.rw_ ho.un,ho.gw,ho.few,q⟩
def qim:SpD:=fun ds R=>∃ (rs:List Row) (goal:List Int) (m:Nat),ds=[.tup (rs.map qa3),.tup (goal.map D.int)]∧FirstOk rs goal m∧∀ sd st j d,Hist rs goal m (qd3 rs m) sd st j→Wf rs m sd→End rs goal sd d→R d
theorem qjw {n:Nat} {f:Addr} {fd:FuncData} (F:Fun K "first" "first" qeO f fd) (Q_walk:Cl P w K mg base n "walk" ["rows","goal"] qii):FnOk P w K mg base CX0 (n+1) f fd ["rows","goal"] (lSp K qim):=by
  refine F.okD qiA (fun ds R h=>?_) (fun cdv A outer s H E ds R hr h=>?_)
  · obtain ⟨rs,goal,m,rfl,_⟩:=h;rfl
  obtain ⟨rs,goal,m,rfl,ho,q⟩:=h
  refine ⟨_,(qas (qaM (qaO (PD.q (qaq Q_walk hr rfl (qab (dv 0) (qab (dv 1) qak qaa) qaa) qaa (qae qaa qaf))) (PD.q qah) (fun _ _=>rfl)))),?_⟩
  exact ⟨rs,goal,m,rfl,ho,fun sd st j d h hf he=>⟨_,rfl,q sd st j d h hf he⟩⟩
theorem Miss.uniq {rs:List Row} {sd:Std} {q q':Int} (h:Miss rs sd q) (h':Miss rs sd q'):q=q':=by
  obtain ⟨⟨a0,a1⟩,a2,a3⟩:=h
  obtain ⟨⟨b0,b1⟩,b2,b3⟩:=h'
  rcases Int.lt_trichotomy q q' with c | c | c
  · have:=b3 q a0 c
    omega
  · exact c
  · have:=a3 q' b0 c
    omega
theorem Lg.uniq {sd:Std} {gs:List Int} {p p':Nat} (hn:sd.held.Nodup) (hl:sd.held.length=gs.length) (h:Lg sd gs (some p)) (h':Lg sd gs (some p')):p=p':=by
  obtain ⟨a,b,c⟩:=h
  obtain ⟨a',b',c'⟩:=h'
  have e:sd.held.getD p 0=sd.held.getD p' 0:=by
    have:=c p' a' b'
    have:=c' p a b
    omega
  have e1:=qaR (xs:=sd.held) (d:=0) (i:=p) (by omega)
  have e2:=qaR (xs:=sd.held) (d:=0) (i:=p') (by omega)
  obtain ⟨h1,q1⟩:=List.getElem?_eq_some_iff.mp e1
  obtain ⟨h2,q2⟩:=List.getElem?_eq_some_iff.mp e2
  exact (List.getElem_inj hn).mp (q1.trans (e.trans q2.symm))
theorem Stop.uniq {rs:List Row} {ns:List Int} {sd:Std} {way:List Int} {m:Nat} {k k':Int} (h:Stop rs ns sd way m (some k)) (h':Stop rs ns sd way m (some k')):k=k':=by
  obtain ⟨i,hi,hk,hf,ha⟩:=h
  obtain ⟨i',hi',hk',hf',ha'⟩:=h'
  rcases Nat.lt_trichotomy i i' with c | c | c
  · exact absurd ((ha' i k hi hk hf).2 c) (Int.not_lt.mpr (ha i' k' hi' hk' hf').1)
  · subst c
    rw [hk] at hk'
    cases hk'
    rfl
  · exact absurd ((ha i' k' hi' hk' hf').2 c) (Int.not_lt.mpr (ha' i k hi hk hf).1)
theorem Miss.met {rs:List Row} {sd:Std} {q:Int} (h:Miss rs sd q) (h':Met rs sd):False:=by
  have:=h' q h.1.1 h.1.2
  have:=h.2.1
  omega
theorem Lg.off {sd:Std} {gs:List Int} {p:Nat} (h:Lg sd gs (some p)) (h':Lg sd gs none):False:=by
  have:=h' p h.1
  have:=h.2.1
  omega
theorem StepOk.uniq {rs:List Row} {goal:List Int} {sd:Std} {p p':Nat} {q q':Int} (hn:sd.held.Nodup) (hl:sd.held.length=sd.ways.length) (h:StepOk rs goal sd p q) (h':StepOk rs goal sd p' q'):p=p'∧q=q':=by
  rcases h with ⟨a,b⟩ | ⟨a,b,c⟩ <;> rcases h' with ⟨a',b'⟩ | ⟨a',b',c'⟩
  · have e:=a.uniq a'
    subst e
    exact ⟨b.uniq hn (by rw [qaU];exact hl) b',rfl⟩
  · exact (a.met a').elim
  · exact (a'.met a).elim
  · have e:=b.uniq hn (by rw [qaU];exact hl) b'
    subst e
    exact ⟨rfl,c.uniq c'⟩
def qhl (rs:List Row) (goal:List Int) (sd:Std):Prop:=∀ (p:Nat) (q:Int),¬ StepOk rs goal sd p q
theorem qgX {rs:List Row} {goal:List Int} {sd:Std} (h:Met rs sd) (hg:Lg sd (gsL sd goal) none):qhl rs goal sd:=fun p q t=>by
  rcases t with ⟨a,b⟩ | ⟨a,b,c⟩
  · exact a.met h
  · exact b.off hg
theorem End.stuck {rs:List Row} {goal:List Int} {sd:Std} {d:D} (hn:sd.held.Nodup) (hl:sd.held.length=sd.ways.length) (h:End rs goal sd d):qhl rs goal sd:=by
  cases h with
  | best qs h1 h2 h3 h4=>exact qgX h1 h2
  | non q0 qs h1 h2 h3 h4 =>
    intro p q t
    rcases t with ⟨a,b⟩ | ⟨a,b,c⟩
    · have e:=a.uniq h1
      subst e
      exact b.off h2
    · exact h1.met a
  | endl p0 h1 h2 h3 =>
    intro p q t
    rcases t with ⟨a,b⟩ | ⟨a,b,c⟩
    · exact a.met h1
    · have e:=b.uniq hn (by rw [qaU];exact hl) h2
      subst e
      obtain ⟨i,hi,hk,hf,_⟩:=c
      have:=h3 i q hi hk
      omega
theorem Run.uniq {rs:List Row} {goal:List Int} {a:Std}:∀ {j:Nat} {b b':Std},Run rs goal a j b→Run rs goal a j b'→b=b'
  | 0,_,_,h,h'=>by
    cases h
    cases h'
    rfl
  | j+1,_,_,h,h'=>by
    cases h with
    | snoc r n l s =>
      cases h' with
      | snoc r' n' l' s' =>
        have e:=Run.uniq r r'
        subst e
        obtain ⟨rfl,rfl⟩:=s.uniq n l s'
        rfl
theorem Run.before {rs:List Row} {goal:List Int} {a b:Std} {j:Nat} (h:Run rs goal a j b):∀ i,i<j→∃ c p q,Run rs goal a i c∧StepOk rs goal c p q:=by
  induction h with
  | nil=>intro i hi;omega
  | @snoc j b p q r n l s ih =>
    intro i hi
    by_cases c:i=j
    · subst c
      exact ⟨b,p,q,r,s⟩
    · exact ih i (by omega)
theorem Run.one {rs:List Row} {goal:List Int} {a b b':Std} {j j':Nat} (h:Run rs goal a j b) (h':Run rs goal a j' b') (s:qhl rs goal b) (s':qhl rs goal b'):b=b':=by
  rcases Nat.lt_trichotomy j j' with c | c | c
  · obtain ⟨d,p,q,r,t⟩:=h'.before j c
    have e:=h.uniq r
    subst e
    exact absurd t (s p q)
  · subst c
    exact h.uniq h'
  · obtain ⟨d,p,q,r,t⟩:=h.before j' c
    have e:=h'.uniq r
    subst e
    exact absurd t (s' p q)
def qcE:SpD:=fun ds R=>∃ (ns:List Int) (k:Int),ds=[.fzl (ns.map D.int),.int k]∧ns.length≤63∧0≤k∧∀ i:Int,R (.int i)
theorem qe8 {n:Nat} {f:Addr} {fd:FuncData} (F:Fun K "_law_cell" "_law_cell" qb6 f fd) (z_len:mg "len"=none):FnOk P w K mg base CX0 (n+1) f fd ["_law_script","_law_k"] (lSp K qcE):=by
  refine F.okD qfG (fun ds R h=>?_) (fun cdv A outer s H E ds R hr h=>?_)
  · obtain ⟨ns,k,rfl,_⟩:=h;rfl
  obtain ⟨ns,k,rfl,hz,h0,q⟩:=h
  refine ⟨_,(qbL (qcp (qaQ qgS (dvq 1) (PD.q (qaK qcG rfl z_len PySem.boot_len (qar (dvq 0) qaB qaa) qaa qaf)) (qaC _)) (qas (qaM (qaO (dvq 0) (dvq 1) (fun _ _=>rfl)))) qbd)
      (qbL (qcp (qaQ (qfK hr.units) (PD.q (qaK qcG rfl z_len PySem.boot_len (qar (dvq 0) qaB qaa) qaa qaf)) (PD.q qah) (qaC _)) (qas (qaM (dv 1))) qbd)
      (qas (qaM (qaI qbv (PD.q (qaO (dvq 0) (PD.q (qaI qft (dvq 1) (PD.q (qaK qcG rfl z_len PySem.boot_len (qar (dvq 0) qaB qaa) qaa qaf)))) (fun _ _=>rfl))) (PD.q (qaI qaX (PD.q qah) (dvq 1)))))))),?_⟩
  have hl:(ns.map D.int).length≤63:=by rw [List.length_map];exact hz
  refine ⟨fun ρ=>ρ=[some (.v (.fzl (ns.map D.int))),some (.v (.int k))],⟨fun h=>?_,fun h=>rfl⟩,?_⟩
  · have h:=dP h
    obtain ⟨v,hv⟩:=qif (ns:=ns) (k:=k) h0 (by rw [List.length_map] at h;exact h)
    exact ⟨_,hv,q _⟩
  rintro ρ rfl
  refine ⟨fun ρ=>ns≠[]∧ρ=[some (.v (.fzl (ns.map D.int))),some (.v (.int k))],⟨fun h=>q _,fun h=>⟨fun e=>?_,rfl⟩⟩,?_⟩
  · subst e;cases h
  rintro ρ ⟨hne,rfl⟩
  have hp:(0:Int)<((ns.map D.int).length:Int):=by
    have:=List.length_pos_iff.mpr hne
    rw [List.length_map];omega
  obtain ⟨v,hv⟩:=qif (ns:=ns) (k:=k % ((ns.map D.int).length:Int)) (Int.emod_nonneg _ (by omega)) (by have:=Int.emod_lt_of_pos k hp;rw [List.length_map] at this ⊢;exact this)
  exact ⟨hp,_,hv,qb0 (by decide) (by decide),q _⟩
theorem few {t:Nat} {re z:Int} (h:(2:Int) ^ (29*t)≤re) (hre:re<z*1000) (hz:z<2 ^ 9000):t<400:=by
  refine Nat.lt_of_not_le fun c=>?_
  have h1:(2:Int) ^ (29*t)<2 ^ 9000*1000:=by
    have:z*1000<2 ^ 9000*1000:=by omega
    omega
  have h2:(2:Nat) ^ (29*t)<2 ^ 9000*1000:=by exact_mod_cast h1
  have h3:(2:Nat) ^ (9000+10)≤2 ^ (29*t):=Nat.pow_le_pow_right (by decide) (by omega)
  rw [Nat.pow_add] at h3
  omega
def qdf:SpD:=fun ds R=>∃ c s z:Int,ds=[.int c,.int s,.int z]∧0≤s∧s<2 ^ 32∧0<z∧z<2 ^ 9000∧∀ i:Int,0≤i→i<z→R (.int i)
theorem qeD {n:Nat} {f:Addr} {fd:FuncData} (F:Fun K "_law_mixed" "_law_mixed" qbV f fd) (z_abs:mg "abs"=none):FnOk P w K mg base CX0 (n+1) f fd ["_law_cell_here","_law_salt","_law_size"] (lSp K qdf):=by
  refine F.okD sc__law_mixed (fun ds R h=>?_) (fun cdv A outer s H E ds R hr h=>?_)
  · obtain ⟨c,s0,z,rfl,_⟩:=h;rfl
  obtain ⟨c,s0,z,rfl,hs0,hs1,hz,hzb,q⟩:=h
  refine ⟨_,(qaj (qau (i:=3) sc__law_mixed.nd rfl (Or.inl rfl) qah)
      (qaj (qau (i:=4) sc__law_mixed.nd rfl (Or.inl rfl) qah)
      (qaj (qeT PassesOwn.never (qaQ qgS (dvq 4) (PD.q (qaI qaX (dvq 2) (PD.q qah))) (qaC _)) (qaj (qau (i:=5) sc__law_mixed.nd rfl (Or.inl rfl) (qaI qbv (PD.q (qaI qbv (PD.q (qaI qbv (PD.q (qaK qg7 rfl z_abs PyProof.Rows.boot_abs (qar (dvq 0) qaB qaa) qaa qaf)) (PD.q (qaI qaX (PD.q (qaI qaX (PD.q qah) (dvq 1))) (dvq 1))))) (PD.q (qaI qaX (PD.q qah) (dvq 1))))) (PD.q qah)))
      (qaj (qau (i:=3) sc__law_mixed.nd rfl (Or.inl rfl) (qaI qbv (PD.q (qaI qaX (dvq 3) (PD.q qah))) (PD.q (qaI qft (PD.q (qaI qaX (PD.q (qaI qft (PD.q (qaI qaX (dvq 5) (PD.q qah))) (PD.q qah))) (PD.q qah))) (PD.q qah)))))
      (qaj (qau (i:=4) sc__law_mixed.nd rfl (Or.inl rfl) (qaI qaX (dvq 4) (PD.q qah)))
      (qas (qau (i:=1) sc__law_mixed.nd rfl (Or.inl rfl) (qaI qbv (dvq 1) (PD.q qah))))))))
      (qas (qaM (qaI qft (dvq 3) (dvq 2))))))),?_⟩
  refine ⟨fun k ρ=>∃ (sa num re:Int) (t:Nat) (u5:Option Sl),ρ=[some (.v (.int c)),some (.v (.int sa)),some (.v (.int z)),some (.v (.int num)),some (.v (.int re)),u5]∧sa=s0+17*t∧(2:Int) ^ (29*t)≤re∧k=(z*1000 - re).toNat,⟨_,s0,0,1,0,_,rfl,by omega,by decide,rfl⟩,?_⟩
  rintro k ρ ⟨sa,num,re,t,u5,rfl,hsa,hre,rfl⟩
  refine ⟨qcZ (by decide) (by decide),fun c1=>?_,fun c1=>?_⟩
  · have c1:=dP c1
    have ht:=few hre c1 hzb
    have b1:-(2 ^ 64)<sa:=by omega
    have b2:sa<2 ^ 64:=by omega
    have p1:(0:Int)<2 ^ (29*t):=Int.pow_pos (by decide)
    refine ⟨qb0 (by decide) (by decide),qcZ b1 b2,qb0 (by decide) (by decide),qcZ (by decide) (by decide),qcZ (by decide) (by decide),(by decide:(0:Int)<2147483647),qcZ (by decide) (by decide),(by decide:(0:Int)<1000000007),qcZ (by decide) (by decide),_,?_,sa+17,_,re*1000000007,t+1,_,rfl,by omega,?_,rfl⟩
    · show (z*1000 - re*1000000007).toNat<(z*1000 - re).toNat
      omega
    · rw [Nat.mul_add,Int.pow_add]
      have e:(2:Int) ^ (29*1)=536870912:=by decide
      rw [e]
      omega
  · exact ⟨hz,q _ (Int.emod_nonneg _ (by omega)) (Int.emod_lt_of_pos _ hz)⟩
abbrev Dr (d z:Int):Prop:=0≤d∧d<z
abbrev Drawn (ds zs:List Int):Prop:=Paired Dr ds zs
theorem Drawn.take {zs:List Int} {i:Nat} {z:Int} {ds:List Int} (h:Drawn ds (zs.take i)) (hz:zs[i]?=some z) {d:Int} (h0:0≤d) (h1:d<z):Drawn (ds++[d]) (zs.take (i+1)):=by
  rw [qbc hz]
  exact Paired.snoc h ⟨h0,h1⟩
theorem Drawn.len {ds zs:List Int} (h:Drawn ds zs):ds.length=zs.length:=Paired.length h
def qcj:SpD:=fun ds R=>∃ (c s:Int) (zs:List Int),ds=[.int c,.int s,.lst (zs.map D.int)]∧zs.length≤1000∧0≤s∧s<2 ^ 20∧(∀ z∈zs,0<z∧z<2 ^ 9000)∧∀ es:List Int,Drawn es zs→R (.lst (es.map D.int))
theorem qeV {n:Nat} {f:Addr} {fd:FuncData} (F:Fun K "_law_draws" "_law_draws" qbY f fd) (Q__law_mixed:Cl P w K mg base n "_law_mixed" ["_law_cell_here","_law_salt","_law_size"] qdf) (z_abs:mg "abs"=none) (z_enumerate:mg "enumerate"=none):FnOk P w K mg base CX0 (n+1) f fd ["_law_cell_here","_law_salt","_law_sizes"] (lSp K qcj):=by
  refine F.okD sc__law_draws (fun ds R h=>?_) (fun cdv A outer s H E ds R hr h=>?_)
  · obtain ⟨c,s0,zs,rfl,_⟩:=h;rfl
  obtain ⟨c,s0,zs,rfl,hz,hs0,hs1,hzs,q⟩:=h
  refine ⟨_,(qaj (qgQ (i:=3) sc__law_draws.nd rfl (Or.inl rfl) (qbm qak))
      (qaj (qau (i:=4) sc__law_draws.nd rfl (Or.inl rfl) (qaK qg7 rfl z_abs PyProof.Rows.boot_abs (qar (dvq 0) qaB qaa) qaa qaf))
      (qaj (qau (i:=5) sc__law_draws.nd rfl (Or.inl rfl) (qmf qgS (dvq 4) (PD.q (qaI qlP (PD.q qah) (PD.q qah))) (qaC _)))
      (qaj (qcF PassesOwn.never rfl (qhj rfl z_enumerate (qab (dv 2) qak qaa)) (qcs (n:=2) rfl (qav (qao (i:=6) sc__law_draws.nd rfl (Or.inl rfl)) (qav (qao (i:=7) sc__law_draws.nd rfl (Or.inl rfl)) qbD))) (qas (qcp (PWD.td (qk4 (qhG (dvq 5) (fun _=>rfl)) (qfX (qaQ (qfK hr.units) (dvq 4) (PD.q qah) (qaC _))))) (qas (qbz 3 (qaq Q__law_mixed hr rfl (qab (dv 0) (qab (qaI qbv (dvq 1) (PD.q (qaI qaX (PD.q qah) (dvq 6)))) (qab (dv 7) qak qaa) qay) qaa) qaa (qae qay (qae qaa qaf))) (qcB qam) qam)) (qaj (qbz 3 (qaI qft (dvq 4) (dvq 7)) (qcB qay) qay)
      (qas (qau (i:=4) sc__law_draws.nd rfl (Or.inl rfl) (qaI qbp (dvq 4) (dvq 7))))))))
      (qg2 3 (qas (qaM (dv 3)))))))),?_⟩
  refine ⟨⟨by decide,by decide,by decide⟩,fun i ρ=>∃ (r:Int) (pl:Bool) (es:List Int) (u6 u7:Option Sl),ρ=[some (.v (.int c)),some (.v (.int s0)),some (.v (.lst (zs.map D.int))),some (.own (es.map D.int)),some (.v (.int r)),some (.v (.bl pl)),u6,u7]∧Drawn es (zs.take i),⟨_,_,[],_,_,rfl,.nil⟩,?_,?_⟩
  · rintro i d ρ hd ⟨r,pl,es,u6,u7,rfl,hD⟩
    obtain ⟨e,he,rfl⟩:=qeW hd
    obtain ⟨z,rfl,hzi⟩:=qgj he
    have hzm:=hzs z (List.mem_of_getElem? hzi)
    have hi:i<zs.length:=qaF hzi
    have ll:(es.map D.int).length<sizeLine:=by
      have:=hD.len
      rw [List.length_take] at this
      rw [List.length_map]
      exact qap (by omega)
    refine ⟨rfl,?_⟩
    cases pl with
    | true =>
      refine ⟨fun _=>⟨fun _=>?_,fun h=>ff h.symm⟩,fun h=>(by cases h)⟩
      exact ⟨qb0 (by decide) (by decide),c,s0+101*(i:Int),z,rfl,by omega,by omega,hzm.1,hzm.2,fun d h0 h1=>⟨ll,_,qcm _ _ _,_,_,es++[d],_,_,rfl,hD.take hzi h0 h1⟩⟩
    | false =>
      refine ⟨fun h=>(by cases h),fun _=>⟨fun h=>?_,fun h=>?_⟩⟩
      · exact ⟨qb0 (by decide) (by decide),c,s0+101*(i:Int),z,rfl,by omega,by omega,hzm.1,hzm.2,fun d h0 h1=>⟨ll,_,qcm _ _ _,_,_,es++[d],_,_,rfl,hD.take hzi h0 h1⟩⟩
      · exact ⟨hzm.1,ll,_,qcm _ _ _,CDivB.of hzm.1 hzm.2,_,_,es++[r % z],_,_,rfl,hD.take hzi (Int.emod_nonneg _ (by omega)) (Int.emod_lt_of_pos _ hzm.1)⟩
  · rintro ρ ⟨r,pl,es,u6,u7,rfl,hD⟩
    rw [qcX,List.length_map,List.take_length] at hD
    exact q es hD
theorem ql3 {ds:List Int} {z1 z2 z3 z4 z5:Int} (h:Drawn ds [z1,z2,z3,z4,z5]):∃ x1 x2 x3 x4 x5:Int,ds=[x1,x2,x3,x4,x5]∧Dr x1 z1∧Dr x2 z2∧Dr x3 z3∧Dr x4 z4∧Dr x5 z5:=by
  cases h with | cons h1 t1 =>
  cases t1 with | cons h2 t2 =>
  cases t2 with | cons h3 t3 =>
  cases t3 with | cons h4 t4 =>
  cases t4 with | cons h5 t5 =>
  cases t5
  exact ⟨_,_,_,_,_,rfl,h1,h2,h3,h4,h5⟩
theorem Drawn.at {ds zs:List Int} (h:Drawn ds zs):∀ {i:Nat} {z:Int},zs[i]?=some z→∃ d,ds[i]?=some d∧0≤d∧d<z:=by
  induction h with
  | nil=>intro i z hz;simp at hz
  | cons h1 t ih =>
    intro i z hz
    cases i with
    | zero=>cases hz;exact ⟨_,rfl,h1⟩
    | succ i=>exact ih hz
theorem Drawn.mem {ds zs:List Int} (h:Drawn ds zs):∀ d∈ds,∃ z∈zs,0≤d∧d<z:=by
  induction h with
  | nil=>intro d hd;exact absurd hd List.not_mem_nil
  | cons h1 t ih =>
    intro d hd
    rcases List.mem_cons.mp hd with rfl | hd
    · exact ⟨_,List.mem_cons_self,h1⟩
    · obtain ⟨z,hz,q⟩:=ih d hd
      exact ⟨z,List.mem_cons_of_mem _ hz,q⟩
theorem qkk (ts:List Int) (b:Int):qce ts b=qa9 (ts++[b]):=by
  unfold qce
  rw [qbC,Int.gcd_comm]
theorem qjf {ts:List Int} {b:Int} (h:0<b):0<qce ts b:=by
  have:=Int.gcd_pos_of_ne_zero_right (qa9 ts) (show b≠0 by omega)
  unfold qce
  omega
theorem qje {ts:List Int} {b:Int}:(∀ x∈ts,qce ts b∣x)∧qce ts b∣b:=by
  rw [qkk]
  exact ⟨fun x hx=>qcQ _ x (List.mem_append_left _ hx),qcQ _ b (List.mem_append_right _ (by simp))⟩
theorem qbw {α:Type} {xs:List α} {i:Nat} {x d:α} (h:xs[i]?=some x):xs.getD i d=x:=by rw [List.getD_eq_getElem?_getD,h];rfl
def sc (g:Int) (xs:List Int):List Int:=xs.map (·*g)
theorem qci (g:Int) (xs:List Int):(sc g xs).length=xs.length:=by unfold sc;rw [List.length_map]
theorem qfi (g:Int) (xs:List Int) (i:Nat):(sc g xs).getD i 0=xs.getD i 0*g:=by
  unfold sc
  by_cases c:i<xs.length
  · rw [List.getD_eq_getElem?_getD,List.getElem?_map,qaR (d:=0) c]
    rfl
  · rw [qaZ (by rw [List.length_map];omega),qaZ (by omega)]
    omega
theorem qd2 (g:Int):∀ (xs ys:List Int),dot xs (sc g ys)=dot xs ys*g
  | [],_=>by show (0:Int)=0*g;omega
  | _::_,[]=>by show (0:Int)=0*g;omega
  | x::xs,y::ys=>by
    have i:=qd2 g xs ys
    show x*(y*g)+dot xs (sc g ys)=(x*y+dot xs ys)*g
    rw [i,Int.add_mul,Int.mul_assoc]
theorem qcn {x g:Int} (h:1≤g):(0<x*g↔0<x)∧(x*g<0↔x<0):=by
  rcases Int.lt_trichotomy x 0 with c | c | c
  · have:=Int.mul_neg_of_neg_of_pos c (show 0<g by omega)
    omega
  · subst c;omega
  · have:=Int.mul_pos c (show 0<g by omega)
    omega
structure Rl (g:Int) (ls sd:Std):Prop where
  pos:1≤g
  held:ls.held=sd.held
  ways:sd.ways=ls.ways.map (sc g)
  tops:sd.tops=sc g ls.tops
  bot:sd.bot=ls.bot*g
section
variable {g : Int} {ls sd : Std}
theorem Rl.refl (sd:Std):Rl 1 sd sd:=⟨by decide,rfl,by
  have:sc 1=fun xs:List Int=>xs:=by funext xs;unfold sc;simp
  rw [this];simp,by unfold sc;simp,by omega⟩
theorem Rl.wl (h:Rl g ls sd):ls.ways.length=sd.ways.length:=by rw [h.ways,List.length_map]
theorem Rl.way (h:Rl g ls sd) (p:Nat):sd.ways.getD p []=sc g (ls.ways.getD p []):=by
  rw [h.ways]
  by_cases c:p<ls.ways.length
  · rw [List.getD_eq_getElem?_getD,List.getElem?_map,qaR (d:=[]) c]
    rfl
  · rw [qaZ (by rw [List.length_map];omega),qaZ (by omega)]
    rfl
theorem Rl.ov (h:Rl g ls sd) (r:Row):ovL r sd=ovL r ls*g:=by
  unfold ovL
  rw [h.tops,h.bot,qd2,Int.sub_mul,Int.mul_assoc]
theorem Rl.gs (h:Rl g ls sd) (es:List Int):gsL sd es=sc g (gsL ls es):=by
  unfold gsL sc
  rw [h.ways,List.map_map,List.map_map]
  exact List.map_congr_left fun w _=>qd2 g es w
theorem Rl.miss (h:Rl g ls sd) {rs:List Row} {q:Int} (m:Miss rs ls q):Miss rs sd q:=by
  obtain ⟨a,b,c⟩:=m
  refine ⟨a,by rw [h.ov];exact (qcn h.pos).2.mpr b,fun r r0 r1=>?_⟩
  rw [h.ov]
  have:=c r r0 r1
  have:=(qcn (x:=ovL (qad rs r) ls) h.pos).2
  omega
theorem Rl.met (h:Rl g ls sd) {rs:List Row} (m:Met rs ls):Met rs sd:=fun r r0 r1=>by
  rw [h.ov]
  have:=m r r0 r1
  have:=(qcn (x:=ovL (qad rs r) ls) h.pos).2
  omega
theorem Rl.lg (h:Rl g ls sd) {es:List Int} {o:Option Nat} (m:Lg ls (gsL ls es) o):Lg sd (gsL sd es) o:=by
  have hl:(gsL sd es).length=(gsL ls es).length:=by rw [h.gs,qci]
  have ha:∀ i,(gsL sd es).getD i 0=(gsL ls es).getD i 0*g:=fun i=>by rw [h.gs,qfi]
  have hs:∀ i,(0<(gsL sd es).getD i 0↔0<(gsL ls es).getD i 0):=fun i=>by rw [ha];exact (qcn h.pos).1
  cases o with
  | none =>
    intro i hi
    have:=m i (by omega)
    have:=hs i
    omega
  | some p =>
    obtain ⟨a,b,c⟩:=m
    refine ⟨by omega,(hs p).mpr b,fun j hj hg=>?_⟩
    rw [← h.held]
    exact c j (by omega) ((hs j).mp hg)
theorem Rl.stop (h:Rl g ls sd) {rs:List Row} {ns way:List Int} {m:Nat} {o:Option Int} (s:Stop rs ns ls way m o):Stop rs ns sd (sc g way) m o:=by
  have hf:∀ k,qaV rs (sc g way) k=qaV rs way k*g:=fun k=>by unfold qaV;rw [qd2,Int.neg_mul]
  have hs:∀ k,(0<qaV rs (sc g way) k↔0<qaV rs way k):=fun k=>by rw [hf];exact (qcn h.pos).1
  have g2:0<g*g:=Int.mul_pos (by have:=h.pos;omega) (by have:=h.pos;omega)
  have e:∀ k k',ovL (qad rs k) sd*qaV rs (sc g way) k'=ovL (qad rs k) ls*qaV rs way k'*(g*g):=fun k k'=>by rw [h.ov,hf];grind
  cases o with
  | none =>
    intro j k' hj hk
    have:=s j k' hj hk
    have:=hs k'
    omega
  | some k =>
    obtain ⟨i,hi,hk,hp,ha⟩:=s
    refine ⟨i,hi,hk,(hs k).mpr hp,fun j k' hj hk' hp'=>?_⟩
    obtain ⟨b1,b2⟩:=ha j k' hj hk' ((hs k').mp hp')
    rw [e,e]
    exact ⟨Int.mul_le_mul_of_nonneg_right b1 (by omega),fun c=>Int.mul_lt_mul_of_pos_right (b2 c) g2⟩
theorem Rl.stepOk (h:Rl g ls sd) {rs:List Row} {goal:List Int} {p:Nat} {q:Int} (s:StepOk rs goal ls p q):StepOk rs goal sd p q:=by
  rcases s with ⟨a,b⟩ | ⟨a,b,c⟩
  · exact .inl ⟨h.miss a,h.lg b⟩
  · refine .inr ⟨h.met a,h.lg b,?_⟩
    rw [h.way]
    exact h.stop c
end
def sgn (t:Int):Int:=if t<0 then -1 else 1
def trn (r:Row) (ls:Std) (p:Nat):Int:=dot r.1 (ls.ways.getD p [])
def frW (r:Row) (ls:Std) (p:Nat):List (List Int):=(List.range ls.held.length).map fun k=>if k=p then (ls.ways.getD p []).map (fun x=>sgn (trn r ls p)*ls.bot*x) else List.zipWith (fun x y=>sgn (trn r ls p)*(trn r ls p*x - dot r.1 (ls.ways.getD k [])*y)) (ls.ways.getD k []) (ls.ways.getD p [])
def frT (r:Row) (ls:Std) (p:Nat):List Int:=List.zipWith (fun x y=>sgn (trn r ls p)*(trn r ls p*x - ovL r ls*y)) ls.tops (ls.ways.getD p [])
def frB (r:Row) (ls:Std) (p:Nat):Int:=sgn (trn r ls p)*trn r ls p*ls.bot
def frN (r:Row) (ls:Std) (p:Nat):List Int:=frT r ls p++[frB r ls p]++(frW r ls p).flatten
def lxL (r:Row) (ls:Std) (p:Nat) (q:Int):Std:=⟨ls.held.take p++[q]++ls.held.drop (p+1),(frW r ls p).map fun w=>w.map (· / qa9 (frN r ls p)),(frT r ls p).map (· / qa9 (frN r ls p)),frB r ls p / qa9 (frN r ls p)⟩
theorem qnn {xs ys:List Int} (h:xs.length=ys.length) (e:∀ i,i<xs.length→xs.getD i 0=ys.getD i 0):xs=ys:=by
  refine List.ext_getElem h fun i h1 h2=>?_
  have:=e i h1
  rwa [qbw (qaA h1),qbw (qaA h2)] at this
theorem qfA {d c:Int} {l:List Int} (h:∀ x∈l,d∣c*x):d∣c*qa9 l:=by
  have key:∀ k:Nat,k≤l.length→d∣c*qa9 (l.take k):=by
    intro k
    induction k with
    | zero=>intro _;exact ⟨0,by show c*0=d*0;omega⟩
    | succ k ih =>
      intro hk
      have i:=ih (by omega)
      have hk':k<l.length:=by omega
      rw [qbc (qaA hk'),qbC]
      have h1:d∣((Int.gcd (c*l[k]) (c*qa9 (l.take k)):Nat):Int):=Int.dvd_coe_gcd (h _ (List.getElem_mem hk')) i
      rw [Int.gcd_mul_left] at h1
      push_cast at h1
      rcases Int.natAbs_eq c with e | e
      · rw [← e] at h1;exact h1
      · rw [show ((c.natAbs:Nat):Int) = -c by omega,Int.neg_mul] at h1
        exact Int.dvd_neg.mp h1
  have:=key l.length (Nat.le_refl _)
  rwa [List.take_length] at this
section
variable {g : Int} {ls sd : Std} {rs : List Row} {m p : Nat} {q : Int}
theorem fr_all (h:Rl g ls sd) (hrw:RsW rs m) (hf:Wf rs m sd) (hp:p<m) (q0:0≤q) (q1:q<rs.length) (ht:Wk.gr m (aL rs) (sdL sd) q.toNat p≠0) :
    (∀ k i,k<m→i<m→((frW (qad rs q) ls p).getD k []).getD i 0*g=((exL (qad rs q) sd p q).ways.getD k []).getD i 0*ls.bot) ∧
    (∀ i,i<m→(frT (qad rs q) ls p).getD i 0*g=(exL (qad rs q) sd p q).tops.getD i 0*ls.bot) ∧
    frB (qad rs q) ls p*g=(exL (qad rs q) sd p q).bot*ls.bot∧trn (qad rs q) ls p≠0:=by
  obtain ⟨_,eW,eX⟩:=hf.ok.pv_all hp (show q.toNat<rs.length by omega) ht
  have ex:=qkm hf hrw hp q0 q1
  rw [← ex] at eW eX
  have hg:=h.pos
  have hT:Wk.gr m (aL rs) (sdL sd) q.toNat p=trn (qad rs q) ls p*g:=by rw [← qkJ hf hrw q0 q1 hp,h.way,qd2];rfl
  have hO:∀ k,k<m→Wk.gr m (aL rs) (sdL sd) q.toNat k=dot (qad rs q).1 (ls.ways.getD k [])*g:=fun k hk=>by rw [← qkJ hf hrw q0 q1 hk,h.way,qd2]
  have hV:Wk.ov m (aL rs) (BL rs) (sdL sd) q.toNat=ovL (qad rs q) ls*g:=by rw [← qjn hf hrw q0 q1,h.ov]
  have hs:=(qcn (x:=trn (qad rs q) ls p) hg).2
  have hWl:∀ k i,(sdL sd).W k i=(ls.ways.getD k []).getD i 0*g:=fun k i=>by
    show (sd.ways.getD k []).getD i 0=_
    rw [h.way,qfi]
  have hXl:∀ i,(sdL sd).x i=ls.tops.getD i 0*g:=fun i=>by
    show sd.tops.getD i 0=_
    rw [h.tops,qfi]
  have hb:(sdL sd).b=ls.bot*g:=h.bot
  have hwy:∀ i,Wk.wy m (aL rs) (sdL sd) p q.toNat i=sgn (trn (qad rs q) ls p)*((ls.ways.getD p []).getD i 0*g):=fun i=>by
    unfold Wk.wy sgn
    rw [hT,hWl]
    by_cases c:trn (qad rs q) ls p<0
    · rw [if_pos (hs.mpr c),if_pos c];omega
    · rw [if_neg (fun z=>c (hs.mp z)),if_neg c];omega
  have hbp:(sdL (exL (qad rs q) sd p q)).b=sgn (trn (qad rs q) ls p)*(trn (qad rs q) ls p*g):=by
    rw [ex]
    show ((Wk.gr m (aL rs) (sdL sd) q.toNat p).natAbs:Int)=_
    rw [hT]
    unfold sgn
    by_cases c:trn (qad rs q) ls p<0
    · have:=hs.mpr c
      rw [if_pos c];omega
    · have:¬ trn (qad rs q) ls p*g<0:=fun z=>c (hs.mp z)
      rw [if_neg c];omega
  have hlw:∀ k,k<m→(ls.ways.getD k []).length=m:=fun k hk=>by
    have:=hf.ww _ (qaD (d:=[]) (show k<sd.ways.length by rw [hf.wl];exact hk))
    rwa [h.way,qci] at this
  have hlt:ls.tops.length=m:=by have:=hf.tl;rwa [h.tops,qci] at this
  have hlh:ls.held.length=m:=by rw [h.held];exact hf.hl
  refine ⟨fun k i hk hi=>?_,fun i hi=>?_,?_,fun e=>ht (by rw [hT,e];omega)⟩
  · have e1:(frW (qad rs q) ls p).getD k []=if k=p then (ls.ways.getD p []).map (fun x=>sgn (trn (qad rs q) ls p)*ls.bot*x) else List.zipWith (fun x y=>sgn (trn (qad rs q) ls p)*(trn (qad rs q) ls p*x - dot (qad rs q).1 (ls.ways.getD k [])*y)) (ls.ways.getD k []) (ls.ways.getD p []):=by
      unfold frW
      rw [List.getD_eq_getElem?_getD,List.getElem?_map,List.getElem?_range (by rw [hlh];exact hk)]
      rfl
    rw [e1]
    show _=(sdL (exL (qad rs q) sd p q)).W k i*ls.bot
    by_cases c:k=p
    · subst c
      rw [if_pos rfl,List.getD_eq_getElem?_getD,List.getElem?_map,qaR (d:=0) (show i<(ls.ways.getD k []).length by rw [hlw k hk];exact hi),ex]
      show sgn (trn (qad rs q) ls k)*ls.bot*(ls.ways.getD k []).getD i 0*g=(if k=k then Wk.wy m (aL rs) (sdL sd) k q.toNat i else _)*ls.bot
      rw [if_pos rfl,hwy]
      grind
    · rw [if_neg c,qfZ (by rw [hlw k hk];exact hi) (by rw [hlw p hp];exact hi)]
      have e:=eW k i hk c hi
      rw [hbp,hWl,hO k hk,hwy,hb] at e
      refine Int.eq_of_mul_eq_mul_right (a:=g) (by omega) ?_
      have e2:(sdL (exL (qad rs q) sd p q)).W k i*ls.bot*g=ls.bot*g*(sdL (exL (qad rs q) sd p q)).W k i:=by grind
      rw [e2,e]
      grind
  · show (frT (qad rs q) ls p).getD i 0*g=(sdL (exL (qad rs q) sd p q)).x i*ls.bot
    unfold frT
    rw [qfZ (by rw [hlt];exact hi) (by rw [hlw p hp];exact hi)]
    have e:=eX i hi
    rw [hbp,hXl,hV,hwy,hb] at e
    refine Int.eq_of_mul_eq_mul_right (a:=g) (by omega) ?_
    have e2:(sdL (exL (qad rs q) sd p q)).x i*ls.bot*g=ls.bot*g*(sdL (exL (qad rs q) sd p q)).x i:=by grind
    rw [e2,e]
    grind
  · show frB (qad rs q) ls p*g=(sdL (exL (qad rs q) sd p q)).b*ls.bot
    rw [hbp]
    unfold frB
    grind
theorem qkX (h:Rl g ls sd) (hf:Wf rs m sd) (hp:p<m) (r:Row):(frW r ls p).length=m∧(frT r ls p).length=m∧∀ w∈frW r ls p,w.length=m:=by
  have hlw:∀ k,k<m→(ls.ways.getD k []).length=m:=fun k hk=>by
    have:=hf.ww _ (qaD (d:=[]) (show k<sd.ways.length by rw [hf.wl];exact hk))
    rwa [h.way,qci] at this
  have hlt:ls.tops.length=m:=by have:=hf.tl;rwa [h.tops,qci] at this
  have hlh:ls.held.length=m:=by rw [h.held];exact hf.hl
  refine ⟨by unfold frW;rw [List.length_map,List.length_range,hlh],by unfold frT;rw [List.length_zipWith,hlt,hlw p hp,Nat.min_self],fun w hw=>?_⟩
  obtain ⟨k,hk,rfl⟩:=List.mem_map.mp hw
  have hk':=List.mem_range.mp hk
  rw [hlh] at hk'
  by_cases c:k=p
  · rw [if_pos c,List.length_map,hlw p hp]
  · rw [if_neg c,List.length_zipWith,hlw k hk',hlw p hp,Nat.min_self]
theorem Rl.step (h:Rl g ls sd) (hrw:RsW rs m) (hf:Wf rs m sd) (hf2:Wf rs m (exL (qad rs q) sd p q)) (hp:p<m) (q0:0≤q) (q1:q<rs.length) (ht:Wk.gr m (aL rs) (sdL sd) q.toNat p≠0) :
    1≤qa9 (frN (qad rs q) ls p)∧∃ g',Rl g' (lxL (qad rs q) ls p q) (exL (qad rs q) sd p q)∧qa9 (frN (qad rs q) ls p)*g=g'*ls.bot:=by
  obtain ⟨h1,h2,h3,h4⟩:=fr_all h hrw hf hp q0 q1 ht
  obtain ⟨l1,l2,l3⟩:=qkX h hf hp (qad rs q)
  have hg:=h.pos
  have b0:0<ls.bot:=by
    have:=hf.ok.pos
    rw [show (sdL sd).b=ls.bot*g from h.bot] at this
    exact (qcn hg).1.mp this
  have fb0:0<frB (qad rs q) ls p:=by
    have hp':(0:Int)<(exL (qad rs q) sd p q).bot:=hf2.ok.pos
    have:=Int.mul_pos hp' b0
    rw [← h3] at this
    exact (qcn hg).1.mp this
  have hdv:=qcQ (frN (qad rs q) ls p)
  have mB:frB (qad rs q) ls p∈frN (qad rs q) ls p:=by unfold frN;simp
  have mT:∀ x∈frT (qad rs q) ls p,x∈frN (qad rs q) ls p:=fun x hx=>by unfold frN;simp [hx]
  have mW:∀ w∈frW (qad rs q) ls p,∀ x∈w,x∈frN (qad rs q) ls p:=fun w hw x hx=>by
    unfold frN
    exact List.mem_append_right _ (List.mem_flatten.mpr ⟨w,hw,hx⟩)
  have G0:1≤qa9 (frN (qad rs q) ls p):=by
    have:=qc3 (frN (qad rs q) ls p)
    have:qa9 (frN (qad rs q) ls p)≠0:=fun e=>by
      have:=qd0 e _ mB
      omega
    omega
  have hall:∀ x∈frN (qad rs q) ls p,ls.bot∣g*x:=fun x hx=>by
    unfold frN at hx
    rcases List.mem_append.mp hx with hx | hx
    · rcases List.mem_append.mp hx with hx | hx
      · obtain ⟨i,hi⟩:=List.getElem?_of_mem hx
        have:=h2 i (by rw [← l2];exact qaF hi)
        rw [qbw hi] at this
        exact ⟨_,by rw [Int.mul_comm,this,Int.mul_comm]⟩
      · rw [List.mem_singleton.mp hx]
        exact ⟨_,by rw [Int.mul_comm,h3,Int.mul_comm]⟩
    · obtain ⟨w,hw,hx⟩:=List.mem_flatten.mp hx
      obtain ⟨k,hk⟩:=List.getElem?_of_mem hw
      obtain ⟨i,hi⟩:=List.getElem?_of_mem hx
      have:=h1 k i (by rw [← l1];exact qaF hk) (by rw [← l3 w hw];exact qaF hi)
      rw [qbw hk,qbw hi] at this
      exact ⟨_,by rw [Int.mul_comm,this,Int.mul_comm]⟩
  obtain ⟨g',hg'⟩:=qfA hall
  generalize hG:qa9 (frN (qad rs q) ls p)=G at *
  have key:∀ x y:Int,G∣x→x*g=y*ls.bot→y=x / G*g':=fun x y hx e=>by
    have e1:=Int.ediv_mul_cancel hx
    refine Int.eq_of_mul_eq_mul_right (a:=ls.bot) (by omega) ?_
    rw [← e]
    have e2:x / G*g'*ls.bot=x / G*(g*G):=by rw [hg'];grind
    rw [e2]
    have e3:x / G*(g*G)=x / G*G*g:=by grind
    rw [e3,e1]
  have g'1:1≤g':=by
    have:0<ls.bot*g':=by rw [← hg'];exact Int.mul_pos (by omega) (by omega)
    rcases Int.lt_or_le 0 g' with c | c
    · omega
    · have:=Wk.pn c (Int.le_of_lt b0)
      rw [Int.mul_comm] at this
      omega
  refine ⟨G0,g',⟨g'1,?_,?_,?_,?_⟩,by rw [Int.mul_comm,hg',Int.mul_comm]⟩
  · have hlh:ls.held.length=m:=by rw [h.held];exact hf.hl
    show ls.held.take p++[q]++ls.held.drop (p+1)=(List.range sd.ways.length).map fun o=>if o=p then q else sd.held.getD o 0
    refine qnn (by rw [List.length_append,List.length_append,List.length_take,List.length_drop,List.length_map,List.length_range,hf.wl,hlh];show min p m+1+(m - (p+1))=m;omega) fun i hi=>?_
    have hi':i<m:=by rw [List.length_append,List.length_append,List.length_take,List.length_drop,hlh] at hi;simp only [List.length_singleton] at hi;omega
    rw [List.getD_eq_getElem?_getD (l:=List.map _ _),List.getElem?_map,List.getElem?_range (by rw [hf.wl];exact hi')]
    show _=(if i=p then q else sd.held.getD i 0)
    rw [List.getD_eq_getElem?_getD]
    by_cases c:i<p
    · rw [if_neg (by omega),List.append_assoc,List.getElem?_append_left (by rw [List.length_take];omega),List.getElem?_take_of_lt c,← List.getD_eq_getElem?_getD,h.held]
    · by_cases c2:i=p
      · rw [if_pos c2,List.getElem?_append_left (by rw [List.length_append,List.length_take,List.length_singleton];omega),List.getElem?_append_right (by rw [List.length_take];omega),List.length_take,show i - min p ls.held.length=0 by omega]
        rfl
      · rw [if_neg c2,List.getElem?_append_right (by rw [List.length_append,List.length_take,List.length_singleton];omega),List.getElem?_drop,List.length_append,List.length_take,List.length_singleton,show p+1+(i - (min p ls.held.length+1))=i by omega,← List.getD_eq_getElem?_getD,h.held]
  · show (exL (qad rs q) sd p q).ways=((frW (qad rs q) ls p).map fun w=>w.map (· / qa9 (frN (qad rs q) ls p))).map (sc g')
    rw [hG,List.map_map]
    refine List.ext_getElem (by rw [hf2.wl,List.length_map,l1]) fun k k1 k2=>?_
    have hk:k<m:=by rw [← hf2.wl];exact k1
    have ek:(exL (qad rs q) sd p q).ways[k]=(exL (qad rs q) sd p q).ways.getD k []:=(qbw (qaA k1)).symm
    have ek2:(frW (qad rs q) ls p)[k]'(by rw [l1];exact hk)=(frW (qad rs q) ls p).getD k []:=(qbw (qaA _)).symm
    have wl2:=l3 _ (List.getElem_mem (show k<(frW (qad rs q) ls p).length by rw [l1];exact hk))
    rw [List.getElem_map,ek]
    show _=sc g' (((frW (qad rs q) ls p)[k]'(by rw [l1];exact hk)).map (· / G))
    have wl1:=hf2.ww _ (List.getElem_mem k1)
    rw [ek] at wl1
    refine qnn (by rw [qci,List.length_map,wl1,wl2]) fun i hi=>?_
    rw [wl1] at hi
    have hi2:i<((frW (qad rs q) ls p).getD k []).length:=by rw [← ek2,wl2];exact hi
    rw [qfi,ek2,List.getD_eq_getElem?_getD (l:=List.map _ _),List.getElem?_map,qaR (d:=0) hi2]
    refine key _ _ (hdv _ (mW _ (qaD (by rw [l1];exact hk)) _ (qaD hi2))) (h1 k i hk hi)
  · show (exL (qad rs q) sd p q).tops=sc g' ((frT (qad rs q) ls p).map (· / qa9 (frN (qad rs q) ls p)))
    rw [hG]
    refine qnn (by rw [qci,List.length_map,l2];exact hf2.tl) fun i hi=>?_
    rw [hf2.tl] at hi
    have hi2:i<(frT (qad rs q) ls p).length:=by rw [l2];exact hi
    rw [qfi,List.getD_eq_getElem?_getD (l:=List.map _ _),List.getElem?_map,qaR (d:=0) hi2]
    exact key _ _ (hdv _ (mT _ (qaD hi2))) (h2 i hi)
  · show (exL (qad rs q) sd p q).bot=frB (qad rs q) ls p / qa9 (frN (qad rs q) ls p)*g'
    rw [hG]
    exact key _ _ (hdv _ mB) h3
end
def asT:D→D
  | .lst l=>.tup l
  | d=>d
theorem qie {d:D} {l:List D} (h:asT d=.tup l):d=.tup l∨d=.lst l:=by
  cases d with
  | tup m=>exact .inl h
  | lst m=>refine .inr ?_;cases h;rfl
  | _=>cases h
def qbg:SpD:=fun ds R=>∃ (xs ys:List Int),ds.map asT=[.tup (xs.map D.int),.tup (ys.map D.int)]∧xs.length≤1000∧(∀ x∈xs,qco x)∧(∀ y∈ys,qco y)∧R (.int (dot xs ys))
theorem qeK {n:Nat} {f:Addr} {fd:FuncData} (F:Fun K "_law_times" "_law_times" qbB f fd) (z_sum:mg "sum"=none) (z_zip:mg "zip"=none):FnOk P w K mg base CX0 (n+1) f fd ["_law_entries","_law_numbers"] (lSp K qbg):=by
  refine F.okD qet (fun ds R h=>?_) (fun cdv A outer s H E ds R hr h=>?_)
  · obtain ⟨xs,ys,e,_⟩:=h
    have:=congrArg List.length e
    rw [List.length_map] at this
    exact this
  obtain ⟨xs,ys,e,hl,hx,hy,q⟩:=h
  obtain ⟨d1,d2,rfl⟩:∃ d1 d2,ds=[d1,d2]:=by
    have:=congrArg List.length e
    rw [List.length_map] at this
    match ds,this with
    | [d1,d2],_=>exact ⟨d1,d2,rfl⟩
  have e1:asT d1=.tup (xs.map D.int):=(List.cons.inj e).1
  have e2:asT d2=.tup (ys.map D.int):=(List.cons.inj (List.cons.inj e).2).1
  refine ⟨_,(qas (qaM (qaK (qmm rfl) rfl z_sum PyProof.Rows.boot_sum (qar (PD.q (PF.d (qaT (k:=2) (N':=["_law_entry","_law_number"]) (cap:=[none,none]) rfl (.ok (show qaP ["_law_entries","_law_numbers"] (qag qbB) _ ["_law_entry","_law_number"] [none,none]=true by decide +kernel)) (by decide +kernel) (qcy (n:=2) (qa0 (qaG (by decide)) (qa0 (qaG (by decide)) qcx))) (qek rfl z_zip (qab (dv 0) (qab (dv 1) qak qaa) qaa)) (fun _ _ _ _ _=>(qcs (n:=2) rfl (qav (qao (i:=0) (show List.Nodup (["_law_entry","_law_number"]:List Str) by decide +kernel) rfl (Or.inl rfl)) (qav (qao (i:=1) (show List.Nodup (["_law_entry","_law_number"]:List Str) by decide +kernel) rfl (Or.inl rfl)) qbD)))) (fun _ _ _ _ _=>(qaI qaX (dvq 0) (dvq 1)))))) qaB qal) qal qaf))),?_⟩
  rcases qie e1 with rfl | rfl <;> rcases qie e2 with rfl | rfl
  all_goals
    refine ⟨_,_,rfl,rfl,?_⟩
    refine qb1 (fun x y=>D.int (x*y)) (qap hl) (fun x hx' y hy'=>⟨rfl,qbq (hx x hx') (hy y hy'),rfl⟩) ?_
    exact ⟨List.zipWith (fun x y=>x*y) xs ys,by rw [List.map_zipWith];rfl,q⟩
def qb5:SpD:=fun ds R=>∃ (d:D) (ns:List Int),ds=[d]∧(d=.lst (ns.map D.int)∨d=.tup (ns.map D.int))∧R (.int (qa9 ns))
theorem qd5 {n:Nat} {f:Addr} {fd:FuncData} (F:Fun K "_law_shared" "_law_shared" qbJ f fd) (z_abs:mg "abs"=none):FnOk P w K mg base CX0 (n+1) f fd ["_law_numbers"] (lSp K qb5):=by
  refine F.okD sc__law_shared (fun ds R h=>?_) (fun cdv A outer s H E ds R hr h=>?_)
  · obtain ⟨d,ns,rfl,_⟩:=h;rfl
  obtain ⟨d,ns,rfl,hd,q⟩:=h
  refine ⟨_,(qaj (qau (i:=1) sc__law_shared.nd rfl (Or.inl rfl) qah)
      (qaj (qcF PassesOwn.never rfl (qbI (dv 0)) (qao (i:=2) sc__law_shared.nd rfl (Or.inl rfl)) (qaj (qau (i:=3) sc__law_shared.nd rfl (Or.inl rfl) (qaK qg7 rfl z_abs PyProof.Rows.boot_abs (qar (dvq 2) qaB qaa) qaa qaf))
      (qas (qeT PassesOwn.never (qaQ qkZ (dvq 3) (PD.q qah) (qaC _)) (qaj (qau (i:=4) sc__law_shared.nd rfl (Or.inl rfl) (qaI qft (dvq 1) (dvq 3)))
      (qaj (qau (i:=1) sc__law_shared.nd rfl (Or.inl rfl) (dv 3))
      (qas (qau (i:=3) sc__law_shared.nd rfl (Or.inl rfl) (dv 4)))))))))
      (qas (qaM (dv 1))))),?_⟩
  rcases hd with rfl | rfl
  · skip
    refine ⟨fun i ρ=>∃ u2 u3 u4:Option Sl,ρ=[some (.v (.lst (ns.map D.int))),some (.v (.int (qa9 (ns.take i)))),u2,u3,u4],⟨_,_,_,rfl⟩,?_,?_⟩
    · rintro i d ρ hd ⟨u2,u3,u4,rfl⟩
      obtain ⟨k,rfl,hk⟩:=qbZ hd
      have hnn:=qc3 (ns.take i)
      refine ⟨fun m ρ=>∃ (g l:Int) (u4:Option Sl),ρ=[some (.v (.lst (ns.map D.int))),some (.v (.int g)),some (.v (.int k)),some (.v (.int l)),u4]∧m=l.toNat∧0≤g∧0≤l∧Int.gcd g l=Int.gcd k (qa9 (ns.take i)),⟨_,_,_,_,rfl,rfl,hnn,by split <;> omega,?_⟩,?_⟩
      · have h1:(if k<0 then -k else k)=(k.natAbs:Int):=by split <;> omega
        rw [h1,Int.gcd_comm]
        unfold Int.gcd
        simp
      rintro m ρ ⟨g,l,u4,rfl,rfl,hg,hl,e⟩
      refine ⟨fun h=>?_,fun h=>?_⟩
      · have hl':0<l:=dP h
        have h1:=Int.emod_lt_of_pos g hl'
        have h2:=Int.emod_nonneg g (b:=l) (by omega)
        exact ⟨hl',(g % l).toNat,by omega,l,g % l,_,rfl,rfl,hl,h2,(qez hg hl').trans e⟩
      · have c0:l=0:=by
          have:=of_decide_eq_false h
          omega
        subst c0
        have e2:g=(Int.gcd k (qa9 (ns.take i)):Int):=by
          rw [← e]
          simp
          omega
        have e3:qa9 (ns.take (i+1))=g:=by rw [qbc hk,qbC,← e2]
        exact ⟨some (.v (.int k)),some (.v (.int 0)),u4,by rw [e3]⟩
    · rintro ρ ⟨u2,u3,u4,rfl⟩
      rw [List.length_map,List.take_length]
      exact q
  · skip
    refine ⟨fun i ρ=>∃ u2 u3 u4:Option Sl,ρ=[some (.v (.tup (ns.map D.int))),some (.v (.int (qa9 (ns.take i)))),u2,u3,u4],⟨_,_,_,rfl⟩,?_,?_⟩
    · rintro i d ρ hd ⟨u2,u3,u4,rfl⟩
      obtain ⟨k,rfl,hk⟩:=qbZ hd
      have hnn:=qc3 (ns.take i)
      refine ⟨fun m ρ=>∃ (g l:Int) (u4:Option Sl),ρ=[some (.v (.tup (ns.map D.int))),some (.v (.int g)),some (.v (.int k)),some (.v (.int l)),u4]∧m=l.toNat∧0≤g∧0≤l∧Int.gcd g l=Int.gcd k (qa9 (ns.take i)),⟨_,_,_,_,rfl,rfl,hnn,by split <;> omega,?_⟩,?_⟩
      · have h1:(if k<0 then -k else k)=(k.natAbs:Int):=by split <;> omega
        rw [h1,Int.gcd_comm]
        unfold Int.gcd
        simp
      rintro m ρ ⟨g,l,u4,rfl,rfl,hg,hl,e⟩
      refine ⟨fun h=>?_,fun h=>?_⟩
      · have hl':0<l:=dP h
        have h1:=Int.emod_lt_of_pos g hl'
        have h2:=Int.emod_nonneg g (b:=l) (by omega)
        exact ⟨hl',(g % l).toNat,by omega,l,g % l,_,rfl,rfl,hl,h2,(qez hg hl').trans e⟩
      · have c0:l=0:=by
          have:=of_decide_eq_false h
          omega
        subst c0
        have e2:g=(Int.gcd k (qa9 (ns.take i)):Int):=by
          rw [← e]
          simp
          omega
        have e3:qa9 (ns.take (i+1))=g:=by rw [qbc hk,qbC,← e2]
        exact ⟨some (.v (.int k)),some (.v (.int 0)),u4,by rw [e3]⟩
    · rintro ρ ⟨u2,u3,u4,rfl⟩
      rw [List.length_map,List.take_length]
      exact q
def qhW:SpD:=fun ds R=>∃ (rs:List Row) (goal:List Int) (m:Nat),ds=[.tup (rs.map qa3),.tup (goal.map D.int)]∧FirstOk rs goal m∧∀ sd st j d,Hist rs goal m (qd3 rs m) sd st j→Wf rs m sd→End rs goal sd d→R (.tup (st.map prD))
theorem qiJ {n:Nat} {f:Addr} {fd:FuncData} (F:Fun K "trail" "trail" qer f fd) (Q_walk:Cl P w K mg base n "walk" ["rows","goal"] qii):FnOk P w K mg base CX0 (n+1) f fd ["rows","goal"] (lSp K qhW):=by
  refine F.okD qiD (fun ds R h=>?_) (fun cdv A outer s H E ds R hr h=>?_)
  · obtain ⟨rs,goal,m,rfl,_⟩:=h;rfl
  obtain ⟨rs,goal,m,rfl,ho,q⟩:=h
  refine ⟨_,(qas (qaM (qaO (PD.q (qaq Q_walk hr rfl (qab (dv 0) (qab (dv 1) qak qaa) qaa) qaa (qae qaa qaf))) (PD.q qah) (fun _ _=>rfl)))),?_⟩
  exact ⟨rs,goal,m,rfl,ho,fun sd st j d hH hf he=>⟨_,rfl,q sd st j d hH hf he⟩⟩
def qdh:SpD:=fun ds R=>∃ i:Int,ds=[.int i]∧R (.bl true)
theorem qeZ {n:Nat} {f:Addr} {fd:FuncData} (F:Fun K "_law_whole" "_law_whole" qbU f fd) (z_isinstance:mg "isinstance"=none) (z_int:mg "int"=none) (z_bool:mg "bool"=none):FnOk P w K mg base CX0 (n+1) f fd ["_law_seen"] (lSp K qdh):=by
  refine F.okD qeP (fun ds R h=>?_) (fun cdv A outer s H E ds R hr h=>?_)
  · obtain ⟨i,rfl,_⟩:=h;rfl
  obtain ⟨i,rfl,q⟩:=h
  refine ⟨_,(qas (qaM (qnH (qiQ rfl z_isinstance (dvq 0) (qeM (v:=.ty "int") rfl z_int PyProof.Rows.boot_int rfl) qaa qaa) (qnc (qm5 (PD.q (qiQ rfl z_isinstance (dvq 0) (qeM (v:=.ty "bool") rfl z_bool PyProof.Rows.boot_bool rfl) qaa qaa))))))),?_⟩
  exact ⟨true,qlI i,fun _=>⟨false,qlM i,q⟩,fun h=>tf h⟩
def wL (w:List Int):D:=.lst (w.map D.int)
def lsD (s:Std):D:=.tup [.lst (s.held.map D.int),.lst (s.ways.map wL),.lst (s.tops.map D.int),.int s.bot]
structure Lb (m:Nat) (ls:Std):Prop where
  m8:m≤8
  hl:ls.held.length=m
  wl:ls.ways.length=m
  ww:∀ w∈ls.ways,w.length=m
  tl:ls.tops.length=m
  b0:0<ls.bot
  b:ls.bot.natAbs≤2 ^ 1360
  w:∀ w∈ls.ways,∀ x∈w,x.natAbs≤2 ^ 1360
  t:∀ x∈ls.tops,x.natAbs≤2 ^ 1540
structure Rb (m:Nat) (rs:List Row):Prop where
  len:∀ r∈rs,r.1.length=m
  eb:∀ r∈rs,∀ x∈r.1,x.natAbs≤2 ^ 167
  bb:∀ r∈rs,r.2.natAbs≤2 ^ 167
  M:rs.length≤100
theorem Lb.wk {m:Nat} {ls:Std} (h:Lb m ls) {k:Nat} (hk:k<m):(ls.ways.getD k []).length=m∧∀ x∈ls.ways.getD k [],x.natAbs≤2 ^ 1360:=by
  have:=qaD (d:=[]) (show k<ls.ways.length by rw [h.wl];exact hk)
  exact ⟨h.ww _ this,h.w _ this⟩
theorem Lb.at {m:Nat} {ls:Std} (h:Lb m ls) {k:Nat} {i:Int} (hk:k<m) (e:i=(k:Int)):atI (ls.ways.map wL) i=some (wL (ls.ways.getD k [])):=qbr (i:=k) (qaR (by rw [h.wl];exact hk)) e
theorem Lb.ht {m:Nat} {ls:Std} (h:Lb m ls) {k:Nat} {i:Int} (hk:k<m) (e:i=(k:Int)):atI (ls.held.map D.int) i=some (.int (ls.held.getD k 0)):=qbr (i:=k) (qaR (by rw [h.hl];exact hk)) e
def qbG:SpD:=fun ds R=>∃ (m:Nat) (ls:Std) (es:List Int) (d:D),ds=[.lst (ls.held.map D.int),.lst (ls.ways.map wL),d]∧asT d=.tup (es.map D.int)∧Lb m ls∧es.length=m∧(∀ x∈es,x.natAbs≤2 ^ 167)∧∀ o,Lg ls (gsL ls es) o→R (qnj o)
def LgI (ls:Std) (gs:List Int) (i:Nat):Option Nat→Prop
  | none=>∀ j,j<i→gs.getD j 0≤0
  | some p=>p<i∧0<gs.getD p 0∧∀ j,j<i→0<gs.getD j 0→ls.held.getD p 0≤ls.held.getD j 0
theorem LgI.all {ls:Std} {gs:List Int} {o:Option Nat} (h:LgI ls gs gs.length o):Lg ls gs o:=by cases o <;> exact h
theorem LgI.keep {ls:Std} {gs:List Int} {i:Nat} {o:Option Nat} (h:LgI ls gs i o) (k:gs.getD i 0≤0∨∃ p,o=some p∧ls.held.getD p 0≤ls.held.getD i 0):LgI ls gs (i+1) o:=by
  cases o with
  | none =>
    intro j hj
    by_cases c:j<i
    · exact h j c
    · rcases k with k | ⟨p,e,_⟩
      · rw [show j=i by omega];exact k
      · cases e
  | some p =>
    refine ⟨by have:=h.1;omega,h.2.1,fun j hj hg=>?_⟩
    by_cases c:j<i
    · exact h.2.2 j c hg
    · have:j=i:=by omega
      subst this
      rcases k with k | ⟨p',e,k⟩
      · omega
      · cases e;exact k
theorem LgI.take {ls:Std} {gs:List Int} {i:Nat} {o:Option Nat} (h:LgI ls gs i o) (hg:0<gs.getD i 0) (k:∀ p,o=some p→ls.held.getD i 0<ls.held.getD p 0):LgI ls gs (i+1) (some i):=by
  refine ⟨by omega,hg,fun j hj hj'=>?_⟩
  by_cases c:j<i
  · cases o with
    | none=>have:=h j c;omega
    | some p =>
      have:=h.2.2 j c hj'
      have:=k p rfl
      omega
  · rw [show j=i by omega];exact Int.le_refl _
theorem qcl {n:Nat} {f:Addr} {fd:FuncData} (F:Fun K "_law_least_growing" "_law_least_growing" qaY f fd) (Q__law_times:Cl P w K mg base n "_law_times" ["_law_entries","_law_numbers"] qbg) (z_range:mg "range"=none) (z_len:mg "len"=none):FnOk P w K mg base CX0 (n+1) f fd ["_law_held","_law_ways","_law_entries"] (lSp K qbG):=by
  refine F.okD sc__law_least_growing (fun ds R h=>?_) (fun cdv A outer s H E ds R hr h=>?_)
  · obtain ⟨m,ls,es,d,rfl,_⟩:=h;rfl
  obtain ⟨m,ls,es,d,rfl,hd,hb,hel,heb,q⟩:=h
  refine ⟨_,(qaj (qau (i:=3) sc__law_least_growing.nd rfl (Or.inl rfl) qbX)
      (qaj (qcF PassesOwn.never rfl (qa8 rfl z_range (qab (qaK qcG rfl z_len PySem.boot_len (qar (dvq 0) qaB qaa) qaa qaf) qak qam)) (qao (i:=4) sc__law_least_growing.nd rfl (Or.inl rfl)) (qas (qcp (PWD.td (qiP (qaQ qkZ (PD.q (qaq Q__law_times hr rfl (qab (dv 2) (qab (qaO (dvq 1) (dvq 4) (fun _ _=>rfl)) qak qac) qaa) qaa (qae qac qaf))) (PD.q qah) (qaC _)) (qgz (PWD.td (qk4 (qaQ qjx (dvq 3) (PD.q qbX) (qaC _)) (qfX (qaQ qgS (PD.q (qaO (dvq 0) (dvq 4) (fun _ _=>rfl))) (PD.q (qaO (dvq 0) (dvq 3) (fun _ _=>rfl))) (qaC _)))))))) (qas (qau (i:=3) sc__law_least_growing.nd rfl (Or.inl rfl) (dv 4))) qbd)))
      (qas (qaM (dv 3))))),?_⟩
  have hL:((ls.held.map D.int).length:Int)=(m:Int):=by rw [List.length_map,hb.hl]
  have m8:=hb.m8
  refine ⟨⟨by omega,by omega⟩,fun i ρ=>∃ (o:Option Nat) (u4:Option Sl),ρ=[some (.v (.lst (ls.held.map D.int))),some (.v (.lst (ls.ways.map wL))),some (.v d),some (.v (qnj o)),u4]∧LgI ls (gsL ls es) i o,⟨none,_,rfl,fun j h=>absurd h (by omega)⟩,?_,?_⟩
  · rintro i e ρ he ⟨o,u4,rfl,hI⟩
    obtain ⟨hi,rfl⟩:=qbb he
    have hi':i<m:=by omega
    obtain ⟨w1,w2⟩:=hb.wk hi'
    have eg:(gsL ls es).getD i 0=dot es (ls.ways.getD i []):=qdk (by rw [hb.wl];exact hi')
    refine ⟨_,hb.at hi' (Int.zero_add _),es,ls.ways.getD i [],by show [asT d,_]=_;rw [hd];rfl,by omega,fun x hx=>qba (heb x hx) (by decide),fun x hx=>qba (w2 x hx) (by decide),fun h=>?_,fun h=>⟨fun h=>ff h,fun _=>⟨o,_,rfl,hI.keep (.inl (by rw [eg];have:=of_decide_eq_false h;omega))⟩⟩⟩
    have hg:0<(gsL ls es).getD i 0:=by rw [eg];exact dP h
    cases o with
    | none=>exact ⟨fun _=>⟨fun _=>⟨some i,_,by rw [Int.zero_add];rfl,hI.take hg fun p e=>by cases e⟩,fun h=>tf h⟩,fun h=>(by cases h)⟩
    | some p =>
      have hp:p<m:=by have:=hI.1;omega
      refine ⟨fun h=>(by cases h),fun _=>⟨_,hb.ht hi' (Int.zero_add _),_,hb.ht hp rfl,fun h2=>⟨some i,_,by rw [Int.zero_add];rfl,hI.take hg fun p' e=>?_⟩,fun h2=>⟨some p,_,rfl,hI.keep (.inr ⟨p,rfl,?_⟩)⟩⟩⟩
      · cases e;exact dP h2
      · have:=of_decide_eq_false h2;omega
  · rintro ρ ⟨o,u4,rfl,hI⟩
    rw [qaN] at hI
    refine q o (LgI.all ?_)
    rw [qaU,hb.wl,show m=((ls.held.map D.int).length:Int).toNat by omega]
    exact hI
def qdP:SpD:=fun ds R=>∃ (m:Nat) (rs:List Row) (ls:Std) (way:List Int),ds=[.lst (rs.map qa3),lsD ls,wL way]∧Lb m ls∧Rb m rs∧way.length=m∧(∀ x∈way,x.natAbs≤2 ^ 1360)∧(∀ k∈ls.held,qaV rs way k≤0)∧(Stop rs (qbh rs.length) ls way rs.length none→R .non)∧∀ q a b,Stop rs (qbh rs.length) ls way rs.length (some q)→R (.tup [.int a,.int b,.int q])
abbrev kI (x:Int):Key:=.inl x
theorem qk0 (hs:List Int):(hs.map kI).map qlb=hs.map D.int:=by rw [List.map_map];rfl
theorem has_kI {x:Int} {hs:List Int}:qit (kI x) (hs.map kI)=true↔x∈hs:=by
  rw [qjz,List.mem_map]
  constructor
  · rintro ⟨y,hy,e⟩
    cases e
    exact hy
  · intro h
    exact ⟨x,h,rfl⟩
def qoF (rs:List Row) (ls:Std) (way:List Int):Option Int→D
  | none=>.non
  | some k=>.tup [.int (ovL (qad rs k) ls),.int (qaV rs way k),.int k]
theorem Rb.at {m:Nat} {rs:List Row} (h:Rb m rs) {k:Int} (h0:0≤k) (h1:k<rs.length):(qad rs k).1.length=m∧(∀ x∈(qad rs k).1,x.natAbs≤2 ^ 167)∧(qad rs k).2.natAbs≤2 ^ 167:=by
  have:=qa6 h0 h1
  exact ⟨h.len _ this,h.eb _ this,h.bb _ this⟩
theorem Lb.ovB {m:Nat} {ls:Std} {rs:List Row} (h:Lb m ls) (hr:Rb m rs) {k:Int} (h0:0≤k) (h1:k<rs.length):(ovL (qad rs k) ls).natAbs≤2 ^ 1711:=by
  obtain ⟨r1,r2,r3⟩:=hr.at h0 h1
  unfold ovL
  have a1:=qd1 h.m8 r1 h.tl r2 h.t
  have a2:((qad rs k).2*ls.bot).natAbs≤2 ^ 167*2 ^ 1360:=by rw [Int.natAbs_mul];exact Nat.mul_le_mul r3 h.b
  have e1:(2:Nat) ^ (167+1540+3)+2 ^ 167*2 ^ 1360≤2 ^ 1711:=by decide +kernel
  omega
theorem qfo {n:Nat} {f:Addr} {fd:FuncData} (F:Fun K "_law_stop" "_law_stop" qb8 f fd) (Q__law_times:Cl P w K mg base n "_law_times" ["_law_entries","_law_numbers"] qbg) (z_range:mg "range"=none) (z_len:mg "len"=none):FnOk P w K mg base CX0 (n+1) f fd ["_law_rows_here","_law_state","_law_way"] (lSp K qdP):=by
  refine F.okD sc__law_stop (fun ds R h=>?_) (fun cdv A outer s H E ds R hr h=>?_)
  · obtain ⟨m,rs,ls,way,rfl,_⟩:=h;rfl
  obtain ⟨m,rs,ls,way,rfl,hb,hr1,hwl,hwb,hfl,q0,q1⟩:=h
  refine ⟨_,(qaj (qih (dv 1) (qcs (n:=4) rfl (qav (qao (i:=3) sc__law_stop.nd rfl (Or.inl rfl)) (qav (qao (i:=4) sc__law_stop.nd rfl (Or.inl rfl)) (qav (qao (i:=5) sc__law_stop.nd rfl (Or.inl rfl)) (qav (qao (i:=6) sc__law_stop.nd rfl (Or.inl rfl)) qbD))))))
      (qaj (qau (i:=7) sc__law_stop.nd rfl (Or.inl rfl) qbX)
      (qaj (qcF PassesOwn.never rfl (qa8 rfl z_range (qab (qaK qcG rfl z_len PySem.boot_len (qar (dvq 0) qaB qaa) qaa qaf) qak qam)) (qao (i:=8) sc__law_stop.nd rfl (Or.inl rfl)) (qaj (qau (i:=9) sc__law_stop.nd rfl (Or.inl rfl) (qfE (PD.q (qaq Q__law_times hr rfl (qab (qaO (PD.q (qaO (dvq 0) (dvq 8) (fun _ _=>rfl))) (PD.q qah) (fun _ _=>rfl)) (qab (dv 2) qak qaa) qac) qac (qae qaa qaf)))))
      (qas (qcp (PWD.td (qiP (qaQ qkK (dvq 8) (dvq 3) (by with_unfolding_all rfl)) (qgz (qaQ qkZ (dvq 9) (PD.q qah) (qaC _))))) (qaj (qau (i:=10) sc__law_stop.nd rfl (Or.inl rfl) (qaI qcv (PD.q (qaq Q__law_times hr rfl (qab (qaO (PD.q (qaO (dvq 0) (dvq 8) (fun _ _=>rfl))) (PD.q qah) (fun _ _=>rfl)) (qab (dv 5) qak qaa) qac) qac (qae qaa qaf))) (PD.q (qaI qaX (PD.q (qaO (PD.q (qaO (dvq 0) (dvq 8) (fun _ _=>rfl))) (PD.q qah) (fun _ _=>rfl))) (dvq 6)))))
      (qas (qcp (PWD.td (qk4 (qaQ qjx (dvq 7) (PD.q qbX) (qaC _)) (qfX (qaQ qgS (PD.q (qaI qaX (dvq 10) (PD.q (qaO (dvq 7) (PD.q qah) (fun _ _=>rfl))))) (PD.q (qaI qaX (PD.q (qaO (dvq 7) (PD.q qah) (fun _ _=>rfl))) (dvq 9))) (qaC _))))) (qas (qau (i:=7) sc__law_stop.nd rfl (Or.inl rfl) (qbe (qab (dv 10) (qab (dv 9) (qab (dv 8) qak qaa) qaa) qaa)))) qbd))) qbd))))
      (qas (qaM (dv 7)))))),?_⟩
  have hL:((rs.map qa3).length:Int)=(rs.length:Int):=by rw [List.length_map]
  have hM:=hr1.M
  have m8:=hb.m8
  refine ⟨rfl,⟨by omega,by omega⟩,fun i ρ=>∃ (o:Option Int) (u8 u9 u10:Option Sl),ρ=[some (.v (.lst (rs.map qa3))),some (.v (lsD ls)),some (.v (wL way)),some (.v (.lst (ls.held.map D.int))),some (.v (.lst (ls.ways.map wL))),some (.v (.lst (ls.tops.map D.int))),some (.v (.int ls.bot)),some (.v (qoF rs ls way o)),u8,u9,u10]∧Stop rs (qbh rs.length) ls way i o,⟨none,_,_,_,rfl,fun j k' h=>absurd h (by omega)⟩,?_,?_⟩
  · rintro i e ρ he ⟨o,u8,u9,u10,rfl,hI⟩
    obtain ⟨hi,rfl⟩:=qbb he
    have hi':i<rs.length:=by omega
    have hk:=qcO hi'
    have q0':(0:Int)≤(i:Int):=by omega
    have q1':(i:Int)<rs.length:=by omega
    obtain ⟨r1,r2,r3⟩:=hr1.at q0' q1'
    have hrow:atI (rs.map qa3) (0+(i:Int))=some (qa3 (qad rs (i:Int))):=by rw [Int.zero_add];exact qcz q0' q1'
    have hbig:∀ x∈(qad rs (i:Int)).1,qco x:=fun x hx=>qba (r2 x hx) (by decide)
    have hfb:(qaV rs way (i:Int)).natAbs≤2 ^ 1530:=by
      unfold qaV
      rw [Int.natAbs_neg]
      exact qd1 m8 r1 hwl r2 hwb
    refine ⟨_,hrow,_,rfl,(qad rs (i:Int)).1,way,rfl,by omega,hbig,fun x hx=>qba (hwb x hx) (by decide),?_⟩
    refine ⟨kI (0+(i:Int)),ls.held.map kI,rfl,congrArg some (qk0 ls.held).symm,fun h=>?_,fun h=>⟨fun h=>ff h,fun _=>⟨o,_,_,_,rfl,hI.keep hk (hfl _ ?_)⟩⟩⟩
    · refine ⟨fun h2=>?_,fun h2=>⟨o,_,_,_,rfl,hI.keep hk (by have:=of_decide_eq_false h2;show - dot _ _≤0;omega)⟩⟩
      have hf:0<qaV rs way (i:Int):=dP h2
      refine ⟨_,hrow,_,rfl,(qad rs (i:Int)).1,ls.tops,rfl,by omega,hbig,fun x hx=>qba (hb.t x hx) (by decide),_,hrow,_,rfl,qbq (qba r3 (by decide)) (qba hb.b (by decide)),?_⟩
      cases o with
      | none=>exact ⟨fun _=>⟨fun _=>⟨some (i:Int),_,_,_,by rw [Int.zero_add];rfl,.take (fun j k' hj hk' hf'=>by have:=hI j k' hj hk';omega) hk hf⟩,fun h=>tf h⟩,fun h=>(by cases h)⟩
      | some k =>
        obtain ⟨j0,hj0,hk0,hf0,ha0⟩:=hI
        obtain ⟨rfl,hj1⟩:=qdt hk0
        have ok0:=hb.ovB hr1 (k:=(j0:Int)) (by omega) (by omega)
        have okI:=hb.ovB hr1 q0' q1'
        obtain ⟨s1,s2,s3⟩:=hr1.at (k:=(j0:Int)) (by omega) (by omega)
        have hfb0:(qaV rs way (j0:Int)).natAbs≤2 ^ 1530:=by
          unfold qaV
          rw [Int.natAbs_neg]
          exact qd1 m8 s1 hwl s2 hwb
        refine ⟨fun h=>(by cases h),fun _=>⟨_,rfl,qbq (qba okI (by decide)) (qba hfb0 (by decide)),_,rfl,qbq (qba ok0 (by decide)) (qba hfb (by decide)),fun h3=>⟨some (i:Int),_,_,_,by rw [Int.zero_add];rfl,.take (fun j k' hj hk' hf'=>?_) hk hf⟩,fun h3=>⟨some (j0:Int),_,_,_,rfl,?_⟩⟩⟩
        · exact qgM hf0 hf' hf (dP h3) (ha0 j k' hj hk' hf').1
        · have h3':¬ (ovL (qad rs (i:Int)) ls*qaV rs way (j0:Int)<ovL (qad rs (j0:Int)) ls*qaV rs way (i:Int)):=of_decide_eq_false h3
          refine ⟨j0,by omega,hk0,hf0,fun j k' hj hk' hf'=>?_⟩
          by_cases c:j<i
          · exact ha0 j k' c hk' hf'
          · have:j=i:=by omega
            subst this
            rw [hk] at hk'
            cases hk'
            exact ⟨by omega,fun c2=>absurd c2 (by omega)⟩
    · have h':(true != qit (kI (0+(i:Int))) (ls.held.map kI))=false:=h
      have:qit (kI (0+(i:Int))) (ls.held.map kI)=true:=by
        cases e:qit (kI (0+(i:Int))) (ls.held.map kI) with
        | true=>rfl
        | false=>rw [e] at h';cases h'
      rw [Int.zero_add] at this
      exact has_kI.mp this
  · rintro ρ ⟨o,u8,u9,u10,rfl,hI⟩
    rw [qaN,hL,Int.toNat_natCast] at hI
    cases o with
    | none=>exact q0 hI
    | some k=>exact q1 k _ _ hI
inductive Due (rs:List Row) (goal:List Int) (ls:Std):D→Prop
  | non (q:Int):Miss rs ls q→Lg ls (gsL ls (qad rs q).1) none→Due rs goal ls (.tup [.str "none",.int q,.int q])
  | best:Met rs ls→Lg ls (gsL ls goal) none→Due rs goal ls (.tup [.str "best",.int 0,.int 0])
  | endl (p:Nat):Met rs ls→Lg ls (gsL ls goal) (some p)→Stop rs (qbh rs.length) ls (ls.ways.getD p []) rs.length none→Due rs goal ls (.tup [.str "endless",.int p,.int p])
  | step (p:Nat) (q:Int):StepOk rs goal ls p q→Due rs goal ls (qeU p q)
def qel:SpD:=fun ds R=>∃ (m:Nat) (rs:List Row) (gs:List Int) (ls:Std),ds=[.lst (rs.map qa3),.lst (gs.map D.int),lsD ls]∧Lb m ls∧Rb m rs∧gs.length=m∧(∀ x∈gs,x.natAbs≤2 ^ 167)∧(∀ p,p<m→∀ k∈ls.held,qaV rs (ls.ways.getD p []) k≤0)∧∀ d,Due rs gs ls d→R d
theorem qfP {n:Nat} {f:Addr} {fd:FuncData} (F:Fun K "_law_due" "_law_due" qcu f fd) (Q__law_least_growing:Cl P w K mg base n "_law_least_growing" ["_law_held","_law_ways","_law_entries"] qbG) (Q__law_stop:Cl P w K mg base n "_law_stop" ["_law_rows_here","_law_state","_law_way"] qdP) (Q__law_times:Cl P w K mg base n "_law_times" ["_law_entries","_law_numbers"] qbg) (z_range:mg "range"=none) (z_len:mg "len"=none):FnOk P w K mg base CX0 (n+1) f fd ["_law_rows_here","_law_goal","_law_state"] (lSp K qel):=by
  refine F.okD sc__law_due (fun ds R h=>?_) (fun cdv A outer s H E ds R hr h=>?_)
  · obtain ⟨m,rs,gs,ls,rfl,_⟩:=h;rfl
  obtain ⟨m,rs,gs,ls,rfl,hb,hr1,hgl,hgb,hfl,q⟩:=h
  refine ⟨_,(qaj (qih (dv 2) (qcs (n:=4) rfl (qav (qao (i:=3) sc__law_due.nd rfl (Or.inl rfl)) (qav (qao (i:=4) sc__law_due.nd rfl (Or.inl rfl)) (qav (qao (i:=5) sc__law_due.nd rfl (Or.inl rfl)) (qav (qao (i:=6) sc__law_due.nd rfl (Or.inl rfl)) qbD))))))
      (qaj (qcF PassesOwn.never rfl (qa8 rfl z_range (qab (qaK qcG rfl z_len PySem.boot_len (qar (dvq 0) qaB qaa) qaa qaf) qak qam)) (qao (i:=7) sc__law_due.nd rfl (Or.inl rfl)) (qas (qcp (qaQ qgS (PD.q (qaq Q__law_times hr rfl (qab (qaO (PD.q (qaO (dvq 0) (dvq 7) (fun _ _=>rfl))) (PD.q qah) (fun _ _=>rfl)) (qab (dv 5) qak qaa) qac) qac (qae qaa qaf))) (PD.q (qaI qaX (PD.q (qaO (PD.q (qaO (dvq 0) (dvq 7) (fun _ _=>rfl))) (PD.q qah) (fun _ _=>rfl))) (dvq 6))) (qaC _)) (qaj (qau (i:=8) sc__law_due.nd rfl (Or.inl rfl) (qaq Q__law_least_growing hr rfl (qab (dv 3) (qab (dv 4) (qab (qaO (PD.q (qaO (dvq 0) (dvq 7) (fun _ _=>rfl))) (PD.q qah) (fun _ _=>rfl)) qak qac) qaa) qaa) qaa (qae qaa (qae qac qaf))))
      (qbL (qcp (qaQ qjx (dvq 8) (PD.q qbX) (qaC _)) (qas (qaM (qbe (qab qbo (qab (dv 7) (qab (dv 7) qak qaa) qaa) qai)))) qbd)
      (qas (qaM (qbe (qab qbo (qab (dv 8) (qab (dv 7) qak qaa) qaa) qai)))))) qbd)))
      (qaj (qau (i:=8) sc__law_due.nd rfl (Or.inl rfl) (qaq Q__law_least_growing hr rfl (qab (dv 3) (qab (dv 4) (qab (dv 1) qak qaa) qaa) qaa) qaa (qae qaa (qae qaa qaf))))
      (qbL (qcp (qaQ qjx (dvq 8) (PD.q qbX) (qaC _)) (qas (qaM (qbe (qab qbo (qab qah (qab qah qak qai) qai) qai)))) qbd)
      (qaj (qau (i:=9) sc__law_due.nd rfl (Or.inl rfl) (qaq Q__law_stop hr rfl (qab (dv 0) (qab (dv 2) (qab (qaO (dvq 4) (dvq 8) (fun _ _=>rfl)) qak qac) qaa) qaa) qaa (qae qaa (qae qac qaf))))
      (qbL (qcp (qaQ qjx (dvq 9) (PD.q qbX) (qaC _)) (qas (qaM (qbe (qab qbo (qab (dv 8) (qab (dv 8) qak qaa) qaa) qai)))) qbd)
      (qas (qaM (qbe (qab qbo (qab (dv 8) (qab (qaO (dvq 9) (PD.q qah) (fun _ _=>rfl)) qak qac) qaa) qai)))))))))),?_⟩
  have hL:((rs.map qa3).length:Int)=(rs.length:Int):=by rw [List.length_map]
  have hM:=hr1.M
  have m8:=hb.m8
  refine ⟨rfl,⟨by omega,by omega⟩,fun i ρ=>∃ (u7 u8:Option Sl),ρ=[some (.v (.lst (rs.map qa3))),some (.v (.lst (gs.map D.int))),some (.v (lsD ls)),some (.v (.lst (ls.held.map D.int))),some (.v (.lst (ls.ways.map wL))),some (.v (.lst (ls.tops.map D.int))),some (.v (.int ls.bot)),u7,u8,none]∧∀ r:Int,0≤r→r<i→0≤ovL (qad rs r) ls,⟨_,_,rfl,fun r h0 h1=>absurd h1 (by omega)⟩,?_,?_⟩
  · rintro i e ρ he ⟨u7,u8,rfl,hI⟩
    obtain ⟨hi,rfl⟩:=qbb he
    have q0':(0:Int)≤(i:Int):=by omega
    have q1':(i:Int)<rs.length:=by omega
    obtain ⟨r1,r2,r3⟩:=hr1.at q0' q1'
    have hrow:atI (rs.map qa3) (0+(i:Int))=some (qa3 (qad rs (i:Int))):=by rw [Int.zero_add];exact qcz q0' q1'
    have hbig:∀ x∈(qad rs (i:Int)).1,qco x:=fun x hx=>qba (r2 x hx) (by decide)
    refine ⟨_,hrow,_,rfl,(qad rs (i:Int)).1,ls.tops,rfl,by omega,hbig,fun x hx=>qba (hb.t x hx) (by decide),_,hrow,_,rfl,qbq (qba r3 (by decide)) (qba hb.b (by decide)),fun h=>?_,fun h=>⟨_,_,rfl,fun r h0 h1=>?_⟩⟩
    · have hm:Miss rs ls (i:Int):=⟨⟨q0',q1'⟩,by have:=dP h;unfold ovL;omega,fun r h0 h1=>hI r h0 h1⟩
      refine ⟨_,hrow,_,rfl,m,ls,(qad rs (i:Int)).1,_,rfl,rfl,hb,r1,r2,fun o ho=>?_⟩
      cases o with
      | none=>exact ⟨fun _=>False,⟨fun _=>by rw [Int.zero_add];exact q _ (.non _ hm ho),fun h=>(by cases h)⟩,fun _ h=>h.elim⟩
      | some p=>exact ⟨fun ρ=>ρ=[some (.v (.lst (rs.map qa3))),some (.v (.lst (gs.map D.int))),some (.v (lsD ls)),some (.v (.lst (ls.held.map D.int))),some (.v (.lst (ls.ways.map wL))),some (.v (.lst (ls.tops.map D.int))),some (.v (.int ls.bot)),some (.v (.int (0+(i:Int)))),some (.v (.int (p:Int))),none],⟨fun h=>(by cases h),fun _=>rfl⟩,by rintro ρ rfl;rw [Int.zero_add];exact q _ (.step p _ (.inl ⟨hm,ho⟩))⟩
    · by_cases c:r<(i:Int)
      · exact hI r h0 c
      · have:r=(i:Int):=by omega
        subst this
        have:=of_decide_eq_false h
        unfold ovL
        omega
  · rintro ρ ⟨u7,u8,rfl,hI⟩
    have hmet:Met rs ls:=fun r h0 h1=>hI r h0 (by rw [qaN,hL];omega)
    refine ⟨m,ls,gs,_,rfl,rfl,hb,hgl,hgb,fun o ho=>?_⟩
    cases o with
    | none=>exact ⟨fun _=>False,⟨fun _=>q _ (.best hmet ho),fun h=>(by cases h)⟩,fun _ h=>h.elim⟩
    | some p =>
      have hp:p<m:=by have:=ho.1;rw [qaU,hb.wl] at this;exact this
      obtain ⟨w1,w2⟩:=hb.wk hp
      refine ⟨fun ρ=>ρ=[some (.v (.lst (rs.map qa3))),some (.v (.lst (gs.map D.int))),some (.v (lsD ls)),some (.v (.lst (ls.held.map D.int))),some (.v (.lst (ls.ways.map wL))),some (.v (.lst (ls.tops.map D.int))),some (.v (.int ls.bot)),u7,some (.v (.int (p:Int))),none],⟨fun h=>(by cases h),fun _=>rfl⟩,?_⟩
      rintro ρ rfl
      refine ⟨_,hb.at hp rfl,m,rs,ls,ls.ways.getD p [],rfl,hb,hr1,w1,w2,hfl p hp,fun hs=>?_,fun qn a b hs=>?_⟩
      · exact ⟨fun _=>False,⟨fun _=>q _ (.endl p hmet ho hs),fun h=>(by cases h)⟩,fun _ h=>h.elim⟩
      · refine ⟨fun ρ=>ρ=[some (.v (.lst (rs.map qa3))),some (.v (.lst (gs.map D.int))),some (.v (lsD ls)),some (.v (.lst (ls.held.map D.int))),some (.v (.lst (ls.ways.map wL))),some (.v (.lst (ls.tops.map D.int))),some (.v (.int ls.bot)),u7,some (.v (.int (p:Int))),some (.v (.tup [.int a,.int b,.int qn]))],⟨fun h=>(by cases h),fun _=>rfl⟩,?_⟩
        rintro ρ rfl
        exact ⟨_,rfl,q _ (.step p qn (.inr ⟨hmet,ho,hs⟩))⟩
def qdQ:SpD:=fun ds R=>∃ (m:Nat) (ls:Std) (es:List Int) (d:D),ds=[.lst (ls.held.map D.int),.lst (ls.ways.map wL),d]∧asT d=.tup (es.map D.int)∧Lb m ls∧es.length=m∧(∀ x∈es,x.natAbs≤2 ^ 167)∧R (.lst ((qbF ls (gsL ls es)).map prD))
theorem qe9 {n:Nat} {f:Addr} {fd:FuncData} (F:Fun K "_law_owed" "_law_owed" qb9 f fd) (Q__law_times:Cl P w K mg base n "_law_times" ["_law_entries","_law_numbers"] qbg) (z_range:mg "range"=none) (z_len:mg "len"=none):FnOk P w K mg base CX0 (n+1) f fd ["_law_held","_law_ways","_law_entries"] (lSp K qdQ):=by
  refine F.okD sc__law_owed (fun ds R h=>?_) (fun cdv A outer s H E ds R hr h=>?_)
  · obtain ⟨m,ls,es,d,rfl,_⟩:=h;rfl
  obtain ⟨m,ls,es,d,rfl,hd,hb,hel,heb,q⟩:=h
  refine ⟨_,(qaj (qgQ (i:=3) sc__law_owed.nd rfl (Or.inl rfl) (qbm qak))
      (qaj (qcF PassesOwn.never rfl (qa8 rfl z_range (qab (qaK qcG rfl z_len PySem.boot_len (qar (dvq 0) qaB qaa) qaa qaf) qak qam)) (qao (i:=4) sc__law_owed.nd rfl (Or.inl rfl)) (qas (qcp (qaQ qgS (PD.q (qaq Q__law_times hr rfl (qab (dv 2) (qab (qaO (dvq 1) (dvq 4) (fun _ _=>rfl)) qak qac) qaa) qaa (qae qac qaf))) (PD.q qah) (qaC _)) (qas (qbz 3 (qbe (qab (qaO (dvq 0) (dvq 4) (fun _ _=>rfl)) (qab (qfE (PD.q (qaq Q__law_times hr rfl (qab (dv 2) (qab (qaO (dvq 1) (dvq 4) (fun _ _=>rfl)) qak qac) qaa) qaa (qae qac qaf)))) qak qc4) qac)) (qcB qby) qby)) qbd)))
      (qg2 3 (qas (qaM (dv 3)))))),?_⟩
  have hL:((ls.held.map D.int).length:Int)=(m:Int):=by rw [List.length_map,hb.hl]
  have m8:=hb.m8
  refine ⟨⟨by omega,by omega⟩,fun i ρ=>∃ (u4:Option Sl),ρ=[some (.v (.lst (ls.held.map D.int))),some (.v (.lst (ls.ways.map wL))),some (.v d),some (.own ((((List.range i).filter fun i=>decide ((gsL ls es).getD i 0<0)).map fun i=>(ls.held.getD i 0,- (gsL ls es).getD i 0)).map prD)),u4],⟨_,rfl⟩,?_,?_⟩
  · rintro i e ρ he ⟨u4,rfl⟩
    obtain ⟨hi,rfl⟩:=qbb he
    have hi':i<m:=by omega
    obtain ⟨w1,w2⟩:=hb.wk hi'
    have eg:(gsL ls es).getD i 0=dot es (ls.ways.getD i []):=qdk (by rw [hb.wl];exact hi')
    have hes:∀ x∈es,qco x:=fun x hx=>qba (heb x hx) (by decide)
    have hws:∀ x∈ls.ways.getD i [],qco x:=fun x hx=>qba (w2 x hx) (by decide)
    have hll:(((List.range i).filter fun i=>decide ((gsL ls es).getD i 0<0)).map fun i=>(ls.held.getD i 0,- (gsL ls es).getD i 0)).length≤i:=by
      rw [List.length_map]
      have:=List.length_filter_le (fun i=>decide ((gsL ls es).getD i 0<0)) (List.range i)
      rwa [List.length_range] at this
    refine ⟨_,hb.at hi' (Int.zero_add _),es,ls.ways.getD i [],by show [asT d,_]=_;rw [hd];rfl,by omega,hes,hws,fun h=>?_,fun h=>⟨some (.v (.int (0+(i:Int)))),?_⟩⟩
    · have h':(gsL ls es).getD i 0<0:=by rw [eg];exact dP h
      refine ⟨_,hb.ht hi' (Int.zero_add _),_,hb.at hi' (Int.zero_add _),es,ls.ways.getD i [],by show [asT d,_]=_;rw [hd];rfl,by omega,hes,hws,?_,_,qcm prD _ (ls.held.getD i 0,-dot es (ls.ways.getD i [])),some (.v (.int (0+(i:Int)))),?_⟩
      · rw [List.length_map];exact qap (by omega)
      · have eP:((List.range (i+1)).filter fun i=>decide ((gsL ls es).getD i 0<0)).map (fun i=>(ls.held.getD i 0,- (gsL ls es).getD i 0))=((List.range i).filter fun i=>decide ((gsL ls es).getD i 0<0)).map (fun i=>(ls.held.getD i 0,- (gsL ls es).getD i 0))++[(ls.held.getD i 0,-dot es (ls.ways.getD i []))]:=by
          rw [List.range_succ,List.filter_append,List.map_append,show [i].filter (fun i=>decide ((gsL ls es).getD i 0<0))=[i] by simp only [List.filter_cons,decide_eq_true h',List.filter_nil];rfl,← eg]
          rfl
        rw [eP]
        rfl
    · have h':¬ (gsL ls es).getD i 0<0:=by rw [eg];exact of_decide_eq_false h
      rw [List.range_succ,List.filter_append,show [i].filter (fun i=>decide ((gsL ls es).getD i 0<0))=[] by simp only [List.filter_cons,decide_eq_false h',List.filter_nil];rfl,List.append_nil]
      rfl
  · rintro ρ ⟨u4,rfl⟩
    rw [qaN,show ((ls.held.map D.int).length:Int).toNat=(gsL ls es).length by rw [qaU,hb.wl];omega]
    exact q
def qcf:SpD:=fun ds R=>∃ (m:Nat) (rs:List Row) (ls:Std) (p:Nat) (qn:Int),ds=[.lst (rs.map qa3),lsD ls,.int (p:Int),.int qn]∧Lb m ls∧Rb m rs∧p<m∧0≤qn∧qn<rs.length∧1≤qa9 (frN (qad rs qn) ls p)∧qa9 (frN (qad rs qn) ls p)<2 ^ 9000∧R (lsD (lxL (qad rs qn) ls p qn))
def fw (r:Row) (ls:Std) (p k:Nat):List Int:=if k=p then (ls.ways.getD p []).map (fun x=>sgn (trn r ls p)*ls.bot*x) else List.zipWith (fun x y=>sgn (trn r ls p)*(trn r ls p*x - dot r.1 (ls.ways.getD k [])*y)) (ls.ways.getD k []) (ls.ways.getD p [])
theorem qjN {r:Row} {ls:Std} {p k:Nat} (h:k<ls.held.length):(frW r ls p)[k]?=some (fw r ls p k):=by
  unfold frW
  rw [List.getElem?_map,List.getElem?_range h]
  rfl
theorem qmB (t:Int):-(2 ^ 64)<sgn t∧sgn t<2 ^ 64∧∀ x:Int,(sgn t*x).natAbs=x.natAbs:=by
  unfold sgn
  split
  · exact ⟨by decide,by decide,fun x=>by omega⟩
  · exact ⟨by decide,by decide,fun x=>by omega⟩
theorem qgi {m:Nat}:∀ {ws:List (List Int)},(∀ w∈ws,w.length=m)→ws.flatten.length=ws.length*m
  | [],_=>by simp
  | w::ws,h=>by
    rw [List.flatten_cons,List.length_append,h w List.mem_cons_self,qgi fun x hx=>h x (List.mem_cons_of_mem _ hx),List.length_cons,Nat.add_mul]
    omega
theorem qc8 {n:Nat} {f:Addr} {fd:FuncData} (F:Fun K "_law_exchanged" "_law_exchanged" qaE f fd) (Q__law_times:Cl P w K mg base n "_law_times" ["_law_entries","_law_numbers"] qbg) (Q__law_shared:Cl P w K mg base n "_law_shared" ["_law_numbers"] qb5) (z_range:mg "range"=none) (z_len:mg "len"=none) (z_zip:mg "zip"=none):FnOk P w K mg base CX0 (n+1) f fd ["_law_rows_here","_law_state","_law_at","_law_i"] (lSp K qcf):=by
  refine F.okD sc__law_exchanged (fun ds R h=>?_) (fun cdv A outer s H E ds R hr h=>?_)
  · obtain ⟨m,rs,ls,p,qn,rfl,_⟩:=h;rfl
  obtain ⟨m,rs,ls,p,qn,rfl,hb,hr1,hp,q0,q1,G1,G9,q⟩:=h
  refine ⟨_,(qaj (qih (dv 1) (qcs (n:=4) rfl (qav (qao (i:=4) sc__law_exchanged.nd rfl (Or.inl rfl)) (qav (qao (i:=5) sc__law_exchanged.nd rfl (Or.inl rfl)) (qav (qao (i:=6) sc__law_exchanged.nd rfl (Or.inl rfl)) (qav (qao (i:=7) sc__law_exchanged.nd rfl (Or.inr rfl)) qbD))))))
      (qaj (qau (i:=8) sc__law_exchanged.nd rfl (Or.inr rfl) (qaq Q__law_times hr rfl (qab (qaO (PD.q (qaO (dvq 0) (dvq 3) (fun _ _=>rfl))) (PD.q qah) (fun _ _=>rfl)) (qab (qaO (dvq 5) (dvq 2) (fun _ _=>rfl)) qak qac) qac) qac (qae qac qaf)))
      (qaj (qau (i:=9) sc__law_exchanged.nd rfl (Or.inr rfl) (qaI qcv (PD.q (qaq Q__law_times hr rfl (qab (qaO (PD.q (qaO (dvq 0) (dvq 3) (fun _ _=>rfl))) (PD.q qah) (fun _ _=>rfl)) (qab (dv 6) qak qaa) qac) qac (qae qaa qaf))) (PD.q (qaI qaX (PD.q (qaO (PD.q (qaO (dvq 0) (dvq 3) (fun _ _=>rfl))) (PD.q qah) (fun _ _=>rfl))) (dvq 7)))))
      (qaj (qau (i:=10) sc__law_exchanged.nd rfl (Or.inr rfl) qah)
      (qbL (qcp (qaQ qgS (dvq 8) (PD.q qah) (qaC _)) (qas (qau (i:=10) sc__law_exchanged.nd rfl (Or.inr rfl) (qfE (PD.q qah)))) qbd)
      (qaj (qgQ (i:=11) sc__law_exchanged.nd rfl (Or.inl rfl) (qbm qak))
      (qaj (qcF PassesOwn.never rfl (qa8 rfl z_range (qab (qaK qcG rfl z_len PySem.boot_len (qar (dvq 4) qaB qaa) qaa qaf) qak qam)) (qao (i:=12) sc__law_exchanged.nd rfl (Or.inl rfl)) (qaj (qau (i:=13) sc__law_exchanged.nd rfl (Or.inr rfl) (qaq Q__law_times hr rfl (qab (qaO (PD.q (qaO (dvq 0) (dvq 3) (fun _ _=>rfl))) (PD.q qah) (fun _ _=>rfl)) (qab (qaO (dvq 5) (dvq 12) (fun _ _=>rfl)) qak qac) qac) qac (qae qac qaf)))
      (qas (qcp (qaQ (qfK hr.units) (dvq 12) (dvq 2) (qaC _)) (qas (qbz 11 (PF.d (qaT (k:=1) (N':=["_law_number","_law_sign","_law_base"]) (cap:=[none,some 10,some 7]) rfl (.ok (show qaP ["_law_rows_here","_law_state","_law_at","_law_i","_law_held","_law_ways","_law_tops","_law_base","_law_turn","_law_spare","_law_sign","_law_fresh","_law_k","_law_other","_law_numbers","_law_way","_law_shared_here"] (qag qaE) _ ["_law_number","_law_sign","_law_base"] [none,some 10,some 7]=true by decide +kernel)) (by decide +kernel) (qaG (by decide)) (qbI (qaO (dvq 5) (dvq 2) (fun _ _=>rfl))) (fun _ _ _ _ _=>(qao (i:=0) (show List.Nodup (["_law_number","_law_sign","_law_base"]:List Str) by decide +kernel) rfl (Or.inl rfl))) (fun _ _ _ _ _=>(qaI qaX (PD.q (qaI qaX (dvq 1) (dvq 2))) (dvq 0))))) (qcB qal) qal)) (qas (qbz 11 (PF.d (qaT (k:=2) (N':=["_law_one","_law_two","_law_sign","_law_turn","_law_other"]) (cap:=[none,none,some 10,some 8,some 13]) rfl (.ok (show qaP ["_law_rows_here","_law_state","_law_at","_law_i","_law_held","_law_ways","_law_tops","_law_base","_law_turn","_law_spare","_law_sign","_law_fresh","_law_k","_law_other","_law_numbers","_law_way","_law_shared_here"] (qag qaE) _ ["_law_one","_law_two","_law_sign","_law_turn","_law_other"] [none,none,some 10,some 8,some 13]=true by decide +kernel)) (by decide +kernel) (qcy (n:=2) (qa0 (qaG (by decide)) (qa0 (qaG (by decide)) qcx))) (qek rfl z_zip (qab (qaO (dvq 5) (dvq 12) (fun _ _=>rfl)) (qab (qaO (dvq 5) (dvq 2) (fun _ _=>rfl)) qak qac) qac)) (fun _ _ _ _ _=>(qcs (n:=2) rfl (qav (qao (i:=0) (show List.Nodup (["_law_one","_law_two","_law_sign","_law_turn","_law_other"]:List Str) by decide +kernel) rfl (Or.inl rfl)) (qav (qao (i:=1) (show List.Nodup (["_law_one","_law_two","_law_sign","_law_turn","_law_other"]:List Str) by decide +kernel) rfl (Or.inl rfl)) qbD)))) (fun _ _ _ _ _=>(qaI qaX (dvq 2) (PD.q (qaI qcv (PD.q (qaI qaX (dvq 3) (dvq 0))) (PD.q (qaI qaX (dvq 4) (dvq 1))))))))) (qcB qal) qal))))))
      (qaj (qdO (i:=6) (k:=2) (N':=["_law_one","_law_two","_law_sign","_law_turn","_law_spare"]) (cap:=[none,none,some 10,some 8,some 9]) rfl sc__law_exchanged.nd rfl (Or.inl rfl) (.ok (show qaP ["_law_rows_here","_law_state","_law_at","_law_i","_law_held","_law_ways","_law_tops","_law_base","_law_turn","_law_spare","_law_sign","_law_fresh","_law_k","_law_other","_law_numbers","_law_way","_law_shared_here"] (qag qaE) _ ["_law_one","_law_two","_law_sign","_law_turn","_law_spare"] [none,none,some 10,some 8,some 9]=true by decide +kernel)) (by decide +kernel) (qcy (n:=2) (qa0 (qaG (by decide)) (qa0 (qaG (by decide)) qcx))) (qek rfl z_zip (qab (dv 6) (qab (qaO (dvq 5) (dvq 2) (fun _ _=>rfl)) qak qac) qaa)) (fun _ _ _ _ _=>(qcs (n:=2) rfl (qav (qao (i:=0) (show List.Nodup (["_law_one","_law_two","_law_sign","_law_turn","_law_spare"]:List Str) by decide +kernel) rfl (Or.inl rfl)) (qav (qao (i:=1) (show List.Nodup (["_law_one","_law_two","_law_sign","_law_turn","_law_spare"]:List Str) by decide +kernel) rfl (Or.inl rfl)) qbD)))) (fun _ _ _ _ _=>(qaI qaX (dvq 2) (PD.q (qaI qcv (PD.q (qaI qaX (dvq 3) (dvq 0))) (PD.q (qaI qaX (dvq 4) (dvq 1))))))))
      (qaj (qau (i:=7) sc__law_exchanged.nd rfl (Or.inr rfl) (qaI qaX (PD.q (qaI qaX (dvq 10) (dvq 8))) (dvq 7)))
      (qaj (qau (i:=14) sc__law_exchanged.nd rfl (Or.inl rfl) (qaI qbv (dvq 6) (PD.q (PF.d (qbm (qab (dv 7) qak qaa))))))
      (qg2 11 (qaj (qcF PassesOwn.never rfl (qbI (dv 11)) (qao (i:=15) sc__law_exchanged.nd rfl (Or.inl rfl)) (qas (qau (i:=14) sc__law_exchanged.nd rfl (Or.inl rfl) (qaI qbv (dvq 14) (dvq 15)))))
      (qaj (qau (i:=16) sc__law_exchanged.nd rfl (Or.inr rfl) (qaq Q__law_shared hr rfl (qab (dv 14) qak qaa) qaa qaf))
      (qg2 11 (qaj (qjt (i:=11) (k:=1) (N':=["_law_way","_law_shared_here"]) (cap:=[none,some 16]) rfl sc__law_exchanged.nd rfl (Or.inl rfl) (.ok (show qaP ["_law_rows_here","_law_state","_law_at","_law_i","_law_held","_law_ways","_law_tops","_law_base","_law_turn","_law_spare","_law_sign","_law_fresh","_law_k","_law_other","_law_numbers","_law_way","_law_shared_here"] (qag qaE) _ ["_law_way","_law_shared_here"] [none,some 16]=true by decide +kernel)) (by decide +kernel) (qaG (by decide)) (qbI (dv 11)) (fun _ _ _ _ _=>(qao (i:=0) (show List.Nodup (["_law_way","_law_shared_here"]:List Str) by decide +kernel) rfl (Or.inl rfl))) (fun _ _ _ _ _=>(PF.d (qaT (k:=1) (N':=["_law_number","_law_shared_here"]) (cap:=[none,some 1]) rfl (.ok (show qaP ["_law_way","_law_shared_here"] _ _ ["_law_number","_law_shared_here"] [none,some 1]=true from by rfl)) (by decide +kernel) (qaG (by decide)) (qbI (dv 0)) (fun _ _ _ _ _=>(qao (i:=0) (show List.Nodup (["_law_number","_law_shared_here"]:List Str) by decide +kernel) rfl (Or.inl rfl))) (fun _ _ _ _ _=>(qaI qbp (dvq 0) (dvq 1)))))))
      (qg2 11 (qas (qaM (qbe (qab (qaI qbv (PD.q (qaI qbv (PD.q (qmW (dvq 4) qgB (qgL (dvq 2)))) (PD.q (PF.d (qbm (qab (dv 3) qak qaa)))))) (PD.q (qmW (dvq 4) (qgL (PD.q (qaI qbv (dvq 2) (PD.q qah)))) qgB))) (qab (dv 11) (qab (PF.d (qaT (k:=1) (N':=["_law_top","_law_shared_here"]) (cap:=[none,some 16]) rfl (.ok (show qaP ["_law_rows_here","_law_state","_law_at","_law_i","_law_held","_law_ways","_law_tops","_law_base","_law_turn","_law_spare","_law_sign","_law_fresh","_law_k","_law_other","_law_numbers","_law_way","_law_shared_here"] (qag qaE) _ ["_law_top","_law_shared_here"] [none,some 16]=true by decide +kernel)) (by decide +kernel) (qaG (by decide)) (qbI (dv 6)) (fun _ _ _ _ _=>(qao (i:=0) (show List.Nodup (["_law_top","_law_shared_here"]:List Str) by decide +kernel) rfl (Or.inl rfl))) (fun _ _ _ _ _=>(qaI qbp (dvq 0) (dvq 1))))) (qab (qaI qbp (dvq 7) (dvq 16)) qak qay) qal) qaa) qay)))))))))))))))))))),?_⟩
  have m8:=hb.m8
  obtain ⟨r1,r2,r3⟩:=hr1.at q0 q1
  obtain ⟨wp1,wp2⟩:=hb.wk hp
  have hrow:atI (rs.map qa3) qn=some (qa3 (qad rs qn)):=qcz q0 q1
  have hbig:∀ x∈(qad rs qn).1,qco x:=fun x hx=>qba (r2 x hx) (by decide)
  have hwb:∀ k,k<m→∀ x∈ls.ways.getD k [],qco x:=fun k hk x hx=>qba ((hb.wk hk).2 x hx) (by decide)
  have htb:∀ x∈ls.tops,qco x:=fun x hx=>qba (hb.t x hx) (by decide)
  have hdb:∀ k,k<m→qco (dot (qad rs qn).1 (ls.ways.getD k [])):=fun k hk=>qba (qd1 m8 r1 (hb.wk hk).1 r2 (hb.wk hk).2) (by decide)
  have hob:qco (ovL (qad rs qn) ls):=qba (hb.ovB hr1 q0 q1) (by decide)
  have hL:((ls.held.map D.int).length:Int)=(m:Int):=by rw [List.length_map,hb.hl]
  obtain ⟨sg1,sg2,sg3⟩:=qmB (trn (qad rs qn) ls p)
  have fl:(frW (qad rs qn) ls p).length=m:=by unfold frW;rw [List.length_map,List.length_range,hb.hl]
  have fwl:∀ k,k<m→(fw (qad rs qn) ls p k).length=m:=fun k hk=>by
    unfold fw
    split
    · rw [List.length_map,wp1]
    · rw [List.length_zipWith,(hb.wk hk).1,wp1,Nat.min_self]
  have fml:∀ w∈frW (qad rs qn) ls p,w.length=m:=fun w hw=>by
    obtain ⟨k,hk⟩:=List.getElem?_of_mem hw
    have hk':k<m:=by rw [← fl];exact qaF hk
    rw [qjN (by rw [hb.hl];exact hk')] at hk
    cases hk
    exact fwl k hk'
  have ftl:(frT (qad rs qn) ls p).length=m:=by unfold frT;rw [List.length_zipWith,hb.tl,wp1,Nat.min_self]
  refine ⟨rfl,_,hrow,_,rfl,_,hb.at hp rfl,(qad rs qn).1,ls.ways.getD p [],rfl,by omega,hbig,hwb p hp,?_⟩
  refine ⟨_,hrow,_,rfl,(qad rs qn).1,ls.tops,rfl,by omega,hbig,htb,_,hrow,_,rfl,qbq (qba r3 (by decide)) (qba hb.b (by decide)),?_⟩
  refine ⟨fun ρ=>ρ=[some (.v (.lst (rs.map qa3))),some (.v (lsD ls)),some (.v (.int (p:Int))),some (.v (.int qn)),some (.v (.lst (ls.held.map D.int))),some (.v (.lst (ls.ways.map wL))),some (.v (.lst (ls.tops.map D.int))),some (.v (.int ls.bot)),some (.v (.int (trn (qad rs qn) ls p))),some (.v (.int (ovL (qad rs qn) ls))),some (.v (.int (sgn (trn (qad rs qn) ls p)))),none,none,none,none,none,none],⟨fun h=>?_,fun h=>?_⟩,?_⟩
  · have:sgn (trn (qad rs qn) ls p) = -1:=if_pos (dP h)
    rw [this];rfl
  · have:sgn (trn (qad rs qn) ls p)=1:=if_neg (of_decide_eq_false h)
    rw [this];rfl
  rintro ρ rfl
  refine ⟨⟨by omega,by omega⟩,fun i ρ=>∃ (u12 u13:Option Sl),ρ=[some (.v (.lst (rs.map qa3))),some (.v (lsD ls)),some (.v (.int (p:Int))),some (.v (.int qn)),some (.v (.lst (ls.held.map D.int))),some (.v (.lst (ls.ways.map wL))),some (.v (.lst (ls.tops.map D.int))),some (.v (.int ls.bot)),some (.v (.int (trn (qad rs qn) ls p))),some (.v (.int (ovL (qad rs qn) ls))),some (.v (.int (sgn (trn (qad rs qn) ls p)))),some (.own (((frW (qad rs qn) ls p).take i).map wL)),u12,u13,none,none,none],⟨_,_,rfl⟩,?_,?_⟩
  · rintro i e ρ he ⟨u12,u13,rfl⟩
    obtain ⟨hi,rfl⟩:=qbb he
    have hi':i<m:=by omega
    have hfi:=qjN (r:=qad rs qn) (ls:=ls) (p:=p) (k:=i) (by rw [hb.hl];exact hi')
    have hsz:(((frW (qad rs qn) ls p).take i).map wL).length<sizeLine:=by rw [List.length_map,List.length_take];exact qap (by omega)
    refine ⟨_,hrow,_,rfl,_,hb.at hi' (Int.zero_add _),(qad rs qn).1,ls.ways.getD i [],rfl,by omega,hbig,hwb i hi',fun h=>?_,fun h=>?_⟩
    · have ei:i=p:=by have:=eq_of_beq h;omega
      refine ⟨_,hb.at hp rfl,?_⟩
      refine qbk (fun x=>D.int (sgn (trn (qad rs qn) ls p)*ls.bot*x)) (qap (by omega)) (fun x hx=>⟨qb0 sg1 sg2,qbq (qba (show (sgn (trn (qad rs qn) ls p)*ls.bot).natAbs≤2 ^ 1360 by rw [sg3];exact hb.b) (by decide)) (hwb p hp x hx),rfl⟩) ?_
      refine ⟨hsz,((frW (qad rs qn) ls p).take (i+1)).map wL,?_,_,_,rfl⟩
      rw [qbc hfi,List.map_append]
      congr 1
      show _=[wL (fw (qad rs qn) ls p i)]
      unfold fw wL
      rw [if_pos ei,List.map_map]
      rfl
    · have ei:i≠p:=fun e=>by
        have:((0+(i:Int)) == (p:Int))=true:=by rw [e,Int.zero_add];exact beq_self_eq_true _
        have h':((0+(i:Int)) == (p:Int))=false:=h
        rw [this] at h'
        cases h'
      refine ⟨_,hb.at hi' (Int.zero_add _),_,hb.at hp rfl,_,_,rfl,rfl,?_⟩
      refine qb1 (fun x y=>D.int (sgn (trn (qad rs qn) ls p)*(trn (qad rs qn) ls p*x - dot (qad rs qn).1 (ls.ways.getD i [])*y))) (qap (by rw [(hb.wk hi').1];omega)) (fun x hx y hy=>⟨rfl,qbq (hdb p hp) (hwb i hi' x hx),qbq (hdb i hi') (hwb p hp y hy),qb0 sg1 sg2,rfl⟩) ?_
      refine ⟨hsz,((frW (qad rs qn) ls p).take (i+1)).map wL,?_,_,_,rfl⟩
      rw [qbc hfi,List.map_append]
      congr 1
      show _=[wL (fw (qad rs qn) ls p i)]
      unfold fw wL
      rw [if_neg ei,List.map_zipWith]
  rintro ρ ⟨u12,u13,rfl⟩
  rw [qaN,show ((ls.held.map D.int).length:Int).toNat=(frW (qad rs qn) ls p).length by rw [fl];omega,List.take_length]
  refine ⟨_,hb.at hp rfl,_,_,rfl,rfl,?_⟩
  refine qb1 (fun x y=>D.int (sgn (trn (qad rs qn) ls p)*(trn (qad rs qn) ls p*x - ovL (qad rs qn) ls*y))) (qap (by rw [hb.tl];omega)) (fun x hx y hy=>⟨rfl,qbq (hdb p hp) (htb x hx),qbq hob (hwb p hp y hy),qb0 sg1 sg2,rfl⟩) ?_
  have eT:List.zipWith (fun x y=>D.int (sgn (trn (qad rs qn) ls p)*(trn (qad rs qn) ls p*x - ovL (qad rs qn) ls*y))) ls.tops (ls.ways.getD p [])=(frT (qad rs qn) ls p).map D.int:=by
    unfold frT
    rw [List.map_zipWith]
  rw [eT]
  refine ⟨qb0 sg1 sg2,qbq (show qco (sgn (trn (qad rs qn) ls p)*trn (qad rs qn) ls p) by show (sgn (trn (qad rs qn) ls p)*trn (qad rs qn) ls p).natAbs<_;rw [sg3];exact hdb p hp) (qba hb.b (by decide)),?_,_,qcm D.int (frT (qad rs qn) ls p) (frB (qad rs qn) ls p),?_⟩
  · rw [List.length_map,ftl];exact small (by show m+1≤1000;omega)
  refine ⟨fun i ρ=>∃ (u15:Option Sl),ρ=[some (.v (.lst (rs.map qa3))),some (.v (lsD ls)),some (.v (.int (p:Int))),some (.v (.int qn)),some (.v (.lst (ls.held.map D.int))),some (.v (.lst (ls.ways.map wL))),some (.v (.lst ((frT (qad rs qn) ls p).map D.int))),some (.v (.int (frB (qad rs qn) ls p))),some (.v (.int (trn (qad rs qn) ls p))),some (.v (.int (ovL (qad rs qn) ls))),some (.v (.int (sgn (trn (qad rs qn) ls p)))),some (.v (.lst ((frW (qad rs qn) ls p).map wL))),u12,u13,some (.v (.lst ((frT (qad rs qn) ls p++[frB (qad rs qn) ls p]++((frW (qad rs qn) ls p).take i).flatten).map D.int))),u15,none],⟨_,by rw [List.take_zero,List.flatten_nil,List.append_nil];rfl⟩,?_,?_⟩
  · rintro i e ρ he ⟨u15,rfl⟩
    obtain ⟨w,rfl,hw⟩:=qbZ he
    have hi:i<m:=by rw [← fl];exact qaF hw
    have hfl:=qgi (ws:=(frW (qad rs qn) ls p).take i) (m:=m) fun w hw=>fml w (List.mem_of_mem_take hw)
    rw [List.length_take] at hfl
    have hww:=fml w (List.mem_of_getElem? hw)
    have h64:min i (frW (qad rs qn) ls p).length*m≤64:=Nat.le_trans (Nat.mul_le_mul (show min i (frW (qad rs qn) ls p).length≤8 by omega) m8) (by decide)
    refine ⟨?_,_,qlo D.int _ w,some (.v (wL w)),?_⟩
    · rw [List.length_map,List.length_map,List.length_append,List.length_append,ftl,hfl,hww];exact small (by show m+1+_+m≤1000;omega)
    · rw [qbc hw,List.flatten_append,List.append_assoc _ _ w]
      simp only [List.flatten_cons,List.flatten_nil,List.append_nil]
      rfl
  rintro ρ ⟨u15,rfl⟩
  rw [List.length_map,List.take_length]
  refine ⟨_,frN (qad rs qn) ls p,rfl,.inl rfl,?_⟩
  have hcd:∀ x:Int,CDivB x (qa9 (frN (qad rs qn) ls p)):=fun x=>CDivB.of (by omega) G9
  refine qbk (fun w=>wL (w.map (· / qa9 (frN (qad rs qn) ls p)))) (qap (by omega)) (fun w hw=>?_) ?_
  · refine qbk (fun x=>D.int (x / qa9 (frN (qad rs qn) ls p))) (qap (by rw [fml w hw];omega)) (fun x hx=>⟨hcd x,rfl⟩) ?_
    show D.lst _=D.lst ((w.map _).map D.int)
    rw [List.map_map]
    rfl
  have eW:(frW (qad rs qn) ls p).map (fun w=>wL (w.map (· / qa9 (frN (qad rs qn) ls p))))=((frW (qad rs qn) ls p).map fun w=>w.map (· / qa9 (frN (qad rs qn) ls p))).map wL:=by rw [List.map_map];rfl
  rw [eW]
  have ec1:qey (ls.held.map D.int) none (some (p:Int))=(ls.held.take p).map D.int:=by rw [qdr,qgn]
  have ec2:qey (ls.held.map D.int) (some ((p:Int)+1)) none=(ls.held.drop (p+1)).map D.int:=by
    rw [qdr,show (p:Int)+1=((p+1:Nat):Int) by push_cast;rfl,qgu]
  refine ⟨_,ec1,?_,_,qcm D.int _ qn,_,ec2,?_,_,qlo D.int _ _,?_⟩
  · rw [List.length_map,List.length_take];exact small (by show min p ls.held.length+1≤1000;omega)
  · rw [List.length_map,List.length_map,List.length_append,List.length_take,List.length_drop,hb.hl];exact small (by show min p m+1+(m - (p+1))≤1000;omega)
  refine qbk (fun x=>D.int (x / qa9 (frN (qad rs qn) ls p))) (qap (by omega)) (fun x hx=>⟨hcd x,rfl⟩) ?_
  have eT2:(frT (qad rs qn) ls p).map (fun x=>D.int (x / qa9 (frN (qad rs qn) ls p)))=((frT (qad rs qn) ls p).map (· / qa9 (frN (qad rs qn) ls p))).map D.int:=by rw [List.map_map];rfl
  rw [eT2]
  exact ⟨hcd _,q⟩
theorem qiq (g:Int) (hg:0≤g) (l:List Int):qa9 (sc g l)=qa9 l*g:=by
  have key:∀ k:Nat,k≤l.length→qa9 ((sc g l).take k)=qa9 (l.take k)*g:=by
    intro k
    induction k with
    | zero=>intro _;show (0:Int)=0*g;omega
    | succ k ih =>
      intro hk
      have hk':k<l.length:=by omega
      have e:(sc g l)[k]?=some (l[k]*g):=by unfold sc;rw [List.getElem?_map,qaA hk'];rfl
      rw [qbc e,qbc (qaA hk'),qbC,qbC,ih (by omega),Int.gcd_mul_right]
      push_cast
      rw [Int.natAbs_of_nonneg hg]
  have:=key l.length (Nat.le_refl _)
  rwa [List.take_length,List.take_of_length_le (by rw [qci];exact Nat.le_refl _)] at this
theorem qgO {x y g:Int} (hg:1≤g):x*g / (y*g)=x / y:=Int.mul_ediv_mul_of_pos_left x y (by omega)
theorem qjW {g:Int} (hg:1≤g) (l:List Int) (y:Int):(sc g l).map (· / (y*g))=l.map (· / y):=by
  unfold sc
  rw [List.map_map]
  exact List.map_congr_left fun x _=>qgO hg
theorem qhT {g:Int} (hg:1≤g) (l:List Int) (b:Int):qce (sc g l) (b*g)=qce l b*g:=by
  unfold qce
  rw [qiq g (by omega),Int.gcd_mul_right]
  push_cast
  rw [Int.natAbs_of_nonneg (by omega)]
section
variable {g : Int} {ls sd : Std}
theorem Rl.low (h:Rl g ls sd):qhe sd.tops sd.bot=qhe ls.tops ls.bot:=by
  unfold qhe
  rw [h.tops,h.bot,qhT h.pos,qjW h.pos,qgO h.pos]
theorem Rl.fall (h:Rl g ls sd) (es:List Int):qbF sd (gsL sd es)=(qbF ls (gsL ls es)).map fun x=>(x.1,x.2*g):=by
  unfold qbF
  rw [List.map_map]
  have hl:(gsL sd es).length=(gsL ls es).length:=by rw [h.gs,qci]
  have ha:∀ i,(gsL sd es).getD i 0=(gsL ls es).getD i 0*g:=fun i=>by rw [h.gs,qfi]
  have hf:(fun i=>decide ((gsL sd es).getD i 0<0))=fun i=>decide ((gsL ls es).getD i 0<0):=by
    funext i
    rw [ha]
    exact decide_eq_decide.mpr (qcn h.pos).2
  rw [hl,hf]
  refine List.map_congr_left fun i _=>?_
  show (sd.held.getD i 0,-(gsL sd es).getD i 0)=(ls.held.getD i 0,-(gsL ls es).getD i 0*g)
  rw [ha,h.held,Int.neg_mul]
theorem Rl.shG (h:Rl g ls sd) (es:List Int):Kx.shG sd (gsL sd es)=Kx.shG ls (gsL ls es)*g:=by
  unfold Kx.shG
  have e:(qbF sd (gsL sd es)).map (·.2)=sc g ((qbF ls (gsL ls es)).map (·.2)):=by
    rw [h.fall]
    unfold sc
    rw [List.map_map,List.map_map]
    rfl
  rw [e,h.bot,qhT h.pos]
theorem Rl.shP (h:Rl g ls sd) (es:List Int):Kx.shP sd (gsL sd es)=Kx.shP ls (gsL ls es):=by
  unfold Kx.shP
  rw [h.shG,h.fall,List.map_map]
  refine List.map_congr_left fun x _=>?_
  show (x.1,x.2*g / (Kx.shG ls (gsL ls es)*g))=_
  rw [qgO h.pos]
theorem Rl.shD (h:Rl g ls sd) (es:List Int):Kx.shD sd (gsL sd es)=Kx.shD ls (gsL ls es):=by
  unfold Kx.shD
  rw [h.shG,h.bot,qgO h.pos]
theorem Rl.end_ (h:Rl g ls sd) {rs:List Row} {goal:List Int} {d:D} (e:End rs goal ls d):End rs goal sd d:=by
  cases e with
  | non q qs h1 h2 h3 h4=>exact .non q qs (h.miss h1) (h.lg h2) (by rw [h.shP,h.shD];exact h3) h4
  | best qs h1 h2 h3 h4 =>
    rw [← h.low,← h.shD]
    exact .best qs (h.met h1) (h.lg h2) (by rw [h.shP];exact h3) h4
  | endl p h1 h2 h3 =>
    have e:(ls.ways.getD p []).map (· / qa9 (ls.ways.getD p []))=(sd.ways.getD p []).map (· / qa9 (sd.ways.getD p [])):=by
      rw [h.way,qiq g (by have:=h.pos;omega),qjW h.pos]
    rw [← h.low,e]
    exact .endl p (h.met h1) (h.lg h2) (by rw [h.way];exact h.stop h3)
end
theorem qdD:∀ {xs ys:List (Int × Int)},xs.Perm ys→xs.Pairwise (fun a b=>a.1<b.1)→ys.Pairwise (fun a b=>a.1<b.1)→xs=ys
  | [],ys,h,_,_=>(List.Perm.nil_eq h)
  | x::xs,[],h,_,_=>absurd h (by intro h;have:=h.length_eq;simp at this)
  | x::xs,y::ys,h,hx,hy=>by
    have hx':=List.pairwise_cons.mp hx
    have hy':=List.pairwise_cons.mp hy
    have e:x=y:=by
      have m1:x∈y::ys:=h.mem_iff.mp List.mem_cons_self
      have m2:y∈x::xs:=h.mem_iff.mpr List.mem_cons_self
      rcases List.mem_cons.mp m1 with c | c
      · exact c
      · rcases List.mem_cons.mp m2 with d | d
        · exact d.symm
        · have:=hy'.1 x c
          have:=hx'.1 y d
          omega
    subst e
    rw [qdD (List.Perm.cons_inv h) hx'.2 hy'.2]
theorem End.uniq {rs:List Row} {goal:List Int} {sd:Std} {d d':D} (hn:sd.held.Nodup) (hl:sd.held.length=sd.ways.length) (h:End rs goal sd d) (h':End rs goal sd d'):d=d':=by
  cases h with
  | non q qs a1 a2 a3 a4 =>
    cases h' with
    | non q' qs' b1 b2 b3 b4 =>
      have e:=a1.uniq b1
      subst e
      rw [qdD (a3.trans b3.symm) a4 b4]
    | best qs' b1 b2 b3 b4=>exact (a1.met b1).elim
    | endl p' b1 b2 b3=>exact (a1.met b1).elim
  | best qs a1 a2 a3 a4 =>
    cases h' with
    | non q' qs' b1 b2 b3 b4=>exact (b1.met a1).elim
    | best qs' b1 b2 b3 b4=>rw [qdD (a3.trans b3.symm) a4 b4]
    | endl p' b1 b2 b3=>exact (b2.off a2).elim
  | endl p a1 a2 a3 =>
    cases h' with
    | non q' qs' b1 b2 b3 b4=>exact (b1.met a1).elim
    | best qs' b1 b2 b3 b4=>exact (a2.off b2).elim
    | endl p' b1 b2 b3 =>
      have e:=a2.uniq hn (by rw [qaU];exact hl) b2
      subst e
      rfl
theorem qgk {f:D→D→Option Bool}:∀ {xs:List D},(∀ x∈xs,f x x=some true)→cmL f xs xs=some true
  | [],_=>rfl
  | x::xs,h=>by
    show ((f x x).bind fun b=>(cmL f xs xs).map (b && ·))=_
    rw [h x List.mem_cons_self,qgk fun y hy=>h y (List.mem_cons_of_mem _ hy)]
    rfl
theorem qir {n:Nat} (i:Int):cmB (n+1) (.int i) (.int i)=some true:=by
  show some (i == i)=_
  rw [beq_self_eq_true]
theorem qc6 {n:Nat} {xs:List D} (h:∀ x∈xs,cmB n x x=some true):cmB (n+1) (.tup xs) (.tup xs)=some true:=qgk h
theorem End.same {rs:List Row} {goal:List Int} {sd:Std} {d:D} (h:End rs goal sd d):cmB 40 d d=some true:=by
  have hi:∀ (n:Nat) (l:List Int),cmB (n+2) (.tup (l.map D.int)) (.tup (l.map D.int))=some true:=fun n l=>qc6 fun x hx=>by
    obtain ⟨i,_,rfl⟩:=List.mem_map.mp hx
    exact qir i
  have hr:∀ p:Row,cmB 39 (qa3 p) (qa3 p)=some true:=fun p=>qc6 fun x hx=>by
    rcases List.mem_cons.mp hx with rfl | hx
    · exact hi 36 p.1
    · rw [List.mem_singleton.mp hx];exact qir _
  have hq:∀ qs:List (Int × Int),cmB 39 (.tup (qs.map prD)) (.tup (qs.map prD))=some true:=fun qs=>qc6 fun x hx=>by
    obtain ⟨y,_,rfl⟩:=List.mem_map.mp hx
    exact hi 36 [y.1,y.2]
  have hs:∀ s:Str,cmB 39 (.str s) (.str s)=some true:=fun s=>by
    show some (s == s)=_
    rw [beq_self_eq_true]
  cases h with
  | non q qs _ _ _ _ =>
    exact qc6 fun x hx=>by
      rcases List.mem_cons.mp hx with rfl | hx
      · exact hs _
      · rw [List.mem_singleton.mp hx];exact hq qs
  | best qs _ _ _ _ =>
    exact qc6 fun x hx=>by
      rcases List.mem_cons.mp hx with rfl | hx
      · exact hs _
      · rcases List.mem_cons.mp hx with rfl | hx
        · exact hr _
        · rcases List.mem_cons.mp hx with rfl | hx
          · exact hq qs
          · rw [List.mem_singleton.mp hx];exact qir _
  | endl p _ _ _ =>
    exact qc6 fun x hx=>by
      rcases List.mem_cons.mp hx with rfl | hx
      · exact hs _
      · rcases List.mem_cons.mp hx with rfl | hx
        · exact hr _
        · rw [List.mem_singleton.mp hx];exact hi 37 _
def qej:SpD:=fun ds R=>∃ (m:Nat) (rs:List Row) (gs:List Int) (ls:Std) (du:D),ds=[.lst (rs.map qa3),.lst (gs.map D.int),lsD ls,du]∧Lb m ls∧Rb m rs∧gs.length=m∧(∀ x∈gs,x.natAbs≤2 ^ 167)∧ls.held.Nodup∧(∀ q,Miss rs ls q→q∉ls.held)∧Due rs gs ls du∧(∀ p q,du≠qeU p q)∧∀ d,End rs gs ls d→R d
theorem qeA (ts:List Int) (b:Int):qa9 (ts++[b])=qce ts b:=by
  rw [qbC,Int.gcd_comm]
  rfl
theorem ql7 {ts:List Int} {b:Int} (h:0<b):qce ts b≤b:=Int.le_of_dvd h (qje (ts:=ts) (b:=b)).2
theorem qkY (sd:Std) (l:List (Int × Int)) (q b:Int):qa9 ((l++[(q,b)]).map (·.2))=qce (l.map (·.2)) b:=by
  rw [List.map_append]
  exact qeA _ _
theorem qhn (l:List (Int × Int)) (f:Int):(l.map fun x=>prD (x.1,x.2 / f))=(l.map fun x=>(x.1,x.2 / f)).map prD:=by rw [List.map_map];rfl
theorem qfU {n:Nat} {f:Addr} {fd:FuncData} (F:Fun K "_law_end" "_law_end" qa7 f fd) (Q__law_shared:Cl P w K mg base n "_law_shared" ["_law_numbers"] qb5) (Q__law_owed:Cl P w K mg base n "_law_owed" ["_law_held","_law_ways","_law_entries"] qdQ) (z_sorted:mg "sorted"=none) (z_tuple:mg "tuple"=none):FnOk P w K mg base CX0 (n+1) f fd ["_law_rows_here","_law_goal","_law_state","_law_due_here"] (lSp K qej):=by
  refine F.okD sc__law_end (fun ds R h=>?_) (fun cdv A outer s H E ds R hr h=>?_)
  · obtain ⟨m,rs,gs,ls,du,rfl,_⟩:=h;rfl
  obtain ⟨m,rs,gs,ls,du,rfl,hb,hr1,hgl,hgb,hnd,hmh,hdu,hns,q⟩:=h
  refine ⟨_,(qaj (qih (dv 2) (qcs (n:=4) rfl (qav (qao (i:=4) sc__law_end.nd rfl (Or.inl rfl)) (qav (qao (i:=5) sc__law_end.nd rfl (Or.inl rfl)) (qav (qao (i:=6) sc__law_end.nd rfl (Or.inl rfl)) (qav (qao (i:=7) sc__law_end.nd rfl (Or.inl rfl)) qbD))))))
      (qaj (qau (i:=8) sc__law_end.nd rfl (Or.inr rfl) (qaq Q__law_shared hr rfl (qab (qaI qbv (dvq 6) (PD.q (PF.d (qbm (qab (dv 7) qak qaa))))) qak qay) qay qaf))
      (qaj (qau (i:=9) sc__law_end.nd rfl (Or.inl rfl) (qbe (qab (qaH qaS rfl z_tuple PyProof.Rows.boot_tuple (qar (PD.q (PF.d (qaT (k:=1) (N':=["_law_top","_law_shared_here"]) (cap:=[none,some 8]) rfl (.ok (show qaP ["_law_rows_here","_law_goal","_law_state","_law_due_here","_law_held","_law_ways","_law_tops","_law_base","_law_shared_here","_law_point","_law_pairs"] (qag qa7) _ ["_law_top","_law_shared_here"] [none,some 8]=true by decide +kernel)) (by decide +kernel) (qaG (by decide)) (qbI (dv 6)) (fun _ _ _ _ _=>(qao (i:=0) (show List.Nodup (["_law_top","_law_shared_here"]:List Str) by decide +kernel) rfl (Or.inl rfl))) (fun _ _ _ _ _=>(qaI qbp (dvq 0) (dvq 1)))))) qaB qal) qal qaf) (qab (qaI qbp (dvq 7) (dvq 8)) qak qay) qam)))
      (qbL (qcp (qaQ (qfK hr.units) (PD.q (qaO (dvq 3) (PD.q qah) (fun _ _=>rfl))) (PD.q qbo) (qaC _)) (qaj (qau (i:=8) sc__law_end.nd rfl (Or.inr rfl) (qaq Q__law_shared hr rfl (qab (qaO (dvq 5) (PD.q (qaO (dvq 3) (PD.q qah) (fun _ _=>rfl))) (fun _ _=>rfl)) qak qac) qac qaf))
      (qas (qaM (qbe (qab qbo (qab (dv 9) (qab (qaH qaS rfl z_tuple PyProof.Rows.boot_tuple (qar (PD.q (PF.d (qaT (k:=1) (N':=["_law_number","_law_shared_here"]) (cap:=[none,some 8]) rfl (.ok (show qaP ["_law_rows_here","_law_goal","_law_state","_law_due_here","_law_held","_law_ways","_law_tops","_law_base","_law_shared_here","_law_point","_law_pairs"] (qag qa7) _ ["_law_number","_law_shared_here"] [none,some 8]=true by decide +kernel)) (by decide +kernel) (qaG (by decide)) (qbI (qaO (dvq 5) (PD.q (qaO (dvq 3) (PD.q qah) (fun _ _=>rfl))) (fun _ _=>rfl))) (fun _ _ _ _ _=>(qao (i:=0) (show List.Nodup (["_law_number","_law_shared_here"]:List Str) by decide +kernel) rfl (Or.inl rfl))) (fun _ _ _ _ _=>(qaI qbp (dvq 0) (dvq 1)))))) qaB qal) qal qaf) qak qam) qaa) qai))))) qbd)
      (qbL (qcp (qaQ (qfK hr.units) (PD.q (qaO (dvq 3) (PD.q qah) (fun _ _=>rfl))) (PD.q qbo) (qaC _)) (qaj (qau (i:=10) sc__law_end.nd rfl (Or.inl rfl) (qaI qbv (PD.q (qaq Q__law_owed hr rfl (qab (dv 4) (qab (dv 5) (qab (qaO (PD.q (qaO (dvq 0) (PD.q (qaO (dvq 3) (PD.q qah) (fun _ _=>rfl))) (fun _ _=>rfl))) (PD.q qah) (fun _ _=>rfl)) qak qac) qaa) qaa) qaa (qae qaa (qae qac qaf)))) (PD.q (PF.d (qbm (qab (qbe (qab (qaO (dvq 3) (PD.q qah) (fun _ _=>rfl)) (qab (dv 7) qak qaa) qac)) qak qby))))))
      (qaj (qau (i:=8) sc__law_end.nd rfl (Or.inr rfl) (qaq Q__law_shared hr rfl (qab (PF.d (qaT (k:=2) (N':=["_law_number","_law_weight"]) (cap:=[none,none]) rfl (.ok (show qaP ["_law_rows_here","_law_goal","_law_state","_law_due_here","_law_held","_law_ways","_law_tops","_law_base","_law_shared_here","_law_point","_law_pairs"] (qag qa7) _ ["_law_number","_law_weight"] [none,none]=true by decide +kernel)) (by decide +kernel) (qcy (n:=2) (qa0 (qaG (by decide)) (qa0 (qaG (by decide)) qcx))) (qbI (dv 10)) (fun _ _ _ _ _=>(qcs (n:=2) rfl (qav (qao (i:=0) (show List.Nodup (["_law_number","_law_weight"]:List Str) by decide +kernel) rfl (Or.inl rfl)) (qav (qao (i:=1) (show List.Nodup (["_law_number","_law_weight"]:List Str) by decide +kernel) rfl (Or.inl rfl)) qbD)))) (fun _ _ _ _ _=>(dv 1)))) qak qal) qal qaf))
      (qas (qaM (qbe (qab qbo (qab (qaH qaS rfl z_tuple PyProof.Rows.boot_tuple (qar (PD.q (qaK qeL rfl z_sorted PyProof.Rows.boot_sorted (qar (PD.q (PF.d (qaT (k:=2) (N':=["_law_number","_law_weight","_law_shared_here"]) (cap:=[none,none,some 8]) rfl (.ok (show qaP ["_law_rows_here","_law_goal","_law_state","_law_due_here","_law_held","_law_ways","_law_tops","_law_base","_law_shared_here","_law_point","_law_pairs"] (qag qa7) _ ["_law_number","_law_weight","_law_shared_here"] [none,none,some 8]=true by decide +kernel)) (by decide +kernel) (qcy (n:=2) (qa0 (qaG (by decide)) (qa0 (qaG (by decide)) qcx))) (qbI (dv 10)) (fun _ _ _ _ _=>(qcs (n:=2) rfl (qav (qao (i:=0) (show List.Nodup (["_law_number","_law_weight","_law_shared_here"]:List Str) by decide +kernel) rfl (Or.inl rfl)) (qav (qao (i:=1) (show List.Nodup (["_law_number","_law_weight","_law_shared_here"]:List Str) by decide +kernel) rfl (Or.inl rfl)) qbD)))) (fun _ _ _ _ _=>(qbe (qab (dv 0) (qab (qaI qbp (dvq 1) (dvq 2)) qak qay) qaa)))))) qaB qal) qal qaf)) qaB qam) qam qaf) qak qam) qai)))))) qbd)
      (qaj (qau (i:=10) sc__law_end.nd rfl (Or.inl rfl) (qaq Q__law_owed hr rfl (qab (dv 4) (qab (dv 5) (qab (dv 1) qak qaa) qaa) qaa) qaa (qae qaa (qae qaa qaf))))
      (qaj (qau (i:=8) sc__law_end.nd rfl (Or.inr rfl) (qaq Q__law_shared hr rfl (qab (qaI qbv (PD.q (PF.d (qaT (k:=2) (N':=["_law_number","_law_weight"]) (cap:=[none,none]) rfl (.ok (show qaP ["_law_rows_here","_law_goal","_law_state","_law_due_here","_law_held","_law_ways","_law_tops","_law_base","_law_shared_here","_law_point","_law_pairs"] (qag qa7) _ ["_law_number","_law_weight"] [none,none]=true by decide +kernel)) (by decide +kernel) (qcy (n:=2) (qa0 (qaG (by decide)) (qa0 (qaG (by decide)) qcx))) (qbI (dv 10)) (fun _ _ _ _ _=>(qcs (n:=2) rfl (qav (qao (i:=0) (show List.Nodup (["_law_number","_law_weight"]:List Str) by decide +kernel) rfl (Or.inl rfl)) (qav (qao (i:=1) (show List.Nodup (["_law_number","_law_weight"]:List Str) by decide +kernel) rfl (Or.inl rfl)) qbD)))) (fun _ _ _ _ _=>(dv 1))))) (PD.q (PF.d (qbm (qab (dv 7) qak qaa))))) qak qay) qay qaf))
      (qaj (qau (i:=10) sc__law_end.nd rfl (Or.inl rfl) (qaK qeL rfl z_sorted PyProof.Rows.boot_sorted (qar (PD.q (PF.d (qaT (k:=2) (N':=["_law_number","_law_weight","_law_shared_here"]) (cap:=[none,none,some 8]) rfl (.ok (show qaP ["_law_rows_here","_law_goal","_law_state","_law_due_here","_law_held","_law_ways","_law_tops","_law_base","_law_shared_here","_law_point","_law_pairs"] (qag qa7) _ ["_law_number","_law_weight","_law_shared_here"] [none,none,some 8]=true by decide +kernel)) (by decide +kernel) (qcy (n:=2) (qa0 (qaG (by decide)) (qa0 (qaG (by decide)) qcx))) (qbI (dv 10)) (fun _ _ _ _ _=>(qcs (n:=2) rfl (qav (qao (i:=0) (show List.Nodup (["_law_number","_law_weight","_law_shared_here"]:List Str) by decide +kernel) rfl (Or.inl rfl)) (qav (qao (i:=1) (show List.Nodup (["_law_number","_law_weight","_law_shared_here"]:List Str) by decide +kernel) rfl (Or.inl rfl)) qbD)))) (fun _ _ _ _ _=>(qbe (qab (dv 0) (qab (qaI qbp (dvq 1) (dvq 2)) qak qay) qaa)))))) qaB qal) qal qaf))
      (qas (qaM (qbe (qab qbo (qab (dv 9) (qab (qaH qaS rfl z_tuple PyProof.Rows.boot_tuple (qar (dvq 10) qaB qaa) qaa qaf) (qab (qaI qbp (dvq 7) (dvq 8)) qak qay) qam) qaa) qai)))))))))))),?_⟩
  have m8:=hb.m8
  have b0:=hb.b0
  have h9:(2:Int) ^ 1360<2 ^ 9000:=by decide +kernel
  have hbB:ls.bot≤2 ^ 1360:=by
    have:=hb.b
    omega
  have hlw:∀ ts:List Int,0<qce ts ls.bot∧qce ts ls.bot<2 ^ 9000:=fun ts=>⟨qjf b0,by have:=ql7 (ts:=ts) b0;omega⟩
  have hcd:∀ (ts:List Int) (x:Int),CDivB x (qce ts ls.bot):=fun ts x=>CDivB.of (hlw ts).1 (hlw ts).2
  have hgll:∀ es:List Int,(gsL ls es).length=m:=fun es=>by rw [qaU,hb.wl]
  have hhl:∀ es:List Int,ls.held.length=(gsL ls es).length:=fun es=>by rw [hgll,hb.hl]
  refine ⟨rfl,?_,_,qcm D.int ls.tops ls.bot,_,ls.tops++[ls.bot],rfl,.inl rfl,?_⟩
  · rw [List.length_map,hb.tl];exact small (by show m+1≤1000;omega)
  rw [qeA]
  refine qa5 (f:=D.int) (fun x=>x / qce ls.tops ls.bot) (qap (by rw [hb.tl];omega)) (fun x _=>⟨hcd _ x,rfl⟩) ?_
  refine ⟨hcd _ _,?_⟩
  cases hdu with
  | step p qn h=>exact absurd rfl (hns p qn)
  | endl p hm hl hs =>
    have hp:p<m:=by have:=hl.1;rw [hgll] at this;exact this
    obtain ⟨w1,w2⟩:=hb.wk hp
    have hgr:0<dot gs (ls.ways.getD p []):=by have:=hl.2.1;rwa [qdk (by rw [hb.wl];exact hp)] at this
    have g0:0<qa9 (ls.ways.getD p []):=by
      have h1:=qc3 (ls.ways.getD p [])
      have h2:qa9 (ls.ways.getD p [])≠0:=fun e=>by
        rw [qik (qd0 e)] at hgr
        omega
      omega
    have g9:qa9 (ls.ways.getD p [])<2 ^ 9000:=by
      have:=qhB (ns:=ls.ways.getD p []) (m:=2 ^ 1360+1) (fun x hx=>by have:=w2 x hx;omega) (by omega)
      push_cast at this
      omega
    refine ⟨fun _=>False,⟨_,rfl,fun _=>?_,fun h=>(by cases h)⟩,fun _ h=>h.elim⟩
    refine ⟨_,rfl,_,hb.at hp rfl,_,ls.ways.getD p [],rfl,.inl rfl,_,rfl,_,hb.at hp rfl,?_⟩
    refine qa5 (f:=D.int) (fun x=>x / qa9 (ls.ways.getD p [])) (qap (by rw [w1];omega)) (fun x _=>⟨CDivB.of g0 g9,rfl⟩) ?_
    exact q _ (.endl p hm hl hs)
  | non qn hm hl =>
    obtain ⟨⟨n0,n1⟩,_⟩:=id hm
    obtain ⟨r1,r2,r3⟩:=hr1.at n0 n1
    have f1:=qcK ls (gsL ls (qad rs qn).1)
    rw [hgll] at f1
    refine ⟨fun ρ=>ρ=[some (.v (.lst (rs.map qa3))),some (.v (.lst (gs.map D.int))),some (.v (lsD ls)),some (.v (.tup [.str "none",.int qn,.int qn])),some (.v (.lst (ls.held.map D.int))),some (.v (.lst (ls.ways.map wL))),some (.v (.lst (ls.tops.map D.int))),some (.v (.int ls.bot)),some (.v (.int (qce ls.tops ls.bot))),some (.v (qa3 (qhe ls.tops ls.bot))),none],⟨_,rfl,fun h=>(by cases h),fun _=>rfl⟩,?_⟩
    rintro ρ rfl
    refine ⟨fun _=>False,⟨_,rfl,fun _=>?_,fun h=>(by cases h)⟩,fun _ h=>h.elim⟩
    refine ⟨_,rfl,_,qcz n0 n1,_,rfl,m,ls,(qad rs qn).1,_,rfl,rfl,hb,r1,r2,_,rfl,?_,_,qcm prD (qbF ls (gsL ls (qad rs qn).1)) (qn,ls.bot),?_⟩
    · rw [List.length_map];exact small (by show (qbF ls (gsL ls (qad rs qn).1)).length+1≤1000;omega)
    have fl:(qbF ls (gsL ls (qad rs qn).1)++[(qn,ls.bot)]).length≤m+1:=by rw [List.length_append];show (qbF ls (gsL ls (qad rs qn).1)).length+1≤m+1;omega
    refine qa5 (f:=prD) (fun x=>x.2) (qap (by omega)) (fun x _=>⟨rfl,rfl⟩) ?_
    refine ⟨_,_,rfl,.inl rfl,?_⟩
    rw [qkY ls]
    refine qbk (fun x=>prD (x.1,x.2 / qce ((qbF ls (gsL ls (qad rs qn).1)).map (·.2)) ls.bot)) (qap (by omega)) (fun x _=>⟨rfl,hcd _ _,rfl⟩) ?_
    rw [qhn]
    have e:(qbF ls (gsL ls (qad rs qn).1)++[(qn,ls.bot)]).map (fun x=>(x.1,x.2 / qce ((qbF ls (gsL ls (qad rs qn).1)).map (·.2)) ls.bot))=shP ls (gsL ls (qad rs qn).1)++[(qn,shD ls (gsL ls (qad rs qn).1))]:=by rw [List.map_append];rfl
    rw [e]
    have sl:=qc7 ls (gsL ls (qad rs qn).1)
    rw [hgll] at sl
    refine ⟨shP ls (gsL ls (qad rs qn).1)++[(qn,shD ls (gsL ls (qad rs qn).1))],rfl,?_,qcN ?_,fun qs hp hs=>q _ (.non qn qs hm hl hp hs)⟩
    · rw [List.length_append]
      show (shP ls (gsL ls (qad rs qn).1)).length+1<64
      omega
    · rw [List.map_append]
      refine List.nodup_append.mpr ⟨qcY (hhl _) hnd,by simp,fun a ha b hb' e=>?_⟩
      have hb2:b=qn:=by simpa using hb'
      rw [e,hb2] at ha
      rw [qf9] at ha
      obtain ⟨i,hi,e2⟩:=List.mem_map.mp ha
      have li:=List.mem_range.mp (List.mem_filter.mp hi).1
      exact hmh qn hm (by rw [← e2];exact qaD (by rw [hhl (qad rs qn).1];exact li))
  | best hm hl =>
    have f1:=qcK ls (gsL ls gs)
    rw [hgll] at f1
    refine ⟨fun ρ=>ρ=[some (.v (.lst (rs.map qa3))),some (.v (.lst (gs.map D.int))),some (.v (lsD ls)),some (.v (.tup [.str "best",.int 0,.int 0])),some (.v (.lst (ls.held.map D.int))),some (.v (.lst (ls.ways.map wL))),some (.v (.lst (ls.tops.map D.int))),some (.v (.int ls.bot)),some (.v (.int (qce ls.tops ls.bot))),some (.v (qa3 (qhe ls.tops ls.bot))),none],⟨_,rfl,fun h=>(by cases h),fun _=>rfl⟩,?_⟩
    rintro ρ rfl
    refine ⟨fun ρ=>ρ=[some (.v (.lst (rs.map qa3))),some (.v (.lst (gs.map D.int))),some (.v (lsD ls)),some (.v (.tup [.str "best",.int 0,.int 0])),some (.v (.lst (ls.held.map D.int))),some (.v (.lst (ls.ways.map wL))),some (.v (.lst (ls.tops.map D.int))),some (.v (.int ls.bot)),some (.v (.int (qce ls.tops ls.bot))),some (.v (qa3 (qhe ls.tops ls.bot))),none],⟨_,rfl,fun h=>(by cases h),fun _=>rfl⟩,?_⟩
    rintro ρ rfl
    refine ⟨m,ls,gs,_,rfl,rfl,hb,hgl,hgb,?_⟩
    refine qa5 (f:=prD) (fun x=>x.2) (qap (by omega)) (fun x _=>⟨rfl,rfl⟩) ?_
    refine ⟨?_,_,qcm D.int ((qbF ls (gsL ls gs)).map fun x=>x.2) ls.bot,_,_,rfl,.inl rfl,?_⟩
    · rw [List.length_map,List.length_map];exact small (by show (qbF ls (gsL ls gs)).length+1≤1000;omega)
    rw [qeA]
    refine qbk (fun x=>prD (x.1,x.2 / qce ((qbF ls (gsL ls gs)).map (·.2)) ls.bot)) (qap (by omega)) (fun x _=>⟨rfl,hcd _ _,rfl⟩) ?_
    rw [qhn]
    have sl:=qc7 ls (gsL ls gs)
    rw [hgll] at sl
    refine ⟨shP ls (gsL ls gs),rfl,by omega,qcN (qcY (hhl _) hnd),fun qs hp hs=>⟨hcd _ _,q _ (.best qs hm hl hp hs)⟩⟩
theorem Wf.lb {rs:List Row} {m:Nat} {sd ls:Std} {g:Int} (h:Rl g ls sd) (hf:Wf rs m sd) (hr:Rb m rs) (m8:m≤8):Lb m ls:=by
  have p1360:(8*2 ^ 167) ^ m≤2 ^ 1360:=by
    have e:8*2 ^ 167=2 ^ 170:=by rw [show (8:Nat)=2 ^ 3 by decide,← Nat.pow_add]
    rw [e,← Nat.pow_mul]
    exact qcI (by omega)
  have aLe:∀ {r:Nat},r<rs.length→∀ j,(aL rs r j).natAbs≤2 ^ 167:=fun {r} hr' j=>by
    unfold aL
    by_cases c:j<(qad rs (r:Int)).1.length
    · exact hr.eb _ (qa6 (by omega) (by omega)) _ (qaD c)
    · rw [qaZ (by omega)]
      exact Nat.zero_le _
  obtain ⟨e,he,hb,hw⟩:=hf.ok.eps
  have ea:∀ z:Int,(e*z).natAbs=z.natAbs:=fun z=>by rcases he with h | h <;> rw [h] <;> omega
  have hW:∀ k i,k<m→i<m→((sdL sd).W k i).natAbs≤2 ^ 1360:=fun k i hk hi=>by
    rw [hw k i hk hi,ea]
    refine Nat.le_trans (Wk.det_abs (E:=2 ^ 167) (N:=8) m8 fun l j hl hj=>?_) p1360
    unfold Wk.up
    split
    · unfold Wk.un
      split
      · exact Nat.one_le_two_pow
      · exact Nat.zero_le _
    · exact aLe (hf.ok.lt l hl) j
  have hB:(sdL sd).b.natAbs≤2 ^ 1360:=by
    rw [hb,ea]
    exact Nat.le_trans (Wk.det_abs (E:=2 ^ 167) (N:=8) m8 fun l j hl hj=>aLe (hf.ok.lt l hl) j) p1360
  have hX:∀ i,i<m→((sdL sd).x i).natAbs≤2 ^ 1540:=fun i hi=>by
    rw [hf.ok.cor i hi]
    have:=qhy (n:=m) (a:=167) (b:=1360) (x:=fun k=>BL rs ((sdL sd).h k)) (y:=fun k=>(sdL sd).W k i) m8 (fun k hk=>hr.bb _ (qa6 (by omega) (by have:=hf.ok.lt k hk;omega))) fun k hk=>hW k i hk hi
    exact Nat.le_trans this (qcI (by decide))
  have hg:=h.pos
  have le:∀ x:Int,x.natAbs≤(x*g).natAbs:=fun x=>by
    rw [Int.natAbs_mul]
    exact Nat.le_mul_of_pos_right _ (by omega)
  have lwl:ls.ways.length=m:=by rw [h.wl,hf.wl]
  have lw:∀ k,k<m→(ls.ways.getD k []).length=m:=fun k hk=>by
    have:=hf.ww _ (qaD (d:=[]) (show k<sd.ways.length by rw [hf.wl];exact hk))
    rwa [h.way,qci] at this
  have ltl:ls.tops.length=m:=by have:=hf.tl;rwa [h.tops,qci] at this
  refine ⟨m8,by rw [h.held];exact hf.hl,lwl,fun w hw'=>?_,ltl,?_,?_,fun w hw' x hx=>?_,fun x hx=>?_⟩
  · obtain ⟨k,hk⟩:=List.getElem?_of_mem hw'
    have:=lw k (by rw [← lwl];exact qaF hk)
    rwa [qbw hk] at this
  · have:=hf.ok.pos
    rw [show (sdL sd).b=ls.bot*g from h.bot] at this
    exact (qcn hg).1.mp this
  · have:=le ls.bot
    rw [← h.bot] at this
    exact Nat.le_trans this hB
  · obtain ⟨k,hk⟩:=List.getElem?_of_mem hw'
    obtain ⟨i,hi⟩:=List.getElem?_of_mem hx
    have hk':k<m:=by rw [← lwl];exact qaF hk
    have e1:=lw k hk'
    rw [qbw hk] at e1
    have:=hW k i hk' (by rw [← e1];exact qaF hi)
    have e2:(sdL sd).W k i=x*g:=by
      show (sd.ways.getD k []).getD i 0=_
      rw [h.way,qfi,qbw hk,qbw hi]
    rw [e2] at this
    exact Nat.le_trans (le x) this
  · obtain ⟨i,hi⟩:=List.getElem?_of_mem hx
    have:=hX i (by rw [← ltl];exact qaF hi)
    have e2:(sdL sd).x i=x*g:=by
      show sd.tops.getD i 0=_
      rw [h.tops,qfi,qbw hi]
    rw [e2] at this
    exact Nat.le_trans (le x) this
theorem qhO {rs:List Row} {m:Nat} {sd:Std} (hf:Wf rs m sd) {k:Int} (hk:k∈sd.held):0≤k∧k<rs.length∧∃ l,l<m∧(sdL sd).h l=k.toNat:=by
  obtain ⟨l,hl⟩:=List.getElem?_of_mem hk
  have hl':l<m:=by rw [← hf.hl];exact qaF hl
  have h0:=hf.h0 k hk
  have e:(sdL sd).h l=k.toNat:=by show (sd.held.getD l 0).toNat=_;rw [qbw hl]
  have:=hf.ok.lt l hl'
  exact ⟨h0,by omega,l,hl',e⟩
theorem Wf.nofall {rs:List Row} {m:Nat} {sd ls:Std} {g:Int} (h:Rl g ls sd) (hrw:RsW rs m) (hf:Wf rs m sd):∀ p,p<m→∀ k∈ls.held,qaV rs (ls.ways.getD p []) k≤0:=fun p hp k hk=>by
  rw [h.held] at hk
  obtain ⟨k0,k1,l,hl,e⟩:=qhO hf hk
  have h1:=qkJ hf hrw k0 k1 hp
  have h2:Wk.gr m (aL rs) (sdL sd) k.toNat p=if l=p then (sdL sd).b else 0:=by
    unfold Wk.gr
    rw [← e]
    exact hf.ok.rt hl hp
  rw [h.way,qd2,h2] at h1
  have b0:=hf.ok.pos
  have:=(qcn (x:=dot (qad rs k).1 (ls.ways.getD p [])) h.pos).2
  unfold qaV
  split at h1 <;> omega
theorem Miss.out {rs:List Row} {m:Nat} {sd:Std} (hrw:RsW rs m) (hf:Wf rs m sd) {q:Int} (h:Miss rs sd q):q∉sd.held:=fun hk=>by
  obtain ⟨k0,k1,l,hl,e⟩:=qhO hf hk
  have h1:=qjn hf hrw k0 k1
  have h2:=hf.ok.ov0 (r:=q.toNat) ⟨l,hl,e⟩
  have:=h.2.1
  omega
theorem Tr.run {rs:List Row} {goal:List Int} {m:Nat} {a b:Std} {st:List (Int × Int)} (h:Tr rs goal m a b st):Run rs goal a st.length b:=by
  induction h with
  | nil=>exact .nil
  | snoc _ hf hs ih =>
    rw [List.length_append]
    exact .snoc ih hf.nd (by rw [hf.hl,hf.wl]) hs
theorem Tr.at {rs:List Row} {goal:List Int} {m:Nat} {a b:Std} {st:List (Int × Int)} (h:Tr rs goal m a b st):∀ i,i<st.length→∃ sd p q,Tr rs goal m a sd (st.take i)∧Wf rs m sd∧StepOk rs goal sd p q∧st[i]?=some (sd.held.getD p 0,q):=by
  induction h with
  | nil=>intro i hi;simp at hi
  | @snoc b st p q t hf hs ih =>
    intro i hi
    rw [List.length_append] at hi
    by_cases c:i<st.length
    · obtain ⟨sd,p',q',h1,h2,h3,h4⟩:=ih i c
      exact ⟨sd,p',q',by rw [List.take_append_of_le_length (by omega)];exact h1,h2,h3,by rw [List.getElem?_append_left c];exact h4⟩
    · have e:i=st.length:=by simp at hi;omega
      subst e
      exact ⟨b,p,q,by rw [List.take_append_of_le_length (Nat.le_refl _),List.take_length];exact t,hf,hs,by rw [List.getElem?_append_right (Nat.le_refl _),Nat.sub_self];rfl⟩
theorem Due.step_ {rs:List Row} {goal:List Int} {ls sd:Std} {g:Int} {p:Nat} {q:Int} {d:D} (hn:sd.held.Nodup) (hl:sd.held.length=sd.ways.length) (h:Rl g ls sd) (du:Due rs goal ls d) (s:StepOk rs goal sd p q):d=qeU p q:=by
  cases du with
  | non q0 a b =>
    rcases s with ⟨c,e⟩ | ⟨c,e,f⟩
    · have:=c.uniq (h.miss a)
      subst this
      exact (e.off (h.lg b)).elim
    · exact ((h.miss a).met c).elim
  | best a b =>
    rcases s with ⟨c,e⟩ | ⟨c,e,f⟩
    · exact (c.met (h.met a)).elim
    · exact (e.off (h.lg b)).elim
  | endl p0 a b c0 =>
    rcases s with ⟨c,e⟩ | ⟨c,e,f⟩
    · exact (c.met (h.met a)).elim
    · have:=e.uniq hn (by rw [qaU];exact hl) (h.lg b)
      subst this
      obtain ⟨i,hi,hk,hf,_⟩:=f
      have:=h.stop c0 i q hi hk
      rw [h.way] at hf
      omega
  | step p' q' t =>
    obtain ⟨rfl,rfl⟩:=(h.stepOk t).uniq hn hl s
    rfl
theorem Due.stuck_ {rs:List Row} {goal:List Int} {ls sd:Std} {g:Int} {d:D} (h:Rl g ls sd) (du:Due rs goal ls d) (s:qhl rs goal sd):∀ p q,d≠qeU p q:=fun p q e=>by
  cases du with
  | non q0 a b=>cases e
  | best a b=>cases e
  | endl p0 a b c=>cases e
  | step p' q' t=>exact s p' q' (h.stepOk t)
theorem qos {rs:List Row} {m p:Nat} {q:Int} {ls sd:Std} {g g':Int} (h:Rl g ls sd) (hb:Lb m ls) (hb2:Lb m (lxL (qad rs q) ls p q)) (h2:Rl g' (lxL (qad rs q) ls p q) (exL (qad rs q) sd p q)) (hz:(exL (qad rs q) sd p q).bot≤2 ^ 7224) (e:qa9 (frN (qad rs q) ls p)*g=g'*ls.bot) (h0:0≤qa9 (frN (qad rs q) ls p)):qa9 (frN (qad rs q) ls p)<2 ^ 9000:=by
  have hg:=h.pos
  have b0:=hb.b0
  have b1:=hb2.b0
  have a1:g'≤2 ^ 7224:=by
    have:=h2.bot
    have e1:1*g'≤(lxL (qad rs q) ls p q).bot*g':=Int.mul_le_mul_of_nonneg_right (by omega) (by have:=h2.pos;omega)
    omega
  have a2:ls.bot≤2 ^ 1360:=by have:=hb.b;omega
  have a3:qa9 (frN (qad rs q) ls p)*1≤qa9 (frN (qad rs q) ls p)*g:=Int.mul_le_mul_of_nonneg_left hg h0
  have a4:g'*ls.bot≤2 ^ 7224*2 ^ 1360:=Int.mul_le_mul a1 a2 (by omega) (by decide +kernel)
  have a5:(2:Int) ^ 7224*2 ^ 1360<2 ^ 9000:=by decide +kernel
  omega
structure RowsP (rs:List Row) (c:Nat):Prop where
  el:∀ r∈rs,r.1.length=c
  eb:∀ r∈rs,∀ x∈r.1,x.natAbs≤10 ^ 50
  bb:∀ r∈rs,r.2.natAbs≤10 ^ 50
  un:∀ k:Nat,k<c→k<rs.length→(qad rs (k:Int)).1=unL c k
theorem RowsP.nil (c:Nat):RowsP [] c:=⟨fun r h=>absurd h List.not_mem_nil,fun r h=>absurd h List.not_mem_nil,fun r h=>absurd h List.not_mem_nil,fun k _ h=>absurd h (by simp)⟩
theorem RowsP.add {rs:List Row} {c:Nat} (h:RowsP rs c) {r:Row} (h1:r.1.length=c) (h2:∀ x∈r.1,x.natAbs≤10 ^ 50) (h3:r.2.natAbs≤10 ^ 50) (h4:rs.length<c→r.1=unL c rs.length):RowsP (rs++[r]) c:=by
  have mem:∀ x∈rs++[r],x∈rs∨x=r:=fun x hx=>(List.mem_append.mp hx).imp id fun z=>by simpa using z
  refine ⟨fun x hx=>?_,fun x hx=>?_,fun x hx=>?_,fun k hk hl=>?_⟩
  · rcases mem x hx with z | rfl
    · exact h.el x z
    · exact h1
  · rcases mem x hx with z | rfl
    · exact h.eb x z
    · exact h2
  · rcases mem x hx with z | rfl
    · exact h.bb x z
    · exact h3
  · unfold qad
    rw [List.getD_eq_getElem?_getD,Int.toNat_natCast]
    by_cases e:k<rs.length
    · rw [List.getElem?_append_left e]
      have:=h.un k hk e
      unfold qad at this
      rw [List.getD_eq_getElem?_getD,Int.toNat_natCast] at this
      exact this
    · rw [List.length_append] at hl
      have e2:k=rs.length:=by simp at hl;omega
      subst e2
      rw [List.getElem?_append_right (Nat.le_refl _),Nat.sub_self]
      exact h4 hk
structure RowsG (rs:List Row) (c m:Nat):Prop extends RowsP rs c where
  len:rs.length=c+m
theorem qgs {c i:Nat} (h:i<c) (x:Int):List.replicate i 0++[x]++List.replicate (c - 1 - i) 0=(List.range c).map fun o=>if o=i then x else 0:=by
  refine List.ext_getElem? fun k=>?_
  rw [List.getElem?_map]
  by_cases h1:k<i
  · rw [List.append_assoc,List.getElem?_append_left (by rw [List.length_replicate];exact h1),List.getElem?_replicate,if_pos h1,List.getElem?_range (by omega)]
    show some (0:Int)=some (if k=i then x else 0)
    rw [if_neg (by omega)]
  · by_cases h2:k=i
    · subst h2
      rw [List.append_assoc,List.getElem?_append_right (by rw [List.length_replicate];omega),List.length_replicate,Nat.sub_self,List.getElem?_range h]
      show some x=some (if k=k then x else 0)
      rw [if_pos rfl]
    · by_cases h3:k<c
      · rw [List.getElem?_append_right (by rw [List.length_append,List.length_replicate];simp;omega),List.length_append,List.length_replicate,List.getElem?_replicate,if_pos (by simp;omega),List.getElem?_range h3]
        show some (0:Int)=some (if k=i then x else 0)
        rw [if_neg h2]
      · rw [List.getElem?_eq_none (by rw [List.length_append,List.length_append,List.length_replicate,List.length_replicate];simp;omega),List.getElem?_eq_none (by rw [List.length_range];omega)]
        rfl
theorem qnv {α:Type} {f:α→D} {xs:List α} {a:Int} (h:0≤a):qey (xs.map f) (some a) none=(xs.drop a.toNat).map f:=by
  have e:a=((a.toNat:Nat):Int):=by omega
  rw [qdr]
  conv=>lhs;rw [e]
  rw [qgu]
theorem qmX {x z:Int} (h0:0≤x) (h1:x<z) (h2:z≤10 ^ 50):(x - z / 2).natAbs≤10 ^ 50:=by
  omega
abbrev rS (ns:List Int) (c m:Nat) (z:Int) (rs:List Row) (u5 u6 u7 u8 u9:Option Sl):List (Option Sl):=[some (.v (.fzl (ns.map D.int))),some (.v (.int (c:Int))),some (.v (.int (m:Int))),some (.v (.int z)),some (.own (rs.map qa3)),u5,u6,u7,u8,u9]
def qdx:SpD:=fun ds R=>∃ (ns:List Int) (c m:Nat) (z:Int),ds=[.fzl (ns.map D.int),.int (c:Int),.int (m:Int),.int z]∧ns.length≤63∧c≤8∧m≤12∧1≤z∧z≤10 ^ 50∧∀ rs:List Row,RowsG rs c m→R (.lst (rs.map qa3))
theorem qls {z:Int} (h:z≤10 ^ 50):z<2 ^ 9000:=by
  have:(10:Int) ^ 50<2 ^ 9000:=by decide +kernel
  omega
theorem qfI {n:Nat} {f:Addr} {fd:FuncData} (F:Fun K "_law_rows" "_law_rows" qbP f fd) (Q__law_draws:Cl P w K mg base n "_law_draws" ["_law_cell_here","_law_salt","_law_sizes"] qcj) (Q__law_cell:Cl P w K mg base n "_law_cell" ["_law_script","_law_k"] qcE) (z_enumerate:mg "enumerate"=none) (z_range:mg "range"=none) (z_list:mg "list"=none) (z_tuple:mg "tuple"=none):FnOk P w K mg base CX0 (n+1) f fd ["_law_script","_law_count","_law_many","_law_size"] (lSp K qdx):=by
  refine F.okD sc__law_rows (fun ds R h=>?_) (fun cdv A outer s H E ds R hr h=>?_)
  · obtain ⟨ns,c,m,z,rfl,_⟩:=h;rfl
  obtain ⟨ns,c,m,z,rfl,hn,hc,hm,z0,z1,q⟩:=h
  refine ⟨_,(qaj (qgQ (i:=4) sc__law_rows.nd rfl (Or.inl rfl) (qbm qak))
      (qaj (qcF PassesOwn.never rfl (qhj rfl z_enumerate (qab (qaq Q__law_draws hr rfl (qab (qaq Q__law_cell hr rfl (qab (dv 0) (qab qah qak qai) qaa) qaa (qae qai qaf)) (qab qah (qab (qaI qaX (PD.q (PF.d (qbm (qab (dv 3) qak qaa)))) (dvq 1)) qak qay) qai) qam) qam (qae qai (qae qay qaf))) qak qam)) (qcs (n:=2) rfl (qav (qao (i:=5) sc__law_rows.nd rfl (Or.inl rfl)) (qav (qao (i:=6) sc__law_rows.nd rfl (Or.inl rfl)) qbD))) (qas (qbz 4 (qbe (qab (qaH qaS rfl z_tuple PyProof.Rows.boot_tuple (qar (PD.q (qaI qbv (PD.q (qaI qbv (PD.q (qaI qaX (PD.q (PF.d (qbm (qab qah qak qai)))) (dvq 5))) (PD.q (PF.d (qbm (qab qah qak qai)))))) (PD.q (qaI qaX (PD.q (PF.d (qbm (qab qah qak qai)))) (PD.q (qaI qcv (PD.q (qaI qcv (dvq 1) (PD.q qah))) (dvq 5))))))) qaB qay) qay qaf) (qab (qaI qcv (dvq 6) (PD.q (qaI qbp (dvq 3) (PD.q qah)))) qak qay) qam)) (qcB qby) qby)))
      (qaj (qcF PassesOwn.never rfl (qa8 rfl z_range (qab (dv 2) qak qaa)) (qao (i:=5) sc__law_rows.nd rfl (Or.inl rfl)) (qaj (qau (i:=7) sc__law_rows.nd rfl (Or.inl rfl) (qaq Q__law_draws hr rfl (qab (qaq Q__law_cell hr rfl (qab (dv 0) (qab (qaI qbv (PD.q qah) (dvq 5)) qak qay) qaa) qaa (qae qay qaf)) (qab (qaI qbv (PD.q qah) (PD.q (qaI qaX (PD.q qah) (dvq 5)))) (qab (qaI qbv (PD.q (PF.d (qbm (qab qah (qab (dv 3) qak qaa) qai)))) (PD.q (qaI qaX (PD.q (PF.d (qbm (qab (dv 3) qak qaa)))) (dvq 1)))) qak qay) qay) qam) qam (qae qay (qae qay qaf))))
      (qaj (qdO (i:=8) (k:=1) (N':=["_law_number","_law_size"]) (cap:=[none,some 3]) rfl sc__law_rows.nd rfl (Or.inl rfl) (.ok (show qaP ["_law_script","_law_count","_law_many","_law_size","_law_rows_here","_law_k","_law_least","_law_drawn","_law_entries","_law_at"] (qag qbP) _ ["_law_number","_law_size"] [none,some 3]=true by decide +kernel)) (by decide +kernel) (qaG (by decide)) (qbI (qmW (dvq 7) (qgL (PD.q qah)) qgB)) (fun _ _ _ _ _=>(qao (i:=0) (show List.Nodup (["_law_number","_law_size"]:List Str) by decide +kernel) rfl (Or.inl rfl))) (fun _ _ _ _ _=>(qaI qcv (dvq 0) (PD.q (qaI qbp (dvq 1) (PD.q qah))))))
      (qbL (qcp (qaQ (qfK hr.units) (PD.q (qaO (dvq 7) (PD.q qah) (fun _ _=>rfl))) (PD.q qah) (qaC _)) (qas (qau (i:=8) sc__law_rows.nd rfl (Or.inl rfl) (qaI qaX (PD.q (PF.d (qbm (qab qah qak qai)))) (dvq 1)))) qbd)
      (qbL (qcp (PWD.td (qiP (qaQ (qfK hr.units) (PD.q (qaO (dvq 7) (PD.q qah) (fun _ _=>rfl))) (PD.q qah) (qaC _)) (qgz (qaQ qkZ (dvq 1) (PD.q qah) (qaC _))))) (qaj (qau (i:=9) sc__law_rows.nd rfl (Or.inl rfl) (qaI qft (PD.q (qaO (dvq 7) (PD.q qah) (fun _ _=>rfl))) (dvq 1)))
      (qas (qau (i:=8) sc__law_rows.nd rfl (Or.inl rfl) (qaI qbv (PD.q (qaI qbv (PD.q (qaI qaX (PD.q (PF.d (qbm (qab qah qak qai)))) (dvq 9))) (PD.q (PF.d (qbm (qab (qfE (PD.q qah)) qak qc4)))))) (PD.q (qaI qaX (PD.q (PF.d (qbm (qab qah qak qai)))) (PD.q (qaI qcv (PD.q (qaI qcv (dvq 1) (PD.q qah))) (dvq 9))))))))) qbd)
      (qbL (qcp (PWD.td (qiP (qaQ (qfK hr.units) (PD.q (qaO (dvq 7) (PD.q qah) (fun _ _=>rfl))) (PD.q qah) (qaC _)) (qgz (qaQ qkZ (dvq 5) (PD.q qah) (qaC _))))) (qas (qau (i:=8) sc__law_rows.nd rfl (Or.inl rfl) (PF.d (qmF rfl z_list (PD.q (qaO (PD.q (qaO (dvq 4) (PD.q (qfE (PD.q qah))) (fun _ _=>rfl))) (PD.q qah) (fun _ _=>rfl))) qac)))) qbd)
      (qas (qbz 4 (qbe (qab (qaH qaS rfl z_tuple PyProof.Rows.boot_tuple (qar (dvq 8) qaB qaa) qaa qaf) (qab (qaI qcv (PD.q (qaO (dvq 7) (PD.q qah) (fun _ _=>rfl))) (PD.q (qaI qbp (dvq 3) (PD.q qah)))) qak qay) qam)) (qcB qby) qby))))))))
      (qg2 4 (qas (qaM (dv 4))))))),?_⟩
  have zb:=qls z1
  refine ⟨ns,1,rfl,hn,by decide,fun cl=>?_⟩
  refine ⟨⟨by omega,by omega,small (by simp;omega)⟩,(List.replicate c z).map D.int,by rw [qbO,Int.toNat_natCast],cl,3,List.replicate c z,rfl,by simp;omega,by decide,by decide,fun x hx=>?_,fun es hD=>?_⟩
  · rw [List.eq_of_mem_replicate hx]
    exact ⟨by omega,zb⟩
  have hes:es.length=c:=by rw [hD.len,List.length_replicate]
  refine ⟨fun i ρ=>∃ (rs:List Row) (u5 u6:Option Sl),ρ=(rS ns c m z rs u5 u6 none none none)∧RowsP rs c∧rs.length=i,⟨[],_,_,rfl,.nil c,rfl⟩,?_,?_⟩
  · rintro i d ρ hd ⟨rs,u5,u6,rfl,hP,hl⟩
    obtain ⟨e,he,rfl⟩:=qeW hd
    obtain ⟨x,rfl,hx⟩:=qgj he
    have hi:i<c:=by rw [← hes];exact qaF hx
    obtain ⟨x',hx',x0,x1⟩:=hD.at (i:=i) (z:=z) (by rw [List.getElem?_replicate,if_pos hi])
    rw [hx] at hx'
    cases hx'
    refine ⟨rfl,⟨by omega,by omega,small (by simp;omega)⟩,(List.replicate i (0:Int)).map D.int,by rw [qbO,Int.toNat_natCast],small (by simp;omega),_,qcm D.int _ 1,⟨by omega,by omega,small (by simp;omega)⟩,(List.replicate (c - 1 - i) (0:Int)).map D.int,by rw [qbO];congr 2;omega,small (by simp;omega),_,qlo D.int _ _,CDivB.of (by decide) (by decide +kernel),?_⟩
    refine ⟨by rw [List.length_map,hl];exact qap (by omega),_,qcm qa3 rs (List.replicate i 0++[1]++List.replicate (c - 1 - i) 0,x - z / 2),_,_,_,rfl,hP.add ?_ ?_ (qmX x0 x1 z1) (fun _=>?_),by rw [List.length_append,hl];rfl⟩
    · show (List.replicate i (0:Int)++[1]++List.replicate (c - 1 - i) 0).length=c
      simp;omega
    · intro y hy
      have:y=0∨y=1:=by
        rcases List.mem_append.mp hy with h | h
        · rcases List.mem_append.mp h with h | h
          · exact .inl (List.eq_of_mem_replicate h)
          · exact .inr (by simpa using h)
        · exact .inl (List.eq_of_mem_replicate h)
      rcases this with rfl | rfl <;> decide +kernel
    · rw [hl]
      exact qgs hi 1
  rintro ρ ⟨rs,u5,u6,rfl,hP,hl⟩
  rw [qcX,List.length_map,hes] at hl
  refine ⟨⟨by omega,by omega⟩,fun i ρ=>∃ (rs:List Row) (u5 u6 u7 u8 u9:Option Sl),ρ=(rS ns c m z rs u5 u6 u7 u8 u9)∧RowsP rs c∧rs.length=c+i,⟨rs,_,_,_,_,_,rfl,hP,hl⟩,?_,?_⟩
  · rintro i d ρ hd ⟨rs,u5,u6,u7,u8,u9,rfl,hP,hl⟩
    obtain ⟨hi,rfl⟩:=qbb hd
    refine ⟨ns,3+(0+(i:Int)),rfl,hn,by omega,fun cl2=>?_⟩
    refine ⟨qb0 (by decide) (by decide),⟨by omega,by omega,small (by simp;omega)⟩,(List.replicate c z).map D.int,by rw [qbO,Int.toNat_natCast],small (by simp;omega),_,qlo D.int [8,z] _,cl2,40+5*(0+(i:Int)),[8,z]++List.replicate c z,rfl,by simp;omega,by omega,by omega,fun x hx=>?_,fun es2 hD2=>?_⟩
    · rcases List.mem_append.mp hx with h | h
      · have:x=8∨x=z:=by simpa using h
        rcases this with rfl | rfl
        · exact ⟨by decide,by decide +kernel⟩
        · exact ⟨by omega,zb⟩
      · rw [List.eq_of_mem_replicate h]
        exact ⟨by omega,zb⟩
    obtain ⟨x0,x1,rest,rfl,h0,h1,hDr⟩:∃ x0 x1 rest,es2=x0::x1::rest∧Dr x0 8∧Dr x1 z∧Drawn rest (List.replicate c z):=by
      cases hD2 with | cons h0 t0 =>
      cases t0 with | cons h1 t1 =>
      exact ⟨_,_,_,rfl,h0,h1,t1⟩
    have hrl:rest.length=c:=by rw [hDr.len,List.length_replicate]
    have hrb:∀ x∈rest,Dr x z:=fun x hx=>by
      obtain ⟨z',hz',d0,d1⟩:=hDr.mem x hx
      rw [List.eq_of_mem_replicate hz'] at d1
      exact ⟨d0,d1⟩
    refine ⟨rest.map D.int,?_,?_⟩
    · have:=qnv (f:=D.int) (xs:=x0::x1::rest) (a:=2) (by decide)
      exact this
    refine qa5 (f:=D.int) (fun x=>x - z / 2) (qap (by omega)) (fun x _=>⟨CDivB.of (by decide) (by decide +kernel),rfl⟩) ?_
    refine ⟨fun ρ=>∃ (en:List Int),ρ=(rS ns c m z rs (some (.v (.int (0+(i:Int))))) u6 (some (.v (.lst ((x0::x1::rest).map D.int)))) (some (.v (.lst (en.map D.int)))) u9)∧en.length=c∧∀ x∈en,x.natAbs≤10 ^ 50,?_,?_⟩
    · refine ⟨.int x0,qbr (f:=D.int) (ns:=x0::x1::rest) (i:=0) rfl rfl,fun h=>⟨⟨by omega,by omega,small (by simp;omega)⟩,(List.replicate c (0:Int)).map D.int,by rw [qbO,Int.toNat_natCast],List.replicate c 0,rfl,by simp,fun x hx=>by rw [List.eq_of_mem_replicate hx];exact Nat.zero_le _⟩,fun h=>⟨rest.map fun x=>x - z / 2,rfl,by rw [List.length_map];exact hrl,fun x hx=>?_⟩⟩
      obtain ⟨y,hy,rfl⟩:=List.mem_map.mp hx
      exact qmX (hrb y hy).1 (hrb y hy).2 z1
    rintro ρ ⟨en,rfl,hel,heb⟩
    refine ⟨fun ρ=>∃ (en:List Int) (u9:Option Sl),ρ=(rS ns c m z rs (some (.v (.int (0+(i:Int))))) u6 (some (.v (.lst ((x0::x1::rest).map D.int)))) (some (.v (.lst (en.map D.int)))) u9)∧en.length=c∧∀ x∈en,x.natAbs≤10 ^ 50,?_,?_⟩
    · refine ⟨.int x0,qbr (f:=D.int) (ns:=x0::x1::rest) (i:=0) rfl rfl,fun _=>⟨fun hcp=>?_,fun _=>⟨en,_,rfl,hel,heb⟩⟩,fun _=>⟨fun h=>ff h,fun _=>⟨en,_,rfl,hel,heb⟩⟩⟩
      have hc0:(0:Int)<(c:Int):=dP hcp
      obtain ⟨y,rest',rfl⟩:∃ y rest',rest=y::rest':=by
        cases rest with
        | nil=>simp at hrl;omega
        | cons y r=>exact ⟨y,r,rfl⟩
      have k0:=Int.emod_nonneg y (b:=(c:Int)) (by omega)
      have k1:=Int.emod_lt_of_pos y hc0
      have hkc:(y % (c:Int)).toNat<c:=by omega
      refine ⟨.int y,qbr (f:=D.int) (ns:=x0::x1::y::rest') (i:=2) rfl rfl,hc0,⟨by omega,by omega,small (by simp;omega)⟩,(List.replicate (y % (c:Int)).toNat (0:Int)).map D.int,by rw [qbO],small (by simp;omega),_,qcm D.int _ (-1),⟨by omega,by omega,small (by simp;omega)⟩,(List.replicate (c - 1 - (y % (c:Int)).toNat) (0:Int)).map D.int,by rw [qbO];congr 2;omega,small (by simp;omega),_,qlo D.int _ _,_,_,rfl,by simp;omega,fun x hx=>?_⟩
      have:x=0∨x = -1:=by
        rcases List.mem_append.mp hx with h | h
        · rcases List.mem_append.mp h with h | h
          · exact .inl (List.eq_of_mem_replicate h)
          · exact .inr (by simpa using h)
        · exact .inl (List.eq_of_mem_replicate h)
      rcases this with rfl | rfl <;> decide +kernel
    rintro ρ ⟨en,u9,rfl,hel,heb⟩
    refine ⟨fun ρ=>∃ (en:List Int) (u9:Option Sl),ρ=(rS ns c m z rs (some (.v (.int (0+(i:Int))))) u6 (some (.v (.lst ((x0::x1::rest).map D.int)))) (some (.v (.lst (en.map D.int)))) u9)∧en.length=c∧∀ x∈en,x.natAbs≤10 ^ 50,?_,?_⟩
    · refine ⟨.int x0,qbr (f:=D.int) (ns:=x0::x1::rest) (i:=0) rfl rfl,fun _=>⟨fun hcp=>?_,fun _=>⟨en,_,rfl,hel,heb⟩⟩,fun _=>⟨fun h=>ff h,fun _=>⟨en,_,rfl,hel,heb⟩⟩⟩
      have hi0:(0:Int)<0+(i:Int):=dP hcp
      have hlast:rs.length - 1<rs.length:=by omega
      have hrow:=rs[rs.length - 1]
      have hat:atI (rs.map qa3) (-1)=some (qa3 (rs[rs.length - 1]'hlast)):=by
        unfold atI ixN
        rw [if_neg (by decide),if_pos (by rw [List.length_map];omega)]
        show (rs.map qa3)[((-1:Int)+(rs.map qa3).length).toNat]?=_
        rw [List.length_map,show ((-1:Int)+(rs.length:Int)).toNat=rs.length - 1 by omega,List.getElem?_map,qaA hlast]
        rfl
      exact ⟨_,hat,_,rfl,_,rfl,_,_,rfl,hP.el _ (List.getElem_mem hlast),hP.eb _ (List.getElem_mem hlast)⟩
    rintro ρ ⟨en,u9,rfl,hel,heb⟩
    refine ⟨.int x1,qbr (f:=D.int) (ns:=x0::x1::rest) (i:=1) rfl rfl,CDivB.of (by decide) (by decide +kernel),by rw [List.length_map,hl];exact qap (by omega),_,qcm qa3 rs (en,x1 - z / 2),_,_,_,_,_,_,rfl,hP.add hel heb (qmX h1.1 h1.2 z1) (fun h=>absurd h (by omega)),by rw [List.length_append,hl];rfl⟩
  · rintro ρ ⟨rs,u5,u6,u7,u8,u9,rfl,hP,hl⟩
    exact q rs ⟨hP,by rw [qaN] at hl;simpa using hl⟩
abbrev sp_law:=qmJ
abbrev qnr:=qjS
theorem ql8 {x:Int} (h:0≤x∧x<4):∃ z:Int,atI [D.int 5,D.int 9,D.int 9,D.int (10 ^ (12:Int).toNat)] x=some (.int z)∧1≤z∧z≤10 ^ 12:=by
  obtain ⟨h0,h1⟩:=h
  have:x=0∨x=1∨x=2∨x=3:=by omega
  rcases this with rfl | rfl | rfl | rfl
  · exact ⟨5,rfl,by decide,by decide⟩
  · exact ⟨9,rfl,by decide,by decide⟩
  · exact ⟨9,rfl,by decide,by decide⟩
  · exact ⟨10 ^ 12,rfl,by decide,by decide⟩
theorem qkR {x:Nat} (h:x≤10 ^ 50):x≤2 ^ 900:=Nat.le_trans h (Nat.le_trans (show 10 ^ 50≤2 ^ 200 by decide) (qcI (by decide)))
theorem qju {rs:List Row} {goal:List Int} {c m:Nat} (h:RowsG rs c m) (hc:c≤8) (hm:m≤12) (hg:goal.length=c) (hb:∀ x∈goal,x.natAbs≤10 ^ 50):FirstOk rs goal c:=by
  have hl:=h.len
  refine ⟨⟨h.el,fun r hr x hx=>qkR (h.eb r hr x hx),fun r hr=>qkR (h.bb r hr),hc,by omega,by omega⟩,⟨hg,fun x hx=>qkR (hb x hx)⟩,.inl ?_,fun k hk=>h.un k hk (by omega)⟩
  exact Nat.le_trans (qcI (show rs.length≤20 by omega)) (by decide)
theorem qix (c:Nat):qbs 0 ((c:Int)).toNat=((List.range c).map fun (i:Nat)=>(i:Int)).map D.int:=by
  unfold qbs
  rw [Int.toNat_natCast,List.map_map]
  exact List.map_congr_left fun i _=>by show D.int (0+(i:Int))=D.int (i:Int);rw [Int.zero_add]
theorem qhf (k:Nat):∀ (xs ys:List Int),cmL (cmB (k+1)) (xs.map D.int) (ys.map D.int)=some (decide (xs=ys))
  | [],[]=>rfl
  | [],_::_=>rfl
  | _::_,[]=>rfl
  | x::xs,y::ys=>by
    show ((cmB (k+1) (.int x) (.int y)).bind fun b=>(cmL (cmB (k+1)) (xs.map D.int) (ys.map D.int)).map (b && ·))=_
    rw [qhf k xs ys]
    show some ((x == y) && decide (xs=ys))=_
    congr 1
    by_cases c:x=y
    · subst c;simp
    · simp [c]
theorem qmE (xs ys:List Int):cmB 40 (.tup (xs.map D.int)) (.tup (ys.map D.int))=some (decide (xs=ys)):=qhf 38 xs ys
theorem qnC {xs ys:List Int} {X Y:Prop} (k1:xs≠ys→X) (k2:xs=ys→Y):zNe (.tup (xs.map D.int)) (.tup (ys.map D.int)) fun d=>match d with | .bl b=>(b=true→X)∧(b=false→Y) | _=>False:=by
  unfold zNe
  rw [qmE]
  by_cases c:xs=ys
  · rw [decide_eq_true c]
    exact ⟨fun h=>ff h,fun _=>k2 c⟩
  · rw [decide_eq_false c]
    exact ⟨fun _=>k1 c,fun h=>tf h⟩
theorem qh3 (c:Nat):((List.range c).map fun k=>wL (unL c k))=((List.range c).map fun k=>unL c k).map wL:=by rw [List.map_map];rfl
theorem qk9 {rs:List Row} {c:Nat} (h:c≤rs.length):(rs.take c).map (fun r=>r.2)=(qd3 rs c).tops:=by
  show _=(List.range c).map fun (k:Nat)=>(qad rs (k:Int)).2
  refine List.ext_getElem (by rw [List.length_map,List.length_take,List.length_map,List.length_range];omega) fun i h1 h2=>?_
  rw [List.getElem_map,List.getElem_map,List.getElem_range,List.getElem_take]
  unfold qad
  rw [Int.toNat_natCast,List.getD_eq_getElem?_getD,List.getElem?_eq_getElem]
  rfl
theorem qmj {n:Nat} {f:Addr} {fd:FuncData} (F:Fun K "law" "law" qf3 f fd) (Q__law_draws:Cl P w K mg base n "_law_draws" ["_law_cell_here","_law_salt","_law_sizes"] qcj) (Q__law_rows:Cl P w K mg base n "_law_rows" ["_law_script","_law_count","_law_many","_law_size"] qdx) (Q_trail:Cl P w K mg base n "trail" ["rows","goal"] qhW) (Q__law_due:Cl P w K mg base n "_law_due" ["_law_rows_here","_law_goal","_law_state"] qel) (Q__law_cell:Cl P w K mg base n "_law_cell" ["_law_script","_law_k"] qcE) (Q__law_exchanged:Cl P w K mg base n "_law_exchanged" ["_law_rows_here","_law_state","_law_at","_law_i"] qcf) (Q_first:Cl P w K mg base n "first" ["rows","goal"] qim) (Q__law_end:Cl P w K mg base n "_law_end" ["_law_rows_here","_law_goal","_law_state","_law_due_here"] qej) (Q__law_whole:Cl P w K mg base n "_law_whole" ["_law_seen"] qdh) (z_tuple:mg "tuple"=none) (z_isinstance:mg "isinstance"=none) (z_list:mg "list"=none) (z_range:mg "range"=none) (z_len:mg "len"=none):FnOk P w K mg base CX0 (n+1) f fd ["_law_script"] (lSp K qnr):=by
  refine F.okD sc_law (fun ds R h=>?_) (fun cdv A outer s H E ds R hr h=>?_)
  · obtain ⟨ns,rfl,_⟩:=h;rfl
  obtain ⟨ns,rfl,hz,q⟩:=h
  refine ⟨_,(qaj (qih (qaq Q__law_draws hr rfl (qab (qaq Q__law_cell hr rfl (qab (dv 0) (qab qah qak qai) qaa) qaa (qae qai qaf)) (qab qah (qab (PF.d (qbm (qab qah (qab qah (qab qah (qab qah (qab qah qak qai) qai) qai) qai) qai))) qak qia) qai) qam) qam (qae qai (qae qia qaf))) (qcs (n:=5) rfl (qav (qao (i:=1) sc_law.nd rfl (Or.inr rfl)) (qav (qao (i:=2) sc_law.nd rfl (Or.inl rfl)) (qav (qao (i:=3) sc_law.nd rfl (Or.inl rfl)) (qav (qao (i:=4) sc_law.nd rfl (Or.inl rfl)) (qav (qao (i:=5) sc_law.nd rfl (Or.inl rfl)) qbD)))))))
      (qbL (qcp (qaQ (qfK hr.units) (dvq 5) (PD.q qah) (qaC _)) (qaj (qau (i:=1) sc_law.nd rfl (Or.inr rfl) (qaI qbv (dvq 1) (PD.q qah)))
      (qaj (qau (i:=2) sc_law.nd rfl (Or.inl rfl) (qaI qbv (dvq 2) (PD.q qah)))
      (qas (qau (i:=3) sc_law.nd rfl (Or.inl rfl) qah)))) qbd)
      (qaj (qau (i:=6) sc_law.nd rfl (Or.inr rfl) (qaO (PD.q (PF.d (qbm (qab qah (qab qah (qab qah (qab (qaI qlP (PD.q qah) (PD.q qah)) qak qay) qai) qai) qai)))) (dvq 3) (fun _ _=>rfl)))
      (qaj (qau (i:=7) sc_law.nd rfl (Or.inl rfl) (qaq Q__law_rows hr rfl (qab (dv 0) (qab (dv 1) (qab (dv 2) (qab (dv 6) qak qaa) qaa) qaa) qaa) qaa (qae qaa (qae qaa (qae qaa qaf)))))
      (qaj (qdO (i:=8) (k:=1) (N':=["_law_number","_law_size"]) (cap:=[none,some 6]) rfl sc_law.nd rfl (Or.inl rfl) (.ok (show qaP ["_law_script","_law_count","_law_many","_law_wide","_law_idle","_law_large","_law_size","_law_rows_here","_law_goal","_law_told","_law_units","_law_state","_law_step","_law_due_here"] (qag qf3) _ ["_law_number","_law_size"] [none,some 6]=true by decide +kernel)) (by decide +kernel) (qaG (by decide)) (qbI (qaq Q__law_draws hr rfl (qab (qaq Q__law_cell hr rfl (qab (dv 0) (qab qah qak qai) qaa) qaa (qae qai qaf)) (qab qah (qab (qaI qaX (PD.q (PF.d (qbm (qab (dv 6) qak qaa)))) (dvq 1)) qak qay) qai) qam) qam (qae qai (qae qay qaf)))) (fun _ _ _ _ _=>(qao (i:=0) (show List.Nodup (["_law_number","_law_size"]:List Str) by decide +kernel) rfl (Or.inl rfl))) (fun _ _ _ _ _=>(qaI qcv (dvq 0) (PD.q (qaI qbp (dvq 1) (PD.q qah))))))
      (qbL (qcp (qaQ (qfK hr.units) (dvq 4) (PD.q qah) (qaC _)) (qas (qau (i:=8) sc_law.nd rfl (Or.inl rfl) (qaI qaX (PD.q (PF.d (qbm (qab qah qak qai)))) (dvq 1)))) qbd)
      (qaj (qau (i:=9) sc_law.nd rfl (Or.inl rfl) (qaq Q_trail hr rfl (qab (qaH qaS rfl z_tuple PyProof.Rows.boot_tuple (qar (dvq 7) qaB qaa) qaa qaf) (qab (qaH qaS rfl z_tuple PyProof.Rows.boot_tuple (qar (dvq 8) qaB qaa) qaa qaf) qak qam) qam) qam (qae qam qaf)))
      (qbL (qcp (qjv (qhG (PD.q (qiQ rfl z_isinstance (dvq 9) (qeM (v:=.ty "tuple") rfl z_tuple PyProof.Rows.boot_tuple rfl) qaa qaa)) (fun _=>rfl))) (qas (qaM qhi)) qbd)
      (qaj (qdO (i:=10) (k:=1) (N':=["_law_k","_law_count"]) (cap:=[none,some 1]) rfl sc_law.nd rfl (Or.inl rfl) (.ok (show qaP ["_law_script","_law_count","_law_many","_law_wide","_law_idle","_law_large","_law_size","_law_rows_here","_law_goal","_law_told","_law_units","_law_state","_law_step","_law_due_here"] (qag qf3) _ ["_law_k","_law_count"] [none,some 1]=true by decide +kernel)) (by decide +kernel) (qaG (by decide)) (qa8 rfl z_range (qab (dv 1) qak qaa)) (fun _ _ _ _ _=>(qao (i:=0) (show List.Nodup (["_law_k","_law_count"]:List Str) by decide +kernel) rfl (Or.inl rfl))) (fun _ _ _ _ _=>(qaI qbv (PD.q (qaI qbv (PD.q (qaI qaX (PD.q (PF.d (qbm (qab qah qak qai)))) (dvq 0))) (PD.q (PF.d (qbm (qab qah qak qai)))))) (PD.q (qaI qaX (PD.q (PF.d (qbm (qab qah qak qai)))) (PD.q (qaI qcv (PD.q (qaI qcv (dvq 1) (PD.q qah))) (dvq 0))))))))
      (qaj (qau (i:=11) sc_law.nd rfl (Or.inl rfl) (qbe (qab (PF.d (qfN rfl rfl z_list rfl z_range (qab (dv 1) qak qaa))) (qab (dv 10) (qab (PF.d (qaT (k:=1) (N':=["_law_row"]) (cap:=[none]) rfl (.ok (show qaP ["_law_script","_law_count","_law_many","_law_wide","_law_idle","_law_large","_law_size","_law_rows_here","_law_goal","_law_told","_law_units","_law_state","_law_step","_law_due_here"] (qag qf3) _ ["_law_row"] [none]=true by decide +kernel)) (by decide +kernel) (qaG (by decide)) (qbI (qmW (dvq 7) qgB (qgL (dvq 1)))) (fun _ _ _ _ _=>(qao (i:=0) (show List.Nodup (["_law_row"]:List Str) by decide +kernel) rfl (Or.inl rfl))) (fun _ _ _ _ _=>(qaO (dvq 0) (PD.q qah) (fun _ _=>rfl))))) (qab qah qak qai) qal) qaa) qam)))
      (qaj (qcF PassesOwn.never rfl (qbI (dv 9)) (qao (i:=12) sc_law.nd rfl (Or.inl rfl)) (qaj (qau (i:=13) sc_law.nd rfl (Or.inl rfl) (qaq Q__law_due hr rfl (qab (dv 7) (qab (dv 8) (qab (dv 11) qak qaa) qaa) qaa) qaa (qae qaa (qae qaa qaf))))
      (qbL (qcp (PWD.td (qk4 (qjv (qhG (PD.q (qiQ rfl z_isinstance (dvq 12) (qeM (v:=.ty "tuple") rfl z_tuple PyProof.Rows.boot_tuple rfl) qaa qaa)) (fun _=>rfl))) (qfX (qaQ (qm0 hr.units) (PD.q (qaK qcG rfl z_len PySem.boot_len (qar (dvq 12) qaB qaa) qaa qaf)) (PD.q qah) (qaC _))))) (qas (qaM qhi)) qbd)
      (qbL (qcp (PWD.td (qk4 (qjv (qhG (PD.q (qaq Q__law_whole hr rfl (qab (qaO (dvq 12) (PD.q qah) (fun _ _=>rfl)) qak qac) qac qaf)) (fun _=>rfl))) (qfX (qjv (qhG (PD.q (qaq Q__law_whole hr rfl (qab (qaO (dvq 12) (PD.q qah) (fun _ _=>rfl)) qak qac) qac qaf)) (fun _=>rfl)))))) (qas (qaM qhi)) qbd)
      (qbL (qcp (PWD.td (qk4 (qaQ (qm0 hr.units) (PD.q (qaO (dvq 13) (PD.q qah) (fun _ _=>rfl))) (PD.q qbo) (qaC _)) (qfX (qaQ (qm0 hr.units) (dvq 12) (PD.q (qbe (qab (qaO (PD.q (qaO (dvq 11) (PD.q qah) (fun _ _=>rfl))) (PD.q (qaO (dvq 13) (PD.q qah) (fun _ _=>rfl))) (fun _ _=>rfl)) (qab (qaO (dvq 13) (PD.q qah) (fun _ _=>rfl)) qak qac) qac))) (qaC _))))) (qas (qaM qhi)) qbd)
      (qas (qau (i:=11) sc_law.nd rfl (Or.inl rfl) (qaq Q__law_exchanged hr rfl (qab (dv 7) (qab (dv 11) (qab (qaO (dvq 13) (PD.q qah) (fun _ _=>rfl)) (qab (qaO (dvq 13) (PD.q qah) (fun _ _=>rfl)) qak qac) qac) qaa) qaa) qaa (qae qaa (qae qac (qae qac qaf)))))))))))
      (qaj (qau (i:=13) sc_law.nd rfl (Or.inl rfl) (qaq Q__law_due hr rfl (qab (dv 7) (qab (dv 8) (qab (dv 11) qak qaa) qaa) qaa) qaa (qae qaa (qae qaa qaf))))
      (qbL (qcp (qaQ (qfK hr.units) (PD.q (qaO (dvq 13) (PD.q qah) (fun _ _=>rfl))) (PD.q qbo) (qaC _)) (qas (qaM qhi)) qbd)
      (qas (qaM (qmf (qfK hr.units) (PD.q (qaq Q_first hr rfl (qab (qaH qaS rfl z_tuple PyProof.Rows.boot_tuple (qar (dvq 7) qaB qaa) qaa qaf) (qab (qaH qaS rfl z_tuple PyProof.Rows.boot_tuple (qar (dvq 8) qaB qaa) qaa qaf) qak qam) qam) qam (qae qam qaf))) (PD.q (qaq Q__law_end hr rfl (qab (dv 7) (qab (dv 8) (qab (dv 11) (qab (dv 13) qak qaa) qaa) qaa) qaa) qaa (qae qaa (qae qaa (qae qaa qaf))))) (qaC _))))))))))))))))),?_⟩
  refine ⟨ns,0,rfl,hz,by decide,fun c0=>⟨c0,1,[5,7,4,8,12],rfl,by decide,by decide,by decide,by decide +kernel,fun es hD=>?_⟩⟩
  obtain ⟨x0,x1,x2,x3,x4,rfl,d0,d1,d2,d3,d4⟩:=ql3 hD
  have d0:0≤x0∧x0<5:=d0
  have d1:0≤x1∧x1<7:=d1
  have d2:0≤x2∧x2<4:=d2
  refine ⟨rfl,fun ρ=>∃ (c mm:Nat) (xw:Int),c≤8∧mm≤12∧(0≤xw∧xw<4)∧ρ=[some (.v (.fzl (ns.map D.int))),some (.v (.int (c:Int))),some (.v (.int (mm:Int))),some (.v (.int xw)),some (.v (.int x3)),some (.v (.int x4)),none,none,none,none,none,none,none,none],⟨fun h=>?_,fun h=>?_⟩,?_⟩
  · refine ⟨(x0+4).toNat,(x1+6).toNat,0,by omega,by omega,by decide,?_⟩
    rw [show (((x0+4).toNat:Nat):Int)=x0+4 by omega,show (((x1+6).toNat:Nat):Int)=x1+6 by omega]
    rfl
  · refine ⟨x0.toNat,x1.toNat,x2,by omega,by omega,d2,?_⟩
    rw [show ((x0.toNat:Nat):Int)=x0 by omega,show ((x1.toNat:Nat):Int)=x1 by omega]
    rfl
  rintro ρ ⟨c,mm,xw,hc,hm,hxw,rfl⟩
  obtain ⟨z,hzat,z1,z12⟩:=ql8 hxw
  have z50:z≤10 ^ 50:=Int.le_trans z12 (by decide)
  have z9:=qls z50
  refine ⟨⟨by decide,by decide,by decide⟩,.int z,hzat,ns,c,mm,z,rfl,hz,hc,hm,z1,z50,fun rs hG=>?_⟩
  refine ⟨ns,2,rfl,hz,by decide,fun c2=>⟨⟨by omega,by omega,small (by show 1*(c:Int).toNat≤1000;omega)⟩,(List.replicate c z).map D.int,by rw [qbO,Int.toNat_natCast],c2,7,List.replicate c z,rfl,by rw [List.length_replicate];omega,by decide,by decide,fun y hy=>?_,fun es hD2=>?_⟩⟩
  · rw [(List.mem_replicate.mp hy).2]
    exact ⟨by omega,z9⟩
  have hel:es.length=c:=by rw [hD2.len,List.length_replicate]
  refine qa5 (f:=D.int) (fun x=>x - z / 2) (qap (by omega)) (fun x _=>⟨CDivB.of (by decide) (by decide +kernel),rfl⟩) ?_
  have hgb0:∀ x∈es.map fun x=>x - z / 2,x.natAbs≤10 ^ 50:=fun x hx=>by
    obtain ⟨y,hy,rfl⟩:=List.mem_map.mp hx
    obtain ⟨zz,hzz,y0,y1⟩:=hD2.mem y hy
    rw [(List.mem_replicate.mp hzz).2] at y1
    exact qmX y0 y1 z50
  refine ⟨fun ρ=>∃ gs:List Int,gs.length=c∧(∀ x∈gs,x.natAbs≤10 ^ 50)∧ρ=[some (.v (.fzl (ns.map D.int))),some (.v (.int (c:Int))),some (.v (.int (mm:Int))),some (.v (.int xw)),some (.v (.int x3)),some (.v (.int x4)),some (.v (.int z)),some (.v (.lst (rs.map qa3))),some (.v (.lst (gs.map D.int))),none,none,none,none,none],⟨fun h=>?_,fun h=>⟨es.map fun x=>x - z / 2,by rw [List.length_map];exact hel,hgb0,rfl⟩⟩,?_⟩
  · refine ⟨⟨by omega,by omega,small (by show 1*(c:Int).toNat≤1000;omega)⟩,(List.replicate c (0:Int)).map D.int,by rw [qbO,Int.toNat_natCast],List.replicate c 0,List.length_replicate,fun x hx=>?_,rfl⟩
    rw [(List.mem_replicate.mp hx).2]
    decide
  rintro ρ ⟨gs,hgl,hgb,rfl⟩
  have ho:FirstOk rs gs c:=qju hG hc hm hgl hgb
  have hrw:=ho.rw_
  have e167:10 ^ 50≤2 ^ 167:=by decide
  have hr1:Rb c rs:=⟨hG.el,fun r hr x hx=>Nat.le_trans (hG.eb r hr x hx) e167,fun r hr=>Nat.le_trans (hG.bb r hr) e167,by have:=hG.len;omega⟩
  have hgb':∀ x∈gs,x.natAbs≤2 ^ 167:=fun x hx=>Nat.le_trans (hgb x hx) e167
  have hcl:c≤rs.length:=by have:=hG.len;omega
  refine ⟨rs,gs,c,rfl,ho,fun sd st j d hH hf he=>?_⟩
  refine ⟨fun ρ=>ρ=[some (.v (.fzl (ns.map D.int))),some (.v (.int (c:Int))),some (.v (.int (mm:Int))),some (.v (.int xw)),some (.v (.int x3)),some (.v (.int x4)),some (.v (.int z)),some (.v (.lst (rs.map qa3))),some (.v (.lst (gs.map D.int))),some (.v (.tup (st.map prD))),none,none,none,none],⟨true,qjX _,fun h=>(by cases h),fun _=>rfl⟩,?_⟩
  rintro ρ rfl
  refine ⟨⟨by omega,by omega⟩,?_⟩
  refine qbT (fun k=>wL (unL c k)) (qap (by omega)) (fun k hk=>?_) ?_
  · have hk':k<c:=by omega
    refine ⟨⟨by omega,by omega,small (by show 1*(0+(k:Int)).toNat≤1000;omega)⟩,(List.replicate k (0:Int)).map D.int,by rw [qbO,show (0+(k:Int)).toNat=k by omega],?_,_,qcm D.int _ 1,⟨by omega,by omega,small (by show 1*((c:Int) - 1 - (0+(k:Int))).toNat≤1000;omega)⟩,(List.replicate (c - 1 - k) (0:Int)).map D.int,by rw [qbO,show ((c:Int) - 1 - (0+(k:Int))).toNat=c - 1 - k by omega],?_,_,qlo D.int _ _,?_⟩
    · rw [List.length_map,List.length_replicate];exact small (by show k+1≤1000;omega)
    · rw [List.length_map,List.length_map,List.length_append,List.length_replicate,List.length_replicate];exact small (by show k+1+(c - 1 - k)≤1000;omega)
    · show D.lst _=wL (unL c k)
      rw [qgs hk' 1]
      rfl
  rw [Int.toNat_natCast,qh3]
  refine ⟨⟨by omega,by omega⟩,?_⟩
  refine ⟨_,(qdr qa3 rs none (some (c:Int))).trans (by rw [qgn]),?_⟩
  refine qa5 (f:=qa3) (fun r=>r.2) (qap (by rw [List.length_take];omega)) (fun r _=>⟨_,rfl,rfl⟩) ?_
  rw [qk9 hcl]
  refine ⟨fun i ρ=>∃ (g:Int) (ls sd':Std) (u12 u13:Option Sl),ρ=[some (.v (.fzl (ns.map D.int))),some (.v (.int (c:Int))),some (.v (.int (mm:Int))),some (.v (.int xw)),some (.v (.int x3)),some (.v (.int x4)),some (.v (.int z)),some (.v (.lst (rs.map qa3))),some (.v (.lst (gs.map D.int))),some (.v (.tup (st.map prD))),some (.v (.lst ((qd3 rs c).ways.map wL))),some (.v (lsD ls)),u12,u13]∧Rl g ls sd'∧Wf rs c sd'∧Tr rs gs c (qd3 rs c) sd' (st.take i),⟨1,qd3 rs c,qd3 rs c,none,none,?_,Rl.refl _,qjZ hrw ho.un,.nil⟩,?_,?_⟩
  · rw [qix]
    rfl
  · rintro i e ρ hE ⟨g,ls,sd',u12,u13,rfl,hR,hf',hTr⟩
    obtain ⟨x,rfl,hx⟩:=qbZ hE
    obtain ⟨sd1,p,qn,t1,f1,s1,e1⟩:=hH.tr.at i (qaF hx)
    have es1:=t1.run.uniq hTr.run
    subst es1
    rw [hx] at e1
    cases e1
    have hb:=Wf.lb hR hf' hr1 hc
    have hwl:sd1.held.length=sd1.ways.length:=by rw [hf'.hl,hf'.wl]
    refine ⟨c,rs,gs,ls,rfl,hb,hr1,hgl,hgb',Wf.nofall hR hrw hf',fun d hdu=>?_⟩
    have ed:=hdu.step_ hf'.nd hwl hR s1
    subst ed
    obtain ⟨hp,⟨q0,q1⟩,hgr,_⟩:=s1.all hrw hf' ho.gw
    have hf2:=hf'.ex hrw hp q0 q1 hgr
    obtain ⟨G1,g',hR2,eG⟩:=hR.step hrw hf' hf2 hp q0 q1 hgr
    have hb2:=Wf.lb hR2 hf2 hr1 hc
    have G9:=qos hR hb hb2 hR2 (by have:=(hf2.sz hrw).b;have:=(hf2.sz hrw).b0;omega) eG (by omega)
    have hat:atI (ls.held.map D.int) (p:Int)=some (.int (sd1.held.getD p 0)):=by rw [hb.ht hp rfl,hR.held]
    refine ⟨fun ρ=>ρ=[some (.v (.fzl (ns.map D.int))),some (.v (.int (c:Int))),some (.v (.int (mm:Int))),some (.v (.int xw)),some (.v (.int x3)),some (.v (.int x4)),some (.v (.int z)),some (.v (.lst (rs.map qa3))),some (.v (.lst (gs.map D.int))),some (.v (.tup (st.map prD))),some (.v (.lst ((qd3 rs c).ways.map wL))),some (.v (lsD ls)),some (.v (prD (sd1.held.getD p 0,qn))),some (.v (qeU p qn))],⟨true,qjX _,fun h=>(by cases h),fun _=>⟨fun h=>(by cases h),fun _=>rfl⟩⟩,?_⟩
    rintro ρ rfl
    refine ⟨fun ρ=>ρ=[some (.v (.fzl (ns.map D.int))),some (.v (.int (c:Int))),some (.v (.int (mm:Int))),some (.v (.int xw)),some (.v (.int x3)),some (.v (.int x4)),some (.v (.int z)),some (.v (.lst (rs.map qa3))),some (.v (.lst (gs.map D.int))),some (.v (.tup (st.map prD))),some (.v (.lst ((qd3 rs c).ways.map wL))),some (.v (lsD ls)),some (.v (prD (sd1.held.getD p 0,qn))),some (.v (qeU p qn))],⟨_,rfl,_,rfl,fun h=>(by cases h),fun _=>⟨_,rfl,_,rfl,fun h=>(by cases h),fun _=>rfl⟩⟩,?_⟩
    rintro ρ rfl
    refine ⟨fun ρ=>ρ=[some (.v (.fzl (ns.map D.int))),some (.v (.int (c:Int))),some (.v (.int (mm:Int))),some (.v (.int xw)),some (.v (.int x3)),some (.v (.int x4)),some (.v (.int z)),some (.v (.lst (rs.map qa3))),some (.v (.lst (gs.map D.int))),some (.v (.tup (st.map prD))),some (.v (.lst ((qd3 rs c).ways.map wL))),some (.v (lsD ls)),some (.v (prD (sd1.held.getD p 0,qn))),some (.v (qeU p qn))],⟨_,rfl,fun h=>(by cases h),fun _=>⟨_,rfl,_,rfl,_,hat,_,rfl,qnC (xs:=[sd1.held.getD p 0,qn]) (ys:=[sd1.held.getD p 0,qn]) (fun c=>absurd rfl c) fun _=>rfl⟩⟩,?_⟩
    rintro ρ rfl
    refine ⟨_,rfl,_,rfl,c,rs,ls,p,qn,rfl,hb,hr1,hp,q0,q1,G1,G9,g',lxL (qad rs qn) ls p qn,exL (qad rs qn) sd1 p qn,_,_,rfl,hR2,hf2,?_⟩
    rw [qbc hx]
    exact .snoc hTr hf' s1
  rintro ρ ⟨g,ls,sd',u12,u13,rfl,hR,hf',hTr⟩
  rw [List.length_map,List.take_length] at hTr
  have es1:=hTr.run.uniq hH.tr.run
  subst es1
  have hwl:sd'.held.length=sd'.ways.length:=by rw [hf'.hl,hf'.wl]
  have hst:=he.stuck hf'.nd hwl
  have hb:=Wf.lb hR hf' hr1 hc
  refine ⟨c,rs,gs,ls,rfl,hb,hr1,hgl,hgb',Wf.nofall hR hrw hf',fun du hdu=>?_⟩
  have hns:=hdu.stuck_ hR hst
  have hdu2:=hdu
  have fin:∀ {sd2:Std} {st2:List (Int × Int)} {j2:Nat} {d2 d3:D},Hist rs gs c (qd3 rs c) sd2 st2 j2→Wf rs c sd2→End rs gs sd2 d2→End rs gs ls d3→zEq d2 d3 R:=fun {sd2 st2 j2 d2 d3} hH2 hf2 he2 h3=>by
    have e2:=hH2.run.one hH.run (he2.stuck hf2.nd (by rw [hf2.hl,hf2.wl])) hst
    subst e2
    have e3:=End.uniq hf'.nd hwl he2 (hR.end_ h3)
    subst e3
    show (match cmB 40 d2 d2 with | some b=>R (.bl b) | none=>False)
    rw [he2.same]
    exact q
  have hmh:∀ qn,Miss rs ls qn→qn∉ls.held:=fun qn h=>by rw [hR.held];exact Miss.out hrw hf' (hR.miss h)
  have hnd:ls.held.Nodup:=by rw [hR.held];exact hf'.nd
  cases hdu with
  | step p qn h=>exact absurd rfl (hns p qn)
  | non qn a b =>
    refine ⟨fun ρ=>ρ=[some (.v (.fzl (ns.map D.int))),some (.v (.int (c:Int))),some (.v (.int (mm:Int))),some (.v (.int xw)),some (.v (.int x3)),some (.v (.int x4)),some (.v (.int z)),some (.v (.lst (rs.map qa3))),some (.v (.lst (gs.map D.int))),some (.v (.tup (st.map prD))),some (.v (.lst ((qd3 rs c).ways.map wL))),some (.v (lsD ls)),u12,some (.v (.tup [.str "none",.int qn,.int qn]))],⟨_,rfl,fun h=>(by cases h),fun _=>rfl⟩,?_⟩
    rintro ρ rfl
    exact ⟨rs,gs,c,rfl,ho,fun sd2 st2 j2 d2 hH2 hf2 he2=>⟨c,rs,gs,ls,_,rfl,hb,hr1,hgl,hgb',hnd,hmh,hdu2,hns,fun d3 h3=>fin hH2 hf2 he2 h3⟩⟩
  | best a b =>
    refine ⟨fun ρ=>ρ=[some (.v (.fzl (ns.map D.int))),some (.v (.int (c:Int))),some (.v (.int (mm:Int))),some (.v (.int xw)),some (.v (.int x3)),some (.v (.int x4)),some (.v (.int z)),some (.v (.lst (rs.map qa3))),some (.v (.lst (gs.map D.int))),some (.v (.tup (st.map prD))),some (.v (.lst ((qd3 rs c).ways.map wL))),some (.v (lsD ls)),u12,some (.v (.tup [.str "best",.int 0,.int 0]))],⟨_,rfl,fun h=>(by cases h),fun _=>rfl⟩,?_⟩
    rintro ρ rfl
    exact ⟨rs,gs,c,rfl,ho,fun sd2 st2 j2 d2 hH2 hf2 he2=>⟨c,rs,gs,ls,_,rfl,hb,hr1,hgl,hgb',hnd,hmh,hdu2,hns,fun d3 h3=>fin hH2 hf2 he2 h3⟩⟩
  | endl p a b e =>
    refine ⟨fun ρ=>ρ=[some (.v (.fzl (ns.map D.int))),some (.v (.int (c:Int))),some (.v (.int (mm:Int))),some (.v (.int xw)),some (.v (.int x3)),some (.v (.int x4)),some (.v (.int z)),some (.v (.lst (rs.map qa3))),some (.v (.lst (gs.map D.int))),some (.v (.tup (st.map prD))),some (.v (.lst ((qd3 rs c).ways.map wL))),some (.v (lsD ls)),u12,some (.v (.tup [.str "endless",.int (p:Int),.int (p:Int)]))],⟨_,rfl,fun h=>(by cases h),fun _=>rfl⟩,?_⟩
    rintro ρ rfl
    exact ⟨rs,gs,c,rfl,ho,fun sd2 st2 j2 d2 hH2 hf2 he2=>⟨c,rs,gs,ls,_,rfl,hb,hr1,hgl,hgb',hnd,hmh,hdu2,hns,fun d3 h3=>fin hH2 hf2 he2 h3⟩⟩
end
theorem qnw {A:Type} {p:List A→Prop} (h:∀ a0,p [a0]):∀ us:List A,us.length=1→p us
  | [a0],_=>h a0
theorem qfg {A:Type} {p:List A→Prop} (h:∀ a0 a1,p [a0,a1]):∀ us:List A,us.length=2→p us
  | [a0,a1],_=>h a0 a1
theorem qjQ {A:Type} {p:List A→Prop} (h:∀ a0 a1 a2,p [a0,a1,a2]):∀ us:List A,us.length=3→p us
  | [a0,a1,a2],_=>h a0 a1 a2
theorem qko {A:Type} {p:List A→Prop} (h:∀ a0 a1 a2 a3,p [a0,a1,a2,a3]):∀ us:List A,us.length=4→p us
  | [a0,a1,a2,a3],_=>h a0 a1 a2 a3
theorem qnM {A:Type} {p:List A→Prop} (h:∀ a0 a1 a2 a3 a4,p [a0,a1,a2,a3,a4]):∀ us:List A,us.length=5→p us
  | [a0,a1,a2,a3,a4],_=>h a0 a1 a2 a3 a4
theorem all_mk {l:PySem.W.OpenLaw} {w:World} {K:PySem.W.Frag} {h:Heap} {mg:Str→Option Value} {fa f10 f38:Addr} {C_Stand:Addr} (X:K.In h) (G:h.Ns mainGlobals mg) (hfa:mg "law"=some (.ref fa))
    {od10 an10 od38 an38:Option Addr} {sl10 sl38:Array (Option Value)} {oc10 kV10 dc10 pm10 cd10 ct10 oc38 kV38 dc38 pm38 cd38 ct38:Value}
    (aC_Stand:PySem.W.nsIn K mainGlobals "Stand"=some (some (.ref C_Stand)))
    (a1:Has K qbj "common_of_two")
    (a2:Has K qds "common")
    (a3:Has K qcS "lowest")
    (a4:Has K qe3 "unit")
    (a5:Has K qfh "left")
    (a6:Has K qbt "beginning")
    (a7:Has K qcr "growths")
    (a8:Has K qgJ "over")
    (a9:Has K qbW "missed_row")
    (a10:PySem.W.nsIn K mainGlobals "least_grown"=some (some (.ref f10))) (l10:K.lookup f10=some ⟨oc10,od10,.func (PySem.W.fnOf "least_grown" "least_grown" (qbQ qaz) (qbf qaz) (qag qaz) .none kV10 dc10 pm10 an10 cd10 ct10),sl10⟩) (c10:PySem.W.codeIn K cd10 "least_grown"=true) (k10:PySem.W.keepIn K (.ref f10)=true)
    {cc10 pp10:Addr} {dq10:Option Addr} {vq10:Array Value} {sq10:Array (Option Value)} (x10:cd10=.ref cc10) (q10:K.lookup cc10=some ⟨.type "code",dq10,.fields vq10,sq10⟩) (r10:(vq10[11]?:Option Value)=some (.ref pp10)) (v10:PySem.W.codeHdIn [(cc10,⟨.type "code",dq10,.fields vq10,sq10⟩)] cc10 pp10=true) (yg:PySem.W.nsIn K mainGlobals "greatest_first"=some none)
    (a11:Has K qbA "stopping_row")
    (a12:Has K qdA "moved")
    (a13:Has K qbx "exchanged")
    (a14:Has K qcM "fallen")
    (a15:Has K qbu "in_lowest")
    (a16:Has K qbK "none_ending")
    (a17:Has K qbH "best_ending")
    (a18:Has K qa4 "endless_ending")
    (a19:Has K qca "next_step")
    (a20:Has K qcT "walk_on")
    (a21:Has K qgy "walk")
    (a22:Has K qer "trail")
    (a23:Has K qeO "first")
    (a24:Has K qbU "_law_whole")
    (a25:Has K qb6 "_law_cell")
    (a26:Has K qbV "_law_mixed")
    (a27:Has K qbY "_law_draws")
    (a28:Has K qbJ "_law_shared")
    (a29:Has K qbP "_law_rows")
    (a30:Has K qbB "_law_times")
    (a31:Has K qaY "_law_least_growing")
    (a32:Has K qb8 "_law_stop")
    (a33:Has K qcu "_law_due")
    (a34:Has K qaE "_law_exchanged")
    (a35:Has K qb9 "_law_owed")
    (a36:Has K qa7 "_law_end")
    (a37:Has K qf3 "law")
    (a38:PySem.W.findIn K (.ref C_Stand) "__init__"=some (some (.ref f38))) (i38:PySem.W.isFn K (.ref f38)=true) (l38:K.lookup f38=some ⟨oc38,od38,.func (PySem.W.fnOf "__init__" "Stand.__init__" (qbQ qaL) (qbf qaL) (qag qaL) .none kV38 dc38 pm38 an38 cd38 ct38),sl38⟩) (c38:PySem.W.codeIn K cd38 "Stand.__init__"=true) (k38:PySem.W.keepIn K (.ref f38)=true)
    (pg_Stand:PySem.W.plainGet K C_Stand Str.empty=true) (hd_Stand:PySem.W.hasDictIn K C_Stand=true) (po_Stand:PySem.W.plainOver K C_Stand=true) (sa_Stand:PySem.W.findIn K (.ref C_Stand) "__setattr__"=some (some (.builtin "object.__setattr__"))) (mk_Stand:PySem.W.makesIn K C_Stand=true) (kc_Stand:PySem.W.keepIn K (.ref C_Stand)=true)
    (n_Stand_held:PySem.W.findIn K (.ref C_Stand) "held"=some none)
    (n_Stand_ways:PySem.W.findIn K (.ref C_Stand) "ways"=some none)
    (n_Stand_tops:PySem.W.findIn K (.ref C_Stand) "tops"=some none)
    (n_Stand_bottom:PySem.W.findIn K (.ref C_Stand) "bottom"=some none)
    (y_abs:PySem.W.nsIn K mainGlobals "abs"=some none)
    (y_tuple:PySem.W.nsIn K mainGlobals "tuple"=some none)
    (y_range:PySem.W.nsIn K mainGlobals "range"=some none)
    (y_sum:PySem.W.nsIn K mainGlobals "sum"=some none)
    (y_zip:PySem.W.nsIn K mainGlobals "zip"=some none)
    (y_min:PySem.W.nsIn K mainGlobals "min"=some none)
    (y_len:PySem.W.nsIn K mainGlobals "len"=some none)
    (y_sorted:PySem.W.nsIn K mainGlobals "sorted"=some none)
    (y_isinstance:PySem.W.nsIn K mainGlobals "isinstance"=some none)
    (y_int:PySem.W.nsIn K mainGlobals "int"=some none)
    (y_bool:PySem.W.nsIn K mainGlobals "bool"=some none)
    (y_enumerate:PySem.W.nsIn K mainGlobals "enumerate"=some none)
    (y_list:PySem.W.nsIn K mainGlobals "list"=some none) :
    ∃ fd:FuncData,(∀ (s:Shared) (v:Value),BindsTo s fd ⟨[v],[]⟩ [("_law_script",v)])∧∀ base:Heap,K.In base→base.Ns mainGlobals mg→FnOk l.prog w K mg base CX0 10 fa fd ["_law_script"] (sp_law K):=by
  obtain ⟨f1,d1,F1,m1,_⟩:=a1.fn X G
  obtain ⟨f2,d2,F2,m2,_⟩:=a2.fn X G
  obtain ⟨f3,d3,F3,m3,_⟩:=a3.fn X G
  obtain ⟨f4,d4,F4,m4,_⟩:=a4.fn X G
  obtain ⟨f5,d5,F5,m5,_⟩:=a5.fn X G
  obtain ⟨f6,d6,F6,m6,_⟩:=a6.fn X G
  obtain ⟨f7,d7,F7,m7,_⟩:=a7.fn X G
  obtain ⟨f8,d8,F8,m8,_⟩:=a8.fn X G
  obtain ⟨f9,d9,F9,m9,_⟩:=a9.fn X G
  have F10:=qhC (st:=qaz) l10 c10 k10
  have m10:=PySem.W.mg_of X G a10
  obtain ⟨f11,d11,F11,m11,_⟩:=a11.fn X G
  obtain ⟨f12,d12,F12,m12,_⟩:=a12.fn X G
  obtain ⟨f13,d13,F13,m13,_⟩:=a13.fn X G
  obtain ⟨f14,d14,F14,m14,_⟩:=a14.fn X G
  obtain ⟨f15,d15,F15,m15,_⟩:=a15.fn X G
  obtain ⟨f16,d16,F16,m16,_⟩:=a16.fn X G
  obtain ⟨f17,d17,F17,m17,_⟩:=a17.fn X G
  obtain ⟨f18,d18,F18,m18,_⟩:=a18.fn X G
  obtain ⟨f19,d19,F19,m19,_⟩:=a19.fn X G
  obtain ⟨f20,d20,F20,m20,_⟩:=a20.fn X G
  obtain ⟨f21,d21,F21,m21,_⟩:=a21.fn X G
  obtain ⟨f22,d22,F22,m22,_⟩:=a22.fn X G
  obtain ⟨f23,d23,F23,m23,_⟩:=a23.fn X G
  obtain ⟨f24,d24,F24,m24,_⟩:=a24.fn X G
  obtain ⟨f25,d25,F25,m25,_⟩:=a25.fn X G
  obtain ⟨f26,d26,F26,m26,_⟩:=a26.fn X G
  obtain ⟨f27,d27,F27,m27,_⟩:=a27.fn X G
  obtain ⟨f28,d28,F28,m28,_⟩:=a28.fn X G
  obtain ⟨f29,d29,F29,m29,_⟩:=a29.fn X G
  obtain ⟨f30,d30,F30,m30,_⟩:=a30.fn X G
  obtain ⟨f31,d31,F31,m31,_⟩:=a31.fn X G
  obtain ⟨f32,d32,F32,m32,_⟩:=a32.fn X G
  obtain ⟨f33,d33,F33,m33,_⟩:=a33.fn X G
  obtain ⟨f34,d34,F34,m34,_⟩:=a34.fn X G
  obtain ⟨f35,d35,F35,m35,_⟩:=a35.fn X G
  obtain ⟨f36,d36,F36,m36,_⟩:=a36.fn X G
  obtain ⟨f37,d37,F37,m37,_,_,_,e⟩:=a37.fn X G
  have F38:=qhC (st:=qaL) l38 c38 k38
  have b38:=F38.binds (ps:=["self","held","ways","tops","bottom"]) <| fun _ _ _ _ _ _=>qnM fun _ _ _ _ _=>rfl
  cases hfa.symm.trans m37
  refine ⟨d37,fun s v=>by rw [e];exact .of_eq rfl,fun base _ _=>?_⟩
  have z_abs:=PySem.W.mg_none_of X G y_abs
  have z_tuple:=PySem.W.mg_none_of X G y_tuple
  have z_range:=PySem.W.mg_none_of X G y_range
  have z_sum:=PySem.W.mg_none_of X G y_sum
  have z_zip:=PySem.W.mg_none_of X G y_zip
  have z_min:=PySem.W.mg_none_of X G y_min
  have z_len:=PySem.W.mg_none_of X G y_len
  have z_sorted:=PySem.W.mg_none_of X G y_sorted
  have z_isinstance:=PySem.W.mg_none_of X G y_isinstance
  have z_int:=PySem.W.mg_none_of X G y_int
  have z_bool:=PySem.W.mg_none_of X G y_bool
  have z_enumerate:=PySem.W.mg_none_of X G y_enumerate
  have z_list:=PySem.W.mg_none_of X G y_list
  have T_Stand:TxtStand K mg C_Stand:=⟨⟨pg_Stand,hd_Stand,po_Stand,sa_Stand⟩,n_Stand_held,n_Stand_ways,n_Stand_tops,n_Stand_bottom,PySem.W.mg_of X G aC_Stand,aC_Stand⟩
  have H1:=qdn (P:=l.prog) (w:=w) (mg:=mg) (base:=base) (n:=0) F1 z_abs
  have Q1:=F1.cl m1 H1 <| fun _ _ _ _ _ _=>qfg fun _ _=>rfl
  have H2:=qhg (n:=1) F2 (Q1.mono (by decide))
  have Q2:=F2.cl m2 H2 <| fun _ _ _ _ _ _=>qnw fun _=>rfl
  have H3:=qhr (n:=2) F3 (Q1.mono (by decide)) (Q2.mono (by decide)) z_tuple
  have Q3:=F3.cl m3 H3 <| fun _ _ _ _ _ _=>qfg fun _ _=>rfl
  have H4:=qke (P:=l.prog) (w:=w) (mg:=mg) (base:=base) (n:=0) F4 z_tuple z_range
  have Q4:=F4.cl m4 H4 <| fun _ _ _ _ _ _=>qfg fun _ _=>rfl
  have H5:=qkW (P:=l.prog) (w:=w) (mg:=mg) (base:=base) (n:=0) F5 z_sum z_zip
  have Q5:=F5.cl m5 H5 <| fun _ _ _ _ _ _=>qfg fun _ _=>rfl
  have H7:=qg5 (n:=1) F7 T_Stand (Q5.mono (by decide)) z_tuple
  have Q7:=F7.cl m7 H7 <| fun _ _ _ _ _ _=>qfg fun _ _=>rfl
  have H8:=qkB (n:=1) F8 T_Stand (Q5.mono (by decide))
  have Q8:=F8.cl m8 H8 <| fun _ _ _ _ _ _=>qfg fun _ _=>rfl
  have H9:=qeu (n:=2) F9 (Q8.mono (by decide))
  have Q9:=F9.cl m9 H9 <| fun _ _ _ _ _ _=>qjQ fun _ _ _=>rfl
  have L10:LamT K "least_grown" (PySem.W.fnOf "least_grown" "least_grown" (qbQ qaz) (qbf qaz) (qag qaz) .none kV10 dc10 pm10 an10 cd10 ct10) cc10 pp10 ⟨53,27,53,58⟩:=⟨x10,qhb q10 v10,by rw [qep (qgA a10 l10 x10 q10 r10 rfl) (qeb yg)];exact List.mem_singleton.mpr rfl⟩
  have H10:=qd4 (P:=l.prog) (w:=w) (mg:=mg) (base:=base) (n:=0) F10 T_Stand z_min z_range z_len L10
  have Q10:=F10.cl m10 H10 <| fun _ _ _ _ _ _=>qfg fun _ _=>rfl
  have H11:=qdv (n:=2) F11 (Q5.mono (by decide)) (Q8.mono (by decide))
  have Q11:=F11.cl m11 H11 <| fun _ _ _ _ _ _=>qko fun _ _ _ _=>rfl
  have H12:=qi1 (P:=l.prog) (w:=w) (mg:=mg) (base:=base) (n:=0) F12 z_tuple z_zip
  have Q12:=F12.cl m12 H12 <| fun _ _ _ _ _ _=>qnM fun _ _ _ _ _=>rfl
  have H14:=qin (P:=l.prog) (w:=w) (mg:=mg) (base:=base) (n:=0) F14 T_Stand z_range z_len
  have Q14:=F14.cl m14 H14 <| fun _ _ _ _ _ _=>qfg fun _ _=>rfl
  have H15:=qfe (n:=3) F15 (Q3.mono (by decide)) z_tuple z_zip
  have Q15:=F15.cl m15 H15 <| fun _ _ _ _ _ _=>qfg fun _ _=>rfl
  have H16:=qd7 (n:=4) F16 T_Stand (Q15.mono (by decide)) (Q14.mono (by decide)) z_tuple z_sorted
  have Q16:=F16.cl m16 H16 <| fun _ _ _ _ _ _=>qjQ fun _ _ _=>rfl
  have H17:=qd8 (n:=4) F17 T_Stand (Q15.mono (by decide)) (Q14.mono (by decide)) (Q3.mono (by decide)) z_tuple z_sorted
  have Q17:=F17.cl m17 H17 <| fun _ _ _ _ _ _=>qfg fun _ _=>rfl
  have H18:=qdb (n:=3) F18 T_Stand (Q2.mono (by decide)) (Q3.mono (by decide)) z_tuple
  have Q18:=F18.cl m18 H18 <| fun _ _ _ _ _ _=>qfg fun _ _=>rfl
  have H19:=qfu (n:=5) F19 T_Stand (Q9.mono (by decide)) (Q7.mono (by decide)) (Q10.mono (by decide)) (Q11.mono (by decide)) (Q17.mono (by decide)) (Q18.mono (by decide)) (Q16.mono (by decide))
  have Q19:=F19.cl m19 H19 <| fun _ _ _ _ _ _=>qko fun _ _ _ _=>rfl
  have H24:=qeZ (P:=l.prog) (w:=w) (mg:=mg) (base:=base) (n:=0) F24 z_isinstance z_int z_bool
  have Q24:=F24.cl m24 H24 <| fun _ _ _ _ _ _=>qnw fun _=>rfl
  have H25:=qe8 (P:=l.prog) (w:=w) (mg:=mg) (base:=base) (n:=0) F25 z_len
  have Q25:=F25.cl m25 H25 <| fun _ _ _ _ _ _=>qfg fun _ _=>rfl
  have H26:=qeD (P:=l.prog) (w:=w) (mg:=mg) (base:=base) (n:=0) F26 z_abs
  have Q26:=F26.cl m26 H26 <| fun _ _ _ _ _ _=>qjQ fun _ _ _=>rfl
  have H27:=qeV (n:=1) F27 (Q26.mono (by decide)) z_abs z_enumerate
  have Q27:=F27.cl m27 H27 <| fun _ _ _ _ _ _=>qjQ fun _ _ _=>rfl
  have H28:=qd5 (P:=l.prog) (w:=w) (mg:=mg) (base:=base) (n:=0) F28 z_abs
  have Q28:=F28.cl m28 H28 <| fun _ _ _ _ _ _=>qnw fun _=>rfl
  have H29:=qfI (n:=2) F29 (Q27.mono (by decide)) (Q25.mono (by decide)) z_enumerate z_range z_list z_tuple
  have Q29:=F29.cl m29 H29 <| fun _ _ _ _ _ _=>qko fun _ _ _ _=>rfl
  have H30:=qeK (P:=l.prog) (w:=w) (mg:=mg) (base:=base) (n:=0) F30 z_sum z_zip
  have Q30:=F30.cl m30 H30 <| fun _ _ _ _ _ _=>qfg fun _ _=>rfl
  have H31:=qcl (n:=1) F31 (Q30.mono (by decide)) z_range z_len
  have Q31:=F31.cl m31 H31 <| fun _ _ _ _ _ _=>qjQ fun _ _ _=>rfl
  have H32:=qfo (n:=1) F32 (Q30.mono (by decide)) z_range z_len
  have Q32:=F32.cl m32 H32 <| fun _ _ _ _ _ _=>qjQ fun _ _ _=>rfl
  have H33:=qfP (n:=2) F33 (Q31.mono (by decide)) (Q32.mono (by decide)) (Q30.mono (by decide)) z_range z_len
  have Q33:=F33.cl m33 H33 <| fun _ _ _ _ _ _=>qjQ fun _ _ _=>rfl
  have H34:=qc8 (n:=1) F34 (Q30.mono (by decide)) (Q28.mono (by decide)) z_range z_len z_zip
  have Q34:=F34.cl m34 H34 <| fun _ _ _ _ _ _=>qko fun _ _ _ _=>rfl
  have H35:=qe9 (n:=1) F35 (Q30.mono (by decide)) z_range z_len
  have Q35:=F35.cl m35 H35 <| fun _ _ _ _ _ _=>qjQ fun _ _ _=>rfl
  have H36:=qfU (n:=2) F36 (Q28.mono (by decide)) (Q35.mono (by decide)) z_sorted z_tuple
  have Q36:=F36.cl m36 H36 <| fun _ _ _ _ _ _=>qko fun _ _ _ _=>rfl
  have H38:=qcU (P:=l.prog) (w:=w) (mg:=mg) (base:=base) (n:=0) F38 T_Stand
  have H6:=qff (n:=1) F6 T_Stand (Q4.mono (by decide)) (H38.mono (by decide)) b38 ⟨mk_Stand,a38,i38,kc_Stand⟩ z_tuple z_range
  have Q6:=F6.cl m6 H6 <| fun _ _ _ _ _ _=>qfg fun _ _=>rfl
  have H13:=qfw (n:=1) F13 T_Stand (Q7.mono (by decide)) (Q12.mono (by decide)) (Q8.mono (by decide)) (H38.mono (by decide)) b38 ⟨mk_Stand,a38,i38,kc_Stand⟩ z_abs z_range z_tuple z_len
  have Q13:=F13.cl m13 H13 <| fun _ _ _ _ _ _=>qko fun _ _ _ _=>rfl
  have H20:=qgU (n:=6) F20 T_Stand (Q19.mono (by decide)) (Q13.mono (by decide)) z_tuple
  have Q20:=F20.cl m20 H20 <| fun _ _ _ _ _ _=>qko fun _ _ _ _=>rfl
  have H21:=qkd (n:=7) F21 (Q20.mono (by decide)) (Q6.mono (by decide)) z_tuple z_range z_len
  have Q21:=F21.cl m21 H21 <| fun _ _ _ _ _ _=>qfg fun _ _=>rfl
  have H22:=qiJ (n:=8) F22 (Q21.mono (by decide))
  have Q22:=F22.cl m22 H22 <| fun _ _ _ _ _ _=>qfg fun _ _=>rfl
  have H23:=qjw (n:=8) F23 (Q21.mono (by decide))
  have Q23:=F23.cl m23 H23 <| fun _ _ _ _ _ _=>qfg fun _ _=>rfl
  have H37:=qmj (n:=9) F37 (Q27.mono (by decide)) (Q29.mono (by decide)) (Q22.mono (by decide)) (Q33.mono (by decide)) (Q25.mono (by decide)) (Q34.mono (by decide)) (Q23.mono (by decide)) (Q36.mono (by decide)) (Q24.mono (by decide)) z_tuple z_isinstance z_list z_range z_len
  exact H37.imp qiC
theorem walk {l:PySem.W.OpenLaw} {q:Program} {loose:List Str} {XP:(Str→Option Value)→Heap→Prop} {YP:World→Heap→Prop} {d:DefRec} {K:Params→PySem.W.Frag} (hn:l.most=some 63) (hdf:d.params.defaults=[])
    (hY:∀ (w:World) (h:Heap),YP w h→(K w.params).In h)
    (hT:∀ (w:World) (h:Heap),YP w h→∀ t∈qa1 (K w.params),h.get? t.1=some (PySem.W.tabObj #[])∧(K w.params).lookup t.1=none∧isCodeTable h t.1) (hnd:∀ (w:World),∀ t∈qa1 (K w.params),∀ u∈qa1 (K w.params),t.1=u.1→t=u)
    (F:∀ (w:World) (mg:Str→Option Value) (fa:Addr) (h:Heap),(K w.params).In h→h.Ns mainGlobals mg→mg d.name=some (.ref fa) →
      ∃ fd:FuncData,(∀ (s:Shared) (u:Value),BindsTo s fd ⟨[u],[]⟩ [("_law_script",u)])∧∀ base:Heap,(K w.params).In base→base.Ns mainGlobals mg→FnOk l.prog w (K w.params) mg base CX0 10 fa fd ["_law_script"] (sp_law (K w.params))) :
    PySem.W.WalkO q loose XP YP l.row.toRowW d [] (fun f vs=>PySem.call f vs) :=
  L2.walk_ofT (n:=63) (k:=10) (x:="_law_script") (CX:=fun _=>CX0) (sp:=fun w=>sp_law (K w.params)) hn (by decide) hdf ⟨rfl,by decide,by decide⟩ hY hT hnd F (fun _ _ a ns hl hS hTb=>⟨a,ns,rfl,hS,hl,hTb,fun _=>rfl⟩) fun _ _ _ _ _ z=>z
theorem tabs_is {K:PySem.W.Frag} {f c P:Addr} {oc kV dc pm cd ct:Value} {od an odq:Option Addr} {sl slq:Array (Option Value)} {vq:Array Value} (a:PySem.W.nsIn K mainGlobals "least_grown"=some (some (.ref f)))
    (l:K.lookup f=some ⟨oc,od,.func (PySem.W.fnOf "least_grown" "least_grown" (qbQ qaz) (qbf qaz) (qag qaz) .none kV dc pm an cd ct),sl⟩) (x:cd=.ref c) (q:K.lookup c=some ⟨.type "code",odq,.fields vq,slq⟩) (r:(vq[11]?:Option Value)=some (.ref P)) (yg:PySem.W.nsIn K mainGlobals "greatest_first"=some none):∃ ps,qa1 K=[(P,ps)] :=
  ⟨_,qep (qgA a l x q r rfl) (qeb yg)⟩
theorem tabs_in {K:PySem.W.Frag} {h:Heap} {P c:Addr} {odq:Option Addr} {vq:Array Value} {slq:Array (Option Value)} (X:K.In h) (e:∃ ps,qa1 K=[(P,ps)]) (q:K.lookup c=some ⟨.type "code",odq,.fields vq,slq⟩) (r:(vq[11]?:Option Value)=some (.ref P)) (n:K.lookup P=none) (m:h.get? P=some (PySem.W.tabObj #[])) :
    ∀ t∈qa1 K,h.get? t.1=some (PySem.W.tabObj #[])∧K.lookup t.1=none∧isCodeTable h t.1:=fun t ht=>by
  obtain ⟨ps,e⟩:=e
  rw [e] at ht
  have:=List.mem_singleton.mp ht
  subst this
  exact ⟨m,n,c,_,vq,X _ _ q,rfl,rfl,r⟩
theorem tabs_nd {K:PySem.W.Frag} {P:Addr} (e:∃ ps,qa1 K=[(P,ps)]):∀ t∈qa1 K,∀ u∈qa1 K,t.1=u.1→t=u:=fun t ht u hu _=>by
  obtain ⟨ps,e⟩:=e
  rw [e] at ht hu
  rw [List.mem_singleton.mp ht,List.mem_singleton.mp hu]
end Kx
namespace Kx
open PySem PySem.W L2
def KK:Params→Frag:=fun P =>
  (nat_lit 2,⟨.none,none,(.dict #[] 0),#[]⟩) ::
  (nat_lit 3,⟨(.type "dict"),none,(.dict #[dE P "__name__" 165 ((.str "law_cutyard_k11_trail_by_the_rule" 453)),dE P "__doc__" 166 (.none),dE P "__package__" 167 (.none),dE P "__loader__" 168 ((.builtin "__main__.__loader__#opaque")),dE P "__spec__" 169 (.none),dE P "__annotations__" 170 ((.ref 6)),dE P "__builtins__" 171 ((.ref 4)),dE P "__file__" 173 ((.str "/claim/cut.py" 172)),dE P "__cached__" 174 (.none),dE P "YardError" 206 ((.ref 24)),dE P "NoNumber" 222 ((.ref 37)),dE P "common_of_two" 235 ((.ref 46)),dE P "common" 244 ((.ref 53)),dE P "lowest" 250 ((.ref 58)),dE P "unit" 258 ((.ref 63)),dE P "left" 264 ((.ref 68)),dE P "Stand" 301 ((.ref 85)),dE P "beginning" 307 ((.ref 94)),dE P "growths" 313 ((.ref 99)),dE P "over" 321 ((.ref 106)),dE P "missed_row" 331 ((.ref 113)),dE P "least_grown" 337 ((.ref 118)),dE P "stopping_row" 353 ((.ref 125)),dE P "moved" 359 ((.ref 130)),dE P "exchanged" 365 ((.ref 135)),dE P "fallen" 371 ((.ref 140)),dE P "in_lowest" 377 ((.ref 145)),dE P "none_ending" 387 ((.ref 152)),dE P "best_ending" 396 ((.ref 159)),dE P "endless_ending" 402 ((.ref 164)),dE P "next_step" 416 ((.ref 171)),dE P "walk_on" 428 ((.ref 178)),dE P "walk" 436 ((.ref 185)),dE P "trail" 444 ((.ref 192)),dE P "first" 452 ((.ref 199)),dE P "_law_whole" 461 ((.ref 206)),dE P "_law_cell" 469 ((.ref 213)),dE P "_law_mixed" 481 ((.ref 220)),dE P "_law_draws" 495 ((.ref 227)),dE P "_law_shared" 506 ((.ref 234)),dE P "_law_rows" 512 ((.ref 239)),dE P "_law_times" 518 ((.ref 244)),dE P "_law_least_growing" 529 ((.ref 251)),dE P "_law_stop" 546 ((.ref 258)),dE P "_law_due" 562 ((.ref 265)),dE P "_law_exchanged" 568 ((.ref 270)),dE P "_law_owed" 579 ((.ref 277)),dE P "_law_end" 585 ((.ref 282)),dE P "law" 591 ((.ref 287))] 49),#[]⟩) ::
(nat_lit 45,cO "common_of_two" 225 "common_of_two" 226 227 7 2 3 40 181 41 (.ref 42) (.ref 43) 44 233 234) ::
  (nat_lit 46,fO qbj "common_of_two" "common_of_two" "cutyard.wholes" 223 45) ::
(nat_lit 52,cO "common" 236 "common" 237 238 15 1 3 47 181 48 (.ref 49) (.ref 50) 51 242 243) ::
  (nat_lit 53,fO qds "common" "common" "cutyard.wholes" 223 52) ::
(nat_lit 57,cO "lowest" 245 "lowest" 246 247 20 2 3 54 181 55 .none .none 56 248 249) ::
  (nat_lit 58,fO qcS "lowest" "lowest" "cutyard.wholes" 223 57) ::
(nat_lit 62,cO "unit" 253 "unit" 254 255 26 2 3 59 181 60 .none .none 61 256 257) ::
  (nat_lit 63,fO qe3 "unit" "unit" "cutyard.rows" 251 62) ::
(nat_lit 67,cO "left" 259 "left" 260 261 28 2 3 64 181 65 .none .none 66 262 263) ::
  (nat_lit 68,fO qfh "left" "left" "cutyard.rows" 251 67) ::
(nat_lit 81,cO "__init__" 279 "Stand.__init__" 280 281 33 5 3 76 181 77 (.ref 78) (.ref 79) 80 287 288) ::
  (nat_lit 82,fO qaL "__init__" "Stand.__init__" "cutyard.first" 265 81) ::
  (nat_lit 83,⟨(.type "tuple"),none,(.seq #[(.str "bottom" 290),(.str "held" 291),(.str "tops" 292),(.str "ways" 293)] 0),#[]⟩) ::
  (nat_lit 84,⟨(.type "dict"),none,(.dict #[dE P "__module__" 274 ((.str "cutyard.first" 265)),dE P "__firstlineno__" 278 ((.int 31 277)),dE P "__init__" 289 ((.ref 82)),dE P "__static_attributes__" 294 ((.ref 83)),dE P "__dict__" 296 ((.ref 86)),dE P "__weakref__" 298 ((.ref 87)),dE P "__doc__" 299 (.none)] 4),#[]⟩) ::
  (nat_lit 85,⟨(.type "type"),none,(.cls ⟨"Stand",[(.type "object")],[(.ref 85),(.type "object")],84,"Stand",true,[],[],false,none,false⟩),#[none,none,(some (.str "Stand" 267)),(some (.str "Stand" 275)),(some (.builtin "object.__new__")),(some (.bool true))]⟩) ::
  (nat_lit 86,⟨(.type "getset_descriptor"),none,(.fields #[(.str "__dict__" 295),(.ref 85),(.builtin "function.__dict__"),(.builtin "function.__dict__#set")]),#[]⟩) ::
  (nat_lit 87,⟨(.type "getset_descriptor"),none,(.fields #[(.str "__weakref__" 297),(.ref 85),(.builtin "ExceptionGroup.__weakref__"),.none]),#[]⟩) ::
(nat_lit 93,cO "beginning" 302 "beginning" 303 304 38 2 3 90 181 91 .none .none 92 305 306) ::
  (nat_lit 94,fO qbt "beginning" "beginning" "cutyard.first" 265 93) ::
(nat_lit 98,cO "growths" 308 "growths" 309 310 42 2 3 95 181 96 .none .none 97 311 312) ::
  (nat_lit 99,fO qcr "growths" "growths" "cutyard.first" 265 98) ::
(nat_lit 105,cO "over" 314 "over" 315 316 44 2 3 100 181 101 (.ref 102) (.ref 103) 104 319 320) ::
  (nat_lit 106,fO qgJ "over" "over" "cutyard.first" 265 105) ::
(nat_lit 112,cO "missed_row" 322 "missed_row" 323 324 46 3 3 107 181 108 (.ref 109) (.ref 110) 111 329 330) ::
  (nat_lit 113,fO qbW "missed_row" "missed_row" "cutyard.first" 265 112) ::
(nat_lit 117,cO "least_grown" 332 "least_grown" 333 334 51 2 3 114 181 115 .none .none 116 335 336) ::
  (nat_lit 118,fO qaz "least_grown" "least_grown" "cutyard.first" 265 117) ::
(nat_lit 124,cO "stopping_row" 338 "stopping_row" 339 340 54 4 3 119 181 120 (.ref 121) (.ref 122) 123 351 352) ::
  (nat_lit 125,fO qbA "stopping_row" "stopping_row" "cutyard.first" 265 124) ::
(nat_lit 129,cO "moved" 354 "moved" 355 356 67 5 3 126 181 127 .none .none 128 357 358) ::
  (nat_lit 130,fO qdA "moved" "moved" "cutyard.first" 265 129) ::
(nat_lit 134,cO "exchanged" 360 "exchanged" 361 362 69 4 3 131 181 132 .none .none 133 363 364) ::
  (nat_lit 135,fO qbx "exchanged" "exchanged" "cutyard.first" 265 134) ::
(nat_lit 139,cO "fallen" 366 "fallen" 367 368 85 2 3 136 181 137 .none .none 138 369 370) ::
  (nat_lit 140,fO qcM "fallen" "fallen" "cutyard.first" 265 139) ::
(nat_lit 144,cO "in_lowest" 372 "in_lowest" 373 374 87 2 3 141 181 142 .none .none 143 375 376) ::
  (nat_lit 145,fO qbu "in_lowest" "in_lowest" "cutyard.first" 265 144) ::
(nat_lit 151,cO "none_ending" 378 "none_ending" 379 380 90 3 3 146 181 147 (.ref 148) (.ref 149) 150 385 386) ::
  (nat_lit 152,fO qbK "none_ending" "none_ending" "cutyard.first" 265 151) ::
(nat_lit 158,cO "best_ending" 388 "best_ending" 389 390 93 2 3 153 181 154 (.ref 155) (.ref 156) 157 394 395) ::
  (nat_lit 159,fO qbH "best_ending" "best_ending" "cutyard.first" 265 158) ::
(nat_lit 163,cO "endless_ending" 397 "endless_ending" 398 399 96 2 3 160 181 161 .none .none 162 400 401) ::
  (nat_lit 164,fO qa4 "endless_ending" "endless_ending" "cutyard.first" 265 163) ::
(nat_lit 170,cO "next_step" 403 "next_step" 404 405 99 4 3 165 181 166 (.ref 167) (.ref 168) 169 414 415) ::
  (nat_lit 171,fO qca "next_step" "next_step" "cutyard.first" 265 170) ::
(nat_lit 177,cO "walk_on" 417 "walk_on" 418 419 115 4 3 172 181 173 (.ref 174) (.ref 175) 176 426 427) ::
  (nat_lit 178,fO qcT "walk_on" "walk_on" "cutyard.first" 265 177) ::
(nat_lit 184,cO "walk" 429 "walk" 430 431 123 2 3 179 181 180 (.ref 181) (.ref 182) 183 434 435) ::
  (nat_lit 185,fO qgy "walk" "walk" "cutyard.first" 265 184) ::
(nat_lit 191,cO "trail" 437 "trail" 438 439 125 2 3 186 181 187 (.ref 188) (.ref 189) 190 442 443) ::
  (nat_lit 192,fO qer "trail" "trail" "cutyard.first" 265 191) ::
(nat_lit 198,cO "first" 445 "first" 446 447 127 2 3 193 181 194 (.ref 195) (.ref 196) 197 450 451) ::
  (nat_lit 199,fO qeO "first" "first" "cutyard.first" 265 198) ::
(nat_lit 205,cO "_law_whole" 455 "_law_whole" 456 457 130 1 3 200 181 201 (.ref 202) (.ref 203) 204 459 460) ::
  (nat_lit 206,fO qbU "_law_whole" "_law_whole" "law_cutyard_k11_trail_by_the_rule" 453 205) ::
(nat_lit 212,cO "_law_cell" 462 "_law_cell" 463 464 132 2 3 207 181 208 (.ref 209) (.ref 210) 211 467 468) ::
  (nat_lit 213,fO qb6 "_law_cell" "_law_cell" "law_cutyard_k11_trail_by_the_rule" 453 212) ::
(nat_lit 219,cO "_law_mixed" 470 "_law_mixed" 471 472 138 3 3 214 181 215 (.ref 216) (.ref 217) 218 479 480) ::
  (nat_lit 220,fO qbV "_law_mixed" "_law_mixed" "law_cutyard_k11_trail_by_the_rule" 453 219) ::
(nat_lit 226,cO "_law_draws" 482 "_law_draws" 483 484 147 3 3 221 181 222 (.ref 223) (.ref 224) 225 493 494) ::
  (nat_lit 227,fO qbY "_law_draws" "_law_draws" "law_cutyard_k11_trail_by_the_rule" 453 226) ::
(nat_lit 233,cO "_law_shared" 496 "_law_shared" 497 498 158 1 3 228 181 229 (.ref 230) (.ref 231) 232 504 505) ::
  (nat_lit 234,fO qbJ "_law_shared" "_law_shared" "law_cutyard_k11_trail_by_the_rule" 453 233) ::
(nat_lit 238,cO "_law_rows" 507 "_law_rows" 508 509 167 4 3 235 181 236 .none .none 237 510 511) ::
  (nat_lit 239,fO qbP "_law_rows" "_law_rows" "law_cutyard_k11_trail_by_the_rule" 453 238) ::
(nat_lit 243,cO "_law_times" 513 "_law_times" 514 515 183 2 3 240 181 241 .none .none 242 516 517) ::
  (nat_lit 244,fO qbB "_law_times" "_law_times" "law_cutyard_k11_trail_by_the_rule" 453 243) ::
(nat_lit 250,cO "_law_least_growing" 519 "_law_least_growing" 520 521 185 3 3 245 181 246 (.ref 247) (.ref 248) 249 527 528) ::
  (nat_lit 251,fO qaY "_law_least_growing" "_law_least_growing" "law_cutyard_k11_trail_by_the_rule" 453 250) ::
(nat_lit 257,cO "_law_stop" 530 "_law_stop" 531 532 191 3 3 252 181 253 (.ref 254) (.ref 255) 256 544 545) ::
  (nat_lit 258,fO qb8 "_law_stop" "_law_stop" "law_cutyard_k11_trail_by_the_rule" 453 257) ::
(nat_lit 264,cO "_law_due" 547 "_law_due" 548 549 201 3 3 259 181 260 (.ref 261) (.ref 262) 263 560 561) ::
  (nat_lit 265,fO qcu "_law_due" "_law_due" "law_cutyard_k11_trail_by_the_rule" 453 264) ::
(nat_lit 269,cO "_law_exchanged" 563 "_law_exchanged" 564 565 216 4 3 266 181 267 .none .none 268 566 567) ::
  (nat_lit 270,fO qaE "_law_exchanged" "_law_exchanged" "law_cutyard_k11_trail_by_the_rule" 453 269) ::
(nat_lit 276,cO "_law_owed" 569 "_law_owed" 570 571 238 3 3 271 181 272 (.ref 273) (.ref 274) 275 577 578) ::
  (nat_lit 277,fO qb9 "_law_owed" "_law_owed" "law_cutyard_k11_trail_by_the_rule" 453 276) ::
(nat_lit 281,cO "_law_end" 580 "_law_end" 581 582 244 4 3 278 181 279 .none .none 280 583 584) ::
  (nat_lit 282,fO qa7 "_law_end" "_law_end" "law_cutyard_k11_trail_by_the_rule" 453 281) ::
(nat_lit 286,cO "law" 586 "law" 587 588 259 1 3 283 181 284 .none .none 285 589 590) ::
  (nat_lit 287,fO qf3 "law" "law" "law_cutyard_k11_trail_by_the_rule" 453 286)::[]
end Kx
def PySem.W.Fast.tw12840912507479402308:=PySem.Challenge.pw_cutyard_k11_trail_by_the_rule
theorem PySem.W.Fast.te12840912507479402308:PySem.Challenge.pw_cutyard_k11_trail_by_the_rule=PySem.W.Fast.tw12840912507479402308:=rfl
def PySem.W.Fast.tw5385739360559341639:=Kx.KK
theorem PySem.W.Fast.te5385739360559341639:Kx.KK=PySem.W.Fast.tw5385739360559341639:=rfl
theorem PySem.W.Fast.tw10597289990637954791:True:=trivial
theorem PySem.W.Fast.tw10900809164369539712:True:=trivial
theorem PySem.W.Fast.tw10981463728547209904:True:=trivial
theorem PySem.W.Fast.tw11330590233908014244:True:=trivial
theorem PySem.W.Fast.tw11359079957831672935:True:=trivial
theorem PySem.W.Fast.tw11387715136909438146:True:=trivial
theorem PySem.W.Fast.tw132245370417136510:True:=trivial
theorem PySem.W.Fast.tw13327357313799397241:True:=trivial
theorem PySem.W.Fast.tw13847048025288868018:True:=trivial
theorem PySem.W.Fast.tw1412226948634127307:True:=trivial
theorem PySem.W.Fast.tw16404609922710109156:True:=trivial
theorem PySem.W.Fast.tw16990296749049705547:True:=trivial
theorem PySem.W.Fast.tw17855225247142517929:True:=trivial
theorem PySem.W.Fast.tw18265892744357874372:True:=trivial
theorem PySem.W.Fast.tw2339060312154580214:True:=trivial
theorem PySem.W.Fast.tw3232595976559533757:True:=trivial
theorem PySem.W.Fast.tw3302341636076669573:True:=trivial
theorem PySem.W.Fast.tw3375854286969945303:True:=trivial
theorem PySem.W.Fast.tw4721180336387275279:True:=trivial
theorem PySem.W.Fast.tw5495296411043373480:True:=trivial
theorem PySem.W.Fast.tw5997972064598407624:True:=trivial
theorem PySem.W.Fast.tw6434002503333089163:True:=trivial
theorem PySem.W.Fast.tw7200696641396393953:True:=trivial
theorem PySem.W.Fast.tw7568476873240178219:True:=trivial
theorem PySem.W.Fast.tw9625300658783606914:True:=trivial
open PySem PySem.W PyProof.Rows
set_option maxRecDepth 100000 in
set_option maxHeartbeats 0 in
theorem PySem.Challenge.cw_cutyard_k11_trail_by_the_rule_holds : PySem.Challenge.rw_cutyard_k11_trail_by_the_rule.Holds := by
  w_on;o_law;o_head (kmHook Kx.KK (2::3::45::46::52::53::57::58::62::63::67::68::81::82::83::84::85::86::87::93::94::98::99::105::106::112::113::117::118::124::125::129::130::134::135::139::140::144::145::151::152::158::159::163::164::170::171::177::178::184::185::191::192::198::199::205::206::212::213::219::220::226::227::233::234::238::239::243::244::250::251::257::258::264::265::269::270::276::277::281::282::286::287::[]) (fun _=>by kernel_rfl) [115]);(case hw=>w_witness2)
  k_fill
  refine Kx.walk (l:=PySem.Challenge.rw_cutyard_k11_trail_by_the_rule) rfl rfl (fun w h Y=>PySem.W.km_in_of Y) ?tabT ?tabN ?F
  case tabT =>
    intro w h Y
    have KX:=PySem.W.km_in_of Y
    refine' Kx.tabs_in KX (Kx.tabs_is ?ta9 ?tl9 ?tx9 ?tq9 ?tr9 ?tg9) ?tq9 ?tr9 ?tn9 ?tm9
    (case ta9=>k_is);(case tl9=>k_is);(case tx9=>rfl);(case tq9=>k_is);(case tr9=>rfl);(case tg9=>k_is)
    (case tn9=>kernel_rfl);(case tm9=>exact PySem.W.km_tabs_of Y _ (by simp))
  case tabN =>
    intro w
    refine' Kx.tabs_nd (Kx.tabs_is ?ta9 ?tl9 ?tx9 ?tq9 ?tr9 ?tg9)
    (case ta9=>k_is);(case tl9=>k_is);(case tx9=>rfl);(case tq9=>k_is);(case tr9=>rfl);(case tg9=>k_is)
  case F =>
    intro w mg fa h KX G hmg
    refine' Kx.all_mk KX G hmg ?aC_Stand ?a1 ?a2 ?a3 ?a4 ?a5 ?a6 ?a7 ?a8 ?a9 ?a10 ?l10 ?c10 ?k10 ?lx10 ?lq10 ?lr10 ?lv10 ?lyg ?a11 ?a12 ?a13 ?a14 ?a15 ?a16 ?a17 ?a18 ?a19 ?a20 ?a21 ?a22 ?a23 ?a24 ?a25 ?a26 ?a27 ?a28 ?a29 ?a30 ?a31 ?a32 ?a33 ?a34 ?a35 ?a36 ?a37 ?a38 ?i38 ?l38 ?c38 ?k38 ?pg_Stand ?hd_Stand ?po_Stand ?sa_Stand ?mk_Stand ?kc_Stand ?n_Stand_held ?n_Stand_ways ?n_Stand_tops ?n_Stand_bottom ?y_abs ?y_tuple ?y_range ?y_sum ?y_zip ?y_min ?y_len ?y_sorted ?y_isinstance ?y_int ?y_bool ?y_enumerate ?y_list
    (case aC_Stand=>k_is);(case pg_Stand=>k_is);(case hd_Stand=>k_is);(case po_Stand=>k_is);(case sa_Stand=>k_is);(case mk_Stand=>k_is);(case kc_Stand=>k_is);(case n_Stand_held=>k_is);(case n_Stand_ways=>k_is);(case n_Stand_tops=>k_is);(case n_Stand_bottom=>k_is)
    (case a10=>k_is);(case l10=>k_is);(case c10=>k_is);(case k10=>k_is)
    (case lx10=>rfl);(case lq10=>k_is);(case lr10=>rfl);(case lv10=>kernel_rfl);(case lyg=>k_is)
    (case a38=>k_is);(case i38=>k_is);(case l38=>k_is);(case c38=>k_is);(case k38=>k_is)
    (case y_abs=>k_is)
    (case y_tuple=>k_is)
    (case y_range=>k_is)
    (case y_sum=>k_is)
    (case y_zip=>k_is)
    (case y_min=>k_is)
    (case y_len=>k_is)
    (case y_sorted=>k_is)
    (case y_isinstance=>k_is)
    (case y_int=>k_is)
    (case y_bool=>k_is)
    (case y_enumerate=>k_is)
    (case y_list=>k_is)
    all_goals (refine' L2.Has.of ?a ?l ?c;(case a=>k_is);(case l=>k_is);(case c=>k_is))

