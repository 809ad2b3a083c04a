import PyProof.Rows.All
import Wide.All
import OpenK.AllK
import Wide.FinOn
import Lean
import PyProof.EqAt
import PyProof.EqKinds
import PyProof.TupleCall
import PyProof.NeKinds
import KE.KLam
import KE.KMinKey
import KE.KSortTup
import PyProof.AutoListH
import PyProof.MeetsStr
import PyProof.StrLawsJoin
import PyProof.FitsReplace
import PyProof.Rows.TupDisplay
import PyProof.ListRange
import PySem.Challenge.RW_cutyard_k39_whole_inner
set_option Elab.async false
set_option linter.all false
set_option maxRecDepth 100000
namespace L2
open PySem PySem.Spec PyProof.Rows
abbrev Key:=Sum Int Str
def qmt:Key→Value→Bool
  | .inl k,v=>Value.isInt k v
  | .inr x,v=>Value.isStrOf x v
def qoV (w:World):Key→Int
  | .inl k=>hashInt k
  | .inr x=>hashStr w x
theorem qaV:∀ {k:Key} {v:Value},qmt k v=true→(∃ i t,k=Sum.inl i∧v=Value.int i t)∨(∃ x t,k=Sum.inr x∧v=Value.str x t)
  | .inl i,v,h=>by
    obtain ⟨t,e⟩:=Value.isInt_shape (k:=i) (v:=v) h
    exact .inl ⟨i,t,rfl,e⟩
  | .inr x,v,h=>by
    obtain ⟨t,e⟩:=Value.isStrOf_shape (x:=x) (v:=v) h
    exact .inr ⟨x,t,rfl,e⟩
theorem qlS (a b:Int):decide ((Sum.inl a:Key)=Sum.inl b)=(a == b):=by
  by_cases e:a=b
  · subst e;simp
  · have h:¬ (Sum.inl a:Key)=Sum.inl b:=fun q=>e (Sum.inl.inj q)
    rw [decide_eq_false h]
    exact (beq_eq_false_iff_ne.mpr e).symm
theorem qne (a b:Str):decide ((Sum.inr a:Key)=Sum.inr b)=decide (a=b):=by
  by_cases e:a=b
  · subst e;simp
  · have h:¬ (Sum.inr a:Key)=Sum.inr b:=fun q=>e (Sum.inr.inj q)
    rw [decide_eq_false h,decide_eq_false e]
theorem qmO (a:Int) (b:Str):decide ((Sum.inl a:Key)=Sum.inr b)=false:=decide_eq_false (fun q=>nomatch q)
theorem qmk (a:Str) (b:Int):decide ((Sum.inr a:Key)=Sum.inl b)=false:=decide_eq_false (fun q=>nomatch q)
def qgj (prog:Program) (w:World):PySem.KeyKind prog w Key where
  is:=qmt
  hash:=qoV w
  inj:=fun v a b ha hb=>by
    rcases qaV ha with ⟨i,t,rfl,rfl⟩ | ⟨x,t,rfl,rfl⟩
    · rcases qaV hb with ⟨j,u,rfl,e⟩ | ⟨y,u,rfl,e⟩
      · injection e with e1 _;rw [e1]
      · exact nomatch e
    · rcases qaV hb with ⟨j,u,rfl,e⟩ | ⟨y,u,rfl,e⟩
      · exact nomatch e
      · injection e with e1 _;rw [e1]
  byValue:=fun k v h=>by
    rcases qaV h with ⟨i,t,rfl,rfl⟩ | ⟨x,t,rfl,rfl⟩ <;> rfl
  pyHash:=fun hv h=>by
    rcases qaV hv with ⟨i,t,rfl,rfl⟩ | ⟨x,t,rfl,rfl⟩
    · exact wpAny_pyHash_int h
    · exact wpAny_pyHash_str h
  eqBool:=fun hu hv h=>by
    rcases qaV hu with ⟨i,t,rfl,rfl⟩ | ⟨x,t,rfl,rfl⟩
    · rcases qaV hv with ⟨j,u,rfl,rfl⟩ | ⟨y,u,rfl,rfl⟩
      · rw [qlS] at h;exact wpAny_eqBool_int h
      · rw [qmO] at h;exact SeqAt.EqAt.int_str i t y u _ _ _ _ h
    · rcases qaV hv with ⟨j,u,rfl,rfl⟩ | ⟨y,u,rfl,rfl⟩
      · rw [qmk] at h;exact SeqAt.EqAt.str_int x t j u _ _ _ _ h
      · rw [qne] at h;exact wpAny_eqBool_str h
  «strs»:=fun k x t v h=>by
    rcases qaV h with ⟨i,u,rfl,e⟩ | ⟨y,u,rfl,e⟩
    · exact nomatch e
    · injection e with e1 _
      subst e1
      cases v <;> rfl
inductive V where
  | non | bl (b:Bool) | int (i:Int) | str (x:Str) | byt (b:Array UInt8) | flt (b:UInt64) | ref (a:Addr) | ty (n:String)
  deriving DecidableEq
def RelV:V→Value→Prop
  | .non,u=>u=Value.none
  | .bl b,u=>u=Value.bool b
  | .int i,u=>∃ t,u=Value.int i t
  | .str x,u=>∃ t,u=Value.str x t
  | .byt b,u=>∃ t,u=Value.bytes b t
  | .flt b,u=>∃ t,u=Value.float b t
  | .ref a,u=>u=Value.ref a
  | .ty n,u=>u=Value.type n
abbrev Vals:List V→List Value→Prop:=Paired RelV
theorem Vals.length {xs:List V} {us:List Value} (r:Vals xs us):xs.length=us.length:=Paired.length r
theorem Vals.get:∀ {xs:List V} {us:List Value} {i:Nat} {x:V},Vals xs us→xs[i]?=some x→∃ u,us[i]?=some u∧RelV x u
  | _,_,_,_,.nil,e=>by simp at e
  | _,_,0,_,.cons r _,e=>by simp at e;subst e;exact ⟨_,rfl,r⟩
  | _,_,i+1,x,.cons _ t,e=>by
    obtain ⟨u,h1,h2⟩:=Vals.get (i:=i) (x:=x) t (by simpa using e)
    exact ⟨u,by simpa using h1,h2⟩
theorem Vals.set {x:V} {u:Value} (r:RelV x u):∀ {xs:List V} {us:List Value} (i:Nat),Vals xs us→Vals (xs.set i x) (us.set i u)
  | _,_,_,.nil=>.nil
  | _,_,0,.cons _ t=>.cons r t
  | _,_,i+1,.cons q t=>.cons q (Vals.set r i t)
theorem Vals.append:∀ {xs ys:List V} {us ws:List Value},Vals xs us→Vals ys ws→Vals (xs++ys) (us++ws)
  | _,_,_,_,.nil,s=>s
  | _,_,_,_,.cons r t,s=>.cons r (Vals.append t s)
theorem Vals.take:∀ {xs:List V} {us:List Value} (n:Nat),Vals xs us→Vals (xs.take n) (us.take n)
  | _,_,0,_=>.nil
  | _,_,_+1,.nil=>.nil
  | _,_,n+1,.cons r t=>.cons r (Vals.take n t)
theorem Vals.drop:∀ {xs:List V} {us:List Value} (n:Nat),Vals xs us→Vals (xs.drop n) (us.drop n)
  | _,_,0,r=>r
  | _,_,_+1,.nil=>.nil
  | _,_,n+1,.cons _ t=>Vals.drop n t
theorem Vals.none_of:∀ {xs:List V} {us:List Value} {i:Nat},Vals xs us→xs[i]?=none→us[i]?=none:=fun {xs us i} r e=>by
  have h1:=r.length
  have h2:xs.length≤i:=List.getElem?_eq_none_iff.mp e
  exact List.getElem?_eq_none_iff.mpr (by omega)
def RelO:Option V→Option Value→Prop
  | some v,some u=>RelV v u
  | none,none=>True
  | _,_=>False
def KV {κ:Type}:List (κ × V)→List (κ × Value)→Prop:=Paired fun (p:κ × V) (q:κ × Value)=>p.1=q.1∧RelV p.2 q.2
def kV:Key→V
  | .inl i=>.int i
  | .inr x=>.str x
inductive HO where
    | lst (xs:List V)
    | tup (xs:List V)
    | dK (kvs:List (Key × V)) | dT (kvs:List (List Key × V))
    | set (S:Int→Bool) (n:Nat)
    | ins (C dx:Addr) (fs:List (Str × V))
    | own (x:Addr)
    | xd (fs:List (Str × V))
    | met (f x:Addr)
    | rng (lo hi:Int)
    | frz (o:Obj) (u:HO)
    | tbl (ps:Array Value)
    | ext (φ:Heap→Prop)
abbrev Hp:=Addr→Option HO
def upd (H:Hp) (a:Addr) (o:HO):Hp:=fun b=>if b=a then some o else H b
theorem qan {H:Hp} {a:Addr} {o:HO}:upd H a o a=some o:=by unfold upd;rw [if_pos rfl]
theorem qau {H:Hp} {a b:Addr} {o:HO} (h:b≠a):upd H a o b=H b:=by unfold upd;rw [if_neg h]
theorem qat {H:Hp} {a b:Addr} {o:HO} (h:H a=some o) (h':H b=none):a≠b:=by
  intro e;subst e;rw [h] at h';cases h'
section
variable (P : Program) (w : World)
def ObjOk (H:Hp) (h:Heap) (a:Addr):HO→Prop
  | .lst xs=>xs.length≤sizeLine∧∃ (its:List Value) (n:Nat),Vals xs its∧h.get? a=some { cls:=.type "list",data:=.seq its.toArray n }
  | .tup xs=>xs.length≤sizeLine∧∃ its:List Value,Vals xs its∧IsTup h a its.toArray
  | .dK kvs=>kvs.length≤sizeLine∧(a == sysModules)=false∧∃ vs,KV kvs vs∧h.DictOf (qgj P w) a vs
  | .dT kvs=>kvs.length≤sizeLine∧(a == sysModules)=false∧∃ xs:List (List Key × Addr × Value),
      Paired (fun (p:List Key × V) (q:List Key × Addr × Value)=>p.1=q.1∧H q.2.1=some (.tup (p.1.map kV))∧RelV p.2 q.2.2) kvs xs ∧
      ∃ o es ep,h.get? a=some o∧o.ExactDict∧o.data=.dict es ep∧es.toList=xs.map (entryOfKey (tupleKind (qgj P w)))∧(xs.map (·.1)).Nodup
  | .set S n=>h.SetOf (intKind P w) a S n
  | .ins C dx fs=>H dx=some (.own a)∧fs.length≤1000∧dx≠a∧h.get? a=some (PySem.W.instObj C dx) ∧
      ∃ mA,h.Ns1 dx mA∧(∀ f,RelO (fs.lookup f) (mA f))∧PySem.Within mA (fs.map (·.1))
  | .own _=>∃ o,h.get? a=some o
  | .xd fs=>∃ mA,h.Ns1 a mA∧∀ f,RelO (fs.lookup f) (mA f)
  | .rng lo hi=>∃ t u v,h.get? a=some { cls:=.type "range",data:=.fields #[.int lo t,.int hi u,.int 1 v] }
  | .frz o u=>h.get? a=some o∧ObjOk H h a u
  | .tbl ps=>h.get? a=some { cls:=.none,data:=.fields #[] }∨∃ (c:Addr) (o:Obj) (vs:Array Value) (x y:Value) (q:Str) (t t':Tok),ps=#[x,y,.str q t]∧H c=some (.frz o (.own a)) ∧
      h.get? a=some { cls:=.none,data:=.fields #[x,y,.ref c] }∧o.data=.fields vs∧vs[1]?=some (.str q t')
  | .met f x=>h.get? a=some (PySem.W.methodObj (.ref f) (.ref x))
  | .ext φ=>φ h∧(∃ o,h.get? a=some o)∧∀ h1 h2:Heap,φ h1→(∀ o,h1.get? a=some o→h2.get? a=some o)→φ h2
def HOk (H:Hp) (h:Heap):Prop:=∀ a o,H a=some o→ObjOk P w H h a o
end
section
variable {P : Program} {w : World} {H H' : Hp} {h h' : Heap} {a : Addr} {o : HO}
theorem ObjOk.lt (x:ObjOk P w H h a o):a<h.objs.size:=by
  cases o with
  | lst xs=>obtain ⟨_,_,_,_,e⟩:=x;exact Heap.lt_size e
  | tup xs=>obtain ⟨_,_,_,p⟩:=x;exact p.lt
  | dK kvs=>obtain ⟨_,_,_,_,o,_,_,e,_⟩:=x;exact Heap.lt_size e
  | dT kvs=>obtain ⟨_,_,_,_,o,_,_,e,_⟩:=x;exact Heap.lt_size e
  | set S n=>obtain ⟨o,_,_,_,e,_⟩:=x;exact Heap.lt_size e
  | ins C dx fs=>obtain ⟨_,_,_,e,_⟩:=x;exact Heap.lt_size e
  | own y=>obtain ⟨_,e⟩:=x;exact Heap.lt_size e
  | xd fs=>obtain ⟨_,⟨_,_,_,e,_⟩,_⟩:=x;exact Heap.lt_size e
  | rng lo hi=>obtain ⟨_,_,_,e⟩:=x;exact Heap.lt_size e
  | frz ob u=>obtain ⟨e,_⟩:=x;exact Heap.lt_size e
  | tbl ps=>rcases x with x | ⟨_,_,_,_,_,_,_,_,_,_,x,_⟩ <;> exact Heap.lt_size x
  | met f y=>exact Heap.lt_size (show h.get? a=some _ from x)
  | ext φ=>obtain ⟨_,⟨_,e⟩,_⟩:=x;exact Heap.lt_size e
theorem Paired.mapP {α β:Type} {F G:α→β→Prop}:∀ {l₁:List α} {l₂:List β},Paired F l₁ l₂→(∀ a b,F a b→G a b)→Paired G l₁ l₂
  | _,_,.nil,_=>.nil
  | _,_,.cons r t,f=>.cons (f _ _ r) (Paired.mapP t f)
theorem ObjOk.stay (x:ObjOk P w H h a o) (k:∀ b u,(b=a∨H b=some (.own a))→h.get? b=some u→h'.get? b=some u)
    (ho:∀ b,H b=some (.own a)→H' b=some (.own a)) (ht:∀ b xs,H b=some (.tup xs)→H' b=some (.tup xs)) (hf:∀ b o u,H b=some (.frz o u)→H' b=some (.frz o u)):ObjOk P w H' h' a o:=by
  induction o with
  | lst xs=>obtain ⟨z,its,n,r,e⟩:=x;exact ⟨z,its,n,r,k _ _ (.inl rfl) e⟩
  | tup xs=>obtain ⟨z,its,r,ob,e,c⟩:=x;exact ⟨z,its,r,ob,k _ _ (.inl rfl) e,c⟩
  | dK kvs=>obtain ⟨z,y,vs,r,ob,es,ep,e,c⟩:=x;exact ⟨z,y,vs,r,ob,es,ep,k _ _ (.inl rfl) e,c⟩
  | dT kvs =>
    obtain ⟨z,y,xs,r,ob,es,ep,e,c⟩:=x
    exact ⟨z,y,xs,Paired.mapP r fun p q z=>⟨z.1,ht _ _ z.2.1,z.2.2⟩,ob,es,ep,k _ _ (.inl rfl) e,c⟩
  | set S n=>obtain ⟨ob,es,ep,t,e,c⟩:=x;exact ⟨ob,es,ep,t,k _ _ (.inl rfl) e,c⟩
  | ins C dx fs =>
    obtain ⟨d,z,ne,e,mA,⟨od,es,ep,e2,c⟩,r⟩:=x
    exact ⟨ho _ d,z,ne,k _ _ (.inl rfl) e,mA,⟨od,es,ep,k _ _ (.inr d) e2,c⟩,r⟩
  | own y=>obtain ⟨ob,e⟩:=x;exact ⟨ob,k _ _ (.inl rfl) e⟩
  | xd fs=>obtain ⟨mA,⟨od,es,ep,e,c⟩,r⟩:=x;exact ⟨mA,⟨od,es,ep,k _ _ (.inl rfl) e,c⟩,r⟩
  | rng lo hi=>obtain ⟨t,u,v,e⟩:=x;exact ⟨t,u,v,k _ _ (.inl rfl) e⟩
  | frz ob u ih=>obtain ⟨e,q⟩:=x;exact ⟨k _ _ (.inl rfl) e,ih q⟩
  | tbl ps =>
    rcases x with x | ⟨c,o,vs,y,z,q,t,t',e1,e2,e3,e4⟩
    · exact .inl (k a _ (.inl rfl) x)
    · exact .inr ⟨c,o,vs,y,z,q,t,t',e1,hf _ _ _ e2,k a _ (.inl rfl) e3,e4⟩
  | met f y =>
    have e:h.get? a=some (PySem.W.methodObj (.ref f) (.ref y)):=x
    show h'.get? a=some (PySem.W.methodObj (.ref f) (.ref y))
    exact k a _ (.inl rfl) e
  | ext φ=>obtain ⟨p,⟨o,e⟩,st⟩:=x;exact ⟨st _ _ p fun o q=>k _ _ (.inl rfl) q,⟨o,k _ _ (.inl rfl) e⟩,st⟩
theorem HOk.lt (x:HOk P w H h) (e:H a=some o):a<h.objs.size:=(x a o e).lt
theorem HOk.fresh (x:HOk P w H h) (e:h.objs.size≤a):H a=none:=by
  cases q:H a with
  | none=>rfl
  | some u=>exact absurd (Nat.lt_of_lt_of_le (x.lt q) e) (Nat.lt_irrefl _)
theorem HOk.kept (x:HOk P w H h) (k:∀ b u,h.get? b=some u→h'.get? b=some u):HOk P w H h':=fun a o e =>
  (x a o e).stay (fun b u _ q=>k b u q) (fun _ q=>q) (fun _ _ q=>q) fun _ _ _ q=>q
theorem HOk.laid (x:HOk P w H h) (k:∀ b u,h.get? b=some u→h'.get? b=some u) (hp:h.objs.size≤a) (new:ObjOk P w (upd H a o) h' a o):HOk P w (upd H a o) h':=fun b u e=>by
  have hn:=x.fresh hp
  by_cases hb:b=a
  · subst hb;rw [qan] at e;cases e;exact new
  · rw [qau hb] at e
    exact (x b u e).stay (fun c v _ q=>k c v q) (fun c q=>by rw [qau (qat q hn)];exact q) (fun c xs q=>by rw [qau (qat q hn)];exact q) fun c ob w' q=>by rw [qau (qat q hn)];exact q
end
def Rd (H:Hp) (a:Addr) (u:HO):Prop:=H a=some u∨∃ o,H a=some (.frz o u)
theorem Rd.ok {P:Program} {w:World} {H:Hp} {h:Heap} {a:Addr} {u:HO} (r:Rd H a u) (x:HOk P w H h):ObjOk P w H h a u:=by
  rcases r with r | ⟨o,r⟩
  · exact x a u r
  · obtain ⟨_,q⟩:=x a _ r
    exact q
def Mut:Option HO→Prop
  | some (.lst _)=>True
  | some (.dK _)=>True
  | some (.dT _)=>True
  | some (.set _ _)=>True
  | some (.ins _ _ _)=>True
  | some (.ext _)=>True
  | _=>False
section
variable {P : Program} {w : World} {H : Hp} {h h' : Heap} {x e : Addr} {o' : HO}
theorem HOk.write (ok:HOk P w H h) (mu:Mut (H x)) (he:e=x∨H e=some (.own x)) (k:∀ b u,b≠e→h.get? b=some u→h'.get? b=some u) (heo:∃ u,h'.get? e=some u)
    (new:ObjOk P w (upd H x o') h' x o'):HOk P w (upd H x o') h':=fun b u q=>by
  have nown:∀ c y,H c=some (.own y)→c≠x:=fun c y r z=>by subst z;rw [r] at mu;exact mu
  have ntup:∀ c xs,H c=some (.tup xs)→c≠x:=fun c xs r z=>by subst z;rw [r] at mu;exact mu
  have nfrz:∀ c ob w',H c=some (.frz ob w')→c≠x:=fun c ob w' r z=>by subst z;rw [r] at mu;exact mu
  by_cases hb:b=x
  · subst hb;rw [qan] at q;cases q;exact new
  · rw [qau hb] at q
    by_cases hbe:b=e
    · have q':H b=some (.own x):=by
        rcases he with z | z
        · exact absurd (hbe.trans z) hb
        · rw [hbe];exact z
      rw [q] at q';cases q'
      obtain ⟨v,hv⟩:=heo
      exact ⟨v,by rw [hbe];exact hv⟩
    · refine (ok b u q).stay (fun c v hc r=>k c v ?_ r) (fun c r=>by rw [qau (nown c b r)];exact r) (fun c xs r=>by rw [qau (ntup c xs r)];exact r) fun c ob w' r=>by rw [qau (nfrz c ob w' r)];exact r
      rcases hc with rfl | hc
      · exact hbe
      · rintro rfl
        rcases he with z | z
        · exact nown c b hc z
        · rw [hc] at z;cases z;exact hb rfl
end
structure Un (fs ex:List Addr) (H H':Hp) (h h':Heap):Prop where
  keep:∀ b o,h.get? b=some o→H b=none→b∉fs→b∉ex→h'.get? b=some o
  slot:∀ b o,h.get? b=some o→H b=none→b∈fs→b∉ex→∃ sl,h'.get? b=some { o with slots:=sl }
  free:∀ b o,h.get? b=some o→H b=none→b∉ex→H' b=none
  there:∀ b o,h.get? b=some o→b∉ex→∃ o',h'.get? b=some o'
  tups:∀ b xs,H b=some (.tup xs)→H' b=some (.tup xs)
  frzs:∀ b o u,H b=some (.frz o u)→H' b=some (.frz o u)
  tbls:∀ b ps,H b=some (.tbl ps)→H' b=some (.tbl ps)
section
variable {fs fs' ex ex' : List Addr} {H H1 H2 : Hp} {h h1 h2 h' : Heap} {a x e : Addr} {o : HO}
theorem Un.any (u:Un fs ex H H1 h h1) {b:Addr} {ob:Obj} (q:h.get? b=some ob) (n:H b=none) (hx:b∉ex):∃ sl,h1.get? b=some { ob with slots:=sl }:=by
  by_cases hb:b∈fs
  · exact u.slot b ob q n hb hx
  · exact ⟨ob.slots,u.keep b ob q n hb hx⟩
theorem Un.kept (k:∀ b u,h.get? b=some u→h'.get? b=some u):Un fs ex H H h h' :=
  ⟨fun b ob q _ _ _=>k b ob q,fun b ob q _ _ _=>⟨ob.slots,k b ob q⟩,fun _ _ _ n _=>n,fun b ob q _=>⟨ob,k b ob q⟩,fun _ _ q=>q,fun _ _ _ q=>q,fun _ _ q=>q⟩
theorem Un.refl:Un fs ex H H h h:=Un.kept fun _ _ q=>q
theorem Un.laid (k:∀ b u,h.get? b=some u→h'.get? b=some u) (hp:h.objs.size≤a) (hn:H a=none):Un fs ex H (upd H a o) h h' where
  keep:=fun b u q _ _ _=>k b u q
  slot:=fun b u q _ _ _=>⟨u.slots,k b u q⟩
  free:=fun b u q n _=>by rw [qau (Nat.ne_of_lt (Nat.lt_of_lt_of_le (Heap.lt_size q) hp))];exact n
  there:=fun b u q _=>⟨u,k b u q⟩
  tups:=fun b xs q=>by rw [qau (qat q hn)];exact q
  frzs:=fun b u xs q=>by rw [qau (qat q hn)];exact q
  tbls:=fun b ps q=>by rw [qau (qat q hn)];exact q
theorem Un.write (mu:Mut (H x)) (he:e=x∨H e=some (.own x)) (k:∀ b u,b≠e→h.get? b=some u→h'.get? b=some u) (heo:∃ u,h'.get? e=some u):Un fs ex H (upd H x o) h h':=by
  have hx:∀ b,H b=none→b≠x:=fun b n z=>by subst z;rw [n] at mu;exact mu
  have hb:∀ b,H b=none→b≠e:=fun b n z=>by
    subst z
    rcases he with r | r
    · exact hx b n r
    · rw [n] at r;cases r
  have hm:∀ b u,H b=some u→¬ Mut (some u)→b≠x:=fun b u q nm z=>by subst z;rw [q] at mu;exact nm mu
  refine ⟨fun b u q n _ _=>k b u (hb b n) q,fun b u q n _ _=>⟨u.slots,k b u (hb b n) q⟩,fun b u q n _=>by rw [qau (hx b n)];exact n,fun b u q _=>?_,
    fun b xs q=>by rw [qau (hm b _ q fun z=>z)];exact q,fun b u xs q=>by rw [qau (hm b _ q fun z=>z)];exact q,fun b ps q=>by rw [qau (hm b _ q fun z=>z)];exact q⟩
  by_cases hbe:b=e
  · subst hbe;exact heo
  · exact ⟨u,k b u hbe q⟩
end
def trk (h:Heap) (H:Hp):List Addr:=(List.range h.objs.size).filter fun a=>(H a).isSome
def qjA (h:Heap) (H:Hp):Heap:=PySem.W.hideAll h (trk h H)
theorem qij (h:Heap) (H:Hp):(qjA h H).objs.size=h.objs.size:=PySem.W.hideAll_size _ _
theorem qjf {h:Heap} {H:Hp} {b:Addr} {o:Obj} (e:h.get? b=some o) (n:H b=none):(qjA h H).get? b=some o :=
  PySem.W.hideAll_get _ e fun hm=>by
    have q:(H b).isSome=true:=(List.mem_filter.mp hm).2
    rw [n] at q;simp at q
theorem qkx {h:Heap} {H:Hp} {b:Addr} {o:Obj} (e:(qjA h H).get? b=some o):h.get? b=some o∧H b=none:=by
  have e':h.get? b=some o:=PySem.W.of_hideAll (trk h H) e
  refine ⟨e',?_⟩
  cases q:H b with
  | none=>rfl
  | some x =>
    have hm:b∈trk h H:=List.mem_filter.mpr ⟨List.mem_range.mpr (Heap.lt_size e'),by simp [q]⟩
    have z:(qjA h H).get? b=none:=PySem.W.hideAll_none (trk h H) hm
    rw [z] at e;cases e
def qdr (g h:Heap) (L:Addr):List (Addr × Obj):=(List.range h.objs.size).filterMap fun a=>if a=L∨(g.get? a).isSome=true then none else (h.get? a).map fun o=>(a,o)
theorem qdw {g h:Heap} {L a:Addr} {o:Obj} (h1:a≠L) (h2:g.get? a=none) (h3:h.get? a=some o):(a,o)∈qdr g h L :=
  List.mem_filterMap.mpr ⟨a,List.mem_range.mpr (Heap.lt_size h3),by simp [h1,h2,h3]⟩
theorem qd4 {g h:Heap} {L:Addr} {p:Addr × Obj} (hp:p∈qdr g h L):p.1≠L∧g.get? p.1=none∧h.get? p.1=some p.2:=by
  obtain ⟨b,_,e⟩:=List.mem_filterMap.mp hp
  split at e
  · cases e
  · rename_i hn
    cases q:h.get? b with
    | none=>rw [q] at e;simp at e
    | some u =>
      rw [q] at e
      simp only [Option.map_some,Option.some.injEq] at e
      subst e
      refine ⟨fun z=>hn (.inl z),?_,q⟩
      show g.get? b=none
      cases r:g.get? b with
      | none=>rfl
      | some v=>exact (hn (.inr (by simp [r]))).elim
theorem qi9 {g h:Heap} {L:Addr}:News g L h (qdr g h L):=fun p hp=>let ⟨a,b,c⟩:=qd4 hp;⟨c,a,b⟩
structure Mod (K:PySem.W.Frag) (mg:Str→Option Value) (base:Heap):Prop where
  kin:K.In base
  glob:base.Ns mainGlobals mg
  blt:∃ mb,base.Ns builtinsNs mb∧∀ x:Str,x≠"__name__"→mb x=bootBuiltins x
  nolimit:base.NoLimit
  bmod:∃ bm ob,mg "__builtins__"=some (.ref bm)∧bm≠builtinsNs∧base.get? bm=some ob∧ob.cls=.type "module"∧ob.dict=some builtinsNs∧ob.data=.plain
structure Cx where
  prog:Program
  w:World
  K:PySem.W.Frag
  mg:Str→Option Value
  base:Heap
  A:Around
  N:List Str
  s₀:Shared
  H₀:Hp
  env:Env
  outer:List Env
  stack:List Env
  ex:List Addr
  fn:Str→Bool
  calm:Bool
  pn:List (Addr × Obj)
  xe:Value→Shared→Prop
def frs (l:List Env):List Addr:=l.filterMap (·.frame)
abbrev Cx.fs (X:Cx):List Addr:=frs X.outer
def Vis (sc:Scope) (x:Str):Prop:=sc.names.lookup x=some .local∨sc.names.lookup x=some .cell∨sc.names.lookup x=some .free
def Loc (sc:Scope) (x:Str):Prop:=sc.names.lookup x=some .local∨sc.names.lookup x=some .cell
def qoY (env:Env) (h:Heap) (m:Str→Option Value) (x:Str) (u:Value):Prop :=
  (env.kindOf x=some .local∧m x=some u)∨((env.kindOf x=some .cell∨env.kindOf x=some .free)∧∃ c,env.cells.lookup x=some c∧h.IsCell c (some u))
structure Cx.Ok (X:Cx):Prop where
  mod:Mod X.K X.mg X.base
  kind:X.env.scope.kind=.function
  glob:X.env.globals=mainGlobals
  blt:X.env.builtins=builtinsNs
  above:X.s₀.heap.objs.size≤X.env.locals
  inj:∀ x y c,X.env.cells.lookup x=some c→X.env.cells.lookup y=some c→x=y
  has:∀ x,(X.env.kindOf x=some .cell∨X.env.kindOf x=some .free)→∃ c,X.env.cells.lookup x=some c
  cab:∀ x c,X.fn x=true→X.env.cells.lookup x=some c→X.s₀.heap.objs.size≤c
  hd:X.calm=true→X.A.handled=none
  frames:X.A.frames=some X.stack
  stk:X.stack=X.outer∨(X.stack=X.env::X.outer∧X.env.frame=some X.env.locals)
  exf:∀ b∈X.ex,b≠X.env.locals∧∀ x c,X.env.cells.lookup x=some c→c≠b
  bs:∀ b o,X.base.get? b=some o→X.s₀.heap.get? b=some o∧X.H₀ b=none
  bsz:X.base.objs.size≤X.s₀.heap.objs.size
  noex:∀ b o,X.base.get? b=some o→b∉X.ex
  exfs:∀ b∈X.ex,b∉X.fs
  funs:X.s₀.heap.FunFrames X.base X.outer
  frf:∀ b∈X.fs,X.H₀ b=none
structure Inv (X:Cx) (pins:List (Addr × Obj)) (σ:List (Option V)) (H:Hp) (s:Shared):Prop where
  ok:X.Ok
  os:s.os=X.s₀.os
  bare:AllBare s.gens
  base:Un X.fs X.ex X.H₀ H X.s₀.heap s.heap
  loc:∃ m,s.heap.Ns X.env.locals m∧∀ (i:Nat) (x:Str) (v:V),X.N[i]?=some x→σ[i]?=some (some v)→Vis X.env.scope x→∃ u,RelV v u∧qoY X.env s.heap m x u
  cell:∀ x c,X.env.cells.lookup x=some c→∃ v,s.heap.IsCell c v
  free:H X.env.locals=none
  freeC:∀ x c,X.env.cells.lookup x=some c→H c=none
  pin:∀ p∈X.pn++pins,s.heap.get? p.1=some p.2∧H p.1=none∧p.1≠X.env.locals∧p.1∉X.fs∧∀ v,p.2.data≠.cell v
  hok:HOk X.prog X.w H s.heap
  len:σ.length=X.N.length
section
variable {X : Cx} {pins : List (Addr × Obj)} {σ : List (Option V)} {H H' : Hp} {s : Shared} {h' : Heap}
theorem Cx.Ok.nofr (ok:X.Ok) {b:Addr} {o:Obj} (e:X.base.get? b=some o):b∉X.fs:=fun hb=>by
  have:=(ok.funs.mem hb).1
  rw [e] at this;cases this
theorem Inv.bs (I:Inv X pins σ H s):∀ b o,X.base.get? b=some o→s.heap.get? b=some o∧H b=none:=fun b o e =>
  ⟨I.base.keep b o (I.ok.bs b o e).1 (I.ok.bs b o e).2 (I.ok.nofr e) (I.ok.noex b o e),I.base.free b o (I.ok.bs b o e).1 (I.ok.bs b o e).2 (I.ok.noex b o e)⟩
theorem Inv.bk (I:Inv X pins σ H s):∀ b o,X.base.get? b=some o→s.heap.get? b=some o:=fun b o e=>(I.bs b o e).1
theorem Inv.mod (I:Inv X pins σ H s):Mod X.K X.mg X.base:=I.ok.mod
theorem Inv.kIn (I:Inv X pins σ H s):X.K.In s.heap:=I.ok.mod.kin.keeps I.bk
theorem Inv.nolimit (I:Inv X pins σ H s):s.heap.NoLimit:=I.ok.mod.nolimit.keeps I.bk
theorem Inv.lt (I:Inv X pins σ H s):X.env.locals<s.heap.objs.size:=let ⟨_,hn,_⟩:=I.loc;hn.lt
theorem Inv.sz (I:Inv X pins σ H s):X.s₀.heap.objs.size≤s.heap.objs.size:=Nat.le_trans I.ok.above (Nat.le_of_lt I.lt)
theorem Inv.nofs (I:Inv X pins σ H s) {a:Addr} (h:s.heap.objs.size≤a):a∉X.fs:=fun hb=>by
  obtain ⟨_,o,ho,_⟩:=I.ok.funs.mem hb
  exact absurd (Nat.lt_of_lt_of_le (Heap.lt_size ho) (Nat.le_trans I.sz h)) (Nat.lt_irrefl _)
theorem Inv.cne (I:Inv X pins σ H s):∀ x c,X.env.cells.lookup x=some c→c≠X.env.locals:=fun x c e z=>by
  obtain ⟨v,o,ho,hd⟩:=I.cell x c e
  obtain ⟨m,⟨o',es,ep,ho',hd',_⟩,_⟩:=I.loc
  rw [z,ho'] at ho;cases ho;rw [hd'] at hd;cases hd
theorem Inv.funs (I:Inv X pins σ H s):s.heap.FunFrames X.base X.outer:=by
  have all:∀ (l:List Env),(∀ b∈frs l,b∈X.fs)→X.s₀.heap.FunFrames X.base l→s.heap.FunFrames X.base l:=by
    intro l
    induction l with
    | nil=>intro _ _;trivial
    | cons env r ih =>
      intro hs hl
      obtain ⟨hk,⟨L,o,hf,hn,ho,hd⟩,hr⟩:=hl
      have hL:L∈X.fs:=hs L (by unfold frs;rw [List.filterMap_cons,hf];exact List.mem_cons_self)
      obtain ⟨sl,e⟩:=I.base.slot L o ho (I.ok.frf L hL) hL fun z=>I.ok.exfs L z hL
      exact ⟨hk,⟨L,_,hf,hn,e,hd⟩,ih (fun b hb=>hs b (by unfold frs;rw [List.filterMap_cons,hf];exact List.mem_cons_of_mem _ hb)) hr⟩
  exact all X.outer (fun _ hb=>hb) I.ok.funs
theorem Inv.stack (I:Inv X pins σ H s):s.heap.FunFrames X.base X.stack:=by
  rcases I.ok.stk with e | ⟨e,hf⟩
  · rw [e];exact I.funs
  · rw [e]
    obtain ⟨m,hn,_⟩:=I.loc
    refine .cons (by rw [I.ok.kind];decide) hf hn ?_ I.funs
    exact Heap.get?_none_of_le (Nat.le_trans I.ok.bsz I.ok.above)
theorem Inv.stkSub (I:Inv X pins σ H s):∀ b∈frs X.stack,b∈X.env.locals::X.fs:=fun b hb=>by
  rcases I.ok.stk with e | ⟨e,hf⟩
  · rw [e] at hb;exact List.mem_cons_of_mem _ hb
  · rw [e] at hb
    unfold frs at hb
    rw [List.filterMap_cons,hf] at hb
    exact hb
theorem Inv.stkFree (I:Inv X pins σ H s):∀ b∈frs X.stack,H b=none:=fun b hb=>by
  rcases List.mem_cons.mp (I.stkSub b hb) with e | hb
  · rw [e];exact I.free
  · obtain ⟨_,o,ho,_⟩:=I.ok.funs.mem hb
    exact I.base.free b o ho (I.ok.frf b hb) fun z=>I.ok.exfs b z hb
theorem Inv.step {g':Array GenState} {t':Nat} {d':Drawn} {ch:List Addr} (I:Inv X pins σ H s)
    (hch:∀ b∈ch,(b∈X.ex∨X.s₀.heap.objs.size≤b)∧b≠X.env.locals∧(∀ x c,X.env.cells.lookup x=some c→c≠b)∧∀ p∈X.pn++pins,p.1≠b)
    (keep:∀ b o,b≠X.env.locals→b∉X.fs→b∉ch→s.heap.get? b=some o→H b=none→h'.get? b=some o)
    (slot:∀ b o,b≠X.env.locals→b∈X.fs→b∉ch→s.heap.get? b=some o→H b=none→∃ sl,h'.get? b=some { o with slots:=sl }) (free:∀ b o,b∉ch→s.heap.get? b=some o→H b=none→H' b=none)
    (there:∀ b o,b∉ch→s.heap.get? b=some o→∃ o',h'.get? b=some o')
    (tups:∀ b xs,H b=some (.tup xs)→H' b=some (.tup xs)) (frzs:∀ b o u,H b=some (.frz o u)→H' b=some (.frz o u)) (tbls:∀ b ps,H b=some (.tbl ps)→H' b=some (.tbl ps))
    (ns:∀ m,s.heap.Ns X.env.locals m→h'.Ns X.env.locals m) (hok:HOk X.prog X.w H' h') (hg:AllBare g') :
    Inv X pins σ H' { s with heap:=h',gens:=g',drawn:=d',toks:=t' }:=by
  have neL:∀ b o,X.s₀.heap.get? b=some o→b≠X.env.locals:=fun b o e=>Nat.ne_of_lt (Nat.lt_of_lt_of_le (Heap.lt_size e) I.ok.above)
  have neC:∀ b o,X.s₀.heap.get? b=some o→b∉X.ex→b∉ch:=fun b o e hx hb=>by
    rcases (hch b hb).1 with z | z
    · exact hx z
    · exact absurd (Nat.lt_of_lt_of_le (Heap.lt_size e) z) (Nat.lt_irrefl _)
  have cellK:∀ x c,X.env.cells.lookup x=some c→∀ v,s.heap.IsCell c v→h'.IsCell c v:=fun x c e v hq0=>by
    obtain ⟨o,ho,hd⟩:=hq0
    have nch:c∉ch:=fun z=>(hch c z).2.2.1 x c e rfl
    by_cases hc:c∈X.fs
    · obtain ⟨sl,q⟩:=slot c o (I.cne x c e) hc nch ho (I.freeC x c e)
      exact ⟨_,q,hd⟩
    · exact ⟨o,keep c o (I.cne x c e) hc nch ho (I.freeC x c e),hd⟩
  refine ⟨I.ok,I.os,hg,⟨fun b o e n hb hx=>?_,fun b o e n hb hx=>?_,fun b o e n hx=>?_,fun b o e hx=>?_,fun b xs e=>tups b xs (I.base.tups b xs e),fun b o xs e=>frzs b o xs (I.base.frzs b o xs e),fun b ps e=>tbls b ps (I.base.tbls b ps e)⟩,?_,fun x c e=>?_,?_,fun x c e=>?_,fun p hp=>?_,hok,I.len⟩
  · exact keep b o (neL b o e) hb (neC b o e hx) (I.base.keep b o e n hb hx) (I.base.free b o e n hx)
  · obtain ⟨sl,e1⟩:=I.base.slot b o e n hb hx
    obtain ⟨sl',e2⟩:=slot b _ (neL b o e) hb (neC b o e hx) e1 (I.base.free b o e n hx)
    exact ⟨sl',e2⟩
  · obtain ⟨o',e1⟩:=I.base.there b o e hx
    exact free b o' (neC b o e hx) e1 (I.base.free b o e n hx)
  · obtain ⟨o',e1⟩:=I.base.there b o e hx
    exact there b o' (neC b o e hx) e1
  · obtain ⟨m,hn,hl⟩:=I.loc
    refine ⟨m,ns m hn,fun i x v e1 e2 e3=>?_⟩
    obtain ⟨u,r,l⟩:=hl i x v e1 e2 e3
    refine ⟨u,r,?_⟩
    rcases l with l | ⟨k,c,e,z⟩
    · exact .inl l
    · exact .inr ⟨k,c,e,cellK x c e _ z⟩
  · obtain ⟨v,z⟩:=I.cell x c e
    exact ⟨v,cellK x c e v z⟩
  · obtain ⟨m,⟨o,_,_,ho,_⟩,_⟩:=I.loc
    exact free _ o (fun z=>(hch _ z).2.1 rfl) ho I.free
  · obtain ⟨v,o,ho,hd⟩:=I.cell x c e
    exact free c o (fun z=>(hch c z).2.2.1 x c e rfl) ho (I.freeC x c e)
  · obtain ⟨e,n,ne,nf,d⟩:=I.pin p hp
    have nch:p.1∉ch:=fun z=>(hch p.1 z).2.2.2 p hp rfl
    exact ⟨keep p.1 p.2 ne nf nch e n,free p.1 p.2 nch e n,ne,nf,d⟩
theorem Inv.un {t':Nat} (I:Inv X pins σ H s) (u:Un X.fs [] H H' s.heap h') (hok:HOk X.prog X.w H' h'):Inv X pins σ H' { s with heap:=h',toks:=t' }:=by
  obtain ⟨m,⟨o,es,ep,ho,r⟩,_⟩:=id I.loc
  obtain ⟨sl,hL⟩:=u.any ho I.free (by simp)
  exact I.step (g':=s.gens) (d':=s.drawn) (ch:=[]) (fun _ z=>nomatch z) (fun b o _ hb _ e n=>u.keep b o e n hb (by simp)) (fun b o _ hb _ e n=>u.slot b o e n hb (by simp)) (fun b o _ e n=>u.free b o e n (by simp)) (fun b o _ e=>u.there b o e (by simp)) u.tups u.frzs u.tbls (fun m' hm=>by
    obtain ⟨o',es',ep',ho',r'⟩:=hm
    rw [ho] at ho';cases ho'
    exact ⟨_,es',ep',hL,r'⟩) hok I.bare
theorem Inv.call {g':Array GenState} {t':Nat} {d':Drawn} {ch:List Addr} (I:Inv X pins σ H s) (u:Un (frs X.stack) ch H H' s.heap h') (hok:HOk X.prog X.w H' h') (hg:AllBare g')
    (hch:∀ b∈ch,(b∈X.ex∨X.s₀.heap.objs.size≤b)∧b≠X.env.locals∧(∀ x c,X.env.cells.lookup x=some c→c≠b)∧∀ p∈X.pn++pins,p.1≠b) :
    Inv X pins σ H' { s with heap:=h',gens:=g',drawn:=d',toks:=t' }:=by
  obtain ⟨m,⟨o,es,ep,ho,r⟩,_⟩:=id I.loc
  obtain ⟨sl,hL⟩:=u.any ho I.free fun z=>(hch _ z).2.1 rfl
  exact I.step (ch:=ch) hch (fun b o hL hb hc e n=>u.keep b o e n (fun z=>(List.mem_cons.mp (I.stkSub b z)).elim hL hb) hc) (fun b o _ _ hc e n=>u.any e n hc) (fun b o hc e n=>u.free b o e n hc) (fun b o hc e=>u.there b o e hc) u.tups u.frzs u.tbls (fun m' hm=>by
    obtain ⟨o',es',ep',ho',r'⟩:=hm
    rw [ho] at ho';cases ho'
    exact ⟨_,es',ep',hL,r'⟩) hok hg
theorem Inv.turned {t':Nat} {it:Addr} (I:Inv X pins σ H s) (k:∀ b o,b≠it→s.heap.get? b=some o→h'.get? b=some o) (hn:H it=none) (hL:it≠X.env.locals)
    (h1:it∈X.ex∨X.s₀.heap.objs.size≤it) (h2:∀ x c,X.env.cells.lookup x=some c→c≠it) (h3:∀ p∈X.pn++pins,p.1≠it):Inv X pins σ H { s with heap:=h',toks:=t' }:=by
  have nit:∀ b u,H b=some u→b≠it:=fun b u e z=>by rw [z,hn] at e;cases e
  refine I.step (g':=s.gens) (d':=s.drawn) (ch:=[it]) (fun b hb=>?_) (fun b o _ _ hc e _=>k b o (fun z=>hc (by simp [z])) e) (fun b o _ _ hc e _=>⟨o.slots,k b o (fun z=>hc (by simp [z])) e⟩) (fun _ _ _ _ n=>n)
    (fun b o hc e=>⟨o,k b o (fun z=>hc (by simp [z])) e⟩) (fun _ _ e=>e) (fun _ _ _ e=>e) (fun b ps e=>e) (fun m hm=>?_) (fun b u e=>?_) I.bare
  · have e:b=it:=by simpa using hb
    subst e
    exact ⟨h1,hL,h2,h3⟩
  · obtain ⟨o,es,ep,ho,r⟩:=hm
    exact ⟨o,es,ep,k _ o (Ne.symm hL) ho,r⟩
  · refine (I.hok b u e).stay (fun c v hc q=>k c v ?_ q) (fun _ q=>q) (fun _ _ q=>q) fun _ _ _ q=>q
    rcases hc with z | z
    · rw [z];exact nit b u e
    · exact nit c _ z
theorem Inv.tok (I:Inv X pins σ H s) (t:Nat):Inv X pins σ H { s with toks:=t }:=I.un (h':=s.heap) (t':=t) Un.refl I.hok
theorem Inv.kept {t':Nat} (I:Inv X pins σ H s) (k:∀ b u,s.heap.get? b=some u→h'.get? b=some u):Inv X pins σ H { s with heap:=h',toks:=t' }:=I.un (Un.kept k) (I.hok.kept k)
theorem Inv.laid {a:Addr} {o:HO} {t':Nat} (I:Inv X pins σ H s) (k:∀ b u,s.heap.get? b=some u→h'.get? b=some u) (hp:s.heap.objs.size≤a) (new:ObjOk X.prog X.w (upd H a o) h' a o) :
    Inv X pins σ (upd H a o) { s with heap:=h',toks:=t' }:=I.un (Un.laid k hp (I.hok.fresh hp)) (I.hok.laid k hp new)
theorem Inv.write {x e:Addr} {o:HO} {t':Nat} (I:Inv X pins σ H s) (mu:Mut (H x)) (he:e=x∨H e=some (.own x)) (k:∀ b u,b≠e→s.heap.get? b=some u→h'.get? b=some u) (heo:∃ u,h'.get? e=some u)
    (new:ObjOk X.prog X.w (upd H x o) h' x o):Inv X pins σ (upd H x o) { s with heap:=h',toks:=t' }:=I.un (Un.write mu he k heo) (I.hok.write mu he k heo new)
theorem Inv.pins_of {pins':List (Addr × Obj)} (I:Inv X pins σ H s) (h:∀ p∈pins',s.heap.get? p.1=some p.2∧H p.1=none∧p.1≠X.env.locals∧p.1∉X.fs∧∀ v,p.2.data≠.cell v):Inv X pins' σ H s :=
  ⟨I.ok,I.os,I.bare,I.base,I.loc,I.cell,I.free,I.freeC,fun p hp=>(List.mem_append.mp hp).elim (fun z=>I.pin p (List.mem_append_left _ z)) (h p),I.hok,I.len⟩
theorem qgw {N:List Str} (hN:N.Nodup) {i j:Nat} {x:Str} (a:N[i]?=some x) (b:N[j]?=some x):i=j:=by
  obtain ⟨h1,e1⟩:=List.getElem?_eq_some_iff.mp a
  obtain ⟨h2,e2⟩:=List.getElem?_eq_some_iff.mp b
  exact (List.getElem_inj hN).mp (e1.trans e2.symm)
theorem qfg {M:Model} {A:Around} {E:Value→Shared→Prop} {i:Nat} {x:Str} {v:V} {u:Value} {Q:Unit→Shared→Prop} (I:Inv X pins σ H s) (hN:X.N.Nodup) (hi:X.N[i]?=some x) (hx:Loc X.env.scope x) (r:RelV v u)
    (h:∀ s',Inv X pins (σ.set i (some v)) H s'→(∃ a,Heap.SameBut a s.heap s'.heap∧(a=X.env.locals∨X.env.cells.lookup x=some a))→Q () s') (hf:X.fn x=true∨X.env.scope.names.lookup x=some .local:=by first | exact .inl rfl | exact .inr rfl | assumption):wpAny M A (storeName X.env x u) Q E s:=by
  obtain ⟨m,hn,hl⟩:=id I.loc
  have hcls:(X.env.scope.kind == .class || (X.env.scope.kind == .module && X.env.locals != X.env.globals))=false:=by rw [I.ok.kind];rfl
  have hiσ:i<σ.length:=by rw [I.len];exact (List.getElem?_eq_some_iff.mp hi).1
  have cne:=I.cne
  have tracked:∀ {a:Addr} {h':Heap},(∃ o,s.heap.get? a=some o∧H a=none)→Heap.SameBut a s.heap h'→HOk X.prog X.w H h':=fun {a h'} ha hs b ob e=>by
    obtain ⟨_,_,hfree⟩:=ha
    refine (I.hok b ob e).stay (fun c w' hc q=>(hs.2 c ?_).trans q) (fun _ q=>q) (fun _ _ q=>q) fun _ _ _ q=>q
    rintro rfl
    rcases hc with rfl | hc
    · rw [hfree] at e;cases e
    · rw [hfree] at hc;cases hc
  rcases hx with hk | hk
  · refine wpAny_storeName_local hk hn (fun h' hn' hs=>?_) hcls
    obtain ⟨oL,_,_,hoL,_⟩:=id hn
    refine h _ ⟨I.ok,I.os,I.bare,⟨fun b o e n hb hx=>?_,fun b o e n hb hx=>?_,I.base.free,fun b o e hx=>?_,I.base.tups,I.base.frzs,I.base.tbls⟩,⟨_,hn',fun j y v' e1 e2 e3=>?_⟩,fun y c e=>?_,I.free,I.freeC,fun p hp=>?_,tracked ⟨oL,hoL,I.free⟩ hs,by simpa using I.len⟩ ⟨_,hs,.inl rfl⟩
    · exact (hs.2 b (Nat.ne_of_lt (Nat.lt_of_lt_of_le (Heap.lt_size e) I.ok.above))).trans (I.base.keep b o e n hb hx)
    · obtain ⟨sl,e1⟩:=I.base.slot b o e n hb hx
      exact ⟨sl,(hs.2 b (Nat.ne_of_lt (Nat.lt_of_lt_of_le (Heap.lt_size e) I.ok.above))).trans e1⟩
    · obtain ⟨o',e1⟩:=I.base.there b o e hx
      exact ⟨o',(hs.2 b (Nat.ne_of_lt (Nat.lt_of_lt_of_le (Heap.lt_size e) I.ok.above))).trans e1⟩
    · by_cases hj:j=i
      · subst hj
        rw [hi] at e1;cases e1
        rw [List.getElem?_set_self hiσ] at e2
        cases e2
        exact ⟨u,r,.inl ⟨hk,by simp⟩⟩
      · rw [List.getElem?_set_ne (Ne.symm hj)] at e2
        obtain ⟨u',r',q⟩:=hl j y v' e1 e2 e3
        refine ⟨u',r',?_⟩
        rcases q with ⟨k,e⟩ | ⟨k,c,e,z⟩
        · refine .inl ⟨k,?_⟩
          have:y≠x:=fun e=>hj (qgw hN e1 (e ▸ hi))
          simp [this,e]
        · exact .inr ⟨k,c,e,z.sameBut hs (cne y c e)⟩
    · obtain ⟨w',z⟩:=I.cell y c e
      exact ⟨w',z.sameBut hs (cne y c e)⟩
    · obtain ⟨e,n,ne,nf,d⟩:=I.pin p hp
      exact ⟨(hs.2 p.1 ne).trans e,n,ne,nf,d⟩
  · have hfn:X.fn x=true:=by
      rcases hf with z | z
      · exact z
      · rw [z] at hk;cases hk
    obtain ⟨c,hc⟩:=I.ok.has x (.inl hk)
    obtain ⟨w',z⟩:=I.cell x c hc
    refine wpAny_storeName_cell I.ok.kind hk hc z (fun h' hc' hs=>?_)
    obtain ⟨oc,hoc,hocd⟩:=id z
    refine h { s with heap:=h' } ⟨I.ok,I.os,I.bare,⟨fun b o e n hb hx=>?_,fun b o e n hb hx=>?_,I.base.free,fun b o e hx=>?_,I.base.tups,I.base.frzs,I.base.tbls⟩,⟨m,hn.sameBut hs (Ne.symm (cne x c hc)),fun j y v' e1 e2 e3=>?_⟩,fun y c' e=>?_,I.free,I.freeC,fun p hp=>?_,tracked ⟨oc,hoc,I.freeC x c hc⟩ hs,by simpa using I.len⟩ ⟨c,hs,.inr hc⟩
    · exact (hs.2 b (Nat.ne_of_lt (Nat.lt_of_lt_of_le (Heap.lt_size e) (I.ok.cab x c hfn hc)))).trans (I.base.keep b o e n hb hx)
    · obtain ⟨sl,e1⟩:=I.base.slot b o e n hb hx
      exact ⟨sl,(hs.2 b (Nat.ne_of_lt (Nat.lt_of_lt_of_le (Heap.lt_size e) (I.ok.cab x c hfn hc)))).trans e1⟩
    · obtain ⟨o',e1⟩:=I.base.there b o e hx
      exact ⟨o',(hs.2 b (Nat.ne_of_lt (Nat.lt_of_lt_of_le (Heap.lt_size e) (I.ok.cab x c hfn hc)))).trans e1⟩
    · by_cases hj:j=i
      · subst hj
        rw [hi] at e1;cases e1
        rw [List.getElem?_set_self hiσ] at e2
        cases e2
        exact ⟨u,r,.inr ⟨.inl hk,c,hc,hc'⟩⟩
      · rw [List.getElem?_set_ne (Ne.symm hj)] at e2
        obtain ⟨u',r',q⟩:=hl j y v' e1 e2 e3
        refine ⟨u',r',?_⟩
        rcases q with q | ⟨k,c',e,z'⟩
        · exact .inl q
        · refine .inr ⟨k,c',e,z'.sameBut hs ?_⟩
          rintro rfl
          exact hj (qgw hN e1 (I.ok.inj _ _ _ e hc ▸ hi))
    · by_cases hcc:c'=c
      · subst hcc;exact ⟨_,hc'⟩
      · obtain ⟨w2,z2⟩:=I.cell y c' e
        exact ⟨w2,z2.sameBut hs hcc⟩
    · obtain ⟨e,n,ne,nf,d⟩:=I.pin p hp
      refine ⟨(hs.2 p.1 ?_).trans e,n,ne,nf,d⟩
      intro q
      rw [q,hoc] at e
      have q':oc=p.2:=Option.some.inj e
      exact d w' (by rw [← q'];exact hocd)
theorem qgR {M:Model} {A:Around} {E:Value→Shared→Prop} {i:Nat} {x:Str} {v:V} {u:Value} {Q:Unit→Shared→Prop} (I:Inv X pins σ H s) (hN:X.N.Nodup) (hi:X.N[i]?=some x) (hx:Loc X.env.scope x) (r:RelV v u)
    (h:∀ s',Inv X pins (σ.set i (some v)) H s'→Q () s') (hf:X.fn x=true∨X.env.scope.names.lookup x=some .local:=by first | exact .inl rfl | exact .inr rfl | assumption):wpAny M A (storeName X.env x u) Q E s :=
  qfg I hN hi hx r (fun s' I' _=>h s' I') hf
theorem Inv.call' {s':Shared} {ch:List Addr} (I:Inv X pins σ H s) (ho:s'.os=s.os) (u:Un (frs X.stack) ch H H' s.heap s'.heap) (hok:HOk X.prog X.w H' s'.heap) (hg:AllBare s'.gens)
    (hch:∀ b∈ch,(b∈X.ex∨X.s₀.heap.objs.size≤b)∧b≠X.env.locals∧(∀ x c,X.env.cells.lookup x=some c→c≠b)∧∀ p∈X.pn++pins,p.1≠b):Inv X pins σ H' s':=by
  obtain ⟨h',g',d',t',o'⟩:=s'
  have e:o'=s.os:=ho
  subst e
  exact I.call (g':=g') (t':=t') (d':=d') u hok hg hch
end
abbrev XK:=Value→Option Addr→Hp→Prop
abbrev St:=List (Option V)
abbrev VK:=V→Hp→Prop
abbrev TE:=St→Hp→VK→Prop
abbrev TT:=St→Hp→(Bool→Hp→Prop)→Prop
abbrev TA:=St→Hp→(List V→Hp→Prop)→Prop
structure Ends where
  nx:St→Hp→Prop
  rt:VK
  bk:St→Hp→Prop:=fun _ _=>False
  ct:St→Hp→Prop:=fun _ _=>False
abbrev TS:=Ends→St→Hp→Prop
def EP (X:Cx) (pins:List (Addr × Obj)) (σ:St) (Q:VK) (u:Value) (s':Shared):Prop:=∃ v H',Inv X pins σ H' s'∧RelV v u∧Q v H'
def TP (X:Cx) (pins:List (Addr × Obj)) (σ:St) (Q:Bool→Hp→Prop) (b:Bool) (s':Shared):Prop:=∃ H',Inv X pins σ H' s'∧Q b H'
def AP (X:Cx) (pins:List (Addr × Obj)) (σ:St) (Q:List V→Hp→Prop) (us:List Value) (s':Shared):Prop:=∃ vs H',Inv X pins σ H' s'∧Vals vs us∧Q vs H'
def SP (X:Cx) (pins:List (Addr × Obj)) (D:Ends) (f:Flow) (s':Shared):Prop :=
  match f with
  | .next=>∃ σ' H',Inv X pins σ' H' s'∧D.nx σ' H'
  | .brk=>∃ σ' H',Inv X pins σ' H' s'∧D.bk σ' H'
  | .cont=>∃ σ' H',Inv X pins σ' H' s'∧D.ct σ' H'
  | .ret u=>∃ v σ' H',Inv X pins σ' H' s'∧RelV v u∧D.rt v H'
def PE (X:Cx) (e:Expr) (t:TE):Prop :=
  ∀ (pins:List (Addr × Obj)) (s:Shared) (σ:St) (H:Hp) (Q:VK),Inv X pins σ H s→t σ H Q→wpAny (model X.prog X.w) X.A (eval e X.env) (EP X pins σ Q) X.xe s
def PT (X:Cx) (e:Expr) (t:TT):Prop :=
  ∀ (pins:List (Addr × Obj)) (s:Shared) (σ:St) (H:Hp) (Q:Bool→Hp→Prop),Inv X pins σ H s→t σ H Q→wpAny (model X.prog X.w) X.A (isTrue e X.env (eval e X.env)) (TP X pins σ Q) X.xe s
def PW (X:Cx) (e:Expr) (t:TT):Prop :=
  ∀ (whole:Sem Value) (pins:List (Addr × Obj)) (s:Shared) (σ:St) (H:Hp) (Q:Bool→Hp→Prop),Inv X pins σ H s→t σ H Q→wpAny (model X.prog X.w) X.A (isTrue e X.env whole) (TP X pins σ Q) X.xe s
theorem PW.pt {X:Cx} {e:Expr} {t:TT} (h:PW X e t):PT X e t:=h _
def PA (X:Cx) (es:List Expr) (t:TA):Prop :=
  ∀ (pos:Pos) (pins:List (Addr × Obj)) (s:Shared) (σ:St) (H:Hp) (Q:List V→Hp→Prop),Inv X pins σ H s→t σ H Q→wpAny (model X.prog X.w) X.A (spliced (backTo pos (starEach es X.env))) (AP X pins σ Q) X.xe s
def PS (X:Cx) (st:Stmt) (t:TS):Prop :=
  ∀ (pins:List (Addr × Obj)) (s:Shared) (σ:St) (H:Hp) (D:Ends),Inv X pins σ H s→t D σ H→wpAny (model X.prog X.w) X.A (exec st X.env) (SP X pins D) X.xe s
def PSs (X:Cx) (st:List Stmt) (t:TS):Prop :=
  ∀ (pins:List (Addr × Obj)) (s:Shared) (σ:St) (H:Hp) (D:Ends),Inv X pins σ H s→t D σ H→wpAny (model X.prog X.w) X.A (execs st X.env) (SP X pins D) X.xe s
theorem thn {α:Type} {t:Sem α} {Q Q':α→Shared→Prop} {M:Model} {A:Around} {E:Value→Shared→Prop} {s:Shared} (h:wpAny M A t Q E s) (hQ:∀ a s,Q a s→Q' a s):wpAny M A t Q' E s:=wpAny_mono h hQ fun _ _ x=>x
section
variable {X : Cx}
def qoF (i:Nat):TE:=fun σ H Q=>∃ v,σ[i]?=some (some v)∧Q v H
def tC (v:V):TE:=fun _ H Q=>Q v H
theorem qlV {i:Nat} {x:Str} {pos:Pos} (hN:X.N[i]?=some x) (hv:Vis X.env.scope x) (hd:(x == ("__debug__":Str))=false:=by decide) (hcd:(x == ("__classdict__":Str))=false:=by decide):PE X (.Name x pos) (qoF i):=by
  intro pins s σ H Q I h
  obtain ⟨v,e,h⟩:=h
  obtain ⟨m,hn,hl⟩:=I.loc
  obtain ⟨u,r,l⟩:=hl i x v hN e hv
  have fin:EP X pins σ Q u s:=⟨v,H,I,r,h⟩
  rcases l with ⟨hk,hm⟩ | ⟨hk,c,hc,hcell⟩
  · exact wpAny_Name (wpAny_loadName_local I.ok.kind hk hn hm fin) hd
  · rcases hk with hk | hk
    · exact wpAny_Name (wpAny_loadName_cell I.ok.kind hk hc hcell fin) hd
    · exact wpAny_Name (wpAny_loadName_free I.ok.kind hk hc hcell fin hcd) hd
theorem qlT {i j pos}:PE X (.Constant (.int i) j pos) (tC (.int i)):=fun _ _ _ H _ I h=>wpAny_Constant_int ⟨.int i,H,I.tok _,⟨_,rfl⟩,h⟩
theorem qnC {b j pos}:PE X (.Constant (.bool b) j pos) (tC (.bl b)):=fun _ _ _ H _ I h=>Constant_bool ⟨.bl b,H,I,rfl,h⟩
theorem qmg {j pos}:PE X (.Constant .none j pos) (tC .non):=fun _ _ _ H _ I h=>Constant_none ⟨.non,H,I,rfl,h⟩
theorem ql1 {x j pos}:PE X (.Constant (.str x) j pos) (tC (.str x)):=fun _ _ _ H _ I h=>Calls.Constant_str ⟨.str x,H,I.tok _,⟨_,rfl⟩,h⟩
def Gl (X:Cx) (x:Str):Prop:=X.env.kindOf x=some .globalImplicit
theorem qh3 {E:Value→Shared→Prop} {pins:List (Addr × Obj)} {s:Shared} {σ:St} {H:Hp} {x:Str} {u:Value} {pos:Pos} {Q:Value→Shared→Prop} (I:Inv X pins σ H s) (hg:Gl X x) (hm:X.mg x=some u) (h:Q u s)
    (hd:(x == ("__debug__":Str))=false:=by decide):wpAny (model X.prog X.w) X.A (eval (.Name x pos) X.env) Q E s :=
  Calls.Name_function_global I.ok.kind hg (Calls.loadGlobal_global (by rw [I.ok.glob];exact I.mod.glob.keeps I.bk) hm h) hd
theorem qc0 {E:Value→Shared→Prop} {pins:List (Addr × Obj)} {s:Shared} {σ:St} {H:Hp} {x:Str} {u:Value} {pos:Pos} {Q:Value→Shared→Prop} (I:Inv X pins σ H s) (hg:Gl X x) (hm:X.mg x=none) (hv:bootBuiltins x=some u) (h:Q u s)
    (hn:x≠"__name__":=by decide) (hd:(x == ("__debug__":Str))=false:=by decide):wpAny (model X.prog X.w) X.A (eval (.Name x pos) X.env) Q E s:=by
  obtain ⟨mb,h1,h2⟩:=I.mod.blt
  exact Calls.Name_function_global I.ok.kind hg (Calls.loadGlobal_builtin (by rw [I.ok.glob];exact I.mod.glob.keeps I.bk) hm (by rw [I.ok.blt];exact h1.keeps I.bk) ((h2 x hn).trans hv) h) hd
theorem qes {x:Str} {v:V} {u:Value} {pos:Pos} (hg:Gl X x) (hm:X.mg x=none) (hv:bootBuiltins x=some u) (r:RelV v u) (hn:x≠"__name__":=by decide) (hd:(x == ("__debug__":Str))=false:=by decide):PE X (.Name x pos) (tC v) :=
  fun _ _ _ H _ I h=>qc0 I hg hm hv ⟨v,H,I,r,h⟩ hn hd
variable {a b : Expr} {ta tb : TE} {pos : Pos}
variable {tA tB' : TT} {rest : List Expr}
def qo6 (t u:TT):TT:=fun σ H Q=>t σ H fun c H1=>if c=true then u σ H1 Q else Q false H1
def tOr (t u:TT):TT:=fun σ H Q=>t σ H fun c H1=>if c=true then Q true H1 else u σ H1 Q
def qpv (t:TT):TT:=fun σ H Q=>t σ H fun c H1=>Q (!c) H1
theorem qkF (ha:PT X a tA):PW X (.BoolOp .And [a] pos) tA:=by
  intro wh pins s σ H Q I h
  refine isTrue_and (thn (ha pins s σ H Q I h) fun c s1 e=>?_)
  cases c with
  | true=>exact isTrue_and_nil e
  | false=>exact e
theorem qnd (ha:PT X a tA):PW X (.BoolOp .Or [a] pos) tA:=by
  intro wh pins s σ H Q I h
  refine isTrue_or (thn (ha pins s σ H Q I h) fun c s1 e=>?_)
  cases c with
  | false=>exact isTrue_or_nil e
  | true=>exact e
theorem qmZ (ha:PT X a tA) (hb:PW X (.BoolOp .And (b::rest) pos) tB'):PW X (.BoolOp .And (a::b::rest) pos) (qo6 tA tB'):=by
  intro wh pins s σ H Q I h
  refine isTrue_and (thn (ha pins s σ H _ I h) fun c s1 hq0=>?_)
  obtain ⟨H1,I1,q1⟩:=hq0
  cases c with
  | true=>exact hb wh pins s1 σ H1 Q I1 q1
  | false=>exact ⟨H1,I1,q1⟩
theorem qn1 (ha:PT X a tA) (hb:PW X (.BoolOp .Or (b::rest) pos) tB'):PW X (.BoolOp .Or (a::b::rest) pos) (tOr tA tB'):=by
  intro wh pins s σ H Q I h
  refine isTrue_or (thn (ha pins s σ H _ I h) fun c s1 hq0=>?_)
  obtain ⟨H1,I1,q1⟩:=hq0
  cases c with
  | true=>exact ⟨H1,I1,q1⟩
  | false=>exact hb wh pins s1 σ H1 Q I1 q1
theorem qlZ (ha:PT X a tA):PT X (.UnaryOp .Not a pos) (qpv tA):=by
  intro pins s σ H Q I h
  exact isTrue_not (ha pins s σ H (fun c H1=>Q (!c) H1) I h)
def qoi (ta tb:TE):TE:=fun σ H Q=>ta σ H fun x H1=>∃ c,x=.bl c∧if c=true then tb σ H1 Q else Q (.bl false) H1
def qoe (ta:TE):TE:=fun σ H Q=>ta σ H fun x H1=>∃ c,x=.bl c∧Q (.bl (!c)) H1
theorem ql9 {op} {t:TE} (h:PE X a t):PE X (.BoolOp op [a] pos) t:=fun pins s σ H Q I hw=>BoolOp_one (h pins s σ H Q I hw)
theorem qlX (ha:PE X a ta) (hb:PE X (.BoolOp .And (b::rest) pos) tb):PE X (.BoolOp .And (a::b::rest) pos) (qoi ta tb):=by
  intro pins s σ H Q I h
  refine BoolOp_and (thn (ha pins s σ H _ I h) fun v s1 hq0=>?_)
  obtain ⟨x,H1,I1,r1,q1⟩:=hq0
  obtain ⟨c,rfl,q1⟩:=q1
  cases r1
  refine wpAny_truthy_bool ?_
  cases c with
  | true=>exact hb pins s1 σ H1 Q I1 q1
  | false=>exact ⟨.bl false,H1,I1,rfl,q1⟩
theorem ql7 (ha:PE X a ta):PE X (.UnaryOp .Not a pos) (qoe ta):=by
  intro pins s σ H Q I h
  refine UnaryOp_ (thn (ha pins s σ H _ I h) fun v s1 hq0=>?_)
  obtain ⟨x,H1,I1,r1,q1⟩:=hq0
  obtain ⟨c,rfl,q1⟩:=q1
  cases r1
  exact not_of (wpAny_truthy_bool ⟨.bl (!c),H1,I1,rfl,q1⟩)
def tIf (t:TT) (ta tb:TE):TE:=fun σ H Q=>t σ H fun c H1=>if c=true then ta σ H1 Q else tb σ H1 Q
theorem qiM {c:Expr} (hc:PT X c tA) (ha:PE X a ta) (hb:PE X b tb):PE X (.IfExp c a b pos) (tIf tA ta tb):=by
  intro pins s σ H Q I h
  refine wpAny_IfExp (thn (hc pins s σ H _ I h) fun d s1 hq0=>?_)
  obtain ⟨H1,I1,q1⟩:=hq0
  cases d with
  | true=>exact ha pins s1 σ H1 Q I1 q1
  | false=>exact hb pins s1 σ H1 Q I1 q1
end
def SqL (K:PySem.W.Frag) (H:Hp) (a:Addr) (xs:List V):Prop :=
  Rd H a (.lst xs) ∨
    ∃ (o:Obj) (its:Array Value) (n:Nat),K.lookup a=some o∧o.cls=.type "list"∧o.dict=none∧o.data=.seq its n∧its.size≤sizeLine∧Vals xs its.toList
def SqT (K:PySem.W.Frag) (H:Hp) (a:Addr) (xs:List V):Prop :=
  Rd H a (.tup xs) ∨
    ∃ (o:Obj) (its:Array Value) (n:Nat),K.lookup a=some o∧o.cls=.type "tuple"∧o.data=.seq its n∧its.size≤sizeLine∧Vals xs its.toList
def qpr:Value→Option V
  | .none=>some .non
  | .bool b=>some (.bl b)
  | .int i _=>some (.int i)
  | .str x _=>some (.str x)
  | .bytes b _=>some (.byt b)
  | .float b _=>some (.flt b)
  | .ref a=>some (.ref a)
  | .type n=>some (.ty n)
  | _=>none
theorem RelV.abs {x:V} {u:Value} (r:RelV x u):qpr u=some x:=by
  cases x with
  | non=>cases r;rfl
  | bl _=>cases r;rfl
  | int _=>obtain ⟨t,rfl⟩:=r;rfl
  | str _=>obtain ⟨t,rfl⟩:=r;rfl
  | byt _=>obtain ⟨t,rfl⟩:=r;rfl
  | flt _=>obtain ⟨t,rfl⟩:=r;rfl
  | ref _=>cases r;rfl
  | ty _=>cases r;rfl
theorem RelV.inj {x y:V} {u:Value} (r:RelV x u) (q:RelV y u):x=y:=Option.some.inj (r.abs.symm.trans q.abs)
theorem Vals.inj:∀ {xs ys:List V} {us:List Value},Vals xs us→Vals ys us→xs=ys
  | _,_,_,.nil,.nil=>rfl
  | _,_,_,.cons r t,.cons r' t'=>by rw [r.inj r',Vals.inj t t']
section
variable {X : Cx} {pins : List (Addr × Obj)} {σ : St} {H : Hp} {s : Shared} {a : Addr} {xs ys : List V}
theorem SqL.of {K:PySem.W.Frag} (h:H a=some (.lst xs)):SqL K H a xs:=.inl (.inl h)
theorem SqT.of {K:PySem.W.Frag} (h:H a=some (.tup xs)):SqT K H a xs:=.inl (.inl h)
theorem Inv.list (I:Inv X pins σ H s) (h:SqL X.K H a xs):∃ its:List Value,Vals xs its∧PlainL s.heap a its.toArray∧xs.length≤sizeLine:=by
  rcases h with h | ⟨o,its,n,hk,hc,hd,hs,hz,r⟩
  · obtain ⟨z,its,n,r,e⟩:=h.ok I.hok
    exact ⟨its,r,⟨_,n,e,rfl,rfl,rfl⟩,z⟩
  · refine ⟨its.toList,r,⟨o,n,I.kIn a o hk,hc,hd,by simpa using hs⟩,?_⟩
    have e:=r.length
    simp only [Array.length_toList] at e
    omega
theorem Inv.tuple (I:Inv X pins σ H s) (h:SqT X.K H a xs):∃ its:List Value,Vals xs its∧IsTup s.heap a its.toArray∧xs.length≤sizeLine:=by
  rcases h with h | ⟨o,its,n,hk,hc,hs,hz,r⟩
  · obtain ⟨z,its,r,p⟩:=h.ok I.hok
    exact ⟨its,r,p,z⟩
  · refine ⟨its.toList,r,⟨o,I.kIn a o hk,hc,n,by simpa using hs⟩,?_⟩
    have e:=r.length
    simp only [Array.length_toList] at e
    omega
theorem Inv.list_inj (I:Inv X pins σ H s) (h:SqL X.K H a xs) (h':SqL X.K H a ys):xs=ys:=by
  obtain ⟨its,r,⟨o,n,e,_,_,d⟩,_⟩:=I.list h
  obtain ⟨its',r',⟨o',n',e',_,_,d'⟩,_⟩:=I.list h'
  rw [e] at e';cases e'
  rw [d] at d'
  injection d' with d1 _
  have:its=its':=by simpa using congrArg Array.toList d1
  subst this
  exact r.inj r'
theorem Inv.tuple_inj (I:Inv X pins σ H s) (h:SqT X.K H a xs) (h':SqT X.K H a ys):xs=ys:=by
  obtain ⟨its,r,⟨o,e,_,n,d⟩,_⟩:=I.tuple h
  obtain ⟨its',r',⟨o',e',_,n',d'⟩,_⟩:=I.tuple h'
  rw [e] at e';cases e'
  rw [d] at d'
  injection d' with d1 _
  have:its=its':=by simpa using congrArg Array.toList d1
  subst this
  exact r.inj r'
end
abbrev Cx.wish (X:Cx) (E:Value→Shared→Prop):Cx:={ X with xe:=E }
abbrev Cx.nox (X:Cx):Cx:=X.wish fun _ _=>False
theorem Cx.Ok.wish {X:Cx} (ok:X.Ok) (E:Value→Shared→Prop):(X.wish E).Ok :=
  ⟨ok.mod,ok.kind,ok.glob,ok.blt,ok.above,ok.inj,ok.has,ok.cab,ok.hd,ok.frames,ok.stk,ok.exf,ok.bs,ok.bsz,ok.noex,ok.exfs,ok.funs,ok.frf⟩
theorem Cx.Ok.unwish {X:Cx} {E:Value→Shared→Prop} (ok:(X.wish E).Ok):X.Ok :=
  ⟨ok.mod,ok.kind,ok.glob,ok.blt,ok.above,ok.inj,ok.has,ok.cab,ok.hd,ok.frames,ok.stk,ok.exf,ok.bs,ok.bsz,ok.noex,ok.exfs,ok.funs,ok.frf⟩
section
variable {X : Cx} {pins : List (Addr × Obj)} {σ : St} {H : Hp} {s : Shared} {E : Value → Shared → Prop}
theorem Inv.wish (I:Inv X pins σ H s) (E:Value→Shared→Prop):Inv (X.wish E) pins σ H s:=⟨I.ok.wish E,I.os,I.bare,I.base,I.loc,I.cell,I.free,I.freeC,I.pin,I.hok,I.len⟩
theorem Inv.unwish (I:Inv (X.wish E) pins σ H s):Inv X pins σ H s:=⟨I.ok.unwish,I.os,I.bare,I.base,I.loc,I.cell,I.free,I.freeC,I.pin,I.hok,I.len⟩
theorem SP.unwish {D:Ends} {f:Flow} {s':Shared} (h:SP (X.wish E) pins D f s'):SP X pins D f s':=by
  cases f with
  | next=>obtain ⟨σ',H',I,q⟩:=h;exact ⟨σ',H',I.unwish,q⟩
  | brk=>obtain ⟨σ',H',I,q⟩:=h;exact ⟨σ',H',I.unwish,q⟩
  | cont=>obtain ⟨σ',H',I,q⟩:=h;exact ⟨σ',H',I.unwish,q⟩
  | ret u=>obtain ⟨v,σ',H',I,r,q⟩:=h;exact ⟨v,σ',H',I.unwish,r,q⟩
theorem PSs.nox {st:List Stmt} {t:TS} (h:PSs X.nox st t):PSs X st t:=fun pins s σ H D I hw =>
  wpAny_mono (h pins s σ H D (I.wish _) hw) (fun _ _ q=>q.unwish) fun _ _ z=>False.elim z
end
section
variable {X : Cx} {st : Stmt} {rest : List Stmt} {t u : TS} {e : Expr} {te : TE} {pos : Pos}
def qog:TS:=fun D σ H=>D.nx σ H
def qo1 (t u:TS):TS:=fun D σ H=>t { D with nx:=u D } σ H
theorem pss_nil:PSs X [] qog:=fun _ _ σ H _ I h=>wpAny_execs_nil ⟨σ,H,I,h⟩
theorem qcC (h1:PS X st t) (h2:PSs X rest u):PSs X (st::rest) (qo1 t u):=by
  intro pins s σ H D I h
  refine wpAny_execs_cons (thn (h1 pins s σ H { D with nx:=u D } I h) fun f s1 q=>?_)
  cases f with
  | next =>
    obtain ⟨σ',H',I',q⟩:=q
    exact h2 pins s1 σ' H' D I' q
  | ret v=>exact q
  | brk=>exact q
  | cont=>exact q
theorem qip (h1:PS X st t):PSs X [st] t:=by
  intro pins s σ H D I h
  refine wpAny_execs_cons (thn (h1 pins s σ H D I h) fun f s1 q=>?_)
  cases f with
  | next=>exact wpAny_execs_nil q
  | ret v=>exact q
  | brk=>exact q
  | cont=>exact q
theorem Inv.quiet {pins:List (Addr × Obj)} {σ:St} {H:Hp} {s:Shared} (I:Inv X pins σ H s):interactive X.env=false:=by simp [interactive,I.ok.kind]
def qnI (te:TE):TS:=fun D σ H=>te σ H fun _ H1=>D.nx σ H1
theorem qlb (he:PE X e te) (hs:swapsWith e none pos.line X.env=pure false:=by rfl):PS X (.Expr e pos) (qnI te):=by
  intro pins s σ H D I h
  exact wpAny_Expr_any (thn (he pins s σ H _ I h) fun v s1 hq0=>by obtain ⟨x,H1,I1,r1,q1⟩:=hq0;exact ⟨σ,H1,I1,q1⟩) I.quiet hs
def qpt (te:TE):TS:=fun D σ H=>te σ H D.rt
theorem qmd (he:PE X e te):PS X (.Return (some e) pos) (qpt te):=by
  intro pins s σ H D I h
  exact wpAny_Return_some (thn (he pins s σ H _ I h) fun v s1 hq0=>by obtain ⟨x,H1,I1,r1,q1⟩:=hq0;exact ⟨x,σ,H1,I1,r1,q1⟩)
def qoI (c:TT) (t u:TS):TS:=fun D σ H=>c σ H fun b H1=>if b=true then t D σ H1 else u D σ H1
theorem qnV {c:Expr} {a b:List Stmt} {tc:TT} (hc:PT X c tc) (ha:PSs X a t) (hb:PSs X b u):PS X (.If c a b pos) (qoI tc t u):=by
  intro pins s σ H D I h
  refine wpAny_If (thn (hc pins s σ H _ I h) fun d s1 hq0=>?_)
  obtain ⟨H1,I1,q1⟩:=hq0
  cases d with
  | true=>exact ha pins s1 σ H1 D I1 q1
  | false=>exact hb pins s1 σ H1 D I1 q1
def qmF:TS:=fun _ _ _=>False
theorem ps_never:PS X st qmF:=fun _ _ _ _ _ _ h=>h.elim
end
abbrev TG:=V→St→Hp→(St→Hp→Prop)→Prop
abbrev TGs:=List V→St→Hp→(St→Hp→Prop)→Prop
def PG (X:Cx) (target:Expr) (t:TG):Prop :=
  ∀ (pins:List (Addr × Obj)) (s:Shared) (σ:St) (H:Hp) (v:V) (u:Value) (Q:St→Hp→Prop),Inv X pins σ H s→RelV v u→t v σ H Q →
    wpAny (model X.prog X.w) X.A (assign target X.env u) (fun _ s'=>∃ σ' H',Inv X pins σ' H' s'∧Q σ' H') X.xe s
def PGs (X:Cx) (ts:List Expr) (t:TGs):Prop :=
  ∀ (pins:List (Addr × Obj)) (s:Shared) (σ:St) (H:Hp) (vs:List V) (us:List Value) (Q:St→Hp→Prop),Inv X pins σ H s→Vals vs us→t vs σ H Q →
    wpAny (model X.prog X.w) X.A (assignInOrder ((assignEach ts X.env).map (·.2)) us) (fun _ s'=>∃ σ' H',Inv X pins σ' H' s'∧Q σ' H') X.xe s
abbrev qnY:=V→V→V→Hp→(Hp→Prop)→Prop
def qov (X:Cx) (t:qnY):Prop :=
  ∀ (pins:List (Addr × Obj)) (s:Shared) (σ:St) (H:Hp) (o i v:V) (ov iv u:Value) (Q:Hp→Prop),Inv X pins σ H s→RelV o ov→RelV i iv→RelV v u→t o i v H Q →
    wpAny (model X.prog X.w) X.A (setItem ov iv u) (fun _ s'=>∃ H',Inv X pins σ H' s'∧Q H') X.xe s
section
variable {X : Cx} {pos : Pos}
def qfP (i:Nat):TG:=fun v σ H Q=>Q (σ.set i (some v)) H
theorem qli {i:Nat} {x:Str} (hN:X.N.Nodup) (hi:X.N[i]?=some x) (hx:Loc X.env.scope x) (hf:X.fn x=true∨X.env.scope.names.lookup x=some .local:=by first | exact .inl rfl | exact .inr rfl | assumption):PG X (.Name x pos) (qfP i):=by
  intro pins s σ H v u Q I r h
  exact wpAny_assign_Name (qgR I hN hi hx r (fun s' I'=>⟨_,H,I',h⟩) hf)
def qpu:TGs:=fun vs σ H Q=>vs=[]∧Q σ H
def qob (t:TG) (u:TGs):TGs:=fun vs σ H Q=>∃ v r,vs=v::r∧t v σ H fun σ' H'=>u r σ' H' Q
theorem pgs_nil:PGs X [] qpu:=by
  intro pins s σ H vs us Q I r h
  obtain ⟨e,h⟩:=h
  subst e
  cases r
  exact assignInOrder_nil ⟨σ,H,I,h⟩
theorem qiV {e:Expr} {es:List Expr} {t:TG} {u:TGs} (h1:PG X e t) (h2:PGs X es u)
    (hs:(assignEach (e::es) X.env).map (·.2)=assign e X.env::(assignEach es X.env).map (·.2):=by rfl):PGs X (e::es) (qob t u):=by
  intro pins s σ H vs us Q I r h
  obtain ⟨v,vr,e1,h⟩:=h
  subst e1
  cases r with
  | cons r rr =>
    rw [hs]
    refine assignInOrder_cons (thn (h1 pins s σ H _ _ _ I r h) fun _ s1 hq0=>?_)
    obtain ⟨σ1,H1,I1,q1⟩:=hq0
    exact h2 pins s1 σ1 H1 _ _ Q I1 rr q1
def qou (K:PySem.W.Frag) (n:Nat) (t:TGs):TG:=fun v σ H Q=>∃ a xs,v=.ref a∧SqT K H a xs∧xs.length=n∧t xs σ H Q
theorem qng {es:List Expr} {k:Nat} {t:TGs} {n:Nat} (hc:X.calm=true) (h:PGs X es t)
    (hn:(assignEach es X.env).length=n:=by rfl) (hst:(assignEach es X.env).findIdx? (·.1)=none:=by rfl):PG X (.Tuple es k pos) (qou X.K n t):=by
  intro pins s σ H v u Q I r hw
  obtain ⟨a,xs,e1,hq,hl,hw⟩:=hw
  subst e1
  cases r
  obtain ⟨its,rv,ht,hz⟩:=I.tuple hq
  refine assign_Tuple_tuple (I.ok.hd hc) ht (by simp [hn,← hl,rv.length]) hst fun h' hx=>?_
  have I1:Inv X pins σ H { s with heap:=h' }:=I.kept (t':=s.toks) fun b o e=>hx b o (Nat.ne_of_lt (Heap.lt_size e)) e
  exact h pins _ σ H xs _ Q I1 (by simpa using rv) hw
def qpd (to ti:TE) (t:qnY):TG:=fun v σ H Q=>to σ H fun o H1=>ti σ H1 fun i H2=>t o i v H2 fun H3=>Q σ H3
theorem qmi {o i:Expr} {to ti:TE} {t:qnY} (ho:PE X o to) (hi:PE X i ti) (hs:qov X t)
    (ha:∀ v,assign (.Subscript o i pos) X.env v=(do
      let ov ← holding [v] (eval o X.env)
      let iv ← holding [v,ov] (eval i X.env)
      standAt pos
      holding [v,ov,iv] (setItem ov iv v)
      release [v,ov,iv] []):=by intro _;rfl):PG X (.Subscript o i pos) (qpd to ti t):=by
  intro pins s σ H v u Q I r h
  rw [ha]
  refine wpAny_bind (wpAny_holding (thn (ho pins s σ H _ I h) fun ov s1 hq0=>?_))
  obtain ⟨x,H1,I1,r1,q1⟩:=hq0
  refine wpAny_bind (wpAny_holding (thn (hi pins s1 σ H1 _ I1 q1) fun iv s2 hq1=>?_))
  obtain ⟨y,H2,I2,r2,q2⟩:=hq1
  refine wpAny_bind (wpAny_standAt (wpAny_bind (wpAny_holding (thn (hs pins s2 σ H2 x y v ov iv u _ I2 r1 r2 r q2) fun _ s3 hq2=>?_))))
  obtain ⟨H3,I3,q3⟩:=hq2
  exact wpAny_release ⟨σ,H3,I3,q3⟩
def qlP (te:TE) (g:TG):TS:=fun D σ H=>te σ H fun x H1=>g x σ H1 D.nx
theorem qjW {tg e:Expr} {te:TE} {g:TG} (he:PE X e te) (hg:PG X tg g) (hs:swapsWithSole [tg] e pos.line X.env=pure false:=by rfl) (hw:swappedStores [tg] e X.env=pure none:=by rfl)
    (h1:(assignEach [tg] X.env).map (·.2)=[assign tg X.env]:=by rfl):PS X (.Assign [tg] e pos) (qlP te g):=by
  intro pins s σ H D I h
  refine wpAny_Assign_stores (thn (he pins s σ H _ I h) fun v s1 hq0=>?_) hs hw
  obtain ⟨x,H1,I1,r1,q1⟩:=hq0
  rw [h1]
  exact thn (hg pins s1 σ H1 x v _ I1 r1 q1) fun _ s2 q=>q
theorem qjS {i:Nat} {x:Str} {e:Expr} {te:TE} {pos':Pos} (hN:X.N.Nodup) (hi:X.N[i]?=some x) (hx:Loc X.env.scope x) (he:PE X e te) (hs:swapsWith e (some (.Name x pos')) pos.line X.env=pure false:=by rfl) (hf:X.fn x=true∨X.env.scope.names.lookup x=some .local:=by first | exact .inl rfl | exact .inr rfl | assumption) :
    PS X (.Assign [.Name x pos'] e pos) (qlP te (qfP i)):=by
  intro pins s σ H D I h
  refine wpAny_Assign_Name (thn (he pins s σ H _ I h) fun v s1 hq0=>?_) hs
  obtain ⟨y,H1,I1,r1,q1⟩:=hq0
  exact qgR I1 hN hi hx r1 (fun s2 I2=>⟨_,H1,I2,q1⟩) hf
end
section
variable {X : Cx} {pos : Pos}
def qmf (c:TT) (tb:TS):TS:=fun D σ H=>∃ W:Nat→St→Hp→Prop,(∃ m,W m σ H)∧∀ m σ H,W m σ H →
  c σ H fun b H1=>if b=true then ∃ N:St→Hp→Prop,(∀ σ' H',N σ' H'→∃ m',m'<m∧W m' σ' H')∧tb { D with nx:=N,ct:=N,bk:=D.nx } σ H1 else D.nx σ H1
theorem qiO {c:Expr} {body:List Stmt} {tc:TT} {tb:TS} (hp:PassesOwn (model X.prog X.w) X.A X.env X.xe) (hc:PT X c tc) (hb:PSs X body tb):PS X (.While c body [] pos) (qmf tc tb):=by
  intro pins s σ H D I h
  obtain ⟨W,⟨m0,w0⟩,turn⟩:=h
  refine wpAny_While (codeAny_whileLoop (fun n s'=>∃ σ' H',Inv X pins σ' H' s'∧W n σ' H') ?_ m0 ⟨σ,H,I,w0⟩)
  rintro n s1 ⟨σ1,H1,I1,w1⟩
  refine wpAny_passesOwn hp (thn (hc pins s1 σ1 H1 _ I1 (turn n σ1 H1 w1)) fun b s2 hq0=>?_)
  obtain ⟨H2,I2,q2⟩:=hq0
  cases b with
  | true =>
    obtain ⟨N,hN,q2⟩:=q2
    rw [if_pos rfl]
    refine wpAny_passesOwn hp (thn (hb pins s2 σ1 H2 _ I2 q2) fun f s3 q3=>?_)
    cases f with
    | next =>
      obtain ⟨σ3,H3,I3,n3⟩:=q3
      obtain ⟨m',hm,w3⟩:=hN σ3 H3 n3
      exact ⟨m',hm,σ3,H3,I3,w3⟩
    | cont =>
      obtain ⟨σ3,H3,I3,n3⟩:=q3
      obtain ⟨m',hm,w3⟩:=hN σ3 H3 n3
      exact ⟨m',hm,σ3,H3,I3,w3⟩
    | brk=>exact q3
    | ret v=>exact q3
  | false =>
    rw [if_neg Bool.false_ne_true]
    exact wpAny_execs_nil ⟨σ1,H2,I2,q2⟩
end
structure It where
  go:Nat→Hp→Prop
  yld:Nat→Hp→V→Hp→Prop
  stop:Nat→Hp→Prop
def FpOk (X:Cx) (pins:List (Addr × Obj)) (H:Hp) (b:Addr):Prop :=
  H b=none∧b≠X.env.locals∧b∉X.fs∧(b∈X.ex∨X.s₀.heap.objs.size≤b)∧(∀ x c,X.env.cells.lookup x=some c→c≠b)∧∀ p∈X.pn++pins,p.1≠b
theorem Inv.fpOk {X:Cx} {pins:List (Addr × Obj)} {σ:St} {H H':Hp} {s:Shared} {b:Addr} (I:Inv X pins σ H s) (hb:s.heap.objs.size≤b) (hn:H' b=none):FpOk X pins H' b:=by
  refine ⟨hn,Nat.ne_of_gt (Nat.lt_of_lt_of_le I.lt hb),I.nofs hb,.inr (Nat.le_trans I.sz hb),fun x c e z=>?_,fun p hp z=>?_⟩
  · obtain ⟨v,q⟩:=I.cell x c e
    exact absurd (Nat.lt_of_lt_of_le q.lt (by rw [z];exact hb)) (Nat.lt_irrefl _)
  · exact absurd (Nat.lt_of_lt_of_le (Heap.lt_size (I.pin p hp).1) (by rw [z];exact hb)) (Nat.lt_irrefl _)
structure Turn (P:Program) (w:World) (K:PySem.W.Frag) (tg:Expr) (J:It) (fp:List Addr) (it:Addr) (tn:Nat→Heap→Prop):Prop where
  mem:it∈fp
  obj:∀ i h,tn i h→∀ b∈fp,∃ o,h.get? b=some o∧∀ v,o.data≠.cell v
  keep:∀ i h h',tn i h→(∀ b∈fp,∀ o,h.get? b=some o→h'.get? b=some o)→tn i h'
  item:∀ (X:Cx),X.prog=P→X.w=w→X.K=K→X.calm=true→∀ (i:Nat) (pins:List (Addr × Obj)) (s:Shared) (σ:St) (H:Hp) (E:Value→Shared→Prop),Inv X pins σ H s→(∀ b∈fp,FpOk X pins H b)→tn i s.heap→J.go i H →
    wpAny (model P w) X.A (pyNext (.ref it)) (fun r s1=>∃ u,r=some u ∧
      wpAny (model P w) X.A (letOwnedTupleGo tg (.ref it) u) (fun _ s2=>∃ x H',Inv X pins σ H' s2∧RelV x u∧J.yld i H x H'∧tn (i+1) s2.heap∧∀ b∈fp,H' b=none) E s1) E s
  done:∀ (X:Cx),X.prog=P→X.w=w→X.K=K→X.calm=true→∀ (i:Nat) (pins:List (Addr × Obj)) (s:Shared) (σ:St) (H:Hp) (E:Value→Shared→Prop),Inv X pins σ H s→(∀ b∈fp,FpOk X pins H b)→tn i s.heap→J.stop i H →
    wpAny (model P w) X.A (pyNext (.ref it)) (fun r s1=>r=none∧Inv X pins σ H s1) E s
  self:∀ (A:Around) (i:Nat) (s:Shared) (Q:Value→Shared→Prop) (E:Value→Shared→Prop),tn i s.heap→Q (.ref it) s→wpAny (model P w) A (pyIter (.ref it)) Q E s
abbrev TI:=St→Hp→(It→Hp→Prop)→Prop
def PIE (X:Cx) (pins:List (Addr × Obj)) (σ:St) (tg:Expr) (R:It→Hp→Prop) (itv:Value) (s2:Shared):Prop :=
  ∃ (it:Addr) (fp:List Addr) (tn:Nat→Heap→Prop) (J:It) (H':Hp),itv=.ref it∧Inv X pins σ H' s2∧Turn X.prog X.w X.K tg J fp it tn∧tn 0 s2.heap∧(∀ b∈fp,FpOk X pins H' b)∧R J H'
def PI (X:Cx) (tg iter:Expr) (wi:TI):Prop :=
  ∀ (pins:List (Addr × Obj)) (s:Shared) (σ:St) (H:Hp) (R:It→Hp→Prop),Inv X pins σ H s→wi σ H R →
    wpAny (model X.prog X.w) X.A (eval iter X.env) (fun v s1=>wpAny (model X.prog X.w) X.A (pyIter v) (PIE X pins σ tg R) X.xe s1) X.xe s
theorem qlm {M:Model} {A:Around} {E:Value→Shared→Prop} {s:Shared} {tg:Expr} {it:Addr} {u:Value} {o:Obj} {n:String} {vs:Array Value} {Q:Unit→Shared→Prop} (ho:s.heap.get? it=some o) (hc:o.cls=.type n) (hd:o.data=.fields vs)
    (hn:["enumerate","zip","dict_itemiterator","dict_reverseitemiterator","odict_iterator","itertools.zip_longest","itertools.pairwise"].contains n=false) (hQ:Q () s):wpAny M A (letOwnedTupleGo tg (.ref it) u) Q E s:=by
  unfold letOwnedTupleGo
  cases tg <;> first
    | exact wpAny_pure hQ
    | (cases u <;> first
        | exact wpAny_pure hQ
        | (refine wpAny_bind (wpAny_load ho ?_)
           rw [hc,hd]
           show wpAny M A (if (["enumerate","zip","dict_itemiterator","dict_reverseitemiterator","odict_iterator","itertools.zip_longest","itertools.pairwise"].contains n && vs[0]? == some (rawInt _))=true then _ else _) Q E s
           rw [if_neg (by intro h;rw [hn,Bool.false_and] at h;cases h)]
           exact wpAny_pure hQ))
def Itl (K:PySem.W.Frag) (a:Addr):It :=
  ⟨fun i H=>∃ xs x,SqL K H a xs∧xs[i]?=some x,fun i H x H'=>H'=H∧∀ xs,SqL K H a xs→xs[i]?=some x,fun i H=>∃ xs,SqL K H a xs∧xs.length≤i⟩
def Itt (K:PySem.W.Frag) (a:Addr):It :=
  ⟨fun i H=>∃ xs x,SqT K H a xs∧xs[i]?=some x,fun i H x H'=>H'=H∧∀ xs,SqT K H a xs→xs[i]?=some x,fun i H=>∃ xs,SqT K H a xs∧xs.length≤i⟩
def Itr (lo:Int) (n:Nat):It:=⟨fun i _=>i<n,fun i H x H'=>H'=H∧x=.int (lo+i),fun i _=>n≤i⟩
theorem qh5 {P:Program} {w:World} {K:PySem.W.Frag} {tg:Expr} (a it:Addr):Turn P w K tg (Itl K a) [it] it (fun i h=>h.IsListIter it a i) where
  mem:=by simp
  obj:=fun i h st b hb=>by
    have e:b=it:=by simpa using hb
    subst e
    obtain ⟨o,e,c,d⟩:=st
    exact ⟨o,e,fun v z=>by rw [d] at z;cases z⟩
  keep:=fun i h h' st k=>st.at fun o e=>k it (by simp) o e
  item:=by
    intro X hP hw hK hc i pins s σ H E I hf st hg
    subst hP hw hK
    obtain ⟨xs,x,hq,hx⟩:=hg
    obtain ⟨its,rv,p,hz⟩:=I.list hq
    obtain ⟨u,hu,ru⟩:=rv.get hx
    obtain ⟨f0,f1,f2,f3,f4,f5⟩:=hf it (by simp)
    refine wpAny_pyNext_list_item st p.isList (x:=u) (by simpa using hu) fun h' st' sb=>?_
    have I1:Inv X pins σ H { s with heap:=h' }:=I.turned (t':=s.toks) (fun b o hb e=>(sb.2 b hb).trans e) f0 f1 f3 f4 f5
    obtain ⟨o,e,c,d⟩:=id st'
    exact ⟨u,rfl,qlm (s:={ s with heap:=h' }) e c d (by decide) ⟨x,H,I1,ru,⟨rfl,fun ys hy=>by rw [I.list_inj hy hq];exact hx⟩,st',fun b hb=>(hf b hb).1⟩⟩
  done:=by
    intro X hP hw hK hc i pins s σ H E I hf st hg
    subst hP hw hK
    obtain ⟨xs,hq,hx⟩:=hg
    obtain ⟨its,rv,p,hz⟩:=I.list hq
    obtain ⟨f0,f1,f2,f3,f4,f5⟩:=hf it (by simp)
    have hl:=rv.length
    exact wpAny_pyNext_list_end (I.ok.hd hc) st p.isList (by simp;omega) fun h' eb=>⟨rfl,I.turned (t':=s.toks) (fun b o hb e=>eb b o hb e) f0 f1 f3 f4 f5⟩
  self:=fun _ _ _ _ _ st h=>wpAny_pyIter_listiter st h
theorem qgZ {P:Program} {w:World} {K:PySem.W.Frag} {tg:Expr} (a it:Addr):Turn P w K tg (Itt K a) [it] it (fun i h=>h.IsTupleIter it a i) where
  mem:=by simp
  obj:=fun i h st b hb=>by
    have e:b=it:=by simpa using hb
    subst e
    obtain ⟨o,e,c,d⟩:=st
    exact ⟨o,e,fun v z=>by rw [d] at z;cases z⟩
  keep:=fun i h h' st k=>st.at fun o e=>k it (by simp) o e
  item:=by
    intro X hP hw hK hc i pins s σ H E I hf st hg
    subst hP hw hK
    obtain ⟨xs,x,hq,hx⟩:=hg
    obtain ⟨its,rv,p,hz⟩:=I.tuple hq
    obtain ⟨u,hu,ru⟩:=rv.get hx
    obtain ⟨f0,f1,f2,f3,f4,f5⟩:=hf it (by simp)
    refine wpAny_pyNext_tuple_item st (show s.heap.IsTuple a its.toArray from p) (x:=u) (by simpa using hu) fun h' st' sb=>?_
    have I1:Inv X pins σ H { s with heap:=h' }:=I.turned (t':=s.toks) (fun b o hb e=>(sb.2 b hb).trans e) f0 f1 f3 f4 f5
    obtain ⟨o,e,c,d⟩:=id st'
    exact ⟨u,rfl,qlm (s:={ s with heap:=h' }) e c d (by decide) ⟨x,H,I1,ru,⟨rfl,fun ys hy=>by rw [I.tuple_inj hy hq];exact hx⟩,st',fun b hb=>(hf b hb).1⟩⟩
  done:=by
    intro X hP hw hK hc i pins s σ H E I hf st hg
    subst hP hw hK
    obtain ⟨xs,hq,hx⟩:=hg
    obtain ⟨its,rv,p,hz⟩:=I.tuple hq
    obtain ⟨f0,f1,f2,f3,f4,f5⟩:=hf it (by simp)
    have hl:=rv.length
    exact wpAny_pyNext_tuple_end (I.ok.hd hc) st (show s.heap.IsTuple a its.toArray from p) (by simp;omega) fun h' eb=>⟨rfl,I.turned (t':=s.toks) (fun b o hb e=>eb b o hb e) f0 f1 f3 f4 f5⟩
  self:=fun _ _ _ _ _ st h=>wpAny_pyIter_tupleiter st h
theorem qgX {P:Program} {w:World} {K:PySem.W.Frag} {tg:Expr} (it:Addr) (lo:Int) (n:Nat):Turn P w K tg (Itr lo n) [it] it (fun i h=>IsRangeIter h it (lo+(i:Nat)*1) ((n:Int) - (i:Nat)) 1) where
  mem:=by simp
  obj:=fun i h st b hb=>by
    have e:b=it:=by simpa using hb
    subst e
    exact ⟨_,st,fun v z=>by
      have z':Data.fields _=Data.cell v:=z
      cases z'⟩
  keep:=fun i h h' st k=>k it (by simp) _ st
  item:=by
    intro X hP hw hK hc i pins s σ H E I hf st hg
    subst hP hw hK
    obtain ⟨f0,f1,f2,f3,f4,f5⟩:=hf it (by simp)
    have W:=Walks.range (prog:=X.prog) (w:=X.w) (I.ok.hd hc) it lo 1 n
    refine W.item i s _ _ hg st fun v h' tk hv st' kk=>?_
    obtain ⟨t,rfl⟩:=hv
    have I1:Inv X pins σ H { s with heap:=h',toks:=tk }:=I.turned (fun b o hb e=>kk b o (by simpa using hb) e) f0 f1 f3 f4 f5
    refine ⟨_,rfl,qlm (s:={ s with heap:=h',toks:=tk }) (n:="range_iterator") st' rfl rfl (by decide) ⟨.int (lo+i),H,I1,⟨t,?_⟩,⟨rfl,rfl⟩,st',fun b hb=>(hf b hb).1⟩⟩
    rw [Int.mul_one]
  done:=by
    intro X hP hw hK hc i pins s σ H E I hf st hg
    subst hP hw hK
    obtain ⟨f0,f1,f2,f3,f4,f5⟩:=hf it (by simp)
    exact wpAny_pyNext_range_end (I.ok.hd hc) st (by have:n≤i:=hg;omega) fun h' eb=>⟨rfl,I.turned (t':=s.toks) (fun b o hb e=>eb b o hb e) f0 f1 f3 f4 f5⟩
  self:=fun _ _ _ _ _ st h=>wpAny_pyIter_rangeiter st h
section
variable {X : Cx} {tg : Expr}
theorem qjK {pins:List (Addr × Obj)} {σ:St} {H:Hp} {s:Shared} {R:It→Hp→Prop} {E:Value→Shared→Prop} {lo hi:Int} {t u v:Tok} {tk:Nat} (I:Inv X pins σ H s) (h1:-(2 ^ 62)≤lo) (h2:lo<2 ^ 62) (h3:-(2 ^ 62)≤hi) (h4:hi<2 ^ 62)
    (q:R (Itr lo (hi - lo).toNat) H):wpAny (model X.prog X.w) X.A (pyIter (.ref s.heap.objs.size)) (PIE X pins σ tg R) E { s with heap:=s.heap.push { cls:=.type "range",data:=.fields #[.int lo t,.int hi u,.int 1 v] },toks:=tk }:=by
  refine wpAny_pyIter_range (IsRange.new ..) (small_one h1 h2 h3 h4) ?_
  have I1:Inv X pins σ H { s with heap:=s.heap.push { cls:=.type "range",data:=.fields #[.int lo t,.int hi u,.int 1 v] },toks:=tk }:=I.kept fun b o e=>Heap.get?_push_of_some _ e
  refine ⟨(s.heap.push { cls:=.type "range",data:=.fields #[.int lo t,.int hi u,.int 1 v] }).objs.size,[(s.heap.push { cls:=.type "range",data:=.fields #[.int lo t,.int hi u,.int 1 v] }).objs.size],_,_,H,rfl,
    I1.kept (t':=tk) fun b o e=>Heap.get?_push_of_some _ e,qgX _ lo (hi - lo).toNat,?_,fun b hb=>?_,q⟩
  · have e1:lo+((0:Nat):Int)*1=lo:=by simp
    have e2:(((hi - lo).toNat:Nat):Int) - ((0:Nat):Int)=Builtin.Range.rangeSize lo hi 1:=by rw [rangeSize_one];split <;> omega
    show IsRangeIter _ _ (lo+((0:Nat):Int)*1) ((((hi - lo).toNat:Nat):Int) - ((0:Nat):Int)) 1
    rw [e1,e2]
    exact Heap.get?_push_size _ rfl
  · have e:b=(s.heap.push { cls:=.type "range",data:=.fields #[.int lo t,.int hi u,.int 1 v] }).objs.size:=by simpa using hb
    subst e
    exact I1.fpOk (Nat.le_refl _) (I1.hok.fresh (Nat.le_refl _))
def qn2 (ta:TA):TI:=fun σ H R=>ta σ H fun vs H1=>∃ j:Int,vs=[.int j]∧-(2 ^ 62)≤j∧j<2 ^ 62∧R (Itr 0 j.toNat) H1
theorem qhJ {a:Expr} {ta:TA} {p pos:Pos} (hg:Gl X "range") (hm:X.mg "range"=none) (ha:PA X [a] ta) (hs:starEach [a] X.env=[(false,eval a X.env)]:=by rfl):PI X tg (.Call (.Name "range" p) [a] [] pos) (qn2 ta):=by
  intro pins s σ H R I h
  refine Call_ (qc0 I hg hm boot_range (PyProof.Rows.callWith_type1 (thn (ha pos pins s σ H _ I h) fun us s1 hq0=>?_) hs rfl))
  obtain ⟨vs,H1,I1,r1,q1⟩:=hq0
  obtain ⟨j,e,q1,q2,q⟩:=q1
  subst e
  cases r1 with
  | cons r rr =>
    cases rr
    obtain ⟨t,rfl⟩:=r
    exact call_range_1 (qjK I1 (by omega) (by omega) q1 q2 (by simpa using q))
def qoW (wi:TI) (g:TG) (tb:TS):TS:=fun D σ H=>wi σ H fun J H1=>∃ W:Nat→Nat→St→Hp→Prop,(∃ m,W 0 m σ H1)∧∀ i m σ H,W i m σ H →
  (J.stop i H∧D.nx σ H)∨(J.go i H∧∃ N:St→Hp→Prop,(∀ σ' H',N σ' H'→∃ m',m'<m∧W (i+1) m' σ' H')∧∀ x H',J.yld i H x H'→g x σ H' fun σ2 H2=>tb { D with nx:=N,ct:=N,bk:=D.nx } σ2 H2)
def qfa (fp:List Addr) (h:Heap):List (Addr × Obj):=fp.filterMap fun b=>(h.get? b).map fun o=>(b,o)
theorem qci {fp:List Addr} {h:Heap} {b:Addr} {o:Obj} (hb:b∈fp) (e:h.get? b=some o):(b,o)∈qfa fp h:=List.mem_filterMap.mpr ⟨b,hb,by rw [e];rfl⟩
theorem qhw {fp:List Addr} {h:Heap} {p:Addr × Obj} (hp:p∈qfa fp h):p.1∈fp∧h.get? p.1=some p.2:=by
  obtain ⟨b,hb,e⟩:=List.mem_filterMap.mp hp
  cases q:h.get? b with
  | none=>rw [q] at e;cases e
  | some o =>
    rw [q] at e
    have e':(b,o)=p:=Option.some.inj e
    subst e'
    exact ⟨hb,q⟩
theorem Inv.pinned {pins:List (Addr × Obj)} {σ:St} {H:Hp} {s:Shared} {fp:List Addr} (I:Inv X pins σ H s) (hf:∀ b∈fp,FpOk X pins H b) (ho:∀ b∈fp,∃ o,s.heap.get? b=some o∧∀ v,o.data≠.cell v):Inv X (pins++qfa fp s.heap) σ H s :=
  I.pins_of fun p hp=>(List.mem_append.mp hp).elim (fun z=>I.pin p (List.mem_append_right _ z)) fun z=>by
    obtain ⟨hb,e⟩:=qhw z
    obtain ⟨f0,f1,f2,_⟩:=hf p.1 hb
    obtain ⟨o,e',d⟩:=ho p.1 hb
    rw [e] at e';cases e'
    exact ⟨e,f0,f1,f2,d⟩
theorem Inv.unpinned {pins pl:List (Addr × Obj)} {σ:St} {H:Hp} {s:Shared} (I:Inv X (pins++pl) σ H s):Inv X pins σ H s:=I.pins_of fun p hp=>I.pin p (List.mem_append_right _ (List.mem_append_left _ hp))
theorem qml {iter:Expr} {body:List Stmt} {wi:TI} {g:TG} {tb:TS} {pos:Pos} (hp:PassesOwn (model X.prog X.w) X.A X.env X.xe) (hc:X.calm=true) (hi:PI X tg iter wi) (hg:PG X tg g) (hb:PSs X body tb)
    (hs:∀ x,foldedSetIterable iter X.env x=pure x:=by intro _;rfl):PS X (.For tg iter body [] pos) (qoW wi g tb):=by
  intro pins s σ H D I h
  refine wpAny_For (thn (hi pins s σ H _ I h) fun v s1 h1=>thn h1 fun itv s2 h2=>?_) hs
  obtain ⟨it,fp,tn,J,H2,e,I2,T,st2,f2,W,⟨m0,w0⟩,turn⟩:=h2
  subst e
  have stat:∀ {H':Hp},(∀ b∈fp,H' b=none)→∀ b∈fp,FpOk X pins H' b:=fun hn b hb=>⟨hn b hb,(f2 b hb).2⟩
  refine codeAny_forLoop_any (fun n s'=>∃ i σ' H',Inv X pins σ' H' s'∧tn i s'.heap∧(∀ b∈fp,H' b=none)∧W i n σ' H') ?_ m0 ⟨0,σ,H2,I2,st2,fun b hb=>(f2 b hb).1,w0⟩
  rintro n s3 ⟨i,σ3,H3,I3,st3,fr3,w3⟩
  rcases turn i n σ3 H3 w3 with ⟨stop,qn⟩ | ⟨go,N,hN,step⟩
  · refine wpAny_passesOwn hp (thn (T.done X rfl rfl rfl hc i pins s3 σ3 H3 X.xe I3 (stat fr3) st3 stop) fun r s4 hq0=>?_)
    obtain ⟨hr,I4⟩:=hq0
    subst hr
    exact wpAny_execs_nil ⟨σ3,H3,I4,qn⟩
  · refine wpAny_passesOwn hp (thn (T.item X rfl rfl rfl hc i pins s3 σ3 H3 X.xe I3 (stat fr3) st3 go) fun r s4 hq1=>?_)
    obtain ⟨u,hr,h4⟩:=hq1
    subst hr
    refine wpAny_passesOwn hp (thn h4 fun _ s5 hq2=>?_)
    obtain ⟨x,H5,I5,r5,y5,st5,fr5⟩:=hq2
    have I5':=I5.pinned (stat fr5) (T.obj _ _ st5)
    refine wpAny_passesOwn hp (thn (hg _ s5 σ3 H5 x u _ I5' r5 (step x H5 y5)) fun _ s6 hq3=>?_)
    obtain ⟨σ6,H6,I6,q6⟩:=hq3
    refine wpAny_passesOwn hp (thn (hb _ s6 σ6 H6 _ I6 q6) fun f s7 q7=>?_)
    have again:∀ {σ7:St} {H7:Hp},Inv X (pins++qfa fp s5.heap) σ7 H7 s7→N σ7 H7→∃ m,m<n∧∃ i σ' H',Inv X pins σ' H' s7∧tn i s7.heap∧(∀ b∈fp,H' b=none)∧W i m σ' H':=fun {σ7 H7} I7 n7=>by
      obtain ⟨m',hm,w7⟩:=hN σ7 H7 n7
      refine ⟨m',hm,i+1,σ7,H7,I7.unpinned,T.keep _ _ _ st5 fun b hb o e=>(I7.pin (b,o) (List.mem_append_right _ (List.mem_append_right _ (qci hb e)))).1,fun b hb=>?_,w7⟩
      obtain ⟨o,e,d⟩:=T.obj _ _ st5 b hb
      exact (I7.pin (b,o) (List.mem_append_right _ (List.mem_append_right _ (qci hb e)))).2.1
    cases f with
    | next=>obtain ⟨σ7,H7,I7,n7⟩:=q7;exact again I7 n7
    | cont=>obtain ⟨σ7,H7,I7,n7⟩:=q7;exact again I7 n7
    | brk=>obtain ⟨σ7,H7,I7,q7⟩:=q7;exact ⟨σ7,H7,I7.unpinned,q7⟩
    | ret v=>obtain ⟨x7,σ7,H7,I7,r7,q7⟩:=q7;exact ⟨x7,σ7,H7,I7.unpinned,r7,q7⟩
end
abbrev R2:=V→V→Hp→VK→Prop
def OpR (X:Cx) (f:Value→Value→Sem Value) (r:R2):Prop :=
  ∀ (pins:List (Addr × Obj)) (s:Shared) (σ:St) (H:Hp) (x y:V) (v u:Value) (Q:VK),Inv X pins σ H s→RelV x v→RelV y u→r x y H Q →
    wpAny (model X.prog X.w) X.A (f v u) (EP X pins σ Q) X.xe s
def UnR (X:Cx) (f:Value→Sem Value) (r:V→Hp→VK→Prop):Prop :=
  ∀ (pins:List (Addr × Obj)) (s:Shared) (σ:St) (H:Hp) (x:V) (v:Value) (Q:VK),Inv X pins σ H s→RelV x v→r x H Q →
    wpAny (model X.prog X.w) X.A (f v) (EP X pins σ Q) X.xe s
def qcl (X:Cx) (f:Value) (r:List V→Hp→VK→Prop):Prop :=
  ∀ (pins:List (Addr × Obj)) (s:Shared) (σ:St) (H:Hp) (xs:List V) (us:List Value) (Q:VK),Inv X pins σ H s→Vals xs us→r xs H Q →
    wpAny (model X.prog X.w) X.A (call f us) (EP X pins σ Q) X.xe s
def qoM (X:Cx) (r:V→Hp→(Bool→Hp→Prop)→Prop):Prop :=
  ∀ (pins:List (Addr × Obj)) (s:Shared) (σ:St) (H:Hp) (x:V) (v:Value) (Q:Bool→Hp→Prop),Inv X pins σ H s→RelV x v→r x H Q →
    wpAny (model X.prog X.w) X.A (truthy v) (TP X pins σ Q) X.xe s
def tOp (r:R2) (ta tb:TE):TE:=fun σ H Q=>ta σ H fun x H1=>tb σ H1 fun y H2=>r x y H2 Q
def tUn (r:V→Hp→VK→Prop) (ta:TE):TE:=fun σ H Q=>ta σ H fun x H1=>r x H1 Q
def rI (C:Int→Int→Prop) (g:Int→Int→V):R2:=fun x y H Q=>∃ i j,x=.int i∧y=.int j∧C i j∧Q (g i j) H
def rI0 (g:Int→Int→V):R2:=fun x y H Q=>∃ i j,x=.int i∧y=.int j∧Q (g i j) H
def rU (g:Int→V):V→Hp→VK→Prop:=fun x H Q=>∃ i,x=.int i∧Q (g i) H
section
variable {X : Cx} {a b c : Expr} {ta tb tc : TE} {pos : Pos}
theorem qnJ (ha:PE X a ta) (hb:PE X b tb) {pins:List (Addr × Obj)} {s:Shared} {σ:St} {H:Hp} {R:V→V→Hp→Prop} (I:Inv X pins σ H s)
    (h:ta σ H fun x H1=>tb σ H1 fun y H2=>R x y H2) {Q:Value→Shared→Prop} {f:Value→Value→Sem Value}
    (hf:∀ v u s2 x y H2,Inv X pins σ H2 s2→RelV x v→RelV y u→R x y H2→wpAny (model X.prog X.w) X.A (f v u) Q X.xe s2) :
    wpAny (model X.prog X.w) X.A (eval a X.env) (fun v s₁=>wpAny (model X.prog X.w) X.A (eval b X.env) (fun u s₂=>wpAny (model X.prog X.w) X.A (f v u) Q X.xe s₂) X.xe s₁) X.xe s:=by
  refine thn (ha pins s σ H _ I h) fun v s1 hq0=>?_
  obtain ⟨x,H1,I1,r1,q1⟩:=hq0
  refine thn (hb pins s1 σ H1 _ I1 q1) fun u s2 hq1=>?_
  obtain ⟨y,H2,I2,r2,q2⟩:=hq1
  exact hf v u s2 x y H2 I2 r1 r2 q2
theorem qnm {op:Operator} {r:R2} (ho:OpR X (binaryOp op) r) (ha:PE X a ta) (hb:PE X b tb):PE X (.BinOp a op b pos) (tOp r ta tb):=by
  intro pins s σ H Q I h
  exact wpAny_BinOp (qnJ ha hb I h fun v u s2 x y H2 I2 rx ry q=>ho pins s2 σ H2 x y v u Q I2 rx ry q)
theorem qnQ {op:UnaryOp} {r:V→Hp→VK→Prop} (ho:UnR X (unaryOp op) r) (ha:PE X a ta):PE X (.UnaryOp op a pos) (tUn r ta):=by
  intro pins s σ H Q I h
  exact UnaryOp_ (thn (ha pins s σ H _ I h) fun v s1 hq0=>by obtain ⟨x,H1,I1,r1,q1⟩:=hq0;exact ho pins s1 σ H1 x v Q I1 r1 q1)
theorem opI {f:Value→Value→Sem Value} {C:Int→Int→Prop} {g:Int→Int→Int}
    (rule:∀ (i j:Int) (t u:Tok) (s:Shared) (Q:Value→Shared→Prop) (E:Value→Shared→Prop),C i j→Q (.int (g i j) s.toks) { s with toks:=s.toks+1 }→wpAny (model X.prog X.w) X.A (f (.int i t) (.int j u)) Q E s) :
    OpR X f (rI C fun i j=>.int (g i j)):=by
  intro pins s σ H x y v u Q I rx ry h
  obtain ⟨i,j,rfl,rfl,hc,q⟩:=h
  obtain ⟨t,rfl⟩:=rx
  obtain ⟨t',rfl⟩:=ry
  exact rule i j t t' s _ _ hc ⟨.int (g i j),H,I.tok _,⟨_,rfl⟩,q⟩
theorem qow {f:Value→Value→Sem Value} {g:Int→Int→Int}
    (rule:∀ (i j:Int) (t u:Tok) (s:Shared) (Q:Value→Shared→Prop) (E:Value→Shared→Prop),Q (.int (g i j) s.toks) { s with toks:=s.toks+1 }→wpAny (model X.prog X.w) X.A (f (.int i t) (.int j u)) Q E s) :
    OpR X f (rI0 fun i j=>.int (g i j)):=by
  intro pins s σ H x y v u Q I rx ry h
  obtain ⟨i,j,rfl,rfl,q⟩:=h
  obtain ⟨t,rfl⟩:=rx
  obtain ⟨t',rfl⟩:=ry
  exact rule i j t t' s _ _ ⟨.int (g i j),H,I.tok _,⟨_,rfl⟩,q⟩
theorem qoD {f:Value→Value→Sem Value} {g:Int→Int→Bool}
    (rule:∀ (i j:Int) (t u:Tok) (s:Shared) (Q:Value→Shared→Prop) (E:Value→Shared→Prop),Q (.bool (g i j)) s→wpAny (model X.prog X.w) X.A (f (.int i t) (.int j u)) Q E s) :
    OpR X f (rI0 fun i j=>.bl (g i j)):=by
  intro pins s σ H x y v u Q I rx ry h
  obtain ⟨i,j,rfl,rfl,q⟩:=h
  obtain ⟨t,rfl⟩:=rx
  obtain ⟨t',rfl⟩:=ry
  exact rule i j t t' s _ _ ⟨.bl (g i j),H,I,rfl,q⟩
def qoA (i j:Int):Prop:=0≤j∧j≤1000000∧i.natAbs<2 ^ 64
theorem qmG:OpR X (binaryOp .Add) (rI0 fun i j=>.int (i+j)):=qow fun _ _ _ _ _ _ _ q=>add_int q
theorem qmw:OpR X (binaryOp .Sub) (rI0 fun i j=>.int (i - j)):=qow fun _ _ _ _ _ _ _ q=>sub_int q
theorem qlU:OpR X (binaryOp .Mod) (rI (fun _ j=>0<j) fun i j=>.int (i % j)):=opI fun i j _ _ _ _ _ hc q=>by
  have h1:(0:Int)<j:=hc
  exact mod_int' (by omega) (by rw [Int.fmod_eq_emod_of_nonneg i (by omega)];exact q)
theorem qm8:OpR X (binaryOp .Pow) (rI qoA fun i j=>.int (i ^ j.toNat)):=opI fun _ _ _ _ _ _ _ hc q=>pow_int_small hc.1 hc.2.1 hc.2.2 q
theorem unI {f:Value→Sem Value} {g:Int→Int}
    (rule:∀ (i:Int) (t:Tok) (s:Shared) (Q:Value→Shared→Prop) (E:Value→Shared→Prop),Q (.int (g i) s.toks) { s with toks:=s.toks+1 }→wpAny (model X.prog X.w) X.A (f (.int i t)) Q E s) :
    UnR X f (rU fun i=>.int (g i)):=by
  intro pins s σ H x v Q I rx h
  obtain ⟨i,rfl,q⟩:=h
  obtain ⟨t,rfl⟩:=rx
  exact rule i t s _ _ ⟨.int (g i),H,I.tok _,⟨_,rfl⟩,q⟩
theorem qmV:UnR X (unaryOp .USub) (rU fun i=>.int (-i)):=unI fun _ _ _ _ _ q=>neg_int q
end
section
variable {X : Cx} {a b c : Expr} {ta tb tc : TE} {pos : Pos}
theorem qgJ {pins:List (Addr × Obj)} {σ:St} {H:Hp} {s:Shared} {Q:VK} {k k':Bool} (I:Inv X pins σ H s) (q:Q (.bl k) H) (e:k=k'):EP X pins σ Q (.bool k') s:=by
  subst e
  exact ⟨.bl k,H,I,rfl,q⟩
theorem qnH:OpR X (compareOp .Lt) (rI0 fun i j=>.bl (decide (i<j))):=qoD fun _ _ _ _ _ _ _ q=>lt_int q
theorem qnE:OpR X (compareOp .Gt) (rI0 fun i j=>.bl (decide (j<i))):=qoD fun _ _ _ _ _ _ _ q=>gt_int q
theorem qm6:OpR X (compareOp .Is) (fun x y H Q=>y=.non∧Q (.bl (decide (x=.non))) H):=by
  intro pins s σ H x y v u Q I rx ry h
  obtain ⟨rfl,q⟩:=h
  cases ry
  refine is_none_gen (qgJ I q ?_)
  cases x <;> first
    | (cases rx;rfl)
    | (obtain ⟨t,rfl⟩:=rx;rfl)
theorem qkR:OpR X (compareOp .IsNot) (fun x y H Q=>y=.non∧Q (.bl (!decide (x=.non))) H):=by
  intro pins s σ H x y v u Q I rx ry h
  obtain ⟨rfl,q⟩:=h
  cases ry
  refine isnot_none_gen (qgJ I q ?_)
  cases x <;> first
    | (cases rx;rfl)
    | (obtain ⟨t,rfl⟩:=rx;rfl)
theorem qaD (b:Expr) {op:CmpOp} (h:op≠.In:=by decide) (h2:op≠.NotIn:=by decide):behindInMarks op b=false:=by
  have e1:(op == CmpOp.In)=false:=by cases op <;> first | rfl | exact absurd rfl h
  have e2:(op == CmpOp.NotIn)=false:=by cases op <;> first | rfl | exact absurd rfl h2
  cases b <;> simp [behindInMarks,e1,e2]
theorem qkD {op:CmpOp} {r:R2} (ho:OpR X (compareOp op) r) (ha:PE X a ta) (hb:PE X b tb) (hm:behindInMarks op b=false):PE X (.Compare a [op] [b] pos) (tOp r ta tb):=by
  intro pins s σ H Q I h
  exact wpAny_Compare1 (qnJ ha hb I h fun v u s2 x y H2 I2 rx ry q=>ho pins s2 σ H2 x y v u Q I2 rx ry q) hm
def qnh (t:TE):TT:=fun σ H Q=>t σ H fun x H'=>∃ k,x=.bl k∧Q k H'
theorem qlt {op:CmpOp} {r:R2} (ho:OpR X (compareOp op) r) (ha:PE X a ta) (hb:PE X b tb) (hm:behindInMarks op b=false):PT X (.Compare a [op] [b] pos) (qnh (tOp r ta tb)):=by
  intro pins s σ H Q I h
  refine wpAny_isTrue_Compare1 (thn (ha pins s σ H _ I h) fun v s1 ⟨x,H1,I1,r1,q1⟩=>thn (hb pins s1 σ H1 _ I1 q1) fun u s2 ⟨y,H2,I2,r2,q2⟩ =>
    thn (ho pins s2 σ H2 x y v u _ I2 r1 r2 q2) fun c s3 ⟨z,H3,I3,r3,k,e,q3⟩=>?_) hm
  subst e
  cases r3
  exact wpAny_truthy_bool ⟨H3,I3,q3⟩
def qoa (K:PySem.W.Frag) (x:V) (H:Hp) (k:Bool):Prop :=
  match x with
  | .non=>k=false
  | .bl b=>k=b
  | .int i=>k=(i != 0)
  | .str y=>y.length≤sizeLine∧k=((y.length:Int) != 0)
  | .byt y=>y.size≤sizeLine∧k=((y.size:Int) != 0)
  | .ref p=>(∃ xs,SqL K H p xs∧k=!xs.isEmpty)∨(∃ xs,SqT K H p xs∧k=!xs.isEmpty)∨∃ kvs,H p=some (.dK kvs)∧k=!kvs.isEmpty
  | _=>False
theorem qhi {κ:Type} {kvs:List (κ × V)} {vs:List (κ × Value)} (r:KV kvs vs):(!vs.isEmpty)=!kvs.isEmpty:=by
  cases r <;> rfl
theorem qed {xs:List V} {its:List Value} (r:Vals xs its):(!its.toArray.isEmpty)=!xs.isEmpty:=by
  cases r <;> simp
theorem qdC:(sizeLine:Nat)<2 ^ 63:=by rw [sizeLine_eq];decide
theorem qna:qoM X (fun x H Q=>∃ k,qoa X.K x H k∧Q k H):=by
  intro pins s σ H x v Q I rx h
  obtain ⟨k,e,q⟩:=h
  have hl:=qdC
  have hs:sizeLine=16777216:=sizeLine_eq
  cases x with
  | non =>
    cases rx
    have e':k=false:=e
    subst e'
    exact truthy_none ⟨H,I,q⟩
  | bl b =>
    cases rx
    have e':k=b:=e
    subst e'
    exact wpAny_truthy_bool ⟨H,I,q⟩
  | int i =>
    obtain ⟨t,rfl⟩:=rx
    have e':k=(i != 0):=e
    subst e'
    exact PySem.P.truthy_int ⟨H,I,q⟩
  | str y =>
    obtain ⟨t,rfl⟩:=rx
    obtain ⟨hy,e'⟩:y.length≤sizeLine∧k=((y.length:Int) != 0):=e
    subst e'
    exact PySem.P.truthy_str (by omega) ⟨H,I.tok _,q⟩
  | byt y =>
    obtain ⟨t,rfl⟩:=rx
    obtain ⟨hy,e'⟩:y.size≤sizeLine∧k=((y.size:Int) != 0):=e
    subst e'
    exact PySem.W.truthy_bytes (by omega) ⟨H,I.tok _,q⟩
  | ref p =>
    cases rx
    have e':(∃ xs,SqL X.K H p xs∧k=!xs.isEmpty)∨(∃ xs,SqT X.K H p xs∧k=!xs.isEmpty)∨∃ kvs,H p=some (.dK kvs)∧k=!kvs.isEmpty:=e
    rcases e' with ⟨xs,hx,e'⟩ | ⟨xs,hx,e'⟩ | ⟨kvs,hx,e'⟩
    · subst e'
      obtain ⟨its,r,pl,hz⟩:=I.list hx
      have hlen:=r.length
      exact wpAny_truthy_list pl.isList (by simp only [List.size_toArray];omega) ⟨H,I.tok _,by rw [qed r];exact q⟩
    · subst e'
      obtain ⟨its,r,pl,hz⟩:=I.tuple hx
      have hlen:=r.length
      exact truthy_tuple pl (by simp only [List.size_toArray];omega) ⟨H,I.tok _,by rw [qed r];exact q⟩
    · subst e'
      obtain ⟨hz,hS,vs,r,m⟩:kvs.length≤sizeLine∧(p == sysModules)=false∧∃ vs,KV kvs vs∧s.heap.DictOf (qgj X.prog X.w) p vs:=I.hok p _ hx
      have hlen:kvs.length=vs.length:=Paired.length r
      exact wpAny_truthy_dict hS m (by omega) ⟨H,I.tok _,by rw [qhi r];exact q⟩
  | _=>exact (show False from e).elim
theorem qiW (ha:PE X a ta) (he:∀ whole,isTrue a X.env whole=(do let v ← whole;standAt a.pos;holding [v] (truthy v))) :
    PT X a (fun σ H Q=>ta σ H fun x H'=>∃ k,qoa X.K x H' k∧Q k H'):=by
  intro pins s σ H Q I h
  exact isTrue_plain (thn (ha pins s σ H _ I h) fun v s1 hq0=>by obtain ⟨x,H1,I1,r1,q1⟩:=hq0;exact qna pins s1 σ H1 x v Q I1 r1 q1) (he _)
theorem qg2:OpR X (binaryOp .Add) (fun x y H Q=>∃ i j,x=.str i∧y=.str j∧i.length+j.length≤sizeLine∧Q (.str (i++j)) H):=by
  intro pins s σ H x y v u Q I rx ry h
  obtain ⟨i,j,rfl,rfl,hz,q⟩:=h
  obtain ⟨t,rfl⟩:=rx
  obtain ⟨t',rfl⟩:=ry
  exact add_str (fun t' tk=>⟨.str (i++j),H,I.tok _,⟨_,rfl⟩,q⟩) hz
theorem qfe {x:V} {us:List Value} (r:Vals [x] us):∃ u,us=[u]∧RelV x u:=by
  cases r with
  | cons r1 r2=>cases r2;exact ⟨_,rfl,r1⟩
theorem qoj {x y:V} {us:List Value} (r:Vals [x,y] us):∃ u w',us=[u,w']∧RelV x u∧RelV y w':=by
  cases r with
  | cons r1 r2 =>
    cases r2 with
    | cons r3 r4=>cases r4;exact ⟨_,_,rfl,r1,r3⟩
theorem qi1:qcl X (.builtin "abs") (fun xs H Q=>∃ i,xs=[.int i]∧Q (.int (if i<0 then -i else i)) H):=by
  intro pins s σ H xs us Q I r h
  obtain ⟨i,rfl,q⟩:=h
  obtain ⟨u,rfl,t,rfl⟩:=qfe r
  exact call_abs_int fun u tk=>⟨.int (if i<0 then -i else i),H,I.tok _,⟨_,rfl⟩,q⟩
theorem qiC (hc:X.calm=true):qcl X (.builtin "max") (fun xs H Q=>∃ i j,xs=[.int i,.int j]∧Q (.int (if j>i then j else i)) H):=by
  intro pins s σ H xs us Q I r h
  obtain ⟨i,j,rfl,q⟩:=h
  obtain ⟨u,w',rfl,⟨t,rfl⟩,⟨t',rfl⟩⟩:=qoj r
  refine max_two_ints (I.ok.hd hc) fun h' tk k=>⟨_,H,I.kept k,?_,q⟩
  by_cases hj:j>i
  · rw [if_pos hj,if_pos hj];exact ⟨_,rfl⟩
  · rw [if_neg hj,if_neg hj];exact ⟨_,rfl⟩
theorem qe9:qcl X (.type "int") (fun xs H Q=>(∃ i,xs=[.int i]∧Q (.int i) H)∨∃ k,xs=[.bl k]∧Q (.int (if k then 1 else 0)) H):=by
  intro pins s σ H xs us Q I r h
  rcases h with ⟨i,rfl,q⟩ | ⟨k,rfl,q⟩
  · obtain ⟨u,rfl,t,rfl⟩:=qfe r
    exact call_int_int ⟨.int i,H,I,⟨_,rfl⟩,q⟩
  · obtain ⟨u,rfl,r1⟩:=qfe r
    cases r1
    exact call_int_bool ⟨.int (if k then 1 else 0),H,I.tok _,⟨_,rfl⟩,q⟩
end
structure ObjM (h:Heap) (x dx C:Addr) (mA:Str→Option Value):Prop where
  obj:h.get? x=some (PySem.W.instObj C dx)
  ns:h.Ns1 dx mA
  ne:dx≠x
theorem qhT {h:Heap} {dx:Addr} {mA:Str→Option Value} (n:h.Ns1 dx mA):∃ od,h.get? dx=some od∧∀ name,PySem.W.lookIn name od=some (mA name):=by
  obtain ⟨o,es,ep,ho,hd,hk,_,hm⟩:=n
  refine ⟨o,ho,fun name=>?_⟩
  have e:=hm name
  unfold nsFind findBy at e
  rw [← Array.find?_toList] at e
  unfold PySem.W.lookIn
  rw [hd]
  dsimp only
  split
  · rename_i y q
    rw [q] at e
    exact congrArg some e
  · rename_i q
    rw [q] at e
    have a:es.toList.any (·.refKey)=false:=by
      rw [List.any_eq_false]
      intro y hy
      obtain ⟨z,t,hkey⟩:=hk y (Array.mem_toList_iff.mp hy)
      simp [DictEntry.refKey,hkey]
    have a':¬ es.toList.any (·.refKey)=true:=by rw [a];exact Bool.false_ne_true
    rw [if_neg a']
    exact congrArg some e
theorem ObjM.look {h:Heap} {x dx C:Addr} {mA:Str→Option Value} (I:ObjM h x dx C mA):∃ od,PySem.W.InstAt h x (PySem.W.instObj C dx) C (some od)∧∀ name,PySem.W.lookIn name od=some (mA name) :=
  let ⟨od,ho,hl⟩:=qhT I.ns
  ⟨od,⟨I.obj,rfl,rfl,ho⟩,hl⟩
section
variable {prog : Program} {w : World} {A : Around} {E : Value → Shared → Prop} {s : Shared} {K : PySem.W.Frag} {x dx C f : Addr} {mA : Str → Option Value} {name : Str} {v : Value}
theorem qlH {expr:Bool} {Q:Value→Shared→Prop} (X:K.In s.heap) (I:ObjM s.heap x dx C mA) (hg:PySem.W.plainGet K C name=true) (hh:PySem.W.hasDictIn K C=true)
    (ha:PySem.W.findIn K (.ref C) name=some none) (hv:mA name=some v) (hv':PySem.W.handedIn v=true) (h:Q v { s with toks:=s.toks+1 }) :
    wpAny (model prog w) A (getAttr (.ref x) name expr) Q E s:=by
  obtain ⟨od,J,hl⟩:=I.look
  exact PySem.W.get_value X J (PySem.W.plainGet_of hg).1 (PySem.W.findObj_own hh ha rfl (by rw [hl,hv])) hv' h
theorem qlI {ns:List Str} {Q:Unit→Shared→Prop} (X:K.In s.heap) (I:ObjM s.heap x dx C mA)
    (hs:PySem.W.findIn K (.ref C) "__setattr__"=some (some (.builtin "object.__setattr__"))) (hp:PySem.W.plainOver K C=true) (ht:PySem.W.takerIn K C name=some none) (hh:PySem.W.hasDictIn K C=true)
    (hw:PySem.Within mA ns) (hsz:ns.length≤sizeLine)
    (h:∀ h',ObjM h' x dx C (fun y=>if y=name then some v else mA y)→Heap.SameBut dx s.heap h'→Q () { s with heap:=h',toks:=s.toks+2 }) :
    wpAny (model prog w) A (setAttr (.ref x) name v) Q E s:=by
  obtain ⟨od,J,hl⟩:=I.look
  refine PySem.W.set_plain X J hs (PySem.W.osa_open (s:={ s with toks:=s.toks+1 }) (r:=none) X J hp ht fun b=>?_)
  obtain ⟨cd,hc,hd'⟩:=PySem.W.any_some hh
  have hx:s.heap.get? x=some ⟨.ref C,some dx,.plain,#[]⟩:=I.obj
  refine wpAny_bind (wpAny_pure (wpAny_bind (wpAny_bind (wpAny_loadPart hx (wpAny_bind (PySem.W.Looks.here (s:={ s with toks:=s.toks+1 }) (PySem.W.looks_clsIn X hc) ?_))))))
  rw [hd']
  refine wpAny_pure (a:=some dx) (wpAny_bind (wpAny_pure (wpAny_bind ?_)))
  refine wpAny_nsSet1 (s:={ s with toks:=s.toks+1 }) I.ns fun h' hn2 hs2=>?_
  obtain ⟨oD,esD,epD,hoD,hdD,hcD⟩:=hn2.count (PySem.Within.cons name v hw)
  refine wpAny_bind (wpAny_lookBehind hoD (by rw [hdD];exact pastItsLine_dict (Nat.le_trans hcD (by rw [List.length_cons];omega))) ?_)
  exact wpAny_pure (h _ ⟨(hs2.2 _ (Ne.symm I.ne)).trans I.obj,hn2,I.ne⟩ hs2)
theorem qi5 {R:Result→Shared→Prop} {vs:List Value} {kw:List (Str × Value)} (X:K.In s.heap) (hm:PySem.W.makesIn K C=true)
    (hi:PySem.W.findIn K (.ref C) "__init__"=some (some (.ref f))) (hf:PySem.W.typeIn K (.ref f)=some (.type "function"))
    (h:codeAny (model prog w) (A.under (.builtin "type.__call__" ⟨.ref C::vs,kw⟩)) (.call (.ref f) ⟨.ref (s.heap.objs.size+1)::vs,kw⟩) (PySem.W.InitBack (s.heap.objs.size+1) R)
      { s with heap:=(s.heap.push PySem.W.emptyDict).push (PySem.W.instObj C s.heap.objs.size) }) :
    codeAny (model prog w) A (.call (.ref C) ⟨vs,kw⟩) R s:=by
  obtain ⟨hh,g,d,t,os⟩:=s
  exact PySem.W.make_core (PySem.W.makes_of X hm) (PySem.W.looks_findIn X hi) (fun self=>PySem.W.bind_fn X self hf) (.inl rfl) h
end
def qd2 (f:Str) (v:V):List (Str × V)→List (Str × V)
  | []=>[(f,v)]
  | (g,x)::r=>if g=f then (g,v)::r else (g,x)::qd2 f v r
theorem qdk (f g:Str) (v:V):∀ fs:List (Str × V),(qd2 f v fs).lookup g=if g=f then some v else fs.lookup g
  | []=>by
    show List.lookup g [(f,v)]=_
    by_cases h:g=f
    · have hb:(g == f)=true:=beq_iff_eq.mpr h
      simp only [List.lookup,hb,if_pos h]
    · have hb:(g == f)=false:=beq_eq_false_iff_ne.mpr h
      simp only [List.lookup,hb,if_neg h]
  | (k,x)::r=>by
    have ih:=qdk f g v r
    rw [show qd2 f v ((k,x)::r)=(if k=f then (k,v)::r else (k,x)::qd2 f v r) from rfl]
    by_cases hk:k=f
    · rw [if_pos hk]
      by_cases h:g=k
      · have hb:(g == k)=true:=beq_iff_eq.mpr h
        simp only [List.lookup,hb,if_pos (h.trans hk)]
      · have hb:(g == k)=false:=beq_eq_false_iff_ne.mpr h
        simp only [List.lookup,hb,if_neg (fun e:g=f=>h (e.trans hk.symm))]
    · rw [if_neg hk]
      by_cases h:g=k
      · have hb:(g == k)=true:=beq_iff_eq.mpr h
        simp only [List.lookup,hb,if_neg (fun e:g=f=>hk (h.symm.trans e))]
      · have hb:(g == k)=false:=beq_eq_false_iff_ne.mpr h
        simp only [List.lookup,hb]
        exact ih
theorem qdG (f:Str) (v:V):∀ fs:List (Str × V),f∈(qd2 f v fs).map (·.1)∧∀ g,g∈fs.map (·.1)→g∈(qd2 f v fs).map (·.1)
  | []=>⟨by simp [qd2],fun g h=>by simp at h⟩
  | (k,x)::r=>by
    obtain ⟨i1,i2⟩:=qdG f v r
    rw [show qd2 f v ((k,x)::r)=(if k=f then (k,v)::r else (k,x)::qd2 f v r) from rfl]
    by_cases hk:k=f
    · rw [if_pos hk]
      subst hk
      exact ⟨by simp,fun g h=>by simpa using h⟩
    · rw [if_neg hk]
      refine ⟨?_,fun g h=>?_⟩
      · rw [List.map_cons]
        exact List.mem_cons_of_mem _ i1
      · rw [List.map_cons] at h ⊢
        rcases List.mem_cons.mp h with e | e
        · exact List.mem_cons.mpr (.inl e)
        · exact List.mem_cons_of_mem _ (i2 g e)
theorem qds (f:Str) (v:V):∀ fs:List (Str × V),(qd2 f v fs).length≤fs.length+1
  | []=>by simp [qd2]
  | (k,x)::r=>by
    have ih:=qds f v r
    rw [show qd2 f v ((k,x)::r)=(if k=f then (k,v)::r else (k,x)::qd2 f v r) from rfl]
    by_cases hk:k=f
    · rw [if_pos hk,List.length_cons,List.length_cons];omega
    · rw [if_neg hk,List.length_cons,List.length_cons];omega
theorem RelO.some_of {v:V} {o:Option Value} (r:RelO (some v) o):∃ u,o=some u∧RelV v u:=by
  cases o with
  | none=>exact (show False from r).elim
  | some u=>exact ⟨u,rfl,r⟩
theorem qhK {v:V} {u:Value} (r:RelV v u):PySem.W.handedIn u=true:=by
  cases v with
  | non=>cases (show u=Value.none from r);rfl
  | bl b=>cases (show u=Value.bool b from r);rfl
  | int i=>obtain ⟨t,e⟩:=(show ∃ t,u=Value.int i t from r);cases e;rfl
  | str x=>obtain ⟨t,e⟩:=(show ∃ t,u=Value.str x t from r);cases e;rfl
  | byt b=>obtain ⟨t,e⟩:=(show ∃ t,u=Value.bytes b t from r);cases e;rfl
  | flt b=>obtain ⟨t,e⟩:=(show ∃ t,u=Value.float b t from r);cases e;rfl
  | ref a=>cases (show u=Value.ref a from r);rfl
  | ty n=>cases (show u=Value.type n from r);rfl
section
variable {P : Program} {w : World} {H H' : Hp} {h h' : Heap} {a C dx : Addr} {fs fs' : List (Str × V)}
theorem qhp (hok:HOk P w H h) (e:H a=some (.ins C dx fs)):∃ mA,ObjM h a dx C mA∧(∀ f,RelO (fs.lookup f) (mA f))∧PySem.Within mA (fs.map (·.1))∧fs.length≤1000∧H dx=some (.own a):=by
  obtain ⟨d,z,ne,ob,mA,n,r,q⟩:=(show ObjOk P w H h a (.ins C dx fs) from hok a _ e)
  exact ⟨mA,⟨ob,n,ne⟩,r,q,z,d⟩
end
structure Cls (K:PySem.W.Frag) (C:Addr):Prop where
  pg:PySem.W.plainGet K C Str.empty=true
  hd:PySem.W.hasDictIn K C=true
  po:PySem.W.plainOver K C=true
  sa:PySem.W.findIn K (.ref C) "__setattr__"=some (some (.builtin "object.__setattr__"))
theorem Cls.get {K:PySem.W.Frag} {C:Addr} (c:Cls K C) (f:Str):PySem.W.plainGet K C f=true:=c.pg
def NoAttr (K:PySem.W.Frag) (C:Addr) (f:Str):Prop:=PySem.W.findIn K (.ref C) f=some none
theorem NoAttr.taker {K:PySem.W.Frag} {C:Addr} {f:Str} (n:NoAttr K C f):PySem.W.takerIn K C f=some none:=by
  unfold PySem.W.takerIn
  rw [show PySem.W.findIn K (.ref C) f=some none from n]
  rfl
section
variable {X : Cx} {pins : List (Addr × Obj)} {σ : St} {H : Hp} {s : Shared} {a C dx : Addr} {fs : List (Str × V)} {f : Str} {v : V} {A : Around} {E : Value → Shared → Prop}
theorem qhd {b:Bool} {Q:Value→Shared→Prop} (I:Inv X pins σ H s) (e:H a=some (.ins C dx fs)) (c:Cls X.K C) (n:NoAttr X.K C f) (l:fs.lookup f=some v)
    (h:∀ u s',Inv X pins σ H s'→RelV v u→Q u s'):wpAny (model X.prog X.w) A (getAttr (.ref a) f b) Q E s:=by
  obtain ⟨mA,O,r,_,_,_⟩:=qhp I.hok e
  obtain ⟨u,hu,ru⟩:=RelO.some_of (v:=v) (o:=mA f) (by rw [← l];exact r f)
  exact qlH I.kIn O (c.get f) c.hd n hu (qhK ru) (h u _ (I.tok _) ru)
theorem qg1 {y:V} {u:Value} {Q:Unit→Shared→Prop} (I:Inv X pins σ H s) (e:H a=some (.ins C dx fs)) (c:Cls X.K C) (n:NoAttr X.K C f) (hl:fs.length<1000) (ry:RelV y u)
    (h:∀ s',Inv X pins σ (upd H a (.ins C dx (qd2 f y fs))) s'→Q () s'):wpAny (model X.prog X.w) A (setAttr (.ref a) f u) Q E s:=by
  obtain ⟨mA,O,r,wi,_,ho⟩:=qhp I.hok e
  have hz:(fs.map (·.1)).length≤sizeLine:=by rw [List.length_map,sizeLine_eq];omega
  refine qlI I.kIn O c.sa c.po n.taker c.hd wi hz fun h' O' sb=>h _ ?_
  have hd:∃ o,h'.get? dx=some o:=let ⟨o,_,_,e',_⟩:=O'.ns;⟨o,e'⟩
  refine I.write (x:=a) (e:=dx) (by rw [e];exact True.intro) (.inr ho) (fun b q hb z=>(sb.2 b hb).trans z) hd ?_
  refine ⟨by rw [qau O.ne];exact ho,?_,O.ne,O'.obj,_,O'.ns,fun g=>?_,fun g hg=>?_⟩
  · have:=qds f y fs;omega
  · show RelO ((qd2 f y fs).lookup g) (if g=f then some u else mA g)
    rw [qdk]
    by_cases q:g=f
    · rw [if_pos q,if_pos q];exact ry
    · rw [if_neg q,if_neg q];exact r g
  · by_cases q:g=f
    · rw [q];exact (qdG f y fs).1
    · refine (qdG f y fs).2 g (wi g fun z=>hg ?_)
      show (if g=f then some u else mA g)=none
      rw [if_neg q];exact z
theorem Inv.made (I:Inv X pins σ H s):Inv X pins σ (upd (upd H s.heap.objs.size (.own (s.heap.objs.size+1))) (s.heap.objs.size+1) (.ins C s.heap.objs.size []))
    { s with heap:=(s.heap.push PySem.W.emptyDict).push (PySem.W.instObj C s.heap.objs.size) }:=by
  have e1:(s.heap.push PySem.W.emptyDict).get? s.heap.objs.size=some PySem.W.emptyDict:=Heap.get?_push_size s.heap rfl
  have e2:((s.heap.push PySem.W.emptyDict).push (PySem.W.instObj C s.heap.objs.size)).get? (s.heap.objs.size+1)=some (PySem.W.instObj C s.heap.objs.size):=by
    have:=Heap.get?_push_size (s.heap.push PySem.W.emptyDict) (o:=PySem.W.instObj C s.heap.objs.size) rfl
    rwa [Heap.size_push] at this
  have e3:(s.heap.push PySem.W.emptyDict).Ns s.heap.objs.size (fun _=>none):=⟨PySem.W.emptyDict,#[],_,e1,rfl,(fun e he=>absurd he (by simp)),fun _=>rfl⟩
  have I1:=I.laid (a:=s.heap.objs.size) (o:=.own (s.heap.objs.size+1)) (h':=s.heap.push PySem.W.emptyDict) (t':=s.toks) (fun b u q=>Heap.get?_push_of_some _ q) (Nat.le_refl _) ⟨_,e1⟩
  refine I1.laid (a:=s.heap.objs.size+1) (o:=.ins C s.heap.objs.size []) (t':=s.toks) (fun b u q=>Heap.get?_push_of_some _ q) (Nat.le_of_eq (Heap.size_push _ _)) ?_
  have ne:s.heap.objs.size≠s.heap.objs.size+1:=Nat.ne_of_lt (Nat.lt_succ_self _)
  refine ⟨by rw [qau ne,qan],Nat.zero_le _,ne,e2,fun _=>none,(Heap.Ns1.of_empty e3).at fun o q=>Heap.get?_push_of_some _ q,fun _=>True.intro,fun y hy=>absurd rfl hy⟩
theorem qk5 {prog:Program} {w:World} {env:Env} {e:Expr} {f:Str} {pos:Pos} {s:Shared} {Q:Value→Shared→Prop} (hb:attributeBase e f env (eval e env)=eval e env)
    (h:wpAny (model prog w) A (eval e env) (fun o s₁=>wpAny (model prog w) A (getAttr o f true) Q E s₁) E s):wpAny (model prog w) A (eval (.Attribute e f pos) env) Q E s :=
  Attribute_any_ h (by rw [arm_eval_Attribute,hb])
end
def qop (K:PySem.W.Frag) (ta:TE) (f:Str):TE:=fun σ H Q=>ta σ H fun x H1=>∃ a C dx fs v,x=.ref a∧H1 a=some (.ins C dx fs)∧Cls K C∧NoAttr K C f∧fs.lookup f=some v∧Q v H1
def qpf (K:PySem.W.Frag) (ta tv:TE) (f:Str):TS:=fun D σ H=>tv σ H fun y H1=>ta σ H1 fun x H2=>∃ a C dx fs,x=.ref a∧H2 a=some (.ins C dx fs)∧Cls K C∧NoAttr K C f∧fs.length<1000 ∧
  D.nx σ (upd H2 a (.ins C dx (qd2 f y fs)))
section
variable {X : Cx} {o e value : Expr} {f : Str} {pos pos' tpos : Pos} {ta tv : TE}
theorem qms (he:PE X e ta) (hb:attributeBase e f X.env (eval e X.env)=eval e X.env):PE X (.Attribute e f pos) (qop X.K ta f):=by
  intro pins s σ H Q I h
  refine qk5 hb (thn (he pins s σ H _ I h) fun u s1 hq0=>?_)
  obtain ⟨x,H1,I1,rx,a,C,dx,fs,v,ex,ea,c,n,l,q⟩:=hq0
  subst ex
  obtain rfl:u=Value.ref a:=rx
  exact qhd I1 ea c n l fun u' s2 I2 ru=>⟨v,H1,I2,ru,q⟩
theorem qgD (ha:PE X o ta) (hv:PE X value tv) (hs:swapsWith value (some (.Attribute o f pos')) pos.line X.env=pure false):PS X (.Assign [.Attribute o f pos'] value pos) (qpf X.K ta tv f):=by
  intro pins s σ H D I h
  refine plainObj_wpAny_Assign_Attribute (thn (hv pins s σ H _ I h) fun u s1 ⟨y,H1,I1,ry,q⟩=>thn (ha pins s1 σ H1 _ I1 q) fun ov s2 ⟨x,H2,I2,rx,a,C,dx,fs,ex,ea,c,n,l,q2⟩=>?_) hs
  subst ex
  obtain rfl:ov=Value.ref a:=rx
  exact qg1 I2 ea c n l ry fun s3 I3=>⟨σ,_,I3,q2⟩
end
section
variable {X : Cx} {pins : List (Addr × Obj)} {σ : St} {H : Hp} {s : Shared} {A : Around} {E : Value → Shared → Prop} {Q : Value → Shared → Prop} {c : Value} {b : Bool}
inductive TyOf (K:PySem.W.Frag) (H:Hp):V→Value→Prop where
  | non:TyOf K H .non (.type "NoneType")
  | bl (x:Bool):TyOf K H (.bl x) (.type "bool")
  | int (i:Int):TyOf K H (.int i) (.type "int")
  | str (x:Str):TyOf K H (.str x) (.type "str")
  | flt (x:UInt64):TyOf K H (.flt x) (.type "float")
  | lst {a:Addr} {xs:List V} (e:H a=some (.lst xs)):TyOf K H (.ref a) (.type "list")
  | frz {a:Addr} {o:Obj} {xs:List V} (e:H a=some (.frz o (.lst xs))):TyOf K H (.ref a) (.type "list")
  | tup {a:Addr} {xs:List V} (e:H a=some (.tup xs)):TyOf K H (.ref a) (.type "tuple")
  | dK {a:Addr} {kvs:List (Key × V)} (e:H a=some (.dK kvs)):TyOf K H (.ref a) (.type "dict")
  | dT {a:Addr} {kvs:List (List Key × V)} (e:H a=some (.dT kvs)):TyOf K H (.ref a) (.type "dict")
  | ins {a C dx:Addr} {fs:List (Str × V)} (e:H a=some (.ins C dx fs)) (cl:Cls K C) (ha:PySem.W.findIn K (.ref C) "__class__"=some (some (.builtin "object.__class__")))
      (hn:PySem.W.specialIn K (.builtin "object.__class__") "__get__"=some (some (.builtin "getset_descriptor.__get__"))) (htk:PySem.W.takesIn K (.builtin "object.__class__")=some true)
      (hm:PySem.W.mroIn K C (.type "object")=some true):TyOf K H (.ref a) (.ref C)
end
structure Room (k:Nat) (A:Around):Prop where
  hd:A.handled=none
  dp:A.depth+3*k+5<recursionLimit
  un:A.units+16*k+200<cLine
theorem Room.mono {j k:Nat} {A:Around} (r:Room k A) (h:j≤k):Room j A:=⟨r.hd,by have:=r.dp;omega,by have:=r.un;omega⟩
theorem Room.deeper {k:Nat} {A:Around} (r:Room (k+1) A) (env:Env):Room k (A.deeper env) :=
  ⟨r.hd,by have:=r.dp;show A.depth+1+3*k+5<_;omega,by have:=r.un;show A.units+3+16*k+200<_;omega⟩
theorem qhb {A:Around} {C:Addr} {us:List Value} {kw:List (Str × Value)}:(A.under (.builtin "type.__call__" ⟨.ref C::us,kw⟩)).depth=A.depth+1:=by
  first | rfl | simp [Around.under,Code.weight,Code.isCreation,Code.isGuard,Code.isCaller,Code.frames,Code.isFrame,guardIds]
theorem qg7 {A:Around} {C:Addr} {us:List Value} {kw:List (Str × Value)}:(A.under (.builtin "type.__call__" ⟨.ref C::us,kw⟩)).units=A.units+1:=by
  first | rfl | simp [Around.under,Code.cUnits,Code.frames,Code.isFrame]
theorem Room.make {k:Nat} {A:Around} (r:Room (k+1) A) (C:Addr) (us:List Value) (kw:List (Str × Value)):Room k (A.under (.builtin "type.__call__" ⟨.ref C::us,kw⟩)) :=
  ⟨r.hd,by have:=r.dp;rw [qhb];omega,by have:=r.un;rw [qg7];omega⟩
theorem Room.depth {k:Nat} {A:Around} (r:Room k A):A.depth<recursionLimit:=by have:=r.dp;omega
theorem Room.units {k:Nat} {A:Around} (r:Room k A):A.units+64<cLine:=by have:=r.un;omega
def qo7:TA:=fun _ H Q=>Q [] H
def qnX (ta:TE) (tr:TA):TA:=fun σ H Q=>ta σ H fun x H1=>tr σ H1 fun xs H2=>Q (x::xs) H2
section
variable {X : Cx} {e : Expr} {es : List Expr} {te : TE} {t : TA} {pos : Pos}
theorem pa_nil:PA X [] qo7:=fun _ _ _ _ H Q I h=>Calls.spliced_nil ⟨[],H,I,.nil,h⟩
theorem qb5 (ha:PE X e te) (hr:PA X es t) (hs:starEach (e::es) X.env=(false,eval e X.env)::starEach es X.env:=by rfl):PA X (e::es) (qnX te t):=by
  intro pos pins s σ H Q I h
  rw [hs]
  show wpAny _ _ (spliced ((false,eval e X.env)::backTo pos (starEach es X.env))) _ _ s
  refine Calls.spliced_cons (thn (ha pins s σ H _ I h) fun u s1 hq0=>?_)
  obtain ⟨x,H1,I1,r1,q1⟩:=hq0
  exact thn (hr pos pins s1 σ H1 _ I1 q1) fun us s2 hq1=>by obtain ⟨xs,H2,I2,r2,q2⟩:=hq1;exact ⟨x::xs,H2,I2,.cons r1 r2,q2⟩
def qpq (t:TA):TE:=fun σ H Q=>t σ H fun xs H1=>xs.length≤sizeLine∧∀ p,H1 p=none→Q (.ref p) (upd H1 p (.tup xs))
def qoL (t:TA):TE:=fun σ H Q=>t σ H fun xs H1=>xs.length≤sizeLine∧∀ p,H1 p=none→Q (.ref p) (upd H1 p (.lst xs))
theorem qnc {x1} (h:PA X es t):PE X (.Tuple es x1 pos) (qpq t):=by
  intro pins s σ H Q I hq
  refine wpAny_Tuple_spliced (thn (h pos pins s σ H _ I hq) fun us s1 ⟨xs,H1,I1,r,z,q⟩=>⟨by rw [← r.length];exact z,?_⟩)
  have hf:H1 s1.heap.objs.size=none:=I1.hok.fresh (Nat.le_refl _)
  refine ⟨.ref s1.heap.objs.size,upd H1 s1.heap.objs.size (.tup xs),I1.laid (t':=s1.toks) (fun b u e=>Heap.get?_push_of_some _ e) (Nat.le_refl _) ?_,rfl,q _ hf⟩
  exact ⟨z,us,r,⟨_,Heap.get?_push_size _ rfl,rfl,_,rfl⟩⟩
theorem qm0 (h:PA X es t):PE X (.List es pos) (qoL t):=by
  intro pins s σ H Q I hq
  refine wpAny_List_spliced (thn (h pos pins s σ H _ I hq) fun us s1 ⟨xs,H1,I1,r,z,q⟩=>⟨by rw [← r.length];exact z,?_⟩)
  have hf:H1 s1.heap.objs.size=none:=I1.hok.fresh (Nat.le_refl _)
  refine ⟨.ref s1.heap.objs.size,upd H1 s1.heap.objs.size (.lst xs),I1.laid (t':=s1.toks) (fun b u e=>Heap.get?_push_of_some _ e) (Nat.le_refl _) ?_,rfl,q _ hf⟩
  exact ⟨z,us,0,r,Heap.get?_push_size _ rfl⟩
end
abbrev Sp:=List V→Hp→VK→XK→Prop
abbrev CXT:=List Env→Hp→Shared→XK→Value→Shared→Prop
structure Env0 (P:Program) (w:World) (K:PySem.W.Frag) (mg:Str→Option Value) (base:Heap) (A:Around) (outer:List Env) (s:Shared) (H:Hp):Prop where
  frames:A.frames=some outer
  mod:Mod K mg base
  bs:∀ b o,base.get? b=some o→s.heap.get? b=some o∧H b=none
  bsz:base.objs.size≤s.heap.objs.size
  funs:s.heap.FunFrames base outer
  frf:∀ b∈frs outer,H b=none
  hok:HOk P w H s.heap
  bare:AllBare s.gens
def CE (outer:List Env) (P:Program) (w:World) (H:Hp) (s:Shared) (Q:VK) (u:Value) (s':Shared):Prop :=
  ∃ v H',s'.os=s.os∧AllBare s'.gens∧Un (frs outer) [] H H' s.heap s'.heap∧HOk P w H' s'.heap∧RelV v u∧Q v H'
def CR (CX:CXT) (outer:List Env) (P:Program) (w:World) (H:Hp) (s:Shared) (Q:VK) (E:XK) (r:Result) (s':Shared):Prop :=
  match r with
  | .ok (.ret u)=>CE outer P w H s Q u s'
  | .ok _=>False
  | .error e=>CX outer H s E e s'
structure FnOk (P:Program) (w:World) (K:PySem.W.Frag) (mg:Str→Option Value) (base:Heap) (CX:CXT) (k:Nat) (f:Addr) (fd:FuncData) (ps:List Str) (sp:Sp):Prop where
  len:∀ vs H Q E,sp vs H Q E→vs.length=ps.length
  run:∀ (A:Around) (outer:List Env) (s:Shared) (H:Hp) (args:Args) (us:List Value) (vs:List V) (Q:VK) (E:XK),Room k A→Env0 P w K mg base A outer s H→BindsTo s fd args (ps.zip us)→Vals vs us→sp vs H Q E →
    codeAny (model P w) A (.call (.ref f) args) (CR CX outer P w H s Q E) s
theorem FnOk.mono {P:Program} {w:World} {K:PySem.W.Frag} {mg:Str→Option Value} {base:Heap} {CX:CXT} {j k:Nat} {f:Addr} {fd:FuncData} {ps:List Str} {sp:Sp} (F:FnOk P w K mg base CX j f fd ps sp) (h:j≤k) :
    FnOk P w K mg base CX k f fd ps sp:=⟨F.len,fun A outer s H args us vs Q E hr=>F.run A outer s H args us vs Q E (hr.mono h)⟩
theorem FnOk.imp {P:Program} {w:World} {K:PySem.W.Frag} {mg:Str→Option Value} {base:Heap} {CX:CXT} {k:Nat} {f:Addr} {fd:FuncData} {ps:List Str} {sp sp':Sp} (F:FnOk P w K mg base CX k f fd ps sp)
    (h:∀ vs H Q E,sp' vs H Q E→sp vs H Q E):FnOk P w K mg base CX k f fd ps sp' :=
  ⟨fun vs H Q E q=>F.len vs H Q E (h _ _ _ _ q),fun A outer s H args us vs Q E hr he hb hv hs=>F.run A outer s H args us vs Q E hr he hb hv (h _ _ _ _ hs)⟩
theorem Env0.make {P:Program} {w:World} {K:PySem.W.Frag} {mg:Str→Option Value} {base:Heap} {A:Around} {outer:List Env} {s:Shared} {H:Hp} (e:Env0 P w K mg base A outer s H) (C:Addr) (us:List Value) (kw:List (Str × Value)) :
    Env0 P w K mg base (A.under (.builtin "type.__call__" ⟨.ref C::us,kw⟩)) outer s H:=⟨by first | exact e.frames | (simpa [Around.under,Code.envs,Code.isFrame,pushEnvs] using e.frames),e.mod,e.bs,e.bsz,e.funs,e.frf,e.hok,e.bare⟩
section
variable {X : Cx} {pins : List (Addr × Obj)} {σ : St} {H : Hp} {s s' : Shared}
theorem Inv.env0 (I:Inv X pins σ H s):Env0 X.prog X.w X.K X.mg X.base X.A X.stack s H :=
  ⟨I.ok.frames,I.ok.mod,I.bs,Nat.le_trans I.ok.bsz I.sz,I.stack,I.stkFree,I.hok,I.bare⟩
theorem Inv.after {Q:VK} {u:Value} (I:Inv X pins σ H s) (h:CE X.stack X.prog X.w H s Q u s'):EP X pins σ Q u s':=by
  obtain ⟨v,H',os,bare,un,hok,r,q⟩:=h
  obtain ⟨hh,g,d,t,os'⟩:=s'
  obtain rfl:os'=s.os:=os
  exact ⟨v,H',I.call (h':=hh) (g':=g) (d':=d) (t':=t) (ch:=[]) un hok bare (fun b z=>absurd z (by simp)),r,q⟩
end
def qn9 (sp:Sp) (dvs:List V) (E:XK) (t:TA):TE:=fun σ H Q=>t σ H fun vs H1=>sp (vs++dvs) H1 Q E
def qnN (C:Addr) (sp:Sp) (dvs:List V) (E:XK) (t:TA):TE:=fun σ H Q=>t σ H fun vs H1=>∀ x dx,H1 x=none→H1 dx=none→dx≠x →
  sp (.ref x::(vs++dvs)) (upd (upd H1 dx (.own x)) x (.ins C dx [])) (fun v H2=>v=.non∧Q (.ref x) H2) E
def Binds (K:PySem.W.Frag) (fd:FuncData) (ps:List Str) (ds:List Value):Prop :=
  ∀ (s:Shared) (us:List Value),K.In s.heap→(us++ds).length=ps.length→BindsTo s fd ⟨us,[]⟩ (ps.zip (us++ds))
theorem Binds.all {K:PySem.W.Frag} {fd:FuncData} {ps:List Str} (h:∀ us:List Value,us.length=ps.length→bindArgs fd ⟨us,[]⟩=pure (ps.zip us)):Binds K fd ps []:=fun s us _ hl=>by
  rw [List.append_nil] at hl ⊢
  exact .of_eq (h us hl)
def qdu (CX:CXT) (X:Cx) (E:XK):Prop:=∀ (pins:List (Addr × Obj)) (σ:St) (H:Hp) (s:Shared) (e:Value) (s':Shared),Inv X pins σ H s→CX X.stack H s E e s'→X.xe e s'
section
variable {X : Cx} {CX : CXT} {k : Nat} {f C : Addr} {fd : FuncData} {ps : List Str} {sp : Sp} {dvs : List V} {ds : List Value} {E : XK} {x m : Str} {p pos apos : Pos} {e o : Expr} {es : List Expr} {ta : TE} {t : TA}
theorem ql2 {pins:List (Addr × Obj)} {σ:St} {H:Hp} {s:Shared} {Q:VK} {us:List Value} {vs:List V} (F:FnOk X.prog X.w X.K X.mg X.base CX k f fd ps sp) (hr:Room k X.A) (hb:Binds X.K fd ps ds) (hd:Vals dvs ds) (hx:qdu CX X E)
    (I:Inv X pins σ H s) (r:Vals vs us) (h:sp (vs++dvs) H Q E):wpAny (model X.prog X.w) X.A (call (.ref f) us) (EP X pins σ Q) X.xe s:=by
  have r2:Vals (vs++dvs) (us++ds):=r.append hd
  have hl:(us++ds).length=ps.length:=by rw [← r2.length];exact F.len _ _ _ _ h
  refine wpAny_call (codeAny_mono (F.run X.A X.stack s H ⟨us,[]⟩ (us++ds) (vs++dvs) Q E hr I.env0 (hb s us I.kIn hl) r2 h) fun r s' hq=>?_)
  cases r with
  | error e=>exact hx pins σ H s e s' I hq
  | ok fl =>
    cases fl with
    | ret u=>exact I.after hq
    | next=>exact False.elim hq
    | brk=>exact False.elim hq
    | cont=>exact False.elim hq
theorem qlC (F:FnOk X.prog X.w X.K X.mg X.base CX k f fd ps sp) (hr:Room k X.A) (hg:Gl X x) (hm:X.mg x=some (.ref f)) (hk:PySem.W.keepIn X.K (.ref f)=true) (hb:Binds X.K fd ps ds) (hd:Vals dvs ds) (hx:qdu CX X E)
    (ha:PA X (e::es) t) (hdb:(x == ("__debug__":Str))=false:=by decide) (he:starEach (e::es) X.env=(false,eval e X.env)::starEach es X.env:=by rfl) (hpl:(backTo pos (starEach es X.env)).any (·.1)=false:=by rfl) :
    PE X (.Call (.Name x p) (e::es) [] pos) (qn9 sp dvs E t):=by
  intro pins s σ H Q I h
  refine wpAny_Call_Name_kw (qh3 I hg hm ?_ hdb)
  refine PySem.W.callWith_K (h₀:=X.base) I.ok.mod.kin hk (thn (ha pos pins s σ H _ I h) fun us s1 ⟨vs,H1,I1,r,q⟩=>⟨I1.kIn,?_⟩) he hpl
  exact ql2 F hr hb hd hx I1 r q
structure Mk (K:PySem.W.Frag) (C f:Addr):Prop where
  makes:PySem.W.makesIn K C=true
  init:PySem.W.findIn K (.ref C) "__init__"=some (some (.ref f))
  fn:PySem.W.isFn K (.ref f)=true
  kp:PySem.W.keepIn K (.ref C)=true
theorem qjL {pins:List (Addr × Obj)} {σ:St} {H:Hp} {s:Shared} {Q:VK} {us:List Value} {vs:List V} (M:Mk X.K C f) (F:FnOk X.prog X.w X.K X.mg X.base CX k f fd ps sp) (hr:Room (k+1) X.A) (hb:Binds X.K fd ps ds) (hd:Vals dvs ds)
    (hx:qdu CX X E) (I:Inv X pins σ H s) (r:Vals vs us)
    (h:∀ x dx,H x=none→H dx=none→dx≠x→sp (.ref x::(vs++dvs)) (upd (upd H dx (.own x)) x (.ins C dx [])) (fun v H2=>v=.non∧Q (.ref x) H2) E) :
    wpAny (model X.prog X.w) X.A (call (.ref C) us) (EP X pins σ Q) X.xe s:=by
  have hq:=h (s.heap.objs.size+1) s.heap.objs.size (I.hok.fresh (Nat.le_succ _)) (I.hok.fresh (Nat.le_refl _)) (Nat.ne_of_lt (Nat.lt_succ_self _))
  have I2:=Inv.made (C:=C) I
  have r2:Vals (V.ref (s.heap.objs.size+1)::(vs++dvs)) (Value.ref (s.heap.objs.size+1)::(us++ds)):=.cons rfl (r.append hd)
  have hl:(Value.ref (s.heap.objs.size+1)::us++ds).length=ps.length:=by
    have e:=r2.length
    rw [F.len _ _ _ _ hq] at e
    exact e.symm
  refine wpAny_call (qi5 (f:=f) I.kIn M.makes M.init (beq_iff_eq.mp M.fn) (codeAny_mono (F.run _ X.stack _ _ ⟨Value.ref (s.heap.objs.size+1)::us,[]⟩ (Value.ref (s.heap.objs.size+1)::(us++ds)) _ _ E (hr.make C us [])
    (I2.env0.make C us []) (hb _ (Value.ref (s.heap.objs.size+1)::us) I2.kIn hl) r2 hq) fun r s' hq'=>?_))
  cases r with
  | error e=>exact hx pins σ _ _ e s' I2 hq'
  | ok fl =>
    cases fl with
    | ret u =>
      obtain ⟨v,H',I3,rv,ev,q3⟩:=I2.after hq'
      subst ev
      exact ⟨rv,⟨V.ref (s.heap.objs.size+1),H',I3,rfl,q3⟩⟩
    | next=>exact False.elim hq'
    | brk=>exact False.elim hq'
    | cont=>exact False.elim hq'
theorem qlx (M:Mk X.K C f) (F:FnOk X.prog X.w X.K X.mg X.base CX k f fd ps sp) (hr:Room (k+1) X.A) (hg:Gl X x) (hm:X.mg x=some (.ref C)) (hb:Binds X.K fd ps ds) (hd:Vals dvs ds) (hx:qdu CX X E)
    (ha:PA X (e::es) t) (hdb:(x == ("__debug__":Str))=false:=by decide) (he:starEach (e::es) X.env=(false,eval e X.env)::starEach es X.env:=by rfl) (hpl:(backTo pos (starEach es X.env)).any (·.1)=false:=by rfl) :
    PE X (.Call (.Name x p) (e::es) [] pos) (qnN C sp dvs E t):=by
  intro pins s σ H Q I h
  refine wpAny_Call_Name_kw (qh3 I hg hm ?_ hdb)
  refine PySem.W.callWith_K (h₀:=X.base) I.ok.mod.kin M.kp (thn (ha pos pins s σ H _ I h) fun us s1 ⟨vs,H1,I1,r,q⟩=>⟨I1.kIn,?_⟩) he hpl
  exact qjL M F hr hb hd hx I1 r q
end
section
variable {X : Cx} {CX : CXT} {k : Nat} {f C : Addr} {fd : FuncData} {ps ks : List Str} {sp : Sp} {E : XK} {x m : Str} {p pos apos kpos : Pos} {e o : Expr} {es : List Expr} {kws : List Keyword} {te ta : TE} {t tk : TA} {nm : Option Str}
variable {g : List Value → List Value → List Value} {gV : List V → List V → List V}
end
structure FnScope (N P:List Str) (sc:Scope):Prop where
  kind:sc.kind=.function
  co:sc.isCoroutine=false
  gen:sc.isGenerator=false
  nd:N.Nodup
  pre:N.take P.length=P
  par:∀ x∈P,sc.names.lookup x=some .local∨sc.names.lookup x=some .cell
  nofree:∀ y∈sc.names,y.2≠.free
theorem qfk {kindOf:Str→Option NameKind} {x:Str}:∀ {binds:List (Str × Value)} {m:Str→Option Value},(∀ v,(x,v)∉binds)→bindL kindOf binds m x=m x
  | [],_,_=>rfl
  | (n,v)::r,m,h=>by
    unfold bindL
    rw [qfk fun w hw=>h w (List.mem_cons_of_mem _ hw)]
    split
    · have:x≠n:=by rintro rfl;exact h v List.mem_cons_self
      simp [this]
    · rfl
theorem qfu {kindOf:Str→Option NameKind} {x:Str}:∀ {binds:List (Str × Value)} {m:Str→Option Value},(∀ v,(x,v)∉binds)→bindC kindOf binds m x=m x
  | [],_,_=>rfl
  | (n,v)::r,m,h=>by
    unfold bindC
    rw [qfu fun w hw=>h w (List.mem_cons_of_mem _ hw)]
    split
    · rfl
    · have:x≠n:=by rintro rfl;exact h v List.mem_cons_self
      simp [this]
theorem qfC {kindOf:Str→Option NameKind} {x:Str} {v:Value}:∀ {P:List Str} {vs:List Value} {i:Nat} {m:Str→Option Value},P.Nodup→P[i]?=some x→vs[i]?=some v→kindOf x=some .local →
    bindL kindOf (P.zip vs) m x=some v
  | [],_,_,_,_,h,_,_=>by simp at h
  | _::_,[],_,_,_,_,h,_=>by simp at h
  | p::P,w::vs,0,m,nd,h1,h2,hk=>by
    simp at h1 h2;subst h1;subst h2
    show bindL kindOf ((p,w)::P.zip vs) m p=_
    unfold bindL
    rw [qfk fun v hv=>(List.nodup_cons.mp nd).1 (List.of_mem_zip hv).1,if_pos hk]
    simp
  | p::P,w::vs,i+1,m,nd,h1,h2,hk=>by
    show bindL kindOf ((p,w)::P.zip vs) m x=_
    unfold bindL
    exact qfC (i:=i) (List.nodup_cons.mp nd).2 (by simpa using h1) (by simpa using h2) hk
theorem qft {kindOf:Str→Option NameKind} {x:Str} {v:Value}:∀ {P:List Str} {vs:List Value} {i:Nat} {m:Str→Option Value},P.Nodup→P[i]?=some x→vs[i]?=some v→kindOf x≠some .local →
    bindC kindOf (P.zip vs) m x=some v
  | [],_,_,_,_,h,_,_=>by simp at h
  | _::_,[],_,_,_,_,h,_=>by simp at h
  | p::P,w::vs,0,m,nd,h1,h2,hk=>by
    simp at h1 h2;subst h1;subst h2
    show bindC kindOf ((p,w)::P.zip vs) m p=_
    unfold bindC
    rw [qfu fun v hv=>(List.nodup_cons.mp nd).1 (List.of_mem_zip hv).1,if_neg hk]
    simp
  | p::P,w::vs,i+1,m,nd,h1,h2,hk=>by
    show bindC kindOf ((p,w)::P.zip vs) m x=_
    unfold bindC
    exact qft (i:=i) (List.nodup_cons.mp nd).2 (by simpa using h1) (by simpa using h2) hk
def start (N:List Str) (vs:List V):St:=vs.map some++List.replicate (N.length - vs.length) none
def qjb (CX:CXT) (P:Program) (w:World) (K:PySem.W.Frag) (mg:Str→Option Value) (base:Heap) (N:List Str) (qual:Str) (scope:Scope) (f:Addr) (cd:Value) (A:Around) (outer:List Env) (s:Shared) (H:Hp) (E:XK):Cx where
  prog:=P
  w:=w
  K:=K
  mg:=mg
  base:=base
  A:=A.deeper (envOfC qual scope s.heap.objs.size f cd)
  N:=N
  s₀:=s
  H₀:=H
  env:=envOfC qual scope s.heap.objs.size f cd
  outer:=outer
  stack:=envOfC qual scope s.heap.objs.size f cd::outer
  ex:=[]
  calm:=true
  fn:=fun _=>true
  pn:=[]
  xe:=fun e s'=>wpAny (model P w) (A.deeper (envOfC qual scope s.heap.objs.size f cd)) (leaving (envOfC qual scope s.heap.objs.size f cd) e) (fun _ s''=>CX outer H s E e s'') (fun e' s''=>CX outer H s E e' s'') s'
theorem qeH {sc:Scope} {n:Nat} {x:Str} (h:sc.names.lookup x=some .cell):∃ c,(cellsFrom n sc.names []).lookup x=some c:=by
  have q:=PySem.W.cellsFrom_some sc.names n [] (.inl h)
  exact Option.isSome_iff_exists.mp q
theorem qhM {CX:CXT} {P:Program} {w:World} {K:PySem.W.Frag} {mg:Str→Option Value} {base:Heap} {N ps:List Str} {qual:Str} {scope:Scope} {f:Addr} {cd:Value} {A:Around} {outer:List Env} {s s1:Shared} {H:Hp} {E:XK} {us:List Value} {vs:List V}
    (S:FnScope N ps scope) (hd:A.handled=none) (e0:Env0 P w K mg base A outer s H) (hl:vs.length=ps.length) (r:Vals vs us)
    (x:InCallC s s.heap.objs.size (bindL (envOfC qual scope s.heap.objs.size f cd).kindOf (ps.zip us) fun _=>none) (cellsFrom (s.heap.objs.size+1) scope.names []) (bindC (envOfC qual scope s.heap.objs.size f cd).kindOf (ps.zip us) fun _=>none) s1) :
    Inv (qjb CX P w K mg base N qual scope f cd A outer s H E) [] (start N vs) H s1:=by
  have hpl:ps.length≤N.length:=by have:=congrArg List.length S.pre;rw [List.length_take] at this;omega
  obtain ⟨h1,tk,rfl,hk⟩:=x.done
  have noA:∀ b:Addr,b∉(qjb CX P w K mg base N qual scope f cd A outer s H E).ex:=fun b z=>absurd (show b∈([]:List Addr) from z) (by simp)
  refine ⟨⟨e0.mod,S.kind,rfl,rfl,Nat.le_refl _,fun y z c h1 h2=>?_,fun y hy=>?_,fun y c _ h=>?_,fun _=>hd,Around.frames_deeper e0.frames,.inr ⟨rfl,rfl⟩,fun b z=>absurd z (noA b),e0.bs,e0.bsz,fun b _ _=>noA b,fun b z=>absurd z (noA b),e0.funs,e0.frf⟩,
    rfl,e0.bare,Un.kept hk,⟨_,x.toInCall.ns,fun i y v h1 h2 h3=>?_⟩,fun y c h=>⟨_,x.cell y c h⟩,e0.hok.fresh (Nat.le_refl _),fun y c h=>?_,fun p hp=>absurd (show p∈([]:List (Addr × Obj)) from hp) (by simp),e0.hok.kept hk,?_⟩
  · exact name_of_addr x.apart (PySem.mem_of_lookup h1) (PySem.mem_of_lookup h2)
  · have hy:scope.names.lookup y=some .cell∨scope.names.lookup y=some .free:=hy
    rcases hy with hy | hy
    · exact qeH hy
    · exact absurd rfl (S.nofree _ (PySem.mem_of_lookup hy))
  · exact Nat.le_of_lt (x.above y c (PySem.mem_of_lookup h))
  · have hi:i<vs.length:=by
      unfold start at h2
      by_cases hi:i<vs.length
      · exact hi
      · rw [List.getElem?_append_right (by simpa using hi)] at h2
        rw [List.getElem?_replicate] at h2
        split at h2 <;> cases h2
    have ha:vs[i]?=some v:=by
      unfold start at h2
      rw [List.getElem?_append_left (by simpa using hi),List.getElem?_map] at h2
      cases e:vs[i]? with
      | none=>rw [e] at h2;cases h2
      | some a=>rw [e] at h2;cases h2;rfl
    obtain ⟨u,hu,rv⟩:=r.get ha
    have hp:ps[i]?=some y:=by
      rw [← S.pre,List.getElem?_take_of_lt (by omega)];exact h1
    have ndP:ps.Nodup:=by rw [← S.pre];exact S.nd.sublist (List.take_sublist _ _)
    refine ⟨u,rv,?_⟩
    rcases S.par y (List.mem_of_getElem? hp) with k | k
    · exact .inl ⟨k,qfC ndP hp hu k⟩
    · obtain ⟨c,e⟩:=qeH (n:=s.heap.objs.size+1) k
      refine .inr ⟨.inl k,c,e,?_⟩
      have q:=x.cell y c e
      rw [qft ndP hp hu (by show scope.names.lookup y≠_;rw [k];decide)] at q
      exact q
  · exact e0.hok.fresh (Nat.le_of_lt (x.above y c (PySem.mem_of_lookup h)))
  · unfold start
    show _=N.length
    rw [List.length_append,List.length_map,List.length_replicate]
    omega
theorem qmo {CX:CXT} {P:Program} {w:World} {K:PySem.W.Frag} {mg:Str→Option Value} {base:Heap} {k:Nat} {f:Addr} {name qual:Str} {params:Arguments} {body:List Stmt} {scope:Scope} {dV kV doc pm cdv ct oc:Value} {an od:Option Addr}
    {osl:Array (Option Value)} {N ps:List Str} {sp:Sp} (lk:K.lookup f=some ⟨oc,od,.func (PySem.W.fnOf name qual params body scope dV kV doc pm an cdv ct),osl⟩) (hcd:PySem.W.codeIn K cdv qual=true) (S:FnScope N ps scope)
    (len:∀ vs H Q E,sp vs H Q E→vs.length=ps.length)
    (hbody:∀ (A:Around) (outer:List Env) (s:Shared) (H:Hp) (vs:List V) (Q:VK) (E:XK),Room k (A.deeper (envOfC qual scope s.heap.objs.size f cdv))→sp vs H Q E →
      ∃ t,PSs (qjb CX P w K mg base N qual scope f cdv A outer s H E) body t∧t { nx:=fun _ H'=>Q .non H',rt:=Q } (start N vs) H) :
    FnOk P w K mg base CX (k+1) f (PySem.W.fnOf name qual params body scope dV kV doc pm an cdv ct) ps sp:=by
  refine ⟨len,fun A outer s H args us vs Q E hr e0 hb r hsp=>?_⟩
  have hl:=len _ _ _ _ hsp
  have KX:K.In s.heap:=e0.mod.kin.keeps fun b o e=>(e0.bs b o e).1
  have lim:s.heap.NoLimit:=e0.mod.nolimit.keeps fun b o e=>(e0.bs b o e).1
  have hkind:∀ y∈ps.zip us,scope.names.lookup y.1=some .local∨(scope.names.lookup y.1=some .cell∧((cellsFrom (s.heap.objs.size+1) scope.names []).lookup y.1).isSome=true):=fun hq0 hy=>by
    obtain ⟨n,v⟩:=hq0
    rcases S.par n (List.of_mem_zip hy).1 with q | q
    · exact .inl q
    · exact .inr ⟨q,PySem.W.cellsFrom_some _ _ _ (.inl q)⟩
  refine codeAny_call_function hr.depth (KX _ _ lk) rfl S.co S.gen rfl (PySem.W.codeRec_of KX hcd) (hb _ _ _ _ ?_)
  refine wpAny_newFunctionEnv_cells S.kind hkind fun env he s1 x=>?_
  subst he
  refine ⟨lim.keeps x.toInCall.keep,codeAny_func ?_⟩
  obtain ⟨t,ht,hq⟩:=hbody A outer s H vs Q E (hr.deeper _) hsp
  have I:Inv (qjb CX P w K mg base N qual scope f cdv A outer s H E) [] (start N vs) H s1:=qhM S hr.hd e0 hl r x
  refine wpAny_mono (ht [] s1 (start N vs) H _ I hq) (fun fl s' hs=>?_) fun e s' hs=>hs
  have fin:∀ {σ':St} {H':Hp} {v:V} {u:Value},Inv (qjb CX P w K mg base N qual scope f cdv A outer s H E) [] σ' H' s'→RelV v u→Q v H'→CE outer P w H s Q u s' :=
    fun {σ' H' v u} J rv q=>⟨v,H',J.os,J.bare,J.base,J.hok,rv,q⟩
  cases fl with
  | ret u =>
    obtain ⟨v,σ',H',J,rv,q⟩:=hs
    exact fin J rv q
  | next =>
    obtain ⟨σ',H',J,q⟩:=hs
    exact fin (v:=V.non) (u:=Value.none) J rfl q
  | brk =>
    obtain ⟨_,_,_,q⟩:=hs
    exact False.elim q
  | cont =>
    obtain ⟨_,_,_,q⟩:=hs
    exact False.elim q
section
variable {X : Cx} {x : Str} {p pos : Pos} {e : Expr} {es : List Expr} {t : TA} {id T : String} {r : List V → Hp → VK → Prop}
def tCB (r:List V→Hp→VK→Prop) (t:TA):TE:=fun σ H Q=>t σ H fun vs H1=>r vs H1 Q
theorem qgF (hc:qcl X (.builtin id) r) (hg:Gl X x) (hm:X.mg x=none) (hv:bootBuiltins x=some (.builtin id)) (ha:PA X (e::es) t) (hn:x≠"__name__":=by decide) (hdb:(x == ("__debug__":Str))=false:=by decide)
    (he:starEach (e::es) X.env=(false,eval e X.env)::starEach es X.env:=by rfl) (hpl:(backTo pos (starEach es X.env)).any (·.1)=false:=by rfl):PE X (.Call (.Name x p) (e::es) [] pos) (tCB r t):=by
  intro pins s σ H Q I h
  refine wpAny_Call_Name_kw (qc0 I hg hm hv ?_ hn hdb)
  exact PyProof.Rows.callWith_builtin1 (thn (ha pos pins s σ H _ I h) fun us s1 hq0=>by obtain ⟨vs,H1,I1,r1,q1⟩:=hq0;exact hc pins s1 σ H1 vs us Q I1 r1 q1) he hpl
theorem qdA (hc:qcl X (.type T) r) (hg:Gl X x) (hm:X.mg x=none) (hv:bootBuiltins x=some (.type T)) (ha:PA X (e::es) t) (hn:x≠"__name__":=by decide) (hdb:(x == ("__debug__":Str))=false:=by decide)
    (he:starEach (e::es) X.env=(false,eval e X.env)::starEach es X.env:=by rfl) (hpl:(backTo pos (starEach es X.env)).any (·.1)=false:=by rfl):PE X (.Call (.Name x p) (e::es) [] pos) (tCB r t):=by
  intro pins s σ H Q I h
  refine wpAny_Call_Name_kw (qc0 I hg hm hv ?_ hn hdb)
  exact PyProof.Rows.callWith_type1 (thn (ha pos pins s σ H _ I h) fun us s1 hq0=>by obtain ⟨vs,H1,I1,r1,q1⟩:=hq0;exact hc pins s1 σ H1 vs us Q I1 r1 q1) he hpl
end
end L2
namespace HT
open PySem PyProof.Rows
section
open PySem.SeqAt
open PySem.AutoSeq1 (wpAny_loadPart')
open PySem.MeetsSeq PySem.MeetsSeq2 PySem.MeetsSeq3
end
section
variable {prog : Program} {w : World} {A : Around} {E : Value → Shared → Prop} {s : Shared}
theorem cat_tup {t b:Addr} {vs ws:List Value} {Q:Value→Shared→Prop} (ht:IsTup s.heap t vs.toArray) (hb:IsTup s.heap b ws.toArray) (hv:vs≠[])
    (h1:ws=[]→Q (.ref t) s) (h2:ws≠[]→Q (.ref s.heap.objs.size) { s with heap:=s.heap.push { cls:=.type "tuple",data:=.seq (vs++ws).toArray } })
    (hsz:vs.length+ws.length≤sizeLine):wpAny (model prog w) A (binaryOp .Add (.ref t) (.ref b)) Q E s:=by
  obtain ⟨⟨cls,dd,data,sl⟩,ho,hc,n,hd⟩:=id ht
  obtain ⟨⟨cls2,dd2,data2,sl2⟩,ho2,hc2,n2,hd2⟩:=id hb
  simp only at hc hd hc2 hd2
  subst hc hd hc2 hd2
  have e:vs.toArray++ws.toArray=(vs++ws).toArray:=by simp
  by_cases hw:ws=[]
  · exact concat_meets ⟨_,ho,rfl⟩ ⟨_,ho2,rfl⟩ noFill_tuple_add seq_tuple_add PySem.F.slot_tuple_add PySem.F.entry_tuple_add (PySem.F.args_tuple_add_2 _ _)
      (tuple_addW1 t b vs.toArray ws.toArray n n2 dd dd2 sl sl2 (by simpa using hv) (by simp [hw])) ⟨ho,ho2,h1 hw⟩
  · refine concat_meets ⟨_,ho,rfl⟩ ⟨_,ho2,rfl⟩ noFill_tuple_add seq_tuple_add PySem.F.slot_tuple_add PySem.F.entry_tuple_add (PySem.F.args_tuple_add_2 _ _)
      (tuple_addW2 t b vs.toArray ws.toArray n n2 dd dd2 sl sl2 (by simpa using hv) (by simpa using hw) (by rw [List.size_toArray,List.size_toArray];exact hsz)) ⟨ho,ho2,?_⟩
    rw [e]
    exact h2 hw
def sIx (n d:Nat):Option Int→Nat
  | none=>d
  | some v=>if v<0 then (v+(n:Int)).toNat else min v.toNat n
theorem sIx_nat (n d k:Nat):sIx n d (some (k:Int))=min k n:=by
  show (if (k:Int)<0 then ((k:Int)+(n:Int)).toNat else min (k:Int).toNat n)=min k n
  rw [if_neg (by omega),Int.toNat_natCast]
theorem qmQ (n d:Nat) (hd:d≤n) (o:Option Int):sIx n d o≤n:=by
  cases o with
  | none=>exact hd
  | some v =>
    show (if v<0 then (v+(n:Int)).toNat else min v.toNat n)≤n
    by_cases hv:v<0
    · rw [if_pos hv];omega
    · rw [if_neg hv];exact Nat.min_le_right _ _
theorem qie (v:Int) (n d:Nat):(if v<0 then max (v+(n:Int)) 0 else min v (n:Int))=((sIx n d (some v):Nat):Int):=by
  show (if v<0 then max (v+(n:Int)) 0 else min v (n:Int))=(((if v<0 then (v+(n:Int)).toNat else min v.toNat n):Nat):Int)
  by_cases hv:v<0
  · simp only [if_pos hv];omega
  · simp only [if_neg hv];omega
theorem qha (lo hi:Option Int) (n:Nat):Builtin.Slice.sliceAdjust lo hi 1 (n:Int)=(((sIx n 0 lo:Nat):Int),((sIx n n hi:Nat):Int)):=by
  have h1:¬ ((1:Int)<0):=by omega
  unfold Builtin.Slice.sliceAdjust
  simp only [h1,if_false]
  refine Prod.ext ?_ ?_
  · cases lo with
    | none=>rfl
    | some v=>exact qie v n 0
  · cases hi with
    | none=>rfl
    | some v=>exact qie v n n
theorem qg9 (i j:Nat):Builtin.Slice.slicePlaces (i:Int) (j:Int) 1=j - i:=by
  unfold Builtin.Slice.slicePlaces
  have h1:(1:Int)>0:=by omega
  simp only [h1,if_true,Int.ediv_one]
  split <;> omega
theorem qee {v:Value} {o:Option Int} {Q:Option Int→Shared→Prop} (p:IsPart v o) (h:Q o s):wpAny (model prog w) A (Builtin.Slice.slicePartIndex v) Q E s:=by
  cases p with
  | none=>exact slicePart_none h
  | int i t=>exact slicePart_int h
theorem qb3 {sl:Addr} {vl vu:Value} {lo hi:Option Int} {n:Nat} {Q:Int × Int × Nat→Shared→Prop} (hs:s.heap.IsSliceOf sl vl vu .none) (pl:IsPart vl lo) (pu:IsPart vu hi)
    (h:Q (((sIx n 0 lo:Nat):Int),1,sIx n n hi - sIx n 0 lo) s):wpAny (model prog w) A (Builtin.Slice.sliceApplied (.ref sl) (pure (n:Int))) Q E s:=by
  obtain ⟨os,hos,hcs,hds⟩:=id hs
  unfold Builtin.Slice.sliceApplied Builtin.Slice.sliceFields
  refine wpAny_bind (wpAny_bind (wpAny_field hos hds (x:=vl) rfl (wpAny_bind (wpAny_field hos hds (x:=vu) rfl (wpAny_bind (wpAny_field hos hds (x:=.none) rfl (wpAny_pure ?_)))))))
  refine wpAny_bind (slicePart_none ?_)
  show wpAny _ _ (if ((1:Int) == 0)=true then _ else _) _ _ s
  rw [if_neg (by decide)]
  refine wpAny_bind (qee pl (wpAny_bind (qee pu (wpAny_bind (wpAny_pure ?_)))))
  show wpAny _ _ (match Builtin.Slice.sliceAdjust lo hi 1 (n:Int) with | (lo,hi)=>pure (lo,(1:Int),Builtin.Slice.slicePlaces lo hi 1)) _ _ s
  rw [qha lo hi n]
  show wpAny _ _ (pure (((sIx n 0 lo:Nat):Int),(1:Int),Builtin.Slice.slicePlaces ((sIx n 0 lo:Nat):Int) ((sIx n n hi:Nat):Int) 1)) _ _ s
  rw [qg9]
  exact wpAny_pure h
theorem qjs (xs:Array Value) (i k:Nat):((List.range k).filterMap fun (m:Nat)=>xs[((i:Int)+(m:Int)*1).toNat]?).toArray=((xs.toList.drop i).take k).toArray:=by
  have e:(fun (m:Nat)=>xs[((i:Int)+(m:Int)*1).toNat]?)=fun m=>xs[i+m]?:=by
    funext m
    have:((i:Int)+(m:Int)*1).toNat=i+m:=by omega
    rw [this]
  rw [e]
  have:=pick_run xs i k
  rw [List.filterMap_map] at this
  have e2:((fun x=>xs[x]?) ∘ fun x=>i+x)=fun m=>xs[i+m]?:=rfl
  rw [e2] at this
  rw [this]
theorem getItem_tuple_cut {t sl:Addr} {items:Array Value} {vl vu:Value} {lo hi:Option Int} {Q:Value→Shared→Prop} (ht:IsTup s.heap t items) (hs:s.heap.IsSliceOf sl vl vu .none) (pl:IsPart vl lo) (pu:IsPart vu hi)
    (hw:¬ (sIx items.size 0 lo=0∧sIx items.size items.size hi=items.size))
    (h:Q (.ref s.heap.objs.size) { s with heap:=s.heap.push { cls:=.type "tuple",data:=.seq ((items.toList.drop (sIx items.size 0 lo)).take (sIx items.size items.size hi - sIx items.size 0 lo)).toArray } })
    (hsz:items.size≤sizeLine):wpAny (model prog w) A (getItem (.ref t) (.ref sl)) Q E s:=by
  have htake:sizeOk (.seq ((items.toList.drop (sIx items.size 0 lo)).take (sIx items.size items.size hi - sIx items.size 0 lo)).toArray):=by
    show ((items.toList.drop (sIx items.size 0 lo)).take (sIx items.size items.size hi - sIx items.size 0 lo)).toArray.size≤sizeLine
    rw [List.size_toArray,List.length_take,List.length_drop,Array.length_toList]
    omega
  have hj:sIx items.size items.size hi≤items.size:=qmQ _ _ (Nat.le_refl _) hi
  obtain ⟨os,hos,hcs,hds⟩:=id hs
  have hTs:s.TypeIs (.ref sl) "slice":=⟨os,hos,hcs⟩
  unfold getItem
  try with_reducible refine wpAny_holding ?_
  first | refine wpAny_bind (wpAny_pure ?_) | skip
  refine wpAny_bind (wpAny_sequenceKey ht.typeIs (by decide) ?_)
  refine wpAny_bind (wpAny_callSpecial?_slot (name:=Str.ofString "__getitem__") ht.typeIs PyProof.Rows.slot_tuple_getitem
    (wpAny_call_entry PyProof.Rows.slot_tuple_getitem ht.typeIs entry_tuple_getitem ?_ (args_tuple_getitem _ _)))
  show wpAny _ _ (Builtin.Tuple.tupleItemsOf (.ref t) >>= _) _ _ s
  refine wpAny_bind (tupleItemsOf_ ht ?_)
  refine wpAny_bind (wpAny_typeOf hTs ?_)
  rw [if_pos (by decide)]
  refine wpAny_bind (qb3 hs pl pu ?_)
  have hno:¬ ((((sIx items.size 0 lo:Nat):Int) == 0 && (1:Int) == 1 && (sIx items.size items.size hi - sIx items.size 0 lo) == items.size)=true):=by
    intro q
    rw [Bool.and_eq_true,Bool.and_eq_true] at q
    have q1:((sIx items.size 0 lo:Nat):Int)=0:=eq_of_beq q.1.1
    have q2:sIx items.size items.size hi - sIx items.size 0 lo=items.size:=eq_of_beq q.2
    exact hw ⟨by omega,by omega⟩
  show wpAny _ _ (if (((sIx items.size 0 lo:Nat):Int) == 0 && (1:Int) == 1 && (sIx items.size items.size hi - sIx items.size 0 lo) == items.size)=true then _ else _) _ _ s
  rw [if_neg hno,qjs]
  first
    | exact wpAny_bind (m:=Builtin.Tuple.tupleExact _) (wpAny_newObj_type (wpAny_pure ⟨_,rfl,wpAny_pure h⟩) htake)
    | exact wpAny_bind (m:=Builtin.Tuple.tupleExact _) (wpAny_newObj_type (wpAny_bind (wpAny_pure (wpAny_pure ⟨_,rfl,wpAny_pure h⟩))) htake)
    | exact wpAny_bind (wpAny_bind (m:=Builtin.Tuple.tupleExact _) (wpAny_newObj_type (wpAny_pure (wpAny_pure ⟨_,rfl,wpAny_pure h⟩)) htake))
    | exact wpAny_bind (wpAny_bind (m:=Builtin.Tuple.tupleExact _) (wpAny_newObj_type (wpAny_pure ⟨_,rfl,wpAny_pure h⟩) htake))
end
end HT
namespace L2
open PySem PySem.Spec PyProof.Rows
abbrev TO:=St→Hp→(Option Int→Hp→Prop)→Prop
def PO (X:Cx) (e:Option Expr) (t:TO):Prop :=
  ∀ (pins:List (Addr × Obj)) (s:Shared) (σ:St) (H:Hp) (Q:Option Int→Hp→Prop),Inv X pins σ H s→t σ H Q →
    wpAny (model X.prog X.w) X.A (evalPart e X.env) (fun u s'=>∃ o H',Inv X pins σ H' s'∧IsPart u o∧Q o H') X.xe s
def qls:TO:=fun _ H Q=>Q none H
def qnD (t:TE):TO:=fun σ H Q=>t σ H fun x H1=>∃ i,x=.int i∧Q (some i) H1
section
variable {X : Cx} {e : Expr} {te : TE} {lo hi : Option Expr} {tl th : TO} {pos p2 : Pos}
theorem po_none:PO X none qls:=by
  intro pins s σ H Q I h
  rw [evalPart_none]
  exact wpAny_pure ⟨none,H,I,.none,h⟩
theorem qkE (h:PE X e te):PO X (some e) (qnD te):=by
  intro pins s σ H Q I hw
  rw [evalPart_some]
  refine thn (h pins s σ H _ I hw) fun u s1 hq0=>?_
  obtain ⟨x,H1,I1,r1,q1⟩:=hq0
  obtain ⟨i,rfl,q⟩:=q1
  obtain ⟨t,rfl⟩:=r1
  exact ⟨some i,H1,I1,.int i t,q⟩
def SlR (X:Cx) (r:V→Option Int→Option Int→Hp→VK→Prop):Prop :=
  ∀ (pins:List (Addr × Obj)) (s:Shared) (σ:St) (H:Hp) (x:V) (v vl vu:Value) (lo hi:Option Int) (sl:Addr) (Q:VK),Inv X pins σ H s→RelV x v→s.heap.IsSliceOf sl vl vu .none→IsPart vl lo→IsPart vu hi→r x lo hi H Q →
    ∃ T id,typeLookup (.type T) "__getitem__"=pure (some (.builtin id))∧s.TypeIs v T∧wpAny (model X.prog X.w) X.A (getItem v (.ref sl)) (EP X pins σ Q) X.xe s
theorem SlR.or {r r':V→Option Int→Option Int→Hp→VK→Prop} (h:SlR X r) (h':SlR X r'):SlR X (fun x lo hi H Q=>r x lo hi H Q∨r' x lo hi H Q):=by
  intro pins s σ H x v vl vu lo hi sl Q I rx hs pl pu q
  rcases q with q | q
  · exact h pins s σ H x v vl vu lo hi sl Q I rx hs pl pu q
  · exact h' pins s σ H x v vl vu lo hi sl Q I rx hs pl pu q
def tSl (r:V→Option Int→Option Int→Hp→VK→Prop) (te:TE) (tl th:TO):TE:=fun σ H Q=>te σ H fun x H1=>tl σ H1 fun l H2=>th σ H2 fun u H3=>r x l u H3 Q
theorem qjP {r:V→Option Int→Option Int→Hp→VK→Prop} (hr:SlR X r) (he:PE X e te) (hl:PO X lo tl) (hu:PO X hi th):PE X (.Subscript e (.Slice lo hi none p2) pos) (tSl r te tl th):=by
  intro pins s σ H Q I h
  refine Subscript_ (thn (he pins s σ H _ I h) fun v s1 ⟨x,H1,I1,r1,q1⟩=>?_)
  refine wpAny_Slice (thn (hl pins s1 σ H1 _ I1 q1) fun vl s2 ⟨l,H2,I2,pl,q2⟩=>thn (hu pins s2 σ H2 _ I2 q2) fun vu s3 ⟨u,H3,I3,pu,q3⟩=>?_)
  rw [evalPart_none]
  refine wpAny_pure ?_
  have I4:Inv X pins σ H3 { s3 with heap:=s3.heap.push { cls:=.type "slice",data:=.fields #[vl,vu,.none] } }:=I3.kept (t':=s3.toks) fun b ob q=>Heap.get?_push_of_some _ q
  obtain ⟨T,id,hT,ht,hg⟩:=hr pins { s3 with heap:=s3.heap.push { cls:=.type "slice",data:=.fields #[vl,vu,.none] } } σ H3 x v vl vu l u s3.heap.objs.size Q I4 r1 (Heap.IsSliceOf.new ..) pl pu q3
  show wpAny (model X.prog X.w) X.A (subscriptTail e (.Slice lo hi none p2) v (.ref s3.heap.objs.size)) (EP X pins σ Q) X.xe { s3 with heap:=s3.heap.push { cls:=.type "slice",data:=.fields #[vl,vu,.none] } }
  exact tail_any (ops:=[.ref s3.heap.objs.size,v]) ht hT hg (by with_unfolding_all rfl)
def qkh (xs:List V) (lo hi:Option Int):List V:=(xs.drop (HT.sIx xs.length 0 lo)).take (HT.sIx xs.length xs.length hi - HT.sIx xs.length 0 lo)
theorem qdE (xs:List V) (lo hi:Option Int):(qkh xs lo hi).length≤xs.length:=by
  unfold qkh
  rw [List.length_take,List.length_drop]
  omega
def qoE (K:PySem.W.Frag):V→Option Int→Option Int→Hp→VK→Prop:=fun x lo hi H Q=>∃ a xs,x=.ref a∧SqT K H a xs ∧
  ¬ (HT.sIx xs.length 0 lo=0∧HT.sIx xs.length xs.length hi=xs.length)∧∀ p,H p=none→Q (.ref p) (upd H p (.tup (qkh xs lo hi)))
theorem sl_tup:SlR X (qoE X.K):=by
  intro pins s σ H x v vl vu lo hi sl Q I rx hs pl pu h
  obtain ⟨a,xs,rfl,hx,hw,q⟩:=h
  cases rx
  obtain ⟨its,r,ht,hz⟩:=I.tuple hx
  have hlen:its.toArray.size=xs.length:=by rw [List.size_toArray];exact r.length.symm
  refine ⟨"tuple",_,PyProof.Rows.slot_tuple_getitem.lookup,ht.typeIs,?_⟩
  refine HT.getItem_tuple_cut ht hs pl pu (by rw [hlen];exact hw) ?_ (by rw [hlen];exact hz)
  rw [hlen]
  refine ⟨.ref s.heap.objs.size,_,I.laid (t':=s.toks) (o:=.tup (qkh xs lo hi)) (fun b ob q=>Heap.get?_push_of_some _ q) (Nat.le_refl _) ?_,rfl,q _ (I.hok.fresh (Nat.le_refl _))⟩
  exact ⟨Nat.le_trans (qdE xs lo hi) hz,_,(r.drop (HT.sIx xs.length 0 lo)).take (HT.sIx xs.length xs.length hi - HT.sIx xs.length 0 lo),IsTup.new _ _⟩
def qnM (K:PySem.W.Frag):R2:=fun x y H Q=>∃ a b xs ys,x=.ref a∧y=.ref b∧SqT K H a xs∧SqT K H b ys∧xs≠[]∧xs.length+ys.length≤sizeLine ∧
  (ys=[]→Q (.ref a) H)∧(ys≠[]→∀ p,H p=none→Q (.ref p) (upd H p (.tup (xs++ys))))
theorem Vals.nil_iff {xs:List V} {us:List Value} (r:Vals xs us):us=[]↔xs=[]:=by
  cases r with
  | nil=>simp
  | cons _ _=>simp
theorem qkQ:OpR X (binaryOp .Add) (qnM X.K):=by
  intro pins s σ H x y v u Q I rx ry h
  obtain ⟨a,b,xs,ys,rfl,rfl,ha,hb,hx,hz,q1,q2⟩:=h
  cases rx
  cases ry
  obtain ⟨its,r1,p1,_⟩:=I.tuple ha
  obtain ⟨its2,r2,p2,_⟩:=I.tuple hb
  refine HT.cat_tup p1 p2 (fun z=>hx (r1.nil_iff.mp z)) (fun z=>⟨.ref a,H,I,rfl,q1 (r2.nil_iff.mp z)⟩) (fun z=>?_) (by rw [← r1.length,← r2.length];exact hz)
  refine ⟨.ref s.heap.objs.size,_,I.laid (t':=s.toks) (o:=.tup (xs++ys)) (fun b ob q=>Heap.get?_push_of_some _ q) (Nat.le_refl _) ?_,rfl,q2 (fun w=>z (r2.nil_iff.mpr w)) _ (I.hok.fresh (Nat.le_refl _))⟩
  exact ⟨by rw [List.length_append];exact hz,_,r1.append r2,IsTup.new _ _⟩
end
def ixN (n:Nat) (i:Int):Option Nat:=if 0≤i then (if i<n then some i.toNat else none) else if -(n:Int)≤i then some (i+n).toNat else none
def atI {α:Type} (xs:List α) (i:Int):Option α:=(ixN xs.length i).bind fun j=>xs[j]?
theorem qh2 {n:Nat} {i:Int} {j:Nat} (h:ixN n i=some j):seqIndex? i n=some j∧j<n∧-(n:Int)≤i∧i<n:=by
  unfold ixN at h
  by_cases h0:0≤i
  · rw [if_pos h0] at h
    by_cases h1:i<n
    · rw [if_pos h1] at h
      have e:i.toNat=j:=Option.some.inj h
      exact ⟨by rw [seqIndex_of h0 h1,e],by omega,by omega,h1⟩
    · rw [if_neg h1] at h;cases h
  · rw [if_neg h0] at h
    by_cases h1:-(n:Int)≤i
    · rw [if_pos h1] at h
      have e:(i+n).toNat=j:=Option.some.inj h
      exact ⟨by rw [seqIndex_neg (by omega) h1,e],by omega,h1,by omega⟩
    · rw [if_neg h1] at h;cases h
theorem qgm {α:Type} {xs:List α} {i:Int} {v:α} (h:atI xs i=some v):∃ j,seqIndex? i xs.length=some j∧xs[j]?=some v∧j<xs.length∧-(xs.length:Int)≤i∧i<xs.length:=by
  unfold atI at h
  cases e:ixN xs.length i with
  | none=>rw [e] at h;cases h
  | some j =>
    rw [e] at h
    obtain ⟨h1,h2,h3,h4⟩:=qh2 e
    exact ⟨j,h1,h,h2,h3,h4⟩
theorem qk4 {α:Type} {xs:List α} {j:Nat} {v:α} (h:xs[j]?=some v):atI xs (j:Int)=some v:=by
  have hj:j<xs.length:=(List.getElem?_eq_some_iff.mp h).1
  have e:ixN xs.length (j:Int)=some j:=by
    unfold ixN
    rw [if_pos (by omega),if_pos (by omega)];simp
  unfold atI;rw [e];exact h
def qhR (b:Expr):Prop:=∀ o i,subscripted b false o i=operate [o,i] (getItem o i)
def IxR (X:Cx) (r:R2):Prop :=
  ∀ (value slice:Expr) (pins:List (Addr × Obj)) (s:Shared) (σ:St) (H:Hp) (x y:V) (v u:Value) (Q:VK),Inv X pins σ H s→RelV x v→RelV y u→r x y H Q →
    subscripted slice false v u=operate [v,u] (getItem v u)→wpAny (model X.prog X.w) X.A (subscriptTail value slice v u) (EP X pins σ Q) X.xe s
def MtR (X:Cx) (id:String) (r:V→List V→Hp→VK→Prop):Prop :=
  ∀ (pins:List (Addr × Obj)) (s:Shared) (σ:St) (H:Hp) (x:V) (xs:List V) (v:Value) (us:List Value) (Q:VK),Inv X pins σ H s→RelV x v→Vals xs us→r x xs H Q →
    wpAny (model X.prog X.w) X.A (call (.builtin id) (v::us)) (EP X pins σ Q) X.xe s
section
variable {X : Cx} {a b : Expr} {ta tb : TE} {pos : Pos}
theorem qn3 {r:R2} (hr:IxR X r) (ha:PE X a ta) (hb:PE X b tb) (hs:qhR b):PE X (.Subscript a b pos) (tOp r ta tb):=by
  intro pins s σ H Q I h
  exact Subscript_ (qnJ ha hb I h fun v u s2 x y H2 I2 rx ry q=>hr a b pins s2 σ H2 x y v u Q I2 rx ry q (hs _ _))
def qoX (K:PySem.W.Frag):R2:=fun x y H Q=>∃ p xs i v,x=.ref p∧y=.int i∧SqL K H p xs∧atI xs i=some v∧Q v H
def qoQ (K:PySem.W.Frag):R2:=fun x y H Q=>∃ p xs i v,x=.ref p∧y=.int i∧SqT K H p xs∧atI xs i=some v∧Q v H
def qpl:R2:=fun x y H Q=>∃ z i c,x=.str z∧y=.int i∧z.length≤sizeLine∧atI z.cps.toList i=some c∧Q (.str ⟨#[c]⟩) H
theorem qiy:IxR X (qoX X.K):=by
  intro value slice pins s σ H x y v u Q I rx ry h hs
  obtain ⟨p,xs,i,z,rfl,rfl,hq,he,q⟩:=h
  cases rx
  obtain ⟨t,rfl⟩:=ry
  obtain ⟨its,r,pl,hz⟩:=I.list hq
  obtain ⟨j,h1,h2,h3,h4,h5⟩:=qgm he
  obtain ⟨w,ew,rw'⟩:=r.get h2
  have hl:=r.length
  have hn:=qdC
  have fin:EP X pins σ Q w s:=⟨z,H,I,rw',q⟩
  by_cases h0:0≤i
  · have hj:i.toNat=j:=by
      rw [seqIndex_of h0 h5] at h1
      exact Option.some.inj h1
    exact item_listR pl.isList h0 (by omega) (by rw [hj];simpa using ew) fin hs
  · have hj:(i+(its.toArray.size:Int)).toNat=j:=by
      rw [seqIndex_neg (by omega) h4] at h1
      rw [List.size_toArray,← hl]
      exact Option.some.inj h1
    exact subscriptTail_builtinR (x:=w) pl.isList.typeIs slot_list_getitem.lookup
      (wpAny_getItem_list_neg (Q:=fun r s'=>r=w∧EP X pins σ Q r s') pl.isList (by omega) (by rw [List.size_toArray] <;> omega) (by omega) (by rw [hj];simpa using ew) ⟨rfl,fin⟩) hs
theorem qmB:IxR X (qoQ X.K):=by
  intro value slice pins s σ H x y v u Q I rx ry h hs
  obtain ⟨p,xs,i,z,rfl,rfl,hq,he,q⟩:=h
  cases rx
  obtain ⟨t,rfl⟩:=ry
  obtain ⟨its,r,pl,hz⟩:=I.tuple hq
  obtain ⟨j,h1,h2,h3,h4,h5⟩:=qgm he
  obtain ⟨w,ew,rw'⟩:=r.get h2
  have hl:=r.length
  have hn:=qdC
  have fin:EP X pins σ Q w s:=⟨z,H,I,rw',q⟩
  exact subscriptTail_builtinR (x:=w) pl.typeIs slot_tuple_getitem.lookup
    (getItem_tuple (j:=j) (Q:=fun r s'=>r=w∧EP X pins σ Q r s') pl (by omega) (by omega) (by rw [List.size_toArray,← hl];exact h1) (by simpa using ew) ⟨rfl,fin⟩) hs
theorem qmJ:IxR X qpl:=by
  intro value slice pins s σ H x y v u Q I rx ry h hs
  obtain ⟨z,i,c,rfl,rfl,hz,he,q⟩:=h
  obtain ⟨t,rfl⟩:=rx
  obtain ⟨t',rfl⟩:=ry
  obtain ⟨j,h1,h2,h3,h4,h5⟩:=qgm he
  have hl:z.cps.toList.length=z.length:=by simp [Str.length]
  rw [hl] at h1 h4 h5
  have hn:=qdC
  exact tail_any (typeIs_str s z t) slot_str_getitem.lookup (getItem_str (c:=c) (by
    have e1:decide (i < -(2 ^ 63:Int))=false:=decide_eq_false (by omega)
    have e2:decide (i≥2 ^ 63)=false:=decide_eq_false (by omega)
    rw [e1,e2,Bool.or_false]) (by rw [h1];simpa using h2) ⟨.str ⟨#[c]⟩,H,I.tok _,⟨_,rfl⟩,q⟩) hs
theorem qg5 (its:List Value) (n j:Nat) (u:Value):Obj.mapSeq (·.setIfInBounds j u) { cls:=.type "list",data:=.seq its.toArray n }={ cls:=.type "list",data:=.seq (its.set j u).toArray n }:=by
  simp [Obj.mapSeq]
theorem Inv.lst {pins:List (Addr × Obj)} {σ:St} {H:Hp} {s:Shared} {p:Addr} {xs:List V} (I:Inv X pins σ H s) (h:H p=some (.lst xs)) :
    ∃ (its:List Value) (n:Nat),Vals xs its∧s.heap.get? p=some { cls:=.type "list",data:=.seq its.toArray n }∧xs.length≤sizeLine:=by
  obtain ⟨z,its,n,r,e⟩:=I.hok p _ h
  exact ⟨its,n,r,e,z⟩
theorem Inv.lstUpd {pins:List (Addr × Obj)} {σ:St} {H:Hp} {s:Shared} {p:Addr} {xs ys:List V} {its its':List Value} {n n':Nat} {f:Obj→Obj} (I:Inv X pins σ H s) (h:H p=some (.lst xs))
    (ho:s.heap.get? p=some { cls:=.type "list",data:=.seq its.toArray n }) (hf:f { cls:=.type "list",data:=.seq its.toArray n }={ cls:=.type "list",data:=.seq its'.toArray n' }) (r:Vals ys its') (hz:ys.length≤sizeLine) (t:Nat) :
    Inv X pins σ (upd H p (.lst ys)) { s with heap:=s.heap.update p f,toks:=t }:=by
  have e:(s.heap.update p f).get? p=some { cls:=.type "list",data:=.seq its'.toArray n' }:=by
    rw [Heap.get?_update_self f ho (by rw [hf] <;> rfl),hf]
  refine I.write (x:=p) (e:=p) (by rw [h];trivial) (.inl rfl) (fun b u hb q=>(Heap.get?_update_other _ _ (Ne.symm hb)).trans q) ⟨_,e⟩ ?_
  exact ⟨hz,its',n',r,e⟩
def qn8:V→V→V→Hp→(Hp→Prop)→Prop:=fun o i v H Q=>∃ p xs k j,o=.ref p∧i=.int k∧H p=some (.lst xs)∧ixN xs.length k=some j∧Q (upd H p (.lst (xs.set j v)))
theorem qiI:qov X qn8:=by
  intro pins s σ H o i v ov iv u Q I ro ri rv h
  obtain ⟨p,xs,k,j,rfl,rfl,hp,hj,q⟩:=h
  cases ro
  obtain ⟨t,rfl⟩:=ri
  obtain ⟨its,n,r,ho,hz⟩:=I.lst hp
  obtain ⟨h1,h2,h3,h4⟩:=qh2 hj
  have hl:=r.length
  have hn:=qdC
  have I':Inv X pins σ (upd H p (.lst (xs.set j v))) { s with heap:=s.heap.update p (Obj.mapSeq (·.setIfInBounds j u)) } :=
    I.lstUpd hp ho (qg5 its n j u) (r.set rv j) (by rw [List.length_set];exact hz) s.toks
  by_cases h0:0≤k
  · have hk:k.toNat=j:=by
      rw [seqIndex_of h0 h4] at h1
      exact Option.some.inj h1
    exact PySem.W.ki_setAt ho h0 (by omega) (by rw [List.size_toArray,← hl];exact h4) (by rw [hk];exact ⟨_,I',q⟩)
  · have hk:(k+(its.toArray.size:Int)).toNat=j:=by
      rw [seqIndex_neg (by omega) h3] at h1
      rw [List.size_toArray,← hl]
      exact Option.some.inj h1
    exact PySem.W.ki_setBack ho (by omega) (by rw [List.size_toArray,← hl];exact h3) (by omega) (by rw [hk];exact ⟨_,I',q⟩)
theorem qfm (lo hi:Option Int) (n:Nat):(sliceBounds lo hi none n).1=((HT.sIx n 0 lo:Nat):Int)∧(sliceBounds lo hi none n).2.1=((HT.sIx n n hi:Nat):Int)∧(sliceBounds lo hi none n).2.2=1:=by
  refine ⟨?_,?_,rfl⟩
  · cases lo with
    | none=>simp [sliceBounds,HT.sIx]
    | some i =>
      simp only [sliceBounds,HT.sIx,Option.getD_none,show (1:Int)>0 by decide,if_true]
      by_cases h:i<0
      · simp only [h,if_true] <;> omega
      · simp only [h,if_false] <;> omega
  · cases hi with
    | none=>simp [sliceBounds,HT.sIx]
    | some i =>
      simp only [sliceBounds,HT.sIx,Option.getD_none,show (1:Int)>0 by decide,if_true]
      by_cases h:i<0
      · simp only [h,if_true] <;> omega
      · simp only [h,if_false] <;> omega
theorem qeK (its:List Value) (lo hi:Option Int):slicePick its.toArray lo hi none=((its.drop (HT.sIx its.length 0 lo)).take (HT.sIx its.length its.length hi - HT.sIx its.length 0 lo)).toArray:=by
  obtain ⟨h1,h2,h3⟩:=qfm lo hi its.toArray.size
  unfold slicePick
  rw [h1,h2,h3]
  simp only [sliceRange_one,pick_run,List.size_toArray] <;> rfl
def qoo (K:PySem.W.Frag):V→Option Int→Option Int→Hp→VK→Prop:=fun x lo hi H Q=>∃ a xs,x=.ref a∧SqL K H a xs∧∀ p,H p=none→Q (.ref p) (upd H p (.lst (qkh xs lo hi)))
theorem sl_list:SlR X (qoo X.K):=by
  intro pins s σ H x v vl vu lo hi sl Q I rx hs pl pu h
  obtain ⟨a,xs,rfl,hx,q⟩:=h
  cases rx
  obtain ⟨its,r,ht,hz⟩:=I.list hx
  have hlen:=r.length
  refine ⟨"list",_,slot_list_getitem.lookup,ht.isList.typeIs,?_⟩
  refine wpAny_getItem_list_slice ht.isList hs pl pu .none (by simp) ?_ (by rw [List.size_toArray] <;> omega)
  rw [qeK,← hlen]
  refine ⟨.ref s.heap.objs.size,_,I.laid (t':=s.toks) (o:=.lst (qkh xs lo hi)) (fun b ob q=>Heap.get?_push_of_some _ q) (Nat.le_refl _) ?_,rfl,q _ (I.hok.fresh (Nat.le_refl _))⟩
  exact ⟨Nat.le_trans (qdE xs lo hi) hz,_,0,(r.drop (HT.sIx xs.length 0 lo)).take (HT.sIx xs.length xs.length hi - HT.sIx xs.length 0 lo),Heap.get?_push_size _ rfl⟩
theorem qcf:qcl X (.builtin "len") (fun xs H Q=>∃ p ys,xs=[.ref p]∧(SqL X.K H p ys∨SqT X.K H p ys)∧Q (.int ys.length) H):=by
  intro pins s σ H xs us Q I r h
  obtain ⟨p,ys,rfl,hq,q⟩:=h
  obtain ⟨u,rfl,rx⟩:=qfe r
  cases rx
  have hn:=qdC
  rcases hq with hq | hq
  · obtain ⟨its,r',pl,hz⟩:=I.list hq
    have hlen:=r'.length
    exact Calls.call_len_list pl.isList (by simp only [List.size_toArray] <;> omega) ⟨.int ys.length,H,I.tok _,⟨s.toks+1,by rw [List.size_toArray,hlen]⟩,q⟩
  · obtain ⟨its,r',pl,hz⟩:=I.tuple hq
    have hlen:=r'.length
    exact len_tuple pl (by simp only [List.size_toArray] <;> omega) ⟨.int ys.length,H,I.tok _,⟨s.toks+1,by rw [List.size_toArray,hlen]⟩,q⟩
theorem qfb:qcl X (.builtin "len") (fun xs H Q=>∃ z,xs=[.str z]∧z.length≤sizeLine∧Q (.int z.length) H):=by
  intro pins s σ H xs us Q I r h
  obtain ⟨z,rfl,hz,q⟩:=h
  obtain ⟨u,rfl,t,rfl⟩:=qfe r
  have hn:=qdC
  exact len_str (by omega) ⟨.int z.length,H,I.tok _,⟨_,rfl⟩,q⟩
theorem qe7:qcl X (.type "list") (fun xs H Q=>∃ p ys,xs=[.ref p]∧(SqL X.K H p ys∨SqT X.K H p ys)∧∀ l,H l=none→Q (.ref l) (upd H l (.lst ys))):=by
  intro pins s σ H xs us Q I r h
  obtain ⟨p,ys,rfl,hq,q⟩:=h
  obtain ⟨u,rfl,rx⟩:=qfe r
  cases rx
  have fin:∀ (its:List Value),Vals ys its→ys.length≤sizeLine→∀ (h':Heap) (c':Nat),(∀ b o',s.heap.get? b=some o'→h'.get? b=some o') →
      h'.get? s.heap.objs.size=some { cls:=.type "list",dict:=none,data:=.seq its.toArray c',slots:=#[] }→EP X pins σ Q (.ref s.heap.objs.size) { s with heap:=h' }:=fun its r' hz h' c' kp e =>
    ⟨.ref s.heap.objs.size,_,I.laid (t':=s.toks) kp (Nat.le_refl _) (show ObjOk X.prog X.w _ h' _ (.lst ys) from ⟨hz,its,c',r',e⟩),rfl,q _ (I.hok.fresh (Nat.le_refl _))⟩
  rcases hq with hq | hq
  · obtain ⟨its,r',pl,hz⟩:=I.list hq
    have hlen:=r'.length
    obtain ⟨o,ho,hc,n,hd⟩:=pl.isList
    exact call_list_seq p (.inl rfl) ho hc hd (fun h' c' kp e=>fin its r' hz h' c' kp e) (by simp only [List.size_toArray] <;> omega)
  · obtain ⟨its,r',pl,hz⟩:=I.tuple hq
    have hlen:=r'.length
    obtain ⟨o,ho,hc,n,hd⟩:=pl
    exact call_list_seq p (.inr rfl) ho hc hd (fun h' c' kp e=>fin its r' hz h' c' kp e) (by simp only [List.size_toArray] <;> omega)
theorem qbY:qcl X (.type "tuple") (fun xs H Q=>∃ p ys,xs=[.ref p]∧((SqL X.K H p ys∧∀ l,H l=none→Q (.ref l) (upd H l (.tup ys)))∨(SqT X.K H p ys∧Q (.ref p) H))):=by
  intro pins s σ H xs us Q I r h
  obtain ⟨p,ys,rfl,h⟩:=h
  obtain ⟨u,rfl,rx⟩:=qfe r
  cases rx
  rcases h with ⟨hq,q⟩ | ⟨hq,q⟩
  · obtain ⟨its,r',pl,hz⟩:=I.list hq
    have hlen:=r'.length
    refine call_tuple_list pl.isList (fun h' kp=>?_) (by simp only [List.size_toArray] <;> omega)
    have I1:Inv X pins σ H { s with heap:=h' }:=I.kept (t':=s.toks) kp
    have I2:Inv X pins σ (upd H h'.objs.size (.tup ys)) { s with heap:=h'.push { cls:=.type "tuple",data:=.seq its.toArray } } :=
      I1.laid (t':=s.toks) (fun b o e=>Heap.get?_push_of_some _ e) (Nat.le_refl _) (show ObjOk X.prog X.w _ _ _ (.tup ys) from ⟨hz,its,r',IsTup.new _ _⟩)
    exact ⟨.ref h'.objs.size,_,I2,rfl,q _ (I1.hok.fresh (Nat.le_refl _))⟩
  · obtain ⟨its,r',pl,hz⟩:=I.tuple hq
    exact call_tuple_same pl ⟨.ref p,H,I,rfl,q⟩
def tyV (K:PySem.W.Frag) (T:String) (x:V) (H:Hp):Prop:=match x with
  | .str _=>T="str"
  | .int _=>T="int"
  | .ref p=>(T="list"∧∃ xs,SqL K H p xs)∨(T="tuple"∧∃ o,K.lookup p=some o∧o.cls=.type "tuple"∧o.dict=none) ∨
      (T="dict"∧((∃ kvs,H p=some (.dK kvs))∨∃ kvs,H p=some (.dT kvs)))∨(T="set"∧∃ S n,H p=some (.set S n))
  | _=>False
theorem qnp {pins:List (Addr × Obj)} {σ:St} {H:Hp} {s:Shared} {T:String} {x:V} {v:Value} (I:Inv X pins σ H s) (r:RelV x v) (ty:tyV X.K T x H) :
    s.TypeIs v T∧∀ a,v=.ref a→∃ ob,s.heap.get? a=some ob∧ob.dict=none:=by
  cases x with
  | str z =>
    obtain ⟨t,rfl⟩:=r
    cases (show T="str" from ty)
    exact ⟨typeIs_str s z t,fun _ e=>nomatch e⟩
  | int i =>
    obtain ⟨t,rfl⟩:=r
    cases (show T="int" from ty)
    exact ⟨typeIs_int s i t,fun _ e=>nomatch e⟩
  | ref p =>
    cases r
    rcases ty with ⟨rfl,xs,hq⟩ | ⟨rfl,o,hk,hc,hd⟩ | ⟨rfl,hk⟩ | ⟨rfl,S,n,hk⟩
    · obtain ⟨its,_,pl,_⟩:=I.list hq
      refine ⟨pl.isList.typeIs,fun a e=>?_⟩
      cases e
      obtain ⟨o,n,e,c,hd,_⟩:=pl
      exact ⟨o,e,hd⟩
    · refine ⟨⟨o,I.kIn p o hk,hc⟩,fun a e=>?_⟩
      cases e
      exact ⟨o,I.kIn _ o hk,hd⟩
    · have z:∃ o,s.heap.get? p=some o∧o.ExactDict:=by
        rcases hk with ⟨kvs,hk⟩ | ⟨kvs,hk⟩
        · obtain ⟨_,_,_,_,o,_,_,e,ex,_⟩:=I.hok p _ hk
          exact ⟨o,e,ex⟩
        · obtain ⟨_,_,_,_,o,_,_,e,ex,_⟩:=I.hok p _ hk
          exact ⟨o,e,ex⟩
      obtain ⟨o,e,ex⟩:=z
      refine ⟨⟨o,e,ex.1⟩,fun a e2=>?_⟩
      cases e2
      exact ⟨o,e,ex.2.1⟩
    · obtain ⟨o,_,_,_,e,ex,_⟩:=I.hok p _ hk
      refine ⟨⟨o,e,ex.1⟩,fun a e2=>?_⟩
      cases e2
      exact ⟨o,e,ex.2.1⟩
  | _=>exact False.elim ty
def tBM (K:PySem.W.Frag) (T:String) (r:V→List V→Hp→VK→Prop) (to:TE) (t:TA):TE:=fun σ H Q=>to σ H fun x H1=>tyV K T x H1∧t σ H1 fun xs H2=>r x xs H2 Q
variable {o e : Expr} {es : List Expr} {to : TE} {t : TA} {name : Str} {apos cpos : Pos} {T id : String} {r : V → List V → Hp → VK → Prop}
theorem qnG (pa:PlainAttrs T) (slot:Slot T name id) (hty:typeOf (.builtin id)=pure (.type "method_descriptor")) (hm:MtR X id r) (ho:PE X o to) (ha:PA X (e::es) t)
    (hbase:attributeBase o name X.env (eval o X.env)=eval o X.env:=by rfl)
    (hfew:((backTo cpos (starEach (e::es) X.env)).all (fun x=>!x.1) && (backToKw cpos (keywordEach [] X.env)).all (fun x=>x.1.isSome)
      && decide ((e::es).length+([]:List Keyword).length+(if ([]:List Keyword).isEmpty then 0 else 1)<30))=true:=by rfl)
    (hline:(apos.endLine == cpos.line)=true:=by rfl) (hs:starEach (e::es) X.env=(false,eval e X.env)::starEach es X.env:=by rfl) (hplain:(backTo cpos (starEach es X.env)).any (·.1)=false:=by rfl) :
    PE X (.Call (.Attribute o name apos) (e::es) [] cpos) (tBM X.K T r to t):=by
  intro pins s σ H Q I h
  refine wpAny_Call_method_late hbase hfew hline rfl (thn (ho pins s σ H _ I h) fun v s1 hq0=>?_)
  obtain ⟨x,H1,I1,r1,ty,q1⟩:=hq0
  obtain ⟨h1,h2⟩:=qnp I1 r1 ty
  refine ⟨T,id,pa,slot,hty,h1,h2,?_⟩
  have hA:=ha cpos pins s1 σ H1 _ I1 q1
  rw [hs] at hA ⊢
  refine Calls.callWith_builtin (by show (false || (backTo cpos (starEach es X.env)).any (·.1))=false;rw [hplain] <;> rfl) (Calls.evalArgs_plain ?_)
  exact thn hA fun us s2 hq1=>by obtain ⟨vs,H2,I2,r2,q2⟩:=hq1;exact hm pins s2 σ H2 x vs v us Q I2 r1 r2 q2
end
def MtM (X:Cx) (id:String) (r:V→List V→Hp→VK→Prop):Prop :=
  ∀ (pins:List (Addr × Obj)) (s:Shared) (σ:St) (H:Hp) (x:V) (xs:List V) (v:Value) (us:List Value) (Q:VK),Inv X pins σ H s→RelV x v→Vals xs us→r x xs H Q →
    wpAny (model X.prog X.w) X.A (call (.builtin id) (v::us)) (EP X pins σ Q) X.xe s
theorem Vals.one:∀ {x:V} {us:List Value},Vals [x] us→∃ u,us=[u]∧RelV x u
  | _,_,.cons r .nil=>⟨_,rfl,r⟩
theorem Vals.reverse {xs:List V} {us:List Value} (h:Vals xs us):Vals xs.reverse us.reverse:=by
  induction h with
  | nil=>exact .nil
  | cons r t ih=>rw [List.reverse_cons,List.reverse_cons];exact Vals.append ih (.cons r .nil)
theorem Vals.rep {xs:List V} {us:List Value} (h:Vals xs us):∀ k:Nat,Vals (List.replicate k xs).flatten (List.replicate k us).flatten
  | 0=>.nil
  | k+1=>by
    rw [List.replicate_succ,List.replicate_succ,List.flatten_cons,List.flatten_cons]
    exact Vals.append h (Vals.rep h k)
theorem qdM (its:List Value):∀ (k:Nat) (acc:List Value),
    List.foldl (fun x1 x2=>x1++x2) acc.toArray (List.replicate k its.toArray)=(acc++(List.replicate k its).flatten).toArray
  | 0,acc=>by simp
  | k+1,acc=>by
    have e:acc.toArray++its.toArray=(acc++its).toArray:=by simp
    have e2:(acc++its)++(List.replicate k its).flatten=acc++(List.replicate (k+1) its).flatten:=by
      rw [List.replicate_succ,List.flatten_cons,List.append_assoc]
    rw [← e2,← qdM its k (acc++its),← e,List.replicate_succ,List.foldl_cons]
section
variable {X : Cx} {pins : List (Addr × Obj)} {σ : St} {H : Hp} {s : Shared} {l b : Addr} {xs ys zs : List V}
theorem Inv.lset {its its':List Value} {n:Nat} {f:Array Value→Array Value} {t':Nat} (I:Inv X pins σ H s) (hH:H l=some (.lst xs))
    (e:s.heap.get? l=some { cls:=.type "list",data:=.seq its.toArray n }) (hf:f its.toArray=its'.toArray) (hv:Vals ys its') (hz:ys.length≤sizeLine) :
    Inv X pins σ (upd H l (.lst ys)) { s with heap:=s.heap.update l (Obj.mapSeq f),toks:=t' }:=by
  have q:=PySem.IsL.update e f
  rw [hf] at q
  refine I.write (x:=l) (e:=l) (by rw [hH];exact trivial) (.inl rfl) (fun b' u hb hu=>(Heap.get?_update_other s.heap (Obj.mapSeq f) (Ne.symm hb)).trans hu) ⟨_,q⟩ ?_
  exact ⟨hz,its',_,hv,q⟩
theorem Inv.lnew {its:List Value} {t':Nat} (I:Inv X pins σ H s) (hv:Vals ys its) (hz:ys.length≤sizeLine) :
    Inv X pins σ (upd H s.heap.objs.size (.lst ys)) { s with heap:=s.heap.push { cls:=.type "list",data:=.seq its.toArray },toks:=t' } :=
  I.laid (fun _ _ q=>Heap.get?_push_of_some _ q) (Nat.le_refl _) ⟨hz,its,0,hv,Heap.get?_push_size _ rfl⟩
theorem Inv.fresh (I:Inv X pins σ H s):H s.heap.objs.size=none:=I.hok.fresh (Nat.le_refl _)
theorem Inv.lstM (I:Inv X pins σ H s) (hH:H l=some (.lst xs)):xs.length≤sizeLine∧∃ (its:List Value) (n:Nat),Vals xs its∧xs.length=its.length∧s.heap.get? l=some { cls:=.type "list",data:=.seq its.toArray n }:=by
  obtain ⟨z,its,n,r,e⟩:=I.hok l _ hH
  exact ⟨z,its,n,r,r.length,e⟩
theorem qjc {n:Nat} (h:n≤sizeLine):Builtin.List.listTooLong n=false:=by
  unfold Builtin.List.listTooLong
  exact decide_eq_false (by omega)
end
section
variable {X : Cx}
def qlh:V→List V→Hp→VK→Prop:=fun x vs H Q=>∃ l xs y,x=.ref l∧vs=[y]∧H l=some (.lst xs)∧xs.length<sizeLine∧Q .non (upd H l (.lst (xs++[y])))
theorem qfq:MtM X "list.append" qlh:=by
  intro pins s σ H x vs v us Q I rx rv h
  obtain ⟨l,xs,y,rfl,rfl,hH,hz,q⟩:=h
  cases rx
  obtain ⟨u,rfl,ru⟩:=rv.one
  obtain ⟨z,its,n,r,hl,e⟩:=I.lstM hH
  refine call_meets F.slot_list_append ⟨_,e,rfl⟩ F.entry_list_append (F.args_list_append_2 _ _) (PySem.list_append l its.toArray n u (by rw [List.size_toArray];omega)) ⟨e,?_⟩
  refine ⟨.non,_,I.lset (its':=its++[u]) hH e (by simp) (r.append (.cons ru .nil)) ?_,rfl,q⟩
  rw [List.length_append,List.length_singleton]
  omega
def qps:R2:=fun x y H Q=>∃ l b xs zs,x=.ref l∧y=.ref b∧H l=some (.lst xs)∧H b=some (.lst zs)∧xs.length+zs.length≤sizeLine∧∀ p,H p=none→Q (.ref p) (upd H p (.lst (xs++zs)))
theorem qmL:OpR X (binaryOp .Add) qps:=by
  intro pins s σ H x y v u Q I rx ry h
  obtain ⟨l,b,xs,zs,rfl,rfl,hH,hB,hz,q⟩:=h
  cases rx
  cases ry
  obtain ⟨z,its,n,r,hl,e⟩:=I.lstM hH
  obtain ⟨z2,its2,n2,r2,hl2,e2⟩:=I.lstM hB
  refine PySem.P.add_list e e2 ?_ (by rw [List.size_toArray,List.size_toArray];omega)
  have ea:its.toArray++its2.toArray=(its++its2).toArray:=by simp
  rw [ea]
  exact ⟨.ref _,_,I.lnew (t':=s.toks) (r.append r2) (by rw [List.length_append];omega),rfl,q _ I.fresh⟩
def qoN:R2:=fun x y H Q=>∃ l k xs,x=.ref l∧y=.int k∧H l=some (.lst xs)∧-(2 ^ 63)≤k∧k<2 ^ 63∧xs.length*k.toNat≤sizeLine ∧
  ∀ p,H p=none→Q (.ref p) (upd H p (.lst (List.replicate k.toNat xs).flatten))
theorem qgl {α:Type} (xs:List α) (k:Nat):(List.replicate k xs).flatten.length=k*xs.length:=by
  induction k with
  | zero=>simp
  | succ k ih=>rw [List.replicate_succ,List.flatten_cons,List.length_append,ih,Nat.succ_mul,Nat.add_comm]
theorem qjX:OpR X (binaryOp .Mult) qoN:=by
  intro pins s σ H x y v u Q I rx ry h
  obtain ⟨l,k,xs,rfl,rfl,hH,h1,h2,hz,q⟩:=h
  cases rx
  obtain ⟨t,rfl⟩:=ry
  obtain ⟨z,its,n,r,hl,e⟩:=I.lstM hH
  have hlen:its.toArray.size*k.toNat≤sizeLine:=by rw [List.size_toArray,← hl];exact hz
  have hcap:¬ its.toArray.size*k.toNat>(2 ^ 63 - 1) / 8:=by
    have:(sizeLine:Nat)≤(2 ^ 63 - 1) / 8:=by decide
    omega
  have hfit:¬ (!Builtin.List.listFitsIndex k)=true:=by
    rw [fitsIndex_both h1 h2]
    exact Bool.false_ne_true
  have hlong:¬ Builtin.List.listTooLong (its.toArray.size*k.toNat)=true:=by
    rw [qjc hlen]
    exact Bool.false_ne_true
  have hnew:List.foldl (fun x1 x2=>x1++x2) #[] (List.replicate (if its.toArray.isEmpty=true then 0 else k.toNat) its.toArray)=(List.replicate k.toNat its).flatten.toArray:=by
    have f0:∀ m:Nat,List.foldl (fun x1 x2=>x1++x2) #[] (List.replicate m its.toArray)=(List.replicate m its).flatten.toArray:=fun m=>by
      have:=qdM its m []
      rw [List.nil_append] at this
      exact this
    rw [f0]
    cases its with
    | nil=>simp
    | cons a r'=>rw [if_neg (by simp)]
  refine wpAny_binaryOp_repeat_ref (T:="list") (U:="int") (by decide) ⟨_,e,rfl⟩ (fun s'=>typeIs_int s' k t) noFill_list_mul F.fills_int_mul F.slot_int_rmul repeat_list F.slot_int_index.lookup
    (call_meets F.slot_int_rmul (typeIs_int s k t) F.entry_int_rmul (F.args_int_rmul_2 _ _) (int___rmul___int_list k t l its.toArray n)
      ⟨e,rfl,⟨_,e,rfl⟩,call_meets F.slot_list_mul ⟨_,e,rfl⟩ F.entry_list_mul (F.args_list_mul_2 _ _) (AutoListH.list___mul___list_int_3 l its.toArray n k t hfit hcap hlong) ⟨e,?_⟩⟩)
  rw [hnew]
  exact ⟨.ref _,_,I.lnew (t':=s.toks) (r.rep k.toNat) (by rw [qgl,Nat.mul_comm];exact hz),rfl,q _ I.fresh⟩
end
section
variable {prog : Program} {w : World} {A : Around} {E : Value → Shared → Prop} {s : Shared}
end
section
variable {X : Cx}
end
end L2
namespace Att
open PySem PySem.W PySem.Calls PyProof.Rows
theorem qdJ {P:Params} {h:Heap}:∀ (ns:List Int) (vs:List Value),WellAll P h vs (ns.map WData.int)→IntsAre vs ns:=by
  intro ns
  induction ns with
  | nil =>
    intro vs w
    rw [List.map_nil] at w
    cases w
    exact .nil
  | cons n ns ih =>
    intro vs w
    rw [List.map_cons] at w
    cases w with
    | cons a b =>
      cases a
      exact .cons _ _ (ih _ b)
theorem qhP {l:OpenLaw} {n:Nat} (hn:l.most=some n) {P:Params} {h:Heap} {args:List WData} {vals:List Value}
    (hpre:l.row.toRowW.claim.pre args=true) (hwl:WellAll P h vals args) :
    ∃ a vs ns,vals=[Value.ref a]∧args=[WData.list (ns.map WData.int)]∧h.get? a=some { cls:=.type "list",data:=.seq vs.toArray }∧IntsAre vs ns∧ns.length≤n:=by
  have hsh:WShape.hasAll [] args [.list .int]=true:=(pre_splitW hpre).1
  have hc:l.pre.holds [] { args:=args }=true:=(pre_splitW hpre).2
  obtain ⟨d,r,rfl,h1,h2⟩:=hasAllW_cons hsh
  obtain rfl:=hasAllW_nil h2
  obtain ⟨xs,rfl,h3⟩:=hasW_list h1
  obtain ⟨ns,rfl⟩:=items_int h3
  have hlen:ns.length≤n:=by
    unfold OpenLaw.pre at hc
    have h4:(WTm.not (.lt (.lit (.int (n:Int))) (.len (.arg 0)))).holds [] { args:=[.list (ns.map .int)] }=true:=by
      have h4:=(holds_andW hc).1
      rw [hn] at h4
      exact h4
    have h5:=condW_of h4 (w_not (w_lt w_lit (w_len_list (w_arg rfl))))
    rw [List.length_map] at h5
    refine Nat.le_of_not_lt fun q=>?_
    have q':(n:Int)<((ns.length:Nat):Int):=by omega
    first
      | (rw [decide_eq_true q'] at h5;exact absurd h5 (by decide))
      | (simp at h5;omega)
  cases hwl with
  | cons w1 w2 =>
    cases w2
    cases w1 with
    | list ho hall=>exact ⟨_,_,ns,rfl,rfl,ho,qdJ ns _ hall,hlen⟩
theorem qii (l:OpenLaw) (args:List WData):l.row.toRowW.claim.post args (.bool true) args=true :=
  postW_of (r:=l.row.toRowW) (X:=(true == true))
    (show WShape.has [] (.bool true) .bool=true by first | rfl | decide | simp [WShape.has,WShape.arms,WShape.armsAll])
    (show (WTm.eq .res (.lit (.bool true))).value [] { args:=args,res:=some (.bool true),after:=args }=some (.bool (true == true)) from w_eq_bool (w_res rfl) w_lit) rfl
theorem attach_call {l:OpenLaw} {n:Nat} {q:Program} {loose:List Str} {XP:(Str→Option Value)→Heap→Prop} {YP:World→Heap→Prop} {d:DefRec}
    (hn:l.most=some n) (hdf:d.params.defaults=[])
    (call:∀ (w:World) (s₀ s₁:Shared) (mg mb:Str→Option Value) (fa:Addr) (o:Obj) (pm cd doc:Value) (a:Addr) (vs:List Value) (ns:List Int),
      Ground q loose [] XP w s₀ mg mb s₁.heap→YP w s₁.heap →
      s₁.heap.get? fa=some o→o.data=.func (docDef d.name d.params d.body d.scope pm cd doc)→s₁.heap.CodeRec cd d.name→mg d.name=some (.ref fa) →
      s₁.heap.get? a=some { cls:=.type "list",data:=.seq vs.toArray }→IntsAre vs ns→ns.length≤n→s₁.gens=#[] →
      codeAny (model l.prog w) callerA (.call (.ref fa) ⟨[.ref a],[]⟩) (fun r s'=>r=.ok (.ret (.bool true))∧OldK s₁.heap s'.heap∧s'.os=s₁.os∧AllBare s'.gens) s₁) :
    WalkO q loose XP YP l.row.toRowW d [] (fun f vs=>PySem.call f vs):=by
  intro w s₀ s₁ mg mb G Y fa o pm cd doc dV kV ho hd hcd hD hmg hg args vals as hpre hlay hrd hwl hlo
  obtain rfl:dV=.none:=Dflts.none hD hdf
  obtain rfl:kV=.none:=Dflts.noKw hD
  obtain ⟨a,vs,ns,rfl,rfl,hobj,hints,hlen⟩:=qhP hn hpre hwl
  refine enter_call (codeAny_mono (call w s₀ s₁ mg mb fa o pm cd doc a vs ns G Y ho (fd_plain hd) hcd hmg hobj hints hlen hg) fun r s' hq=>?_)
  obtain ⟨rfl,h2,h3,h4⟩:=hq
  exact ⟨.inl ⟨.bool true,.bool true,[],rfl,fun _=>rfl,.bool true,qii l _,fun _=>⟨List.Pairwise.nil,fun _ hm=>(nomatch hm)⟩⟩,h2,h3,h4⟩
section
variable {prog : Program} {w : World} {A : Around} {E : Value → Shared → Prop} {s : Shared} {K : Frag}
def noObjs (h:Heap):Heap:={ h with objs:=#[] }
theorem noObjs_get (h:Heap) (b:Addr):(noObjs h).get? b=none:=by
  cases e:(noObjs h).get? b with
  | none=>rfl
  | some o=>exact absurd (Heap.lt_size e) (Nat.not_lt_zero _)
theorem fr_all {h:Heap} {L:Addr} {m:Str→Option Value} (n:h.Ns L m):Fr (noObjs h) L h m :=
  ⟨n,fun b o e=>(by rw [noObjs_get] at e;cases e),Nat.zero_le _⟩
end
end Att
namespace L2
open PySem PySem.Spec PyProof.Rows
theorem qfj:∀ {vs:List Value} {ns:List Int},IntsAre vs ns→Vals (ns.map V.int) vs
  | _,_,.nil=>.nil
  | _,_,.cons n t h=>.cons ⟨t,rfl⟩ (qfj h)
end L2
/- THE LAST THEOREM (shape;LID,My.* are yours):
   My.Adr: a structure of the addresses that your layer names (classes,functions);My.Txt K t: a structure (Prop) of the equations over K;
   My.txt_mk:{K} {implicit addresses ..} (e1:nsIn K mainGlobals "law"=some (some (.ref f))) (e2:K.lookup f=some ⟨oc,od,.func (fnOf "law" "law" params body scope dV kV doc pm an cdv ct),sl⟩) (e3:codeIn K cdv "law"=true) ..:∃ t,My.Txt K t
set_option maxRecDepth 100000 in
set_option maxHeartbeats 0 in
theorem PySem.Challenge.cw_LID_holds : PySem.Challenge.rw_LID.Holds := by
  w_on;o_law;k_head;(case hw=>w_witness2)
  k_fill
  refine L2.walk_of (l:=PySem.Challenge.rw_LID) (n:=63) (k:=40) (x:="script") (CX:=fun w=>..) (sp:=fun _=>My.sp_law) rfl (by decide) rfl ⟨rfl,by decide,by decide⟩ (fun w h Y=>PySem.W.kIn_of Y) ?F ?S ?C
  case F =>
    intro w mg fa h KX G hmg
    have T:∃ t,My.Txt (L2.KOf KX) t:=by
      dsimp only [L2.KOf]                          -- K must stand as «<heap const> w.params» for k_is
      refine' My.txt_mk ?e1 ?e2 ?e3 ..
      (case e1=>PySem.W.k_is)                    -- in the order: a name -> its address -> its object -> its parts
      (case e2=>PySem.W.k_is)
      ..
    obtain ⟨t,T⟩:=T
    have e0:=hmg.symm.trans (PySem.W.mg_of KX G T.law)
    cases e0                                       -- fa is the law's own address
    exact ⟨_,fun s u=>.of_eq rfl,fun base kb nb=>My.law_fn T kb nb⟩     -- if «.of_eq rfl» comes too early: refine' ⟨_,?b,fun base kb nb=>My.law_fn T kb nb⟩;exact fun s u=>.of_eq rfl
  case S=>exact fun w H a ns hl hO hS=>..
  case C=>exact ..
(the tactic k_is has no namespace: write k_is) -/
namespace L2
open PySem PySem.Spec PyProof.Rows
def qlE (s:Stmt) (j:Nat):Stmt:=match s with
  | .ClassDef _ _ _ body _ _ _ _ _ _ _=>body.getD j (.Pass ⟨0,0,0,0⟩)
  | _=>.Pass ⟨0,0,0,0⟩
def qbA (s:Stmt):Arguments:=match s with
  | .FunctionDef _ a _ _ _ _ _ _ _ _=>a
  | _=>{ posonlyargs:=[],args:=[],vararg:=none,kwonlyargs:=[],kw_defaults:=[],kwarg:=none,defaults:=[] }
def qa7 (s:Stmt):List Stmt:=match s with
  | .FunctionDef _ _ b _ _ _ _ _ _ _=>b
  | _=>[]
def qaf (s:Stmt):Scope:=match s with
  | .FunctionDef _ _ _ _ _ _ sc _ _ _=>sc
  | _=>{ kind:=.function,names:=[],isGenerator:=false,isCoroutine:=false }
abbrev CX0:CXT:=fun _ _ _ _ _ _=>False
abbrev E0:XK:=fun _ _ _=>False
theorem qlp {X:Cx}:qdu CX0 X E0:=fun _ _ _ _ _ _ _ h=>h.elim
structure Fun (K:PySem.W.Frag) (x qual:Str) (st:Stmt) (f:Addr) (fd:FuncData):Prop where
  ex:∃ (oc:Value) (od:Option Addr) (kV doc pm:Value) (an:Option Addr) (cdv ct:Value) (osl:Array (Option Value)),
    fd=PySem.W.fnOf x qual (qbA st) (qa7 st) (qaf st) .none kV doc pm an cdv ct∧K.lookup f=some ⟨oc,od,.func fd,osl⟩∧PySem.W.codeIn K cdv qual=true
  kp:PySem.W.keepIn K (.ref f)=true
section
variable {P : Program} {w : World} {K : PySem.W.Frag} {mg : Str → Option Value} {base : Heap}
theorem Fun.ok {x qual:Str} {st:Stmt} {f:Addr} {fd:FuncData} {N ps:List Str} {k:Nat} {sp:Sp} (F:Fun K x qual st f fd) (S:FnScope N ps (qaf st)) (len:∀ vs H Q E,sp vs H Q E→vs.length=ps.length)
    (hbody:∀ (cdv:Value) (A:Around) (outer:List Env) (s:Shared) (H:Hp) (vs:List V) (Q:VK) (E:XK),Room k (A.deeper (envOfC qual (qaf st) s.heap.objs.size f cdv))→sp vs H Q E →
      ∃ t,PSs (qjb CX0 P w K mg base N qual (qaf st) f cdv A outer s H E).nox (qa7 st) t∧t { nx:=fun _ H'=>Q .non H',rt:=Q } (start N vs) H):FnOk P w K mg base CX0 (k+1) f fd ps sp:=by
  obtain ⟨oc,od,kV,doc,pm,an,cdv,ct,osl,rfl,lk,hcd⟩:=F.ex
  refine qmo lk hcd S len fun A outer s H vs Q E hr hsp=>?_
  obtain ⟨t,h,q⟩:=hbody cdv A outer s H vs Q E hr hsp
  exact ⟨t,h.nox,q⟩
theorem Fun.binds {x qual:Str} {st:Stmt} {f:Addr} {fd:FuncData} {ps:List Str} (F:Fun K x qual st f fd)
    (h:∀ (kV doc pm:Value) (an:Option Addr) (cdv ct:Value) (us:List Value),us.length=ps.length→bindArgs (PySem.W.fnOf x qual (qbA st) (qa7 st) (qaf st) .none kV doc pm an cdv ct) ⟨us,[]⟩=pure (ps.zip us)):Binds K fd ps []:=by
  obtain ⟨oc,od,kV,doc,pm,an,cdv,ct,osl,rfl,lk,hcd⟩:=F.ex
  exact .all (h kV doc pm an cdv ct)
theorem qh0 {x qual:Str} {st:Stmt} {f:Addr} {oc:Value} {od an:Option Addr} {osl:Array (Option Value)} {kV doc pm cdv ct:Value} (l:K.lookup f=some ⟨oc,od,.func (PySem.W.fnOf x qual (qbA st) (qa7 st) (qaf st) .none kV doc pm an cdv ct),osl⟩)
    (c:PySem.W.codeIn K cdv qual=true) (k:PySem.W.keepIn K (.ref f)=true):Fun K x qual st f (PySem.W.fnOf x qual (qbA st) (qa7 st) (qaf st) .none kV doc pm an cdv ct):=⟨⟨oc,od,kV,doc,pm,an,cdv,ct,osl,rfl,l,c⟩,k⟩
end
theorem qam {n:Nat} (h:n≤1000):n<sizeLine:=Nat.lt_of_le_of_lt h (by decide)
section
variable {X : Cx}
theorem pv (i:Nat) {x:Str} {pos:Pos} (hN:X.N[i]?=some x:=by rfl) (hv:Vis X.env.scope x:=by first | exact Or.inl rfl | exact Or.inr (Or.inl rfl) | exact Or.inr (Or.inr rfl)) (hd:(x == ("__debug__":Str))=false:=by decide)
    (hcd:(x == ("__classdict__":Str))=false:=by decide):PE X (.Name x pos) (qoF i):=qlV hN hv hd hcd
end
theorem qn5 {A B:Prop} (h:B):if false=true then A else B:=by
  rw [if_neg Bool.false_ne_true]
  exact h
theorem qn7 {A B:Prop} (h:A):if true=true then A else B:=by
  rw [if_pos rfl]
  exact h
def Same (H H':Hp):Prop:=∀ b o,H b=some o→H' b=some o
theorem Same.refl (H:Hp):Same H H:=fun _ _ h=>h
theorem Same.trans {H H1 H2:Hp} (a:Same H H1) (b:Same H1 H2):Same H H2:=fun c o h=>b c o (a c o h)
theorem Same.free {H H':Hp} (e:Same H H') {l:Addr} (h:H' l=Option.none):H l=Option.none:=by
  cases q:H l with
  | none=>rfl
  | some o =>
    rw [e l o q] at h
    cases h
theorem Same.seq {K:PySem.W.Frag} {H H':Hp} {a:Addr} {xs:List V} (e:Same H H') (h:SqL K H a xs):SqL K H' a xs:=by
  rcases h with (h | ⟨o,h⟩) | h
  · exact .inl (.inl (e _ _ h))
  · exact .inl (.inr ⟨o,e _ _ h⟩)
  · exact .inr h
section
variable {κ : Type} [DecidableEq κ]
end
section
variable {P : Program} {w : World} {H : Hp} {h : Heap} {a : Addr}
end
section
variable {X : Cx} {pins : List (Addr × Obj)} {σ : St} {H : Hp} {s : Shared} {a : Addr} {y v : V} {u r : Value} {o : Option V} {A : Around} {E : Value → Shared → Prop}
end
section
variable {X : Cx} {pins : List (Addr × Obj)} {σ : St} {H : Hp} {s : Shared} {a : Addr} {kvs : List (Key × V)} {k : Key} {u : Value} {A : Around} {E : Value → Shared → Prop}
end
section
variable {X : Cx} {o i e value : Expr} {pos pos' tpos : Pos} {td ty tv : TE}
end
section
variable {X : Cx} {pos : Pos}
end
end L2
set_option maxHeartbeats 4000000
namespace L2
open PySem PySem.Spec PyProof.Rows
theorem qg4 {env:Env} (names:List (Str × NameKind)) (hf:∀ x∈names,x.2=.free→∃ c,env.cells.lookup x.1=some c):∀ acc:List (Str × Addr),
    ∃ cl:List (Str × Addr),(forIn names acc (fun (x:Str × NameKind) cs=>if (x.2 == .free)=true then do let a ← cellOf env x.1;pure (ForInStep.yield ((x.1,a)::cs)) else pure (ForInStep.yield cs)):Sem (List (Str × Addr)))=pure cl ∧
      (∀ p∈cl,p∈acc∨env.cells.lookup p.1=some p.2)∧(∀ p∈acc,p∈cl)∧∀ x,(x,NameKind.free)∈names→∃ c,(x,c)∈cl:=by
  induction names with
  | nil=>intro acc;exact ⟨acc,rfl,fun p hp=>.inl hp,fun _ hp=>hp,fun x hx=>by simp at hx⟩
  | cons n r ih =>
    intro acc
    obtain ⟨n,k⟩:=n
    have hr:∀ x∈r,x.2=.free→∃ c,env.cells.lookup x.1=some c:=fun x hx=>hf x (List.mem_cons_of_mem _ hx)
    by_cases hk:k=.free
    · subst hk
      obtain ⟨c,hc⟩:=hf (n,.free) List.mem_cons_self rfl
      obtain ⟨cl,e,h1,h2,h3⟩:=ih hr ((n,c)::acc)
      refine ⟨cl,?_,fun p hp=>?_,fun p hp=>h2 p (List.mem_cons_of_mem _ hp),fun x hx=>?_⟩
      · rw [List.forIn_cons,← e]
        have q:cellOf env n=pure c:=by unfold cellOf;rw [hc]
        simp [q]
      · rcases h1 p hp with z | z
        · rcases List.mem_cons.mp z with rfl | z
          · exact .inr hc
          · exact .inl z
        · exact .inr z
      · rcases List.mem_cons.mp hx with z | z
        · cases z;exact ⟨c,h2 _ List.mem_cons_self⟩
        · exact h3 x z
    · obtain ⟨cl,e,h1,h2,h3⟩:=ih hr acc
      refine ⟨cl,?_,h1,h2,fun x hx=>?_⟩
      · rw [List.forIn_cons,← e]
        have q:(k == NameKind.free)=false:=by simpa using hk
        simp [q]
      · rcases List.mem_cons.mp hx with z | z
        · cases z;exact absurd rfl hk
        · exact h3 x z
theorem qeP {cl:List (Str × Addr)} {cells:List (Str × Addr)} (h:∀ p∈cl,cells.lookup p.1=some p.2):∀ x c,cl.lookup x=some c→cells.lookup x=some c:=fun x c e=>h (x,c) (PySem.mem_of_lookup e)
theorem qhl {cl:List (Str × Addr)} {x:Str} {c:Addr}:(x,c)∈cl→∃ c',cl.lookup x=some c':=by
  induction cl with
  | nil=>intro h;simp at h
  | cons p r ih =>
    intro h
    rw [List.lookup_cons]
    cases e:x == p.1 with
    | true=>exact ⟨_,rfl⟩
    | false =>
      rcases List.mem_cons.mp h with z | z
      · subst z;simp at e
      · exact ih z
theorem qbV {scope:Scope} {env:Env} (hf:∀ x∈scope.names,x.2=.free→∃ c,env.cells.lookup x.1=some c) :
    ∃ cl,closureFor scope env=pure cl∧(∀ x c,cl.lookup x=some c→env.cells.lookup x=some c)∧∀ x,(x,NameKind.free)∈scope.names→∃ c,cl.lookup x=some c:=by
  obtain ⟨cl,e,h1,_,h3⟩:=qg4 (env:=env) scope.names hf []
  refine ⟨cl,?_,qeP fun p hp=>(h1 p hp).elim (fun z=>by simp at z) id,fun x hx=>?_⟩
  · unfold closureFor
    simp only
    rw [← e]
    simp
  · obtain ⟨c,hc⟩:=h3 x hx
    exact qhl hc
theorem qcp {env:Env}:∀ {names:List (Str × NameKind)} {x:Str} {k:NameKind},
    (names.map fun (n,k)=>if (k == NameKind.free && env.scope.kind == .function && env.kindOf n == some .cell) then (n,NameKind.cell) else (n,k)).lookup x=some k→(k=.cell∨k=.free)→(x,NameKind.free)∈names∨(x,NameKind.cell)∈names
  | [],_,_,h,_=>by simp at h
  | (n,k)::r,x,kk,h,hk=>by
    have ih:=@qcp env r x kk
    have h:List.lookup x ((if (k == NameKind.free && env.scope.kind == .function && env.kindOf n == some .cell)=true then (n,NameKind.cell) else (n,k))::_)=_:=h
    by_cases hb:(k == NameKind.free && env.scope.kind == .function && env.kindOf n == some .cell)=true
    · rw [if_pos hb] at h
      have kf:k=.free:=by
        simp only [Bool.and_eq_true,beq_iff_eq] at hb
        exact hb.1.1
      rw [List.lookup_cons] at h
      cases e:x == n with
      | true =>
        have:x=n:=by simpa using e
        subst this;subst kf
        exact .inl List.mem_cons_self
      | false =>
        simp only [e] at h
        exact (ih h hk).imp (List.mem_cons_of_mem _) (List.mem_cons_of_mem _)
    · rw [if_neg hb] at h
      rw [List.lookup_cons] at h
      cases e:x == n with
      | true =>
        have kk':k=kk:=by simpa [e] using h
        have:x=n:=by simpa using e
        subst this
        subst kk'
        rcases hk with rfl | rfl
        · exact .inr List.mem_cons_self
        · exact .inl List.mem_cons_self
      | false =>
        simp only [e] at h
        exact (ih h hk).imp (List.mem_cons_of_mem _) (List.mem_cons_of_mem _)
def qaR (X:Cx) (scope:Scope) (N':List Str) (cl:List (Str × Addr)) (C:Addr) (s0:Shared) (H0:Hp) (fp:List Addr):Cx where
  prog:=X.prog
  w:=X.w
  K:=X.K
  mg:=X.mg
  base:=X.base
  A:=X.A
  N:=N'
  s₀:=s0
  H₀:=H0
  env:=compEnvC scope cl C X.env
  outer:=X.stack
  stack:=X.stack
  ex:=fp
  fn:=fun x=>scope.names.lookup x == some .cell
  calm:=X.calm
  pn:=[]
  xe:=fun _ _=>False
def qb4 (cap:List (Option Nat)) (σ:St):St:=cap.map fun o=>o.bind fun i=>(σ[i]?).join
structure CompScope (N:List Str) (sc scope:Scope) (N':List Str) (cap:List (Option Nat)):Prop where
  kind:scope.kind=.function
  cel:∀ x∈scope.names,x.2=.cell→scope.names.lookup x.1=some .cell
  names:∀ x∈scope.names,x.2=.local→scope.names.lookup x.1=some .local
  free:∀ x∈scope.names,x.2=.free→sc.names.lookup x.1=some .cell
  fst:∀ x∈scope.names,x.2=.free→scope.names.lookup x.1=some .free
  nd:N'.Nodup
  len:cap.length=N'.length
  at_:∀ p∈cap.zip N',∀ i,p.1=some i→N[i]?=some p.2∧(p.2,NameKind.free)∈scope.names
def qlO (X:Cx) (ifs:List Expr) (t:TT):Prop :=
  ∀ (pins:List (Addr × Obj)) (s:Shared) (σ:St) (H:Hp) (Q:Bool→Hp→Prop),Inv X pins σ H s→t σ H Q →
    wpAny (model X.prog X.w) X.A (forIn ifs true fun c r=>if r=true then do let ok ← isTrue c X.env (eval c X.env);pure (ForInStep.yield ok) else pure (ForInStep.yield r)) (TP X pins σ Q) X.xe s
def qoG:TT:=fun _ H Q=>Q true H
theorem qiS {X:Cx}:qlO X [] qoG:=fun _ _ _ H _ I h=>wpAny_tests_nil ⟨H,I,h⟩
theorem qjC {X:Cx} {c:Expr} {t:TT} (h:PT X c t):qlO X [c] t:=fun pins s σ H Q I hw=>wpAny_tests_one (h pins s σ H Q I hw)
def qeL (wi:TI) (cap:List (Option Nat)) (g:TG) (tc:TT) (te:TE):TE:=fun σ H Q=>wi σ H fun J H1=>∀ D,H1 D=none→∃ W:Nat→Nat→St→Hp→Prop,(∃ m,W 0 m (qb4 cap σ) (upd H1 D (.lst []))) ∧
  ∀ i m σ' H',W i m σ' H'→(J.stop i H'∧Q (.ref D) H')∨(J.go i H'∧∃ N:St→Hp→Prop,(∀ σ2 H2,N σ2 H2→∃ m',m'<m∧W (i+1) m' σ2 H2) ∧
    ∀ x H2,J.yld i H' x H2→g x σ' H2 fun σ3 H3=>tc σ3 H3 fun b H4=>if b=true then te σ3 H4 fun y H5=>∃ ys,H5 D=some (.lst ys)∧ys.length<sizeLine∧N σ3 (upd H5 D (.lst (ys++[y]))) else N σ3 H4)
theorem qfR {prog:Program} {w:World} {A:Around} {R:Result→Shared→Prop} {s:Shared} {elt target iter:Expr} {ifs:List Expr} {scope:Scope} {pos:Pos} {it acc:Value} {env:Env} (I:Nat→Shared→Prop)
    (turn:∀ n s,I n s→wpAny (model prog w) A (pyNext it) (fun r s₁=>match r with
      | none=>R (.ok .next) s₁
      | some v=>wpAny (model prog w) A (letOwnedTupleGo target it v) (fun _ s₁'=>wpAny (model prog w) A (assign target env v) (fun _ s₂ =>
          wpAny (model prog w) A (forIn ifs true fun c r=>if r=true then do let ok ← isTrue c env (eval c env);pure (ForInStep.yield ok) else pure (ForInStep.yield r)) (fun ok s₃ =>
            if ok=true then wpAny (model prog w) A (eval elt env) (fun x s₄ =>
              wpAny (model prog w) A (call (.builtin "list.append") [acc,x]) (fun _ s₅=>∃ m,m<n∧I m s₅) (fun _ _=>False) s₄) (fun _ _=>False) s₃
            else ∃ m,m<n∧I m s₃) (fun _ _=>False) s₂) (fun _ _=>False) s₁') (fun _ _=>False) s₁) (fun _ _=>False) s)
    (n:Nat) (h:I n s):codeAny (model prog w) A (.compLoop (.ListComp elt [⟨target,iter,ifs,0⟩] scope pos) 0 it acc env) R s:=by
  refine codeAny_loop rfl I (fun n s hI=>?_) n h
  show wpAny _ A ((compTurn (.ListComp elt [⟨target,iter,ifs,0⟩] scope pos) 0 it acc env).onRaise (fun x=>do noteFrame x env;theTreesLotGoes x)) _ _ s
  refine wpAny_noted ?_
  rw [compTurn_list]
  refine wpAny_bind (wpAny_standAt (wpAny_bind (wpAny_mono (turn n s hI) (fun r s₁ h₁=>?_) fun _ _ h'=>h'.elim)))
  cases r with
  | none=>exact wpAny_pure h₁
  | some v =>
    refine wpAny_bind (wpAny_mono h₁ (fun _ s₁' h₁'=>?_) fun _ _ h'=>h'.elim)
    refine wpAny_bind (wpAny_mono h₁' (fun _ s₂ h₂=>wpAny_bind (wpAny_mono h₂ (fun ok s₃ h₃=>?_) fun _ _ h'=>h'.elim)) fun _ _ h'=>h'.elim)
    cases ok with
    | false=>exact wpAny_pure ⟨rfl,h₃⟩
    | true =>
      exact wpAny_bind (wpAny_bind (wpAny_mono h₃ (fun x s₄ h₄=>wpAny_bind (wpAny_mono h₄ (fun _ s₅ h₅=>wpAny_pure (wpAny_pure ⟨rfl,h₅⟩)) fun _ _ h'=>h'.elim)) fun _ _ h'=>h'.elim))
section
variable {X : Cx} {elt tg iter : Expr} {ifs : List Expr} {scope : Scope} {pos : Pos} {N' : List Str} {cap : List (Option Nat)} {wi : TI} {g : TG} {tc : TT} {te : TE}
theorem qbd:∀ (names:List (Str × NameKind)) (n:Nat) (acc:List (Str × Addr)),cellsFrom n names acc=cellsFrom n names []++acc
  | [],_,_=>rfl
  | (x,k)::r,n,acc=>by
    unfold cellsFrom
    split
    · rw [qbd r (n+1) ((x,n)::acc),qbd r (n+1) [(x,n)],List.append_assoc];rfl
    · exact qbd r n acc
theorem qb1:∀ (names:List (Str × NameKind)) (n:Nat) {x:Str} {c:Addr},(x,c)∈cellsFrom n names []→(x,NameKind.cell)∈names
  | [],_,_,_,h=>by simp [cellsFrom] at h
  | (y,k)::r,n,x,c,h=>by
    unfold cellsFrom at h
    split at h
    · rename_i hk
      rw [qbd] at h
      rcases List.mem_append.mp h with h | h
      · exact List.mem_cons_of_mem _ (qb1 r _ h)
      · have e:=List.mem_singleton.mp h
        cases e
        have:k=.cell:=by simpa using hk
        subst this
        exact List.mem_cons_self
    · exact List.mem_cons_of_mem _ (qb1 r _ h)
theorem qjO {M:Model} {A:Around} {E:Value→Shared→Prop} {s:Shared} {globals:Addr} {cl:List (Str × Addr)} {qual:Str} {outer:Env} {Q:Env→Shared→Prop}
    (hQ:∀ h',h'.Ns s.heap.objs.size (fun _=>none)→(∀ b o,s.heap.get? b=some o→h'.get? b=some o)→CellsOk h' (s.heap.objs.size+1) (cellsFrom (s.heap.objs.size+1) scope.names []) →
      Q { scope:=scope,locals:=s.heap.objs.size,globals:=globals,cells:=cellsFrom (s.heap.objs.size+1) scope.names []++cl,qual:=qual,func:=none,code:=outer.code,frame:=outer.frame,builtins:=outer.builtins } { s with heap:=h' }) :
    wpAny M A (newFunctionEnv scope globals cl [] qual none .none (some outer)) Q E s:=by
  simp only [newFunctionEnv,Option.isSome_some,if_true]
  refine wpAny_bind (wpAny_alloc ?_)
  refine wpAny_bind (wpAny_layCells _ (fun name kind cells=>by cases hkc:kind == NameKind.cell <;> simp [hkc]) _ _ _ _ ?_)
  have ok:=cellsFrom_ok scope.names (s.heap.push { cls:=.type "dict",data:=.dict #[] }) (s.heap.objs.size+1) [] ⟨fun _ _ hm=>(nomatch hm),List.Pairwise.nil⟩ (by rw [Heap.size_push];exact Nat.le_refl _)
  rw [Heap.size_push] at ok
  rw [show ({ s with heap:=s.heap.push { cls:=.type "dict",data:=.dict #[] } }:Shared).heap.objs.size=s.heap.objs.size+1 from Heap.size_push ..,qbd]
  refine wpAny_bind ?_
  rw [List.forIn_nil]
  exact wpAny_pure (wpAny_pure (hQ _ ((Heap.Ns.new s.heap (.type "dict")).keeps (pushCells_keeps _ _)) (fun b o e=>pushCells_keeps _ _ b o (Heap.get?_push_of_some _ e)) ok))
theorem qiU {pins:List (Addr × Obj)} {σ:St} {H:Hp} {s s4:Shared} {cl nw:List (Str × Addr)} {C:Addr} {fp:List Addr} {m:Str→Option Value} (S:CompScope X.N X.env.scope scope N' cap) (I:Inv X pins σ H s)
    (hcl:∀ x c,cl.lookup x=some c→X.env.cells.lookup x=some c) (hfr:∀ x,(x,NameKind.free)∈scope.names→∃ c,cl.lookup x=some c) (hC:s.heap.objs.size≤C) (hos:s4.os=s.os) (hg:s4.gens=s.gens)
    (hk:∀ b o,s.heap.get? b=some o→s4.heap.get? b=some o) (hn:s4.heap.Ns C m) (hfp:∀ b∈fp,FpOk X pins H b) (hfz:∀ b∈fp,b<s.heap.objs.size) (hw:CellsOk s4.heap (C+1) nw) (hwm:∀ x c,(x,c)∈nw→(x,NameKind.cell)∈scope.names) (hwl:∀ x,(x,NameKind.cell)∈scope.names→∃ c,nw.lookup x=some c) :
    Inv (qaR X scope N' (nw++cl) C s H fp) [] (qb4 cap σ) H s4:=by
  have hlk:∀ x c,(nw++cl).lookup x=some c→((x,c)∈nw∧C<c)∨(nw.lookup x=none∧X.env.cells.lookup x=some c):=fun x c h=>by
    rw [List.lookup_append] at h
    cases e:nw.lookup x with
    | none=>rw [e] at h;exact .inr ⟨rfl,hcl x c (by simpa using h)⟩
    | some c' =>
      rw [e] at h
      have:c'=c:=by simpa using h
      subst this
      exact .inl ⟨PySem.mem_of_lookup e,(hw.empty _ _ (PySem.mem_of_lookup e)).2⟩
  have hold:∀ x c,X.env.cells.lookup x=some c→c<s.heap.objs.size:=fun x c h=>by obtain ⟨v,q⟩:=I.cell x c h;exact q.lt
  have hfr':∀ x,(x,NameKind.free)∈scope.names→∃ c,(nw++cl).lookup x=some c∧X.env.cells.lookup x=some c:=fun x hx=>by
    obtain ⟨c,hc⟩:=hfr x hx
    refine ⟨c,?_,hcl x c hc⟩
    rw [List.lookup_append]
    cases e:nw.lookup x with
    | none=>simpa using hc
    | some c' =>
      have a1:=S.cel _ (hwm x c' (PySem.mem_of_lookup e)) rfl
      have a2:=S.fst _ hx rfl
      have a1:scope.names.lookup x=some .cell:=a1
      have a2:scope.names.lookup x=some .free:=a2
      rw [a1] at a2;cases a2
  refine ⟨⟨I.ok.mod,S.kind,I.ok.glob,I.ok.blt,hC,fun x y c h1 h2=>?_,fun x hx=>?_,fun x c hx h=>?_,I.ok.hd,I.ok.frames,.inl rfl,
      fun b hb=>⟨Nat.ne_of_lt (Nat.lt_of_lt_of_le (hfz b hb) hC),fun x c e=>?_⟩,I.bs,Nat.le_trans I.ok.bsz I.sz,fun b o e hb=>?_,fun b hb hf=>?_,I.stack,I.stkFree⟩,
    hos,by rw [hg];exact I.bare,Un.kept hk,⟨m,hn,fun i x v h1 h2 h3=>?_⟩,fun x c e=>?_,I.hok.fresh hC,fun x c e=>?_,fun p hp=>absurd (show p∈([]:List (Addr × Obj)) from hp) (by simp),I.hok.kept hk,?_⟩
  · rcases hlk x c h1 with ⟨a1,a2⟩ | ⟨_,a2⟩ <;> rcases hlk y c h2 with ⟨b1,b2⟩ | ⟨_,b2⟩
    · exact name_of_addr hw.apart a1 b1
    · exact absurd (hold y c b2) (Nat.not_lt.mpr (Nat.le_trans hC (Nat.le_of_lt a2)))
    · exact absurd (hold x c a2) (Nat.not_lt.mpr (Nat.le_trans hC (Nat.le_of_lt b2)))
    · exact I.ok.inj x y c a2 b2
  · have q:(x,NameKind.free)∈scope.names∨(x,NameKind.cell)∈scope.names:=by
      rcases hx with hx | hx
      · exact qcp hx (.inl rfl)
      · exact qcp hx (.inr rfl)
    rcases q with q | q
    · obtain ⟨c,h,_⟩:=hfr' x q
      exact ⟨c,h⟩
    · obtain ⟨c,h⟩:=hwl x q
      exact ⟨c,by show (nw++cl).lookup x=_;rw [List.lookup_append,h];rfl⟩
  · have hx:(scope.names.lookup x == some .cell)=true:=hx
    have hx:scope.names.lookup x=some .cell:=by simpa using hx
    obtain ⟨c',h'⟩:=hwl x (PySem.mem_of_lookup hx)
    rcases hlk x c h with ⟨_,a2⟩ | ⟨a1,_⟩
    · exact Nat.le_trans hC (Nat.le_of_lt a2)
    · rw [h'] at a1;cases a1
  · rcases hlk x c e with ⟨_,a2⟩ | ⟨_,a2⟩
    · exact fun z=>absurd (hfz b hb) (Nat.not_lt.mpr (Nat.le_trans hC (by rw [← z];exact Nat.le_of_lt a2)))
    · exact (hfp b hb).2.2.2.2.1 x c a2
  · rcases (hfp b hb).2.2.2.1 with z | z
    · exact I.ok.noex b o e z
    · exact absurd (Nat.lt_of_lt_of_le (Heap.lt_size e) (Nat.le_trans I.ok.bsz z)) (Nat.lt_irrefl _)
  · rcases List.mem_cons.mp (I.stkSub b hf) with z | z
    · exact (hfp b hb).2.1 z
    · exact (hfp b hb).2.2.1 z
  · have h2:(cap.map fun o=>o.bind fun i=>(σ[i]?).join)[i]?=some (some v):=h2
    rw [List.getElem?_map] at h2
    cases ec:cap[i]? with
    | none=>rw [ec] at h2;cases h2
    | some o =>
      rw [ec] at h2
      have h2:(o.bind fun i=>(σ[i]?).join)=some v:=by simpa using h2
      cases o with
      | none=>cases h2
      | some j =>
        have h2:(σ[j]?).join=some v:=h2
        have hj:σ[j]?=some (some v):=by
          cases ej:σ[j]? with
          | none=>rw [ej] at h2;cases h2
          | some y=>rw [ej] at h2;exact congrArg some h2
        have hz:(cap.zip N')[i]?=some (some j,x):=by rw [List.getElem?_zip_eq_some];exact ⟨ec,h1⟩
        obtain ⟨q1,q2⟩:=S.at_ _ (List.mem_of_getElem? hz) j rfl
        obtain ⟨mx,hnx,hl⟩:=I.loc
        have kc:=S.free _ q2 rfl
        obtain ⟨u,r,lk⟩:=hl j x v q1 hj (.inr (.inl kc))
        refine ⟨u,r,?_⟩
        rcases lk with ⟨k1,_⟩ | ⟨_,c,e,z⟩
        · have:X.env.scope.names.lookup x=some .local:=k1
          rw [kc] at this;cases this
        · obtain ⟨c',hc',hd'⟩:=hfr' x q2
          rw [e] at hd';cases hd'
          have kx:(compEnvC scope (nw++cl) C X.env).kindOf x=some .cell∨(compEnvC scope (nw++cl) C X.env).kindOf x=some .free∨(compEnvC scope (nw++cl) C X.env).kindOf x=some .local:=by
            rcases h3 with z | z | z
            · exact .inr (.inr z)
            · exact .inl z
            · exact .inr (.inl z)
          rcases kx with kx | kx | kx
          · exact .inr ⟨.inl kx,c,hc',let ⟨o,ho,hd⟩:=z;⟨o,hk c o ho,hd⟩⟩
          · exact .inr ⟨.inr kx,c,hc',let ⟨o,ho,hd⟩:=z;⟨o,hk c o ho,hd⟩⟩
          · exfalso
            have kl:(relabel scope X.env).names.lookup x=some .local:=kx
            have ml:=PySem.mem_of_lookup kl
            obtain ⟨⟨n,k⟩,hm,e2⟩:=List.mem_map.mp ml
            have e2:(if (k == NameKind.free && X.env.scope.kind == .function && X.env.kindOf n == some .cell)=true then (n,NameKind.cell) else (n,k))=(x,NameKind.local):=e2
            split at e2
            · cases e2
            · cases e2
              have a1:=S.names _ hm rfl
              have a3:scope.names.lookup x=some .free:=S.fst _ q2 rfl
              have a1:scope.names.lookup x=some .local:=a1
              rw [a3] at a1;cases a1
  · rcases hlk x c e with ⟨a1,_⟩ | ⟨_,a2⟩
    · exact ⟨none,(hw.empty x c a1).1⟩
    · obtain ⟨v,o,ho,hd⟩:=I.cell x c a2
      exact ⟨v,o,hk c o ho,hd⟩
  · rcases hlk x c e with ⟨_,a2⟩ | ⟨_,a2⟩
    · exact I.hok.fresh (Nat.le_trans hC (Nat.le_of_lt a2))
    · exact I.freeC x c a2
  · show (qb4 cap σ).length=N'.length
    unfold qb4
    rw [List.length_map,S.len]
theorem qei {pins:List (Addr × Obj)} {σ:St} {H2:Hp} {s2:Shared} {it:Addr} {fp:List Addr} {tn:Nat→Heap→Prop} {J:It} {cl:List (Str × Addr)} {RR:Value→Addr→Result→Shared→Prop} {E:Value→Shared→Prop} (hcalm:X.calm=true) (S:CompScope X.N X.env.scope scope N' cap)
    (hg:∀ (cl:List (Str × Addr)) (C:Addr) (s0:Shared) (H0:Hp),PG (qaR X scope N' cl C s0 H0 fp) tg g) (ht:∀ (cl:List (Str × Addr)) (C:Addr) (s0:Shared) (H0:Hp),qlO (qaR X scope N' cl C s0 H0 fp) ifs tc) (he:∀ (cl:List (Str × Addr)) (C:Addr) (s0:Shared) (H0:Hp),PE (qaR X scope N' cl C s0 H0 fp) elt te)
    (I2:Inv X pins σ H2 s2) (T:Turn X.prog X.w X.K tg J fp it tn) (st2:tn 0 s2.heap) (f2:∀ b∈fp,FpOk X pins H2 b)
    (hcl:∀ x c,cl.lookup x=some c→X.env.cells.lookup x=some c) (hfr:∀ x,(x,NameKind.free)∈scope.names→∃ c,cl.lookup x=some c)
    {P:V→Hp→Prop}
    (w:∀ D,H2 D=none→∃ W:Nat→Nat→St→Hp→Prop,(∃ m,W 0 m (qb4 cap σ) (upd H2 D (.lst []))) ∧
      ∀ i m σ' H',W i m σ' H'→(J.stop i H'∧P (.ref D) H')∨(J.go i H'∧∃ N:St→Hp→Prop,(∀ σ2 H2,N σ2 H2→∃ m',m'<m∧W (i+1) m' σ2 H2) ∧
        ∀ x H2,J.yld i H' x H2→g x σ' H2 fun σ3 H3=>tc σ3 H3 fun b H4=>if b=true then te σ3 H4 fun y H5=>∃ ys,H5 D=some (.lst ys)∧ys.length<sizeLine∧N σ3 (upd H5 D (.lst (ys++[y]))) else N σ3 H4))
    (hRR:∀ D C H' s' m',X.env.locals≠C→X.s₀.heap.objs.size≤C→(∀ x c,X.env.cells.lookup x=some c→c≠C)→(∀ p∈X.pn++pins,p.1≠C)→H' C=none→s'.heap.Ns C m'→Inv X pins σ H' s'→P (.ref D) H'→RR (.ref D) C (.ok .next) s') :
    wpAny (model X.prog X.w) X.A (newList []) (fun acc s₃=>wpAny (model X.prog X.w) X.A (newFunctionEnv scope X.env.globals cl [] X.env.qual none .none (some X.env)) (fun cenv s₄ =>
      codeAny (model X.prog X.w) X.A (.compStart (.ListComp elt [⟨tg,iter,ifs,0⟩] scope pos) 0 (.ref it) acc { cenv with scope:=relabel scope X.env }) (RR acc cenv.locals) s₄) E s₃) E s2:=by
  refine wpAny_newObj_type ?_ (by show 0≤sizeLine;decide)
  have I3:Inv X pins σ (upd H2 s2.heap.objs.size (.lst [])) { s2 with heap:=s2.heap.push { cls:=.type "list",data:=.seq ([]:List Value).toArray } }:=I2.lnew (t':=s2.toks) .nil (by show 0≤sizeLine;decide)
  have k3:∀ b o,s2.heap.get? b=some o→(s2.heap.push { cls:=.type "list",data:=.seq ([]:List Value).toArray }).get? b=some o:=fun b o e=>Heap.get?_push_of_some _ e
  have z3:(s2.heap.push { cls:=.type "list",data:=.seq ([]:List Value).toArray }).objs.size=s2.heap.objs.size+1:=Heap.size_push ..
  have hD0:H2 s2.heap.objs.size=none:=I2.fresh
  generalize hs3:({ s2 with heap:=s2.heap.push { cls:=.type "list",data:=.seq ([]:List Value).toArray } }:Shared)=s3 at I3 ⊢
  have eh3:s3.heap=s2.heap.push { cls:=.type "list",data:=.seq ([]:List Value).toArray }:=by rw [← hs3]
  have eo3:s3.os=s2.os:=by rw [← hs3]
  generalize hDD:s2.heap.objs.size=D at I3 hD0 z3 ⊢
  rw [← eh3] at k3 z3
  have live:∀ b∈fp,∃ o,s2.heap.get? b=some o∧∀ v,o.data≠.cell v:=fun b hb=>T.obj 0 _ st2 b hb
  have ltD:∀ b∈fp,b<D:=fun b hb=>by obtain ⟨o,e,_⟩:=live b hb;rw [← hDD];exact Heap.lt_size e
  have f3:∀ b∈fp,FpOk X pins (upd H2 D (.lst [])) b:=fun b hb=>⟨by rw [qau (Nat.ne_of_lt (ltD b hb))];exact (f2 b hb).1,(f2 b hb).2⟩
  refine qjO fun h4 hn4 k4 ok4=>?_
  generalize hnw:cellsFrom (s3.heap.objs.size+1) scope.names []=nw at ok4 ⊢
  have st4:tn 0 h4:=T.keep 0 _ _ st2 fun b _ o e=>k4 b o (k3 b o e)
  have I4:Inv (qaR X scope N' (nw++cl) s3.heap.objs.size s3 (upd H2 D (.lst [])) fp) [] (qb4 cap σ) (upd H2 D (.lst [])) { s3 with heap:=h4 } :=
    qiU S I3 hcl hfr (Nat.le_refl _) rfl rfl k4 hn4 f3 (fun b hb=>by rw [z3];exact Nat.lt_succ_of_lt (ltD b hb)) ok4 (fun x c h=>qb1 _ _ (hnw ▸ h)) fun x h=>hnw ▸ qeH (S.cel _ h rfl)
  obtain ⟨W,⟨m0,w0⟩,turn⟩:=w D hD0
  have fpY:∀ {H':Hp},(∀ b∈fp,H' b=none)→∀ b∈fp,FpOk (qaR X scope N' (nw++cl) s3.heap.objs.size s3 (upd H2 D (.lst [])) fp) [] H' b:=fun hn b hb =>
    ⟨hn b hb,Nat.ne_of_lt (by show b<s3.heap.objs.size;rw [z3];exact Nat.lt_succ_of_lt (ltD b hb)),fun hf=>I4.ok.exfs b hb hf,.inl hb,fun x c e=>(I4.ok.exf b hb).2 x c e,fun p hp=>absurd (show p∈([]:List (Addr × Obj)) from hp) (by simp)⟩
  have loop:∀ s₃:Shared,s₃={ s3 with heap:=h4 } →
      codeAny (model X.prog X.w) X.A (.compLoop (.ListComp elt [⟨tg,iter,ifs,0⟩] scope pos) 0 (.ref it) (.ref D) (compEnvC scope (nw++cl) s3.heap.objs.size X.env)) (RR (.ref D) s3.heap.objs.size) s₃:=by
    rintro s₃ rfl
    refine qfR (fun n s'=>∃ i σ' H',Inv (qaR X scope N' (nw++cl) s3.heap.objs.size s3 (upd H2 D (.lst [])) fp) [] σ' H' s'∧tn i s'.heap∧(∀ b∈fp,H' b=none)∧W i n σ' H') ?_ m0
      ⟨0,qb4 cap σ,upd H2 D (.lst []),I4,st4,fun b hb=>(f3 b hb).1,w0⟩
    rintro n s5 ⟨i,σ5,H5,I5,st5,fr5,w5⟩
    rcases turn i n σ5 H5 w5 with ⟨stop,qn⟩ | ⟨go,N,hN,step⟩
    · refine thn (T.done (qaR X scope N' (nw++cl) s3.heap.objs.size s3 (upd H2 D (.lst [])) fp) rfl rfl rfl hcalm i [] s5 σ5 H5 _ I5 (fpY fr5) st5 stop) fun r s6 hq0=>?_
      obtain ⟨hr,I6⟩:=hq0
      subst hr
      obtain ⟨m6,hn6,_⟩:=I6.loc
      have un:Un (frs X.stack) fp (upd H2 D (.lst [])) H5 s3.heap s6.heap:=I6.base
      refine hRR D s3.heap.objs.size H5 s6 m6 (Nat.ne_of_lt I3.lt) I3.sz (fun x c e=>?_) (fun p hp=>?_) I6.free hn6 ?_ qn
      · obtain ⟨v,q⟩:=I3.cell x c e
        exact Nat.ne_of_lt q.lt
      · exact Nat.ne_of_lt (Heap.lt_size (I3.pin p hp).1)
      · exact I3.call' I6.os un I6.hok I6.bare fun b hb=>⟨(f3 b hb).2.2.2.1,(f3 b hb).2.1,(f3 b hb).2.2.2.2.1,(f3 b hb).2.2.2.2.2⟩
    · refine thn (T.item (qaR X scope N' (nw++cl) s3.heap.objs.size s3 (upd H2 D (.lst [])) fp) rfl rfl rfl hcalm i [] s5 σ5 H5 (fun _ _=>False) I5 (fpY fr5) st5 go) fun r s6 hq1=>?_
      obtain ⟨u,hr,h6⟩:=hq1
      subst hr
      refine thn h6 fun _ s7 hq2=>?_
      obtain ⟨x,H7,I7,r7,y7,st7,fr7⟩:=hq2
      have I7':=I7.pinned (fpY fr7) (T.obj _ _ st7)
      refine thn (hg _ _ _ _ _ s7 σ5 H7 x u _ I7' r7 (step x H7 y7)) fun _ s8 hq3=>?_
      obtain ⟨σ8,H8,I8,q8⟩:=hq3
      refine thn (ht _ _ _ _ _ s8 σ8 H8 _ I8 q8) fun b s9 hq4=>?_
      obtain ⟨H9,I9,q9⟩:=hq4
      have again:∀ {σ9:St} {H9:Hp} {s9:Shared},Inv (qaR X scope N' (nw++cl) s3.heap.objs.size s3 (upd H2 D (.lst [])) fp) ([]++qfa fp s7.heap) σ9 H9 s9→N σ9 H9→∃ m,m<n∧∃ i σ' H',Inv (qaR X scope N' (nw++cl) s3.heap.objs.size s3 (upd H2 D (.lst [])) fp) [] σ' H' s9∧tn i s9.heap∧(∀ b∈fp,H' b=none)∧W i m σ' H':=fun {σ9 H9 s9} I9 n9=>by
        obtain ⟨m',hm,w9⟩:=hN σ9 H9 n9
        refine ⟨m',hm,i+1,σ9,H9,I9.unpinned,T.keep _ _ _ st7 fun b hb o e=>(I9.pin (b,o) (List.mem_append_right _ (List.mem_append_right _ (qci hb e)))).1,fun b hb=>?_,w9⟩
        obtain ⟨o,e,d⟩:=T.obj _ _ st7 b hb
        exact (I9.pin (b,o) (List.mem_append_right _ (List.mem_append_right _ (qci hb e)))).2.1
      cases b with
      | false =>
        rw [if_neg (by decide)] at q9 ⊢
        exact again I9 q9
      | true =>
        rw [if_pos rfl] at q9 ⊢
        refine thn (he _ _ _ _ _ s9 σ8 H9 _ I9 q9) fun yv s10 hq5=>?_
        obtain ⟨y,H10,I10,r10,ys,hD10,hz10,q10⟩:=hq5
        refine thn (qfq _ s10 σ8 H10 (.ref D) [y] (.ref D) [yv] (fun _ H'=>N σ8 H') I10 rfl (.cons r10 .nil) ⟨D,ys,y,rfl,rfl,hD10,hz10,q10⟩) fun _ s11 hq6=>?_
        obtain ⟨_,H11,I11,_,q11⟩:=hq6
        exact again I11 q11
  exact codeAny_compStart_list (loop _ rfl) (T.self _ 0 _ _ _ st4 (loop _ rfl))
theorem qhO (hcalm:X.calm=true) (S:CompScope X.N X.env.scope scope N' cap) (hi:PI X tg iter wi)
    (hg:∀ (cl:List (Str × Addr)) (fp:List Addr) (C:Addr) (s0:Shared) (H0:Hp),PG (qaR X scope N' cl C s0 H0 fp) tg g) (ht:∀ (cl:List (Str × Addr)) (fp:List Addr) (C:Addr) (s0:Shared) (H0:Hp),qlO (qaR X scope N' cl C s0 H0 fp) ifs tc)
    (he:∀ (cl:List (Str × Addr)) (fp:List Addr) (C:Addr) (s0:Shared) (H0:Hp),PE (qaR X scope N' cl C s0 H0 fp) elt te) (hs:∀ x,foldedSetIterable iter X.env x=pure x:=by intro _;rfl) :
    PE X (.ListComp elt [⟨tg,iter,ifs,0⟩] scope pos) (qeL wi cap g tc te):=by
  intro pins s σ H Q I h
  obtain ⟨cl,ecl,hcl,hfr⟩:=qbV (scope:=scope) (env:=X.env) fun x hx hf=>I.ok.has x.1 (.inl (S.free x hx hf))
  rw [eval_ListComp]
  refine wpAny_comprehension_free (use:=none) rfl hs ecl S.kind S.names (thn (hi pins s σ H _ I h) fun v s1 h1=>thn h1 fun itv s2 h2=>?_)
  obtain ⟨it,fp,tn,J,H2,e,I2,T,st2,f2,w⟩:=h2
  subst e
  refine qei (RR:=fun acc C=>compPost (model X.prog X.w) X.A X.xe none (EP X pins σ Q) acc C) hcalm S (fun cl=>hg cl fp) (fun cl=>ht cl fp) (fun cl=>he cl fp) I2 T st2 f2 hcl hfr (P:=Q) w ?_
  intro D C H' s' m' hL hz hcc hpp hC hn I' q
  refine ⟨m',hn,fun h' hs'=>⟨.ref D,H',I'.turned (t':=s'.toks) (fun b o hb e=>(hs'.2 b hb).trans e) hC (Ne.symm hL) (.inr hz) hcc hpp,rfl,q⟩⟩
theorem qf0 {i:Nat} {y:Str} {py spos:Pos} (hcalm:X.calm=true) (hN:X.N.Nodup) (hy:X.N[i]?=some y) (hx:Loc X.env.scope y) (S:CompScope X.N X.env.scope scope N' cap) (hi:PI X tg iter wi)
    (hg:∀ (cl:List (Str × Addr)) (fp:List Addr) (C:Addr) (s0:Shared) (H0:Hp),PG (qaR X scope N' cl C s0 H0 fp) tg g) (ht:∀ (cl:List (Str × Addr)) (fp:List Addr) (C:Addr) (s0:Shared) (H0:Hp),qlO (qaR X scope N' cl C s0 H0 fp) ifs tc)
    (he:∀ (cl:List (Str × Addr)) (fp:List Addr) (C:Addr) (s0:Shared) (H0:Hp),PE (qaR X scope N' cl C s0 H0 fp) elt te) (hsw:swapsWith (.ListComp elt [⟨tg,iter,ifs,0⟩] scope pos) (some (.Name y py)) spos.line X.env=pure true:=by rfl)
    (hs:∀ x,foldedSetIterable iter X.env x=pure x:=by intro _;rfl) (hf:X.fn y=true∨X.env.scope.names.lookup y=some .local:=by first | exact .inl rfl | exact .inr rfl | assumption) :
    PS X (.Assign [.Name y py] (.ListComp elt [⟨tg,iter,ifs,0⟩] scope pos) spos) (qlP (qeL wi cap g tc te) (qfP i)):=by
  intro pins s σ H D I h
  obtain ⟨cl,ecl,hcl,hfr⟩:=qbV (scope:=scope) (env:=X.env) fun x hx hf=>I.ok.has x.1 (.inl (S.free x hx hf))
  rw [exec_Assign_Name_used _ _ _ _ hsw]
  refine wpAny_bind (wpAny_standAt (wpAny_bind ?_))
  show wpAny _ X.A (do let _ ← comprehension (.ListComp elt [⟨tg,iter,ifs,0⟩] scope pos) scope X.env _ (newList []) false (eval iter X.env) (some (assign (.Name y py) X.env))) _ _ s
  refine wpAny_bind (wpAny_mono (wpAny_comprehension_free (use:=some (assign (.Name y py) X.env)) (Q:=fun _ s'=>SP X pins D .next s') rfl hs ecl S.kind S.names
    (thn (hi pins s σ H _ I h) fun v s1 h1=>thn h1 fun itv s2 h2=>?_)) (fun _ s' hq=>wpAny_pure (wpAny_pure hq)) fun _ _ e=>e)
  obtain ⟨it,fp,tn,J,H2,e,I2,T,st2,f2,w⟩:=h2
  subst e
  refine qei (RR:=fun acc C=>compPost (model X.prog X.w) X.A X.xe (some (assign (.Name y py) X.env)) (fun _ s'=>SP X pins D .next s') acc C) hcalm S (fun cl=>hg cl fp) (fun cl=>ht cl fp) (fun cl=>he cl fp) I2 T st2 f2 hcl hfr (P:=fun v H'=>D.nx (σ.set i (some v)) H') w ?_
  intro Dd C H' s' m' hL hz hcc hpp hC hn I' q
  show wpAny _ X.A (assign (.Name y py) X.env (.ref Dd)) _ _ s'
  refine wpAny_assign_Name (qfg (v:=.ref Dd) I' hN hy hx rfl (fun s'' I'' hsb=>?_) hf)
  obtain ⟨a,sb,ha⟩:=hsb
  have hCa:C≠a:=by
    rcases ha with z | z
    · rw [z];exact Ne.symm hL
    · exact Ne.symm (hcc y a z)
  refine ⟨m',hn.sameBut sb hCa,fun h' hs'=>?_⟩
  exact ⟨_,H',I''.turned (t':=s''.toks) (fun b o hb e=>(hs'.2 b hb).trans e) hC (Ne.symm hL) (.inr hz) hcc hpp,q⟩
end
open AutoSeq1 (wpAny_loadPart')
theorem Inv.turnedL {X:Cx} {pins:List (Addr × Obj)} {σ:St} {H:Hp} {s:Shared} {h':Heap} {ch:List Addr} {t':Nat} (I:Inv X pins σ H s) (k:∀ b o,b∉ch→s.heap.get? b=some o→h'.get? b=some o) (hf:∀ b∈ch,FpOk X pins H b) :
    Inv X pins σ H { s with heap:=h',toks:=t' }:=by
  have nit:∀ b u,H b=some u→b∉ch:=fun b u e z=>by rw [(hf b z).1] at e;cases e
  refine I.step (g':=s.gens) (d':=s.drawn) (ch:=ch) (fun b hb=>⟨(hf b hb).2.2.2.1,(hf b hb).2.1,(hf b hb).2.2.2.2.1,(hf b hb).2.2.2.2.2⟩) (fun b o _ _ hc e _=>k b o hc e) (fun b o _ _ hc e _=>⟨o.slots,k b o hc e⟩) (fun _ _ _ _ n=>n)
    (fun b o hc e=>⟨o,k b o hc e⟩) (fun _ _ e=>e) (fun _ _ _ e=>e) (fun b ps e=>e) (fun m hm=>?_) (fun b u e=>?_) I.bare
  · obtain ⟨o,es,ep,ho,r⟩:=hm
    exact ⟨o,es,ep,k _ o (fun z=>(hf _ z).2.1 rfl) ho,r⟩
  · refine (I.hok b u e).stay (fun c v hc q=>k c v ?_ q) (fun _ q=>q) (fun _ _ q=>q) fun _ _ _ q=>q
    rcases hc with z | z
    · rw [z];exact nit b u e
    · exact nit c _ z
def SqI (b:Bool) (h:Heap) (it a:Addr) (i:Nat):Prop:=match b with | true=>h.IsListIter it a i | false=>h.IsTupleIter it a i
def SqO (b:Bool) (h:Heap) (a:Addr) (its:Array Value):Prop:=match b with | true=>h.IsList a its | false=>h.IsTuple a its
def SqB (K:PySem.W.Frag) (b:Bool) (H:Hp) (a:Addr) (xs:List V):Prop:=match b with | true=>SqL K H a xs | false=>SqT K H a xs
def qbx (b:Bool) (a:Addr):Obj:=match b with
  | true=>{ cls:=.type "list_iterator",data:=.fields #[.ref a,.int 0 0] }
  | false=>{ cls:=.type "tuple_iterator",data:=.fields #[.ref a,.int 0 0] }
theorem SqI.at {b:Bool} {h h':Heap} {it a:Addr} {i:Nat} (x:SqI b h it a i) (k:∀ o,h.get? it=some o→h'.get? it=some o):SqI b h' it a i:=by
  cases b <;> (obtain ⟨o,e,r⟩:=x;exact ⟨o,k o e,r⟩)
theorem SqO.at {b:Bool} {h h':Heap} {a:Addr} {its:Array Value} (x:SqO b h a its) (k:∀ o,h.get? a=some o→h'.get? a=some o):SqO b h' a its:=by
  cases b <;> (obtain ⟨o,e,r⟩:=x;exact ⟨o,k o e,r⟩)
theorem SqI.obj {b:Bool} {h:Heap} {it a:Addr} {i:Nat} (x:SqI b h it a i):∃ o,h.get? it=some o∧∀ v,o.data≠.cell v:=by
  cases b <;> (obtain ⟨o,e,_,d⟩:=x;exact ⟨o,e,fun v z=>by rw [d] at z;cases z⟩)
theorem SqI.lt {b:Bool} {h:Heap} {it a:Addr} {i:Nat} (x:SqI b h it a i):it<h.objs.size:=by obtain ⟨o,e,_⟩:=x.obj;exact Heap.lt_size e
theorem SqO.lt {b:Bool} {h:Heap} {a:Addr} {its:Array Value} (x:SqO b h a its):a<h.objs.size:=by
  cases b <;> (obtain ⟨o,e,_⟩:=x;exact Heap.lt_size e)
theorem Inv.sqb {X:Cx} {pins:List (Addr × Obj)} {σ:St} {H:Hp} {s:Shared} {b:Bool} {a:Addr} {xs:List V} (I:Inv X pins σ H s) (h:SqB X.K b H a xs):∃ its:List Value,Vals xs its∧SqO b s.heap a its.toArray∧xs.length≤sizeLine:=by
  cases b with
  | true=>obtain ⟨its,rv,p,hz⟩:=I.list h;exact ⟨its,rv,p.isList,hz⟩
  | false=>obtain ⟨its,rv,p,hz⟩:=I.tuple h;exact ⟨its,rv,p,hz⟩
theorem Inv.sqb_inj {X:Cx} {pins:List (Addr × Obj)} {σ:St} {H:Hp} {s:Shared} {b:Bool} {a:Addr} {xs ys:List V} (I:Inv X pins σ H s) (h:SqB X.K b H a xs) (h':SqB X.K b H a ys):xs=ys:=by
  cases b with
  | true=>exact I.list_inj h h'
  | false=>exact I.tuple_inj h h'
theorem SqB.same {K:PySem.W.Frag} {b:Bool} {H H':Hp} {a:Addr} {xs:List V} (e:Same H H') (h:SqB K b H a xs):SqB K b H' a xs:=by
  cases b with
  | true=>exact e.seq h
  | false =>
    rcases h with (h | ⟨o,h⟩) | h
    · exact .inl (.inl (e _ _ h))
    · exact .inl (.inr ⟨o,e _ _ h⟩)
    · exact .inr h
section
variable {prog : Program} {w : World} {A : Around} {E : Value → Shared → Prop} {s : Shared}
theorem qdt {b:Bool} {a:Addr} {its:Array Value} {Q:Value→Shared→Prop} (h:SqO b s.heap a its) (q:Q (.ref s.heap.objs.size) { s with heap:=s.heap.push (qbx b a) }):wpAny (model prog w) A (pyIter (.ref a)) Q E s:=by
  cases b with
  | true=>exact wpAny_pyIter_list h q
  | false=>exact wpAny_pyIter_tuple h q
theorem qch {b:Bool} {h:Heap} {it a:Addr} (e:h.get? it=some (qbx b a)):SqI b h it a 0:=by
  cases b <;> exact ⟨_,e,rfl,rfl⟩
theorem qe1 {b:Bool} {it a:Addr} {i:Nat} {its:Array Value} {x:Value} {Q:Value→Shared→Prop} (hit:SqI b s.heap it a i) (hl:SqO b s.heap a its) (hx:its[i]?=some x)
    (hQ:∀ h',SqI b h' it a (i+1)→Heap.SameBut it s.heap h'→Q x { s with heap:=h' }):wpAny (model prog w) A (Builtin.SmallTypes.nextOf (.ref it)) Q E s:=by
  cases b with
  | true=>exact wpAny_nextOf_list_item hit hl hx hQ
  | false =>
    have hit:s.heap.IsTupleIter it a i:=hit
    obtain ⟨o,ho,hc,hd⟩:=id hit
    obtain ⟨ol,hol,_,nl,hdl⟩:=hl
    unfold Builtin.SmallTypes.nextOf
    refine wpAny_bind (wpAny_callSpecial?_slot (name:=Str.ofString "__next__") hit.typeIs F.slot_tuple_iterator_next (wpAny_call_entry F.slot_tuple_iterator_next hit.typeIs F.entry_tuple_iterator_next ?_ (F.args_tuple_iterator_next_1 _)))
    show wpAny _ _ (field (.ref it) 0 >>= _) _ _ s
    refine wpAny_bind (wpAny_field ho hd (x:=.ref a) rfl ?_)
    show wpAny _ _ (if (Value.ref a == Value.none)=true then _ else _) _ _ s
    rw [if_neg (show ¬ ((Value.ref a == Value.none)=true) from Bool.false_ne_true)]
    show wpAny _ _ (field (.ref it) 1 >>= _) _ _ s
    refine wpAny_bind (wpAny_field ho hd (x:=.int i 0) rfl ?_)
    show wpAny _ _ (seqItems? (.ref a) >>= _) _ _ s
    refine wpAny_bind (wpAny_seqItems hol hdl ?_)
    simp only [Int.toNat_natCast,hx]
    refine wpAny_bind (wpAny_setField ho hd (by simp) (wpAny_pure ⟨x,rfl,wpAny_pure (hQ _ ?_ (Heap.SameBut.update ..))⟩))
    exact ⟨_,Heap.get?_update_self _ ho (Obj.isFreed_of_fields (Obj.data_mapFields hd _)),(Obj.cls_mapFields ..).trans hc,by rw [Obj.data_mapFields hd];simp [rawInt]⟩
theorem qgU {b:Bool} {it a:Addr} {i:Nat} {its:Array Value} {Q:Value→Shared→Prop} (hh:A.handled=none) (hit:SqI b s.heap it a i) (hl:SqO b s.heap a its) (hx:its[i]?=none)
    (hE:∀ h' e,Heap.ExtBut it s.heap h'→(∃ o,h'.get? e=some o∧o.cls=.type "StopIteration")→E (.ref e) { s with heap:=h' }):wpAny (model prog w) A (Builtin.SmallTypes.nextOf (.ref it)) Q E s:=by
  cases b with
  | true=>exact wpAny_nextOf_list_end hh hit hl hx hE
  | false =>
    have hit:s.heap.IsTupleIter it a i:=hit
    obtain ⟨o,ho,hc,hd⟩:=id hit
    obtain ⟨ol,hol,_,nl,hdl⟩:=hl
    unfold Builtin.SmallTypes.nextOf
    refine wpAny_bind (wpAny_callSpecial?_slot (name:=Str.ofString "__next__") hit.typeIs F.slot_tuple_iterator_next (wpAny_call_entry F.slot_tuple_iterator_next hit.typeIs F.entry_tuple_iterator_next ?_ (F.args_tuple_iterator_next_1 _)))
    show wpAny _ _ (field (.ref it) 0 >>= _) _ _ s
    refine wpAny_bind (wpAny_field ho hd (x:=.ref a) rfl ?_)
    show wpAny _ _ (if (Value.ref a == Value.none)=true then _ else _) _ _ s
    rw [if_neg (show ¬ ((Value.ref a == Value.none)=true) from Bool.false_ne_true)]
    show wpAny _ _ (field (.ref it) 1 >>= _) _ _ s
    refine wpAny_bind (wpAny_field ho hd (x:=.int i 0) rfl ?_)
    show wpAny _ _ (seqItems? (.ref a) >>= _) _ _ s
    refine wpAny_bind (wpAny_seqItems hol hdl ?_)
    simp only [Int.toNat_natCast,hx]
    refine wpAny_bind (wpAny_rule (wpAny_bind (wpAny_setField ho hd (by simp) ?_)))
    show wpAny _ _ (newExc (.type "StopIteration") [] >>= _) _ _ _
    refine wpAny_bind ?_
    simp only [newExc,newTuple]
    refine wpAny_bind (wpAny_newObj_type ?_ (by size_fits))
    refine wpAny_bind (m:=firstArgMember _ _) (wpAny_of_eq (a:=Value.none) (by first | rfl | (simp only [firstArgMember];rfl)) ?_)
    refine wpAny_newObj_type ?_ (by size_fits)
    simp only [raiseNew]
    refine wpAny_bind (wpAny_handled ?_)
    first | rw [show A.in1.handled=none from hh] | rw [hh]
    refine wpAny_bind (wpAny_pure (wpAny_throw ?_))
    exact hE _ _ (((Heap.SameBut.update ..).extBut.push _).push _) ⟨_,Heap.get?_push_size _ rfl,rfl⟩
theorem qjH (hh:A.handled=none) (b:Bool) (it a:Addr) (hne:a≠it) (its:Array Value):Draws prog w A it [it,a] its.size (fun i v=>its[i]?=some v) (fun i h=>SqI b h it a i∧SqO b h a its) where
  live:=fun _ _ st=>let ⟨o,e,_⟩:=st.1.obj;⟨o,e⟩
  frame:=fun _ _ _ st k=>⟨st.1.at fun o e=>k it (by simp) o e,st.2.at fun o e=>k a (by simp) o e⟩
  item:=fun i s Q E hi st hQ=>qe1 st.1 st.2 (x:=its[i]) (by simp [hi]) fun h' q sb=>hQ _ h' s.toks (by simp [hi]) ⟨q,st.2.at fun o e=>(sb.2 a hne).trans e⟩ sb
  done:=fun s Q E st hE=>qgU hh st.1 st.2 (by simp) hE
theorem qhD (l:Addr) (items:Array Value) (n:Nat) (dct:Option Addr) (sl:Array (Option Value)) :
    Meets (Builtin.«enumerate.__new__» ⟨[.type "enumerate",.ref l],[]⟩) (fun _ R s=>s.heap.get? l=some { cls:=.type "tuple",dict:=dct,data:=.seq items n,slots:=sl } ∧
      R (.ok (.ret (.ref (s.heap.push (qbx false l)).objs.size)))
        { s with heap:=(s.heap.push (qbx false l)).push { cls:=.type "enumerate",data:=.fields #[.none,.bool false,.ref s.heap.objs.size,rawInt 0,.none,.none] } }) :=
  .of_wp fun prog w A R s h=>by
    obtain ⟨hp,g,d,tk,os⟩:=s;obtain ⟨hl,h⟩:=h
    have hsub:=sub_enumerate
    have hL:Heap.IsTuple (Shared.heap ⟨hp,g,d,tk,os⟩) l items:=⟨_,hl,rfl,n,rfl⟩
    wp_walk using wpAny_loadPart' hl
    refine wpAny_stack_any fun st=>wpAny_pure ?_
    split
    · rename_i c _ _ _ _ _
      cases (c == Value.type "enumerate")
      · (wp_walk using wpAny_loadPart' hl,wpAny_pyIter_tuple hL);exact ⟨_,rfl,h⟩
      · (wp_walk using wpAny_loadPart' hl,wpAny_pyIter_tuple hL);exact ⟨_,rfl,h⟩
    · (wp_walk using wpAny_loadPart' hl,wpAny_pyIter_tuple hL);exact ⟨_,rfl,h⟩
theorem qhW {b:Bool} {l:Addr} {items:Array Value} {Q:Value→Shared→Prop} (hL:SqO b s.heap l items)
    (h:∀ h',IsEnum h' (s.heap.objs.size+1) s.heap.objs.size 0 .none→SqI b h' s.heap.objs.size l 0→h'.objs.size=s.heap.objs.size+2→(∀ b o,s.heap.get? b=some o→h'.get? b=some o)→Q (.ref (s.heap.objs.size+1)) { s with heap:=h' }) :
    wpAny (model prog w) A (call (.type "enumerate") [.ref l]) Q E s:=by
  cases b with
  | true=>exact call_enumerate_list hL h
  | false =>
    obtain ⟨⟨c,dct,dt,sl⟩,hl,hc,n,hd⟩:=hL
    replace hc:c=.type "tuple":=hc
    replace hd:dt=.seq items n:=hd
    subst hc hd
    refine callType_new F.called_enumerate (by decide) (F.typeCall_enumerate_1 _) (F.newCall_enumerate_1 _) (fun obj=>F.args_object_init_2 obj _) F.entry_enumerate_new (qhD l items n dct sl) ⟨hl,?_⟩
    have hz:(s.heap.push (qbx false l)).objs.size=s.heap.objs.size+1:=Heap.size_push ..
    show _∧_
    rw [hz]
    have he:=Heap.get?_push_size (s.heap.push (qbx false l)) (o:={ cls:=.type "enumerate",data:=.fields #[.none,.bool false,.ref s.heap.objs.size,rawInt 0,.none,.none] }) rfl
    rw [hz] at he
    have hi:(s.heap.push (qbx false l)).get? s.heap.objs.size=some (qbx false l):=Heap.get?_push_size _ rfl
    exact ⟨⟨_,he,rfl⟩,h _ he (qch (Heap.get?_push_of_some _ hi)) (by rw [Heap.size_push,hz]) fun b o x=>Heap.get?_push_of_some _ (Heap.get?_push_of_some _ x)⟩
theorem qi8 {b:Bool} {e it a:Addr} {i:Nat} {j:Int} {its:Array Value} {old:Value} {Q:Option Value→Shared→Prop} (hh:A.handled=none) (he:IsEnum s.heap e it j old) (hit:SqI b s.heap it a i) (hl:SqO b s.heap a its) (hx:its[i]?=none)
    (hQ:∀ h',Heap.ExtBut it s.heap h'→Q none { s with heap:=h' }):wpAny (model prog w) A (pyNext (.ref e)) Q E s:=by
  have hT:s.TypeIs (.ref e) "enumerate":=⟨_,he,rfl⟩
  unfold pyNext
  refine wpAny_bind (wpAny_attempt (wpAny_callSpecial?_slot (name:=Str.ofString "__next__") hT F.slot_enumerate_next (wpAny_call_entry F.slot_enumerate_next hT F.entry_enumerate_next ?_ (F.args_enumerate_next_1 _))))
  show wpAny _ _ (field (.ref e) 2 >>= _) _ _ _
  refine wpAny_bind (wpAny_field he rfl (x:=.ref it) rfl (wpAny_bind (qgU hh hit hl hx fun h' x he' hx'=>?_)))
  obtain ⟨o,ho,hc⟩:=hx'
  exact wpAny_bind (wpAny_isInstance (T:="StopIteration") (b:=true) ⟨o,ho,hc⟩ isSubtype_stop (wpAny_pure (hQ _ he')))
end
def Ite (K:PySem.W.Frag) (b:Bool) (a:Addr):It :=
  ⟨fun i H=>∃ xs x,SqB K b H a xs∧xs[i]?=some x,fun i H x H'=>∃ t y,H t=none∧x=.ref t∧H'=upd H t (.tup [.int i,y])∧∀ xs,SqB K b H a xs→xs[i]?=some y,fun i H=>∃ xs,SqB K b H a xs∧xs.length≤i⟩
theorem qhE {P:Program} {w:World} {K:PySem.W.Frag} {es:List Expr} {k:Nat} {pos:Pos} (b:Bool) (a e it:Addr) (hei:e≠it):Turn P w K (.Tuple es k pos) (Ite K b a) [e,it] e (fun i h=>(∃ old,IsEnum h e it i old)∧SqI b h it a i) where
  mem:=by simp
  obj:=fun i h st c hc=>by
    obtain ⟨⟨old,he⟩,hs⟩:=st
    rcases List.mem_cons.mp hc with rfl | hc
    · exact ⟨_,he,fun v z=>by have z':Data.fields _=Data.cell v:=z;cases z'⟩
    · rw [List.mem_singleton.mp hc];exact hs.obj
  keep:=fun i h h' st k=>by
    obtain ⟨⟨old,he⟩,hs⟩:=st
    exact ⟨⟨old,k e (by simp) _ he⟩,hs.at fun o q=>k it (by simp) o q⟩
  item:=by
    intro X hP hw hK hc i pins s σ H E I hf st hg
    subst hP hw hK
    obtain ⟨xs,x,hq,hx⟩:=hg
    obtain ⟨⟨old,he⟩,hs⟩:=st
    obtain ⟨its,rv,p,hz⟩:=I.sqb hq
    obtain ⟨u,hu,ru⟩:=rv.get hx
    have hne:a≠it:=fun z=>by
      subst z
      have h1:=p;have h2:=hs
      cases b <;> (obtain ⟨o1,e1,c1,_⟩:=h1;obtain ⟨o2,e2,c2,_⟩:=h2;rw [e1] at e2;cases e2;rw [c1] at c2;exact absurd c2 (by simp))
    have hne2:a≠e:=fun z=>by
      subst z
      have h1:=p
      cases b <;> (obtain ⟨o1,e1,c1,_⟩:=h1;rw [he] at e1;cases e1;exact absurd c1 (by simp))
    have hil:i<its.toArray.size:=by
      have:i<its.length:=(List.getElem?_eq_some_iff.mp hu).1
      simpa using this
    have hh:X.A.in1.handled=none:=I.ok.hd hc
    refine wpAny_pyNext_enum_itemD (qjH hh b it a hne its.toArray) he ⟨hs,p⟩ hil hei (by simp [hei,Ne.symm hne2]) fun y h' tk hP' ho hst hT hsz hk=>?_
    have hy:y=u:=by
      have:its.toArray[i]?=some u:=by simpa using hu
      rw [this] at hP';exact (Option.some.inj hP').symm
    subst hy
    refine ⟨.ref s.heap.objs.size,rfl,wpAny_letOwnedTupleGo_enum ho fun h2 he2 hs2=>?_⟩
    have zn:H s.heap.objs.size=none:=I.fresh
    have I1:Inv X pins σ (upd H s.heap.objs.size (.tup [.int i,x])) { s with heap:=s.heap.push { cls:=.type "tuple",data:=.seq #[.int i tk,y] },toks:=tk } :=
      I.laid (fun c o q=>Heap.get?_push_of_some _ q) (Nat.le_refl _) ⟨by show 2≤sizeLine;decide,[.int i tk,y],.cons ⟨tk,rfl⟩ (.cons ru .nil),_,Heap.get?_push_size _ rfl,rfl,0,rfl⟩
    have lts:∀ c∈[e,it],c<s.heap.objs.size:=fun c hc=>by
      rcases List.mem_cons.mp hc with rfl | hc
      · exact Heap.lt_size he
      · rw [List.mem_singleton.mp hc];exact hs.lt
    have f1:∀ c∈[e,it],FpOk X pins (upd H s.heap.objs.size (.tup [.int i,x])) c:=fun c hc=>⟨by rw [qau (Nat.ne_of_lt (lts c hc))];exact (hf c hc).1,(hf c hc).2⟩
    have I2:=I1.turnedL (h':=h2) (ch:=[e,it]) (t':=tk+1) (fun c o hc q=>?_) f1
    · refine ⟨.ref s.heap.objs.size,_,I2,rfl,⟨s.heap.objs.size,x,zn,rfl,rfl,fun ys hy=>by rw [I.sqb_inj hy hq];exact hx⟩,⟨⟨_,by simpa using he2⟩,hst.1.at fun o q=>(hs2.2 it (Ne.symm hei)).trans q⟩,fun c hc=>(f1 c hc).1⟩
    · have hce:c≠e:=fun z=>hc (by simp [z])
      have hci:c≠it:=fun z=>hc (by simp [z])
      refine (hs2.2 c hce).trans ?_
      rcases Heap.get?_push_cases q with ⟨z,z'⟩ | q'
      · subst z;subst z';exact hT
      · exact hk c o hce hci q'
  done:=by
    intro X hP hw hK hc i pins s σ H E I hf st hg
    subst hP hw hK
    obtain ⟨xs,hq,hx⟩:=hg
    obtain ⟨⟨old,he⟩,hs⟩:=st
    obtain ⟨its,rv,p,hz⟩:=I.sqb hq
    have hl:=rv.length
    refine qi8 (I.ok.hd hc) he hs p (by simp;omega) fun h' eb=>⟨rfl,?_⟩
    exact I.turnedL (ch:=[e,it]) (t':=s.toks) (fun c o hc q=>eb c o (fun z=>hc (by simp [z])) q) hf
  self:=fun _ _ _ _ _ st h=>by obtain ⟨⟨old,he⟩,_⟩:=st;exact wpAny_pyIter_enum he h
end L2
namespace L2
open PySem PySem.Spec PyProof.Rows
open AutoSeq1 (wpAny_loadPart')
section
variable {X : Cx}
end
structure ZAp (z TI TO i1 i2:Addr):Prop where
  a1:TI≠z
  a2:TO≠z
  a3:i1≠z
  a4:i2≠z
  a5:TI≠TO
  a6:TI≠i1
  a7:TI≠i2
  a8:TO≠i1
  a9:TO≠i2
  a0:i1≠i2
theorem SqI.but {b:Bool} {h h':Heap} {it a c:Addr} {i:Nat} (x:SqI b h it a i) (s:Heap.SameBut c h h') (n:it≠c):SqI b h' it a i:=x.at fun o e=>(s.2 it n).trans e
theorem SqO.but {b:Bool} {h h':Heap} {a c:Addr} {its:Array Value} (x:SqO b h a its) (s:Heap.SameBut c h h') (n:a≠c):SqO b h' a its:=x.at fun o e=>(s.2 a n).trans e
theorem SqO.ne {b:Bool} {h:Heap} {a c:Addr} {its:Array Value} {o:Obj} (x:SqO b h a its) (e:h.get? c=some o) (n1:o.cls≠.type "list") (n2:o.cls≠.type "tuple"):a≠c:=fun z=>by
  subst z
  cases b <;> (obtain ⟨o',e',c',_⟩:=x;rw [e] at e';cases e')
  · exact n2 c'
  · exact n1 c'
theorem SqO.ne_it {b b':Bool} {h:Heap} {a it l:Addr} {its:Array Value} {i:Nat} (x:SqO b h a its) (y:SqI b' h it l i):a≠it:=by
  cases b' <;> (obtain ⟨o,e,c,_⟩:=y;exact x.ne e (by rw [c];simp) (by rw [c];simp))
section
variable {prog : Program} {w : World} {A : Around} {E : Value → Shared → Prop} {s : Shared}
theorem qjk {b1 b2:Bool} {z TI TO i1 i2 l1 l2:Addr} {k1 k2:Nat} {xs ys:Array Value} {x y a b:Value} {Q:Value→Shared→Prop} (D:ZAp z TI TO i1 i2)
    (hz:IsZip s.heap z TI TO .none) (hTI:IsPair s.heap TI (.ref i1) (.ref i2)) (hTO:IsPair s.heap TO a b) (n1:l1≠TO) (n2:l2≠TO)
    (h1:SqI b1 s.heap i1 l1 k1) (h2:SqI b2 s.heap i2 l2 k2) (hl1:SqO b1 s.heap l1 xs) (hl2:SqO b2 s.heap l2 ys) (hx:xs[k1]?=some x) (hy:ys[k2]?=some y)
    (hQ:∀ h',IsZip h' z TI TO (rawInt s.heap.objs.size)→IsPair h' TO x y→SqI b1 h' i1 l1 (k1+1)→SqI b2 h' i2 l2 (k2+1)→IsPair h' s.heap.objs.size x y→h'.objs.size=s.heap.objs.size+1 →
      (∀ c o,c∉[z,TO,i1,i2]→s.heap.get? c=some o→h'.get? c=some o)→Q (.ref s.heap.objs.size) { s with heap:=h' }) :
    wpAny (model prog w) A (Builtin.«zip.__next__» ⟨[.ref z],[]⟩) (fun fin s'=>∃ v,fin=.done (.ret v)∧Q v s') E s:=by
  have l1z:l1≠z:=hl1.ne hz (by simp) (by simp)
  have l2z:l2≠z:=hl2.ne hz (by simp) (by simp)
  have l2i1:l2≠i1:=hl2.ne_it h1
  show wpAny _ _ (field (.ref z) 2 >>= _) _ _ _
  refine wpAny_bind (wpAny_field hz rfl (x:=.bool false) rfl ?_)
  show wpAny _ _ (field (.ref z) 3 >>= _) _ _ _
  refine wpAny_bind (wpAny_field hz rfl (x:=.ref TI) rfl (wpAny_bind (wpAny_seqItems hTI rfl ?_)))
  show wpAny _ _ (Builtin.SmallTypes.ownedTupleIsFree (.ref z) >>= _) _ _ _
  refine wpAny_bind ?_
  unfold Builtin.SmallTypes.ownedTupleIsFree
  refine wpAny_bind (wpAny_field hz rfl (x:=.none) rfl (wpAny_pure ?_))
  simp only [if_true]
  refine wpAny_bind (wpAny_rule (wpAny_bind (wpAny_field hz rfl (x:=.ref TO) rfl (wpAny_bind (wpAny_setField_rec hz (by simp) fun g1 z1 s1=>?_)))))
  replace z1:IsZip g1 z TI TO .ellipsis:=z1
  refine wpAny_bind ?_
  simp only [List.zipIdx_cons,List.zipIdx_nil,List.forIn_cons,List.forIn_nil]
  refine wpAny_bind (wpAny_bind (wpAny_onRaise ?_))
  show wpAny _ _ (Builtin.SmallTypes.nextOf (.ref i1) >>= _) _ _ _
  refine wpAny_bind (qe1 (h1.but s1 D.a3) (hl1.but s1 l1z) hx fun g2 p2 s2=>wpAny_pure ?_)
  have t2:IsPair g2 TO a b:=s2.extBut _ _ D.a8 (s1.extBut _ _ D.a2 hTO)
  refine wpAny_bind (wpAny_seqItems t2 rfl (wpAny_bind (wpAny_updateSeq_pair t2 fun g3 t3 s3=>wpAny_bind (wpAny_letGo (wpAny_pure ?_)))))
  replace t3:IsPair g3 TO x b:=t3
  refine wpAny_bind (wpAny_bind (wpAny_onRaise ?_))
  show wpAny _ _ (Builtin.SmallTypes.nextOf (.ref i2) >>= _) _ _ _
  refine wpAny_bind (qe1 (((h2.but s1 D.a4).but s2 D.a0.symm).but s3 D.a9.symm) (((hl2.but s1 l2z).but s2 l2i1).but s3 n2) hy fun g4 p4 s4=>wpAny_pure ?_)
  have t4:IsPair g4 TO x b:=s4.extBut _ _ D.a9 t3
  refine wpAny_bind (wpAny_seqItems t4 rfl (wpAny_bind (wpAny_updateSeq_pair t4 fun g5 t5 s5=>wpAny_bind (wpAny_letGo (wpAny_pure (wpAny_pure ?_))))))
  replace t5:IsPair g5 TO x y:=t5
  refine wpAny_bind (wpAny_seqItems t5 rfl (wpAny_bind (wpAny_newTuple ?_)))
  have sz:g5.objs.size=s.heap.objs.size:=by rw [s5.1,s4.1,s3.1,s2.1,s1.1]
  have z5:IsZip g5 z TI TO .ellipsis:=s5.extBut _ _ D.a2.symm (s4.extBut _ _ D.a4.symm (s3.extBut _ _ D.a2.symm (s2.extBut _ _ D.a3.symm z1)))
  have k5:∀ c o,c∉[z,TO,i1,i2]→s.heap.get? c=some o→g5.get? c=some o:=fun c o hc e=>by
    have c1:c≠z:=fun q=>hc (by simp [q])
    have c2:c≠TO:=fun q=>hc (by simp [q])
    have c3:c≠i1:=fun q=>hc (by simp [q])
    have c4:c≠i2:=fun q=>hc (by simp [q])
    exact s5.extBut _ _ c2 (s4.extBut _ _ c4 (s3.extBut _ _ c2 (s2.extBut _ _ c3 (s1.extBut _ _ c1 e))))
  have q1:SqI b1 g5 i1 l1 (k1+1):=((p2.but s3 D.a8.symm).but s4 D.a0).but s5 D.a8.symm
  have q2:SqI b2 g5 i2 l2 (k2+1):=p4.but s5 D.a9.symm
  show wpAny _ _ (Builtin.SmallTypes.ownedTupleHandOut (.ref z) (.ref g5.objs.size) >>= _) _ _ _
  refine wpAny_bind ?_
  unfold Builtin.SmallTypes.ownedTupleHandOut
  have z6:IsZip (g5.push { cls:=.type "tuple",data:=.seq #[x,y] }) z TI TO .ellipsis:=Heap.get?_push_of_some _ z5
  refine wpAny_bind (wpAny_setField_rec z6 (by simp) fun g7 z7 s7=>?_)
  replace z7:IsZip g7 z TI TO (rawInt g5.objs.size):=z7
  refine wpAny_setField_rec z7 (by simp) fun g8 z8 s8=>?_
  replace z8:IsZip g8 z TI TO (rawInt g5.objs.size):=z8
  have up:∀ c o,c≠z→g5.get? c=some o→g8.get? c=some o:=fun c o c1 e=>s8.extBut _ _ c1 (s7.extBut _ _ c1 (Heap.get?_push_of_some _ e))
  have zl:g5.objs.size≠z:=Nat.ne_of_gt (Heap.lt_size z5)
  have t8:IsPair g8 g5.objs.size x y:=s8.extBut _ _ zl (s7.extBut _ _ zl (Heap.get?_push_size _ rfl))
  have e8:g8.objs.size=g5.objs.size+1:=by rw [s8.1,s7.1,Heap.size_push]
  rw [sz] at z8 t8 e8
  refine wpAny_pure ⟨_,rfl,?_⟩
  show Q (.ref g5.objs.size) _
  rw [sz]
  exact hQ g8 z8 (up _ _ D.a2 t5) (q1.at fun o e=>up _ o D.a3 e) (q2.at fun o e=>up _ o D.a4 e) t8 e8 fun c o hc e=>up c o (fun q=>hc (by simp [q])) (k5 c o hc e)
theorem qld {b1 b2:Bool} {z TI TO i1 i2 l1 l2:Addr} {k1 k2:Nat} {xs ys:Array Value} {a b:Value} {Q:Fin→Shared→Prop} (hh:A.handled=none) (D:ZAp z TI TO i1 i2)
    (hz:IsZip s.heap z TI TO .none) (hTI:IsPair s.heap TI (.ref i1) (.ref i2)) (hTO:IsPair s.heap TO a b) (n1:l1≠TO) (n2:l2≠TO)
    (h1:SqI b1 s.heap i1 l1 k1) (h2:SqI b2 s.heap i2 l2 k2) (hl1:SqO b1 s.heap l1 xs) (hl2:SqO b2 s.heap l2 ys) (hend:xs[k1]?=none∨ys[k2]?=none)
    (hE:∀ h' e,(∀ c o,c∉[z,TO,i1,i2]→s.heap.get? c=some o→h'.get? c=some o)→(∃ o,h'.get? e=some o∧o.cls=.type "StopIteration")→E (.ref e) { s with heap:=h' }) :
    wpAny (model prog w) A (Builtin.«zip.__next__» ⟨[.ref z],[]⟩) Q E s:=by
  have l1z:l1≠z:=hl1.ne hz (by simp) (by simp)
  have l2z:l2≠z:=hl2.ne hz (by simp) (by simp)
  have l2i1:l2≠i1:=hl2.ne_it h1
  show wpAny _ _ (field (.ref z) 2 >>= _) _ _ _
  refine wpAny_bind (wpAny_field hz rfl (x:=.bool false) rfl ?_)
  show wpAny _ _ (field (.ref z) 3 >>= _) _ _ _
  refine wpAny_bind (wpAny_field hz rfl (x:=.ref TI) rfl (wpAny_bind (wpAny_seqItems hTI rfl ?_)))
  show wpAny _ _ (Builtin.SmallTypes.ownedTupleIsFree (.ref z) >>= _) _ _ _
  refine wpAny_bind ?_
  unfold Builtin.SmallTypes.ownedTupleIsFree
  refine wpAny_bind (wpAny_field hz rfl (x:=.none) rfl (wpAny_pure ?_))
  simp only [if_true]
  refine wpAny_bind (wpAny_rule (wpAny_bind (wpAny_field hz rfl (x:=.ref TO) rfl (wpAny_bind (wpAny_setField_rec hz (by simp) fun g1 z1 s1=>?_)))))
  replace z1:IsZip g1 z TI TO .ellipsis:=z1
  refine wpAny_bind ?_
  simp only [List.zipIdx_cons,List.zipIdx_nil,List.forIn_cons,List.forIn_nil]
  refine wpAny_bind (wpAny_bind (wpAny_onRaise ?_))
  show wpAny _ _ (Builtin.SmallTypes.nextOf (.ref i1) >>= _) _ _ _
  cases hx:xs[k1]? with
  | none =>
    refine wpAny_bind (qgU hh (h1.but s1 D.a3) (hl1.but s1 l1z) hx fun g2 e s2 he=>?_)
    obtain ⟨oe,hoe,hce⟩:=he
    have z2:IsZip g2 z TI TO .ellipsis:=s2 _ _ D.a3.symm z1
    have ez:e≠z:=fun q=>by subst q;rw [z2] at hoe;cases hoe;simp at hce
    refine wpAny_setField_rec z2 (by simp) fun g3 _ s3=>hE g3 e (fun c o hc q=>?_) ⟨oe,s3.extBut _ _ ez hoe,hce⟩
    have c1:c≠z:=fun q=>hc (by simp [q])
    exact s3.extBut _ _ c1 (s2 _ _ (fun q=>hc (by simp [q])) (s1.extBut _ _ c1 q))
  | some x =>
    have hy:ys[k2]?=none:=by
      rcases hend with h | h
      · rw [hx] at h;cases h
      · exact h
    refine wpAny_bind (qe1 (h1.but s1 D.a3) (hl1.but s1 l1z) hx fun g2 p2 s2=>wpAny_pure ?_)
    have t2:IsPair g2 TO a b:=s2.extBut _ _ D.a8 (s1.extBut _ _ D.a2 hTO)
    refine wpAny_bind (wpAny_seqItems t2 rfl (wpAny_bind (wpAny_updateSeq_pair t2 fun g3 t3 s3=>wpAny_bind (wpAny_letGo (wpAny_pure ?_)))))
    refine wpAny_bind (wpAny_bind (wpAny_onRaise ?_))
    show wpAny _ _ (Builtin.SmallTypes.nextOf (.ref i2) >>= _) _ _ _
    refine wpAny_bind (qgU hh (((h2.but s1 D.a4).but s2 D.a0.symm).but s3 D.a9.symm) (((hl2.but s1 l2z).but s2 l2i1).but s3 n2) hy fun g4 e s4 he=>?_)
    obtain ⟨oe,hoe,hce⟩:=he
    have z4:IsZip g4 z TI TO .ellipsis:=s4 _ _ D.a4.symm (s3.extBut _ _ D.a2.symm (s2.extBut _ _ D.a3.symm z1))
    have ez:e≠z:=fun q=>by subst q;rw [z4] at hoe;cases hoe;simp at hce
    refine wpAny_setField_rec z4 (by simp) fun g5 _ s5=>hE g5 e (fun c o hc q=>?_) ⟨oe,s5.extBut _ _ ez hoe,hce⟩
    have c1:c≠z:=fun q=>hc (by simp [q])
    exact s5.extBut _ _ c1 (s4 _ _ (fun q=>hc (by simp [q])) (s3.extBut _ _ (fun q=>hc (by simp [q])) (s2.extBut _ _ (fun q=>hc (by simp [q])) (s1.extBut _ _ c1 q))))
theorem qly (b1 b2:Bool) (l1 l2:Addr) (xs ys:Array Value) :
    Meets (Builtin.«zip.__new__» ⟨[.type "zip",.ref l1,.ref l2],[]⟩) (fun _ R s=>SqO b1 s.heap l1 xs∧SqO b2 s.heap l2 ys ∧
      R (.ok (.ret (.ref (s.heap.objs.size+4)))) { s with heap:=((((s.heap.push (qbx b1 l1)).push (qbx b2 l2)).push { cls:=.type "tuple",data:=.seq #[.ref s.heap.objs.size,.ref (s.heap.objs.size+1)] }).push { cls:=.type "tuple",data:=.seq #[.none,.none] }).push { cls:=.type "zip",data:=.fields #[.none,.bool false,.bool false,.ref (s.heap.objs.size+2),.ref (s.heap.objs.size+3)] } }) :=
  .of_wp fun prog w A R s h=>by
    obtain ⟨hp,g,d,tk,os⟩:=s;obtain ⟨hl1,hl2,h⟩:=h
    have hsub:=sub_zip
    have hL1:SqO b1 (Shared.heap ⟨hp,g,d,tk,os⟩) l1 xs:=hl1
    have hL2:SqO b2 (Shared.heap ⟨hp.push (qbx b1 l1),g,d,tk,os⟩) l2 ys:=SqO.at hl2 fun o e=>Heap.get?_push_of_some _ e
    wp_walk using qdt hL1,qdt hL2
    have e1:(hp.push (qbx b1 l1)).objs.size=hp.objs.size+1:=Heap.size_push ..
    have e2:((hp.push (qbx b1 l1)).push (qbx b2 l2)).objs.size=hp.objs.size+2:=by rw [Heap.size_push,e1]
    refine ⟨_,rfl,?_⟩
    simp only [Heap.size_push]
    exact h
theorem qjh {b1 b2:Bool} {l1 l2:Addr} {xs ys:Array Value} {Q:Value→Shared→Prop} (hl1:SqO b1 s.heap l1 xs) (hl2:SqO b2 s.heap l2 ys)
    (h:∀ h',IsZip h' (s.heap.objs.size+4) (s.heap.objs.size+2) (s.heap.objs.size+3) .none→IsPair h' (s.heap.objs.size+2) (.ref s.heap.objs.size) (.ref (s.heap.objs.size+1))→IsPair h' (s.heap.objs.size+3) .none .none →
      SqI b1 h' s.heap.objs.size l1 0→SqI b2 h' (s.heap.objs.size+1) l2 0→(∀ c o,s.heap.get? c=some o→h'.get? c=some o)→Q (.ref (s.heap.objs.size+4)) { s with heap:=h' }) :
    wpAny (model prog w) A (call (.type "zip") [.ref l1,.ref l2]) Q E s:=by
  refine callType_new F.called_zip (by decide) (F.typeCall_zip_2 _ _) (F.newCall_zip_2 _ _) (fun obj=>F.args_object_init_3 obj _ _) F.entry_zip_new (qly b1 b2 l1 l2 xs ys) ⟨hl1,hl2,?_⟩
  have f1:(qbx b1 l1).isFreed=false:=by cases b1 <;> rfl
  have f2:(qbx b2 l2).isFreed=false:=by cases b2 <;> rfl
  have z1:(s.heap.push (qbx b1 l1)).objs.size=s.heap.objs.size+1:=Heap.size_push ..
  have z2:((s.heap.push (qbx b1 l1)).push (qbx b2 l2)).objs.size=s.heap.objs.size+2:=by rw [Heap.size_push,z1]
  generalize hg2:(s.heap.push (qbx b1 l1)).push (qbx b2 l2)=g2 at z2 ⊢
  have e0:g2.get? s.heap.objs.size=some (qbx b1 l1):=by rw [← hg2];exact Heap.get?_push_of_some _ (Heap.get?_push_size _ f1)
  have e1:g2.get? (s.heap.objs.size+1)=some (qbx b2 l2):=by rw [← hg2,← z1];exact Heap.get?_push_size _ f2
  have k2:∀ c o,s.heap.get? c=some o→g2.get? c=some o:=fun c o q=>by rw [← hg2];exact Heap.get?_push_of_some _ (Heap.get?_push_of_some _ q)
  generalize hg3:g2.push { cls:=.type "tuple",data:=.seq #[.ref s.heap.objs.size,.ref (s.heap.objs.size+1)] }=g3
  have z3:g3.objs.size=s.heap.objs.size+3:=by rw [← hg3,Heap.size_push,z2]
  have e2:IsPair g3 (s.heap.objs.size+2) (.ref s.heap.objs.size) (.ref (s.heap.objs.size+1)):=by rw [← hg3,← z2];exact Heap.get?_push_size _ rfl
  have k3:∀ c o,g2.get? c=some o→g3.get? c=some o:=fun c o q=>by rw [← hg3];exact Heap.get?_push_of_some _ q
  generalize hg4:g3.push { cls:=.type "tuple",data:=.seq #[.none,.none] }=g4
  have z4:g4.objs.size=s.heap.objs.size+4:=by rw [← hg4,Heap.size_push,z3]
  have e3:IsPair g4 (s.heap.objs.size+3) .none .none:=by rw [← hg4,← z3];exact Heap.get?_push_size _ rfl
  have k4:∀ c o,g3.get? c=some o→g4.get? c=some o:=fun c o q=>by rw [← hg4];exact Heap.get?_push_of_some _ q
  generalize hg5:g4.push { cls:=.type "zip",data:=.fields #[.none,.bool false,.bool false,.ref (s.heap.objs.size+2),.ref (s.heap.objs.size+3)] }=g5
  have e4:IsZip g5 (s.heap.objs.size+4) (s.heap.objs.size+2) (s.heap.objs.size+3) .none:=by rw [← hg5,← z4];exact Heap.get?_push_size _ rfl
  have k5:∀ c o,g4.get? c=some o→g5.get? c=some o:=fun c o q=>by rw [← hg5];exact Heap.get?_push_of_some _ q
  show _∧_
  exact ⟨⟨_,e4,rfl⟩,h _ e4 (k5 _ _ (k4 _ _ e2)) (k5 _ _ e3) (qch (k5 _ _ (k4 _ _ (k3 _ _ e0)))) (qch (k5 _ _ (k4 _ _ (k3 _ _ e1)))) fun c o q=>k5 _ _ (k4 _ _ (k3 _ _ (k2 _ _ q)))⟩
theorem qhI {b1 b2:Bool} {z TI TO i1 i2 l1 l2:Addr} {k1 k2:Nat} {xs ys:Array Value} {x y a b:Value} {Q:Option Value→Shared→Prop} (D:ZAp z TI TO i1 i2)
    (hz:IsZip s.heap z TI TO .none) (hTI:IsPair s.heap TI (.ref i1) (.ref i2)) (hTO:IsPair s.heap TO a b) (n1:l1≠TO) (n2:l2≠TO)
    (h1:SqI b1 s.heap i1 l1 k1) (h2:SqI b2 s.heap i2 l2 k2) (hl1:SqO b1 s.heap l1 xs) (hl2:SqO b2 s.heap l2 ys) (hx:xs[k1]?=some x) (hy:ys[k2]?=some y)
    (hQ:∀ h',IsZip h' z TI TO (rawInt s.heap.objs.size)→IsPair h' TO x y→SqI b1 h' i1 l1 (k1+1)→SqI b2 h' i2 l2 (k2+1)→IsPair h' s.heap.objs.size x y→h'.objs.size=s.heap.objs.size+1 →
      (∀ c o,c∉[z,TO,i1,i2]→s.heap.get? c=some o→h'.get? c=some o)→Q (some (.ref s.heap.objs.size)) { s with heap:=h' }):wpAny (model prog w) A (pyNext (.ref z)) Q E s:=by
  have hT:s.TypeIs (.ref z) "zip":=⟨_,hz,rfl⟩
  unfold pyNext
  exact wpAny_bind (wpAny_attempt (wpAny_callSpecial?_slot (name:=Str.ofString "__next__") hT F.slot_zip_next (wpAny_call_entry F.slot_zip_next hT F.entry_zip_next
    (qjk D hz hTI hTO n1 n2 h1 h2 hl1 hl2 hx hy fun h' c1 c2 c3 c4 c5 c6 c7=>wpAny_pure (hQ h' c1 c2 c3 c4 c5 c6 c7)) (F.args_zip_next_1 _))))
theorem qiT {b1 b2:Bool} {z TI TO i1 i2 l1 l2:Addr} {k1 k2:Nat} {xs ys:Array Value} {a b:Value} {Q:Option Value→Shared→Prop} (hh:A.handled=none) (D:ZAp z TI TO i1 i2)
    (hz:IsZip s.heap z TI TO .none) (hTI:IsPair s.heap TI (.ref i1) (.ref i2)) (hTO:IsPair s.heap TO a b) (n1:l1≠TO) (n2:l2≠TO)
    (h1:SqI b1 s.heap i1 l1 k1) (h2:SqI b2 s.heap i2 l2 k2) (hl1:SqO b1 s.heap l1 xs) (hl2:SqO b2 s.heap l2 ys) (hend:xs[k1]?=none∨ys[k2]?=none)
    (hQ:∀ h',(∀ c o,c∉[z,TO,i1,i2]→s.heap.get? c=some o→h'.get? c=some o)→Q none { s with heap:=h' }):wpAny (model prog w) A (pyNext (.ref z)) Q E s:=by
  have hT:s.TypeIs (.ref z) "zip":=⟨_,hz,rfl⟩
  unfold pyNext
  refine wpAny_bind (wpAny_attempt (wpAny_callSpecial?_slot (name:=Str.ofString "__next__") hT F.slot_zip_next (wpAny_call_entry F.slot_zip_next hT F.entry_zip_next (qld hh D hz hTI hTO n1 n2 h1 h2 hl1 hl2 hend fun h' e hk he=>?_) (F.args_zip_next_1 _))))
  obtain ⟨o,ho,hc⟩:=he
  exact wpAny_bind (wpAny_isInstance (T:="StopIteration") (b:=true) ⟨o,ho,hc⟩ isSubtype_stop (wpAny_pure (hQ _ hk)))
end
theorem Inv.sqb_ne {X:Cx} {pins:List (Addr × Obj)} {σ:St} {H:Hp} {s:Shared} {b:Bool} {a c:Addr} {xs:List V} (I:Inv X pins σ H s) (h:SqB X.K b H a xs) (f:FpOk X pins H c):a≠c:=fun z=>by
  subst z
  have nk:∀ o,X.K.lookup a=some o→False:=fun o e=>by
    have e':=I.mod.kin a o e
    rcases f.2.2.2.1 with q | q
    · exact I.ok.noex a o e' q
    · exact absurd (Nat.lt_of_lt_of_le (Heap.lt_size e') (Nat.le_trans I.ok.bsz q)) (Nat.lt_irrefl _)
  cases b with
  | true =>
    rcases h with (h | ⟨o,h⟩) | ⟨o,_,_,h,_⟩
    · rw [f.1] at h;cases h
    · rw [f.1] at h;cases h
    · exact nk o h
  | false =>
    rcases h with (h | ⟨o,h⟩) | ⟨o,_,_,h,_⟩
    · rw [f.1] at h;cases h
    · rw [f.1] at h;cases h
    · exact nk o h
def Itz (K:PySem.W.Frag) (b1:Bool) (a1:Addr) (b2:Bool) (a2:Addr):It :=
  ⟨fun i H=>∃ xs ys x y,SqB K b1 H a1 xs∧SqB K b2 H a2 ys∧xs[i]?=some x∧ys[i]?=some y,
   fun i H v H'=>∃ t x y,H t=none∧v=.ref t∧H'=upd H t (.tup [x,y])∧(∀ xs,SqB K b1 H a1 xs→xs[i]?=some x)∧∀ ys,SqB K b2 H a2 ys→ys[i]?=some y,
   fun i H=>∃ xs ys,SqB K b1 H a1 xs∧SqB K b2 H a2 ys∧(xs.length≤i∨ys.length≤i)⟩
theorem qiR {P:Program} {w:World} {K:PySem.W.Frag} {es:List Expr} {k:Nat} {pos:Pos} (b1 b2:Bool) (a1 a2 z TI TO i1 i2:Addr) (D:ZAp z TI TO i1 i2) :
    Turn P w K (.Tuple es k pos) (Itz K b1 a1 b2 a2) [z,TI,TO,i1,i2] z (fun i h=>IsZip h z TI TO .none∧IsPair h TI (.ref i1) (.ref i2)∧(∃ a b,IsPair h TO a b)∧SqI b1 h i1 a1 i∧SqI b2 h i2 a2 i) where
  mem:=by simp
  obj:=fun i h st c hc=>by
    obtain ⟨h1,h2,⟨a,b,h3⟩,h4,h5⟩:=st
    simp only [List.mem_cons,List.not_mem_nil,or_false] at hc
    rcases hc with rfl | rfl | rfl | rfl | rfl
    · exact ⟨_,h1,fun v q=>by have q':Data.fields _=Data.cell v:=q;cases q'⟩
    · exact ⟨_,h2,fun v q=>by have q':Data.seq _ _=Data.cell v:=q;cases q'⟩
    · exact ⟨_,h3,fun v q=>by have q':Data.seq _ _=Data.cell v:=q;cases q'⟩
    · exact h4.obj
    · exact h5.obj
  keep:=fun i h h' st k=>by
    obtain ⟨h1,h2,⟨a,b,h3⟩,h4,h5⟩:=st
    exact ⟨k z (by simp) _ h1,k TI (by simp) _ h2,⟨a,b,k TO (by simp) _ h3⟩,h4.at fun o q=>k i1 (by simp) o q,h5.at fun o q=>k i2 (by simp) o q⟩
  item:=by
    intro X hP hw hK hc i pins s σ H E I hf st hg
    subst hP hw hK
    obtain ⟨xs,ys,x,y,hq1,hq2,hx,hy⟩:=hg
    obtain ⟨h1,h2,⟨a,b,h3⟩,h4,h5⟩:=st
    obtain ⟨its1,rv1,p1,_⟩:=I.sqb hq1
    obtain ⟨its2,rv2,p2,_⟩:=I.sqb hq2
    obtain ⟨u,hu,ru⟩:=rv1.get hx
    obtain ⟨v,hv,rv⟩:=rv2.get hy
    refine qhI D h1 h2 h3 (I.sqb_ne hq1 (hf TO (by simp))) (I.sqb_ne hq2 (hf TO (by simp))) h4 h5 p1 p2 (x:=u) (y:=v) (by simpa using hu) (by simpa using hv) fun h' z1 z2 z3 z4 z5 z6 hk=>?_
    refine ⟨.ref s.heap.objs.size,rfl,wpAny_letOwnedTupleGo_zip z1 fun g2 zz hs2=>?_⟩
    have zn:H s.heap.objs.size=none:=I.fresh
    have I1:Inv X pins σ (upd H s.heap.objs.size (.tup [x,y])) { s with heap:=s.heap.push { cls:=.type "tuple",data:=.seq #[u,v] },toks:=s.toks } :=
      I.laid (fun c o q=>Heap.get?_push_of_some _ q) (Nat.le_refl _) ⟨by show 2≤sizeLine;decide,[u,v],.cons ru (.cons rv .nil),_,Heap.get?_push_size _ rfl,rfl,0,rfl⟩
    have lts:∀ c∈[z,TI,TO,i1,i2],c<s.heap.objs.size:=fun c hc=>by
      simp only [List.mem_cons,List.not_mem_nil,or_false] at hc
      rcases hc with rfl | rfl | rfl | rfl | rfl
      · exact Heap.lt_size h1
      · exact Heap.lt_size h2
      · exact Heap.lt_size h3
      · exact h4.lt
      · exact h5.lt
    have f1:∀ c∈[z,TI,TO,i1,i2],FpOk X pins (upd H s.heap.objs.size (.tup [x,y])) c:=fun c hc=>⟨by rw [qau (Nat.ne_of_lt (lts c hc))];exact (hf c hc).1,(hf c hc).2⟩
    have I2:=I1.turnedL (h':=g2) (ch:=[z,TI,TO,i1,i2]) (t':=s.toks) (fun c o hc q=>?_) f1
    · refine ⟨.ref s.heap.objs.size,_,I2,rfl,⟨s.heap.objs.size,x,y,zn,rfl,rfl,fun xs' hy'=>by rw [I.sqb_inj hy' hq1];exact hx,fun ys' hy'=>by rw [I.sqb_inj hy' hq2];exact hy⟩,
        ⟨zz,hs2.extBut _ _ D.a1 (hk TI _ (by simp [D.a1,D.a5,D.a6,D.a7]) h2),⟨_,_,hs2.extBut _ _ D.a2 z2⟩,z3.but hs2 D.a3,z4.but hs2 D.a4⟩,fun c hc=>(f1 c hc).1⟩
    · have hcz:c≠z:=fun e=>hc (by simp [e])
      refine (hs2.2 c hcz).trans ?_
      rcases Heap.get?_push_cases q with ⟨e,e'⟩ | q'
      · subst e;subst e';exact z5
      · exact hk c o (fun e=>hc (by
          simp only [List.mem_cons,List.not_mem_nil,or_false] at e ⊢
          rcases e with e | e | e | e
          · exact .inl e
          · exact .inr (.inr (.inl e))
          · exact .inr (.inr (.inr (.inl e)))
          · exact .inr (.inr (.inr (.inr e))))) q'
  done:=by
    intro X hP hw hK hc i pins s σ H E I hf st hg
    subst hP hw hK
    obtain ⟨xs,ys,hq1,hq2,hend⟩:=hg
    obtain ⟨h1,h2,⟨a,b,h3⟩,h4,h5⟩:=st
    obtain ⟨its1,rv1,p1,_⟩:=I.sqb hq1
    obtain ⟨its2,rv2,p2,_⟩:=I.sqb hq2
    have l1:=rv1.length
    have l2:=rv2.length
    have he:its1.toArray[i]?=none∨its2.toArray[i]?=none:=by
      rcases hend with q | q
      · exact .inl (by simp;omega)
      · exact .inr (by simp;omega)
    refine qiT (I.ok.hd hc) D h1 h2 h3 (I.sqb_ne hq1 (hf TO (by simp))) (I.sqb_ne hq2 (hf TO (by simp))) h4 h5 p1 p2 he fun h' hk=>⟨rfl,?_⟩
    refine I.turnedL (ch:=[z,TI,TO,i1,i2]) (t':=s.toks) (fun c o hc q=>hk c o (fun e=>hc ?_) q) hf
    simp only [List.mem_cons,List.not_mem_nil,or_false] at e ⊢
    rcases e with e | e | e | e
    · exact .inl e
    · exact .inr (.inr (.inl e))
    · exact .inr (.inr (.inr (.inl e)))
    · exact .inr (.inr (.inr (.inr e)))
  self:=fun _ _ _ _ _ st h=>wpAny_pyIter_zip st.1 h
theorem zap (n:Nat):ZAp (n+4) (n+2) (n+3) n (n+1) :=
  ⟨(by omega:n+2≠n+4),(by omega:n+3≠n+4),(by omega:n≠n+4),(by omega:n+1≠n+4),(by omega:n+2≠n+3),(by omega:n+2≠n),(by omega:n+2≠n+1),(by omega:n+3≠n),(by omega:n+3≠n+1),(by omega:n≠n+1)⟩
section
variable {X : Cx}
end
end L2
namespace L2
open PySem PySem.Spec PyProof.Rows
section
variable {X : Cx}
theorem qk6:OpR X (binaryOp .Mult) (rI IntMulOk fun i j=>.int (i*j)):=opI fun _ _ _ _ _ _ _ hc q=>mul_int q hc
def CDivB (i j:Int):Prop:=0<j∧j.natAbs.log2<9000
theorem qiL:OpR X (binaryOp .FloorDiv) (rI CDivB fun i j=>.int (i / j)):=opI fun i j _ _ _ _ _ hc q=>by
  have h1:(0:Int)<j:=hc.1
  exact floordiv_int (by omega) (by rw [Int.fdiv_eq_ediv_of_nonneg i (by omega)];exact q) (.inl (PyProof.noPylong_of_log2 hc.2))
end
theorem qec {n k:Nat} (hk:0<k) (h:n<2 ^ k):n.log2<k:=by
  rcases Nat.eq_zero_or_pos n with z | z
  · subst z;simpa using hk
  · exact (Nat.log2_lt (Nat.ne_of_gt z)).mpr h
theorem CDivB.of {i j:Int} (h0:0<j) (h:j<2 ^ 9000):CDivB i j:=⟨h0,qec (by decide) (by
  have e:(j.natAbs:Int)=j:=Int.natAbs_of_nonneg (Int.le_of_lt h0)
  have:(j.natAbs:Int)<((2 ^ 9000:Nat):Int):=by rw [e];exact_mod_cast h
  exact_mod_cast this)⟩
theorem qeg {a:Int} {k:Nat} (hk:0<k) (h:a.natAbs<2 ^ k):Builtin.Int.intBits a≤k:=by
  unfold Builtin.Int.intBits
  split
  · exact Nat.zero_le _
  · exact qec hk h
theorem qjM {a b:Int} {m n:Nat} (hm:0<m) (hn:0<n) (ha:a.natAbs<2 ^ m) (hb:b.natAbs<2 ^ n) (h:m+n≤134217728):IntMulOk a b:=PyProof.Rows.mulOk_of_bits (qeg hm ha) (qeg hn hb) h
theorem qct {a b:Int} (h1:-(2 ^ 64)<a) (h2:a<2 ^ 64):IntMulOk a b:=.of_left (intBits_le_64 h1 h2)
theorem qfQ {a b:Int} (h1:-(2 ^ 64)<b) (h2:b<2 ^ 64):IntMulOk a b:=.of_right (intBits_le_64 h1 h2)
section
variable {prog : Program} {w : World} {A : Around} {E : Value → Shared → Prop} {s : Shared}
theorem qfx {it t:Addr} {items:Array Value} (hne:t≠it):∀ (n i:Nat) (s:Shared) (Q:List Value→Shared→Prop),s.heap.IsListIter it t i→s.heap.IsList t items→i+n≤items.size →
    (∀ h',h'.IsListIter it t (i+n)→Heap.SameBut it s.heap h'→Q ((items.toList.drop i).take n) { s with heap:=h' })→wpAny (model prog w) A (draw (.ref it) n) Q E s
  | 0,i,s,Q,hit,_,_,hQ=>by
    show wpAny _ _ (pure []) Q E s
    exact wpAny_pure (by simpa using hQ s.heap hit (Heap.SameBut.refl ..))
  | n+1,i,s,Q,hit,ht,hle,hQ=>by
    have hlt:i<items.size:=by omega
    show wpAny _ _ (pyNext (.ref it) >>= _) Q E s
    refine wpAny_bind (wpAny_pyNext_list_item hit ht (x:=items[i]) (by simp [hlt]) fun g1 hit1 s1=>?_)
    refine wpAny_bind (wpAny_holding (qfx hne n (i+1) _ _ hit1 (ht.extBut s1.extBut hne) (by omega) fun g2 hit2 s2=>wpAny_pure ?_))
    have hd:items.toList.drop i=items[i]::items.toList.drop (i+1):=by simp [List.drop_eq_getElem_cons,hlt]
    have:=hQ g2 (by rw [show i+(n+1)=i+1+n by omega];exact hit2) (s1.trans s2)
    rw [hd,List.take_succ_cons] at this
    exact this
theorem qc9 {t:Addr} {items:Array Value} {Q:List Value→Shared→Prop} (hh:A.handled=none) (ht:s.heap.IsList t items)
    (hQ:∀ h',Heap.ExtBut s.heap.objs.size s.heap h'→Q items.toList { s with heap:=h' }):wpAny (model prog w) A (unpackItems (.ref t) items.size none) Q E s:=by
  have hlt:t≠s.heap.objs.size:=by obtain ⟨o,ho,_⟩:=ht;exact Nat.ne_of_lt (Heap.lt_size ho)
  unfold unpackItems
  refine wpAny_bind ?_
  unfold notIterableAtAll
  refine wpAny_bind (wpAny_specialOf ht.typeIs slot_list_iter.lookup (wpAny_pure ?_))
  simp only [Bool.false_eq_true,if_false]
  refine wpAny_bind (wpAny_holding (wpAny_pyIter_list ht (wpAny_bind (wpAny_holding (qfx hlt items.size 0 _ _ ⟨_,Heap.get?_push_size _ rfl,rfl,rfl⟩ (ht.push _) (by omega) fun g1 hit1 s1=>?_)))))
  have hall:List.take items.size (List.drop 0 items.toList)=items.toList:=by
    rw [List.drop_zero];exact List.take_of_length_le (by simp)
  rw [hall,if_neg (by simp)]
  have ht1:g1.IsList t items:=(ht.push _).extBut s1.extBut hlt
  refine wpAny_bind (wpAny_holding (wpAny_pyNext_list_end hh hit1 ht1 (by simp) fun g2 e2=>?_))
  simp only [Option.isSome_none,Bool.false_eq_true,if_false]
  exact wpAny_pure (hQ g2 fun b o hb e=>e2 b o hb (s1.extBut b o hb (Heap.get?_push_of_some _ e)))
end
section
variable {X : Cx} {pos : Pos}
def qom (K:PySem.W.Frag) (n:Nat) (t:TGs):TG:=fun v σ H Q=>∃ a xs,v=.ref a∧SqL K H a xs∧xs.length=n∧t xs σ H Q
theorem qmI {es:List Expr} {k:Nat} {t:TGs} {n:Nat} (hc:X.calm=true) (h:PGs X es t)
    (hn:(assignEach es X.env).length=n:=by rfl) (hst:(assignEach es X.env).findIdx? (·.1)=none:=by rfl):PG X (.Tuple es k pos) (qom X.K n t):=by
  intro pins s σ H v u Q I r hw
  obtain ⟨a,xs,e1,hq,hl,hw⟩:=hw
  subst e1
  cases r
  obtain ⟨its,rv,ht,hz⟩:=I.list hq
  rw [assign_Tuple]
  refine wpAny_bind (wpAny_standAt ?_)
  unfold unpack
  have e0:(assignEach es X.env).length=its.toArray.size:=by simp [hn,← hl,rv.length]
  rw [e0,hst]
  refine wpAny_bind (wpAny_holding (qc9 (I.ok.hd hc) ht.isList fun h' hx=>?_))
  have I1:Inv X pins σ H { s with heap:=h' }:=I.kept (t':=s.toks) fun b o e=>hx b o (Nat.ne_of_lt (Heap.lt_size e)) e
  exact h pins _ σ H xs _ Q I1 (by simpa using rv) hw
end
inductive IsiV (K:PySem.W.Frag) (H:Hp):V→String→Bool→Prop where
  | int_int (i):IsiV K H (.int i) "int" true
  | int_bool (i):IsiV K H (.int i) "bool" false
  | int_tuple (i):IsiV K H (.int i) "tuple" false
  | int_str (i):IsiV K H (.int i) "str" false
  | bl_int (b):IsiV K H (.bl b) "int" true
  | bl_bool (b):IsiV K H (.bl b) "bool" true
  | bl_tuple (b):IsiV K H (.bl b) "tuple" false
  | str_str (x):IsiV K H (.str x) "str" true
  | str_tuple (x):IsiV K H (.str x) "tuple" false
  | tup_tuple {a xs}:SqT K H a xs→IsiV K H (.ref a) "tuple" true
  | tup_int {a xs}:SqT K H a xs→IsiV K H (.ref a) "int" false
  | lst_tuple {a xs}:SqL K H a xs→IsiV K H (.ref a) "tuple" false
  | lst_list {a xs}:SqL K H a xs→IsiV K H (.ref a) "list" true
def qok (K:PySem.W.Frag):List V→Hp→VK→Prop:=fun vs H Q=>∃ x T b,vs=[x,.ty T]∧IsiV K H x T b∧Q (.bl b) H
theorem qo4 {x y:V} {us:List Value} (r:Vals [x,y] us):∃ u v,us=[u,v]∧RelV x u∧RelV y v:=by
  cases r with
  | cons r rr =>
    cases rr with
    | cons r' rr=>cases rr;exact ⟨_,_,rfl,r,r'⟩
theorem qjJ {X:Cx}:qcl X (.builtin "isinstance") (qok X.K):=by
  intro pins s σ H xs us Q I r h
  obtain ⟨x,T,b,rfl,hi,q⟩:=h
  obtain ⟨u,v,rfl,ru,rv⟩:=qo4 r
  have rv:v=.type T:=rv
  subst rv
  have fin:∀ (c:Bool) (t:Nat),Q (.bl c) H→EP X pins σ Q (.bool c) { s with toks:=t }:=fun c t q=>⟨.bl c,H,I.tok t,rfl,q⟩
  cases hi with
  | int_int i=>obtain ⟨t,rfl⟩:=ru;exact IsiPair.int_int (fin _ s.toks q)
  | int_bool i=>obtain ⟨t,rfl⟩:=ru;exact IsiPair.int_bool (fin _ _ q)
  | int_tuple i=>obtain ⟨t,rfl⟩:=ru;exact IsiPair.int_tuple (fin _ _ q)
  | int_str i=>obtain ⟨t,rfl⟩:=ru;exact IsiPair.int_str (fin _ _ q)
  | bl_int b=>cases ru;exact IsiPair.bool_int (fin _ s.toks q)
  | bl_bool b=>cases ru;exact IsiPair.bool_bool (fin _ s.toks q)
  | bl_tuple b=>cases ru;exact IsiPair.bool_tuple (fin _ _ q)
  | str_str x=>obtain ⟨t,rfl⟩:=ru;exact IsiPair.str_str (fin _ s.toks q)
  | str_tuple x=>obtain ⟨t,rfl⟩:=ru;exact IsiPair.str_tuple (fin _ _ q)
  | tup_tuple h =>
    cases ru
    obtain ⟨its,_,p,_⟩:=I.tuple h
    exact call_isinstance (isinstance_true (Tx:="tuple") F.isi_meta_tuple F.sub_tuple_tuple) ⟨p.typeIs,fin _ s.toks q⟩
  | tup_int h =>
    cases ru
    obtain ⟨its,_,⟨o,e,c,_⟩,_⟩:=I.tuple h
    exact call_isinstance (isinstance_false_tuple (by decide +kernel) F.isi_meta_int F.sub_tuple_int) ⟨⟨o,e,c⟩,fin _ _ q⟩
  | lst_tuple h =>
    cases ru
    obtain ⟨its,_,p,_⟩:=I.list h
    obtain ⟨o,e,c,_⟩:=p.isList
    exact call_isinstance (isinstance_false_list (by decide +kernel) F.isi_meta_tuple F.sub_list_tuple) ⟨⟨o,e,c⟩,fin _ _ q⟩
  | lst_list h =>
    cases ru
    obtain ⟨its,_,p,_⟩:=I.list h
    exact call_isinstance (isinstance_true (Tx:="list") F.isi_meta_list F.sub_list_list) ⟨p.isList.typeIs,fin _ s.toks q⟩
theorem qeI {prog:Program} {w:World} {A:Around} (hh:A.handled=none) (b:Bool) (it a:Addr) (hne:a≠it) (its:Array Value):Walks prog w A it [it,a] [it] its.size (fun i v=>its[i]?=some v) (fun i h=>SqI b h it a i∧SqO b h a its) where
  sub:=fun c hc=>by rw [List.mem_singleton.mp hc];simp
  frame:=fun _ _ _ st k=>⟨st.1.at fun o e=>k it (by simp) o e,st.2.at fun o e=>k a (by simp) o e⟩
  item:=fun i s Q E hi st hQ=>by
    cases b with
    | true=>exact wpAny_pyNext_list_item st.1 st.2 (x:=its[i]) (by simp [hi]) fun h' q sb=>hQ _ h' s.toks (by simp [hi]) ⟨q,SqO.at (b:=true) st.2 fun o e=>(sb.2 a hne).trans e⟩ fun c o hc e=>(sb.2 c fun z=>hc (by simp [z])).trans e
    | false=>exact wpAny_pyNext_tuple_item st.1 st.2 (x:=its[i]) (by simp [hi]) fun h' q sb=>hQ _ h' s.toks (by simp [hi]) ⟨q,SqO.at (b:=false) st.2 fun o e=>(sb.2 a hne).trans e⟩ fun c o hc e=>(sb.2 c fun z=>hc (by simp [z])).trans e
  done:=fun s Q E st hQ=>by
    cases b with
    | true=>exact wpAny_pyNext_list_end hh st.1 st.2 (by simp) fun h' eb=>hQ h' s.toks fun c o hc e=>eb c o (fun z=>hc (by simp [z])) e
    | false=>exact wpAny_pyNext_tuple_end hh st.1 st.2 (by simp) fun h' eb=>hQ h' s.toks fun c o hc e=>eb c o (fun z=>hc (by simp [z])) e
  self:=fun i s Q E st hQ=>by
    cases b with
    | true=>exact wpAny_pyIter_listiter st.1 hQ
    | false=>exact wpAny_pyIter_tupleiter st.1 hQ
theorem qnZ {x:V} {us:List Value} (r:Vals [x] us):∃ u,us=[u]∧RelV x u:=by
  cases r with
  | cons r rr=>cases rr;exact ⟨_,rfl,r⟩
theorem qdT (val:Nat→Int) (ns:List Int) (h:∀ i n,ns[i]?=some n→val i=n):∀ k,k≤ns.length→preSum val k=(ns.take k).sum
  | 0,_=>by simp [preSum]
  | k+1,hk=>by
    have hlt:k<ns.length:=hk
    have e:=h k ns[k] (by simp [hlt])
    rw [preSum,qdT val ns h k (Nat.le_of_lt hlt),e,List.take_succ_eq_append_getElem hlt,List.sum_append]
    simp
def qoP (K:PySem.W.Frag) (b:Bool):List V→Hp→VK→Prop:=fun vs H Q=>∃ (a:Addr) (ns:List Int),vs=[.ref a]∧SqB K b H a (ns.map V.int)∧Q (.int ns.sum) H
theorem qiP (b:Bool) {X:Cx} (hc:X.calm=true):qcl X (.builtin "sum") (qoP X.K b):=by
  intro pins s σ H xs us Q I r h
  obtain ⟨a,ns,rfl,hq,q⟩:=h
  obtain ⟨u,rfl,ru⟩:=qnZ r
  cases ru
  obtain ⟨its,rv,p,hz⟩:=I.sqb hq
  refine call_sum_walkAnyS (qdt p ?_)
  have hne:a≠s.heap.objs.size:=Nat.ne_of_lt p.lt
  have W:=qeI (prog:=X.prog) (w:=X.w) (A:=X.A.in1) (I.ok.hd hc) b s.heap.objs.size a hne its.toArray
  have hv:∀ (i:Nat) (v:Value),its.toArray[i]?=some v→∃ t,v=.int (ns.getD i 0) t:=fun i v e=>by
    have e':its[i]?=some v:=by simpa using e
    have hi:i<ns.length:=by
      have:=(List.getElem?_eq_some_iff.mp e').1
      have:=rv.length
      rw [List.length_map] at this
      omega
    obtain ⟨v',h1,h2⟩:=rv.get (i:=i) (x:=V.int (ns.getD i 0)) (by simp [hi])
    rw [e'] at h1;cases h1
    exact h2
  have ln:its.toArray.size=ns.length:=by have:=rv.length;rw [List.length_map] at this;simp [this]
  refine ⟨s.heap.objs.size,[s.heap.objs.size,a],[s.heap.objs.size],_,its.toArray.size,_,_,fun i=>ns.getD i 0,rfl,W.toS,⟨qch (Heap.get?_push_size _ (by cases b <;> rfl)),p.at fun o e=>Heap.get?_push_of_some _ e⟩,fun c hcm=>?_,hv,fun s' t' hm=>?_⟩
  · rw [Heap.size_push]
    rcases List.mem_cons.mp hcm with rfl | hcm
    · exact Nat.lt_succ_self _
    · rw [List.mem_singleton.mp hcm];exact Nat.lt_succ_of_lt p.lt
  · obtain ⟨hh,hg,hd,ho,_⟩:=hm
    obtain ⟨h',g',d',tk',os'⟩:=s'
    have e1:g'=s.gens:=hg
    have e2:d'=s.drawn:=hd
    have e3:os'=s.os:=ho
    subst e1 e2 e3
    refine ⟨.int ns.sum,H,I.kept (h':=h') (t':=tk') fun c o e=>hh c o (fun z=>?_) (Heap.get?_push_of_some _ e),⟨t',?_⟩,q⟩
    · rw [List.mem_singleton.mp z] at e
      exact absurd (Heap.lt_size e) (Nat.lt_irrefl _)
    · rw [ln,qdT (fun i=>ns.getD i 0) ns (fun i n e=>by
        show ns.getD i 0=n
        rw [List.getD_eq_getElem?_getD,e];rfl) ns.length (Nat.le_refl _),List.take_length]
def qoy (K:PySem.W.Frag) (b:Bool) (f:List Bool→Bool):List V→Hp→VK→Prop:=fun vs H Q=>∃ (a:Addr) (bs:List Bool),vs=[.ref a]∧SqB K b H a (bs.map V.bl)∧Q (.bl (f bs)) H
theorem qdL {prog:Program} {w:World} {A:Around} {its:Array Value} {bs:List Bool} (rv:Vals (bs.map V.bl) its.toList):TruthOf prog w A (fun i v=>its[i]?=some v) (fun i=>bs.getD i false):=by
  intro i v s Q E e q
  have e':its.toList[i]?=some v:=by simpa using e
  have hi:i<bs.length:=by
    have:=(List.getElem?_eq_some_iff.mp e').1
    have:=rv.length
    rw [List.length_map] at this
    omega
  obtain ⟨v',h1,h2⟩:=rv.get (i:=i) (x:=V.bl (bs.getD i false)) (by simp [hi])
  rw [e'] at h1;cases h1
  have h2:v=.bool (bs.getD i false):=h2
  subst h2
  exact wpAny_truthy_bool q
theorem qia (bs:List Bool):(List.range bs.length).all (fun i=>bs.getD i false)=bs.all id:=by
  rw [Bool.eq_iff_iff]
  simp only [List.all_eq_true,List.mem_range,id]
  constructor
  · intro h x hx
    obtain ⟨i,hi,rfl⟩:=List.mem_iff_getElem.mp hx
    have:=h i hi
    simpa [hi] using this
  · intro h i hi
    have:=h bs[i] (List.getElem_mem hi)
    simpa [hi] using this
theorem qh9 (bs:List Bool):(List.range bs.length).any (fun i=>bs.getD i false)=bs.any id:=by
  rw [Bool.eq_iff_iff]
  simp only [List.any_eq_true,List.mem_range,id]
  constructor
  · rintro ⟨i,hi,h⟩
    exact ⟨bs[i],List.getElem_mem hi,by simpa [hi] using h⟩
  · rintro ⟨x,hx,h⟩
    obtain ⟨i,hi,rfl⟩:=List.mem_iff_getElem.mp hx
    exact ⟨i,hi,by simpa [hi] using h⟩
theorem qiH (b:Bool) {X:Cx} (hc:X.calm=true):qcl X (.builtin "all") (qoy X.K b fun bs=>bs.all id):=by
  intro pins s σ H xs us Q I r h
  obtain ⟨a,bs,rfl,hq,q⟩:=h
  obtain ⟨u,rfl,ru⟩:=qnZ r
  cases ru
  obtain ⟨its,rv,p,hz⟩:=I.sqb hq
  have hne:a≠s.heap.objs.size:=Nat.ne_of_lt p.lt
  have ln:its.toArray.size=bs.length:=by have:=rv.length;rw [List.length_map] at this;simp [this]
  have W:=qeI (prog:=X.prog) (w:=X.w) (A:=X.A.in1) (I.ok.hd hc) b s.heap.objs.size a hne its.toArray
  refine call_all_walk (qdt p ⟨s.heap.objs.size,[s.heap.objs.size,a],[s.heap.objs.size],its.toArray.size,_,_,fun i=>bs.getD i false,rfl,W,⟨qch (Heap.get?_push_size _ (by cases b <;> rfl)),p.at fun o e=>Heap.get?_push_of_some _ e⟩,qdL (by simpa using rv),fun h' tk hk=>?_⟩)
  rw [ln,qia]
  refine ⟨.bl (bs.all id),H,I.kept (h':=h') (t':=tk) fun c o e=>hk c o (fun z=>?_) (Heap.get?_push_of_some _ e),rfl,q⟩
  rw [List.mem_singleton.mp z] at e
  exact absurd (Heap.lt_size e) (Nat.lt_irrefl _)
theorem qjB (b:Bool) {X:Cx} (hc:X.calm=true):qcl X (.builtin "any") (qoy X.K b fun bs=>bs.any id):=by
  intro pins s σ H xs us Q I r h
  obtain ⟨a,bs,rfl,hq,q⟩:=h
  obtain ⟨u,rfl,ru⟩:=qnZ r
  cases ru
  obtain ⟨its,rv,p,hz⟩:=I.sqb hq
  have hne:a≠s.heap.objs.size:=Nat.ne_of_lt p.lt
  have ln:its.toArray.size=bs.length:=by have:=rv.length;rw [List.length_map] at this;simp [this]
  have W:=qeI (prog:=X.prog) (w:=X.w) (A:=X.A.in1) (I.ok.hd hc) b s.heap.objs.size a hne its.toArray
  refine call_any_walk (qdt p ⟨s.heap.objs.size,[s.heap.objs.size,a],[s.heap.objs.size],its.toArray.size,_,_,fun i=>bs.getD i false,rfl,W,⟨qch (Heap.get?_push_size _ (by cases b <;> rfl)),p.at fun o e=>Heap.get?_push_of_some _ e⟩,qdL (by simpa using rv),fun h' tk hk=>?_⟩)
  rw [ln,qh9]
  refine ⟨.bl (bs.any id),H,I.kept (h':=h') (t':=tk) fun c o e=>hk c o (fun z=>?_) (Heap.get?_push_of_some _ e),rfl,q⟩
  rw [List.mem_singleton.mp z] at e
  exact absurd (Heap.lt_size e) (Nat.lt_irrefl _)
def qaI (N:List Str) (sc scope:Scope) (N':List Str) (cap:List (Option Nat)):Bool :=
  decide (scope.kind=.function) && scope.names.all (fun x=>decide (x.2=.cell→scope.names.lookup x.1=some .cell)) && scope.names.all (fun x=>decide (x.2=.local→scope.names.lookup x.1=some .local)) &&
    scope.names.all (fun x=>decide (x.2=.free→sc.names.lookup x.1=some .cell∧scope.names.lookup x.1=some .free)) && decide N'.Nodup && decide (cap.length=N'.length) &&
    (cap.zip N').all fun p=>match p.1 with | none=>true | some i=>decide (N[i]?=some p.2∧(p.2,NameKind.free)∈scope.names)
theorem CompScope.ok {N:List Str} {sc scope:Scope} {N':List Str} {cap:List (Option Nat)} (h:qaI N sc scope N' cap=true):CompScope N sc scope N' cap:=by
  unfold qaI at h
  simp only [Bool.and_eq_true,decide_eq_true_eq,List.all_eq_true] at h
  obtain ⟨⟨⟨⟨⟨⟨h1,h2⟩,h3⟩,h4⟩,h5⟩,h6⟩,h7⟩:=h
  refine ⟨h1,h2,h3,fun x hx hf=>(h4 x hx hf).1,fun x hx hf=>(h4 x hx hf).2,h5,h6,fun p hp i hi=>?_⟩
  have:=h7 p hp
  rw [hi] at this
  simpa using this
section
variable {K : PySem.W.Frag} {B : V → St → Hp → (St → Hp → Prop) → Prop} {End : St → Hp → Prop} {σ : St} {H : Hp}
end
theorem qaG {H:Hp} {p:Addr} (h:H p=none) (o:HO):Same H (upd H p o):=fun b u q=>by rw [qau (qat q h)];exact q
theorem qgQ {H H':Hp} {p:Addr} (s:Same H H') (h:H p=none) (o:HO):Same H (upd H' p o):=fun b u q=>by rw [qau (qat q h)];exact s b u q
theorem Same.sqt {K:PySem.W.Frag} {H H':Hp} {a:Addr} {xs:List V} (e:Same H H') (h:SqT K H a xs):SqT K H' a xs:=SqB.same (b:=false) e h
theorem small {n:Nat} (h:n≤1000):n≤sizeLine:=Nat.le_of_lt (qam h)
theorem dP {p:Prop} [Decidable p] (h:decide p=true):p:=of_decide_eq_true h
theorem qb8 {α:Type} {xs:List α} {i:Nat} {x:α} (h:xs[i]?=some x):xs.take (i+1)=xs.take i++[x]:=by
  obtain ⟨hi,e⟩:=List.getElem?_eq_some_iff.mp h
  rw [List.take_succ_eq_append_getElem hi,e]
theorem qaF {α:Type} {xs:List α} {i:Nat} {x:α} (h:xs[i]?=some x):i<xs.length:=(List.getElem?_eq_some_iff.mp h).1
theorem qmN {α:Type} {xs:List α} {i:Nat} {x:α} {k:Int} (h:xs[i]?=some x) (e:k=(i:Int)):atI xs k=some x:=by
  subst e
  exact qk4 h
def qa6 (ns:List Int):Int:=ns.foldl (fun d x=>(Int.gcd x d:Int)) 0
theorem qdq (xs:List Int) (x:Int):qa6 (xs++[x])=(Int.gcd x (qa6 xs):Int):=by unfold qa6;rw [List.foldl_append];rfl
theorem qiX {g l:Int} (hg:0≤g) (hl:0<l):Int.gcd l (g % l)=Int.gcd g l:=by
  rw [Int.gcd_comm g l]
  have e:g % l=g - l*(g / l):=by have:=Int.emod_add_mul_ediv g l;omega
  rw [e]
  simpa using Int.gcd_sub_mul_right_right
theorem qb7 (ns:List Int):0≤qa6 ns:=by
  have h:∀ (ns:List Int) (d:Int),0≤d→0≤ns.foldl (fun d x=>(Int.gcd x d:Int)) d:=by
    intro ns
    induction ns with
    | nil=>intro d hd;exact hd
    | cons x r ih=>intro d _;exact ih _ (Int.natCast_nonneg _)
  exact h ns 0 (by decide)
theorem qbj (ns:List Int):∀ x∈ns,qa6 ns∣x:=by
  have h:∀ (ns:List Int) (d:Int),ns.foldl (fun d x=>(Int.gcd x d:Int)) d∣d∧∀ x∈ns,ns.foldl (fun d x=>(Int.gcd x d:Int)) d∣x:=by
    intro ns
    induction ns with
    | nil=>intro d;exact ⟨Int.dvd_refl _,fun x hx=>absurd hx List.not_mem_nil⟩
    | cons y r ih =>
      intro d
      obtain ⟨h1,h2⟩:=ih (Int.gcd y d:Int)
      refine ⟨Int.dvd_trans h1 (Int.gcd_dvd_right ..),fun x hx=>?_⟩
      rcases List.mem_cons.mp hx with rfl | hx
      · exact Int.dvd_trans h1 (Int.gcd_dvd_left ..)
      · exact h2 x hx
  exact (h ns 0).2
theorem qfy {ns:List Int} (h:qa6 ns=0):∀ x∈ns,x=0:=fun x hx=>by
  have:=qbj ns x hx
  rw [h] at this
  exact Int.zero_dvd.mp this
def dot (es ns:List Int):Int:=(List.zipWith (·*·) es ns).sum
def qfO {α:Type} (xs:List α) (lo hi:Option Int):List α:=(xs.drop (HT.sIx xs.length 0 lo)).take (HT.sIx xs.length xs.length hi - HT.sIx xs.length 0 lo)
inductive EqT (K:PySem.W.Frag) (H:Hp):Nat→V→V→Prop where
  | int {d:Nat} (i:Int):EqT K H d (.int i) (.int i)
  | bl {d:Nat} (b:Bool):EqT K H d (.bl b) (.bl b)
  | str {d:Nat} (x:Str):EqT K H d (.str x) (.str x)
  | non {d:Nat}:EqT K H d .non .non
  | sq {d:Nat} (q:Bool) {a b:Addr} {xs ys:List V}:SqB K q H a xs→SqB K q H b ys→xs.length=ys.length→(∀ (i:Nat) (x y:V),xs[i]?=some x→ys[i]?=some y→EqT K H d x y)→EqT K H (d+1) (.ref a) (.ref b)
theorem Vals.get' {xs:List V} {us:List Value} (r:Vals xs us) {j:Nat} (h:j<us.length):∃ x,xs[j]?=some x∧RelV x us[j]:=by
  have hl:=Vals.length r
  have hj:j<xs.length:=by omega
  obtain ⟨u,hu,ru⟩:=Vals.get (i:=j) (x:=xs[j]) r (by simp [hj])
  refine ⟨xs[j],by simp [hj],?_⟩
  rw [List.getElem?_eq_getElem h] at hu
  cases hu
  exact ru
section
variable {prog : Program} {w : World} {A : Around} {E : Value → Shared → Prop} {s : Shared}
theorem qkB {t b:Addr} {vs ws:List Value} {Q:Value→Shared→Prop} (ht:IsTup s.heap t vs.toArray) (hb:IsTup s.heap b ws.toArray) (hv:vs=[]) (h:Q (.ref b) s):wpAny (model prog w) A (binaryOp .Add (.ref t) (.ref b)) Q E s:=by
  obtain ⟨⟨cls,dd,data,sl⟩,ho,hc,n,hd⟩:=id ht
  obtain ⟨⟨cls2,dd2,data2,sl2⟩,ho2,hc2,n2,hd2⟩:=id hb
  simp only at hc hd hc2 hd2
  subst hc hd hc2 hd2
  exact concat_meets ⟨_,ho,rfl⟩ ⟨_,ho2,rfl⟩ noFill_tuple_add seq_tuple_add PySem.F.slot_tuple_add PySem.F.entry_tuple_add (PySem.F.args_tuple_add_2 _ _) (tuple_addW0 t b vs.toArray ws.toArray n n2 dd dd2 sl sl2 (by simp [hv])) ⟨ho,ho2,h⟩
end
def ql5 (K:PySem.W.Frag):R2:=fun x y H Q=>∃ a b xs ys,x=.ref a∧y=.ref b∧SqT K H a xs∧SqT K H b ys∧xs.length+ys.length≤sizeLine∧∀ p H',Same H H'→SqT K H' p (xs++ys)→Q (.ref p) H'
theorem qlk {X:Cx}:OpR X (binaryOp .Add) (ql5 X.K):=by
  intro pins s σ H x y v u Q I rx ry h
  obtain ⟨a,b,xs,ys,rfl,rfl,ha,hb,hz,q⟩:=h
  by_cases hx:xs=[]
  · subst hx
    cases rx
    cases ry
    obtain ⟨its,r1,p1,_⟩:=I.tuple ha
    obtain ⟨its2,r2,p2,_⟩:=I.tuple hb
    exact qkB p1 p2 (r1.nil_iff.mpr rfl) ⟨.ref b,H,I,rfl,q b H (Same.refl H) hb⟩
  · refine qkQ pins s σ H _ _ v u Q I rx ry ⟨a,b,xs,ys,rfl,rfl,ha,hb,hx,hz,fun e=>?_,fun _ p hp=>q p _ (qaG hp _) (SqT.of qan)⟩
    subst e
    exact q a H (Same.refl H) (by rw [List.append_nil];exact ha)
theorem qim {ns:List Int} {m:Nat} (h:∀ x∈ns,x.natAbs<m) (hm:0<m):qa6 ns<m:=by
  by_cases c:qa6 ns=0
  · omega
  · have hx:∃ x∈ns,x≠0:=by
      refine Classical.byContradiction fun n=>c ?_
      have hz:∀ x∈ns,x=0:=fun x hx=>Classical.byContradiction fun z=>n ⟨x,hx,z⟩
      have:∀ (l:List Int) ,(∀ x∈l,x=0)→l.foldl (fun d x=>(Int.gcd x d:Int)) 0=0:=by
        intro l
        induction l with
        | nil=>intro _;rfl
        | cons y r ih =>
          intro hl
          have:=hl y List.mem_cons_self
          subst this
          exact ih fun x hx=>hl x (List.mem_cons_of_mem _ hx)
      exact this ns hz
    obtain ⟨x,hx,x0⟩:=hx
    have h1:=qbj ns x hx
    have h2:=Int.natAbs_dvd_natAbs.mpr h1
    have h3:=Nat.le_of_dvd (by omega) h2
    have h4:=h x hx
    have h5:=qb7 ns
    omega
section
variable {J : It} {B : V → St → Hp → (St → Hp → Prop) → Prop} {End : St → Hp → Prop} {σ : St} {H : Hp} {D : Addr} {n : Nat} {El : Nat → V → Hp → Prop}
end
section
variable {K : PySem.W.Frag} {B : V → St → Hp → (St → Hp → Prop) → Prop} {End : St → Hp → Prop} {σ : St} {H : Hp} {D a : Addr}
end
section
variable {α : Type} {R R' : V → α → Prop} {vs ws : List V} {rs ss : List α}
end
abbrev Row:=List Int × Int
def qag (rs:List Row) (k:Int):Row:=rs.getD k.toNat ([],0)
theorem qgr {rs:List Row} {k:Int} (h0:0≤k) (h1:k<rs.length):rs[k.toNat]?=some (qag rs k):=by
  have h:k.toNat<rs.length:=by omega
  unfold qag
  rw [List.getD_eq_getElem?_getD,List.getElem?_eq_getElem h]
  rfl
theorem qaO {rs:List Row} {k:Int} (h0:0≤k) (h1:k<rs.length):qag rs k∈rs:=List.mem_of_getElem? (qgr h0 h1)
theorem qgx {α:Type} (xs:List α) (n:Nat):qfO xs none (some (n:Int))=xs.take n:=by
  unfold qfO
  have e1:HT.sIx xs.length 0 none=0:=rfl
  have e2:HT.sIx xs.length xs.length (some (n:Int))=min n xs.length:=HT.sIx_nat _ _ _
  rw [e1,e2,List.drop_zero,Nat.sub_zero]
  rcases Nat.le_total n xs.length with h | h
  · rw [Nat.min_eq_left h]
  · rw [Nat.min_eq_right h,List.take_length,List.take_of_length_le h]
theorem qgA {α:Type} (xs:List α) (n:Nat):qfO xs (some (n:Int)) none=xs.drop n:=by
  unfold qfO
  have e1:HT.sIx xs.length xs.length none=xs.length:=rfl
  have e2:HT.sIx xs.length 0 (some (n:Int))=min n xs.length:=HT.sIx_nat _ _ _
  rw [e1,e2]
  rcases Nat.le_total n xs.length with h | h
  · rw [Nat.min_eq_left h,List.take_of_length_le (by rw [List.length_drop];omega)]
  · rw [Nat.min_eq_right h,List.drop_length,List.drop_of_length_le h]
    simp
theorem qk9 (xs:List V) (lo hi:Option Int):qkh xs lo hi=qfO xs lo hi:=rfl
section
variable {α : Type} {R : V → α → Prop} {vs : List V} {rs : List α}
end
theorem qin {n j:Nat} (h:j<n):ixN n (j:Int)=some j:=by
  unfold ixN
  rw [if_pos (by omega),if_pos (by omega),Int.toNat_natCast]
theorem qaz {a0 a1 a2 a3} {rest:List Expr} {env:Env}:starEach (.BinOp a0 a1 a2 a3::rest) env=(false,eval (.BinOp a0 a1 a2 a3) env)::starEach rest env:=rfl
theorem qhh {a0 a1 a2} {rest:List Expr} {env:Env}:starEach (.UnaryOp a0 a1 a2::rest) env=(false,eval (.UnaryOp a0 a1 a2) env)::starEach rest env:=rfl
theorem qah {a0 a1 a2 a3} {rest:List Expr} {env:Env}:starEach (.ListComp a0 a1 a2 a3::rest) env=(false,eval (.ListComp a0 a1 a2 a3) env)::starEach rest env:=rfl
theorem qck {a0 a1 a2 a3} {rest:List Expr} {env:Env}:starEach (.Compare a0 a1 a2 a3::rest) env=(false,eval (.Compare a0 a1 a2 a3) env)::starEach rest env:=rfl
theorem qaj {a0 a1 a2 a3} {rest:List Expr} {env:Env}:starEach (.Call a0 a1 a2 a3::rest) env=(false,eval (.Call a0 a1 a2 a3) env)::starEach rest env:=rfl
theorem qak {a0 a1 a2} {rest:List Expr} {env:Env}:starEach (.Constant a0 a1 a2::rest) env=(false,eval (.Constant a0 a1 a2) env)::starEach rest env:=rfl
theorem qas {a0 a1 a2} {rest:List Expr} {env:Env}:starEach (.Attribute a0 a1 a2::rest) env=(false,eval (.Attribute a0 a1 a2) env)::starEach rest env:=rfl
theorem qac {a0 a1 a2} {rest:List Expr} {env:Env}:starEach (.Subscript a0 a1 a2::rest) env=(false,eval (.Subscript a0 a1 a2) env)::starEach rest env:=rfl
theorem qaa {a0 a1} {rest:List Expr} {env:Env}:starEach (.Name a0 a1::rest) env=(false,eval (.Name a0 a1) env)::starEach rest env:=rfl
theorem qce {a0 a1} {rest:List Expr} {env:Env}:starEach (.List a0 a1::rest) env=(false,eval (.List a0 a1) env)::starEach rest env:=rfl
theorem qeB {a0 a1 a2} {rest:List Expr} {env:Env}:starEach (.Tuple a0 a1 a2::rest) env=(false,eval (.Tuple a0 a1 a2) env)::starEach rest env:=rfl
theorem qad {pos:Pos} {env:Env}:(backTo pos (starEach [] env)).any (·.1)=false:=rfl
theorem qae {pos:Pos} {e:Expr} {es:List Expr} {env:Env} (h:starEach (e::es) env=(false,eval e env)::starEach es env) (hr:(backTo pos (starEach es env)).any (·.1)=false):(backTo pos (starEach (e::es) env)).any (·.1)=false:=by
  rw [h]
  exact hr
theorem qdD {pos : Pos} {e : Expr} {env : Env} (h : starEach [e] env = (false, eval e env) :: starEach [] env) : ((backTo pos (starEach [e] env)).all (fun x => !x.1) && (backToKw pos (keywordEach [] env)).all (fun x => x.1.isSome)
      && decide ([e].length+([]:List Keyword).length+(if ([]:List Keyword).isEmpty then 0 else 1)<30))=true:=by
  rw [h]
  rfl
section
variable {X : Cx} {K : PySem.W.Frag}
theorem qiz (h:X.K=K):qcl X (.builtin "isinstance") (qok K):=h ▸ qjJ
end
end L2
namespace L2
open PySem PySem.Spec PyProof.Rows
section
variable {X : Cx} {K : PySem.W.Frag}
theorem qm7:OpR X (compareOp .Is) (fun x y H Q=>∃ a b:Bool,x=.bl a∧y=.bl b∧Q (.bl (a == b)) H):=by
  intro pins s σ H x y v u Q I rx ry h
  obtain ⟨a,b,rfl,rfl,q⟩:=h
  cases rx
  cases ry
  exact wpAny_is_plain rfl (qgJ I q (by cases a <;> cases b <;> rfl))
theorem qkv:OpR X (compareOp .IsNot) (fun x y H Q=>∃ a b:Bool,x=.bl a∧y=.bl b∧Q (.bl (!(a == b))) H):=by
  intro pins s σ H x y v u Q I rx ry h
  obtain ⟨a,b,rfl,rfl,q⟩:=h
  cases rx
  cases ry
  exact wpAny_isNot_plain rfl (qgJ I q (by cases a <;> cases b <;> rfl))
end
end L2
namespace PySem
open Sem (wp)
open Builtin
open AutoSeq1 (wpAny_loadPart')
theorem qcP:fillsNumberSlot (.type "tuple") "mul"=pure false :=
  fillsNumberSlot_seq (id:="tuple.__mul__") (r:=some (.builtin "tuple.__rmul__")) F.slot_tuple_mul.lookup (by decide +kernel) F.slot_tuple_rmul.lookup (by decide +kernel)
theorem qeZ:seqRepeat? (.type "tuple")=pure (some (.builtin "tuple.__mul__")):=by
  unfold seqRepeat?
  rw [seqSlot_of (T:="tuple") (name:="__mul__") (id:="tuple.__mul__") F.slot_tuple_mul.lookup (by decide +kernel),seqSlot_of (T:="tuple") (name:="__rmul__") (id:="tuple.__rmul__") F.slot_tuple_rmul.lookup (by decide +kernel)]
  rfl
theorem qdm (a:Int) (t:Tok) (l:Addr) (items:Array Value) (n:Nat) (dd:Option Addr) (sl:Array (Option Value)) :
    Meets (Builtin.«int.__rmul__» ⟨[.int a t,.ref l],[]⟩) (fun _ R s=>s.heap.get? l=some { cls:=.type "tuple",dict:=dd,data:=.seq items n,slots:=sl }∧R (.ok (.ret Value.notImplemented)) s) :=
  .of_wp fun prog w A R s h=>by obtain ⟨hp,g,d,tk,os⟩:=s;obtain ⟨hl,h⟩:=h;wp_walk;exact ⟨_,rfl,h⟩
theorem qfZ (l:Addr) (items:Array Value) (n:Nat) (dd:Option Addr) (sl:Array (Option Value)) (u:Tok) :
    Meets (Builtin.«tuple.__mul__» ⟨[.ref l,.int 1 u],[]⟩) (fun _ R s=>s.heap.get? l=some { cls:=.type "tuple",dict:=dd,data:=.seq items n,slots:=sl }∧R (.ok (.ret (Value.ref l))) s) :=
  .of_wp fun prog w A R s h=>by obtain ⟨hp,g,d,tk,os⟩:=s;obtain ⟨hl,h⟩:=h;have f1:=AutoSeq1.idx_int;have f2:=AutoSeq1.sub_tuple_tuple;wp_walk using wpAny_loadPart' hl;exact ⟨_,rfl,h⟩
theorem qf1 (l:Addr) (items:Array Value) (n:Nat) (dd:Option Addr) (sl:Array (Option Value)) (k:Int) (u:Tok) (hc0:¬ (decide (k < -(2 ^ 63)) || decide (k≥2 ^ 63))=true) (hc1:¬ (items.isEmpty || k == 1)=true) (hc2:(decide (k≤0) || items.isEmpty)=true) :
    Meets (Builtin.«tuple.__mul__» ⟨[.ref l,.int k u],[]⟩) (fun _ R s=>s.heap.get? l=some { cls:=.type "tuple",dict:=dd,data:=.seq items n,slots:=sl }∧R (.ok (.ret (Value.ref s.heap.objs.size))) { s with heap:=s.heap.push { cls:=Value.type "tuple",data:=Data.seq #[] },toks:=s.toks }) :=
  .of_wp fun prog w A R s h=>by obtain ⟨hp,g,d,tk,os⟩:=s;obtain ⟨hl,h⟩:=h;have f1:=AutoSeq1.idx_int;have f2:=AutoSeq1.sub_tuple_tuple;wp_walk using wpAny_loadPart' hl;refine wpAny_ite_false (decide_eq_false hc0) ?_;wp_walk using wpAny_loadPart' hl;exact ⟨_,rfl,h⟩
theorem qgh (l:Addr) (items:Array Value) (n:Nat) (dd:Option Addr) (sl:Array (Option Value)) (k:Int) (u:Tok) (hc0:¬ (decide (k < -(2 ^ 63)) || decide (k≥2 ^ 63))=true) (hc1:¬ (items.isEmpty || k == 1)=true) (hc2:¬ (decide (k≤0) || items.isEmpty)=true) (hc3:¬ (items.size*k>(2 ^ 63 - 1) / 8)) (hc4:¬ Builtin.Tuple.tupleTooMany (items.size*k)=true) (hsz:(List.foldl (fun x1 x2=>x1++x2) #[] (List.replicate k.toNat items)).size≤sizeLine) :
    Meets (Builtin.«tuple.__mul__» ⟨[.ref l,.int k u],[]⟩) (fun _ R s=>s.heap.get? l=some { cls:=.type "tuple",dict:=dd,data:=.seq items n,slots:=sl }∧R (.ok (.ret (Value.ref s.heap.objs.size))) { s with heap:=s.heap.push { cls:=Value.type "tuple",data:=Data.seq (List.foldl (fun x1 x2=>x1++x2) #[] (List.replicate k.toNat items)) },toks:=s.toks }) :=
  .of_wp fun prog w A R s h=>by obtain ⟨hp,g,d,tk,os⟩:=s;obtain ⟨hl,h⟩:=h;have f1:=AutoSeq1.idx_int;have f2:=AutoSeq1.sub_tuple_tuple;wp_walk using wpAny_loadPart' hl;refine wpAny_ite_false (decide_eq_false hc0) ?_;wp_walk using wpAny_loadPart' hl;refine wpAny_ite_false (decide_eq_false hc3) ?_;wp_walk using wpAny_loadPart' hl;exact ⟨_,rfl,h⟩
end PySem
namespace L2
open PySem PySem.Spec PyProof.Rows
def qmW (K:PySem.W.Frag):R2:=fun x y H Q=>∃ (a:Addr) (k:Int) (xs:List V),x=.ref a∧y=.int k∧SqT K H a xs∧xs≠[]∧0≤k∧k≤1000∧k.toNat*xs.length≤1000∧∀ p H',Same H H'→SqT K H' p (List.replicate k.toNat xs).flatten→Q (.ref p) H'
theorem qky {X:Cx}:OpR X (binaryOp .Mult) (qmW X.K):=by
  intro pins s σ H x y v u Q I rx ry h
  obtain ⟨a,k,xs,rfl,rfl,ha,hx,h0,h1,hz,q⟩:=h
  cases rx
  obtain ⟨t,rfl⟩:=ry
  obtain ⟨its,r,p1,_⟩:=I.tuple ha
  have hne:its≠[]:=fun z=>hx (r.nil_iff.mp z)
  have hl:=r.length
  have hits:its.toArray.isEmpty=false:=by cases its with | nil=>exact absurd rfl hne | cons _ _=>rfl
  obtain ⟨⟨cls,dd,data,sl⟩,ho,hc,n,hd⟩:=id p1
  simp only at hc hd
  subst hc hd
  refine wpAny_binaryOp_repeat_ref (T:="tuple") (U:="int") (by decide) ⟨_,ho,rfl⟩ (fun s'=>typeIs_int s' k t) qcP F.fills_int_mul F.slot_int_rmul qeZ F.slot_int_index.lookup
    (call_meets F.slot_int_rmul (typeIs_int s k t) F.entry_int_rmul (F.args_int_rmul_2 _ _) (qdm k t a its.toArray n dd sl)
      ⟨ho,rfl,⟨_,ho,rfl⟩,?_⟩)
  have hnew:List.foldl (fun x1 x2=>x1++x2) #[] (List.replicate k.toNat its.toArray)=(List.replicate k.toNat its).flatten.toArray:=by
    have:=qdM its k.toNat []
    rw [List.nil_append] at this
    exact this
  have hc0:¬ (decide (k < -(2 ^ 63)) || decide (k≥2 ^ 63))=true:=by
    rw [decide_eq_false (by omega),decide_eq_false (by omega)]
    exact Bool.false_ne_true
  by_cases c1:k=1
  · subst c1
    refine call_meets F.slot_tuple_mul ⟨_,ho,rfl⟩ F.entry_tuple_mul (F.args_tuple_mul_2 _ _) (qfZ a its.toArray n dd sl t) ⟨ho,?_⟩
    refine ⟨.ref a,H,I,rfl,q a H (Same.refl H) ?_⟩
    show SqT X.K H a (List.replicate 1 xs).flatten
    rw [List.replicate_one,List.flatten_cons,List.flatten_nil,List.append_nil]
    exact ha
  · have hc1:¬ (its.toArray.isEmpty || k == 1)=true:=by
      rw [hits,beq_eq_false_iff_ne.mpr c1]
      exact Bool.false_ne_true
    have lay:∀ ys:List V,∀ us:List Value,ys.length≤sizeLine→Vals ys us→EP X pins σ Q (.ref s.heap.objs.size) { s with heap:=s.heap.push { cls:=Value.type "tuple",data:=Data.seq us.toArray },toks:=s.toks }∨¬ (∀ p H',Same H H'→SqT X.K H' p ys→Q (.ref p) H'):=fun ys us hzz rr=>by
      by_cases qq:∀ p H',Same H H'→SqT X.K H' p ys→Q (.ref p) H'
      · refine .inl ⟨.ref s.heap.objs.size,_,I.laid (t':=s.toks) (o:=.tup ys) (fun b ob z=>Heap.get?_push_of_some _ z) (Nat.le_refl _) ?_,rfl,qq _ _ (qaG (I.hok.fresh (Nat.le_refl _)) _) (SqT.of qan)⟩
        exact ⟨hzz,_,rr,IsTup.new _ _⟩
      · exact .inr qq
    by_cases c0:k=0
    · subst c0
      refine call_meets F.slot_tuple_mul ⟨_,ho,rfl⟩ F.entry_tuple_mul (F.args_tuple_mul_2 _ _) (qf1 a its.toArray n dd sl 0 t hc0 hc1 rfl) ⟨ho,?_⟩
      rcases lay [] [] (Nat.zero_le _) .nil with z | z
      · exact z
      · exact absurd q z
    · have hc2:¬ (decide (k≤0) || its.toArray.isEmpty)=true:=by
        rw [hits,decide_eq_false (by omega)]
        exact Bool.false_ne_true
      have hlen:its.length*k.toNat≤1000:=by rw [← hl,Nat.mul_comm];exact hz
      have hlenI:(its.toArray.size:Int)*k≤1000:=by
        rw [List.size_toArray]
        have e:k=((k.toNat:Nat):Int):=by omega
        rw [e]
        exact_mod_cast hlen
      have hs:(1000:Int)≤((sizeLine:Nat):Int):=by exact_mod_cast small (Nat.le_refl 1000)
      have hflat:(List.replicate k.toNat its).flatten.length≤1000:=by rw [qgl,Nat.mul_comm];exact hlen
      refine call_meets F.slot_tuple_mul ⟨_,ho,rfl⟩ F.entry_tuple_mul (F.args_tuple_mul_2 _ _) (qgh a its.toArray n dd sl k t hc0 hc1 hc2 (by omega) (by unfold Builtin.Tuple.tupleTooMany;rw [decide_eq_false (by omega)];exact Bool.false_ne_true) (by rw [hnew,List.size_toArray];exact small hflat)) ⟨ho,?_⟩
      rw [hnew]
      rcases lay (List.replicate k.toNat xs).flatten (List.replicate k.toNat its).flatten (by rw [qgl];exact small hz) (r.rep k.toNat) with z | z
      · exact z
      · exact absurd q z
inductive D where
  | int (i:Int) | bl (b:Bool) | str (x:Str) | non | tup (xs:List D) | lst (xs:List D) | fzl (xs:List D) | obj (nm:Str) (fs:List (Str × D))
inductive Rp (K:PySem.W.Frag) (H:Hp):D→V→Prop where
  | int (i:Int):Rp K H (.int i) (.int i)
  | bl (b:Bool):Rp K H (.bl b) (.bl b)
  | str (x:Str):Rp K H (.str x) (.str x)
  | non:Rp K H .non .non
  | tup {a:Addr} {vs:List V} {ds:List D}:SqT K H a vs→vs.length=ds.length→(∀ (i:Nat) (v:V) (d:D),vs[i]?=some v→ds[i]?=some d→Rp K H d v)→Rp K H (.tup ds) (.ref a)
  | lst {a:Addr} {vs:List V} {ds:List D}:H a=some (.lst vs)→vs.length=ds.length→(∀ (i:Nat) (v:V) (d:D),vs[i]?=some v→ds[i]?=some d→Rp K H d v)→Rp K H (.lst ds) (.ref a)
  | fzl {a:Addr} {vs:List V} {ds:List D}:SqL K H a vs→vs.length=ds.length→(∀ (i:Nat) (v:V) (d:D),vs[i]?=some v→ds[i]?=some d→Rp K H d v)→Rp K H (.fzl ds) (.ref a)
  | obj {a C dx:Addr} {nm:Str} {vs:List (Str × V)} {fs:List (Str × D)}:PySem.W.nsIn K mainGlobals nm=some (some (.ref C))→H a=some (.ins C dx vs)→vs.map (·.1)=fs.map (·.1)→(∀ (i:Nat) (v:Str × V) (d:Str × D),vs[i]?=some v→fs[i]?=some d→Rp K H d.2 v.2)→Rp K H (.obj nm fs) (.ref a)
def RpL (K:PySem.W.Frag) (H:Hp) (ds:List D) (vs:List V):Prop:=vs.length=ds.length∧∀ (i:Nat) (v:V) (d:D),vs[i]?=some v→ds[i]?=some d→Rp K H d v
section
variable {K : PySem.W.Frag} {H H' Φ Φ' Φ1 H1 Φ2 H2 : Hp} {d : D} {v : V} {ds es : List D} {vs ws : List V}
theorem Rp.same (s:Same H H') (h:Rp K H d v):Rp K H' d v:=by
  induction h with
  | int i=>exact .int i
  | bl b=>exact .bl b
  | str x=>exact .str x
  | non=>exact .non
  | tup h1 h2 _ ih=>exact .tup (s.sqt h1) h2 ih
  | lst h1 h2 _ ih=>exact .lst (s _ _ h1) h2 ih
  | fzl h1 h2 _ ih=>exact .fzl (s.seq h1) h2 ih
  | obj h0 h1 h2 _ ih=>exact .obj h0 (s _ _ h1) h2 ih
theorem RpL.same (s:Same H H') (h:RpL K H ds vs):RpL K H' ds vs:=⟨h.1,fun i v d hv hd=>(h.2 i v d hv hd).same s⟩
theorem RpL.nil:RpL K H [] []:=⟨rfl,fun i v d hv _=>by simp at hv⟩
theorem RpL.cons (r:Rp K H d v) (h:RpL K H ds vs):RpL K H (d::ds) (v::vs):=⟨by simp [h.1],fun i u e hu he=>by
  cases i with
  | zero=>cases hu;cases he;exact r
  | succ i=>exact h.2 i u e hu he⟩
theorem RpL.append (h:RpL K H ds vs) (h':RpL K H es ws):RpL K H (ds++es) (vs++ws):=by
  refine ⟨by rw [List.length_append,List.length_append,h.1,h'.1],fun i u e hu he=>?_⟩
  rcases Nat.lt_or_ge i vs.length with c | c
  · rw [List.getElem?_append_left c] at hu
    rw [List.getElem?_append_left (by rw [← h.1];exact c)] at he
    exact h.2 i u e hu he
  · rw [List.getElem?_append_right c] at hu
    rw [List.getElem?_append_right (by rw [← h.1];exact c),← h.1] at he
    exact h'.2 _ u e hu he
theorem RpL.one (r:Rp K H d v):RpL K H [d] [v]:=.cons r .nil
theorem RpL.take (h:RpL K H ds vs) (k:Nat):RpL K H (ds.take k) (vs.take k):=⟨by rw [List.length_take,List.length_take,h.1],fun i u e hu he=>by
  rcases Nat.lt_or_ge i k with c | c
  · rw [List.getElem?_take_of_lt c] at hu he
    exact h.2 i u e hu he
  · rw [List.getElem?_take_eq_none c] at hu
    cases hu⟩
theorem RpL.drop (h:RpL K H ds vs) (k:Nat):RpL K H (ds.drop k) (vs.drop k):=⟨by rw [List.length_drop,List.length_drop,h.1],fun i u e hu he=>by
  rw [List.getElem?_drop] at hu he
  exact h.2 _ u e hu he⟩
theorem RpL.set (h:RpL K H ds vs) (r:Rp K H d v) (k:Nat):RpL K H (ds.set k d) (vs.set k v):=⟨by rw [List.length_set,List.length_set,h.1],fun i u e hu he=>by
  by_cases c:k=i
  · subst c
    have hk:k<vs.length:=by have:=qaF hu;rwa [List.length_set] at this
    rw [List.getElem?_set_self hk] at hu
    rw [List.getElem?_set_self (by rw [← h.1];exact hk)] at he
    cases hu;cases he
    exact r
  · rw [List.getElem?_set_ne c] at hu he
    exact h.2 i u e hu he⟩
theorem RpL.reverse (h:RpL K H ds vs):RpL K H ds.reverse vs.reverse:=⟨by rw [List.length_reverse,List.length_reverse,h.1],fun i u e hu he=>by
  have hi:i<vs.length:=by have:=qaF hu;rwa [List.length_reverse] at this
  rw [List.getElem?_reverse hi] at hu
  rw [List.getElem?_reverse (by rw [← h.1];exact hi),← h.1] at he
  exact h.2 _ u e hu he⟩
theorem RpL.rep (h:RpL K H ds vs):∀ k:Nat,RpL K H (List.replicate k ds).flatten (List.replicate k vs).flatten
  | 0=>.nil
  | k+1=>by
    rw [List.replicate_succ,List.replicate_succ,List.flatten_cons,List.flatten_cons]
    exact h.append (RpL.rep h k)
theorem RpL.at (h:RpL K H ds vs) {i:Nat} (e:ds[i]?=some d):∃ v,vs[i]?=some v∧Rp K H d v:=by
  have hi:i<vs.length:=by rw [h.1];exact qaF e
  exact ⟨vs[i],by simp [hi],h.2 i _ d (by simp [hi]) e⟩
theorem RpL.at' (h:RpL K H ds vs) {i:Nat} (e:vs[i]?=some v):∃ d,ds[i]?=some d∧Rp K H d v:=by
  have hi:i<ds.length:=by rw [← h.1];exact qaF e
  exact ⟨ds[i],by simp [hi],h.2 i v _ e (by simp [hi])⟩
theorem RpL.cut (h:RpL K H ds vs) (lo hi:Option Int):RpL K H (qfO ds lo hi) (qkh vs lo hi):=by
  rw [qk9]
  unfold qfO
  rw [h.1]
  exact (h.drop _).take _
theorem RpL.tup {a:Addr} (h:RpL K H ds vs) (s:SqT K H a vs):Rp K H (.tup ds) (.ref a):=.tup s h.1 h.2
theorem RpL.lst {a:Addr} (h:RpL K H ds vs) (s:H a=some (.lst vs)):Rp K H (.lst ds) (.ref a):=.lst s h.1 h.2
theorem RpL.fzl {a:Addr} (h:RpL K H ds vs) (s:SqL K H a vs):Rp K H (.fzl ds) (.ref a):=.fzl s h.1 h.2
theorem RpL.ints (ns:List Int):RpL K H (ns.map D.int) (ns.map V.int):=⟨by simp,fun i v d hv hd=>by
  rw [List.getElem?_map] at hv hd
  cases e:ns[i]? with
  | none=>rw [e] at hv;cases hv
  | some k=>rw [e] at hv hd;cases hv;cases hd;exact .int k⟩
def OwK:HO→Prop | .lst _=>True | .dK _=>True | .dT _=>True | _=>False
structure Gr (Φ H Φ' H':Hp):Prop where
  f:Same Φ Φ'
  h:Same H H'
  s:Same Φ' H'
  o:∀ p (u:HO),H p=some u→Φ p=none→(k:OwK u:=by trivial)→Φ' p=none
theorem Gr.refl (s:Same Φ H):Gr Φ H Φ H:=⟨Same.refl _,Same.refl _,s,fun _ _ _ h _=>h⟩
theorem Gr.trans (a:Gr Φ H Φ1 H1) (b:Gr Φ1 H1 Φ2 H2):Gr Φ H Φ2 H2:=⟨a.f.trans b.f,a.h.trans b.h,b.s,fun p u hp hn k=>b.o p u (a.h p _ hp) (a.o p u hp hn k) k⟩
theorem Gr.join (a:Gr Φ H Φ1 H1) (b:Gr Φ1 H Φ2 H2):Gr Φ H Φ2 H2:=⟨a.f.trans b.f,b.h,b.s,fun p u hp hn k=>b.o p u hp (a.o p u hp hn k) k⟩
theorem qhS (s:Same Φ H) {p:Addr} (o:HO):Same (upd Φ p o) (upd H p o):=fun b u e=>by
  by_cases c:b=p
  · subst c;rw [qan] at e ⊢;exact e
  · rw [qau c] at e ⊢;exact s b u e
theorem Gr.new (s:Same Φ H) {p:Addr} (hp:H p=none) (o:HO):Gr Φ H (upd Φ p o) (upd H p o) :=
  ⟨qaG (s.free hp) o,qaG hp o,qhS s o,fun q u hq hn _=>by rw [qau (qat hq hp)];exact hn⟩
theorem Gr.fresh (s:Same Φ H) {p:Addr} (hp:H p=none) (o:HO):Gr Φ H Φ (upd H p o) :=
  ⟨Same.refl _,qaG hp o,fun b u e=>qaG hp o b u (s b u e),fun _ _ _ h _=>h⟩
theorem Gr.freeze (g:Gr Φ H Φ' H') {p:Addr} {o:HO} (h0:H p=none) (hn:Φ' p=none) (hp:H' p=some o):Gr Φ H (upd Φ' p o) H' :=
  ⟨g.f.trans (qaG hn o),g.h,fun b u e=>by
    by_cases c:b=p
    · subst c;rw [qan] at e;cases e;exact hp
    · rw [qau c] at e;exact g.s b u e,fun q u hq hqn k=>by rw [qau (qat hq h0)];exact g.o q u hq hqn k⟩
theorem Gr.adopt {p:Addr} {xs:List V} (s:Same Φ H) (h:Same H H') (q:SqT K H' p xs):∃ Φ',Gr Φ H Φ' H'∧SqT K Φ' p xs:=by
  rcases q with q | q
  · obtain ⟨o,ho,hr,hnl⟩:∃ o,H' p=some o∧(o=.tup xs∨∃ b,o=.frz b (.tup xs))∧¬ OwK o:=by
      rcases q with q | ⟨o,q⟩
      · exact ⟨_,q,.inl rfl,fun e=>e⟩
      · exact ⟨_,q,.inr ⟨o,rfl⟩,fun e=>e⟩
    have e1:∀ u,Φ p=some u→u=o:=fun u e=>by have:=h _ _ (s _ _ e);rw [ho] at this;cases this;rfl
    refine ⟨upd Φ p o,⟨fun b u e=>?_,h,fun b u e=>?_,fun b u e n k=>?_⟩,?_⟩
    · by_cases c:b=p
      · subst c;rw [qan,e1 u e]
      · rw [qau c];exact e
    · by_cases c:b=p
      · subst c;rw [qan] at e;cases e;exact ho
      · rw [qau c] at e;exact h _ _ (s _ _ e)
    · by_cases c:b=p
      · subst c
        have:=h _ _ e
        rw [ho] at this
        cases this
        exact absurd k hnl
      · rw [qau c];exact n
    · rcases hr with rfl | ⟨b,rfl⟩
      · exact .inl (.inl qan)
      · exact .inl (.inr ⟨b,qan⟩)
  · exact ⟨Φ,⟨Same.refl _,h,fun b u e=>h _ _ (s _ _ e),fun _ _ _ n _=>n⟩,.inr q⟩
def RpQ (K:PySem.W.Frag) (Φ H:Hp) (d:D) (v:V):Prop:=Rp K Φ d v∨∃ a vs ds,d=.lst ds∧v=.ref a∧H a=some (.lst vs)∧RpL K Φ ds vs
theorem RpQ.gr (g:Gr Φ H Φ' H') (h:RpQ K Φ H d v):RpQ K Φ' H' d v:=by
  rcases h with h | ⟨a,vs,ds,e,e2,h1,h2⟩
  · exact .inl (h.same g.f)
  · exact .inr ⟨a,vs,ds,e,e2,g.h _ _ h1,h2.same g.f⟩
theorem RpQ.lst (s:Same Φ H) (h:RpQ K Φ H (.lst ds) v):∃ a vs,v=.ref a∧H a=some (.lst vs)∧RpL K Φ ds vs:=by
  rcases h with h | ⟨a,vs,ds,e,e2,h1,h2⟩
  · cases h with | lst h1 h2 h3=>exact ⟨_,_,rfl,s _ _ h1,h2,h3⟩
  · cases e;exact ⟨a,vs,e2,h1,h2⟩
theorem RpQ.fzl (s:Same Φ H) (h:RpQ K Φ H (.fzl ds) v):∃ a vs,v=.ref a∧SqL K H a vs∧RpL K Φ ds vs:=by
  rcases h with h | ⟨a,vs,ds,e,e2,h1,h2⟩
  · cases h with | fzl h1 h2 h3=>exact ⟨_,_,rfl,s.seq h1,h2,h3⟩
  · cases e
theorem RpQ.tup (s:Same Φ H) (h:RpQ K Φ H (.tup ds) v):∃ a vs,v=.ref a∧SqT K H a vs∧SqT K Φ a vs∧RpL K Φ ds vs:=by
  rcases h with h | ⟨a,vs,ds,e,e2,h1,h2⟩
  · cases h with | tup h1 h2 h3=>exact ⟨_,_,rfl,s.sqt h1,h1,h2,h3⟩
  · cases e
theorem RpQ.int {i:Int} (h:RpQ K Φ H (.int i) v):v=.int i:=by
  rcases h with h | ⟨a,vs,ds,e,_⟩
  · cases h;rfl
  · cases e
theorem RpQ.bl {i:Bool} (h:RpQ K Φ H (.bl i) v):v=.bl i:=by
  rcases h with h | ⟨a,vs,ds,e,_⟩
  · cases h;rfl
  · cases e
theorem RpQ.str {i:Str} (h:RpQ K Φ H (.str i) v):v=.str i:=by
  rcases h with h | ⟨a,vs,ds,e,_⟩
  · cases h;rfl
  · cases e
theorem RpQ.non (h:RpQ K Φ H .non v):v=.non:=by
  rcases h with h | ⟨a,vs,ds,e,_⟩
  · cases h;rfl
  · cases e
def qiG:D→Option (List D)
  | .lst ds=>some ds
  | .tup ds=>some ds
  | .fzl ds=>some ds
  | _=>none
theorem RpQ.seq (s:Same Φ H) (h:RpQ K Φ H d v) (e:qiG d=some ds):∃ a vs,v=.ref a∧(SqL K H a vs∨SqT K H a vs)∧RpL K Φ ds vs:=by
  cases d with
  | lst ds=>cases e;obtain ⟨a,vs,e,h1,h2⟩:=h.lst s;exact ⟨a,vs,e,.inl (.of h1),h2⟩
  | tup ds=>cases e;obtain ⟨a,vs,e,h1,_,h2⟩:=h.tup s;exact ⟨a,vs,e,.inr h1,h2⟩
  | fzl ds=>cases e;obtain ⟨a,vs,e,h1,h2⟩:=h.fzl s;exact ⟨a,vs,e,.inl h1,h2⟩
  | _=>cases e
theorem Rp.seq (h:Rp K Φ d v) (e:qiG d=some ds):∃ (b:Bool) (a:Addr) (vs:List V),v=.ref a∧SqB K b Φ a vs∧RpL K Φ ds vs:=by
  cases d with
  | lst ds=>cases e;cases h with | lst h1 h2 h3=>exact ⟨true,_,_,rfl,SqL.of h1,h2,h3⟩
  | tup ds=>cases e;cases h with | tup h1 h2 h3=>exact ⟨false,_,_,rfl,h1,h2,h3⟩
  | fzl ds=>cases e;cases h with | fzl h1 h2 h3=>exact ⟨true,_,_,rfl,h1,h2,h3⟩
  | _=>cases e
end
inductive Ow where | lst (xs:List D) | dct (ks:List Key) | dcT (ks:List (List Key))
inductive Sl where | v (d:D) | ob (o:Ow)
abbrev Sl.own (xs:List D):Sl:=.ob (.lst xs)
def OwR (K:PySem.W.Frag) (Φ:Hp):Ow→HO→Prop
  | .lst ds,.lst vs=>RpL K Φ ds vs
  | .dct ks,.dK kvs=>kvs.map (·.1)=ks
  | .dcT ks,.dT kvs=>kvs.map (·.1)=ks
  | _,_=>False
theorem OwR.k {K:PySem.W.Frag} {Φ:Hp} {o:Ow} {u:HO} (r:OwR K Φ o u):OwK u:=by
  cases o with
  | lst ds =>
    cases u with
    | lst vs=>exact True.intro
    | _=>exact r.elim
  | dct ks =>
    cases u with
    | dK kvs=>exact True.intro
    | _=>exact r.elim
  | dcT ks =>
    cases u with
    | dT kvs=>exact True.intro
    | _=>exact r.elim
theorem OwR.same {K:PySem.W.Frag} {Φ Φ':Hp} {o:Ow} {u:HO} (r:OwR K Φ o u) (s:Same Φ Φ'):OwR K Φ' o u:=by
  cases o with
  | lst ds =>
    cases u with
    | lst vs=>exact (show RpL K Φ ds vs from r).same s
    | _=>exact r.elim
  | dct ks =>
    cases u with
    | dK kvs=>exact r
    | _=>exact r.elim
  | dcT ks =>
    cases u with
    | dT kvs=>exact r
    | _=>exact r.elim
abbrev Rho:=List (Option Sl)
def qkn:FuncBody→Option Pos
  | .stmts b=>(match b.getLast? with
    | some (.Return (some (.Call _ _ kws _)) _)=>kws.findSome? fun k=>(match k.value with | .Lambda _ _ _ pos=>some pos | _=>none)
    | _=>none)
  | _=>none
def qga (K:PySem.W.Frag) (x:Str):Option (Addr × Array Value):=match PySem.W.nsIn K mainGlobals x with
  | some (some (.ref f))=>(match K.lookup f with
    | some ⟨_,_,.func fd,_⟩=>(match fd.code with
      | .ref c=>(match K.lookup c with
        | some ⟨_,_,.fields vs,_⟩=>(match (vs[11]?:Option Value),qkn fd.body with
          | some (.ref P),some pos=>some (P,#[rawInt pos.line,rawInt pos.col,.str (fd.qualname++".<locals>."++"<lambda>") 0])
          | _,_=>none)
        | _=>none)
      | _=>none)
    | _=>none)
  | _=>none
def qaS (K:PySem.W.Frag):List (Addr × Array Value):=(["least_grown","greatest_first"]:List Str).filterMap (qga K)
def TabF (K:PySem.W.Frag) (Φ:Hp):Prop:=∀ t∈qaS K,Φ t.1=some (.tbl t.2)
theorem TabF.same {K:PySem.W.Frag} {Φ Φ':Hp} (h:TabF K Φ) (s:Same Φ Φ'):TabF K Φ':=fun t ht=>s _ _ (h t ht)
structure EnvD (K:PySem.W.Frag) (H0 Φ H:Hp) (σ:St) (ρ:Rho):Prop where
  fz:Same Φ H
  len:σ.length=ρ.length
  sl:∀ (i:Nat) (d:D),ρ[i]?=some (some (.v d))→∃ v,σ[i]?=some (some v)∧Rp K Φ d v
  ow:∀ (i:Nat) (o:Ow),ρ[i]?=some (some (.ob o))→∃ p u,σ[i]?=some (some (.ref p))∧H0 p=none∧Φ p=none∧H p=some u∧OwR K Φ o u
  ne:∀ (i j:Nat) (o w:Ow) (p:Addr),ρ[i]?=some (some (.ob o))→ρ[j]?=some (some (.ob w))→σ[i]?=some (some (.ref p))→σ[j]?=some (some (.ref p))→i=j
  tb:TabF K Φ
section
variable {K : PySem.W.Frag} {H0 H H' Φ Φ' Φ1 H1 Φ2 H2 : Hp} {σ : St} {ρ : Rho} {d : D} {v : V} {ds es : List D} {vs ws : List V}
theorem EnvD.owl (E:EnvD K H0 Φ H σ ρ) (i:Nat) (ds:List D) (h:ρ[i]?=some (some (.own ds))):∃ p vs,σ[i]?=some (some (.ref p))∧H0 p=none∧Φ p=none∧H p=some (.lst vs)∧RpL K Φ ds vs:=by
  obtain ⟨p,u,e,h0,hn,hp,r⟩:=E.ow i _ h
  cases u with
  | lst vs=>exact ⟨p,vs,e,h0,hn,hp,r⟩
  | _=>exact (show False from r).elim
theorem EnvD.gr (E:EnvD K H0 Φ H σ ρ) (g:Gr Φ H Φ' H'):EnvD K H0 Φ' H' σ ρ :=
  ⟨g.s,E.len,fun i d h=>let ⟨v,e,r⟩:=E.sl i d h;⟨v,e,r.same g.f⟩,
    fun i ds h=>let ⟨p,vs,e,h0,hn,hp,r⟩:=E.ow i ds h;⟨p,vs,e,h0,g.o p _ hp hn r.k,g.h _ _ hp,r.same g.f⟩,E.ne,E.tb.same g.f⟩
theorem qa9 {α:Type} {l:List α} {i j:Nat} {x y:α} (h:(l.set i x)[j]?=some y):(j=i∧i<l.length∧y=x)∨(j≠i∧l[j]?=some y):=by
  by_cases c:i=j
  · subst c
    have hi:i<l.length:=by have:=qaF h;rwa [List.length_set] at this
    rw [List.getElem?_set_self hi] at h
    cases h
    exact .inl ⟨rfl,hi,rfl⟩
  · rw [List.getElem?_set_ne c] at h
    exact .inr ⟨fun e=>c e.symm,h⟩
theorem EnvD.set (E:EnvD K H0 Φ H σ ρ) (r:Rp K Φ d v) (i:Nat):EnvD K H0 Φ H (σ.set i (some v)) (ρ.set i (some (.v d))):=by
  have nn:∀ {j:Nat} {x:Option V},j≠i→σ[j]?=some x→(σ.set i (some v))[j]?=some x:=fun c h=>by rw [List.getElem?_set_ne (Ne.symm c)];exact h
  refine ⟨E.fz,by rw [List.length_set,List.length_set,E.len],fun j e h=>?_,fun j ds h=>?_,fun j k ds es p hj hk sj sk=>?_,E.tb⟩
  · rcases qa9 h with ⟨rfl,hi,e1⟩ | ⟨c,h⟩
    · cases e1
      exact ⟨v,by rw [List.getElem?_set_self (by rw [E.len];exact hi)],r⟩
    · obtain ⟨u,hu,ru⟩:=E.sl j e h
      exact ⟨u,nn c hu,ru⟩
  · rcases qa9 h with ⟨rfl,hi,e1⟩ | ⟨c,h⟩
    · cases e1
    · obtain ⟨p,vs,e,q⟩:=E.ow j ds h
      exact ⟨p,vs,nn c e,q⟩
  · rcases qa9 hj with ⟨rfl,_,e1⟩ | ⟨cj,hj⟩
    · cases e1
    rcases qa9 hk with ⟨rfl,_,e1⟩ | ⟨ck,hk⟩
    · cases e1
    rw [List.getElem?_set_ne (Ne.symm cj)] at sj
    rw [List.getElem?_set_ne (Ne.symm ck)] at sk
    exact E.ne j k ds es p hj hk sj sk
theorem EnvD.setOb (E:EnvD K H0 Φ H σ ρ) {p:Addr} {o:Ow} {u:HO} (r:OwR K Φ o u) (h0:H0 p=none) (hn:Φ p=none) (hp:H p=some u) (hnew:∀ (j:Nat) (w:Ow),ρ[j]?=some (some (.ob w))→σ[j]?≠some (some (.ref p))) (i:Nat):EnvD K H0 Φ H (σ.set i (some (.ref p))) (ρ.set i (some (.ob o))):=by
  have nn:∀ {j:Nat} {x:Option V},j≠i→σ[j]?=some x→(σ.set i (some (.ref p)))[j]?=some x:=fun c h=>by rw [List.getElem?_set_ne (Ne.symm c)];exact h
  refine ⟨E.fz,by rw [List.length_set,List.length_set,E.len],fun j e h=>?_,fun j ds h=>?_,fun j k ds es q hj hk sj sk=>?_,E.tb⟩
  · rcases qa9 h with ⟨rfl,hi,e1⟩ | ⟨c,h⟩
    · cases e1
    · obtain ⟨u,hu,ru⟩:=E.sl j e h
      exact ⟨u,nn c hu,ru⟩
  · rcases qa9 h with ⟨rfl,hi,e1⟩ | ⟨c,h⟩
    · cases e1
      exact ⟨p,u,by rw [List.getElem?_set_self (by rw [E.len];exact hi)],h0,hn,hp,r⟩
    · obtain ⟨p,vs,e,q⟩:=E.ow j ds h
      exact ⟨p,vs,nn c e,q⟩
  · rcases qa9 hj with ⟨e1,hl,_⟩ | ⟨cj,hj'⟩
    · rcases qa9 hk with ⟨e2,_,_⟩ | ⟨ck,hk'⟩
      · rw [e1,e2]
      · rw [e1,List.getElem?_set_self (by rw [E.len];exact hl)] at sj
        cases sj
        rw [List.getElem?_set_ne (Ne.symm ck)] at sk
        exact absurd sk (hnew k _ hk')
    · rw [List.getElem?_set_ne (Ne.symm cj)] at sj
      rcases qa9 hk with ⟨e2,hl,_⟩ | ⟨ck,hk'⟩
      · rw [e2,List.getElem?_set_self (by rw [E.len];exact hl)] at sk
        cases sk
        exact absurd sj (hnew j _ hj')
      · rw [List.getElem?_set_ne (Ne.symm ck)] at sk
        exact E.ne j k _ _ q hj' hk' sj sk
theorem EnvD.putOb (E:EnvD K H0 Φ H σ ρ) {i:Nat} {p:Addr} {o o':Ow} {u:HO} (ho:ρ[i]?=some (some (.ob o))) (hs:σ[i]?=some (some (.ref p))) (r:OwR K Φ o' u):EnvD K H0 Φ (upd H p u) σ (ρ.set i (some (.ob o'))):=by
  obtain ⟨p',vs,e,h0,hn,hp,_⟩:=E.ow i _ ho
  rw [hs] at e
  cases e
  have hi:=qaF ho
  refine ⟨fun b u e=>?_,by rw [List.length_set,E.len],fun j e h=>?_,fun j fs h=>?_,fun j k fs gs q hj hk sj sk=>?_,E.tb⟩
  · rw [qau (qat e hn)]
    exact E.fz b u e
  · rcases qa9 h with ⟨rfl,_,e1⟩ | ⟨c,h⟩
    · cases e1
    · exact E.sl j e h
  · rcases qa9 h with ⟨rfl,_,e1⟩ | ⟨c,h⟩
    · cases e1
      exact ⟨p,u,hs,h0,hn,qan,r⟩
    · obtain ⟨q,us,e,q0,qn,qp,qr⟩:=E.ow j fs h
      refine ⟨q,us,e,q0,qn,?_,qr⟩
      rw [qau fun z=>c (E.ne j i fs o p h ho (by rw [e,z]) hs)]
      exact qp
  · have old:∀ {j:Nat} {fs:Ow},(ρ.set i (some (.ob o')))[j]?=some (some (.ob fs))→∃ gs,ρ[j]?=some (some (.ob gs)):=fun {j fs} h=>by
      rcases qa9 h with ⟨rfl,_,_⟩ | ⟨_,h⟩
      · exact ⟨o,ho⟩
      · exact ⟨fs,h⟩
    obtain ⟨fs',hj⟩:=old hj
    obtain ⟨gs',hk⟩:=old hk
    exact E.ne j k fs' gs' q hj hk sj sk
theorem EnvD.setOwn (E:EnvD K H0 Φ H σ ρ) {p:Addr} (r:RpL K Φ ds vs) (h0:H0 p=none) (hn:Φ p=none) (hp:H p=some (.lst vs)) (hnew:∀ (j:Nat) (w:Ow),ρ[j]?=some (some (.ob w))→σ[j]?≠some (some (.ref p))) (i:Nat):EnvD K H0 Φ H (σ.set i (some (.ref p))) (ρ.set i (some (.own ds))):=E.setOb (o:=.lst ds) (u:=.lst vs) r h0 hn hp hnew i
theorem EnvD.put (E:EnvD K H0 Φ H σ ρ) {i:Nat} {p:Addr} (ho:ρ[i]?=some (some (.own ds))) (hs:σ[i]?=some (some (.ref p))) (r:RpL K Φ es ws):EnvD K H0 Φ (upd H p (.lst ws)) σ (ρ.set i (some (.own es))):=E.putOb (o':=.lst es) (u:=.lst ws) ho hs r
def frz (i:Nat) (ρ:Rho):Rho:=match ρ[i]? with | some (some (.ob (.lst ds)))=>ρ.set i (some (.v (.lst ds))) | _=>ρ
theorem EnvD.frz (E:EnvD K H0 Φ H σ ρ) (g:Gr Φ0 H0 Φ H) (i:Nat):∃ Φ',Gr Φ0 H0 Φ' H∧EnvD K H0 Φ' H σ (frz i ρ):=by
  unfold L2.frz
  split
  · next ds ho =>
    obtain ⟨p,vs,e,h0,hn,hp,r⟩:=E.owl i ds ho
    have s1:=qaG hn (.lst vs)
    refine ⟨upd Φ p (.lst vs),g.freeze h0 hn hp,fun b u e=>?_,by rw [List.length_set,E.len],fun j e2 h=>?_,fun j fs h=>?_,fun j k fs gs q hj hk sj sk=>?_,E.tb.same s1⟩
    · by_cases c:b=p
      · subst c;rw [qan] at e;cases e;exact hp
      · rw [qau c] at e;exact E.fz b u e
    · rcases qa9 h with ⟨rfl,_,e1⟩ | ⟨c,h⟩
      · cases e1
        exact ⟨_,e,(r.same s1).lst qan⟩
      · obtain ⟨u,hu,ru⟩:=E.sl j e2 h
        exact ⟨u,hu,ru.same s1⟩
    · rcases qa9 h with ⟨rfl,_,e1⟩ | ⟨c,h⟩
      · cases e1
      · obtain ⟨q,us,e3,q0,qn,qp,qr⟩:=E.ow j fs h
        refine ⟨q,us,e3,q0,?_,qp,qr.same s1⟩
        rw [qau fun z=>c (E.ne j i fs _ p h ho (by rw [e3,z]) e)]
        exact qn
    · rcases qa9 hj with ⟨_,_,e1⟩ | ⟨_,hj⟩
      · cases e1
      rcases qa9 hk with ⟨_,_,e1⟩ | ⟨_,hk⟩
      · cases e1
      exact E.ne j k fs gs q hj hk sj sk
  · exact ⟨Φ,g,E⟩
theorem EnvD.weak {ρ':Rho} (E:EnvD K H0 Φ H σ ρ) (hl:ρ'.length=ρ.length) (hw:∀ (i:Nat) x,ρ'[i]?=some (some x)→ρ[i]?=some (some x)):EnvD K H0 Φ H σ ρ' :=
  ⟨E.fz,by rw [E.len,hl],fun i d h=>E.sl i d (hw i _ h),fun i ds h=>E.ow i ds (hw i _ h),fun i j ds es p hi hj=>E.ne i j ds es p (hw i _ hi) (hw j _ hj),E.tb⟩
end
def NF {α:Type} (x:α) (R:α→Prop):Prop:=∃ y,x=y∧R y
theorem NF.get {α:Type} {x:α} {R:α→Prop} (h:NF x R):R x:=by
  obtain ⟨_,rfl,h⟩:=h
  exact h
abbrev TD:=Rho→(D→Prop)→Prop
abbrev TDL:=Rho→(List D→Prop)→Prop
abbrev TDB:=Rho→(Bool→Prop)→Prop
def lE (K:PySem.W.Frag) (t:TD):TE:=fun σ H Q=>∃ H0 Φ ρ R,EnvD K H0 Φ H σ ρ∧t ρ R∧∀ d Φ' H' v,R d→Gr Φ H Φ' H'→Rp K Φ' d v→Q v H'
def lQ (K:PySem.W.Frag) (t:TD):TE:=fun σ H Q=>∃ H0 Φ ρ R,EnvD K H0 Φ H σ ρ∧t ρ R∧∀ d Φ' H' v,R d→Gr Φ H Φ' H'→RpQ K Φ' H' d v→Q v H'
def lF (K:PySem.W.Frag) (t:TDL):TE:=fun σ H Q=>∃ H0 Φ ρ R,EnvD K H0 Φ H σ ρ∧t ρ R∧∀ ds Φ' H' p vs,R ds→Gr Φ H Φ' H'→H p=none→Φ' p=none→H' p=some (.lst vs)→RpL K Φ' ds vs→Q (.ref p) H'
def lA (K:PySem.W.Frag) (n:Nat) (t:TDL):TA:=fun σ H Q=>∃ H0 Φ ρ R,EnvD K H0 Φ H σ ρ∧t ρ R∧∀ ds Φ' H' vs,R ds→Gr Φ H Φ' H'→RpL K Φ' ds vs→ds.length=n→Q vs H'
def lT (K:PySem.W.Frag) (t:TDB):TT:=fun σ H Q=>∃ H0 Φ ρ R,EnvD K H0 Φ H σ ρ∧t ρ R∧∀ b Φ' H',R b→Gr Φ H Φ' H'→Q b H'
structure PD (K:PySem.W.Frag) (X:Cx) (e:Expr) (t:TD):Prop where pe:X.K=K→PE X e (lE K t)
structure PQ (K:PySem.W.Frag) (X:Cx) (e:Expr) (t:TD):Prop where pe:X.K=K→PE X e (lQ K t)
structure PF (K:PySem.W.Frag) (X:Cx) (e:Expr) (t:TDL):Prop where pe:X.K=K→PE X e (lF K t)
structure PAD (K:PySem.W.Frag) (X:Cx) (es:List Expr) (t:TDL):Prop where pa:X.K=K→PA X es (lA K es.length t)
structure PTD (K:PySem.W.Frag) (X:Cx) (e:Expr) (t:TDB):Prop where pt:X.K=K→PT X e (lT K t)
structure PWD (K:PySem.W.Frag) (X:Cx) (e:Expr) (t:TDB):Prop where pw:X.K=K→PW X e (lT K t)
theorem PE.imp {X:Cx} {e:Expr} {t t':TE} (h:PE X e t) (k:∀ σ H Q,t' σ H Q→t σ H Q):PE X e t':=fun pins s σ H Q I hw=>h pins s σ H Q I (k σ H Q hw)
theorem PT.imp {X:Cx} {e:Expr} {t t':TT} (h:PT X e t) (k:∀ σ H Q,t' σ H Q→t σ H Q):PT X e t':=fun pins s σ H Q I hw=>h pins s σ H Q I (k σ H Q hw)
theorem PW.imp {X:Cx} {e:Expr} {t t':TT} (h:PW X e t) (k:∀ σ H Q,t' σ H Q→t σ H Q):PW X e t':=fun wh pins s σ H Q I hw=>h wh pins s σ H Q I (k σ H Q hw)
theorem PA.imp {X:Cx} {e:List Expr} {t t':TA} (h:PA X e t) (k:∀ σ H Q,t' σ H Q→t σ H Q):PA X e t':=fun pos pins s σ H Q I hw=>h pos pins s σ H Q I (k σ H Q hw)
theorem PS.imp {X:Cx} {e:Stmt} {t t':TS} (h:PS X e t) (k:∀ D σ H,t' D σ H→t D σ H):PS X e t':=fun pins s σ H D I hw=>h pins s σ H D I (k D σ H hw)
theorem PSs.imp {X:Cx} {e:List Stmt} {t t':TS} (h:PSs X e t) (k:∀ D σ H,t' D σ H→t D σ H):PSs X e t':=fun pins s σ H D I hw=>h pins s σ H D I (k D σ H hw)
section
variable {K : PySem.W.Frag} {X : Cx} {e a b c : Expr} {es : List Expr} {pos : Pos} {t ta tb : TD} {tf : TDL} {tl : TDL} {tt tu : TDB}
theorem PD.q (h:PD K X e t):PQ K X e t:=⟨fun hK=>(h.pe hK).imp fun σ H Q hq0=>by obtain ⟨H0,Φ,ρ,R,E,t,k⟩:=hq0;exact ⟨H0,Φ,ρ,R,E,t,fun d Φ' H' v r g rr=>k d Φ' H' v r g (.inl rr)⟩⟩
def qnt (t:TDL):TD:=fun ρ R=>t ρ fun ds=>R (.lst ds)
theorem PF.d (h:PF K X e tf):PD K X e (qnt tf):=⟨fun hK=>(h.pe hK).imp fun σ H Q hq0=>by obtain ⟨H0,Φ,ρ,R,E,t,k⟩:=hq0;exact ⟨H0,Φ,ρ,_,E,t,fun ds Φ' H' p vs r g h0 hn hp rr =>
  k (.lst ds) _ H' _ r (g.freeze h0 hn hp) ((rr.same (qaG hn _)).lst qan)⟩⟩
def qon (i:Nat):TD:=fun ρ R=>match ρ[i]? with | some (some (.v d))=>R d | _=>False
def qmY (i:Nat):TD:=fun ρ R=>match ρ[i]? with | some (some (.v d))=>R d | some (some (.ob (.lst ds)))=>R (.lst ds) | _=>False
theorem dv (i:Nat) {x:Str} (hN:X.N[i]?=some x:=by rfl) (hv:Vis X.env.scope x:=by first | exact Or.inl rfl | exact Or.inr (Or.inl rfl) | exact Or.inr (Or.inr rfl)) (hd:(x == ("__debug__":Str))=false:=by decide)
    (hcd:(x == ("__classdict__":Str))=false:=by decide):PD K X (.Name x pos) (qon i):=⟨fun _=>(pv i hN hv hd hcd).imp fun σ H Q hq0=>by
  obtain ⟨H0,Φ,ρ,R,E,t,k⟩:=hq0
  unfold qon at t
  split at t
  · next d h =>
    obtain ⟨v,e,r⟩:=E.sl i d h
    exact ⟨v,e,k d Φ H v t (.refl E.fz) r⟩
  · exact t.elim⟩
theorem dvq (i:Nat) {x:Str} (hN:X.N[i]?=some x:=by rfl) (hv:Vis X.env.scope x:=by first | exact Or.inl rfl | exact Or.inr (Or.inl rfl) | exact Or.inr (Or.inr rfl)) (hd:(x == ("__debug__":Str))=false:=by decide)
    (hcd:(x == ("__classdict__":Str))=false:=by decide):PQ K X (.Name x pos) (qmY i):=⟨fun _=>(pv i hN hv hd hcd).imp fun σ H Q hq0=>by
  obtain ⟨H0,Φ,ρ,R,E,t,k⟩:=hq0
  unfold qmY at t
  split at t
  · next d h =>
    obtain ⟨v,e,r⟩:=E.sl i d h
    exact ⟨v,e,k d Φ H v t (.refl E.fz) (.inl r)⟩
  · next ds h =>
    obtain ⟨p,vs,e,_,_,hp,r⟩:=E.owl i ds h
    exact ⟨_,e,k _ Φ H _ t (.refl E.fz) (.inr ⟨p,vs,ds,rfl,rfl,hp,r⟩)⟩
  · exact t.elim⟩
def dC (d:D):TD:=fun _ R=>R d
theorem qjr {v:V} {d:D} (h:PE X e (tC v)) (r:∀ Φ,Rp K Φ d v):PD K X e (dC d):=⟨fun _=>h.imp fun σ H Q hq0=>by obtain ⟨H0,Φ,ρ,R,E,t,k⟩:=hq0;exact k d Φ H v t (.refl E.fz) (r Φ)⟩
theorem qai {i j}:PD K X (.Constant (.int i) j pos) (dC (.int i)):=qjr qlT fun _=>.int i
theorem qn6 {i j}:PD K X (.Constant (.bool i) j pos) (dC (.bl i)):=qjr qnC fun _=>.bl i
theorem qdI {i j}:PD K X (.Constant (.str i) j pos) (dC (.str i)):=qjr ql1 fun _=>.str i
theorem qbK {j}:PD K X (.Constant .none j pos) (dC .non):=qjr qmg fun _=>.non
abbrev RD2:=D→D→(D→Prop)→Prop
def lR2 (K:PySem.W.Frag) (r:RD2):R2:=fun x y H Q=>∃ Φ dx dy R,Same Φ H∧RpQ K Φ H dx x∧RpQ K Φ H dy y∧r dx dy R∧∀ d Φ' H' v,R d→Gr Φ H Φ' H'→Rp K Φ' d v→Q v H'
structure OpD (K:PySem.W.Frag) (X:Cx) (f:Value→Value→Sem Value) (r:RD2):Prop where o:X.K=K→OpR X f (lR2 K r)
def dOp (r:RD2) (ta tb:TD):TD:=fun ρ R=>ta ρ fun x=>tb ρ fun y=>r x y R
theorem qe2 {r:RD2} {σ:St} {H:Hp} {Q:VK} (h:lE K (dOp r ta tb) σ H Q):tOp (lR2 K r) (lQ K ta) (lQ K tb) σ H Q:=by
  obtain ⟨H0,Φ,ρ,R,E,t,k⟩:=h
  exact ⟨H0,Φ,ρ,_,E,t,fun dx Φ1 H1 x t1 g1 rx=>⟨H0,Φ1,ρ,_,E.gr g1,t1,fun dy Φ2 H2 y t2 g2 ry=>⟨Φ2,dx,dy,R,g2.s,rx.gr g2,ry,t2,fun d Φ' H' v r g rr=>k d Φ' H' v r ((g1.trans g2).trans g) rr⟩⟩⟩
theorem qa3 {op:Operator} {r:RD2} (ho:OpD K X (binaryOp op) r) (ha:PQ K X a ta) (hb:PQ K X b tb):PD K X (.BinOp a op b pos) (dOp r ta tb) :=
  ⟨fun hK=>(qnm (ho.o hK) (ha.pe hK) (hb.pe hK)).imp fun _ _ _=>qe2⟩
theorem qeW {op:CmpOp} {r:RD2} (ho:OpD K X (compareOp op) r) (ha:PQ K X a ta) (hb:PQ K X b tb) (hm:behindInMarks op b=false):PD K X (.Compare a [op] [b] pos) (dOp r ta tb) :=
  ⟨fun hK=>(qkD (ho.o hK) (ha.pe hK) (hb.pe hK) hm).imp fun _ _ _=>qe2⟩
def qmy (t:TD):TDB:=fun ρ R=>t ρ fun d=>match d with | .bl b=>R b | _=>False
theorem qhC {r:RD2} {σ:St} {H:Hp} {Q:Bool→Hp→Prop} (h:lT K (qmy (dOp r ta tb)) σ H Q):qnh (tOp (lR2 K r) (lQ K ta) (lQ K tb)) σ H Q:=by
  obtain ⟨H0,Φ,ρ,R,E,t,k⟩:=h
  refine qe2 ⟨H0,Φ,ρ,_,E,t,fun d Φ' H' v r g rr=>?_⟩
  cases d with
  | bl b=>cases rr;exact ⟨b,rfl,k b Φ' H' r g⟩
  | _=>exact r.elim
theorem qa5 {op:CmpOp} {r:RD2} (ho:OpD K X (compareOp op) r) (ha:PQ K X a ta) (hb:PQ K X b tb) (hm:behindInMarks op b=false):PTD K X (.Compare a [op] [b] pos) (qmy (dOp r ta tb)) :=
  ⟨fun hK=>(qlt (ho.o hK) (ha.pe hK) (hb.pe hK) hm).imp fun _ _ _=>qhC⟩
abbrev RD1:=D→(D→Prop)→Prop
def dUn (r:RD1) (ta:TD):TD:=fun ρ R=>ta ρ fun x=>r x R
def qph:RD1:=fun x R=>match x with | .int i=>R (.int (-i)) | _=>False
theorem qf3 (ha:PQ K X a ta):PD K X (.UnaryOp .USub a pos) (dUn qph ta):=⟨fun hK=>(qnQ qmV (ha.pe hK)).imp fun σ H Q hq0=>by obtain ⟨H0,Φ,ρ,R,E,t,k⟩:=hq0;exact ⟨H0,Φ,ρ,_,E,t,fun dx Φ1 H1 x t1 g1 rx=>by
  cases dx with
  | int i=>exact ⟨i,rx.int,k _ Φ1 H1 _ t1 g1 (.int _)⟩
  | _=>exact t1.elim⟩⟩
def qo3:RD1:=fun x R=>match x with | .bl i=>R (.bl (!i)) | _=>False
theorem qnU (ha:PQ K X a ta):PD K X (.UnaryOp .Not a pos) (dUn qo3 ta):=⟨fun hK=>(ql7 (ha.pe hK)).imp fun σ H Q hq0=>by obtain ⟨H0,Φ,ρ,R,E,t,k⟩:=hq0;exact ⟨H0,Φ,ρ,_,E,t,fun dx Φ1 H1 x t1 g1 rx=>by
  cases dx with
  | bl i=>exact ⟨i,rx.bl,k _ Φ1 H1 _ t1 g1 (.bl _)⟩
  | _=>exact t1.elim⟩⟩
def qor:D→(Bool→Prop)→Prop:=fun d R=>match d with
  | .int i=>R (i != 0) | .bl b=>R b | .non=>R false | .str x=>x.length≤sizeLine∧R ((x.length:Int) != 0) | .lst ds=>R (!ds.isEmpty) | .tup ds=>R (!ds.isEmpty) | .fzl ds=>R (!ds.isEmpty) | .obj _ _=>False
theorem qcO {Φ:Hp} {ds:List D} {vs:List V} (h:RpL K Φ ds vs):(!ds.isEmpty)=!vs.isEmpty:=by
  have:=h.1
  cases ds <;> cases vs <;> simp_all
theorem qm1 {Φ H:Hp} {d:D} {v:V} {R:Bool→Prop} (s:Same Φ H) (h:RpQ K Φ H d v) (t:qor d R):∃ k,qoa K v H k∧R k:=by
  cases d with
  | int i=>rw [h.int];exact ⟨_,rfl,t⟩
  | bl i=>rw [h.bl];exact ⟨_,rfl,t⟩
  | non=>rw [h.non];exact ⟨_,rfl,t⟩
  | str i=>rw [h.str];exact ⟨_,⟨t.1,rfl⟩,t.2⟩
  | lst ds=>obtain ⟨a,vs,rfl,h1,h2⟩:=h.lst s;exact ⟨_,.inl ⟨vs,.of h1,rfl⟩,by rw [← qcO h2];exact t⟩
  | tup ds=>obtain ⟨a,vs,rfl,h1,_,h2⟩:=h.tup s;exact ⟨_,.inr (.inl ⟨vs,h1,rfl⟩),by rw [← qcO h2];exact t⟩
  | fzl ds=>obtain ⟨a,vs,rfl,h1,h2⟩:=h.fzl s;exact ⟨_,.inl ⟨vs,h1,rfl⟩,by rw [← qcO h2];exact t⟩
  | obj C fs=>exact t.elim
def qo8 (t:TD):TDB:=fun ρ R=>t ρ fun d=>qor d R
theorem qgc (ha:PQ K X a ta) (he:∀ whole,isTrue a X.env whole=(do let v ← whole;standAt a.pos;holding [v] (truthy v))):PTD K X a (qo8 ta) :=
  ⟨fun hK=>(qiW (ha.pe hK) he).imp fun σ H Q hq0=>by obtain ⟨H0,Φ,ρ,R,E,t,k⟩:=hq0;exact ⟨H0,Φ,ρ,_,E,t,fun d Φ1 H1 v t1 g1 rv=>by
    obtain ⟨b,h1,h2⟩:=qm1 g1.s rv t1
    rw [hK]
    exact ⟨b,h1,k b Φ1 H1 h2 g1⟩⟩⟩
def qo2 (t u:TDB):TDB:=fun ρ R=>t ρ fun c=>(c=true→u ρ R)∧(c=false→R false)
def zOr (t u:TDB):TDB:=fun ρ R=>t ρ fun c=>(c=true→R true)∧(c=false→u ρ R)
def qnL (t:TDB):TDB:=fun ρ R=>t ρ fun c=>R (!c)
theorem PWD.td (h:PWD K X e tt):PTD K X e tt:=⟨fun hK=>(h.pw hK).pt⟩
theorem qkj (ha:PTD K X a tt):PWD K X (.BoolOp .And [a] pos) tt:=⟨fun hK=>qkF (ha.pt hK)⟩
theorem qjl (ha:PTD K X a tt):PWD K X (.BoolOp .Or [a] pos) tt:=⟨fun hK=>qnd (ha.pt hK)⟩
theorem qmU (ha:PTD K X a tt) (hb:PWD K X (.BoolOp .And (b::es) pos) tu):PWD K X (.BoolOp .And (a::b::es) pos) (qo2 tt tu) :=
  ⟨fun hK=>(qmZ (ha.pt hK) (hb.pw hK)).imp fun σ H Q hq0=>by obtain ⟨H0,Φ,ρ,R,E,t,k⟩:=hq0;exact ⟨H0,Φ,ρ,_,E,t,fun c Φ1 H1 r g=>by
    cases c with
    | true=>rw [if_pos rfl];exact ⟨H0,Φ1,ρ,R,E.gr g,r.1 rfl,fun b Φ' H' rb g'=>k b Φ' H' rb (g.trans g')⟩
    | false=>rw [if_neg (by decide)];exact k _ Φ1 H1 (r.2 rfl) g⟩⟩
theorem qnr (ha:PTD K X a tt) (hb:PWD K X (.BoolOp .Or (b::es) pos) tu):PWD K X (.BoolOp .Or (a::b::es) pos) (zOr tt tu) :=
  ⟨fun hK=>(qn1 (ha.pt hK) (hb.pw hK)).imp fun σ H Q hq0=>by obtain ⟨H0,Φ,ρ,R,E,t,k⟩:=hq0;exact ⟨H0,Φ,ρ,_,E,t,fun c Φ1 H1 r g=>by
    cases c with
    | true=>rw [if_pos rfl];exact k _ Φ1 H1 (r.1 rfl) g
    | false=>rw [if_neg (by decide)];exact ⟨H0,Φ1,ρ,R,E.gr g,r.2 rfl,fun b Φ' H' rb g'=>k b Φ' H' rb (g.trans g')⟩⟩⟩
theorem qlj (ha:PTD K X a tt):PTD K X (.UnaryOp .Not a pos) (qnL tt) :=
  ⟨fun hK=>(qlZ (ha.pt hK)).imp fun σ H Q hq0=>by obtain ⟨H0,Φ,ρ,R,E,t,k⟩:=hq0;exact ⟨H0,Φ,ρ,_,E,t,fun c Φ1 H1 r g=>k _ Φ1 H1 r g⟩⟩
def qoT (t u:TD):TD:=fun ρ R=>t ρ fun c=>match c with | .bl c=>(c=true→u ρ R)∧(c=false→R (.bl false)) | _=>False
theorem qm4 {op} (h:PD K X a ta):PD K X (.BoolOp op [a] pos) ta:=⟨fun hK=>ql9 (h.pe hK)⟩
theorem qkW (ha:PD K X a ta) (hb:PD K X (.BoolOp .And (b::es) pos) tb):PD K X (.BoolOp .And (a::b::es) pos) (qoT ta tb) :=
  ⟨fun hK=>(qlX (ha.pe hK) (hb.pe hK)).imp fun σ H Q hq0=>by obtain ⟨H0,Φ,ρ,R,E,t,k⟩:=hq0;exact ⟨H0,Φ,ρ,_,E,t,fun c Φ1 H1 v r g rv=>by
    cases c with
    | bl c =>
      cases rv
      refine ⟨c,rfl,?_⟩
      cases c with
      | true=>rw [if_pos rfl];exact ⟨H0,Φ1,ρ,R,E.gr g,r.1 rfl,fun b Φ' H' v rb g' rr=>k b Φ' H' v rb (g.trans g') rr⟩
      | false=>rw [if_neg (by decide)];exact k _ Φ1 H1 _ (r.2 rfl) g (.bl _)
    | _=>exact r.elim⟩⟩
def dIf (t:TDB) (u v:TD):TD:=fun ρ R=>t ρ fun c=>(c=true→u ρ R)∧(c=false→v ρ R)
theorem qol (hc:PTD K X c tt) (ha:PD K X a ta) (hb:PD K X b tb):PD K X (.IfExp c a b pos) (dIf tt ta tb) :=
  ⟨fun hK=>(qiM (hc.pt hK) (ha.pe hK) (hb.pe hK)).imp fun σ H Q hq0=>by obtain ⟨H0,Φ,ρ,R,E,t,k⟩:=hq0;exact ⟨H0,Φ,ρ,_,E,t,fun c Φ1 H1 r g=>by
    cases c with
    | true=>rw [if_pos rfl];exact ⟨H0,Φ1,ρ,R,E.gr g,r.1 rfl,fun b Φ' H' v rb g' rr=>k b Φ' H' v rb (g.trans g') rr⟩
    | false=>rw [if_neg (by decide)];exact ⟨H0,Φ1,ρ,R,E.gr g,r.2 rfl,fun b Φ' H' v rb g' rr=>k b Φ' H' v rb (g.trans g') rr⟩⟩⟩
def qoq:TDL:=fun _ R=>R []
def qmT (t:TD) (u:TDL):TDL:=fun ρ R=>t ρ fun d=>u ρ fun ds=>R (d::ds)
theorem qal:PAD K X [] qoq:=⟨fun _=>pa_nil.imp fun σ H Q hq0=>by obtain ⟨H0,Φ,ρ,R,E,t,k⟩:=hq0;exact k [] Φ H [] t (.refl E.fz) .nil rfl⟩
theorem qab (ha:PD K X e t) (hr:PAD K X es tl) (hs:starEach (e::es) X.env=(false,eval e X.env)::starEach es X.env):PAD K X (e::es) (qmT t tl) :=
  ⟨fun hK=>(qb5 (ha.pe hK) (hr.pa hK) hs).imp fun σ H Q hq0=>by obtain ⟨H0,Φ,ρ,R,E,t,k⟩:=hq0;exact ⟨H0,Φ,ρ,_,E,t,fun d Φ1 H1 v r g rv=>⟨H0,Φ1,ρ,_,E.gr g,r,fun ds Φ2 H2 vs r2 g2 rl hl =>
    k _ Φ2 H2 _ r2 (g.trans g2) (.cons (rv.same g2.f) rl) (by rw [List.length_cons,List.length_cons,hl])⟩⟩⟩
def qoH (t:TDL):TD:=fun ρ R=>t ρ fun ds=>R (.tup ds)
def qoJ (t:TDL):TDL:=t
theorem qke {n:Nat} (h:Nat.ble n 1000=true):n≤sizeLine:=Nat.le_trans (Nat.le_of_ble_eq_true h) (by decide)
theorem qcc {x1} (h:PAD K X es tl) (hes:Nat.ble es.length 1000=true:=by rfl):PD K X (.Tuple es x1 pos) (qoH tl) :=
  ⟨fun hK=>(qnc (h.pa hK)).imp fun σ H Q hq0=>by obtain ⟨H0,Φ,ρ,R,E,t,k⟩:=hq0;exact ⟨H0,Φ,ρ,_,E,t,fun ds Φ1 H1 vs r g rl hl=>⟨by rw [rl.1,hl];exact qke hes,fun p hp =>
    k _ _ _ _ r (g.trans (.new g.s hp _)) ((rl.same (qaG (g.s.free hp) _)).tup (.of qan))⟩⟩⟩
theorem qcK (h:PAD K X es tl) (hes:Nat.ble es.length 1000=true:=by rfl):PF K X (.List es pos) (qoJ tl) :=
  ⟨fun hK=>(qm0 (h.pa hK)).imp fun σ H Q hq0=>by obtain ⟨H0,Φ,ρ,R,E,t,k⟩:=hq0;exact ⟨H0,Φ,ρ,_,E,t,fun ds Φ1 H1 vs r g rl hl=>⟨by rw [rl.1,hl];exact qke hes,fun p hp =>
    k _ _ _ p vs r (g.trans (.fresh g.s hp _)) (g.h.free hp) (g.s.free hp) qan rl⟩⟩⟩
end
section
variable {K : PySem.W.Frag} {X : Cx} {e a b c : Expr} {es : List Expr} {pos : Pos} {t ta tb : TD} {tf : TDL} {tl : TDL} {tt tu : TDB}
def qpj:RD2:=fun x y R=>match x,y with
  | .int i,.int j=>R (.int (i+j))
  | .str i,.str j=>i.length+j.length≤sizeLine∧R (.str (i++j))
  | .lst xs,.lst ys=>xs.length+ys.length≤sizeLine∧NF (xs++ys) fun zs=>R (.lst zs)
  | .tup xs,.tup ys=>xs.length+ys.length≤sizeLine∧NF (xs++ys) fun zs=>R (.tup zs)
  | _,_=>False
theorem qbN:OpD K X (binaryOp .Add) qpj:=⟨fun hK pins s σ H x y v u Q I rx ry hq0=>by
  obtain ⟨Φ,dx,dy,R,sm,hx,hy,h,k⟩:=hq0
  cases dx with
  | int i =>
    cases dy with
    | int j=>cases hx.int;cases hy.int;exact qmG pins s σ H _ _ v u Q I rx ry ⟨i,j,rfl,rfl,k _ Φ H _ h (.refl sm) (.int _)⟩
    | _=>exact h.elim
  | str i =>
    cases dy with
    | str j=>cases hx.str;cases hy.str;exact qg2 pins s σ H _ _ v u Q I rx ry ⟨i,j,rfl,rfl,h.1,k _ Φ H _ h.2 (.refl sm) (.str _)⟩
    | _=>exact h.elim
  | lst xs =>
    cases dy with
    | lst ys =>
      obtain ⟨a,vs,rfl,h1,h2⟩:=hx.lst sm
      obtain ⟨b,ws,rfl,h3,h4⟩:=hy.lst sm
      exact qmL pins s σ H _ _ v u Q I rx ry ⟨a,b,vs,ws,rfl,rfl,h1,h3,by rw [h2.1,h4.1];exact h.1,fun p hp=>k _ _ _ _ h.2.get (.new sm hp _) (((h2.append h4).same (qaG (sm.free hp) _)).lst qan)⟩
    | _=>exact h.elim
  | tup xs =>
    cases dy with
    | tup ys =>
      obtain ⟨a,vs,rfl,h1,h1',h2⟩:=hx.tup sm
      obtain ⟨b,ws,rfl,h3,h3',h4⟩:=hy.tup sm
      exact (hK ▸ qlk:OpR X (binaryOp .Add) (ql5 K)) pins s σ H _ _ v u Q I rx ry ⟨a,b,vs,ws,rfl,rfl,h1,h3,by rw [h2.1,h4.1];exact h.1,fun p H' s' q=>by
        obtain ⟨Φ',g,q'⟩:=Gr.adopt sm s' q
        exact k _ Φ' H' _ h.2.get g (((h2.append h4).same g.f).tup q')⟩
    | _=>exact h.elim
  | _=>exact h.elim⟩
def zI (C:Int→Int→Prop) (g:Int→Int→D):RD2:=fun x y R=>match x,y with | .int i,.int j=>C i j∧R (g i j) | _,_=>False
def zI0 (g:Int→Int→D):RD2:=fun x y R=>match x,y with | .int i,.int j=>R (g i j) | _,_=>False
theorem qlf {f:Value→Value→Sem Value} {C:Int→Int→Prop} {g:Int→Int→Int} (h:OpR X f (rI C fun i j=>.int (g i j))):OpD K X f (zI C fun i j=>.int (g i j)) :=
  ⟨fun hK pins s σ H x y v u Q I rx ry hq0=>by
    obtain ⟨Φ,dx,dy,R,sm,hx,hy,q,k⟩:=hq0
    cases dx with
    | int i =>
      cases dy with
      | int j=>cases hx.int;cases hy.int;exact h pins s σ H _ _ v u Q I rx ry ⟨i,j,rfl,rfl,q.1,k _ Φ H _ q.2 (.refl sm) (.int _)⟩
      | _=>exact q.elim
    | _=>exact q.elim⟩
theorem qmj {f:Value→Value→Sem Value} {g:Int→Int→Int} (h:OpR X f (rI0 fun i j=>.int (g i j))):OpD K X f (zI0 fun i j=>.int (g i j)) :=
  ⟨fun hK pins s σ H x y v u Q I rx ry hq0=>by
    obtain ⟨Φ,dx,dy,R,sm,hx,hy,q,k⟩:=hq0
    cases dx with
    | int i =>
      cases dy with
      | int j=>cases hx.int;cases hy.int;exact h pins s σ H _ _ v u Q I rx ry ⟨i,j,rfl,rfl,k _ Φ H _ q (.refl sm) (.int _)⟩
      | _=>exact q.elim
    | _=>exact q.elim⟩
theorem qj0 {f:Value→Value→Sem Value} {g:Int→Int→Bool} (h:OpR X f (rI0 fun i j=>.bl (g i j))):OpD K X f (zI0 fun i j=>.bl (g i j)) :=
  ⟨fun hK pins s σ H x y v u Q I rx ry hq0=>by
    obtain ⟨Φ,dx,dy,R,sm,hx,hy,q,k⟩:=hq0
    cases dx with
    | int i =>
      cases dy with
      | int j=>cases hx.int;cases hy.int;exact h pins s σ H _ _ v u Q I rx ry ⟨i,j,rfl,rfl,k _ Φ H _ q (.refl sm) (.bl _)⟩
      | _=>exact q.elim
    | _=>exact q.elim⟩
theorem qgd:OpD K X (binaryOp .Sub) (zI0 fun i j=>.int (i - j)):=qmj qmw
theorem qcW:OpD K X (binaryOp .FloorDiv) (zI CDivB fun i j=>.int (i / j)):=qlf qiL
theorem qg3:OpD K X (binaryOp .Mod) (zI (fun _ j=>0<j) fun i j=>.int (i % j)):=qlf qlU
theorem qhj:OpD K X (binaryOp .Pow) (zI qoA fun i j=>.int (i ^ j.toNat)):=qlf qm8
theorem qkG:OpD K X (compareOp .Lt) (zI0 fun i j=>.bl (decide (i<j))):=qj0 qnH
theorem qkY:OpD K X (compareOp .Gt) (zI0 fun i j=>.bl (decide (j<i))):=qj0 qnE
def qpm:RD2:=fun x y R=>match x,y with
  | .int i,.int j=>IntMulOk i j∧R (.int (i*j))
  | .lst xs,.int k=>(-(2 ^ 63)≤k∧k<2 ^ 63∧xs.length*k.toNat≤sizeLine)∧NF (List.replicate k.toNat xs).flatten fun zs=>R (.lst zs)
  | .tup xs,.int k=>(xs≠[]∧0≤k∧k≤1000∧k.toNat*xs.length≤1000)∧NF (List.replicate k.toNat xs).flatten fun zs=>R (.tup zs)
  | _,_=>False
theorem qbD:OpD K X (binaryOp .Mult) qpm:=⟨fun hK pins s σ H x y v u Q I rx ry hq0=>by
  obtain ⟨Φ,dx,dy,R,sm,hx,hy,h,k⟩:=hq0
  cases dx with
  | int i =>
    cases dy with
    | int j=>cases hx.int;cases hy.int;exact qk6 pins s σ H _ _ v u Q I rx ry ⟨i,j,rfl,rfl,h.1,k _ Φ H _ h.2 (.refl sm) (.int _)⟩
    | _=>exact h.elim
  | lst xs =>
    cases dy with
    | int j =>
      obtain ⟨a,vs,rfl,h1,h2⟩:=hx.lst sm
      cases hy.int
      exact qjX pins s σ H _ _ v u Q I rx ry ⟨a,j,vs,rfl,rfl,h1,h.1.1,h.1.2.1,by rw [h2.1];exact h.1.2.2,fun p hp=>k _ _ _ _ h.2.get (.new sm hp _) (((h2.rep _).same (qaG (sm.free hp) _)).lst qan)⟩
    | _=>exact h.elim
  | tup xs =>
    cases dy with
    | int j =>
      obtain ⟨a,vs,rfl,h1,h1',h2⟩:=hx.tup sm
      cases hy.int
      have hne:vs≠[]:=fun e=>h.1.1 (List.length_eq_zero_iff.mp (by rw [← h2.1,e];rfl))
      exact (hK ▸ qky:OpR X (binaryOp .Mult) (qmW K)) pins s σ H _ _ v u Q I rx ry ⟨a,j,vs,rfl,rfl,h1,hne,h.1.2.1,h.1.2.2.1,by rw [h2.1];exact h.1.2.2.2,fun p H' s' q=>by
        obtain ⟨Φ',g,q'⟩:=Gr.adopt sm s' q
        exact k _ Φ' H' _ h.2.get g (((h2.rep _).same g.f).tup q')⟩
    | _=>exact h.elim
  | _=>exact h.elim⟩
end
def cmL (f:D→D→Option Bool):List D→List D→Option Bool
  | [],[]=>some true
  | x::xs,y::ys=>(f x y).bind fun b=>(cmL f xs ys).map (b && ·)
  | _,_=>some false
def cmB:Nat→D→D→Option Bool
  | _,.int i,.int j=>some (i == j)
  | _,.bl i,.bl j=>some (i == j)
  | _,.str i,.str j=>some (i == j)
  | _,.non,.non=>some true
  | n+1,.tup xs,.tup ys=>cmL (cmB n) xs ys
  | n+1,.lst xs,.lst ys=>if xs.length=ys.length then cmL (cmB n) xs ys else some false
  | _,_,_=>none
theorem qdo {f:D→D→Option Bool}:∀ {xs ys:List D} {b:Bool},cmL f xs ys=some b→∃ g:Nat→Bool,(∀ (j:Nat) (x y:D),xs[j]?=some x→ys[j]?=some y→f x y=some (g j))∧b=((List.range (min xs.length ys.length)).all g && xs.length == ys.length)
  | [],[],b,h=>by cases h;exact ⟨fun _=>true,fun j x y hx=>by simp at hx,by simp⟩
  | [],_::_,b,h=>by cases h;exact ⟨fun _=>true,fun j x y hx=>by simp at hx,by simp⟩
  | _::_,[],b,h=>by cases h;exact ⟨fun _=>true,fun j x y _ hy=>by simp at hy,by simp⟩
  | x::xs,y::ys,b,h=>by
    unfold cmL at h
    cases e:f x y with
    | none=>rw [e] at h;cases h
    | some c =>
      cases e2:cmL f xs ys with
      | none=>rw [e,e2] at h;cases h
      | some c2 =>
        rw [e,e2] at h
        cases h
        obtain ⟨g,h1,h2⟩:=qdo e2
        refine ⟨fun j=>match j with | 0=>c | j+1=>g j,fun j u v hu hv=>?_,?_⟩
        · cases j with
          | zero=>cases hu;cases hv;exact e
          | succ j=>exact h1 j u v hu hv
        · have em:min (x::xs).length (y::ys).length=min xs.length ys.length+1:=by simp only [List.length_cons];omega
          have el:((x::xs).length == (y::ys).length)=(xs.length == ys.length):=by simp
          rw [em,el,List.range_succ_eq_map,List.all_cons,List.all_map,h2,Bool.and_assoc]
          rfl
section
variable {K : PySem.W.Frag} {X : Cx} {pins : List (Addr × Obj)} {σ : St} {Φ H : Hp} {s : Shared}
theorem qmS {n:Nat} {g:Nat→Bool} (h:∀ j,j<n→g j=true):(List.range n).all g=true:=by
  rw [List.all_eq_true]
  intro j hj
  exact h j (List.mem_range.mp hj)
theorem qaA {α:Type} {xs:List α} {j:Nat} (h:j<xs.length):xs[j]?=some xs[j]:=by simp [h]
theorem qio (hK:X.K=K) (I:Inv X pins σ H s) (sm:Same Φ H):∀ (n:Nat) {d e:D} {b:Bool} {v:V},cmB n d e=some b→Rp K Φ d v→Rp K Φ e v→b=true:=by
  intro n
  induction n with
  | zero =>
    intro d e b v h r1 r2
    cases r1 with
    | int i=>cases r2;have h':some (i == i)=some b:=h;cases h';simp
    | bl i=>cases r2;have h':some (i == i)=some b:=h;cases h';simp
    | str i=>cases r2;have h':some (i == i)=some b:=h;cases h';simp
    | non=>cases r2;cases h;rfl
    | tup _ _ _=>cases r2 <;> cases h
    | lst _ _ _=>cases r2 <;> cases h
    | fzl _ _ _=>cases r2 <;> cases h
    | obj _ _ _ _=>cases r2 <;> cases h
  | succ n ih =>
    intro d e b v h r1 r2
    cases r1 with
    | int i=>cases r2;have h':some (i == i)=some b:=h;cases h';simp
    | bl i=>cases r2;have h':some (i == i)=some b:=h;cases h';simp
    | str i=>cases r2;have h':some (i == i)=some b:=h;cases h';simp
    | non=>cases r2;cases h;rfl
    | @tup a vs xs h1 h2 h3=>cases r2 with
      | @tup _ ws ys k1 k2 k3 =>
        have hvw:vs=ws:=I.tuple_inj (hK ▸ sm.sqt h1) (hK ▸ sm.sqt k1)
        subst hvw
        obtain ⟨g,hg,hb⟩:=qdo (show cmL (cmB n) xs ys=some b from h)
        rw [hb,qmS fun j hj=>?_]
        · simp;omega
        · have j0:j<vs.length:=by omega
          have j1:j<xs.length:=by omega
          have j2:j<ys.length:=by omega
          exact ih (hg j _ _ (qaA j1) (qaA j2)) (h3 j _ _ (qaA j0) (qaA j1)) (k3 j _ _ (qaA j0) (qaA j2))
      | _=>cases h
    | @lst a vs xs h1 h2 h3=>cases r2 with
      | @lst _ ws ys k1 k2 k3 =>
        have hvw:vs=ws:=by rw [h1] at k1;cases k1;rfl
        subst hvw
        have h':(if xs.length=ys.length then cmL (cmB n) xs ys else some false)=some b:=h
        rw [if_pos (by omega)] at h'
        obtain ⟨g,hg,hb⟩:=qdo h'
        rw [hb,qmS fun j hj=>?_]
        · simp;omega
        · have j0:j<vs.length:=by omega
          have j1:j<xs.length:=by omega
          have j2:j<ys.length:=by omega
          exact ih (hg j _ _ (qaA j1) (qaA j2)) (h3 j _ _ (qaA j0) (qaA j1)) (k3 j _ _ (qaA j0) (qaA j2))
      | _=>cases h
    | fzl _ _ _=>cases r2 <;> cases h
    | obj _ _ _ _=>cases r2 <;> cases h
open PySem.SeqAt in
theorem qiv {n:Nat} {d e:D} {b:Bool} {x y:V} (h:cmB n d e=some b) (rx:Rp K Φ d x) (ry:Rp K Φ e y) (hf:(∀ a,x≠.ref a)) {A:Around} {u v:Value} (ru:RelV x u) (rv:RelV y v):EqAt A s u v b∧RcAt A s u v b∧RcNeAt A s u v (!b):=by
  cases rx with
  | int i=>cases ry with
    | int j =>
      obtain ⟨t,rfl⟩:=ru;obtain ⟨t',rfl⟩:=rv
      have h':some (i == j)=some b:=by cases n <;> exact h
      cases h'
      exact ⟨EqAt.int_int i t j t',RcAt.int_int i t j t',RcNeAt.int_int i t j t'⟩
    | _=>cases n <;> cases h
  | bl i=>cases ry with
    | bl j =>
      cases ru;cases rv
      have h':some (i == j)=some b:=by cases n <;> exact h
      cases h'
      exact ⟨EqAt.bool_bool i j,RcAt.bool_bool i j,RcNeAt.bool_bool i j⟩
    | _=>cases n <;> cases h
  | str i=>cases ry with
    | str j =>
      obtain ⟨t,rfl⟩:=ru;obtain ⟨t',rfl⟩:=rv
      have h':some (i == j)=some b:=by cases n <;> exact h
      cases h'
      exact ⟨EqAt.str_str i t j t',RcAt.str_str i t j t',RcNeAt.str_str i t j t'⟩
    | _=>cases n <;> cases h
  | non=>cases ry with
    | non =>
      cases ru;cases rv
      have h':some true=some b:=by cases n <;> exact h
      cases h'
      exact ⟨EqAt.same _,RcAt.none_none,RcNeAt.none_none⟩
    | _=>cases n <;> cases h
  | tup _ _ _=>exact absurd rfl (hf _)
  | lst _ _ _=>exact absurd rfl (hf _)
  | fzl _ _ _=>exact absurd rfl (hf _)
  | obj _ _ _ _=>exact absurd rfl (hf _)
open PySem.SeqAt in
theorem qkp (hK:X.K=K) (I:Inv X pins σ H s) (sm:Same Φ H):∀ (n:Nat) {d e:D} {b:Bool} {x y:V},cmB n d e=some b→Rp K Φ d x→Rp K Φ e y →
    ∀ (A:Around) (u v:Value),A.units+n<cLine→RelV x u→RelV y v→EqAt A s u v b∧RcAt A s u v b∧RcNeAt A s u v (!b):=by
  intro n
  induction n with
  | zero =>
    intro d e b x y h rx ry A u v hu ru rv
    refine qiv h rx ry (fun a ea=>?_) ru rv
    subst ea
    cases rx <;> cases ry <;> cases h
  | succ n ih =>
    intro d e b x y h rx ry A u v hu ru rv
    by_cases hf:∀ a,x≠.ref a
    · exact qiv h rx ry hf ru rv
    have hu':A.units<cLine:=by omega
    cases rx with
    | int i=>exact absurd (fun a e=>nomatch e) hf
    | bl i=>exact absurd (fun a e=>nomatch e) hf
    | str i=>exact absurd (fun a e=>nomatch e) hf
    | non=>exact absurd (fun a e=>nomatch e) hf
    | @tup a vs xs h1 h2 h3=>cases ry with
      | @tup c ws ys k1 k2 k3 =>
        cases ru;cases rv
        obtain ⟨g,hg,hb⟩:=qdo (show cmL (cmB n) xs ys=some b from h)
        obtain ⟨its,r1,p1,_⟩:=I.sqb (b:=false) (hK ▸ sm.sqt h1)
        obtain ⟨its',r2,p2,_⟩:=I.sqb (b:=false) (hK ▸ sm.sqt k1)
        have l1:=Vals.length r1
        have l2:=Vals.length r2
        have he:∀ j (j1:j<its.toArray.size) (j2:j<its'.toArray.size),EqAt A.in1 s its.toArray[j] its'.toArray[j] (g j):=by
          intro j j1 j2
          simp only [List.size_toArray] at j1 j2
          obtain ⟨x,hx,rx⟩:=Vals.get' r1 j1
          obtain ⟨y,hy,ry⟩:=Vals.get' r2 j2
          have i1:j<xs.length:=by omega
          have i2:j<ys.length:=by omega
          exact (ih (hg j _ _ (qaA i1) (qaA i2)) (h3 j x _ hx (qaA i1)) (k3 j y _ hy (qaA i2)) A.in1 _ _ (by show A.units+1+n<cLine;omega) rx ry).1
        have R:=RcAt.tuples (e:=g) p1 p2 hu' he
        have R':=RcNeAt.tuples (e:=g) p1 p2 hu' he
        have et:((List.range (min its.toArray.size its'.toArray.size)).all g && its.toArray.size == its'.toArray.size)=b:=by
          rw [hb]
          simp only [List.size_toArray]
          rw [← l1,← l2,h2,k2]
        rw [et] at R R'
        refine ⟨?_,R,R'⟩
        by_cases hab:a=c
        · subst hab
          rw [qio hK I sm (n+1) h (.tup h1 h2 h3) (.tup k1 k2 k3)];exact EqAt.same _
        · exact EqAt.of_refs hab R
      | _=>cases h
    | @lst a vs xs h1 h2 h3=>cases ry with
      | @lst c ws ys k1 k2 k3 =>
        cases ru;cases rv
        have h':(if xs.length=ys.length then cmL (cmB n) xs ys else some false)=some b:=h
        obtain ⟨its,r1,p1,_⟩:=I.sqb (b:=true) (show SqL X.K H a vs from SqL.of (sm _ _ h1))
        obtain ⟨its',r2,p2,_⟩:=I.sqb (b:=true) (show SqL X.K H c ws from SqL.of (sm _ _ k1))
        have l1:=Vals.length r1
        have l2:=Vals.length r2
        have fin:RcAt A s (.ref a) (.ref c) b∧RcNeAt A s (.ref a) (.ref c) (!b):=by
          by_cases hl:xs.length=ys.length
          · rw [if_pos hl] at h'
            obtain ⟨g,hg,hb⟩:=qdo h'
            have he:∀ j (j1:j<its.toArray.size) (j2:j<its'.toArray.size),EqAt A.in1 s its.toArray[j] its'.toArray[j] (g j):=by
              intro j j1 j2
              simp only [List.size_toArray] at j1 j2
              obtain ⟨x,hx,rx⟩:=Vals.get' r1 j1
              obtain ⟨y,hy,ry⟩:=Vals.get' r2 j2
              have i1:j<xs.length:=by omega
              have i2:j<ys.length:=by omega
              exact (ih (hg j _ _ (qaA i1) (qaA i2)) (h3 j x _ hx (qaA i1)) (k3 j y _ hy (qaA i2)) A.in1 _ _ (by show A.units+1+n<cLine;omega) rx ry).1
            have hsz:its.toArray.size=its'.toArray.size:=by simp;omega
            have R:=RcAt.lists (e:=g) p1 p2 hsz hu' he
            have R':=RcNeAt.lists (e:=g) p1 p2 hsz hu' he
            have et:(List.range its.toArray.size).all g=b:=by
              have e1:min xs.length ys.length=its.length:=by omega
              have e2:(xs.length == ys.length)=true:=by simp [hl]
              rw [hb,e1,e2,Bool.and_true,List.size_toArray]
            rw [et] at R R'
            exact ⟨R,R'⟩
          · rw [if_neg hl] at h'
            cases h'
            have hsz:(its.toArray.size != its'.toArray.size)=true:=by simp;omega
            exact ⟨RcAt.lists_lengths p1 p2 hsz hu',RcNeAt.lists_lengths p1 p2 hsz hu'⟩
        refine ⟨?_,fin.1,fin.2⟩
        by_cases hab:a=c
        · subst hab
          rw [qio hK I sm (n+1) h (.lst h1 h2 h3) (.lst k1 k2 k3)];exact EqAt.same _
        · exact EqAt.of_refs hab fin.1
      | _=>cases h
    | fzl _ _ _=>cases ry <;> cases h
    | obj _ _ _ _=>cases ry <;> cases h
end
def zEq:RD2:=fun x y R=>match cmB 40 x y with | some b=>R (.bl b) | none=>False
def zNe:RD2:=fun x y R=>match cmB 40 x y with | some b=>R (.bl (!b)) | none=>False
section
variable {K : PySem.W.Frag} {X : Cx}
theorem RpQ.any {Φ H:Hp} {d:D} {v:V} (h:RpQ K Φ H d v) (s:Same Φ H):Rp K H d v:=by
  rcases h with h | ⟨a,vs,ds,e,e2,h1,h2⟩
  · exact h.same s
  · subst e e2;exact (h2.same s).lst h1
theorem qe3 (hu:X.A.units+64<cLine):OpD K X (compareOp .Eq) zEq:=⟨fun hK pins s σ H x y u v Q I rx ry hq0=>by
  obtain ⟨Φ,dx,dy,R,sm,hx,hy,h,k⟩:=hq0
  unfold zEq at h
  split at h
  · next b hb=>exact (qkp hK I (Same.refl H) 40 hb (hx.any sm) (hy.any sm) X.A u v (by omega) rx ry).2.1 X.prog X.w _ _ ⟨.bl b,H,I,rfl,k _ Φ H _ h (.refl sm) (.bl b)⟩
  · exact h.elim⟩
theorem qnS (hu:X.A.units+64<cLine):OpD K X (compareOp .NotEq) zNe:=⟨fun hK pins s σ H x y u v Q I rx ry hq0=>by
  obtain ⟨Φ,dx,dy,R,sm,hx,hy,h,k⟩:=hq0
  unfold zNe at h
  split at h
  · next b hb=>exact (qkp hK I (Same.refl H) 40 hb (hx.any sm) (hy.any sm) X.A u v (by omega) rx ry).2.2 X.prog X.w _ _ ⟨.bl (!b),H,I,rfl,k _ Φ H _ h (.refl sm) (.bl _)⟩
  · exact h.elim⟩
def qiN:D→Bool
  | .non=>true
  | _=>false
def zIs (neg:Bool):RD2:=fun x y R=>match y with | .non=>R (.bl (qiN x != neg)) | .bl b=>(match x with | .bl a=>R (.bl ((a == b) != neg)) | _=>False) | _=>False
theorem qhN {Φ H:Hp} {d:D} {v:V} (h:RpQ K Φ H d v):decide (v=V.non)=qiN d:=by
  cases d with
  | int i=>rw [h.int];rfl
  | bl i=>rw [h.bl];rfl
  | str i=>rw [h.str];rfl
  | non=>rw [h.non];rfl
  | tup ds => rcases h with h | ⟨a, vs, ds, e, _⟩
              · cases h;rfl
              · cases e
  | lst ds => rcases h with h | ⟨a, vs, ds, e, e2, _⟩
              · cases h;rfl
              · rw [e2];rfl
  | fzl ds => rcases h with h | ⟨a, vs, ds, e, _⟩
              · cases h;rfl
              · cases e
  | obj C fs => rcases h with h | ⟨a, vs, ds, e, _⟩
                · cases h;rfl
                · cases e
theorem qlN:OpD K X (compareOp .Is) (zIs false):=⟨fun hK pins s σ H x y u v Q I rx ry hq0=>by
  obtain ⟨Φ,dx,dy,R,sm,hx,hy,h,k⟩:=hq0
  cases dy with
  | non =>
    cases hy.non
    refine qm6 pins s σ H _ _ u v Q I rx ry ⟨rfl,?_⟩
    rw [qhN hx]
    have h':R (.bl (qiN dx != false)):=h
    rw [Bool.bne_false] at h'
    exact k _ Φ H _ h' (.refl sm) (.bl _)
  | bl b =>
    cases hy.bl
    cases dx with
    | bl a =>
      cases hx.bl
      have h':R (.bl ((a == b) != false)):=h
      rw [Bool.bne_false] at h'
      exact qm7 pins s σ H _ _ u v Q I rx ry ⟨a,b,rfl,rfl,k _ Φ H _ h' (.refl sm) (.bl _)⟩
    | _=>exact h.elim
  | _=>exact h.elim⟩
theorem qkK:OpD K X (compareOp .IsNot) (zIs true):=⟨fun hK pins s σ H x y u v Q I rx ry hq0=>by
  obtain ⟨Φ,dx,dy,R,sm,hx,hy,h,k⟩:=hq0
  cases dy with
  | non =>
    cases hy.non
    refine qkR pins s σ H _ _ u v Q I rx ry ⟨rfl,?_⟩
    rw [qhN hx]
    have h':R (.bl (qiN dx != true)):=h
    rw [Bool.bne_true] at h'
    exact k _ Φ H _ h' (.refl sm) (.bl _)
  | bl b =>
    cases hy.bl
    cases dx with
    | bl a =>
      cases hx.bl
      have h':R (.bl ((a == b) != true)):=h
      rw [Bool.bne_true] at h'
      exact qkv pins s σ H _ _ u v Q I rx ry ⟨a,b,rfl,rfl,k _ Φ H _ h' (.refl sm) (.bl _)⟩
    | _=>exact h.elim
  | _=>exact h.elim⟩
end
end L2
namespace HT
open PySem PySem.Spec PyProof.Rows
theorem getItem_tuple_all {prog:Program} {w:World} {A:Around} {E:Value→Shared→Prop} {s:Shared} {t sl:Addr} {items:Array Value} {vl vu:Value} {lo hi:Option Int} {Q:Value→Shared→Prop} (ht:IsTup s.heap t items) (hs:s.heap.IsSliceOf sl vl vu .none) (pl:IsPart vl lo) (pu:IsPart vu hi)
    (hw:sIx items.size 0 lo=0∧sIx items.size items.size hi=items.size) (h:Q (.ref t) s):wpAny (model prog w) A (getItem (.ref t) (.ref sl)) Q E s:=by
  obtain ⟨os,hos,hcs,hds⟩:=id hs
  have hTs:s.TypeIs (.ref sl) "slice":=⟨os,hos,hcs⟩
  unfold getItem
  try with_reducible refine wpAny_holding ?_
  first | refine wpAny_bind (wpAny_pure ?_) | skip
  refine wpAny_bind (wpAny_sequenceKey ht.typeIs (by decide) ?_)
  refine wpAny_bind (wpAny_callSpecial?_slot (name:=Str.ofString "__getitem__") ht.typeIs PyProof.Rows.slot_tuple_getitem
    (wpAny_call_entry PyProof.Rows.slot_tuple_getitem ht.typeIs entry_tuple_getitem ?_ (args_tuple_getitem _ _)))
  show wpAny _ _ (Builtin.Tuple.tupleItemsOf (.ref t) >>= _) _ _ s
  refine wpAny_bind (tupleItemsOf_ ht ?_)
  refine wpAny_bind (wpAny_typeOf hTs ?_)
  rw [if_pos (by decide)]
  refine wpAny_bind (qb3 hs pl pu ?_)
  have hyes:(((sIx items.size 0 lo:Nat):Int) == 0 && (1:Int) == 1 && (sIx items.size items.size hi - sIx items.size 0 lo) == items.size)=true:=by
    rw [hw.1,hw.2]
    simp
  show wpAny _ _ (if (((sIx items.size 0 lo:Nat):Int) == 0 && (1:Int) == 1 && (sIx items.size items.size hi - sIx items.size 0 lo) == items.size)=true then _ else _) _ _ s
  rw [if_pos hyes]
  refine wpAny_bind (show wpAny _ _ (typeOf (.ref t) >>= fun c=>pure (c == .type "tuple")) _ _ s from wpAny_bind (wpAny_typeOf ht.typeIs (wpAny_pure ?_)))
  rw [if_pos (by decide)]
  exact wpAny_bind (wpAny_rule (wpAny_pure ⟨_,rfl,wpAny_pure h⟩))
end HT
namespace L2
open PySem PySem.Spec PyProof.Rows
section
variable {K : PySem.W.Frag} {X : Cx} {e a b c : Expr} {es : List Expr} {pos p2 : Pos} {t ta tb : TD} {tf : TDL} {tl : TDL} {tt tu : TDB}
def zIx:RD2:=fun x y R=>match y with
  | .int i=>(match x with
    | .lst ds=>∃ d,atI ds i=some d∧R d
    | .tup ds=>∃ d,atI ds i=some d∧R d
    | .fzl ds=>∃ d,atI ds i=some d∧R d
    | .str z=>z.length≤sizeLine∧∃ c,atI z.cps.toList i=some c∧R (.str ⟨#[c]⟩)
    | _=>False)
  | _=>False
theorem qk2 {Φ:Hp} {ds:List D} {vs:List V} {d:D} {i:Int} (h:RpL K Φ ds vs) (e:atI ds i=some d):∃ v,atI vs i=some v∧Rp K Φ d v:=by
  unfold atI at e ⊢
  rw [h.1]
  cases hj:ixN ds.length i with
  | none=>rw [hj] at e;cases e
  | some j =>
    rw [hj,Option.bind_some] at e
    rw [Option.bind_some]
    exact h.at e
theorem qpp (hK:X.K=K):IxR X (lR2 K zIx):=by
  intro value slice pins s σ H x y v u Q I rx ry ⟨Φ,dx,dy,R,sm,hx,hy,h,k⟩ hs
  cases dy with
  | int i =>
    cases hy.int
    cases dx with
    | lst ds =>
      obtain ⟨d,h1,h2⟩:=h
      obtain ⟨a,vs,rfl,q1,q2⟩:=hx.lst sm
      obtain ⟨w,hw,rw'⟩:=qk2 q2 h1
      exact qiy value slice pins s σ H _ _ v u Q I rx ry ⟨a,vs,i,w,rfl,rfl,.of q1,hw,k _ Φ H _ h2 (.refl sm) rw'⟩ hs
    | tup ds =>
      obtain ⟨d,h1,h2⟩:=h
      obtain ⟨a,vs,rfl,q1,_,q2⟩:=hx.tup sm
      obtain ⟨w,hw,rw'⟩:=qk2 q2 h1
      exact qmB value slice pins s σ H _ _ v u Q I rx ry ⟨a,vs,i,w,rfl,rfl,hK ▸ q1,hw,k _ Φ H _ h2 (.refl sm) rw'⟩ hs
    | fzl ds =>
      obtain ⟨d,h1,h2⟩:=h
      obtain ⟨a,vs,rfl,q1,q2⟩:=hx.fzl sm
      obtain ⟨w,hw,rw'⟩:=qk2 q2 h1
      exact qiy value slice pins s σ H _ _ v u Q I rx ry ⟨a,vs,i,w,rfl,rfl,hK ▸ q1,hw,k _ Φ H _ h2 (.refl sm) rw'⟩ hs
    | str z =>
      obtain ⟨h0,c,h1,h2⟩:=h
      cases hx.str
      exact qmJ value slice pins s σ H _ _ v u Q I rx ry ⟨z,i,c,rfl,rfl,h0,h1,k _ Φ H _ h2 (.refl sm) (.str _)⟩ hs
    | _=>exact h.elim
  | _=>exact h.elim
theorem qa1 (ha:PQ K X a ta) (hb:PQ K X b tb) (hs:qhR b):PD K X (.Subscript a b pos) (dOp zIx ta tb) :=
  ⟨fun hK=>(qn3 (qpp hK) (ha.pe hK) (hb.pe hK) hs).imp fun _ _ _=>qe2⟩
abbrev TOD:=Rho→(Option Int→Prop)→Prop
def lO (K:PySem.W.Frag) (t:TOD):TO:=fun σ H Q=>∃ H0 Φ ρ R,EnvD K H0 Φ H σ ρ∧t ρ R∧∀ o Φ' H',R o→Gr Φ H Φ' H'→Q o H'
structure POD (K:PySem.W.Frag) (X:Cx) (e:Option Expr) (t:TOD):Prop where po:X.K=K→PO X e (lO K t)
def qn4:TOD:=fun _ R=>R none
def qnP (t:TD):TOD:=fun ρ R=>t ρ fun d=>match d with | .int i=>R (some i) | _=>False
theorem PO.imp {o:Option Expr} {t t':TO} (h:PO X o t) (k:∀ σ H Q,t' σ H Q→t σ H Q):PO X o t':=fun pins s σ H Q I hw=>h pins s σ H Q I (k σ H Q hw)
theorem qgG:POD K X none qn4:=⟨fun _=>po_none.imp fun σ H Q hq0=>by obtain ⟨H0,Φ,ρ,R,E,t,k⟩:=hq0;exact k none Φ H t (.refl E.fz)⟩
theorem qej (h:PQ K X e t):POD K X (some e) (qnP t):=⟨fun hK=>(qkE (h.pe hK)).imp fun σ H Q hq0=>by obtain ⟨H0,Φ,ρ,R,E,t,k⟩:=hq0;exact ⟨H0,Φ,ρ,_,E,t,fun d Φ1 H1 v r g rv=>by
  cases d with
  | int i=>exact ⟨i,rv.int,k _ Φ1 H1 r g⟩
  | _=>exact r.elim⟩⟩
variable {lo hi : Option Expr} {to tp : TOD}
def qot (K:PySem.W.Frag):V→Option Int→Option Int→Hp→VK→Prop:=fun x lo hi H Q=>∃ a xs,x=.ref a∧SqT K H a xs∧(HT.sIx xs.length 0 lo=0∧HT.sIx xs.length xs.length hi=xs.length)∧Q (.ref a) H
theorem qmm:SlR X (qot X.K):=by
  intro pins s σ H x v vl vu lo hi sl Q I rx hs pl pu h
  obtain ⟨a,xs,rfl,hx,hw,q⟩:=h
  cases rx
  obtain ⟨its,r,ht,hz⟩:=I.tuple hx
  have hlen:its.toArray.size=xs.length:=by rw [List.size_toArray];exact r.length.symm
  refine ⟨"tuple",_,PyProof.Rows.slot_tuple_getitem.lookup,ht.typeIs,?_⟩
  exact HT.getItem_tuple_all ht hs pl pu (by rw [hlen];exact hw) ⟨.ref a,H,I,rfl,q⟩
theorem qkH {α:Type} {xs:List α} {l h:Option Int} (hw:HT.sIx xs.length 0 l=0∧HT.sIx xs.length xs.length h=xs.length):qfO xs l h=xs:=by
  unfold qfO
  rw [hw.1,hw.2,List.drop_zero,Nat.sub_zero,List.take_length]
def zSl (x:D) (l h:Option Int) (R:D→Prop):Prop:=match x with
  | .lst ds=>NF (qfO ds l h) fun zs=>R (.lst zs)
  | .fzl ds=>NF (qfO ds l h) fun zs=>R (.lst zs)
  | .tup ds=>NF (qfO ds l h) fun zs=>R (.tup zs)
  | _=>False
def dSl (t:TD) (to tp:TOD):TD:=fun ρ R=>t ρ fun x=>to ρ fun l=>tp ρ fun h=>zSl x l h R
theorem qnv (ha:PQ K X a ta) (hl:POD K X lo to) (hh:POD K X hi tp):PD K X (.Subscript a (.Slice lo hi none p2) pos) (dSl ta to tp) :=
  ⟨fun hK=>(qjP (hK ▸ sl_list.or (sl_tup.or qmm):SlR X (fun x lo hi H Q=>qoo K x lo hi H Q∨qoE K x lo hi H Q∨qot K x lo hi H Q)) (ha.pe hK) (hl.po hK) (hh.po hK)).imp fun σ H Q hq0=>by obtain ⟨H0,Φ,ρ,R,E,t,k⟩:=hq0;exact
    ⟨H0,Φ,ρ,_,E,t,fun dx Φ1 H1 x t1 g1 rx=>⟨H0,Φ1,ρ,_,E.gr g1,t1,fun l Φ2 H2 t2 g2=>⟨H0,Φ2,ρ,_,(E.gr g1).gr g2,t2,fun h Φ3 H3 t3 g3=>by
      have g:=(g1.trans g2).trans g3
      have rx3:=rx.gr (g2.trans g3)
      cases dx with
      | lst ds =>
        obtain ⟨a,vs,rfl,q1,q2⟩:=rx3.lst g.s
        exact .inl ⟨a,vs,rfl,.of q1,fun p hp=>k _ _ _ _ t3.get (g.trans (.new g.s hp _)) (((q2.cut l h).same (qaG (g.s.free hp) _)).lst qan)⟩
      | fzl ds =>
        obtain ⟨a,vs,rfl,q1,q2⟩:=rx3.fzl g.s
        exact .inl ⟨a,vs,rfl,q1,fun p hp=>k _ _ _ _ t3.get (g.trans (.new g.s hp _)) (((q2.cut l h).same (qaG (g.s.free hp) _)).lst qan)⟩
      | tup ds =>
        obtain ⟨a,vs,rfl,q1,q0,q2⟩:=rx3.tup g.s
        by_cases hw:HT.sIx vs.length 0 l=0∧HT.sIx vs.length vs.length h=vs.length
        · refine .inr (.inr ⟨a,vs,rfl,q1,hw,?_⟩)
          have e:qfO ds l h=ds:=qkH (by rw [← q2.1];exact hw)
          have t4:=t3.get
          rw [e] at t4
          exact k _ _ _ _ t4 g (q2.tup q0)
        · exact .inr (.inl ⟨a,vs,rfl,q1,hw,fun p hp=>k _ _ _ _ t3.get (g.trans (.new g.s hp _)) (((q2.cut l h).same (qaG (g.s.free hp) _)).tup (.of qan))⟩)
      | _=>exact t3.elim⟩⟩⟩⟩
def qpw (ta tb:TD):TDL:=fun ρ R=>ta ρ fun x=>tb ρ fun y=>match x,y with | .lst xs,.lst ys=>xs.length+ys.length≤sizeLine∧NF (xs++ys) R | _,_=>False
def qoO (ta tb:TD):TDL:=fun ρ R=>ta ρ fun x=>tb ρ fun y=>match x,y with | .lst xs,.int k=>(-(2 ^ 63)≤k∧k<2 ^ 63∧xs.length*k.toNat≤sizeLine)∧NF (List.replicate k.toNat xs).flatten R | _,_=>False
theorem qnO (ha:PQ K X a ta) (hb:PQ K X b tb):PF K X (.BinOp a .Mult b pos) (qoO ta tb) :=
  ⟨fun hK=>(qnm qjX (ha.pe hK) (hb.pe hK)).imp fun σ H Q hq0=>by obtain ⟨H0,Φ,ρ,R,E,t,k⟩:=hq0;exact ⟨H0,Φ,ρ,_,E,t,fun dx Φ1 H1 x t1 g1 rx=>⟨H0,Φ1,ρ,_,E.gr g1,t1,fun dy Φ2 H2 y t2 g2 ry=>by
    have g:=g1.trans g2
    have rx2:=rx.gr g2
    cases dx with
    | lst xs=>cases dy with
      | int j =>
        obtain ⟨a,vs,rfl,h1,h2⟩:=rx2.lst g.s
        cases ry.int
        exact ⟨a,j,vs,rfl,rfl,h1,t2.1.1,t2.1.2.1,by rw [h2.1];exact t2.1.2.2,fun p hp=>k _ _ _ p _ t2.2.get (g.trans (.fresh g.s hp _)) (g.h.free hp) (g.s.free hp) qan (h2.rep _)⟩
      | _=>exact t2.elim
    | _=>exact t2.elim⟩⟩⟩
abbrev SpD:=List D→(D→Prop)→Prop
def lSp (K:PySem.W.Frag) (sp:SpD):Sp:=fun vs H Q _=>∃ Φ ds R,Same Φ H∧TabF K Φ∧RpL K Φ ds vs∧sp ds R∧∀ d Φ' H' v,R d→Gr Φ H Φ' H'→Rp K Φ' d v→Q v H'
def qjg (sp:SpD) (t:TDL):TD:=fun ρ R=>t ρ fun ds=>sp ds R
variable {CX : CXT} {k : Nat} {f : Addr} {fd : FuncData} {ps : List Str} {sp : SpD} {x : Str} {p : Pos} {E : XK}
theorem qmX (F:FnOk X.prog X.w X.K X.mg X.base CX k f fd ps (lSp K sp)) (hr:Room k X.A) (hg:Gl X x) (hm:X.mg x=some (.ref f)) (hk:PySem.W.keepIn X.K (.ref f)=true) (hb:Binds X.K fd ps []) (hx:qdu CX X E)
    (ha:PAD K X (e::es) tl) (he:starEach (e::es) X.env=(false,eval e X.env)::starEach es X.env) (hpl:(backTo pos (starEach es X.env)).any (·.1)=false) (hdb:(x == ("__debug__":Str))=false:=by decide) :
    PD K X (.Call (.Name x p) (e::es) [] pos) (qjg sp tl) :=
  ⟨fun hK=>(qlC F hr hg hm hk hb .nil hx (ha.pa hK) hdb he hpl).imp fun σ H Q hq0=>by obtain ⟨H0,Φ,ρ,R,E,t,k⟩:=hq0;exact ⟨H0,Φ,ρ,_,E,t,fun ds Φ1 H1 vs r g rl _=>⟨Φ1,ds,R,g.s,E.tb.same g.f,by rw [List.append_nil];exact rl,r,fun d Φ' H' v rd g' rv=>k d Φ' H' v rd (g.trans g') rv⟩⟩⟩
def qnw (K:PySem.W.Frag) (Φ H:Hp) (ds:List D) (vs:List V):Prop:=vs.length=ds.length∧∀ (i:Nat) (v:V) (d:D),vs[i]?=some v→ds[i]?=some d→RpQ K Φ H d v
def lAQ (K:PySem.W.Frag) (t:TDL):TA:=fun σ H Q=>∃ H0 Φ ρ R,EnvD K H0 Φ H σ ρ∧t ρ R∧∀ ds Φ' H' vs,R ds→Gr Φ H Φ' H'→qnw K Φ' H' ds vs→Q vs H'
structure PAQ (K:PySem.W.Frag) (X:Cx) (es:List Expr) (t:TDL):Prop where pa:X.K=K→PA X es (lAQ K t)
theorem qav:PAQ K X [] qoq:=⟨fun _=>pa_nil.imp fun σ H Q hq0=>by obtain ⟨H0,Φ,ρ,R,E,t,k⟩:=hq0;exact k [] Φ H [] t (.refl E.fz) ⟨rfl,fun i v d hv _=>by simp at hv⟩⟩
theorem qap (ha:PQ K X e t) (hr:PAQ K X es tl) (hs:starEach (e::es) X.env=(false,eval e X.env)::starEach es X.env):PAQ K X (e::es) (qmT t tl) :=
  ⟨fun hK=>(qb5 (ha.pe hK) (hr.pa hK) hs).imp fun σ H Q hq0=>by obtain ⟨H0,Φ,ρ,R,E,t,k⟩:=hq0;exact ⟨H0,Φ,ρ,_,E,t,fun d Φ1 H1 v r g rv=>⟨H0,Φ1,ρ,_,E.gr g,r,fun ds Φ2 H2 vs r2 g2 rl =>
    k _ Φ2 H2 _ r2 (g.trans g2) ⟨by simp [rl.1],fun i u d hu hd=>by
      cases i with
      | zero=>cases hu;cases hd;exact rv.gr g2
      | succ i=>exact rl.2 i u d hu hd⟩⟩⟩⟩
def lC (K:PySem.W.Frag) (r:SpD):List V→Hp→VK→Prop:=fun vs H Q=>∃ Φ ds R,Same Φ H∧qnw K Φ H ds vs∧r ds R∧∀ d Φ' H' v,R d→Gr Φ H Φ' H'→Rp K Φ' d v→Q v H'
structure CallD (K:PySem.W.Frag) (X:Cx) (f:Value) (r:SpD):Prop where c:X.K=K→qcl X f (lC K r)
theorem qaH {id:String} {r:SpD} (hc:CallD K X (.builtin id) r) (hg:Gl X x) (hm:X.mg x=none) (hv:bootBuiltins x=some (.builtin id)) (ha:PAQ K X (e::es) tl)
    (he:starEach (e::es) X.env=(false,eval e X.env)::starEach es X.env) (hpl:(backTo pos (starEach es X.env)).any (·.1)=false) (hn:x≠"__name__":=by decide) (hdb:(x == ("__debug__":Str))=false:=by decide):PD K X (.Call (.Name x p) (e::es) [] pos) (qjg r tl) :=
  ⟨fun hK=>(qgF (hc.c hK) hg hm hv (ha.pa hK) hn hdb he hpl).imp fun σ H Q hq0=>by obtain ⟨H0,Φ,ρ,R,E,t,k⟩:=hq0;exact ⟨H0,Φ,ρ,_,E,t,fun ds Φ1 H1 vs r g rl=>⟨Φ1,ds,R,g.s,rl,r,fun d Φ' H' v rd g' rv=>k d Φ' H' v rd (g.trans g') rv⟩⟩⟩
theorem qaB {T:String} {r:SpD} (hc:CallD K X (.type T) r) (hg:Gl X x) (hm:X.mg x=none) (hv:bootBuiltins x=some (.type T)) (ha:PAQ K X (e::es) tl)
    (he:starEach (e::es) X.env=(false,eval e X.env)::starEach es X.env) (hpl:(backTo pos (starEach es X.env)).any (·.1)=false) (hn:x≠"__name__":=by decide) (hdb:(x == ("__debug__":Str))=false:=by decide):PD K X (.Call (.Name x p) (e::es) [] pos) (qjg r tl) :=
  ⟨fun hK=>(qdA (hc.c hK) hg hm hv (ha.pa hK) hn hdb he hpl).imp fun σ H Q hq0=>by obtain ⟨H0,Φ,ρ,R,E,t,k⟩:=hq0;exact ⟨H0,Φ,ρ,_,E,t,fun ds Φ1 H1 vs r g rl=>⟨Φ1,ds,R,g.s,rl,r,fun d Φ' H' v rd g' rv=>k d Φ' H' v rd (g.trans g') rv⟩⟩⟩
theorem qbE {Φ H:Hp} {d:D} {vs:List V} (h:qnw K Φ H [d] vs):∃ v,vs=[v]∧RpQ K Φ H d v:=by
  obtain ⟨h1,h2⟩:=h
  match vs,h1,h2 with
  | [v],_,h2=>exact ⟨v,rfl,h2 0 v d rfl rfl⟩
theorem qmC {Φ H:Hp} {d e:D} {vs:List V} (h:qnw K Φ H [d,e] vs):∃ v w,vs=[v,w]∧RpQ K Φ H d v∧RpQ K Φ H e w:=by
  obtain ⟨h1,h2⟩:=h
  match vs,h1,h2 with
  | [v,w],_,h2=>exact ⟨v,w,rfl,h2 0 v d rfl rfl,h2 1 w e rfl rfl⟩
def qoR:SpD:=fun ds R=>match ds with | [.lst xs]=>R (.int xs.length) | [.tup xs]=>R (.int xs.length) | [.fzl xs]=>R (.int xs.length) | [.str z]=>z.length≤sizeLine∧R (.int z.length) | _=>False
theorem qcg:CallD K X (.builtin "len") qoR:=⟨fun hK pins s σ H xs us Q I rr hq0=>by
  obtain ⟨Φ,ds,R,sm,hl,h,k⟩:=hq0
  match ds,h with
  | [.lst xs],h =>
    obtain ⟨v,rfl,r⟩:=qbE hl
    obtain ⟨a,vs,rfl,q1,q2⟩:=r.lst sm
    exact qcf pins s σ H _ us Q I rr ⟨a,vs,rfl,.inl (.of q1),by rw [q2.1];exact k _ Φ H _ h (.refl sm) (.int _)⟩
  | [.tup xs],h =>
    obtain ⟨v,rfl,r⟩:=qbE hl
    obtain ⟨a,vs,rfl,q1,_,q2⟩:=r.tup sm
    exact qcf pins s σ H _ us Q I rr ⟨a,vs,rfl,.inr (hK ▸ q1),by rw [q2.1];exact k _ Φ H _ h (.refl sm) (.int _)⟩
  | [.fzl xs],h =>
    obtain ⟨v,rfl,r⟩:=qbE hl
    obtain ⟨a,vs,rfl,q1,q2⟩:=r.fzl sm
    exact qcf pins s σ H _ us Q I rr ⟨a,vs,rfl,.inl (hK ▸ q1),by rw [q2.1];exact k _ Φ H _ h (.refl sm) (.int _)⟩
  | [.str z],h =>
    obtain ⟨v,rfl,r⟩:=qbE hl
    cases r.str
    exact qfb pins s σ H _ us Q I rr ⟨z,rfl,h.1,k _ Φ H _ h.2 (.refl sm) (.int _)⟩⟩
def qpi:SpD:=fun ds R=>match ds with | [.int i]=>R (.int (if i<0 then -i else i)) | _=>False
theorem qlo:CallD K X (.builtin "abs") qpi:=⟨fun hK pins s σ H xs us Q I rr hq0=>by
  obtain ⟨Φ,ds,R,sm,hl,h,k⟩:=hq0
  match ds,h with
  | [.int i],h =>
    obtain ⟨v,rfl,r⟩:=qbE hl
    cases r.int
    exact qi1 pins s σ H _ us Q I rr ⟨i,rfl,k _ Φ H _ h (.refl sm) (.int _)⟩⟩
def qnW:SpD:=fun ds R=>match ds with | [.int i,.int j]=>R (.int (if j>i then j else i)) | _=>False
theorem qki (hc:X.calm=true):CallD K X (.builtin "max") qnW:=⟨fun hK pins s σ H xs us Q I rr hq0=>by
  obtain ⟨Φ,ds,R,sm,hl,h,k⟩:=hq0
  match ds,h with
  | [.int i,.int j],h =>
    obtain ⟨v,w,rfl,r1,r2⟩:=qmC hl
    cases r1.int
    cases r2.int
    exact qiC hc pins s σ H _ us Q I rr ⟨i,j,rfl,k _ Φ H _ h (.refl sm) (.int _)⟩⟩
theorem qlD {Φ:Hp} {ns:List Int} {vs:List V} (h:RpL K Φ (ns.map D.int) vs):vs=ns.map V.int:=by
  refine List.ext_getElem? fun i=>?_
  rw [List.getElem?_map]
  cases e:ns[i]? with
  | none =>
    have:=List.getElem?_eq_none_iff.mp e
    rw [List.getElem?_eq_none (by rw [h.1,List.length_map];exact this)]
    rfl
  | some n =>
    obtain ⟨v,hv,r⟩:=h.at (i:=i) (d:=.int n) (by rw [List.getElem?_map,e];rfl)
    cases r
    rw [hv]
    rfl
theorem qgL {Φ:Hp} {bs:List Bool} {vs:List V} (h:RpL K Φ (bs.map D.bl) vs):vs=bs.map V.bl:=by
  refine List.ext_getElem? fun i=>?_
  rw [List.getElem?_map]
  cases e:bs[i]? with
  | none =>
    have:=List.getElem?_eq_none_iff.mp e
    rw [List.getElem?_eq_none (by rw [h.1,List.length_map];exact this)]
    rfl
  | some n =>
    obtain ⟨v,hv,r⟩:=h.at (i:=i) (d:=.bl n) (by rw [List.getElem?_map,e];rfl)
    cases r
    rw [hv]
    rfl
theorem RpQ.sqb {Φ H:Hp} {d:D} {v:V} {ds:List D} (s:Same Φ H) (h:RpQ K Φ H d v) (e:qiG d=some ds):∃ (q:Bool) (a:Addr) (vs:List V),v=.ref a∧SqB K q H a vs∧RpL K Φ ds vs:=by
  obtain ⟨a,vs,e1,h1,h2⟩:=h.seq s e
  rcases h1 with h1 | h1
  · exact ⟨true,a,vs,e1,h1,h2⟩
  · exact ⟨false,a,vs,e1,h1,h2⟩
def qpg:SpD:=fun ds R=>match ds with | [d]=>∃ ns:List Int,qiG d=some (ns.map D.int)∧R (.int ns.sum) | _=>False
theorem qlJ (hc:X.calm=true):CallD K X (.builtin "sum") qpg:=⟨fun hK pins s σ H xs us Q I rr hq0=>by
  obtain ⟨Φ,ds,R,sm,hl,h,k⟩:=hq0
  match ds,h with
  | [d],⟨ns,e,h⟩ =>
    obtain ⟨v,rfl,r⟩:=qbE hl
    obtain ⟨q,a,vs,rfl,q1,q2⟩:=r.sqb sm e
    rw [qlD q2] at q1
    exact qiP q hc pins s σ H _ us Q I rr ⟨a,ns,rfl,hK ▸ q1,k _ Φ H _ h (.refl sm) (.int _)⟩⟩
def qox (f:List Bool→Bool):SpD:=fun ds R=>match ds with | [d]=>∃ bs:List Bool,qiG d=some (bs.map D.bl)∧R (.bl (f bs)) | _=>False
theorem qnT (hc:X.calm=true):CallD K X (.builtin "all") (qox fun bs=>bs.all id):=⟨fun hK pins s σ H xs us Q I rr hq0=>by
  obtain ⟨Φ,ds,R,sm,hl,h,k⟩:=hq0
  match ds,h with
  | [d],⟨ns,e,h⟩ =>
    obtain ⟨v,rfl,r⟩:=qbE hl
    obtain ⟨q,a,vs,rfl,q1,q2⟩:=r.sqb sm e
    rw [qgL q2] at q1
    exact qiH q hc pins s σ H _ us Q I rr ⟨a,ns,rfl,hK ▸ q1,k _ Φ H _ h (.refl sm) (.bl _)⟩⟩
theorem qnk (hc:X.calm=true):CallD K X (.builtin "any") (qox fun bs=>bs.any id):=⟨fun hK pins s σ H xs us Q I rr hq0=>by
  obtain ⟨Φ,ds,R,sm,hl,h,k⟩:=hq0
  match ds,h with
  | [d],⟨ns,e,h⟩ =>
    obtain ⟨v,rfl,r⟩:=qbE hl
    obtain ⟨q,a,vs,rfl,q1,q2⟩:=r.sqb sm e
    rw [qgL q2] at q1
    exact qjB q hc pins s σ H _ us Q I rr ⟨a,ns,rfl,hK ▸ q1,k _ Φ H _ h (.refl sm) (.bl _)⟩⟩
def qmD:SpD:=fun ds R=>match ds with | [.lst xs]=>R (.tup xs) | [.tup xs]=>R (.tup xs) | [.fzl xs]=>R (.tup xs) | _=>False
theorem qaP:CallD K X (.type "tuple") qmD:=⟨fun hK pins s σ H xs us Q I rr hq0=>by
  obtain ⟨Φ,ds,R,sm,hl,h,k⟩:=hq0
  match ds,h with
  | [.lst xs],h =>
    obtain ⟨v,rfl,r⟩:=qbE hl
    obtain ⟨a,vs,rfl,q1,q2⟩:=r.lst sm
    exact qbY pins s σ H _ us Q I rr ⟨a,vs,rfl,.inl ⟨.of q1,fun p hp=>k _ _ _ _ h (.new sm hp _) ((q2.same (qaG (sm.free hp) _)).tup (.of qan))⟩⟩
  | [.fzl xs],h =>
    obtain ⟨v,rfl,r⟩:=qbE hl
    obtain ⟨a,vs,rfl,q1,q2⟩:=r.fzl sm
    exact qbY pins s σ H _ us Q I rr ⟨a,vs,rfl,.inl ⟨hK ▸ q1,fun p hp=>k _ _ _ _ h (.new sm hp _) ((q2.same (qaG (sm.free hp) _)).tup (.of qan))⟩⟩
  | [.tup xs],h =>
    obtain ⟨v,rfl,r⟩:=qbE hl
    obtain ⟨a,vs,rfl,q1,q3,q2⟩:=r.tup sm
    exact qbY pins s σ H _ us Q I rr ⟨a,vs,rfl,.inr ⟨hK ▸ q1,k _ Φ H _ h (.refl sm) (q2.tup q3)⟩⟩⟩
def qoh (t:TD):TDL:=fun ρ R=>t ρ fun d=>∃ ds,qiG d=some ds∧R ds
theorem qkg (hg:Gl X "list") (hm:X.mg "list"=none) (ha:PQ K X e t) (he:starEach [e] X.env=(false,eval e X.env)::starEach [] X.env):PF K X (.Call (.Name "list" p) [e] [] pos) (qoh t) :=
  ⟨fun hK=>(qdA qe7 hg hm boot_list (qb5 (ha.pe hK) pa_nil he) (by decide) (by decide) he qad).imp fun σ H Q hq0=>by obtain ⟨H0,Φ,ρ,R,E,t,k⟩:=hq0;exact ⟨H0,Φ,ρ,_,E,t,fun d Φ1 H1 v r g rv=>by
    obtain ⟨ds,e1,r⟩:=r
    obtain ⟨a,vs,rfl,q1,q2⟩:=rv.seq g.s e1
    exact ⟨a,vs,rfl,hK ▸ q1,fun l hl=>k _ _ _ l _ r (g.trans (.fresh g.s hl _)) (g.h.free hl) (g.s.free hl) qan q2⟩⟩⟩
def qpn:SpD:=fun ds R=>match ds with | [.int i]=>R (.int i) | [.bl b]=>R (.int (if b then 1 else 0)) | _=>False
theorem qmP:CallD K X (.type "int") qpn:=⟨fun hK pins s σ H xs us Q I rr hq0=>by
  obtain ⟨Φ,ds,R,sm,hl,h,k⟩:=hq0
  match ds,h with
  | [.int i],h =>
    obtain ⟨v,rfl,r⟩:=qbE hl
    cases r.int
    exact qe9 pins s σ H _ us Q I rr (.inl ⟨i,rfl,k _ Φ H _ h (.refl sm) (.int _)⟩)
  | [.bl b],h =>
    obtain ⟨v,rfl,r⟩:=qbE hl
    cases r.bl
    exact qe9 pins s σ H _ us Q I rr (.inr ⟨b,rfl,k _ Φ H _ h (.refl sm) (.int _)⟩)⟩
def qmv (d:D) (T:String):Option Bool:=match d with
  | .int _=>if T="int" then some true else if T="bool" then some false else if T="tuple" then some false else if T="str" then some false else none
  | .bl _=>if T="int" then some true else if T="bool" then some true else if T="tuple" then some false else none
  | .str _=>if T="str" then some true else if T="tuple" then some false else none
  | .tup _=>if T="tuple" then some true else if T="int" then some false else none
  | .lst _=>if T="tuple" then some false else if T="list" then some true else none
  | _=>none
end
structure SteadyD (K:PySem.W.Frag) (J:It) (Φ:Hp) (ds:List D):Prop where
  go:∀ i H,Same Φ H→i<ds.length→J.go i H
  yl:∀ i Φ2 H x H2 d,Same Φ Φ2→Same Φ2 H→ds[i]?=some d→J.yld i H x H2→∃ Φ3,Gr Φ2 H Φ3 H2∧Rp K Φ3 d x
  stop:∀ H,Same Φ H→J.stop ds.length H
section
variable {K : PySem.W.Frag} {Φ : Hp} {ds es : List D} {vs ws : List V} {a : Addr}
theorem qe4 (h:SqL K Φ a vs) (r:RpL K Φ ds vs):SteadyD K (Itl K a) Φ ds :=
  ⟨fun i H s hi=>⟨vs,vs[i]'(by rw [r.1];exact hi),s.seq h,qaA _⟩,fun i Φ2 H x H2 d s2 s hd y=>by
    obtain ⟨e,y⟩:=y
    subst e
    exact ⟨Φ2,.refl s,(r.2 i x d (y vs ((s2.trans s).seq h)) hd).same s2⟩,fun H s=>⟨vs,s.seq h,by rw [r.1];exact Nat.le_refl _⟩⟩
theorem qfX (h:SqT K Φ a vs) (r:RpL K Φ ds vs):SteadyD K (Itt K a) Φ ds :=
  ⟨fun i H s hi=>⟨vs,vs[i]'(by rw [r.1];exact hi),s.sqt h,qaA _⟩,fun i Φ2 H x H2 d s2 s hd y=>by
    obtain ⟨e,y⟩:=y
    subst e
    exact ⟨Φ2,.refl s,(r.2 i x d (y vs ((s2.trans s).sqt h)) hd).same s2⟩,fun H s=>⟨vs,s.sqt h,by rw [r.1];exact Nat.le_refl _⟩⟩
def qbz (lo:Int) (n:Nat):List D:=(List.range n).map fun i=>D.int (lo+(i:Nat))
theorem qaZ (lo:Int) (n:Nat):(qbz lo n).length=n:=by unfold qbz;simp
theorem qbu {lo:Int} {n i:Nat} {d:D} (h:(qbz lo n)[i]?=some d):i<n∧d=.int (lo+(i:Nat)):=by
  have hi:i<n:=by have:=qaF h;rwa [qaZ] at this
  unfold qbz at h
  rw [List.getElem?_map,List.getElem?_range hi] at h
  cases h
  exact ⟨hi,rfl⟩
theorem qeu {lo:Int} {n:Nat}:SteadyD K (Itr lo n) Φ (qbz lo n) :=
  ⟨fun i H s hi=>by rw [qaZ] at hi;exact hi,fun i Φ2 H x H2 d s2 s hd y=>by
    obtain ⟨e,y⟩:=y
    subst e y
    rw [(qbu hd).2]
    exact ⟨Φ2,.refl s,.int _⟩,fun H s=>by rw [qaZ];exact Nat.le_refl n⟩
def qeV (ds:List D):List D:=ds.zipIdx.map fun p=>.tup [.int (p.2:Nat),p.1]
theorem qbR (ds:List D):(qeV ds).length=ds.length:=by unfold qeV;simp
theorem qdf {i:Nat} {d:D} (h:(qeV ds)[i]?=some d):∃ e,ds[i]?=some e∧d=.tup [.int (i:Nat),e]:=by
  unfold qeV at h
  rw [List.getElem?_map,List.getElem?_zipIdx] at h
  cases e:ds[i]? with
  | none=>rw [e] at h;cases h
  | some x=>rw [e] at h;cases h;exact ⟨x,rfl,by simp⟩
theorem Rp.pair {H:Hp} {t:Addr} {d e:D} {x y:V} (h:H t=some (.tup [x,y])) (r1:Rp K H d x) (r2:Rp K H e y):Rp K H (.tup [d,e]) (.ref t):=(RpL.cons r1 (.one r2)).tup (.of h)
theorem qfr {b:Bool} (h:SqB K b Φ a vs) (r:RpL K Φ ds vs):SteadyD K (Ite K b a) Φ (qeV ds) :=
  ⟨fun i H s hi=>by rw [qbR] at hi;exact ⟨vs,vs[i]'(by rw [r.1];exact hi),SqB.same s h,qaA _⟩,fun i Φ2 H x H2 d s2 s hd y=>by
    obtain ⟨t,v,hn,e,e',y⟩:=y
    subst e e'
    obtain ⟨e,he,rfl⟩:=qdf hd
    have rv:=(r.2 i v e (y vs (SqB.same (s2.trans s) h)) he).same (s2.trans (qaG (s.free hn) (.tup [.int i,v])))
    exact ⟨_,.new s hn _,.pair qan (.int _) rv⟩,fun H s=>by rw [qbR];exact ⟨vs,SqB.same s h,by rw [r.1];exact Nat.le_refl _⟩⟩
def qiw (ds es:List D):List D:=List.zipWith (fun x y=>.tup [x,y]) ds es
theorem qgN (ds es:List D):(qiw ds es).length=min ds.length es.length:=by unfold qiw;simp
theorem qk0 {i:Nat} {d:D} (h:(qiw ds es)[i]?=some d):∃ x y,ds[i]?=some x∧es[i]?=some y∧d=.tup [x,y]:=by
  unfold qiw at h
  rw [List.getElem?_zipWith] at h
  cases e:ds[i]? with
  | none=>rw [e] at h;cases h
  | some x =>
    cases e2:es[i]? with
    | none=>rw [e,e2] at h;cases h
    | some y=>rw [e,e2] at h;cases h;exact ⟨x,y,rfl,rfl,rfl⟩
theorem qf2 {b1 b2:Bool} {a1 a2:Addr} (h1:SqB K b1 Φ a1 vs) (h2:SqB K b2 Φ a2 ws) (r1:RpL K Φ ds vs) (r2:RpL K Φ es ws):SteadyD K (Itz K b1 a1 b2 a2) Φ (qiw ds es) :=
  ⟨fun i H s hi=>by
    rw [qgN] at hi
    have i1:i<vs.length:=by rw [r1.1];omega
    have i2:i<ws.length:=by rw [r2.1];omega
    exact ⟨vs,ws,vs[i],ws[i],SqB.same s h1,SqB.same s h2,qaA i1,qaA i2⟩,fun i Φ2 H x H2 d s2 s hd y=>by
    obtain ⟨t,u,v,hn,e,e',y1,y2⟩:=y
    subst e e'
    obtain ⟨p,q,hp,hq,rfl⟩:=qk0 hd
    have sn:=s2.trans (qaG (s.free hn) (.tup [u,v]))
    exact ⟨_,.new s hn _,.pair qan ((r1.2 i u p (y1 vs (SqB.same (s2.trans s) h1)) hp).same sn) ((r2.2 i v q (y2 ws (SqB.same (s2.trans s) h2)) hq).same sn)⟩,fun H s=>by
    rw [qgN]
    exact ⟨vs,ws,SqB.same s h1,SqB.same s h2,by rw [r1.1,r2.1];omega⟩⟩
end
def lI (K:PySem.W.Frag) (t:TDL):TI:=fun σ H R'=>∃ H0 Φ ρ R,EnvD K H0 Φ H σ ρ∧t ρ R∧∀ ds Φ' H' J,R ds→Gr Φ H Φ' H'→SteadyD K J Φ' ds→R' J H'
structure PID (K:PySem.W.Frag) (X:Cx) (tg e:Expr) (t:TDL):Prop where pi:X.K=K→PI X tg e (lI K t)
theorem PI.imp {X:Cx} {tg e:Expr} {t t':TI} (h:PI X tg e t) (k:∀ σ H R,t' σ H R→t σ H R):PI X tg e t':=fun pins s σ H R I hw=>h pins s σ H R I (k σ H R hw)
section
variable {K : PySem.W.Frag} {X : Cx} {tg e a b : Expr} {es : List Expr} {pos p tp : Pos} {t ta tb : TD} {tl : TDL}
theorem qiK {es:List Expr} {k:Nat} {t:TGs} {n:Nat} (hK:X.K=K) (hc:X.calm=true) (h:PGs X es t) (hn:(assignEach es X.env).length=n) (hst:(assignEach es X.env).findIdx? (·.1)=none):PG X (.Tuple es k pos) (qou K n t):=hK ▸ qng hc h hn hst
theorem qiY {es:List Expr} {k:Nat} {t:TGs} {n:Nat} (hK:X.K=K) (hc:X.calm=true) (h:PGs X es t) (hn:(assignEach es X.env).length=n) (hst:(assignEach es X.env).findIdx? (·.1)=none):PG X (.Tuple es k pos) (qom K n t):=hK ▸ qmI hc h hn hst
def qlv (t:TDL):TDL:=fun ρ R=>t ρ fun ds=>match ds with | [.int j]=>(-(2 ^ 62)≤j∧j<2 ^ 62)∧R (qbz 0 j.toNat) | _=>False
theorem RpL.one_inv {Φ:Hp} {d:D} {vs:List V} (h:RpL K Φ [d] vs):∃ v,vs=[v]∧Rp K Φ d v:=by
  obtain ⟨h1,h2⟩:=h
  match vs,h1,h2 with
  | [v],_,h2=>exact ⟨v,rfl,h2 0 v d rfl rfl⟩
theorem RpL.two_inv {Φ:Hp} {d e:D} {vs:List V} (h:RpL K Φ [d,e] vs):∃ v w,vs=[v,w]∧Rp K Φ d v∧Rp K Φ e w:=by
  obtain ⟨h1,h2⟩:=h
  match vs,h1,h2 with
  | [v,w],_,h2=>exact ⟨v,w,rfl,h2 0 v d rfl rfl,h2 1 w e rfl rfl⟩
theorem qa2 (hg:Gl X "range") (hm:X.mg "range"=none) (ha:PAD K X [a] tl) (hs:starEach [a] X.env=[(false,eval a X.env)]:=by rfl):PID K X tg (.Call (.Name "range" p) [a] [] pos) (qlv tl) :=
  ⟨fun hK=>(qhJ hg hm (ha.pa hK) hs).imp fun σ H R' hq0=>by obtain ⟨H0,Φ,ρ,R,E,t,k⟩:=hq0;exact ⟨H0,Φ,ρ,_,E,t,fun ds Φ1 H1 vs r g rv _=>by
    match ds,r with
    | [.int j],r =>
      obtain ⟨v,rfl,r1⟩:=rv.one_inv
      cases r1
      exact ⟨j,rfl,r.1.1,r.1.2,k _ Φ1 H1 _ r.2 g qeu⟩⟩⟩
end
abbrev TGD:=D→Rho→(Rho→Prop)→Prop
abbrev qhf:=List D→Rho→(Rho→Prop)→Prop
def lG (K:PySem.W.Frag) (g:TGD):TG:=fun v σ H Q=>∃ H0 Φ ρ d R,EnvD K H0 Φ H σ ρ∧Rp K Φ d v∧g d ρ R∧∀ ρ' σ',R ρ'→EnvD K H0 Φ H σ' ρ'→Q σ' H
def lGs (K:PySem.W.Frag) (g:qhf):TGs:=fun vs σ H Q=>∃ H0 Φ ρ ds R,EnvD K H0 Φ H σ ρ∧RpL K Φ ds vs∧g ds ρ R∧∀ ρ' σ',R ρ'→EnvD K H0 Φ H σ' ρ'→Q σ' H
structure PGD (K:PySem.W.Frag) (X:Cx) (e:Expr) (g:TGD):Prop where pg:X.K=K→PG X e (lG K g)
structure PGDs (K:PySem.W.Frag) (X:Cx) (es:List Expr) (g:qhf):Prop where pg:X.K=K→PGs X es (lGs K g)
theorem PG.imp {X:Cx} {e:Expr} {t t':TG} (h:PG X e t) (k:∀ v σ H Q,t' v σ H Q→t v σ H Q):PG X e t':=fun pins s σ H v u Q I r hw=>h pins s σ H v u Q I r (k v σ H Q hw)
theorem PGs.imp {X:Cx} {e:List Expr} {t t':TGs} (h:PGs X e t) (k:∀ v σ H Q,t' v σ H Q→t v σ H Q):PGs X e t':=fun pins s σ H v u Q I r hw=>h pins s σ H v u Q I r (k v σ H Q hw)
section
variable {K : PySem.W.Frag} {X : Cx} {e : Expr} {es : List Expr} {pos : Pos} {g : TGD} {gs : qhf}
def qnK (i:Nat):TGD:=fun d ρ R=>R (ρ.set i (some (.v d)))
theorem qar {i:Nat} {x:Str} (hN:X.N.Nodup) (hi:X.N[i]?=some x) (hx:Loc X.env.scope x) (hf:X.fn x=true∨X.env.scope.names.lookup x=some .local:=by first | exact .inl rfl | exact .inr rfl | assumption):PGD K X (.Name x pos) (qnK i) :=
  ⟨fun _=>(qli hN hi hx hf).imp fun v σ H Q hq0=>by obtain ⟨H0,Φ,ρ,d,R,E,r,g,k⟩:=hq0;exact k _ _ g (E.set r i)⟩
def qlc:qhf:=fun ds ρ R=>match ds with | []=>R ρ | _=>False
def qgz (t:TGD) (u:qhf):qhf:=fun ds ρ R=>match ds with | d::r=>t d ρ fun ρ'=>u r ρ' R | []=>False
theorem qbO:PGDs K X [] qlc:=⟨fun _=>pgs_nil.imp fun v σ H Q hq0=>by
  obtain ⟨H0,Φ,ρ,ds,R,E,r,g,k⟩:=hq0
  cases ds with
  | nil=>exact ⟨List.length_eq_zero_iff.mp r.1,k _ _ g E⟩
  | cons=>exact g.elim⟩
theorem qaJ (h1:PGD K X e g) (h2:PGDs K X es gs) (hs:(assignEach (e::es) X.env).map (·.2)=assign e X.env::(assignEach es X.env).map (·.2):=by rfl):PGDs K X (e::es) (qgz g gs) :=
  ⟨fun hK=>(qiV (h1.pg hK) (h2.pg hK) hs).imp fun vs σ H Q hq0=>by
    obtain ⟨H0,Φ,ρ,ds,R,E,r,g,k⟩:=hq0
    cases ds with
    | nil=>exact g.elim
    | cons d ds =>
      cases vs with
      | nil=>exact absurd r.1 (by simp)
      | cons v vs =>
        refine ⟨v,vs,rfl,H0,Φ,ρ,d,_,E,r.2 0 v d rfl rfl,g,fun ρ' σ' g' E'=>⟨H0,Φ,ρ',ds,R,E',⟨by have:=r.1;simpa using this,fun i u f hu hf=>r.2 (i+1) u f hu hf⟩,g',k⟩⟩⟩
end
def qfN (cap:List (Option Nat)) (ρ:Rho):Rho:=cap.map fun o=>o.bind fun i=>(ρ[i]?).join
theorem qih {α:Type} {o:Option (Option α)} {x:α} (h:o.join=some x):o=some (some x):=by
  cases o with
  | none=>cases h
  | some o=>cases o with
    | none=>cases h
    | some y=>cases h;rfl
theorem qel {α:Type} {cap:List (Option Nat)} {l:List (Option α)} {i:Nat} {x:α} (h:(cap.map fun o=>o.bind fun i=>(l[i]?).join)[i]?=some (some x)):∃ j,cap[i]?=some (some j)∧l[j]?=some (some x):=by
  rw [List.getElem?_map] at h
  cases e:cap[i]? with
  | none=>rw [e] at h;cases h
  | some o =>
    rw [e] at h
    cases o with
    | none=>cases h
    | some j=>exact ⟨j,rfl,qih (by simpa using h)⟩
theorem EnvD.cap {K:PySem.W.Frag} {H0 Φ H:Hp} {σ:St} {ρ:Rho} {cap:List (Option Nat)} (E:EnvD K H0 Φ H σ ρ) (inj:∀ i j k:Nat,cap[i]?=some (some k)→cap[j]?=some (some k)→i=j):EnvD K H0 Φ H (qb4 cap σ) (qfN cap ρ):=by
  have st:∀ {i j:Nat} {v:V},cap[i]?=some (some j)→σ[j]?=some (some v)→(qb4 cap σ)[i]?=some (some v):=fun hc hs=>by
    unfold qb4
    rw [List.getElem?_map,hc]
    simp [hs]
  have ts:∀ {i j:Nat} {v:V},cap[i]?=some (some j)→(qb4 cap σ)[i]?=some (some v)→σ[j]?=some (some v):=fun hc hs=>by
    obtain ⟨j',h1,h2⟩:=qel hs
    rw [hc] at h1
    cases h1
    exact h2
  refine ⟨E.fz,by unfold qb4 qfN;simp,fun i d h=>?_,fun i ds h=>?_,fun i j ds es p hi hj si sj=>?_,E.tb⟩
  · obtain ⟨j,h1,h2⟩:=qel h
    obtain ⟨v,e,r⟩:=E.sl j d h2
    exact ⟨v,st h1 e,r⟩
  · obtain ⟨j,h1,h2⟩:=qel h
    obtain ⟨p,vs,e,q⟩:=E.ow j ds h2
    exact ⟨p,vs,st h1 e,q⟩
  · obtain ⟨i',h1,h2⟩:=qel hi
    obtain ⟨j',h3,h4⟩:=qel hj
    have:=E.ne i' j' ds es p h2 h4 (ts h1 si) (ts h3 sj)
    subst this
    exact inj i j i' h1 h3
structure GK (k:Nat) (g:TGD):Prop where p:∀ d ρ R,g d ρ R→g d ρ fun ρ1=>ρ1.length=ρ.length∧ρ1.drop k=ρ.drop k∧R ρ1
structure GKs (k:Nat) (g:qhf):Prop where p:∀ ds ρ R,g ds ρ R→g ds ρ fun ρ1=>ρ1.length=ρ.length∧ρ1.drop k=ρ.drop k∧R ρ1
theorem qlY {k i:Nat} (h:i<k):GK k (qnK i):=⟨fun d ρ R r=>⟨by simp,by rw [List.drop_set_of_lt h],r⟩⟩
theorem qme {k:Nat}:GKs k qlc:=⟨fun ds ρ R r=>by
  cases ds with
  | nil=>exact ⟨rfl,rfl,r⟩
  | cons=>exact r⟩
theorem qf8 {t:TGD} {u:qhf} (ht:∀ d ρ R R',(∀ x,R x→R' x)→t d ρ R→t d ρ R') (hu:∀ d ρ R R',(∀ x,R x→R' x)→u d ρ R→u d ρ R'):∀ d ρ R R',(∀ x,R x→R' x)→qgz t u d ρ R→qgz t u d ρ R':=by
  intro ds ρ R R' h r
  cases ds with
  | nil=>exact r
  | cons d ds=>exact ht d ρ _ _ (fun x hx=>hu ds x _ _ h hx) r
structure GM (k:Nat) (g:TGD):Prop where
  k:GK k g
  m:∀ d ρ R R',(∀ x,R x→R' x)→g d ρ R→g d ρ R'
structure GMs (k:Nat) (g:qhf):Prop where
  k:GKs k g
  m:∀ d ρ R R',(∀ x,R x→R' x)→g d ρ R→g d ρ R'
theorem qaC {k i:Nat} (h:i<k):GM k (qnK i):=⟨qlY h,fun d ρ R R' h r=>h _ r⟩
theorem qc2 {k:Nat}:GMs k qlc:=⟨qme,fun ds ρ R R' h r=>by
  cases ds with
  | nil=>exact h _ r
  | cons=>exact r⟩
theorem qa4 {k:Nat} {t:TGD} {u:qhf} (h1:GM k t) (h2:GMs k u):GMs k (qgz t u):=⟨⟨fun ds ρ R r=>by
  cases ds with
  | nil=>exact r
  | cons d ds =>
    have r1:t d ρ fun ρ'=>u ds ρ' R:=r
    refine h1.m _ _ _ _ (fun ρ1 q=>?_) (h1.k.p d ρ _ r1)
    exact h2.m _ _ _ _ (fun ρ2 q2=>⟨q2.1.trans q.1,q2.2.1.trans q.2.1,q2.2.2⟩) (h2.k.p ds ρ1 R q.2.2)⟩,qf8 h1.m h2.m⟩
def qkU:TDB:=fun _ R=>R true
structure PIfD (K:PySem.W.Frag) (X:Cx) (ifs:List Expr) (t:TDB):Prop where p:X.K=K→qlO X ifs (lT K t)
theorem qic {K:PySem.W.Frag} {X:Cx}:PIfD K X [] qkU:=⟨fun _ pins s σ H Q I hq0=>by obtain ⟨H0,Φ,ρ,R,E,t,k⟩:=hq0;exact qiS pins s σ H Q I (k true Φ H t (.refl E.fz))⟩
theorem qhF {K:PySem.W.Frag} {X:Cx} {c:Expr} {t:TDB} (h:PTD K X c t):PIfD K X [c] t:=⟨fun hK=>qjC (h.pt hK)⟩
theorem EnvD.side {K:PySem.W.Frag} {H0 Φ H:Hp} {σ:St} {ρ:Rho} {p:Addr} {o u:HO} (E:EnvD K H0 Φ H σ ρ) (h0:H0 p=some u) (hn:Φ p=none):EnvD K H0 Φ (upd H p o) σ ρ :=
  ⟨fun b w e=>by rw [qau (qat e hn)];exact E.fz b w e,E.len,E.sl,fun i ds h=>by
    obtain ⟨q,vs,e,q0,qn,qp,qr⟩:=E.ow i ds h
    exact ⟨q,vs,e,q0,qn,by rw [qau fun z=>by rw [z,h0] at q0;cases q0];exact qp,qr⟩,E.ne,E.tb⟩
theorem EnvD.base {K:PySem.W.Frag} {H0 Φ H:Hp} {σ:St} {ρ:Rho} {p:Addr} {u:HO} (E:EnvD K H0 Φ H σ ρ) (hp:H p=none):EnvD K (upd H0 p u) Φ H σ ρ :=
  ⟨E.fz,E.len,E.sl,fun i ds h=>by
    obtain ⟨q,vs,e,q0,qn,qp,qr⟩:=E.ow i ds h
    exact ⟨q,vs,e,by rw [qau (qat qp hp)];exact q0,qn,qp,qr⟩,E.ne,E.tb⟩
def qkZ (ti:TDL) (cap:List (Option Nat)) (g:TGD) (tc:TDB) (te:TD):TDL:=fun ρ R=>ti ρ fun ds=>ds.length<sizeLine∧∃ P:Nat→Option D→Prop,
  (∀ i d,ds[i]?=some d→g d (qfN cap ρ) fun ρ1=>tc ρ1 fun b=>(b=true→te ρ1 fun y=>P i (some y))∧(b=false→P i none))∧∀ ys:List (Option D),ys.length=ds.length→(∀ i y,ys[i]?=some y→P i y)→R (ys.filterMap id)
theorem qkC (ys:List (Option D)) (y:D):(ys++[some y]).filterMap id=ys.filterMap id++[y]:=by simp
theorem qjw (ys:List (Option D)):(ys++[none]).filterMap id=ys.filterMap id:=by simp
theorem qnn (ys:List (Option D)):(ys.filterMap id).length≤ys.length:=List.length_filterMap_le _ _
theorem qgE {α:Type} {ys:List α} {y:α} {P:Nat→α→Prop} {n:Nat} (hl:ys.length=n) (h:∀ i z,ys[i]?=some z→P i z) (hy:P n y):∀ i z,(ys++[y])[i]?=some z→P i z:=by
  intro i z hz
  rcases Nat.lt_or_ge i ys.length with c | c
  · rw [List.getElem?_append_left c] at hz
    exact h i z hz
  · rw [List.getElem?_append_right c] at hz
    have h0:i - ys.length=0:=by
      rcases Nat.eq_zero_or_pos (i - ys.length) with e | e
      · exact e
      · rw [List.getElem?_eq_none (by simp only [List.length_cons,List.length_nil];omega)] at hz;cases hz
    rw [h0] at hz
    cases hz
    have:i=n:=by omega
    subst this
    exact hy
def qcR (k:Nat) (cap:List (Option Nat)):Bool:=(cap.take k).all (·.isNone) && decide ((cap.filterMap id).Nodup)
theorem qhV {k:Nat} {cap:List (Option Nat)} (h:qcR k cap=true) {i:Nat} (hi:i<k) {o:Option Nat} (e:cap[i]?=some o):o=none:=by
  unfold qcR at h
  rw [Bool.and_eq_true] at h
  have:=List.all_eq_true.mp h.1 o (List.mem_of_getElem? (i:=i) (by rw [List.getElem?_take_of_lt hi];exact e))
  cases o with
  | none=>rfl
  | some _=>cases this
theorem qfv {k:Nat} {cap:List (Option Nat)} (h:qcR k cap=true):∀ i j n:Nat,cap[i]?=some (some n)→cap[j]?=some (some n)→i=j:=by
  unfold qcR at h
  rw [Bool.and_eq_true] at h
  have nd:=of_decide_eq_true h.2
  clear h
  induction cap with
  | nil=>intro i j n hi;simp at hi
  | cons o cap ih =>
    intro i j n hi hj
    have nd':(cap.filterMap id).Nodup:=by
      cases o with
      | none=>simpa using nd
      | some m => have e : (some m :: cap).filterMap id = m :: cap.filterMap id := rfl
                  rw [e] at nd;exact (List.nodup_cons.mp nd).2
    have one:∀ {i:Nat},o=some n→cap[i]?=some (some n)→False:=fun {i} ho hi'=>by
      subst ho
      have e:(some n::cap).filterMap id=n::cap.filterMap id:=rfl
      rw [e] at nd
      exact (List.nodup_cons.mp nd).1 (List.mem_filterMap.mpr ⟨some n,List.mem_of_getElem? hi',rfl⟩)
    cases i with
    | zero=>cases j with
      | zero=>rfl
      | succ j=>exact (one (by simpa using hi) (by simpa using hj)).elim
    | succ i=>cases j with
      | zero=>exact (one (by simpa using hj) (by simpa using hi)).elim
      | succ j=>exact congrArg Nat.succ (ih nd' i j n (by simpa using hi) (by simpa using hj))
section
variable {K : PySem.W.Frag} {X : Cx} {tg iter elt : Expr} {ifs : List Expr} {scope : Scope} {pos : Pos} {N' : List Str} {cap : List (Option Nat)} {ti : TDL} {g : TGD} {tc : TDB} {te : TD}
theorem qe5 {k:Nat} (hcap:qcR k cap=true) (hk:GM k g) {σ:St} {H:Hp} {Q:VK} {H0 Φ:Hp} {ρ:Rho} {R W:List D→Prop} (E:EnvD K H0 Φ H σ ρ) (t:ti ρ W)
    (conv:∀ ds,W ds→ds.length<sizeLine∧∃ P:Nat→Option D→Prop,(∀ i d,ds[i]?=some d→g d (qfN cap ρ) fun ρ1=>tc ρ1 fun b=>(b=true→te ρ1 fun y=>P i (some y))∧(b=false→P i none))∧∀ ys:List (Option D),ys.length=ds.length→(∀ i y,ys[i]?=some y→P i y)→R (ys.filterMap id))
    (kk:∀ ds Φ' H' p vs,R ds→Gr Φ H Φ' H'→H p=none→Φ' p=none→H' p=some (.lst vs)→RpL K Φ' ds vs→Q (.ref p) H'):qeL (lI K ti) cap (lG K g) (lT K tc) (lE K te) σ H Q:=by
  refine ⟨H0,Φ,ρ,W,E,t,fun ds Φ1 H1 J hW g1 S Dd hD=>?_⟩
  obtain ⟨hlen,P,hp,hr⟩:=conv ds hW
  have E1:=E.gr g1
  have hDΦ:Φ1 Dd=none:=g1.s.free hD
  have C0:EnvD K (upd H0 Dd (.lst [])) Φ1 (upd H1 Dd (.lst [])) (qb4 cap σ) (qfN cap ρ):=((E1.base (u:=.lst []) hD).side (o:=.lst []) qan hDΦ).cap (qfv hcap)
  refine ⟨fun i m σ' H'=>m=ds.length - i∧i≤ds.length∧∃ (Φ':Hp) (vs:List V) (ys:List (Option D)),EnvD K (upd H0 Dd (.lst [])) Φ' H' σ' (qfN cap ρ)∧Gr Φ1 H1 Φ' H'∧Φ' Dd=none∧H' Dd=some (.lst vs)∧RpL K Φ' (ys.filterMap id) vs∧ys.length=i∧∀ j y,ys[j]?=some y→P j y,⟨ds.length,by simp,Nat.zero_le _,Φ1,[],[],C0,.fresh g1.s hD _,hDΦ,qan,.nil,rfl,fun j y hj=>by simp at hj⟩,?_⟩
  rintro i m σ' H' ⟨rfl,hi,Φ',vs,ys,Ei,gi,hDi,hDl,hrl,hyl,hy⟩
  by_cases hlt:i<ds.length
  · refine .inr ⟨S.go i H' (gi.f.trans gi.s) hlt,fun σ2 H2=>∃ (Φ':Hp) (vs:List V) (ys:List (Option D)),EnvD K (upd H0 Dd (.lst [])) Φ' H2 σ2 (qfN cap ρ)∧Gr Φ1 H1 Φ' H2∧Φ' Dd=none∧H2 Dd=some (.lst vs)∧RpL K Φ' (ys.filterMap id) vs∧ys.length=i+1∧∀ j y,ys[j]?=some y→P j y,fun σ2 H2 h2=>⟨ds.length - (i+1),by omega,rfl,hlt,h2⟩,fun x H2 y=>?_⟩
    obtain ⟨Φ3,g3,rx⟩:=S.yl i Φ' H' x H2 _ gi.f gi.s (qaA hlt) y
    have E3:=Ei.gr g3
    refine ⟨_,Φ3,qfN cap ρ,_,_,E3,rx,hk.k.p _ _ _ (hp i _ (qaA hlt)),fun ρ1 σ3 hq0 E4=>?_⟩
    obtain ⟨hl1,hd1,t1⟩:=hq0
    have wk:∀ (j:Nat) x,(qfN cap ρ)[j]?=some (some x)→ρ1[j]?=some (some x):=fun j x hj=>by
      rcases Nat.lt_or_ge j k with c | c
      · obtain ⟨n,h1,_⟩:=qel hj
        cases qhV hcap c h1
      · have e1:(qfN cap ρ)[j]?=((qfN cap ρ).drop k)[j - k]?:=by rw [List.getElem?_drop];congr 1;omega
        have e2:ρ1[j]?=(ρ1.drop k)[j - k]?:=by rw [List.getElem?_drop];congr 1;omega
        rw [e2,hd1,← e1]
        exact hj
    have hD3:Φ3 Dd=none:=g3.o _ _ hDl hDi
    refine ⟨_,Φ3,ρ1,_,E4,t1,fun b Φ4 H4 rb g4=>?_⟩
    have E5:=(E4.gr g4)
    have hDl4:=g4.h _ _ (g3.h _ _ hDl)
    have hD4:Φ4 Dd=none:=g4.o _ _ (g3.h _ _ hDl) hD3
    cases b with
    | false =>
      refine qn5 ?_
      refine ⟨Φ4,vs,ys++[none],E5.weak hl1.symm wk,(gi.trans g3).trans g4,hD4,hDl4,?_,by rw [List.length_append,hyl];rfl,qgE hyl hy (rb.2 rfl)⟩
      rw [qjw]
      exact (hrl.same g3.f).same g4.f
    | true =>
      refine qn7 ?_
      refine ⟨_,Φ4,ρ1,_,E5,rb.1 rfl,fun d Φ5 H5 v rd g5 rv=>?_⟩
      have E6:=E5.gr g5
      have hDl5:=g5.h _ _ hDl4
      have hD5:Φ5 Dd=none:=g5.o _ _ hDl4 hD4
      have gg:=((gi.trans g3).trans g4).trans g5
      refine ⟨vs,hDl5,?_,Φ5,vs++[v],ys++[some d],(E6.weak hl1.symm wk).side qan hD5,?_,hD5,qan,?_,by rw [List.length_append,hyl];rfl,qgE hyl hy rd⟩
      · have:=qnn ys
        rw [hrl.1]
        omega
      · exact ⟨gg.f,qgQ gg.h hD _,fun b u e=>by rw [qau (qat e hD5)];exact gg.s b u e,fun p u hp hn k=>gg.o p u hp hn k⟩
      · rw [qkC]
        exact (((hrl.same g3.f).same g4.f).same g5.f).append (.one rv)
  · have e:i=ds.length:=by omega
    subst e
    exact .inl ⟨S.stop H' (gi.f.trans gi.s),kk _ Φ' H' Dd vs (hr ys hyl hy) (g1.trans gi) (g1.h.free hD) hDi hDl hrl⟩
theorem qfL {k:Nat} (hcap:qcR k cap=true) (hk:GM k g) {σ:St} {H:Hp} {Q:VK} (h:lF K (qkZ ti cap g tc te) σ H Q):qeL (lI K ti) cap (lG K g) (lT K tc) (lE K te) σ H Q:=by
  obtain ⟨H0,Φ,ρ,R,E,t,kk⟩:=h
  exact qe5 hcap hk E t (fun ds h=>h) kk
theorem qnl {k:Nat} (hcalm:X.calm=true) (S:CompScope X.N X.env.scope scope N' cap) (hcap:qcR k cap=true) (hk:GM k g) (hi:PID K X tg iter ti)
    (hg:∀ (cl:List (Str × Addr)) (fp:List Addr) (C:Addr) (s0:Shared) (H0:Hp),PGD K (qaR X scope N' cl C s0 H0 fp) tg g) (ht:∀ (cl:List (Str × Addr)) (fp:List Addr) (C:Addr) (s0:Shared) (H0:Hp),PIfD K (qaR X scope N' cl C s0 H0 fp) ifs tc)
    (he:∀ (cl:List (Str × Addr)) (fp:List Addr) (C:Addr) (s0:Shared) (H0:Hp),PD K (qaR X scope N' cl C s0 H0 fp) elt te) (hs:∀ x,foldedSetIterable iter X.env x=pure x:=by intro _;rfl):PF K X (.ListComp elt [⟨tg,iter,ifs,0⟩] scope pos) (qkZ ti cap g tc te) :=
  ⟨fun hK=>(qhO hcalm S (hi.pi hK) (fun cl fp C s0 H0=>(hg cl fp C s0 H0).pg hK) (fun cl fp C s0 H0=>(ht cl fp C s0 H0).p hK) (fun cl fp C s0 H0=>(he cl fp C s0 H0).pe hK) hs).imp fun _ _ _=>qfL hcap hk⟩
def qgu (ti:TDL) (cap:List (Option Nat)) (g:TGD) (te:TD):TDL:=fun ρ R=>ti ρ fun ds=>ds.length<sizeLine∧∃ P:Nat→D→Prop,
  (∀ i d,ds[i]?=some d→g d (qfN cap ρ) fun ρ1=>te ρ1 (P i))∧∀ ys:List D,ys.length=ds.length→(∀ i y,ys[i]?=some y→P i y)→R ys
def qpo (P:Nat→D→Prop):Nat→Option D→Prop:=fun i o=>match o with | some y=>P i y | none=>False
theorem qgp {P:Nat→D→Prop}:∀ (ys:List (Option D)),(∀ (i:Nat) y,ys[i]?=some y→∃ z,y=some z)→∃ zs:List D,ys=zs.map some
  | [],_=>⟨[],rfl⟩
  | y::ys,h=>by
    obtain ⟨z,rfl⟩:=h 0 y rfl
    obtain ⟨zs,rfl⟩:=qgp (P:=P) ys fun i y hy=>h (i+1) y hy
    exact ⟨z::zs,rfl⟩
theorem qhk {ds:List D} {ρ:Rho} {R:List D→Prop} (h:ds.length<sizeLine∧∃ P:Nat→D→Prop,(∀ i d,ds[i]?=some d→g d (qfN cap ρ) fun ρ1=>te ρ1 (P i))∧∀ ys:List D,ys.length=ds.length→(∀ i y,ys[i]?=some y→P i y)→R ys) {k:Nat} (hk:GM k g) :
    ds.length<sizeLine∧∃ P:Nat→Option D→Prop,(∀ i d,ds[i]?=some d→g d (qfN cap ρ) fun ρ1=>qkU ρ1 fun b=>(b=true→te ρ1 fun y=>P i (some y))∧(b=false→P i none))∧∀ ys:List (Option D),ys.length=ds.length→(∀ i y,ys[i]?=some y→P i y)→R (ys.filterMap id):=by
  obtain ⟨h0,P,h1,h2⟩:=h
  refine ⟨h0,qpo P,fun i d hd=>hk.m _ _ _ _ (fun ρ1 q=>⟨fun _=>q,fun e=>by cases e⟩) (h1 i d hd),fun ys hl hy=>?_⟩
  obtain ⟨zs,rfl⟩:=qgp (P:=P) ys fun i y e=>by
    have:=hy i y e
    cases y with
    | none=>exact this.elim
    | some z=>exact ⟨z,rfl⟩
  rw [List.filterMap_map]
  have e:zs.filterMap (id ∘ some)=zs:=by simp
  rw [e]
  refine h2 zs (by simpa using hl) fun i y e=>?_
  exact hy i (some y) (by rw [List.getElem?_map,e];rfl)
theorem qcN {k:Nat} (hcap:qcR k cap=true) (hk:GM k g) {σ:St} {H:Hp} {Q:VK} (h:lF K (qgu ti cap g te) σ H Q):qeL (lI K ti) cap (lG K g) (lT K qkU) (lE K te) σ H Q:=by
  obtain ⟨H0,Φ,ρ,R,E,t,kk⟩:=h
  exact qe5 hcap hk E t (fun ds h=>qhk h hk) kk
theorem qaM {k:Nat} (hcalm:X.calm=true) (S:CompScope X.N X.env.scope scope N' cap) (hcap:qcR k cap=true) (hk:GM k g) (hi:PID K X tg iter ti)
    (hg:∀ (cl:List (Str × Addr)) (fp:List Addr) (C:Addr) (s0:Shared) (H0:Hp),PGD K (qaR X scope N' cl C s0 H0 fp) tg g)
    (he:∀ (cl:List (Str × Addr)) (fp:List Addr) (C:Addr) (s0:Shared) (H0:Hp),PD K (qaR X scope N' cl C s0 H0 fp) elt te) (hs:∀ x,foldedSetIterable iter X.env x=pure x:=by intro _;rfl):PF K X (.ListComp elt [⟨tg,iter,[],0⟩] scope pos) (qgu ti cap g te) :=
  ⟨fun hK=>(qhO hcalm S (hi.pi hK) (fun cl fp C s0 H0=>(hg cl fp C s0 H0).pg hK) (fun cl fp C s0 H0=>(qic (K:=K)).p hK) (fun cl fp C s0 H0=>(he cl fp C s0 H0).pe hK) hs).imp fun _ _ _=>qcN hcap hk⟩
end
structure EndsD where
  nx:Rho→Prop
  rt:D→Prop
  bk:Rho→Prop:=fun _=>False
  ct:Rho→Prop:=fun _=>False
abbrev TSD:=EndsD→Rho→Prop
def EnK (K:PySem.W.Frag) (Φ0 H0:Hp) (P:Rho→Prop) (Q:St→Hp→Prop):Prop:=∀ ρ' Φ' H' σ',P ρ'→Gr Φ0 H0 Φ' H'→EnvD K H0 Φ' H' σ' ρ'→Q σ' H'
structure EndOk (K:PySem.W.Frag) (Φ0 H0:Hp) (De:EndsD) (E:Ends):Prop where
  nx:EnK K Φ0 H0 De.nx E.nx
  rt:∀ d Φ' H' v,De.rt d→Gr Φ0 H0 Φ' H'→Rp K Φ' d v→E.rt v H'
  bk:EnK K Φ0 H0 De.bk E.bk
  ct:EnK K Φ0 H0 De.ct E.ct
def lS (K:PySem.W.Frag) (t:TSD):TS:=fun E σ H=>∃ Φ0 H0 Φ ρ De,Gr Φ0 H0 Φ H∧EnvD K H0 Φ H σ ρ∧t De ρ∧EndOk K Φ0 H0 De E
structure PSD (K:PySem.W.Frag) (X:Cx) (st:Stmt) (t:TSD):Prop where ps:X.K=K→PS X st (lS K t)
structure PSsD (K:PySem.W.Frag) (X:Cx) (st:List Stmt) (t:TSD):Prop where ps:X.K=K→PSs X st (lS K t)
section
variable {K : PySem.W.Frag} {X : Cx} {st : Stmt} {rest : List Stmt} {t u : TSD} {e a : Expr} {te : TD} {tf : TDL} {pos : Pos} {tt : TDB}
def qof:TSD:=fun De ρ=>De.nx ρ
def qpk (t u:TSD):TSD:=fun De ρ=>t { De with nx:=u De } ρ
def qpc (t u:TSD):TSD:=fun De ρ=>∃ I:Rho→Prop,t { De with nx:=I } ρ∧∀ ρ',I ρ'→u De ρ'
theorem qbs:PSsD K X [] qof:=⟨fun _=>pss_nil.imp fun E σ H hq0=>by obtain ⟨Φ0,H0,Φ,ρ,De,g,V,t,k⟩:=hq0;exact k.nx ρ Φ H σ t g V⟩
theorem qao (h1:PSD K X st t) (h2:PSsD K X rest u):PSsD K X (st::rest) (qpk t u):=⟨fun hK=>(qcC (h1.ps hK) (h2.ps hK)).imp fun E σ H hq0=>by obtain ⟨Φ0,H0,Φ,ρ,De,g,V,t,k⟩:=hq0;exact
  ⟨Φ0,H0,Φ,ρ,_,g,V,t,⟨fun ρ' Φ' H' σ' t' g' V'=>⟨Φ0,H0,Φ',ρ',De,g',V',t',k⟩,k.rt,k.bk,k.ct⟩⟩⟩
theorem qbW (h1:PSD K X st t) (h2:PSsD K X rest u):PSsD K X (st::rest) (qpc t u):=⟨fun hK=>(qcC (h1.ps hK) (h2.ps hK)).imp fun E σ H hq0=>by obtain ⟨Φ0,H0,Φ,ρ,De,g,V,⟨I,t,c⟩,k⟩:=hq0;exact
  ⟨Φ0,H0,Φ,ρ,_,g,V,t,⟨fun ρ' Φ' H' σ' t' g' V'=>⟨Φ0,H0,Φ',ρ',De,g',V',c ρ' t',k⟩,k.rt,k.bk,k.ct⟩⟩⟩
theorem qaw (h1:PSD K X st t):PSsD K X [st] t:=⟨fun hK=>qip (h1.ps hK)⟩
def qo5 (i:Nat) (t:TSD):TSD:=fun De ρ=>t De (frz i ρ)
theorem qkO (i:Nat) (h:PSsD K X rest t):PSsD K X rest (qo5 i t):=⟨fun hK=>(h.ps hK).imp fun E σ H hq0=>by
  obtain ⟨Φ0,H0,Φ,ρ,De,g,V,t,k⟩:=hq0
  obtain ⟨Φ',g',V'⟩:=V.frz g i
  exact ⟨Φ0,H0,Φ',L2.frz i ρ,De,g',V',t,k⟩⟩
def qno:TSD:=fun _ _=>False
theorem qkA:PSD K X st qno:=⟨fun _=>ps_never.imp fun E σ H hq0=>by obtain ⟨Φ0,H0,Φ,ρ,De,g,V,t,k⟩:=hq0;exact t⟩
def qmz (i:Nat) (te:TD):TSD:=fun De ρ=>te ρ fun d=>De.nx (ρ.set i (some (.v d)))
theorem qi4 {i:Nat} {E:Ends} {σ:St} {H:Hp} (h:lS K (qmz i te) E σ H):qlP (lE K te) (qfP i) E σ H:=by
  obtain ⟨Φ0,H0,Φ,ρ,De,g,V,t,k⟩:=h
  exact ⟨H0,Φ,ρ,_,V,t,fun d Φ1 H1 v r g1 rv=>k.nx _ Φ1 H1 _ r (g.trans g1) ((V.gr g1).set rv i)⟩
theorem qaE {i:Nat} {x:Str} {pos':Pos} (hN:X.N.Nodup) (hi:X.N[i]?=some x) (hx:Loc X.env.scope x) (he:PD K X e te) (hs:swapsWith e (some (.Name x pos')) pos.line X.env=pure false:=by rfl) (hf:X.fn x=true∨X.env.scope.names.lookup x=some .local:=by first | exact .inl rfl | exact .inr rfl | assumption) :
    PSD K X (.Assign [.Name x pos'] e pos) (qmz i te):=⟨fun hK=>(qjS hN hi hx (he.pe hK) hs hf).imp fun _ _ _=>qi4⟩
def qny (i:Nat) (tf:TDL):TSD:=fun De ρ=>tf ρ fun ds=>De.nx (ρ.set i (some (.own ds)))
theorem qfh {i:Nat} {E:Ends} {σ:St} {H:Hp} (h:lS K (qny i tf) E σ H):lF K tf σ H fun v H'=>qfP i v σ H' E.nx:=by
  obtain ⟨Φ0,H0,Φ,ρ,De,g,V,t,k⟩:=h
  refine ⟨H0,Φ,ρ,_,V,t,fun ds Φ1 H1 p vs r g1 hp hn hl rl=>k.nx _ Φ1 H1 _ r (g.trans g1) ((V.gr g1).setOwn rl (g.h.free hp) hn hl (fun j es hj z=>?_) i)⟩
  obtain ⟨q,ws,e,_,_,hq,_⟩:=V.ow j _ hj
  rw [e] at z
  cases z
  rw [hp] at hq
  cases hq
theorem qjE {i:Nat} {x:Str} {pos':Pos} (hN:X.N.Nodup) (hi:X.N[i]?=some x) (hx:Loc X.env.scope x) (he:PF K X e tf) (hs:swapsWith e (some (.Name x pos')) pos.line X.env=pure false:=by rfl) (hf:X.fn x=true∨X.env.scope.names.lookup x=some .local:=by first | exact .inl rfl | exact .inr rfl | assumption) :
    PSD K X (.Assign [.Name x pos'] e pos) (qny i tf):=⟨fun hK=>(qjS hN hi hx (he.pe hK) hs hf).imp fun _ _ _ h=>qfh h⟩
def qpa (te:TD):TSD:=fun De ρ=>te ρ De.rt
theorem qaN (he:PD K X e te):PSD K X (.Return (some e) pos) (qpa te) :=
  ⟨fun hK=>(qmd (he.pe hK)).imp fun E σ H hq0=>by obtain ⟨Φ0,H0,Φ,ρ,De,g,V,t,k⟩:=hq0;exact ⟨H0,Φ,ρ,_,V,t,fun d Φ1 H1 v r g1 rv=>k.rt d Φ1 H1 v r (g.trans g1) rv⟩⟩
def sIf (c:TDB) (t u:TSD):TSD:=fun De ρ=>c ρ fun b=>(b=true→t De ρ)∧(b=false→u De ρ)
theorem qcZ {c:Expr} {a b:List Stmt} (hc:PTD K X c tt) (ha:PSsD K X a t) (hb:PSsD K X b u):PSD K X (.If c a b pos) (sIf tt t u) :=
  ⟨fun hK=>(qnV (hc.pt hK) (ha.ps hK) (hb.ps hK)).imp fun E σ H hq0=>by obtain ⟨Φ0,H0,Φ,ρ,De,g,V,t,k⟩:=hq0;exact ⟨H0,Φ,ρ,_,V,t,fun c Φ1 H1 r g1=>by
    cases c with
    | true=>refine qn7 ?_;exact ⟨Φ0,H0,Φ1,ρ,De,g.trans g1,V.gr g1,r.1 rfl,k⟩
    | false=>refine qn5 ?_;exact ⟨Φ0,H0,Φ1,ρ,De,g.trans g1,V.gr g1,r.2 rfl,k⟩⟩⟩
def qo0 (te:TD) (g:TGD):TSD:=fun De ρ=>te ρ fun d=>g d ρ De.nx
theorem ql0 {tg:Expr} {gd:TGD} (he:PD K X e te) (hg:PGD K X tg gd) (hs:swapsWithSole [tg] e pos.line X.env=pure false:=by rfl) (hw:swappedStores [tg] e X.env=pure none:=by rfl)
    (h1:(assignEach [tg] X.env).map (·.2)=[assign tg X.env]:=by rfl):PSD K X (.Assign [tg] e pos) (qo0 te gd) :=
  ⟨fun hK=>(qjW (he.pe hK) (hg.pg hK) hs hw h1).imp fun E σ H hq0=>by obtain ⟨Φ0,H0,Φ,ρ,De,g,V,t,k⟩:=hq0;exact ⟨H0,Φ,ρ,_,V,t,fun d Φ1 H1 v r g1 rv=>⟨H0,Φ1,ρ,d,_,V.gr g1,rv,r,fun ρ' σ' r' V'=>k.nx ρ' Φ1 H1 σ' r' (g.trans g1) V'⟩⟩⟩
def qmA (c:TDB) (tb:TSD):TSD:=fun De ρ=>∃ I:Nat→Rho→Prop,(∃ m,I m ρ)∧∀ m ρ',I m ρ'→c ρ' fun b=>(b=true→tb { De with nx:=fun ρ2=>∃ m',m'<m∧I m' ρ2,ct:=fun ρ2=>∃ m',m'<m∧I m' ρ2,bk:=De.nx } ρ')∧(b=false→De.nx ρ')
theorem qfW {c:Expr} {body:List Stmt} {tb:TSD} (hp:PassesOwn (model X.prog X.w) X.A X.env X.xe) (hc:PTD K X c tt) (hb:PSsD K X body tb):PSD K X (.While c body [] pos) (qmA tt tb) :=
  ⟨fun hK=>(qiO hp (hc.pt hK) (hb.ps hK)).imp fun E σ H hq0=>by
    obtain ⟨Φ0,H0,Φ,ρ,De,g,V,⟨I,⟨m,h0⟩,hw⟩,k⟩:=hq0
    refine ⟨fun m σ H=>∃ Φ' ρ',Gr Φ0 H0 Φ' H∧EnvD K H0 Φ' H σ ρ'∧I m ρ',⟨m,Φ,ρ,g,V,h0⟩,?_⟩
    rintro m σ' H' ⟨Φ',ρ',g',V',hi⟩
    refine ⟨H0,Φ',ρ',_,V',hw m ρ' hi,fun b Φ1 H1 r g1=>?_⟩
    cases b with
    | false=>refine qn5 ?_;exact k.nx ρ' Φ1 H1 σ' (r.2 rfl) (g'.trans g1) (V'.gr g1)
    | true =>
      refine qn7 ?_
      refine ⟨fun σ2 H2=>∃ m',m'<m∧∃ Φ' ρ',Gr Φ0 H0 Φ' H2∧EnvD K H0 Φ' H2 σ2 ρ'∧I m' ρ',fun σ2 H2 h=>h,Φ0,H0,Φ1,ρ',_,g'.trans g1,V'.gr g1,r.1 rfl,⟨?_,k.rt,k.nx,?_⟩⟩
      · rintro ρ2 Φ2 H2 σ2 ⟨m',hm,hi'⟩ g2 V2
        exact ⟨m',hm,Φ2,ρ2,g2,V2,hi'⟩
      · rintro ρ2 Φ2 H2 σ2 ⟨m',hm,hi'⟩ g2 V2
        exact ⟨m',hm,Φ2,ρ2,g2,V2,hi'⟩⟩
def qpb (ti:TDL) (gd:TGD) (tb:TSD):TSD:=fun De ρ=>ti ρ fun ds=>∃ I:Nat→Rho→Prop,I 0 ρ∧(∀ i d ρ',ds[i]?=some d→I i ρ'→gd d ρ' fun ρ2=>tb { De with nx:=I (i+1),ct:=I (i+1),bk:=De.nx } ρ2)∧∀ ρ',I ds.length ρ'→De.nx ρ'
theorem qdO {tg iter:Expr} {body:List Stmt} {ti:TDL} {gd:TGD} {tb:TSD} (hp:PassesOwn (model X.prog X.w) X.A X.env X.xe) (hc:X.calm=true) (hi:PID K X tg iter ti) (hg:PGD K X tg gd) (hb:PSsD K X body tb)
    (hs:∀ x,foldedSetIterable iter X.env x=pure x:=by intro _;rfl):PSD K X (.For tg iter body [] pos) (qpb ti gd tb) :=
  ⟨fun hK=>(qml hp hc (hi.pi hK) (hg.pg hK) (hb.ps hK) hs).imp fun E σ H hq0=>by
    obtain ⟨Φ0,H0,Φ,ρ,De,g,V,t,k⟩:=hq0
    refine ⟨H0,Φ,ρ,_,V,t,fun ds Φ1 H1 J hq1 g1 S=>?_⟩
    obtain ⟨I,h0,hst,hend⟩:=hq1
    refine ⟨fun i m σ H'=>m=ds.length - i∧i≤ds.length∧∃ Φ' ρ',Gr Φ0 H0 Φ' H'∧Same Φ1 Φ'∧EnvD K H0 Φ' H' σ ρ'∧I i ρ',⟨ds.length,by simp,Nat.zero_le _,Φ1,ρ,g.trans g1,Same.refl _,V.gr g1,h0⟩,?_⟩
    rintro i m σ' H' ⟨rfl,hi,Φ',ρ',g',s',V',hI⟩
    by_cases hlt:i<ds.length
    · refine .inr ⟨S.go i H' (s'.trans V'.fz) hlt,fun σ2 H2=>∃ Φ' ρ',Gr Φ0 H0 Φ' H2∧Same Φ1 Φ'∧EnvD K H0 Φ' H2 σ2 ρ'∧I (i+1) ρ',fun σ2 H2 h2=>⟨ds.length - (i+1),by omega,rfl,hlt,h2⟩,fun x H2 y=>?_⟩
      obtain ⟨Φ3,g3,rx⟩:=S.yl i Φ' H' x H2 _ s' V'.fz (qaA hlt) y
      refine ⟨H0,Φ3,ρ',_,_,V'.gr g3,rx,hst i _ ρ' (qaA hlt) hI,fun ρ2 σ3 t2 V3=>?_⟩
      refine ⟨Φ3,H0,Φ3,ρ2,_,?_,V3,t2,⟨?_,?_,?_,?_⟩⟩
      · exact ⟨Same.refl _,(g'.trans g3).h,g3.s,fun p u hp hn _=>hn⟩
      · intro ρ4 Φ4 H4 σ4 t4 g4 V4
        exact ⟨Φ4,ρ4,(g'.trans g3).join g4,(s'.trans g3.f).trans g4.f,V4,t4⟩
      · intro d Φ4 H4 v r g4 rv
        exact k.rt d Φ4 H4 v r ((g'.trans g3).join g4) rv
      · intro ρ4 Φ4 H4 σ4 t4 g4 V4
        exact k.nx ρ4 Φ4 H4 σ4 t4 ((g'.trans g3).join g4) V4
      · intro ρ4 Φ4 H4 σ4 t4 g4 V4
        exact ⟨Φ4,ρ4,(g'.trans g3).join g4,(s'.trans g3.f).trans g4.f,V4,t4⟩
    · have e:i=ds.length:=by omega
      subst e
      exact .inl ⟨S.stop H' (s'.trans V'.fz),k.nx ρ' Φ' H' σ' (hend ρ' hI) g' V'⟩⟩
end
section
variable {K : PySem.W.Frag} {X : Cx} {tg iter elt e a : Expr} {ifs : List Expr} {scope : Scope} {pos py spos : Pos} {N' : List Str} {cap : List (Option Nat)} {ti : TDL} {g : TGD} {tc : TDB} {te ta tb : TD} {i : Nat} {y : Str}
theorem qc4 {tf:TDL} {E:Ends} {σ:St} {H:Hp} (lift:∀ {σ:St} {H:Hp} {Q:VK},lF K tf σ H Q→qeL (lI K ti) cap (lG K g) (lT K tc) (lE K te) σ H Q) (h:lS K (qmz i (qnt tf)) E σ H):qlP (qeL (lI K ti) cap (lG K g) (lT K tc) (lE K te)) (qfP i) E σ H:=by
  obtain ⟨Φ0,H0,Φ,ρ,De,gg,V,t,kk⟩:=h
  exact lift ⟨H0,Φ,ρ,_,V,t,fun ds Φ' H' p vs r g1 h0 hn hp rr=>kk.nx _ _ H' _ r (gg.trans (g1.freeze h0 hn hp)) ((V.gr (g1.freeze h0 hn hp)).set ((rr.same (qaG hn _)).lst qan) i)⟩
theorem qdH {k:Nat} (hcalm:X.calm=true) (hN:X.N.Nodup) (hy:X.N[i]?=some y) (hx:Loc X.env.scope y) (S:CompScope X.N X.env.scope scope N' cap) (hcap:qcR k cap=true) (hk:GM k g) (hi:PID K X tg iter ti)
    (hg:∀ (cl:List (Str × Addr)) (fp:List Addr) (C:Addr) (s0:Shared) (H0:Hp),PGD K (qaR X scope N' cl C s0 H0 fp) tg g)
    (he:∀ (cl:List (Str × Addr)) (fp:List Addr) (C:Addr) (s0:Shared) (H0:Hp),PD K (qaR X scope N' cl C s0 H0 fp) elt te) (hsw:swapsWith (.ListComp elt [⟨tg,iter,[],0⟩] scope pos) (some (.Name y py)) spos.line X.env=pure true:=by rfl)
    (hs:∀ x,foldedSetIterable iter X.env x=pure x:=by intro _;rfl) (hf:X.fn y=true∨X.env.scope.names.lookup y=some .local:=by first | exact .inl rfl | exact .inr rfl | assumption) :
    PSD K X (.Assign [.Name y py] (.ListComp elt [⟨tg,iter,[],0⟩] scope pos) spos) (qmz i (qnt (qgu ti cap g te))) :=
  ⟨fun hK=>(qf0 hcalm hN hy hx S (hi.pi hK) (fun cl fp C s0 H0=>(hg cl fp C s0 H0).pg hK) (fun cl fp C s0 H0=>(qic (K:=K)).p hK) (fun cl fp C s0 H0=>(he cl fp C s0 H0).pe hK) hsw hs hf).imp fun _ _ _ h=>qc4 (fun q=>qcN hcap hk q) h⟩
theorem qka {k:Nat} (hcalm:X.calm=true) (hN:X.N.Nodup) (hy:X.N[i]?=some y) (hx:Loc X.env.scope y) (S:CompScope X.N X.env.scope scope N' cap) (hcap:qcR k cap=true) (hk:GM k g) (hi:PID K X tg iter ti)
    (hg:∀ (cl:List (Str × Addr)) (fp:List Addr) (C:Addr) (s0:Shared) (H0:Hp),PGD K (qaR X scope N' cl C s0 H0 fp) tg g) (ht:∀ (cl:List (Str × Addr)) (fp:List Addr) (C:Addr) (s0:Shared) (H0:Hp),PIfD K (qaR X scope N' cl C s0 H0 fp) ifs tc)
    (he:∀ (cl:List (Str × Addr)) (fp:List Addr) (C:Addr) (s0:Shared) (H0:Hp),PD K (qaR X scope N' cl C s0 H0 fp) elt te) (hsw:swapsWith (.ListComp elt [⟨tg,iter,ifs,0⟩] scope pos) (some (.Name y py)) spos.line X.env=pure true:=by rfl)
    (hs:∀ x,foldedSetIterable iter X.env x=pure x:=by intro _;rfl) (hf:X.fn y=true∨X.env.scope.names.lookup y=some .local:=by first | exact .inl rfl | exact .inr rfl | assumption) :
    PSD K X (.Assign [.Name y py] (.ListComp elt [⟨tg,iter,ifs,0⟩] scope pos) spos) (qmz i (qnt (qkZ ti cap g tc te))) :=
  ⟨fun hK=>(qf0 hcalm hN hy hx S (hi.pi hK) (fun cl fp C s0 H0=>(hg cl fp C s0 H0).pg hK) (fun cl fp C s0 H0=>(ht cl fp C s0 H0).p hK) (fun cl fp C s0 H0=>(he cl fp C s0 H0).pe hK) hsw hs hf).imp fun _ _ _ h=>qc4 (fun q=>qfL hcap hk q) h⟩
theorem qfK {tf:TDL} {E:Ends} {σ:St} {H:Hp} (lift:∀ {σ:St} {H:Hp} {Q:VK},lF K tf σ H Q→qeL (lI K ti) cap (lG K g) (lT K tc) (lE K te) σ H Q) (h:lS K (qny i tf) E σ H):qlP (qeL (lI K ti) cap (lG K g) (lT K tc) (lE K te)) (qfP i) E σ H:=lift (qfh h)
theorem qjd {k:Nat} (hcalm:X.calm=true) (hN:X.N.Nodup) (hy:X.N[i]?=some y) (hx:Loc X.env.scope y) (S:CompScope X.N X.env.scope scope N' cap) (hcap:qcR k cap=true) (hk:GM k g) (hi:PID K X tg iter ti)
    (hg:∀ (cl:List (Str × Addr)) (fp:List Addr) (C:Addr) (s0:Shared) (H0:Hp),PGD K (qaR X scope N' cl C s0 H0 fp) tg g)
    (he:∀ (cl:List (Str × Addr)) (fp:List Addr) (C:Addr) (s0:Shared) (H0:Hp),PD K (qaR X scope N' cl C s0 H0 fp) elt te) (hsw:swapsWith (.ListComp elt [⟨tg,iter,[],0⟩] scope pos) (some (.Name y py)) spos.line X.env=pure true:=by rfl)
    (hs:∀ x,foldedSetIterable iter X.env x=pure x:=by intro _;rfl) (hf:X.fn y=true∨X.env.scope.names.lookup y=some .local:=by first | exact .inl rfl | exact .inr rfl | assumption) :
    PSD K X (.Assign [.Name y py] (.ListComp elt [⟨tg,iter,[],0⟩] scope pos) spos) (qny i (qgu ti cap g te)) :=
  ⟨fun hK=>(qf0 hcalm hN hy hx S (hi.pi hK) (fun cl fp C s0 H0=>(hg cl fp C s0 H0).pg hK) (fun cl fp C s0 H0=>(qic (K:=K)).p hK) (fun cl fp C s0 H0=>(he cl fp C s0 H0).pe hK) hsw hs hf).imp fun _ _ _ h=>qfK (fun q=>qcN hcap hk q) h⟩
theorem qj5 {Φ0 H0 Φ H:Hp} {p:Addr} {o:HO} (g:Gr Φ0 H0 Φ H) (h0:H0 p=none) (hn:Φ p=none):Gr Φ0 H0 Φ (upd H p o) :=
  ⟨g.f,qgQ g.h h0 _,fun b u e=>by rw [qau (qat e hn)];exact g.s b u e,fun p u hp hn k=>g.o p u hp hn k⟩
def qho (i:Nat) (te:TD):TSD:=fun De ρ=>match ρ[i]? with | some (some (.ob (.lst ds)))=>te ρ fun d=>ds.length<sizeLine∧NF (ds++[d]) fun es=>De.nx (ρ.set i (some (.own es))) | _=>False
theorem qbU {apos cpos npos:Pos} {x:Str} (i:Nat) (he:PD K X e te) (hfew:((backTo cpos (starEach [e] X.env)).all (fun x=>!x.1) && (backToKw cpos (keywordEach [] X.env)).all (fun x=>x.1.isSome) && decide (([e]:List Expr).length+([]:List Keyword).length+(if ([]:List Keyword).isEmpty then 0 else 1)<30))=true)
    (hse:starEach [e] X.env=(false,eval e X.env)::starEach [] X.env) (hN:X.N[i]?=some x:=by rfl) (hv:Vis X.env.scope x:=by first | exact Or.inl rfl | exact Or.inr (Or.inl rfl) | exact Or.inr (Or.inr rfl)) (hd:(x == ("__debug__":Str))=false:=by decide) (hcd:(x == ("__classdict__":Str))=false:=by decide)
    (hbase:attributeBase (.Name x npos) "append" X.env (eval (.Name x npos) X.env)=eval (.Name x npos) X.env:=by rfl) (hline:(apos.endLine == cpos.line)=true:=by rfl) (hs:swapsWith (.Call (.Attribute (.Name x npos) "append" apos) [e] [] cpos) none pos.line X.env=pure false:=by rfl) :
    PSD K X (.Expr (.Call (.Attribute (.Name x npos) "append" apos) [e] [] cpos) pos) (qho i te) :=
  ⟨fun hK=>(qlb (qnG PySem.F.plainAttrs_list PySem.F.slot_list_append PySem.F.type_list_append qfq (pv i hN hv hd hcd) (qb5 (he.pe hK) pa_nil hse) hbase hfew hline hse qad) hs).imp fun E σ H hq0=>by
    obtain ⟨Φ0,H0,Φ,ρ,De,g,V,t,k⟩:=hq0
    unfold qho at t
    split at t
    · next ds ho =>
      obtain ⟨p,vs,e1,h0,hn,hp,rl⟩:=V.owl i ds ho
      refine ⟨_,e1,.inl ⟨rfl,vs,SqL.of hp⟩,H0,Φ,ρ,_,V,t,fun d Φ1 H1 v r g1 rv=>?_⟩
      have hp1:=g1.h _ _ hp
      have hn1:=g1.o _ _ hp hn
      refine ⟨p,vs,v,rfl,rfl,hp1,by rw [rl.1];exact r.1,k.nx _ Φ1 _ σ r.2.get (qj5 (g.trans g1) h0 hn1) ((V.gr g1).put ho e1 ((rl.same g1.f).append (.one rv)))⟩
    · exact t.elim⟩
def qpe (i:Nat) (te tk:TD):TSD:=fun De ρ=>te ρ fun d=>match ρ[i]? with | some (some (.ob (.lst ds)))=>tk ρ fun kk=>(match kk with | .int n=>∃ j,ixN ds.length n=some j∧NF (ds.set j d) fun es=>De.nx (ρ.set i (some (.own es))) | _=>False) | _=>False
theorem qlR {b:Expr} {tk:TD} {npos spos:Pos} {x:Str} (i:Nat) (he:PD K X e te) (hk:PQ K X b tk) (hN:X.N[i]?=some x:=by rfl) (hv:Vis X.env.scope x:=by first | exact Or.inl rfl | exact Or.inr (Or.inl rfl) | exact Or.inr (Or.inr rfl)) (hd:(x == ("__debug__":Str))=false:=by decide) (hcd:(x == ("__classdict__":Str))=false:=by decide)
    (ha:∀ v,assign (.Subscript (.Name x npos) b spos) X.env v=(do
      let ov ← holding [v] (eval (.Name x npos) X.env)
      let iv ← holding [v,ov] (eval b X.env)
      standAt spos
      holding [v,ov,iv] (setItem ov iv v)
      release [v,ov,iv] []):=by intro _;rfl)
    (hs:swapsWithSole [.Subscript (.Name x npos) b spos] e pos.line X.env=pure false:=by rfl) (hw:swappedStores [.Subscript (.Name x npos) b spos] e X.env=pure none:=by rfl)
    (h1:(assignEach [.Subscript (.Name x npos) b spos] X.env).map (·.2)=[assign (.Subscript (.Name x npos) b spos) X.env]:=by rfl) :
    PSD K X (.Assign [.Subscript (.Name x npos) b spos] e pos) (qpe i te tk) :=
  ⟨fun hK=>(qjW (he.pe hK) (qmi (pv i hN hv hd hcd) (hk.pe hK) qiI ha) hs hw h1).imp fun E σ H hq0=>by obtain ⟨Φ0,H0,Φ,ρ,De,g,V,t,k⟩:=hq0;exact ⟨H0,Φ,ρ,_,V,t,fun d Φ1 H1 v r g1 rv=>by
    have V1:=V.gr g1
    split at r
    · next ds ho =>
      obtain ⟨p,vs,e1,h0,hn,hp,rl⟩:=V1.owl i ds ho
      refine ⟨_,e1,H0,Φ1,ρ,_,V1,r,fun kk Φ2 H2 w r2 g2 rw2=>?_⟩
      cases kk with
      | int n =>
        obtain ⟨j,hj,r2⟩:=r2
        exact ⟨p,vs,n,j,rfl,rw2.int,g2.h _ _ hp,by rw [rl.1];exact hj,k.nx _ Φ2 _ σ r2.get (qj5 ((g.trans g1).trans g2) h0 (g2.o _ _ hp hn)) ((V1.gr g2).put ho e1 ((rl.same g2.f).set (rv.same g2.f) j))⟩
      | _=>exact r2.elim
    · exact r.elim⟩⟩
end
def qcY (N:List Str) (ds:List D):Rho:=ds.map (fun d=>some (.v d))++List.replicate (N.length - ds.length) none
theorem qfH {K:PySem.W.Frag} {Φ H:Hp} {N:List Str} {ds:List D} {vs:List V} (sm:Same Φ H) (tb:TabF K Φ) (r:RpL K Φ ds vs):EnvD K H Φ H (start N vs) (qcY N ds):=by
  have own:∀ {i:Nat} {x:Sl},(qcY N ds)[i]?=some (some x)→∃ d,ds[i]?=some d∧x=.v d:=fun {i x} h=>by
    unfold qcY at h
    rcases Nat.lt_or_ge i (ds.map fun d=>some (Sl.v d)).length with c | c
    · rw [List.getElem?_append_left c,List.getElem?_map] at h
      cases e:ds[i]? with
      | none=>rw [e] at h;cases h
      | some d=>rw [e] at h;cases h;exact ⟨d,rfl,rfl⟩
    · rw [List.getElem?_append_right c,List.getElem?_replicate] at h
      split at h
      · cases h
      · cases h
  refine ⟨sm,by unfold start qcY;simp [r.1],fun i d h=>?_,fun i es h=>?_,fun i j es fs p h=>?_,tb⟩
  · obtain ⟨d',h1,h2⟩:=own h
    cases h2
    obtain ⟨v,hv,rv⟩:=r.at h1
    refine ⟨v,?_,rv⟩
    unfold start
    rw [List.getElem?_append_left (by rw [List.length_map];exact qaF hv),List.getElem?_map,hv]
    rfl
  · obtain ⟨d',h1,h2⟩:=own h
    cases h2
  · obtain ⟨d',h1,h2⟩:=own h
    cases h2
section
variable {P : Program} {w : World} {K : PySem.W.Frag} {mg : Str → Option Value} {base : Heap}
theorem Fun.okD {x qual:Str} {st:Stmt} {f:Addr} {fd:FuncData} {N ps:List Str} {k:Nat} {sp:SpD} (F:Fun K x qual st f fd) (S:FnScope N ps (qaf st)) (len:∀ ds R,sp ds R→ds.length=ps.length)
    (hbody:∀ (cdv:Value) (A:Around) (outer:List Env) (s:Shared) (H:Hp) (E:XK) (ds:List D) (R:D→Prop),Room k (A.deeper (envOfC qual (qaf st) s.heap.objs.size f cdv))→sp ds R →
      ∃ t,PSsD K (qjb CX0 P w K mg base N qual (qaf st) f cdv A outer s H E).nox (qa7 st) t∧t { nx:=fun _=>R .non,rt:=R } (qcY N ds)):FnOk P w K mg base CX0 (k+1) f fd ps (lSp K sp):=by
  refine F.ok S (fun vs H Q E ⟨Φ,ds,R,sm,tb,rl,h,_⟩=>by rw [rl.1];exact len ds R h) (fun cdv A outer s H vs Q E hr ⟨Φ,ds,R,sm,tb,rl,h,kk⟩=>?_)
  obtain ⟨t,ht,hq⟩:=hbody cdv A outer s H E ds R hr h
  exact ⟨lS K t,ht.ps rfl,Φ,H,Φ,qcY N ds,_,.refl sm,qfH sm tb rl,hq,⟨fun ρ' Φ' H' σ' r g V=>kk .non Φ' H' .non r g .non,kk,fun _ _ _ _ h=>h.elim,fun _ _ _ _ h=>h.elim⟩⟩
end
def Itb (K:PySem.W.Frag) (b:Bool) (a:Addr):It:=match b with | true=>Itl K a | false=>Itt K a
section
variable {K : PySem.W.Frag} {X : Cx} {tg e a b : Expr} {es : List Expr} {pos p tp : Pos} {t ta tb : TD} {tl : TDL}
theorem ql8 {l:Expr} {tl:TE} (hK:X.K=K) (hl:PE X l tl):PI X tg l (fun σ H R=>tl σ H fun x H1=>∃ q a,x=.ref a∧(∃ xs,SqB K q H1 a xs)∧R (Itb K q a) H1):=by
  subst hK
  intro pins s σ H R I h
  refine thn (hl pins s σ H _ I h) fun v s1 hq0=>?_
  obtain ⟨x,H1,I1,r1,q1⟩:=hq0
  obtain ⟨bb,a,e,⟨xs,hq⟩,q⟩:=q1
  subst e
  cases r1
  have fp:∀ b∈[s1.heap.objs.size],FpOk X pins H1 b:=fun b hb=>by
    have e:b=s1.heap.objs.size:=by simpa using hb
    subst e
    exact I1.fpOk (Nat.le_refl _) (I1.hok.fresh (Nat.le_refl _))
  cases bb with
  | true =>
    obtain ⟨its,rv,p,hz⟩:=I1.list hq
    refine wpAny_pyIter_list p.isList ?_
    exact ⟨s1.heap.objs.size,[s1.heap.objs.size],_,_,H1,rfl,I1.kept (t':=s1.toks) fun b o e=>Heap.get?_push_of_some _ e,qh5 a _,⟨_,Heap.get?_push_size _ rfl,rfl,rfl⟩,fp,q⟩
  | false =>
    obtain ⟨its,rv,p,hz⟩:=I1.tuple hq
    refine wpAny_pyIter_tuple (show s1.heap.IsTuple a its.toArray from p) ?_
    exact ⟨s1.heap.objs.size,[s1.heap.objs.size],_,_,H1,rfl,I1.kept (t':=s1.toks) fun b o e=>Heap.get?_push_of_some _ e,qgZ a _,⟨_,Heap.get?_push_size _ rfl,rfl,rfl⟩,fp,q⟩
theorem qgf {Φ:Hp} {ds:List D} {vs:List V} {a:Addr} {q:Bool} (h:SqB K q Φ a vs) (r:RpL K Φ ds vs):SteadyD K (Itb K q a) Φ ds:=by
  cases q with
  | true=>exact qe4 h r
  | false=>exact qfX h r
def qoS (t:TD):TDL:=fun ρ R=>t ρ fun d=>match d with | .lst ds=>R ds | .tup ds=>R ds | .fzl ds=>R ds | _=>False
theorem qlL {d:D} {R:List D→Prop} (h:match d with | .lst ds=>R ds | .tup ds=>R ds | .fzl ds=>R ds | _=>False):∃ ds,qiG d=some ds∧R ds:=by
  cases d with
  | lst ds=>exact ⟨ds,rfl,h⟩
  | tup ds=>exact ⟨ds,rfl,h⟩
  | fzl ds=>exact ⟨ds,rfl,h⟩
  | _=>exact h.elim
theorem qbC (h:PD K X e t):PID K X tg e (qoS t):=⟨fun hK=>(ql8 hK (h.pe hK)).imp fun σ H R' hq0=>by obtain ⟨H0,Φ,ρ,R,E,t,k⟩:=hq0;exact ⟨H0,Φ,ρ,_,E,t,fun d Φ1 H1 v r g rv=>by
  obtain ⟨ds,e1,r⟩:=qlL r
  obtain ⟨q,a,vs,rfl,h1,h2⟩:=rv.seq e1
  exact ⟨q,a,rfl,⟨vs,SqB.same g.s h1⟩,k _ Φ1 H1 _ r g (qgf h1 h2)⟩⟩⟩
theorem qjF {a:Expr} {ta:TA} {es:List Expr} {k:Nat} (hK:X.K=K) (hg:Gl X "enumerate") (hm:X.mg "enumerate"=none) (ha:PA X [a] ta) (hs:starEach [a] X.env=[(false,eval a X.env)]) :
    PI X (.Tuple es k tp) (.Call (.Name "enumerate" p) [a] [] pos) (fun σ H R=>ta σ H fun vs H1=>∃ b a xs,vs=[.ref a]∧SqB K b H1 a xs∧R (Ite K b a) H1):=by
  subst hK
  intro pins s σ H R I h
  refine Call_ (qc0 I hg hm boot_enumerate (PyProof.Rows.callWith_type1 (thn (ha pos pins s σ H _ I h) fun us s1 hq0=>?_) hs rfl))
  obtain ⟨vs,H1,I1,r1,q1⟩:=hq0
  obtain ⟨b,l,xs,e,hq,q⟩:=q1
  subst e
  cases r1 with
  | cons r rr =>
    cases rr
    cases r
    obtain ⟨its,rv,p,hz⟩:=I1.sqb hq
    refine qhW p fun h' he hi hsz hk=>wpAny_pyIter_enum he ?_
    have I2:Inv X pins σ H1 { s1 with heap:=h' }:=I1.kept (t':=s1.toks) hk
    have fr:∀ c,s1.heap.objs.size≤c→FpOk X pins H1 c:=fun c hc=>I1.fpOk hc (I1.hok.fresh hc)
    exact ⟨s1.heap.objs.size+1,[s1.heap.objs.size+1,s1.heap.objs.size],_,_,H1,rfl,I2,qhE b l _ _ (Nat.succ_ne_self _),⟨⟨_,he⟩,hi⟩,fun c hc=>by
      rcases List.mem_cons.mp hc with rfl | hc
      · exact fr _ (Nat.le_succ _)
      · rw [List.mem_singleton.mp hc];exact fr _ (Nat.le_refl _),q⟩
theorem qkz {a b:Expr} {ta:TA} {es:List Expr} {k:Nat} (hK:X.K=K) (hg:Gl X "zip") (hm:X.mg "zip"=none) (ha:PA X [a,b] ta) (hs:starEach [a,b] X.env=[(false,eval a X.env),(false,eval b X.env)]) (hs2:starEach [b] X.env=[(false,eval b X.env)]) :
    PI X (.Tuple es k tp) (.Call (.Name "zip" p) [a,b] [] pos) (fun σ H R=>ta σ H fun vs H1=>∃ b1 b2 a1 a2 xs ys,vs=[.ref a1,.ref a2]∧SqB K b1 H1 a1 xs∧SqB K b2 H1 a2 ys∧R (Itz K b1 a1 b2 a2) H1):=by
  subst hK
  intro pins s σ H R I h
  refine Call_ (qc0 I hg hm boot_zip (PyProof.Rows.callWith_type1 (thn (ha pos pins s σ H _ I h) fun us s1 ⟨vs,H1,I1,r1,q1⟩=>?_) (by rw [hs,hs2]) (by rw [hs2];rfl)))
  obtain ⟨b1,b2,l1,l2,xs,ys,e,hq1,hq2,q⟩:=q1
  subst e
  cases r1 with
  | cons r rr =>
    cases rr with
    | cons r' rr =>
      cases rr
      cases r
      cases r'
      obtain ⟨its1,rv1,p1,_⟩:=I1.sqb hq1
      obtain ⟨its2,rv2,p2,_⟩:=I1.sqb hq2
      refine qjh p1 p2 fun h' z1 z2 z3 z4 z5 hk=>wpAny_pyIter_zip z1 ?_
      have I2:Inv X pins σ H1 { s1 with heap:=h' }:=I1.kept (t':=s1.toks) hk
      have fr:∀ c,s1.heap.objs.size≤c→FpOk X pins H1 c:=fun c hc=>I1.fpOk hc (I1.hok.fresh hc)
      generalize s1.heap.objs.size=n at *
      refine ⟨n+4,[n+4,n+2,n+3,n,n+1],_,_,H1,rfl,I2,qiR b1 b2 l1 l2 (n+4) (n+2) (n+3) n (n+1) (zap n),⟨z1,z2,⟨_,_,z3⟩,z4,z5⟩,fun c hc=>fr c ?_,q⟩
      simp only [List.mem_cons,List.not_mem_nil,or_false] at hc
      rcases hc with rfl | rfl | rfl | rfl | rfl
      · exact Nat.le_add_right _ _
      · exact Nat.le_add_right _ _
      · exact Nat.le_add_right _ _
      · exact Nat.le_refl _
      · exact Nat.le_add_right _ _
def qmp (t:TDL):TDL:=fun ρ R=>t ρ fun ds=>match ds with | [.lst xs]=>R (qeV xs) | [.tup xs]=>R (qeV xs) | [.fzl xs]=>R (qeV xs) | _=>False
theorem qf5 {ets:List Expr} {ek:Nat} (hg:Gl X "enumerate") (hm:X.mg "enumerate"=none) (ha:PAD K X [a] tl) (hs:starEach [a] X.env=[(false,eval a X.env)]:=by rfl):PID K X (.Tuple ets ek tp) (.Call (.Name "enumerate" p) [a] [] pos) (qmp tl) :=
  ⟨fun hK=>(qjF hK hg hm (ha.pa hK) hs).imp fun σ H R' hq0=>by obtain ⟨H0,Φ,ρ,R,E,t,k⟩:=hq0;exact ⟨H0,Φ,ρ,_,E,t,fun ds Φ1 H1 vs r g rv _=>by
    have fin:∀ {d:D} {xs:List D},RpL K Φ1 [d] vs→qiG d=some xs→R (qeV xs)→∃ b a xs,vs=[.ref a]∧SqB K b H1 a xs∧R' (Ite K b a) H1:=fun {d xs} rv hx r=>by
      obtain ⟨v,rfl,r1⟩:=rv.one_inv
      obtain ⟨q,a,ws,rfl,h1,h2⟩:=r1.seq hx
      exact ⟨q,a,ws,rfl,SqB.same g.s h1,k _ Φ1 H1 _ r g (qfr h1 h2)⟩
    match ds,r with
    | [.lst xs],r=>exact fin rv rfl r
    | [.tup xs],r=>exact fin rv rfl r
    | [.fzl xs],r=>exact fin rv rfl r⟩⟩
def qoc (t:TDL):TDL:=fun ρ R=>t ρ fun ds=>match ds with | [d,e]=>∃ xs ys,qiG d=some xs∧qiG e=some ys∧R (qiw xs ys) | _=>False
theorem qdz {ets:List Expr} {ek:Nat} (hg:Gl X "zip") (hm:X.mg "zip"=none) (ha:PAD K X [a,b] tl) (hs:starEach [a,b] X.env=[(false,eval a X.env),(false,eval b X.env)]:=by rfl) (hs2:starEach [b] X.env=[(false,eval b X.env)]:=by rfl):PID K X (.Tuple ets ek tp) (.Call (.Name "zip" p) [a,b] [] pos) (qoc tl) :=
  ⟨fun hK=>(qkz hK hg hm (ha.pa hK) hs hs2).imp fun σ H R' hq0=>by obtain ⟨H0,Φ,ρ,R,E,t,k⟩:=hq0;exact ⟨H0,Φ,ρ,_,E,t,fun ds Φ1 H1 vs r g rv _=>by
    match ds,r with
    | [d,e],⟨xs,ys,hx,hy,r⟩ =>
      obtain ⟨v,w,rfl,r1,r2⟩:=rv.two_inv
      obtain ⟨q1,a1,ws,rfl,h1,h2⟩:=r1.seq hx
      obtain ⟨q2,a2,us,rfl,h3,h4⟩:=r2.seq hy
      exact ⟨q1,q2,a1,a2,ws,us,rfl,SqB.same g.s h1,SqB.same g.s h3,k _ Φ1 H1 _ r g (qf2 h1 h3 h2 h4)⟩⟩⟩
variable {gs : qhf}
def ql6 (n:Nat) (t:qhf):TGD:=fun d ρ R=>match d with | .tup ds=>ds.length=n∧t ds ρ R | .lst ds=>ds.length=n∧t ds ρ R | _=>False
theorem PG.or {tg:Expr} {t t':TG} (h:PG X tg t) (h':PG X tg t'):PG X tg (fun v σ H Q=>t v σ H Q∨t' v σ H Q):=by
  intro pins s σ H v u Q I r hw
  rcases hw with hw | hw
  · exact h pins s σ H v u Q I r hw
  · exact h' pins s σ H v u Q I r hw
theorem qcT {k n:Nat} (hc:X.calm=true) (h:PGDs K X es gs) (hn:(assignEach es X.env).length=n:=by rfl) (hst:(assignEach es X.env).findIdx? (·.1)=none:=by rfl):PGD K X (.Tuple es k pos) (ql6 n gs) :=
  ⟨fun hK=>((qiK hK hc (h.pg hK) hn hst).or (qiY hK hc (h.pg hK) hn hst)).imp fun v σ H Q hq0=>by
    obtain ⟨H0,Φ,ρ,d,R,E,r,g,k⟩:=hq0
    cases d with
    | tup ds=>cases r with | tup h1 h2 h3=>exact .inl ⟨_,_,rfl,E.fz.sqt h1,by rw [h2];exact g.1,H0,Φ,ρ,ds,R,E,⟨h2,h3⟩,g.2,k⟩
    | lst ds=>cases r with | lst h1 h2 h3=>exact .inr ⟨_,_,rfl,.of (E.fz _ _ h1),by rw [h2];exact g.1,H0,Φ,ρ,ds,R,E,⟨h2,h3⟩,g.2,k⟩
    | _=>exact g.elim⟩
theorem qc5 {k n:Nat} {t:qhf} (h:GMs k t):GM k (ql6 n t):=⟨⟨fun d ρ R r=>by
  cases d with
  | tup ds=>exact ⟨r.1,h.k.p ds ρ R r.2⟩
  | lst ds=>exact ⟨r.1,h.k.p ds ρ R r.2⟩
  | _=>exact r⟩,fun d ρ R R' hr r=>by
  cases d with
  | tup ds=>exact ⟨r.1,h.m ds ρ R R' hr r.2⟩
  | lst ds=>exact ⟨r.1,h.m ds ρ R R' hr r.2⟩
  | _=>exact r⟩
theorem qm3 {Φ H:Hp} {d:D} {v:V} {T:String} {r:Bool} (s:Same Φ H) (h:RpQ K Φ H d v) (e:qmv d T=some r):IsiV K H v T r:=by
  have sp:∀ {c:Prop} [Decidable c] {x:Bool} {y:Option Bool},(if c then some x else y)=some r→(c∧x=r)∨y=some r:=fun {c _ x y} h=>by
    by_cases hc:c
    · rw [if_pos hc] at h;cases h;exact .inl ⟨hc,rfl⟩
    · rw [if_neg hc] at h;exact .inr h
  cases d with
  | int i =>
    cases h.int
    rcases sp e with ⟨rfl,rfl⟩ | e
    · exact .int_int _
    rcases sp e with ⟨rfl,rfl⟩ | e
    · exact .int_bool _
    rcases sp e with ⟨rfl,rfl⟩ | e
    · exact .int_tuple _
    rcases sp e with ⟨rfl,rfl⟩ | e
    · exact .int_str _
    cases e
  | bl i =>
    cases h.bl
    rcases sp e with ⟨rfl,rfl⟩ | e
    · exact .bl_int _
    rcases sp e with ⟨rfl,rfl⟩ | e
    · exact .bl_bool _
    rcases sp e with ⟨rfl,rfl⟩ | e
    · exact .bl_tuple _
    cases e
  | str i =>
    cases h.str
    rcases sp e with ⟨rfl,rfl⟩ | e
    · exact .str_str _
    rcases sp e with ⟨rfl,rfl⟩ | e
    · exact .str_tuple _
    cases e
  | non=>cases e
  | tup ds =>
    obtain ⟨a,vs,rfl,h1,_,h2⟩:=h.tup s
    rcases sp e with ⟨rfl,rfl⟩ | e
    · exact .tup_tuple h1
    rcases sp e with ⟨rfl,rfl⟩ | e
    · exact .tup_int h1
    cases e
  | lst ds =>
    obtain ⟨a,vs,rfl,h1,h2⟩:=h.lst s
    rcases sp e with ⟨rfl,rfl⟩ | e
    · exact .lst_tuple (.of h1)
    rcases sp e with ⟨rfl,rfl⟩ | e
    · exact .lst_list (.of h1)
    cases e
  | fzl ds=>cases e
  | obj C fs=>cases e
def qo9 (T:String) (t:TD):TD:=fun ρ R=>t ρ fun d=>∃ r,qmv d T=some r∧R (.bl r)
theorem qjp {T:String} {tx:Str} {p2:Pos} (hg:Gl X "isinstance") (hm:X.mg "isinstance"=none) (ha:PQ K X a t) (hT:PE X (.Name tx p2) (tC (.ty T)))
    (he:starEach [a,.Name tx p2] X.env=(false,eval a X.env)::starEach [.Name tx p2] X.env) (he2:starEach [.Name tx p2] X.env=(false,eval (.Name tx p2) X.env)::starEach [] X.env):PD K X (.Call (.Name "isinstance" p) [a,.Name tx p2] [] pos) (qo9 T t) :=
  ⟨fun hK=>(qgF (qiz hK) hg hm boot_isinstance (qb5 (ha.pe hK) (qb5 hT pa_nil he2) he) (by decide) (by decide) he (qae he2 qad)).imp fun σ H Q hq0=>by obtain ⟨H0,Φ,ρ,R,E,t,k⟩:=hq0;exact ⟨H0,Φ,ρ,_,E,t,fun d Φ1 H1 v r g rv=>by
    obtain ⟨rr,hr,r⟩:=r
    exact ⟨v,T,rr,rfl,qm3 g.s rv hr,k _ Φ1 H1 _ r g (.bl _)⟩⟩⟩
theorem qmE (i:Int):qmv (.int i) "int"=some true:=rfl
theorem qmc (i:Int):qmv (.int i) "bool"=some false:=rfl
theorem qkd (xs:List D):qmv (.tup xs) "tuple"=some true:=rfl
end
theorem qbB {α:Type} {f:α→D} {ns:List α} {i:Nat} {x:D} (h:(ns.map f)[i]?=some x):∃ k,x=f k∧ns[i]?=some k:=by
  rw [List.getElem?_map] at h
  cases e:ns[i]? with
  | none=>rw [e] at h;cases h
  | some k=>rw [e] at h;cases h;exact ⟨k,rfl,rfl⟩
theorem qbn {α:Type} {f:α→D} {ns:List α} {i:Nat} {n:α} {k:Int} (h:ns[i]?=some n) (e:k=(i:Int)):atI (ns.map f) k=some (f n):=qmN (by rw [List.getElem?_map,h];rfl) e
theorem qkL {ns:List Int} {k:Int} (h0:0≤k) (h:k<(ns.length:Int)):∃ v:Int,atI (ns.map D.int) k=some (.int v):=by
  have hk:k.toNat<ns.length:=by omega
  exact ⟨_,qbn (qaA hk) (by omega)⟩
def qkb:SpD:=fun ds R=>∃ ns:List Int,ds=[.fzl (ns.map D.int)]∧ns.length≤63∧R (.bl true)
def qma (K:PySem.W.Frag):Sp:=fun vs H Q _=>∃ (a:Addr) (ns:List Int),vs=[.ref a]∧SqL K H a (ns.map V.int)∧ns.length≤63∧TabF K H∧∀ H',Q (.bl true) H'
theorem qjm {K:PySem.W.Frag}:∀ vs H Q E,qma K vs H Q E→lSp K qkb vs H Q E:=by
  rintro vs H Q E ⟨a,ns,rfl,hS,hl,tb,q⟩
  refine ⟨H,[.fzl (ns.map D.int)],fun d=>d=.bl true,Same.refl _,tb,.one ((RpL.ints ns).fzl hS),⟨ns,rfl,hl,rfl⟩,fun d Φ' H' v r g rv=>?_⟩
  subst r
  cases rv
  exact q _
def qbe (r:Row):D:=.tup [.tup (r.1.map D.int),.int r.2]
def prD (s:Int × Int):D:=.tup [.int s.1,.int s.2]
section
variable {K : PySem.W.Frag} {H H' Φ : Hp} {v : V} {vs : List V}
end
theorem qdg {α β:Type} (f:α→β) (xs:List α) (lo hi:Option Int):qfO (xs.map f) lo hi=(qfO xs lo hi).map f:=by
  unfold qfO
  rw [List.length_map,List.map_take,List.map_drop]
theorem qcJ (k:Nat) (z:Int):(List.replicate k [D.int z]).flatten=(List.replicate k z).map D.int:=by
  induction k with
  | zero=>rfl
  | succ k ih=>rw [List.replicate_succ,List.flatten_cons,ih];rfl
section
variable {g : TGD} {te : TD} {ρ : Rho} {R : List D → Prop}
theorem qju {ds:List D} (ws:List D) (hw:ws.length=ds.length) (hlen:ds.length<sizeLine) (Q:Nat→D→Prop) (hQ:∀ i y,Q i y→ws[i]?=some y) (hb:∀ i d,ds[i]?=some d→g d ρ fun ρ1=>te ρ1 (Q i)) (k:R ws) :
    ds.length<sizeLine∧∃ P:Nat→D→Prop,(∀ i d,ds[i]?=some d→g d ρ fun ρ1=>te ρ1 (P i))∧∀ ys:List D,ys.length=ds.length→(∀ i y,ys[i]?=some y→P i y)→R ys:=by
  refine ⟨hlen,Q,hb,fun ys hl hy=>?_⟩
  have:ys=ws:=by
    refine List.ext_getElem? fun i=>?_
    rcases Nat.lt_or_ge i ys.length with c | c
    · rw [qaA c,hQ i _ (hy i _ (qaA c))]
    · rw [List.getElem?_eq_none c,List.getElem?_eq_none (by omega)]
  rw [this]
  exact k
theorem qbp {α:Type} {f:α→D} {xs:List α} (h:α→D) (hlen:xs.length<sizeLine) (hb:∀ x∈xs,g (f x) ρ fun ρ1=>te ρ1 fun y=>y=h x) (k:R (xs.map h)) :
    (xs.map f).length<sizeLine∧∃ P:Nat→D→Prop,(∀ i d,(xs.map f)[i]?=some d→g d ρ fun ρ1=>te ρ1 (P i))∧∀ ys:List D,ys.length=(xs.map f).length→(∀ i y,ys[i]?=some y→P i y)→R ys:=by
  refine qju (xs.map h) (by simp) (by rw [List.length_map];exact hlen) (fun i=>match xs[i]? with | some x=>fun y=>y=h x | none=>fun _=>False) (fun i y q=>?_) (fun i d hd=>?_) k
  · rw [List.getElem?_map]
    cases e:xs[i]? with
    | none=>rw [e] at q;exact q.elim
    | some x=>rw [e] at q;rw [q];rfl
  · obtain ⟨x,rfl,hx⟩:=qbB hd
    have e:(match xs[i]? with | some x=>fun y=>y=h x | none=>fun _=>False:D→Prop)=fun y=>y=h x:=by rw [hx]
    rw [e]
    exact hb x (List.mem_of_getElem? hx)
theorem qa0 {lo:Int} {n:Nat} (h:Nat→D) (hlen:n<sizeLine) (hb:∀ i,i<n→g (.int (lo+(i:Nat))) ρ fun ρ1=>te ρ1 fun y=>y=h i) (k:R ((List.range n).map h)) :
    (qbz lo n).length<sizeLine∧∃ P:Nat→D→Prop,(∀ i d,(qbz lo n)[i]?=some d→g d ρ fun ρ1=>te ρ1 (P i))∧∀ ys:List D,ys.length=(qbz lo n).length→(∀ i y,ys[i]?=some y→P i y)→R ys :=
  qbp (f:=fun i:Nat=>D.int (lo+(i:Nat))) (xs:=List.range n) h (by rw [List.length_range];exact hlen) (fun x hx=>hb x (List.mem_range.mp hx)) k
theorem qlB {α β:Type} (f:α→D) (h:β→D) (xs:List α) (ys:List β):qiw (xs.map f) (ys.map h)=(List.zip xs ys).map fun p=>.tup [f p.1,h p.2]:=by
  unfold qiw
  rw [List.zipWith_map,List.map_zip_eq_zipWith]
  rfl
theorem qbt {α β:Type} {f:α→D} {h:β→D} {xs:List α} {ys:List β} (w:α→β→D) (hlen:xs.length<sizeLine) (hb:∀ x∈xs,∀ y∈ys,g (.tup [f x,h y]) ρ fun ρ1=>te ρ1 fun z=>z=w x y) (k:R (List.zipWith w xs ys)) :
    (qiw (xs.map f) (ys.map h)).length<sizeLine∧∃ P:Nat→D→Prop,(∀ i d,(qiw (xs.map f) (ys.map h))[i]?=some d→g d ρ fun ρ1=>te ρ1 (P i))∧∀ zs:List D,zs.length=(qiw (xs.map f) (ys.map h)).length→(∀ i y,zs[i]?=some y→P i y)→R zs:=by
  rw [qlB]
  refine qbp (fun p:α × β=>w p.1 p.2) ?_ (fun p hp=>hb p.1 (List.of_mem_zip hp).1 p.2 (List.of_mem_zip hp).2) ?_
  · rw [List.length_zip];omega
  · rw [List.map_zip_eq_zipWith];exact k
end
end L2
namespace L2
theorem ff {p:Prop} (h:false=true):p:=by cases h
theorem tf {p:Prop} (h:true=false):p:=by cases h
end L2
namespace L2
theorem qmH {α:Type} {xs:List α} {p:α→Bool} {b:Bool} (h:(fun bs:List Bool=>bs.any id) (xs.map p)=b):xs.any p=b:=by
  have h':(xs.map p).any id=b:=h
  rw [List.any_map] at h'
  exact h'
end L2
namespace L2
theorem qhg {α:Type} (f:α→D) (es:List α) (d:α):es.map f++[f d]=(es++[d]).map f:=by simp
theorem qnx {α:Type} (f:α→D) (es fs:List α):es.map f++fs.map f=(es++fs).map f:=by simp
end L2
namespace L2
open PySem PySem.Spec PyProof.Rows
section
variable {g : TGD} {te : TD} {ρ : Rho} {R : List D → Prop}
theorem qaX {α:Type} {f:α→D} {xs:List α} (h:α→Int) (hlen:xs.length<sizeLine) (hb:∀ x∈xs,g (f x) ρ fun ρ1=>te ρ1 fun y=>y=.int (h x)) (k:R ((xs.map h).map D.int)) :
    (xs.map f).length<sizeLine∧∃ P:Nat→D→Prop,(∀ i d,(xs.map f)[i]?=some d→g d ρ fun ρ1=>te ρ1 (P i))∧∀ ys:List D,ys.length=(xs.map f).length→(∀ i y,ys[i]?=some y→P i y)→R ys :=
  qbp (fun x=>D.int (h x)) hlen hb (by rw [List.map_map] at k;exact k)
end
section
variable {K : PySem.W.Frag} {X : Cx} {pins : List (Addr × Obj)} {σ : St} {Φ H : Hp} {s : Shared}
end
section
variable {K : PySem.W.Frag} {X : Cx} {a b : Expr} {ta tb : TD} {apos cpos : Pos}
end
section
variable {K : PySem.W.Frag} {X : Cx} {e b : Expr} {te tk : TD} {pos spos npos : Pos} {x : Str}
end
theorem qeh {α:Type}:∀ xs:List α,(List.range xs.length).filterMap (fun k=>xs[k]?)=xs
  | []=>rfl
  | x::xs=>by
    rw [List.length_cons,List.range_succ_eq_map,List.filterMap_cons,List.filterMap_map]
    exact congrArg (x::·) (qeh xs)
theorem qig (its:List Value):slicePick its.toArray none none (some (-1))=its.reverse.toArray:=by
  unfold slicePick
  have hb:sliceBounds none none (some (-1)) its.toArray.size=((its.length:Int) - 1,-1,-1):=by
    simp [sliceBounds]
  rw [hb]
  congr 1
  have hc:sliceRange ((its.length:Int) - 1) (-1) (-1)=(List.range its.length).map fun k=>its.length - 1 - k:=by
    unfold sliceRange
    have:(if (-1:Int)>0 then (if (its.length:Int) - 1 < -1 then (-1 - ((its.length:Int) - 1) + -1 - 1) / -1 else 0) else (if (its.length:Int) - 1 > -1 then ((its.length:Int) - 1 - -1 - -1 - 1) / (- -1) else 0)).toNat=its.length:=by
      rw [if_neg (by decide),show (- -1:Int)=1 from rfl,Int.ediv_one]
      split <;> omega
    simp only [this]
    refine List.map_congr_left fun k hk=>?_
    have:=List.mem_range.mp hk
    omega
  rw [hc,List.filterMap_map]
  have hcg:∀ (l:List Nat),(∀ k∈l,k<its.length)→l.filterMap ((fun i=>its.toArray[i]?) ∘ fun k=>its.length - 1 - k)=l.filterMap fun k=>its.reverse[k]?:=by
    intro l
    induction l with
    | nil=>intro _;rfl
    | cons k l ih =>
      intro h
      have hk:=h k List.mem_cons_self
      have e:((fun i=>its.toArray[i]?) ∘ fun k=>its.length - 1 - k) k=its.reverse[k]?:=by
        show its.toArray[its.length - 1 - k]?=its.reverse[k]?
        rw [List.getElem?_reverse hk,List.getElem?_toArray]
      rw [List.filterMap_cons,List.filterMap_cons,e,ih fun j hj=>h j (List.mem_cons_of_mem _ hj)]
  rw [hcg _ fun k hk=>List.mem_range.mp hk]
  have:=qeh its.reverse
  rw [List.length_reverse] at this
  exact this
section
variable {K : PySem.W.Frag} {X : Cx} {e a st : Expr} {pos p2 : Pos} {te : TE}
def qn0 (K:PySem.W.Frag):V→Hp→VK→Prop:=fun x H Q=>∃ a xs,x=.ref a∧SqL K H a xs∧∀ p,H p=none→Q (.ref p) (upd H p (.lst xs.reverse))
def qni (K:PySem.W.Frag) (te:TE) (ts:TO):TE:=fun σ H Q=>te σ H fun x H1=>ts σ H1 fun o H2=>o=some (-1)∧qn0 K x H2 Q
theorem qkI {sp:Expr} {ts:TO} (he:PE X e te) (hst:PO X (some sp) ts):PE X (.Subscript e (.Slice none none (some sp) p2) pos) (qni X.K te ts):=by
  intro pins s σ H Q I h
  refine Subscript_ (thn (he pins s σ H _ I h) fun v s1 hq0=>?_)
  obtain ⟨x,H1,I1,r1,q1⟩:=hq0
  refine wpAny_Slice ?_
  rw [evalPart_none]
  refine wpAny_pure (wpAny_pure (thn (hst pins s1 σ H1 _ I1 q1) fun vs s2 hq1=>?_))
  obtain ⟨o,H2,I2,ps,q2⟩:=hq1
  obtain ⟨rfl,a,xs,rfl,hx,q⟩:=q2
  cases r1
  have I4:Inv X pins σ H2 { s2 with heap:=s2.heap.push { cls:=.type "slice",data:=.fields #[.none,.none,vs] } }:=I2.kept (t':=s2.toks) fun b ob q=>Heap.get?_push_of_some _ q
  obtain ⟨its,r,ht,hz⟩:=I4.list hx
  have hlen:=r.length
  refine tail_any (ops:=[.ref a,.ref s2.heap.objs.size]) ht.isList.typeIs slot_list_getitem.lookup ?_ (by with_unfolding_all rfl)
  refine wpAny_getItem_list_slice ht.isList (Heap.IsSliceOf.new ..) .none .none ps (by simp) ?_ (by rw [List.size_toArray] <;> omega)
  rw [qig]
  refine ⟨.ref _,_,I4.laid (t':=s2.toks) (o:=.lst xs.reverse) (fun b ob q=>Heap.get?_push_of_some _ q) (Nat.le_refl _) ?_,rfl,q _ (I4.hok.fresh (Nat.le_refl _))⟩
  exact ⟨by rw [List.length_reverse];exact hz,_,0,r.reverse,Heap.get?_push_size _ rfl⟩
end
section
variable {K : PySem.W.Frag} {X : Cx} {a st : Expr} {pos p2 : Pos} {ta : TD} {to : TOD}
theorem qiZ {te:TE} {ts:TO} (hK:X.K=K) (he:PE X a te) (hst:PO X (some st) ts):PE X (.Subscript a (.Slice none none (some st) p2) pos) (qni K te ts):=hK ▸ qkI he hst
def qnB (x:D) (R:D→Prop):Prop:=match x with
  | .lst ds=>NF ds.reverse fun zs=>R (.lst zs)
  | .fzl ds=>NF ds.reverse fun zs=>R (.lst zs)
  | _=>False
def qod (t:TD) (to:TOD):TD:=fun ρ R=>t ρ fun x=>to ρ fun o=>o=some (-1)∧qnB x R
theorem qjV (ha:PQ K X a ta) (hs:POD K X (some st) to):PD K X (.Subscript a (.Slice none none (some st) p2) pos) (qod ta to) :=
  ⟨fun hK=>(qiZ hK (ha.pe hK) (hs.po hK)).imp fun σ H Q hq0=>by obtain ⟨H0,Φ,ρ,R,E,t,k⟩:=hq0;exact
    ⟨H0,Φ,ρ,_,E,t,fun dx Φ1 H1 x t1 g1 rx=>⟨H0,Φ1,ρ,_,E.gr g1,t1,fun o Φ2 H2 t2 g2=>by
      have g:=g1.trans g2
      have rx3:=rx.gr g2
      refine ⟨t2.1,?_⟩
      have t3:=t2.2
      cases dx with
      | lst ds =>
        obtain ⟨a,vs,rfl,q1,q2⟩:=rx3.lst g.s
        exact ⟨a,vs,rfl,.of q1,fun p hp=>k _ _ _ _ t3.get (g.trans (.new g.s hp _)) ((q2.reverse.same (qaG (g.s.free hp) _)).lst qan)⟩
      | fzl ds =>
        obtain ⟨a,vs,rfl,q1,q2⟩:=rx3.fzl g.s
        exact ⟨a,vs,rfl,q1,fun p hp=>k _ _ _ _ t3.get (g.trans (.new g.s hp _)) ((q2.reverse.same (qaG (g.s.free hp) _)).lst qan)⟩
      | _=>exact t3.elim⟩⟩⟩
end
section
variable {K : PySem.W.Frag} {Φ Φ0 Φ1 H H0 H1 : Hp} {p : Addr} {d : D} {v : V} {ds : List D} {vs : List V}
end
section
variable {K : PySem.W.Frag} {X : Cx} {e : Expr} {te : TD} {pos pos' : Pos}
end
section
variable {K : PySem.W.Frag} {X : Cx} {Φ H : Hp} {a e : Expr} {es : List Expr} {ta : TD} {tl : TDL} {C : Addr} {fl : Str} {pos p : Pos}
theorem qfF {g:Str} {d:D}:∀ {vs:List (Str × V)} {fs:List (Str × D)},vs.map (·.1)=fs.map (·.1)→(∀ (i:Nat) (v:Str × V) (e:Str × D),vs[i]?=some v→fs[i]?=some e→Rp K Φ e.2 v.2)→fs.lookup g=some d→∃ v,vs.lookup g=some v∧Rp K Φ d v
  | [],[],_,_,h=>by cases h
  | [],_::_,h,_,_=>by cases h
  | _::_,[],h,_,_=>by cases h
  | (x,v)::vs,(y,f)::fs,h,hr,hl=>by
    rw [List.map_cons,List.map_cons] at h
    obtain ⟨h1,h2⟩:=List.cons.inj h
    have h1:x=y:=h1
    subst h1
    rw [List.lookup_cons] at hl ⊢
    cases c:g == x with
    | true =>
      rw [c] at hl
      cases hl
      exact ⟨v,rfl,hr 0 _ _ rfl rfl⟩
    | false =>
      rw [c] at hl
      exact qfF h2 (fun i u e hu he=>hr (i+1) u e hu he) hl
def qoU (nm:Str) (f:Str) (t:TD):TD:=fun ρ R=>t ρ fun x=>match x with | .obj nm' fs=>nm'=nm∧∃ d,fs.lookup f=some d∧R d | _=>False
theorem qk8 {te:TE} (hK:X.K=K) (he:PE X a te) (hb:attributeBase a fl X.env (eval a X.env)=eval a X.env):PE X (.Attribute a fl pos) (qop K te fl):=hK ▸ qms he hb
theorem qbQ {nm:Str} (c:Cls K C) (nA:NoAttr K C fl) (hC:PySem.W.nsIn K mainGlobals nm=some (some (.ref C))) (ha:PQ K X a ta) (hb:attributeBase a fl X.env (eval a X.env)=eval a X.env:=by rfl):PD K X (.Attribute a fl pos) (qoU nm fl ta) :=
  ⟨fun hK=>(qk8 hK (ha.pe hK) hb).imp fun σ H Q hq0=>by obtain ⟨H0,Φ,ρ,R,E,t,k⟩:=hq0;exact ⟨H0,Φ,ρ,_,E,t,fun d Φ1 H1 v r g rv=>by
    cases d with
    | obj C' fs =>
      obtain ⟨rfl,d,hl,r⟩:=r
      rcases rv with rv | ⟨_,_,_,e,_⟩
      · cases rv with
        | obj h0 h1 h2 h3 =>
          rw [hC] at h0
          cases h0
          obtain ⟨v,hv,rd⟩:=qfF h2 h3 hl
          exact ⟨_,_,_,_,v,rfl,g.s _ _ h1,c,nA,hv,k d Φ1 H1 v r g rd⟩
      · cases e
    | _=>exact r.elim⟩⟩
def qoB (C:Addr) (ns:List Str):Sp:=fun vs H Q _=>∃ (x dx:Addr) (ws:List V),vs=.ref x::ws∧ws.length=ns.length∧H x=some (.ins C dx [])∧∀ H':Hp,(∀ b,b≠x→H' b=H b)→H' x=some (.ins C dx (ns.zip ws))→Q .non H'
def dMk (nm:Str) (ns:List Str) (t:TDL):TD:=fun ρ R=>t ρ fun ds=>ds.length=ns.length∧R (.obj nm (ns.zip ds))
variable {CX : CXT} {k : Nat} {f : Addr} {fd : FuncData} {ps ns : List Str} {x : Str} {E : XK}
theorem qcd {α:Type}:∀ {ns:List Str} {xs:List α},xs.length=ns.length→(ns.zip xs).map (·.1)=ns
  | [],[],_=>rfl
  | n::ns,y::xs,h=>by
    show n::(ns.zip xs).map (·.1)=_
    rw [qcd (by simpa using h)]
theorem qjT (hC:PySem.W.nsIn K mainGlobals x=some (some (.ref C))) (M:Mk K C f) (F:FnOk X.prog X.w X.K X.mg X.base CX k f fd ps (qoB C ns)) (hr:Room (k+1) X.A) (hg:Gl X x) (hm:X.mg x=some (.ref C)) (hb:Binds X.K fd ps []) (hx:qdu CX X E)
    (ha:PAD K X (e::es) tl) (he:starEach (e::es) X.env=(false,eval e X.env)::starEach es X.env) (hpl:(backTo pos (starEach es X.env)).any (·.1)=false) (hdb:(x == ("__debug__":Str))=false:=by decide) :
    PD K X (.Call (.Name x p) (e::es) [] pos) (dMk x ns tl) :=
  ⟨fun hK=>(qlx (show Mk X.K C f from hK ▸ M) F hr hg hm hb .nil hx (ha.pa hK) hdb he hpl).imp fun σ H Q hq0=>by obtain ⟨H0,Φ,ρ,R,E,t,k⟩:=hq0;exact ⟨H0,Φ,ρ,_,E,t,fun ds Φ1 H1 vs r g rl _=>by
    intro y dy hy hdy hne
    rw [List.append_nil]
    have lv:vs.length=ns.length:=by rw [rl.1];exact r.1
    refine ⟨y,dy,vs,rfl,lv,qan,fun H' hoff hon=>⟨rfl,?_⟩⟩
    have fy:=g.s.free hy
    have fdy:=g.s.free hdy
    have old:∀ b u,H1 b=some u→H' b=some u:=fun b u e=>by
      have n1:b≠y:=qat e hy
      have n2:b≠dy:=qat e hdy
      rw [hoff b n1,qau n1,qau n2]
      exact e
    have sf:Same Φ1 (upd Φ1 y (.ins C dy (ns.zip vs))):=qaG fy _
    have g2:Gr Φ1 H1 (upd Φ1 y (.ins C dy (ns.zip vs))) H':=⟨sf,old,fun b u e=>by
      by_cases c:b=y
      · subst c;rw [qan] at e;cases e;exact hon
      · rw [qau c] at e;exact old b u (g.s b u e),fun q u hq hn _=>by rw [qau (qat hq hy)];exact hn⟩
    refine k _ _ H' _ r.2 (g.trans g2) (.obj (dx:=dy) hC qan ?_ fun i v d hv hd=>?_)
    · rw [qcd lv,qcd r.1]
    · rw [List.getElem?_zip_eq_some] at hv hd
      exact (rl.2 i v.2 d.2 hv.2 hd.2).same sf⟩⟩
end
section
variable {prog : Program} {w : World} {A : Around} {E : Value → Shared → Prop} {s : Shared}
theorem qeq {Q:List Value→Shared→Prop} {r:Addr} {a b c:Int} {t u v:Tok} {n:Nat} (hh:A.handled=none) (hr:IsRange s.heap r a b c t u v) (hsmall:Builtin.Range.small a b c=true)
    (hn:Builtin.Range.rangeSize a b c=n) (hlen:n≤2 ^ 24)
    (hQ:∀ h' tk acc',(∀ b o',s.heap.get? b=some o'→h'.get? b=some o')→ItemsOf (fun i v=>∃ t,v=.int (a+i*c) t) acc' n→Q acc'.toList { s with heap:=h',toks:=tk }) :
    wpAny (model prog w) A (collect (.ref r)) Q E s:=by
  unfold collect
  refine wpAny_bind (wpAny_runValue (codeAny_builtin F.entry_proto_collect ?_))
  rw [Around.under_plainId F.plain_proto_collect _]
  show wpAny _ A.in1 (newList [] >>= fun l=>again (.builtin "list.__iadd__" ⟨[l,.ref r],[]⟩)) _ _ s
  refine wpAny_bind (wpAny_newObj_type ?_)
  refine wpAny_pure ⟨plainId_quiet F.plain_list_iadd _,codeAny_builtin F.entry_list_iadd ?_⟩
  rw [Around.under_plainId F.plain_list_iadd _]
  show wpAny _ A.in1 (Builtin.List.listExtendWith (.ref s.heap.objs.size) (.ref r) (.ref s.heap.objs.size)) _ _ _
  have hS:(s.heap.push { cls:=.type "list",data:=.seq ([]:List Value).toArray }).get? s.heap.objs.size=some { cls:=.type "list",data:=.seq #[] 0 }:=Heap.get?_push_size _ rfl
  have fin':∀ (h':Heap) (tk:Nat) (acc':Array Value) (c':Nat),(∀ b o,b≠s.heap.objs.size→(s.heap.push { cls:=.type "list",data:=.seq ([]:List Value).toArray }).get? b=some o→h'.get? b=some o) →
      h'.get? s.heap.objs.size=some { cls:=.type "list",dict:=none,data:=.seq acc' c',slots:=#[] }→ItemsOf (fun i v=>∃ t,v=.int (a+i*c) t) acc' n→wpAny (model prog w) A (match Value.ref s.heap.objs.size with
      | Value.ref a=>do
        match (← load a).data with
          | Data.seq xs _=>pure xs.toList
          | _=>unsupported "internal:collect"
      | _=>unsupported "internal:collect") Q E { s with heap:=h',toks:=tk }:=fun h' tk acc' c' hk hS' hacc=>by
    show wpAny _ A (load s.heap.objs.size >>= _) _ _ _
    refine wpAny_bind (wpAny_load hS' ?_)
    refine wpAny_pure ?_
    exact hQ h' tk acc' (fun b o hb=>hk b o (Nat.ne_of_lt (Heap.lt_size hb)) (Heap.get?_push_of_some _ hb)) hacc
  refine wpAny_mono (wpAny_extend_range (A:=A) (R:=fun r s'=>r=.ok (.ret (.ref s.heap.objs.size))∧∃ h' tk acc' c',s'={ s with heap:=h',toks:=tk }∧(∀ b o,b≠s.heap.objs.size→(s.heap.push { cls:=.type "list",data:=.seq ([]:List Value).toArray }).get? b=some o→h'.get? b=some o)∧h'.get? s.heap.objs.size=some { cls:=.type "list",dict:=none,data:=.seq acc' c',slots:=#[] }∧ItemsOf (fun i v=>∃ t,v=.int (a+i*c) t) acc' n)
    (s:={ s with heap:=s.heap.push { cls:=.type "list",data:=.seq ([]:List Value).toArray } }) hh (Heap.get?_push_of_some _ hr) hsmall hn hlen _ _ 0 hS fun h' tk acc' c' hk hS' hacc=>⟨rfl,h',tk,acc',c',rfl,hk,hS',hacc⟩) (fun fin s' h=>?_) (fun e s' h=>?_)
  · cases fin with
    | done f =>
      obtain ⟨e,h',tk,acc',c',rfl,hk,hS',hacc⟩:=h
      cases e
      exact fin' h' tk acc' c' hk hS' hacc
    | again c'=>exact ⟨h.1,codeAny_mono h.2 fun r s'' hr=>by
        obtain ⟨rfl,h',tk,acc',c',rfl,hk,hS',hacc⟩:=hr
        exact fin' h' tk acc' c' hk hS' hacc⟩
  · exact absurd h.1 (by simp)
theorem qda {Q₁:Value→Shared→Prop} {r:Addr} {a b c:Int} {t u v:Tok} {n:Nat} (hh:A.handled=none) (hr:IsRange s.heap r a b c t u v) (hsmall:Builtin.Range.small a b c=true)
    (hn:Builtin.Range.rangeSize a b c=n) (hlen:n≤2 ^ 24)
    (h:∀ (h':Heap) (tk:Nat) (acc:Array Value),(∀ b o',s.heap.get? b=some o'→h'.get? b=some o')→ItemsOf (fun i v=>∃ t,v=.int (a+i*c) t) acc n→Q₁ (.ref h'.objs.size) { s with heap:=h'.push { cls:=.type "tuple",data:=.seq acc },toks:=tk }) :
    codeAny (model prog w) A (.call (.builtin "tuple.__new__") ⟨[.type "tuple",.ref r],[]⟩) (wants Q₁ E) s:=by
  refine codeAny_of_tree ?_
  show wpAny _ A.in1 (do checkBuiltinCall "tuple.__new__" ⟨[.type "tuple",.ref r],[]⟩;again (.builtin "tuple.__new__" ⟨[.type "tuple",.ref r],[]⟩)) _ _ s
  refine wpAny_bind (wpAny_of_eq (F.newCall_tuple_1 _) (wpAny_pure ⟨plainId_quiet F.plain_tuple_new _,codeAny_builtin F.entry_tuple_new ?_⟩))
  rw [Around.under_plainId F.plain_tuple_new _]
  have hsub:=sub_tuple_self
  have hinit:=init_tuple_lookup
  have hmh:=madeHere_tuple
  have hTI:s.TypeIs (.ref r) "range":=⟨_,hr,rfl⟩
  wp_walk using wpAny_typeOf hTI,qeq (A:=A.in1) hh hr hsmall hn hlen
  intro h' tk acc hk hacc
  show wpAny _ _ (Builtin.Tuple.tupleExact acc.toList.toArray >>= fun v=>ret v) _ _ _
  unfold Builtin.Tuple.tupleExact
  refine wpAny_bind (wpAny_newObj_type ?_ (by show acc.toList.toArray.size≤sizeLine;simp only [Array.toArray_toList];rw [hacc.1,sizeLine_eq];omega))
  refine wpAny_pure ?_
  have e:acc.toList.toArray=acc:=by simp
  rw [e]
  exact h h' tk acc hk hacc
theorem qc7 {Q:Value→Shared→Prop} {r:Addr} {a b c:Int} {t u v:Tok} {n:Nat} (hh:A.handled=none) (hr:IsRange s.heap r a b c t u v) (hsmall:Builtin.Range.small a b c=true)
    (hn:Builtin.Range.rangeSize a b c=n) (hlen:n≤2 ^ 24)
    (hQ:∀ (h':Heap) (tk:Nat) (acc:Array Value),(∀ b o',s.heap.get? b=some o'→h'.get? b=some o')→ItemsOf (fun i v=>∃ t,v=.int (a+i*c) t) acc n→Q (.ref h'.objs.size) { s with heap:=h'.push { cls:=.type "tuple",data:=.seq acc },toks:=tk }) :
    wpAny (model prog w) A (call (.type "tuple") [.ref r]) Q E s:=by
  refine callType_codes (Q₁:=fun obj s₁=>s₁.TypeIs obj "tuple"∧Q obj s₁) F.called_tuple (F.typeCall_tuple_1 _) F.entry_object_init
    (qda hh hr hsmall hn hlen fun h' tk acc hk hacc=>⟨⟨_,Heap.get?_push_size _ rfl,rfl⟩,hQ h' tk acc hk hacc⟩) fun obj s₁ h₁=>?_
  exact ⟨h₁.1,F.args_object_init_2 obj _,object_init_meets F.called_tuple.init.lookup F.called_tuple.made (by decide) prog w A.in1 _ s₁ ⟨h₁.1,rfl,h₁.2⟩⟩
end
section
variable {K : PySem.W.Frag} {X : Cx} {a : Expr} {pos p p2 pos2 : Pos} {tl : TDL}
def qoZ (t:TA):TE:=fun σ H Q=>t σ H fun vs H1=>∃ j:Int,vs=[.int j]∧∀ r,H1 r=none→Q (.ref r) (upd H1 r (.rng 0 j))
theorem qif {ta:TA} (hg:Gl X "range") (hm:X.mg "range"=none) (ha:PA X [a] ta) (hs:starEach [a] X.env=[(false,eval a X.env)]:=by rfl):PE X (.Call (.Name "range" p) [a] [] pos) (qoZ ta):=by
  intro pins s σ H R I h
  refine Call_ (qc0 I hg hm boot_range (PyProof.Rows.callWith_type1 (thn (ha pos pins s σ H _ I h) fun us s1 hq0=>?_) hs rfl))
  obtain ⟨vs,H1,I1,r1,q1⟩:=hq0
  obtain ⟨j,e,q⟩:=q1
  subst e
  cases r1 with
  | cons r rr =>
    cases rr
    obtain ⟨t,rfl⟩:=r
    refine call_range_1 ⟨.ref s1.heap.objs.size,_,I1.laid (a:=s1.heap.objs.size) (o:=.rng 0 j) (t':=s1.toks+1+1) (fun b o e=>Heap.get?_push_of_some _ e) (Nat.le_refl _) ⟨_,_,_,Heap.get?_push_size _ rfl⟩,rfl,q _ (I1.hok.fresh (Nat.le_refl _))⟩
def qco (n:Nat):List V:=(List.range n).map fun i=>V.int (i:Nat)
theorem qcj (n:Nat):(qco n).length=n:=by unfold qco;simp
theorem qfE {α β:Type} {F:α→β→Prop}:∀ {xs:List α} {ys:List β},xs.length=ys.length→(∀ (i:Nat) x y,xs[i]?=some x→ys[i]?=some y→F x y)→Paired F xs ys
  | [],[],_,_=>.nil
  | x::xs,y::ys,hl,h=>.cons (h 0 x y rfl rfl) (qfE (by simpa using hl) fun i u v hu hv=>h (i+1) u v hu hv)
theorem qfB {n i:Nat} {v:V} (h:(qco n)[i]?=some v):v=.int (i:Nat):=by
  have hi:i<n:=by have:=qaF h;rwa [qcj] at this
  unfold qco at h
  rw [List.getElem?_map,List.getElem?_range hi] at h
  cases h
  rfl
theorem qd3 (hcalm:X.calm=true):qcl X (.type "tuple") (fun xs H Q=>∃ p j,xs=[.ref p]∧H p=some (.rng 0 j)∧-(2 ^ 62)≤j∧j≤1000∧∀ l,H l=none→Q (.ref l) (upd H l (.tup (qco j.toNat)))):=by
  intro pins s σ H xs us Q I r h
  obtain ⟨p,j,rfl,hp,j0,j1,q⟩:=h
  obtain ⟨u,rfl,rx⟩:=qfe r
  cases rx
  obtain ⟨t,u,v,ho⟩:=(show ObjOk X.prog X.w H s.heap p (.rng 0 j) from I.hok p _ hp)
  have hn:Builtin.Range.rangeSize 0 j 1=(j.toNat:Int):=by rw [rangeSize_one];split <;> omega
  refine qc7 (I.ok.hd hcalm) ho (small_one (by decide) (by decide) j0 (by omega)) hn (by omega) fun h' tk acc kp hacc=>?_
  have I1:Inv X pins σ H { s with heap:=h',toks:=tk }:=I.kept (t':=tk) kp
  have hv:Vals (qco j.toNat) acc.toList:=qfE (by rw [qcj,Array.length_toList,hacc.1]) fun i x y hx hy=>by
    rw [qfB hx]
    obtain ⟨t,rfl⟩:=hacc.2 i y (by simpa using hy)
    exact ⟨t,by simp⟩
  have I2:Inv X pins σ (upd H h'.objs.size (.tup (qco j.toNat))) { s with heap:=h'.push { cls:=.type "tuple",data:=.seq acc },toks:=tk } :=
    I1.laid (t':=tk) (fun b o e=>Heap.get?_push_of_some _ e) (Nat.le_refl _) (show ObjOk X.prog X.w _ _ _ (.tup (qco j.toNat)) from ⟨by rw [qcj,sizeLine_eq];omega,acc.toList,hv,by simpa using IsTup.new _ _⟩)
  exact ⟨.ref h'.objs.size,_,I2,rfl,q _ (I1.hok.fresh (Nat.le_refl _))⟩
def qhB (t:TDL):TD:=fun ρ R=>t ρ fun ds=>match ds with | [.int j]=>(-(2 ^ 62)≤j∧j≤1000)∧R (.tup (qbz 0 j.toNat)) | _=>False
theorem qkX {Φ:Hp} (n:Nat):RpL K Φ (qbz 0 n) (qco n):=⟨by rw [qcj,qaZ],fun i v d hv hd=>by
  rw [qfB hv,(qbu hd).2,Int.zero_add]
  exact .int _⟩
theorem qen (hcalm:X.calm=true) (hg1:Gl X "tuple") (hm1:X.mg "tuple"=none) (hg2:Gl X "range") (hm2:X.mg "range"=none) (ha:PAD K X [a] tl) (hs:starEach [a] X.env=[(false,eval a X.env)]:=by rfl) :
    PD K X (.Call (.Name "tuple" p) [.Call (.Name "range" p2) [a] [] pos2] [] pos) (qhB tl) :=
  ⟨fun hK=>(qdA (qd3 hcalm) hg1 hm1 boot_tuple (qb5 (qif hg2 hm2 (ha.pa hK) hs) pa_nil qaj) (by decide) (by decide) qaj qad).imp fun σ H Q hq0=>by obtain ⟨H0,Φ,ρ,R,E,t,k⟩:=hq0;exact ⟨H0,Φ,ρ,_,E,t,fun ds Φ1 H1 vs r g rl _=>by
    match ds,r with
    | [.int j],r =>
      obtain ⟨v,rfl,r1⟩:=rl.one_inv
      cases r1
      refine ⟨j,rfl,fun r0 hr0=>⟨r0,j,rfl,qan,r.1.1,r.1.2,fun l hl=>?_⟩⟩
      have g1:=Gr.fresh g.s hr0 (.rng 0 j)
      have g2:=Gr.new g1.s hl (.tup (qco j.toNat))
      exact k _ _ _ _ r.2 ((g.trans g1).trans g2) ((qkX _).tup (.of qan))⟩⟩
end
def qiD (X:Cx) (A:Around) (scope:Scope) (N':List Str) (cl:List (Str × Addr)) (f:Addr) (qual:Str) (cd:Value) (s0:Shared) (H0:Hp):Cx where
  prog:=X.prog
  w:=X.w
  K:=X.K
  mg:=X.mg
  base:=X.base
  A:=A.deeper (PySem.W.envX qual scope s0.heap.objs.size f cd cl)
  N:=N'
  s₀:=s0
  H₀:=H0
  env:=PySem.W.envX qual scope s0.heap.objs.size f cd cl
  outer:=X.stack
  stack:=PySem.W.envX qual scope s0.heap.objs.size f cd cl::X.stack
  ex:=[]
  fn:=fun _=>false
  calm:=true
  pn:=[]
  xe:=fun _ _=>False
section
variable {X : Cx} {A : Around} {scope : Scope} {p : Str} {r : List Str} {cap : List (Option Nat)} {cl : List (Str × Addr)} {f c' : Addr} {qual name : Str} {cd pm ctv : Value} {pins : List (Addr × Obj)} {σ : St} {H : Hp} {s s1 : Shared} {v : V} {u : Value} {params : Arguments} {body : Expr} {te : TE} {Q : VK} {E : Value → Shared → Prop}
theorem qlw (hnc:∀ y∈scope.names,y.2≠.cell) (S:CompScope X.N X.env.scope scope (p::r) (none::cap)) (hpl:scope.names.lookup p=some .local) (hA:A.frames=some X.stack) (hh:A.handled=none) (I:Inv X pins σ H s)
    (hcl:∀ x c,cl.lookup x=some c→X.env.cells.lookup x=some c) (hfr:∀ x,(x,NameKind.free)∈scope.names→∃ c,cl.lookup x=some c) (hos:s1.os=s.os) (hg:s1.gens=s.gens)
    (hk:∀ b o,s.heap.get? b=some o→s1.heap.get? b=some o) (hn:s1.heap.Ns s.heap.objs.size (fun y=>List.lookup y [(p,u)])) (rv:RelV v u) :
    Inv (qiD X A scope (p::r) cl f qual cd s H) [] ((qb4 (none::cap) σ).set 0 (some v)) H s1:=by
  have noA:∀ b:Addr,b∉(qiD X A scope (p::r) cl f qual cd s H).ex:=fun b z=>absurd (show b∈([]:List Addr) from z) (by simp)
  refine ⟨⟨I.ok.mod,S.kind,rfl,rfl,Nat.le_refl _,fun x y c h1 h2=>I.ok.inj x y c (hcl x c h1) (hcl y c h2),fun x hx=>?_,fun x c hx _=>absurd hx (by show ¬ (false=true);decide),fun _=>hh,Around.frames_deeper hA,.inr ⟨rfl,rfl⟩,
      fun b hb=>absurd hb (noA b),I.bs,Nat.le_trans I.ok.bsz I.sz,fun b o e hb=>absurd hb (noA b),fun b hb hf=>absurd hb (noA b),I.stack,I.stkFree⟩,
    hos,by rw [hg];exact I.bare,Un.kept hk,⟨_,hn,fun i x v' h1 h2 h3=>?_⟩,fun x c e=>?_,I.hok.fresh (Nat.le_refl _),fun x c e=>I.freeC x c (hcl x c e),fun p hp=>absurd (show p∈([]:List (Addr × Obj)) from hp) (by simp),I.hok.kept hk,?_⟩
  · have hx:scope.names.lookup x=some .cell∨scope.names.lookup x=some .free:=hx
    rcases hx with hx | hx
    · exact absurd rfl (hnc _ (PySem.mem_of_lookup hx))
    · exact hfr x (PySem.mem_of_lookup hx)
  · rcases qa9 h2 with ⟨rfl,_,e1⟩ | ⟨c0,h2⟩
    · cases e1
      have h1:(p::r)[0]?=some x:=h1
      cases h1
      exact ⟨u,rv,.inl ⟨hpl,by simp⟩⟩
    · have h2:((none::cap).map fun o=>o.bind fun i=>(σ[i]?).join)[i]?=some (some v'):=h2
      rw [List.getElem?_map] at h2
      cases ec:(none::cap)[i]? with
      | none=>rw [ec] at h2;cases h2
      | some o =>
        rw [ec] at h2
        have h2:(o.bind fun i=>(σ[i]?).join)=some v':=by simpa using h2
        cases o with
        | none=>cases h2
        | some j =>
          have h2:(σ[j]?).join=some v':=h2
          have hj:σ[j]?=some (some v'):=by
            cases ej:σ[j]? with
            | none=>rw [ej] at h2;cases h2
            | some y=>rw [ej] at h2;exact congrArg some h2
          have hz:((none::cap).zip (p::r))[i]?=some (some j,x):=by rw [List.getElem?_zip_eq_some];exact ⟨ec,h1⟩
          obtain ⟨q1,q2⟩:=S.at_ _ (List.mem_of_getElem? hz) j rfl
          obtain ⟨mx,hnx,hl⟩:=I.loc
          have kc:=S.free _ q2 rfl
          obtain ⟨u',r',lk⟩:=hl j x v' q1 hj (.inr (.inl kc))
          refine ⟨u',r',?_⟩
          rcases lk with ⟨k1,_⟩ | ⟨_,c,e,z⟩
          · have:X.env.scope.names.lookup x=some .local:=k1
            rw [kc] at this;cases this
          · obtain ⟨c',hc'⟩:=hfr x q2
            have:=hcl x c' hc'
            rw [e] at this;cases this
            exact .inr ⟨.inr (S.fst _ q2 rfl),c,hc',let ⟨o,ho,hd⟩:=z;⟨o,hk c o ho,hd⟩⟩
  · obtain ⟨v,o,ho,hd⟩:=I.cell x c (hcl x c e)
    exact ⟨v,o,hk c o ho,hd⟩
  · show ((qb4 (none::cap) σ).set 0 (some v)).length=(p::r).length
    rw [List.length_set]
    unfold qb4
    rw [List.length_map,S.len]
theorem qi7 (hnc:∀ y∈scope.names,y.2≠.cell) (S:CompScope X.N X.env.scope scope (p::r) (none::cap)) (hpl:scope.names.lookup p=some .local) (hA:A.frames=some X.stack) (hh:A.handled=none) (hroom:A.depth<recursionLimit) (I:Inv X pins σ H s)
    (hcl:∀ x c,cl.lookup x=some c→X.env.cells.lookup x=some c) (hfr:∀ x,(x,NameKind.free)∈scope.names→∃ c,cl.lookup x=some c)
    (ho:s.heap.get? f=some (PySem.W.kla_obj name qual params body scope cl pm c' ctv)) (hcd:s.heap.CodeRec (.ref c') qual)
    (hbind:bindArgs (PySem.W.kla_fn name qual params body scope cl pm (.ref c') ctv) ⟨[u],[]⟩=pure [(p,u)]) (hco:scope.isCoroutine=false) (hgen:scope.isGenerator=false)
    (hb:PE (qiD X A scope (p::r) cl f qual (.ref c') s H) body te) (rv:RelV v u) (hq:te ((qb4 (none::cap) σ).set 0 (some v)) H Q) :
    wpAny (model X.prog X.w) A (call (.ref f) [u]) (EP X pins σ Q) E s:=by
  refine wpAny_call (PySem.W.kla_callFunE hroom ho rfl hco hgen rfl hcd ?_)
  rw [hbind]
  refine wpAny_pure (wpAny_newFunctionEnv hnc (fun y hy=>by rw [show y=(p,u) by simpa using hy];exact hpl) (fun h₁ hns hsb=>⟨I.nolimit.fresh _ hsb,?_⟩) S.kind)
  have hk₁:∀ b o,s.heap.get? b=some o→h₁.get? b=some o:=fun b o e=>hsb.extBut b o (Nat.ne_of_lt (Heap.lt_size e)) (Heap.get?_push_of_some _ e)
  show codeAny _ _ (.expr body (PySem.W.envX qual scope s.heap.objs.size f (.ref c') cl)) _ _
  have Iv:Inv (qiD X A scope (p::r) cl f qual (.ref c') s H) [] ((qb4 (none::cap) σ).set 0 (some v)) H { s with heap:=h₁,toks:=s.toks+1 } :=
    qlw hnc S hpl hA hh I hcl hfr rfl rfl hk₁ hns rv
  refine PySem.W.kla_codeExpr (wpAny_mono (hb [] _ _ H Q Iv hq) (fun u' s' hq0=>?_) fun _ _ z=>z.elim)
  obtain ⟨x,H',I',r',q⟩:=hq0
  exact ⟨x,H',I.call' (ch:=[]) I'.os I'.base I'.hok I'.bare (fun b z=>absurd z (by simp)),r',q⟩
end
section
variable {X : Cx} {A : Around} {pins : List (Addr × Obj)} {σ : St} {H : Hp} {s : Shared} {params : Arguments} {body : Expr} {scope : Scope} {pos : Pos} {c P : Addr} {t0 : Tok} {Q : Value → Shared → Prop} {E : Value → Shared → Prop}
theorem Inv.bat (I:Inv X pins σ H s) {ps:Array Value} (hP:s.heap.get? P=some (PySem.W.tabObj ps)):mainGlobals≠P∧s.heap.BuiltinsAt X.mg P:=by
  have G:=I.mod.glob.keeps I.bk
  have hgP:mainGlobals≠P:=fun q=>by
    obtain ⟨o,es,ep,e,hd,_⟩:=G
    rw [q,hP] at e;cases e;cases hd
  obtain ⟨bm,ob,b1,b2,b3,b4,b5,b6⟩:=I.mod.bmod
  have b3:=I.bk _ _ b3
  refine ⟨hgP,bm,ob,b1,b2,fun q=>?_,fun q=>?_,b3,b4,b5,b6⟩
  · obtain ⟨o,es,ep,e,hd,_⟩:=G
    rw [q,e] at b3;cases b3;rw [hd] at b6;cases b6
  · rw [q,hP] at b3;cases b3;cases b4
theorem Inv.tabbed (I:Inv X pins σ H s) {ps:Array Value} (hP:H P=some (.tbl ps)) {c':Addr} {h':Heap} {o:Obj} {vs:Array Value} {x y:Value} {q:Str} {t t':Tok} (tk:Nat) (hps:ps=#[x,y,.str q t])
    (hx:Heap.ExtBut P s.heap h') (hge:s.heap.objs.size≤c') (ho:h'.get? c'=some o) (hd:o.data=.fields vs) (hv:vs[1]?=some (.str q t')) (hT:h'.get? P=some (PySem.W.tabObj #[x,y,.ref c'])) :
    Inv X pins σ (upd H c' (.frz o (.own P))) { s with heap:=h',toks:=tk }:=by
  have hn:H c'=none:=I.hok.fresh hge
  have nP:∀ b,H b=none→b≠P:=fun b e z=>by rw [z,hP] at e;cases e
  have up:∀ b u,H b=some u→upd H c' (.frz o (.own P)) b=some u:=fun b u e=>by rw [qau (qat e hn)];exact e
  have lt:∀ b ob,s.heap.get? b=some ob→b≠c':=fun b ob e=>Nat.ne_of_lt (Nat.lt_of_lt_of_le (Heap.lt_size e) hge)
  refine I.un ⟨fun b ob e n _ _=>hx b ob (nP b n) e,fun b ob e n _ _=>⟨ob.slots,hx b ob (nP b n) e⟩,fun b ob e n _=>by rw [qau (lt b ob e)];exact n,fun b ob e _=>?_,fun b xs e=>up _ _ e,fun b ob u e=>up _ _ e,fun b us e=>up _ _ e⟩ fun b u e=>?_
  · by_cases hb:b=P
    · subst hb;exact ⟨_,hT⟩
    · exact ⟨ob,hx b ob hb e⟩
  · by_cases hb:b=c'
    · subst hb
      rw [qan] at e
      cases e
      exact ⟨ho,o,ho⟩
    · rw [qau hb] at e
      by_cases hp:b=P
      · subst hp
        rw [hP] at e
        cases e
        exact .inr ⟨c',o,vs,x,y,q,t,t',hps,qan,hT,hd,hv⟩
      · refine (I.hok b u e).stay (fun d w hc q=>hx d w ?_ q) (fun d q=>up _ _ q) (fun d xs q=>up _ _ q) fun d ob w q=>up _ _ q
        rcases hc with z | z
        · rw [z];exact hp
        · intro z2;rw [z2,hP] at z;cases z
theorem qjo (hP:H P=some (.tbl #[rawInt pos.line,rawInt pos.col,.str (X.env.qual++"<lambda>") t0])) (hcode:X.env.code=.ref c) (hC:PySem.W.codeHdIn X.K c P=true) (hdef:defaultsOf params X.env=([],[])) (I:Inv X pins σ H s)
    (hfree:∀ x∈scope.names,x.2=.free→X.env.scope.names.lookup x.1=some .cell)
    (h:∀ (f c':Addr) (cl:List (Str × Addr)) (pm ctv:Value) (o:Obj) (vs:Array Value) (t':Tok) (H':Hp) (s':Shared),(∀ x c,cl.lookup x=some c→X.env.cells.lookup x=some c)→(∀ x,(x,NameKind.free)∈scope.names→∃ c,cl.lookup x=some c) →
      (H'=H∨∃ b u,H b=none∧(∀ xs,u≠.lst xs)∧H'=upd H b u)→Inv X pins σ H' s'→s'.heap.get? f=some (PySem.W.kla_obj "<lambda>" (X.env.qual++"<lambda>") params body scope cl pm c' ctv)→FpOk X pins H' f →
      H' c'=some (.frz o (.own P))→o.data=.fields vs→vs[1]?=some (.str (X.env.qual++"<lambda>") t')→s.heap.objs.size≤f→Q (.ref f) s') :
    wpAny (model X.prog X.w) A (eval (.Lambda params body scope pos) X.env) Q E s:=by
  have C:=PySem.W.codeHd_of_K I.kIn hC
  obtain ⟨cl,hcl,h1,h2⟩:=qbV (scope:=scope) (env:=X.env) fun x hx hf=>I.ok.has x.1 (.inl (hfree x hx hf))
  have G:=I.mod.glob.keeps I.bk
  refine PySem.W.kla_eval hdef ?_
  rcases (show ObjOk X.prog X.w H s.heap P (.tbl _) from I.hok P _ hP) with hT | ⟨c',o,vs,x,y,q,t,t',e1,e2,e3,e4,e5⟩
  · obtain ⟨hgP,hb⟩:=I.bat hT
    refine PySem.W.kla_makeFunction (mg:=X.mg) hcl I.ok.glob G hcode C hT (show TriplesOk [] from trivial) rfl hgP hb fun c' ctv h' tk hx hge hlt hrec htb=>?_
    obtain ⟨c2,o,vs,t',e,ho,hd,hv⟩:=hrec
    cases e
    have I1:=I.tabbed hP tk rfl hx hge ho hd hv (by simpa using htb)
    have I2:Inv X pins σ _ { s with heap:=h'.push (PySem.W.kla_obj "<lambda>" (X.env.qual++"<lambda>") params body scope cl ((X.mg "__name__").getD .none) c' ctv),toks:=tk }:=I1.kept (t':=tk) fun b u e=>Heap.get?_push_of_some _ e
    refine h h'.objs.size c' cl _ ctv o vs t' _ _ h1 h2 (.inr ⟨c',_,I.hok.fresh hge,fun xs z=>(by cases z),rfl⟩) I2 (Heap.get?_push_size _ rfl) (I1.fpOk (Nat.le_refl _) (I1.hok.fresh (Nat.le_refl _))) qan hd hv (Nat.le_trans hge (Nat.le_of_lt hlt))
  · cases e1
    obtain ⟨_,hb⟩:=I.bat e3
    refine PySem.W.kla_makeFunctionHit (cv:=.ref c') (mg:=X.mg) hcl I.ok.glob G hcode C e3 (show TriplesOk [.int _ _,.int _ _,_] from trivial) (by simp [codeAmong,rawInt]) hb fun ctv h' tk hk hsz=>?_
    have I1:Inv X pins σ H { s with heap:=h',toks:=tk }:=I.kept (t':=tk) hk
    have I2:Inv X pins σ H { s with heap:=h'.push (PySem.W.kla_obj "<lambda>" (X.env.qual++"<lambda>") params body scope cl ((X.mg "__name__").getD .none) c' ctv),toks:=tk }:=I1.kept (t':=tk) fun b u e=>Heap.get?_push_of_some _ e
    exact h h'.objs.size c' cl _ ctv o vs t' H _ h1 h2 (.inl rfl) I2 (Heap.get?_push_size _ rfl) (I1.fpOk (Nat.le_refl _) (I1.hok.fresh (Nat.le_refl _))) e2 e4 e5 hsz
end
theorem FpOk.to {X:Cx} {pins:List (Addr × Obj)} {H H':Hp} {b:Addr} (h:FpOk X pins H b) (hn:H' b=none):FpOk X pins H' b:=⟨hn,h.2⟩
section
variable {X : Cx} {pins : List (Addr × Obj)} {σ : St} {H : Hp} {xs : List V} {l S I f : Addr} {fob : Obj} {kf : Nat → Int} {G : Hp → Prop} {R : Result → Shared → Prop} {kw : List (Str × Value)}
theorem qjt (hh:X.A.handled=none) (hfo:∀ v,fob.data≠.cell v) (fS:FpOk X pins H S) (fI:FpOk X pins H I) (ff:FpOk X pins H f) (nSI:S≠I) (nSf:S≠f) (nIf:I≠f) (nlI:l≠I)
    (hG:∀ H',G H'→H' l=some (.lst xs))
    (turn:∀ (i:Nat) (x:V) (u:Value) (s:Shared) (H':Hp) (pl:List (Addr × Obj)),xs[i]?=some x→RelV x u→G H'→s.heap.get? f=some fob→Inv X pl σ H' s →
      wpAny (model X.prog X.w) X.A.in1 (call (.ref f) [u]) (EP X pl σ fun v H2=>v=.int (kf i)∧G H2) (fun _ _=>False) s)
    (hR:∀ i x u s H',xs[i]?=some x→RelV x u→(∀ j,j<xs.length→kf i≤kf j∧(j<i→kf i<kf j))→G H'→Inv X pins σ H' s→R (.ok (.ret u)) s) :
    ∀ (r j i:Nat) (s:Shared) (H':Hp) (x:V) (vb:Value) (tb:Tok) (c:Nat),xs.length - (j+1)=r→j+1≤xs.length→G H'→Inv X pins σ H' s→H' S=none→H' I=none→H' f=none →
      s.heap.get? S=some (seqObj "list" #[vb,.int (kf i) tb] c)→s.heap.IsListIter I l (j+1)→s.heap.get? f=some fob→xs[i]?=some x→RelV x vb→i≤j→(∀ j',j'≤j→kf i≤kf j'∧(j'<i→kf i<kf j')) →
      codeAny (model X.prog X.w) X.A (.builtin "min.loop" ⟨[.ref I,.ref f,.ref S],kw⟩) R s:=by
  have hname:(toString "min"++toString ".loop":String)="min.loop":=by decide
  intro r
  induction r with
  | zero =>
    intro j i s H' x vb tb c hr hj hg IV nS nI nf oS hit of hx rv hij hbest
    have hin:j+1=xs.length:=by omega
    obtain ⟨hz,its,n,rvs,e1,e2⟩:=IV.lstM (hG H' hg)
    have W:=Walks.list (prog:=X.prog) (w:=X.w) (A:=X.A.in1) hh I l nlI its.toArray
    have hsz:its.toArray.size=xs.length:=by rw [List.size_toArray,e1]
    refine codeAny_builtin PySem.F.entry_min_loop ?_
    rw [Around.under_plainId PySem.F.plain_min_loop _]
    show wpAny _ X.A.in1 (seqItems? (.ref S) >>= _) _ _ _
    refine wpAny_bind (wpAny_seqItems oS rfl ?_)
    show wpAny _ X.A.in1 (tryCatch (pyNext (.ref I)) _ >>= _) _ _ _
    refine wpAny_bind (wpAny_tryCatch (W.done _ _ _ ⟨by rw [hsz,← hin];exact hit,⟨_,e2,rfl,_,rfl⟩⟩ fun h' tk' hk'=>?_))
    have oS':=hk' S _ (by simpa using nSI) oS
    have s1:=Heap.SameBut.update h' S (Obj.mapSeq fun _=>(#[]:Array Value))
    show wpAny _ X.A.in1 (updateSeq S (fun _=>#[]) >>= _) _ _ _
    refine wpAny_bind ?_
    refine wpAny_updateSeq oS' rfl (wpAny_bind (wpAny_letGo (wpAny_pure ?_)))
    have I1:=IV.turnedL (ch:=[I]) (h':=h') (t':=tk') (fun b o hb e=>hk' b o hb e) (fun b hb=>by rw [List.mem_singleton.mp hb];exact fI.to nI)
    have I2:=I1.turnedL (ch:=[S]) (h':=h'.update S (Obj.mapSeq fun _=>(#[]:Array Value))) (t':=tk') (fun b o hb e=>(s1.2 b (fun z=>hb (by simp [z]))).trans e) (fun b hb=>by rw [List.mem_singleton.mp hb];exact fS.to nS)
    exact hR i x vb _ H' hx rv (fun j' hj'=>hbest j' (by omega)) hg I2
  | succ r ih =>
    intro j i s H' x vb tb c hr hj hg IV nS nI nf oS hit of hx rv hij hbest
    have hlt:j+1<xs.length:=by omega
    obtain ⟨hz,its,n,rvs,e1,e2⟩:=IV.lstM (hG H' hg)
    have W:=Walks.list (prog:=X.prog) (w:=X.w) (A:=X.A.in1) hh I l nlI its.toArray
    have hsz:its.toArray.size=xs.length:=by rw [List.size_toArray,e1]
    refine codeAny_builtin PySem.F.entry_min_loop ?_
    rw [Around.under_plainId PySem.F.plain_min_loop _]
    show wpAny _ X.A.in1 (seqItems? (.ref S) >>= _) _ _ _
    refine wpAny_bind (wpAny_seqItems oS rfl ?_)
    show wpAny _ X.A.in1 (tryCatch (pyNext (.ref I)) _ >>= _) _ _ _
    refine wpAny_bind (wpAny_tryCatch (W.item (j+1) _ _ _ (by rw [hsz];exact hlt) ⟨hit,⟨_,e2,rfl,_,rfl⟩⟩ fun v h' tk' hP hst' hk'=>?_))
    have hv:its[j+1]?=some v:=by simpa using hP
    obtain ⟨y,hy⟩:∃ y,xs[j+1]?=some y:=⟨_,qaA hlt⟩
    obtain ⟨v',hv',ry⟩:=rvs.get hy
    rw [hv] at hv'
    cases hv'
    obtain ⟨oI',hoI',hoc,hod⟩:=id hst'.1
    have I1:Inv X pins σ H' { s with heap:=h',toks:=tk' }:=IV.turnedL (ch:=[I]) (h':=h') (t':=tk') (fun b o hb e=>hk' b o hb e) (fun b hb=>by rw [List.mem_singleton.mp hb];exact fI.to nI)
    have I2:Inv X (pins++[(S,seqObj "list" #[vb,.int (kf i) tb] c),(I,oI'),(f,fob)]) σ H' { s with heap:=h',toks:=tk' }:=I1.pins_of fun p hp=>by
      rcases List.mem_append.mp hp with hp | hp
      · exact I1.pin p (List.mem_append_right _ hp)
      · simp only [List.mem_cons,List.not_mem_nil,or_false] at hp
        rcases hp with rfl | rfl | rfl
        · exact ⟨hk' S _ (by simpa using nSI) oS,nS,fS.2.1,fS.2.2.1,fun v z=>by cases z⟩
        · exact ⟨hoI',nI,fI.2.1,fI.2.2.1,fun v z=>by rw [hod] at z;cases z⟩
        · exact ⟨hk' f _ (by simpa using nIf.symm) of,nf,ff.2.1,ff.2.2.1,hfo⟩
    show wpAny _ X.A.in1 (tryCatch (holding [v] (call (.ref f) [v])) _ >>= _) _ _ _
    refine wpAny_bind (wpAny_tryCatch (wpAny_holding (wpAny_mono (turn (j+1) y v _ H' _ hy ry hg (hk' f _ (by simpa using nIf.symm) of) I2) (fun u s2 he=>?_) fun _ _ hF=>hF.elim)))
    obtain ⟨v2,H2,I3,r3,rfl,g2⟩:=he
    obtain ⟨t2,rfl⟩:=(show ∃ t,u=Value.int (kf (j+1)) t from r3)
    have pS:=I3.pin (S,seqObj "list" #[vb,.int (kf i) tb] c) (List.mem_append_right _ (List.mem_append_right _ (by simp)))
    have pI:=I3.pin (I,oI') (List.mem_append_right _ (List.mem_append_right _ (by simp)))
    have pf:=I3.pin (f,fob) (List.mem_append_right _ (List.mem_append_right _ (by simp)))
    have I4:Inv X pins σ H2 s2:=I3.unpinned
    have hit2:s2.heap.IsListIter I l (j+1+1):=⟨oI',pI.1,hoc,hod⟩
    show wpAny _ X.A.in1 (tryCatch (holding [v,.int (kf (j+1)) t2] (richCompare .Lt (.int (kf (j+1)) t2) (.int (kf i) tb) >>= _)) _ >>= _) _ _ _
    refine wpAny_bind (wpAny_tryCatch (wpAny_holding (wpAny_bind (CmpOf.ints_lt (prog:=X.prog) (w:=X.w) (A:=X.A.in1) (P:=fun i v=>∃ t,v=.int (kf i) t) kf (fun i v h=>h) (j+1) i _ _ _ _ _ ⟨t2,rfl⟩ ⟨tb,rfl⟩ ?_))))
    refine wpAny_bind (wpAny_holding (wpAny_truthy_bool ?_))
    refine wpAny_bind (wpAny_letGo (wpAny_pure ?_))
    by_cases hb':kf (j+1)<kf i
    · have s1:=Heap.SameBut.update s2.heap S (Obj.mapSeq fun _=>#[v,.int (kf (j+1)) t2])
      obtain ⟨c2,hc2⟩:∃ c2,(s2.heap.update S (Obj.mapSeq fun _=>#[v,.int (kf (j+1)) t2])).get? S=some (seqObj "list" #[v,.int (kf (j+1)) t2] c2):=⟨_,get?_update_seq pS.1 fun _=>#[v,.int (kf (j+1)) t2]⟩
      simp only [hb',decide_true,if_true]
      refine wpAny_bind ?_
      refine wpAny_updateSeq pS.1 rfl (wpAny_bind (wpAny_letGo ?_))
      rw [hname]
      have I5:=I4.turnedL (ch:=[S]) (h':=s2.heap.update S (Obj.mapSeq fun _=>#[v,.int (kf (j+1)) t2])) (t':=s2.toks) (fun b o hb e=>(s1.2 b (fun z=>hb (by simp [z]))).trans e) (fun b hb=>by rw [List.mem_singleton.mp hb];exact fS.to pS.2.1)
      refine wpAny_pure ⟨plainId_quiet PySem.F.plain_min_loop _,ih (j+1) (j+1) _ H2 y v t2 c2 (by omega) hlt g2 I5 pS.2.1 pI.2.1 pf.2.1 hc2 ⟨oI',(s1.2 I nSI.symm).trans pI.1,hoc,hod⟩ ((s1.2 f nSf.symm).trans pf.1) hy ry (Nat.le_refl _) fun j' hj'=>?_⟩
      by_cases e:j'=j+1
      · subst e
        exact ⟨by omega,fun _=>by omega⟩
      · have hb1:=hbest j' (by omega)
        have hb2:=hb1.1
        exact ⟨by omega,fun _=>by omega⟩
    · simp only [hb',decide_false,Bool.false_eq_true,if_false]
      refine wpAny_bind (wpAny_letGo ?_)
      rw [hname]
      refine wpAny_pure ⟨plainId_quiet PySem.F.plain_min_loop _,ih (j+1) i s2 H2 x vb tb c (by omega) hlt g2 I4 pS.2.1 pI.2.1 pf.2.1 pS.1 hit2 pf.1 hx rv (by omega) fun j' hj'=>?_⟩
      by_cases e:j'=j+1
      · subst e
        exact ⟨by omega,fun _=>by omega⟩
      · exact hbest j' (by omega)
end
theorem qmR (a v u:Value):argsOk "min" ⟨[a],[(Str.ofString "key",v),(Str.ofString "default",u)]⟩:=by unfold argsOk;kernel_rfl
section
variable {X : Cx} {pins : List (Addr × Obj)} {σ : St} {H : Hp} {xs : List V} {l f : Addr} {fob : Obj} {kf : Nat → Int} {G : Hp → Prop} {s : Shared} {Q : Value → Shared → Prop} {E : Value → Shared → Prop}
theorem qll (hh:X.A.handled=none) (hfo:∀ v,fob.data≠.cell v) (ff:FpOk X pins H f) (IV:Inv X pins σ H s) (g0:G H) (of:s.heap.get? f=some fob)
    (hG:∀ H',G H'→H' l=some (.lst xs))
    (turn:∀ (i:Nat) (x:V) (u:Value) (s:Shared) (H':Hp) (pl:List (Addr × Obj)),xs[i]?=some x→RelV x u→G H'→s.heap.get? f=some fob→Inv X pl σ H' s →
      wpAny (model X.prog X.w) X.A.in1 (call (.ref f) [u]) (EP X pl σ fun v H2=>v=.int (kf i)∧G H2) (fun _ _=>False) s)
    (hQ0:xs=[]→∀ s,Inv X pins σ H s→Q .none s)
    (hQ:∀ i x u s H',xs[i]?=some x→RelV x u→(∀ j,j<xs.length→kf i≤kf j∧(j<i→kf i<kf j))→G H'→Inv X pins σ H' s→Q u s) :
    wpAny (model X.prog X.w) X.A (call (.builtin "min") [.ref l] [(Str.ofString "key",.ref f),(Str.ofString "default",.none)]) Q E s:=by
  have hname:(toString "min"++toString ".loop":String)="min.loop":=by decide
  obtain ⟨hz,its,n,rvs,e1,e2⟩:=IV.lstM (hG H g0)
  have hls:s.heap.IsList l its.toArray:=⟨_,e2,rfl,_,rfl⟩
  refine kmk_tree PySem.F.kind_min PySem.F.plain_min PySem.F.entry_min (qmR _ _ _) ?_
  show wpAny _ X.A.in1 (Builtin.Builtins.bindParams "min" ["key","default"] 0 ⟨[],[(Str.ofString "key",.ref f),(Str.ofString "default",.none)]⟩ >>= _) _ _ s
  refine wpAny_bind (wpAny_of_eq (show Builtin.Builtins.bindParams "min" ["key","default"] 0 ⟨[],[(Str.ofString "key",.ref f),(Str.ofString "default",.none)]⟩=pure [some (.ref f),some .none] from rfl) ?_)
  refine wpAny_bind (wpAny_pure ?_)
  refine wpAny_bind (wpAny_pyIter_list hls ?_)
  refine wpAny_bind (wpAny_newList ?_ (Nat.zero_le _))
  rw [hname]
  generalize eI:s.heap.push { cls:=.type "list_iterator",data:=.fields #[.ref l,.int 0 0] }=h1
  have k1:∀ b o,s.heap.get? b=some o→h1.get? b=some o:=fun b o e=>by rw [← eI];exact Heap.get?_push_of_some _ e
  have z1:h1.objs.size=s.heap.objs.size+1:=by rw [← eI];exact Heap.size_push ..
  have gI:h1.get? s.heap.objs.size=some { cls:=.type "list_iterator",data:=.fields #[.ref l,.int 0 0] }:=by rw [← eI];exact Heap.get?_push_size _ rfl
  have I1:Inv X pins σ H { s with heap:=h1 }:=IV.kept (t':=s.toks) k1
  have I2:Inv X pins σ H { s with heap:=h1.push (seqObj "list" #[] 0) }:=I1.kept (t':=s.toks) fun b o e=>Heap.get?_push_of_some _ e
  have fI:FpOk X pins H s.heap.objs.size:=IV.fpOk (Nat.le_refl _) IV.fresh
  have fS:FpOk X pins H h1.objs.size:=I1.fpOk (Nat.le_refl _) I1.fresh
  have gS:(h1.push (seqObj "list" #[] 0)).get? h1.objs.size=some (seqObj "list" #[] 0):=Heap.get?_push_size _ rfl
  have gI2:=Heap.get?_push_of_some (seqObj "list" #[] 0) gI
  have nSI:h1.objs.size≠s.heap.objs.size:=by rw [z1];exact Nat.succ_ne_self _
  have nIf:s.heap.objs.size≠f:=Nat.ne_of_gt (Heap.lt_size of)
  have nSf:h1.objs.size≠f:=Nat.ne_of_gt (by rw [z1];exact Nat.lt_succ_of_lt (Heap.lt_size of))
  have nlI:l≠s.heap.objs.size:=Nat.ne_of_lt (Heap.lt_size e2)
  have of2:=Heap.get?_push_of_some (seqObj "list" #[] 0) (k1 _ _ of)
  have ol2:=Heap.get?_push_of_some (seqObj "list" #[] 0) (k1 _ _ e2)
  have W:=Walks.list (prog:=X.prog) (w:=X.w) (A:=X.A.in1) hh s.heap.objs.size l nlI its.toArray
  have hsz:its.toArray.size=xs.length:=by rw [List.size_toArray,e1]
  refine wpAny_pure ⟨plainId_quiet PySem.F.plain_min_loop _,?_⟩
  refine codeAny_builtin PySem.F.entry_min_loop ?_
  rw [Around.under_plainId PySem.F.plain_min_loop _]
  show wpAny _ X.A.in1 (seqItems? (.ref h1.objs.size) >>= _) _ _ _
  refine wpAny_bind (wpAny_seqItems gS rfl ?_)
  show wpAny _ X.A.in1 (tryCatch (pyNext (.ref s.heap.objs.size)) _ >>= _) _ _ _
  cases xs with
  | nil =>
    refine wpAny_bind (wpAny_tryCatch (W.done _ _ _ ⟨by rw [hsz];exact ⟨_,gI2,rfl,rfl⟩,⟨_,ol2,rfl,_,rfl⟩⟩ fun h' tk' hk'=>?_))
    have I3:=I2.turnedL (ch:=[s.heap.objs.size]) (h':=h') (t':=tk') (fun b o hb e=>hk' b o hb e) (fun b hb=>by rw [List.mem_singleton.mp hb];exact fI)
    exact wpAny_bind (wpAny_rule (wpAny_pure (hQ0 rfl _ I3)))
  | cons x0 xs =>
    refine wpAny_bind (wpAny_tryCatch (W.item 0 _ _ _ (by rw [hsz];exact Nat.succ_pos _) ⟨⟨_,gI2,rfl,rfl⟩,⟨_,ol2,rfl,_,rfl⟩⟩ fun v h' tk' hP hst' hk'=>?_))
    have hv:its[0]?=some v:=by simpa using hP
    obtain ⟨v',hv',ry⟩:=rvs.get (i:=0) (x:=x0) rfl
    rw [hv] at hv'
    cases hv'
    obtain ⟨oI',hoI',hoc,hod⟩:=id hst'.1
    have I3:Inv X pins σ H { s with heap:=h',toks:=tk' }:=I2.turnedL (ch:=[s.heap.objs.size]) (h':=h') (t':=tk') (fun b o hb e=>hk' b o hb e) (fun b hb=>by rw [List.mem_singleton.mp hb];exact fI)
    have of3:=hk' f _ (by simpa using nIf.symm) of2
    have oS3:=hk' h1.objs.size _ (by simpa using nSI) gS
    have I4:Inv X (pins++[(h1.objs.size,seqObj "list" #[] 0),(s.heap.objs.size,oI'),(f,fob)]) σ H { s with heap:=h',toks:=tk' }:=I3.pins_of fun p hp=>by
      rcases List.mem_append.mp hp with hp | hp
      · exact I3.pin p (List.mem_append_right _ hp)
      · simp only [List.mem_cons,List.not_mem_nil,or_false] at hp
        rcases hp with rfl | rfl | rfl
        · exact ⟨oS3,fS.1,fS.2.1,fS.2.2.1,fun v z=>by cases z⟩
        · exact ⟨hoI',fI.1,fI.2.1,fI.2.2.1,fun v z=>by rw [hod] at z;cases z⟩
        · exact ⟨of3,ff.1,ff.2.1,ff.2.2.1,hfo⟩
    show wpAny _ X.A.in1 (tryCatch (holding [v] (call (.ref f) [v])) _ >>= _) _ _ _
    refine wpAny_bind (wpAny_tryCatch (wpAny_holding (wpAny_mono (turn 0 x0 v _ H _ rfl ry g0 of3 I4) (fun u s2 he=>?_) fun _ _ hF=>hF.elim)))
    obtain ⟨v2,H2,I5,r3,rfl,g2⟩:=he
    obtain ⟨t2,rfl⟩:=(show ∃ t,u=Value.int (kf 0) t from r3)
    have pS:=I5.pin (h1.objs.size,seqObj "list" #[] 0) (List.mem_append_right _ (List.mem_append_right _ (by simp)))
    have pI:=I5.pin (s.heap.objs.size,oI') (List.mem_append_right _ (List.mem_append_right _ (by simp)))
    have pf:=I5.pin (f,fob) (List.mem_append_right _ (List.mem_append_right _ (by simp)))
    have I6:Inv X pins σ H2 s2:=I5.unpinned
    have s1:=Heap.SameBut.update s2.heap h1.objs.size (Obj.mapSeq fun _=>#[v,.int (kf 0) t2])
    obtain ⟨c2,hc2⟩:∃ c2,(s2.heap.update h1.objs.size (Obj.mapSeq fun _=>#[v,.int (kf 0) t2])).get? h1.objs.size=some (seqObj "list" #[v,.int (kf 0) t2] c2):=⟨_,get?_update_seq pS.1 fun _=>#[v,.int (kf 0) t2]⟩
    show wpAny _ X.A.in1 (updateSeq h1.objs.size (fun _=>#[v,.int (kf 0) t2]) >>= _) _ _ _
    refine wpAny_bind ?_
    refine wpAny_updateSeq pS.1 rfl ?_
    rw [hname]
    have I7:=I6.turnedL (ch:=[h1.objs.size]) (h':=s2.heap.update h1.objs.size (Obj.mapSeq fun _=>#[v,.int (kf 0) t2])) (t':=s2.toks) (fun b o hb e=>(s1.2 b (fun z=>hb (by simp [z]))).trans e) (fun b hb=>by rw [List.mem_singleton.mp hb];exact fS.to pS.2.1)
    refine wpAny_pure ⟨plainId_quiet PySem.F.plain_min_loop _,qjt (kf:=kf) (G:=G) hh hfo fS fI ff nSI nSf nIf nlI hG turn hQ _ 0 0 _ H2 x0 v t2 c2 rfl (Nat.succ_le_succ (Nat.zero_le _)) g2 I7 pS.2.1 pI.2.1 pf.2.1 hc2 ⟨oI',(s1.2 _ nSI.symm).trans pI.1,hoc,hod⟩ ((s1.2 f nSf.symm).trans pf.1) rfl ry (Nat.le_refl _) fun j' hj'=>?_⟩
    have e:j'=0:=by omega
    subst e
    exact ⟨Int.le_refl _,fun z=>absurd z (Nat.lt_irrefl _)⟩
end
def qlG (tl:TD) (cap:List (Option Nat)) (tb:TD):TD:=fun ρ R=>tl ρ fun d=>match d with
  | .lst ds=>∃ kf:Nat→Int,(∀ i e,ds[i]?=some e→tb ((qfN (none::cap) ρ).set 0 (some (.v e))) fun r=>r=.int (kf i))∧(ds=[]→R .non) ∧
      ∀ i e,ds[i]?=some e→(∀ j,j<ds.length→kf i≤kf j∧(j<i→kf i<kf j))→R e
  | _=>False
section
variable {K : PySem.W.Frag} {X : Cx} {l body : Expr} {tl tb : TD} {scope : Scope} {p : Str} {r : List Str} {cap : List (Option Nat)} {params : Arguments} {np pos lp kp1 kp2 kp3 : Pos} {c P : Addr} {j : Nat}
theorem qjI (hr:Room 1 X.A) (hg:Gl X "min") (hm:X.mg "min"=none) (hl:PQ K X l tl) (S:CompScope X.N X.env.scope scope (p::r) (none::cap)) (hcap:qcR 1 (none::cap)=true)
    (hpl:scope.names.lookup p=some .local) (hco:scope.isCoroutine=false) (hgen:scope.isGenerator=false) (hdef:defaultsOf params X.env=([],[]))
    (hbind:∀ (qual:Str) (cl:List (Str × Addr)) (pm cd ctv u:Value),bindArgs (PySem.W.kla_fn "<lambda>" qual params body scope cl pm cd ctv) ⟨[u],[]⟩=pure [(p,u)])
    (hcode:X.env.code=.ref c) (hC:PySem.W.codeHdIn X.K c P=true) (ht:(P,#[rawInt lp.line,rawInt lp.col,.str (X.env.qual++"<lambda>") 0])∈qaS K)
    (hb:∀ (A:Around) (cl:List (Str × Addr)) (f:Addr) (cd:Value) (s0:Shared) (H0:Hp),PD K (qiD X A scope (p::r) cl f (X.env.qual++"<lambda>") cd s0 H0) body tb)
    (he:starEach [l] X.env=[(false,eval l X.env)]) (hnc:∀ y∈scope.names,y.2≠.cell:=by decide) :
    PD K X (.Call (.Name "min" np) [l] [⟨some "key",.Lambda params body scope lp,kp1⟩,⟨some "default",.Constant .none j kp2,kp3⟩] pos) (qlG tl cap tb):=⟨fun hK=>by
  subst hK
  intro pins s σ H Q I ⟨H0,Φ,ρ,R,V,t,k⟩
  refine wpAny_Call_Name_kw (qc0 I hg hm boot_min ?_)
  have he':backTo pos (starEach [l] X.env)=(false,eval l X.env)::backTo pos (starEach [] X.env):=by rw [he];rfl
  refine callWith_kw (thn (qb5 (hl.pe rfl) pa_nil (by rw [he];rfl) pos pins s σ H (fun vs H1=>∃ x ds Φ1,vs=[x]∧Gr Φ H Φ1 H1∧RpQ X.K Φ1 H1 (.lst ds) x∧∃ kf:Nat→Int,(∀ i e,ds[i]?=some e→tb ((qfN (none::cap) ρ).set 0 (some (.v e))) fun r=>r=.int (kf i))∧(ds=[]→R .non) ∧
      ∀ i e,ds[i]?=some e→(∀ j,j<ds.length→kf i≤kf j∧(j<i→kf i<kf j))→R e) I ⟨H0,Φ,ρ,_,V,t,fun d Φ1 H1 v r g rv=>?_⟩) fun us s1 ⟨vs,H1,I1,r1,q1⟩=>?_) he' (by rw [he'];rfl)
  · cases d with
    | lst ds=>exact ⟨v,ds,Φ1,rfl,g,rv,r⟩
    | _=>exact r.elim
  · obtain ⟨x,ds,Φ1,rfl,g1,rq,kf,hk1,hk2,hk3⟩:=q1
    obtain ⟨a,xs,rfl,hxs,rl⟩:=rq.lst g1.s
    cases r1 with
    | cons r rr =>
    cases rr
    cases r
    have V1:=V.gr g1
    have hP:=g1.s _ _ (V1.tb _ ht)
    refine kws_cons (qjo hP hcode hC hdef I1 S.free fun f c' cl pm ctv o vs t' H2 s2 hcl hfr hH I2 of ff hc hod hv hsz=>?_)
    refine kws_cons (Constant_none (kws_nil ?_))
    show wpAny _ X.A (call (.builtin "min") [.ref a] [(Str.ofString "key",.ref f),(Str.ofString "default",.none)]) _ _ _
    have g2:Gr Φ1 H1 Φ1 H2:=by
      rcases hH with rfl | ⟨b,u,hb0,_,rfl⟩
      · exact .refl g1.s
      · exact .fresh g1.s hb0 _
    refine qll (kf:=kf) (G:=fun H'=>∃ Φ',Gr Φ1 H2 Φ' H') hr.hd (fun v z=>by cases z) ff I2 ⟨Φ1,.refl g2.s⟩ of (fun H' hq1=>by obtain ⟨Φ',g'⟩:=hq1;exact g'.h _ _ (g2.h _ _ hxs)) (fun i x u s3 H3 pl hx ru ⟨Φ3,g3⟩ of3 I3=>?_) (fun hnil s3 I3=>?_) fun i x u s3 H3 hx ru hbest ⟨Φ3,g3⟩ I3=>?_
    · obtain ⟨e,hei,re⟩:=rl.at' hx
      have hc3:=g3.h _ _ hc
      obtain ⟨o3,_⟩:=(show ObjOk X.prog X.w H3 s3.heap c' (.frz o (.own P)) from I3.hok c' _ hc3)
      have V3:=((V1.gr g2).gr g3).cap (qfv hcap)
      refine qi7 hnc S hpl (show X.A.in1.frames=some X.stack from I.ok.frames) (show X.A.in1.handled=none from hr.hd) (show X.A.in1.depth<recursionLimit from hr.depth) I3 hcl hfr of3 ⟨c',o,vs,t',rfl,o3,hod,hv⟩ (hbind _ _ _ _ _ u) hco hgen ((hb _ _ _ _ _ _).pe rfl) ru
        ⟨H0,Φ3,_,_,V3.set (re.same (g2.f.trans g3.f)) 0,hk1 i e hei,fun d Φ4 H4 v r g4 rv=>?_⟩
      subst r
      cases rv
      exact ⟨rfl,Φ4,g3.trans g4⟩
    · have hd:ds=[]:=by
        have:=rl.1
        rw [hnil] at this
        exact List.length_eq_zero_iff.mp this.symm
      exact ⟨.non,H2,I3,rfl,k .non Φ1 H2 .non (hk2 hd) (g1.trans g2) .non⟩
    · obtain ⟨e,hei,re⟩:=rl.at' hx
      exact ⟨x,H3,I3,ru,k e Φ3 H3 x (hk3 i e hei fun j hj=>hbest j (by rw [rl.1];exact hj)) ((g1.trans g2).trans g3) (re.same (g2.f.trans g3.f))⟩⟩
end
structure LamT (K:PySem.W.Frag) (q:Str) (fd:FuncData) (c P:Addr) (lp:Pos):Prop where
  code:fd.code=.ref c
  hd:PySem.W.codeHdIn K c P=true
  tab:(P,#[rawInt lp.line,rawInt lp.col,.str (q++".<locals>."++"<lambda>") 0])∈qaS K
section
variable {P : Program} {w : World} {K : PySem.W.Frag} {mg : Str → Option Value} {base : Heap}
theorem Fun.okL {x qual:Str} {st:Stmt} {f:Addr} {fd:FuncData} {N ps:List Str} {k:Nat} {sp:Sp} (F:Fun K x qual st f fd) (S:FnScope N ps (qaf st)) (len:∀ vs H Q E,sp vs H Q E→vs.length=ps.length)
    (hbody:∀ (cdv:Value) (A:Around) (outer:List Env) (s:Shared) (H:Hp) (vs:List V) (Q:VK) (E:XK),fd.code=cdv→Room k (A.deeper (envOfC qual (qaf st) s.heap.objs.size f cdv))→sp vs H Q E →
      ∃ t,PSs (qjb CX0 P w K mg base N qual (qaf st) f cdv A outer s H E).nox (qa7 st) t∧t { nx:=fun _ H'=>Q .non H',rt:=Q } (start N vs) H):FnOk P w K mg base CX0 (k+1) f fd ps sp:=by
  obtain ⟨oc,od,kV,doc,pm,an,cdv,ct,osl,rfl,lk,hcd⟩:=F.ex
  refine qmo lk hcd S len fun A outer s H vs Q E hr hsp=>?_
  obtain ⟨t,h,q⟩:=hbody cdv A outer s H vs Q E rfl hr hsp
  exact ⟨t,h.nox,q⟩
theorem Fun.okDL {x qual:Str} {st:Stmt} {f:Addr} {fd:FuncData} {N ps:List Str} {k:Nat} {sp:SpD} (F:Fun K x qual st f fd) (S:FnScope N ps (qaf st)) (len:∀ ds R,sp ds R→ds.length=ps.length)
    (hbody:∀ (cdv:Value) (A:Around) (outer:List Env) (s:Shared) (H:Hp) (E:XK) (ds:List D) (R:D→Prop),fd.code=cdv→Room k (A.deeper (envOfC qual (qaf st) s.heap.objs.size f cdv))→sp ds R →
      ∃ t,PSsD K (qjb CX0 P w K mg base N qual (qaf st) f cdv A outer s H E).nox (qa7 st) t∧t { nx:=fun _=>R .non,rt:=R } (qcY N ds)):FnOk P w K mg base CX0 (k+1) f fd ps (lSp K sp):=by
  refine F.okL S (fun vs H Q E ⟨Φ,ds,R,sm,tb,rl,h,_⟩=>by rw [rl.1];exact len ds R h) (fun cdv A outer s H vs Q E hcd hr ⟨Φ,ds,R,sm,tb,rl,h,kk⟩=>?_)
  obtain ⟨t,ht,hq⟩:=hbody cdv A outer s H E ds R hcd hr h
  exact ⟨lS K t,ht.ps rfl,Φ,H,Φ,qcY N ds,_,.refl sm,qfH sm tb rl,hq,⟨fun ρ' Φ' H' σ' r g V=>kk .non Φ' H' .non r g .non,kk,fun _ _ _ _ h=>h.elim,fun _ _ _ _ h=>h.elim⟩⟩
end
theorem qgt {K:PySem.W.Frag} {x:Str} {f c P:Addr} {fd:FuncData} {oc oc':Value} {od od':Option Addr} {sl sl':Array (Option Value)} {vs:Array Value} {pos:Pos} (a:PySem.W.nsIn K mainGlobals x=some (some (.ref f))) (l:K.lookup f=some ⟨oc,od,.func fd,sl⟩)
    (e:fd.code=.ref c) (lc:K.lookup c=some ⟨oc',od',.fields vs,sl'⟩) (h11:(vs[11]?:Option Value)=some (.ref P)) (hp:qkn fd.body=some pos) :
    qga K x=some (P,#[rawInt pos.line,rawInt pos.col,.str (fd.qualname++".<locals>."++"<lambda>") 0]):=by
  unfold qga
  simp only [a,l,e,lc,h11,hp]
theorem qg6 {K:PySem.W.Frag} {c P:Addr} {o:Obj} (h:K.lookup c=some o) (v:PySem.W.codeHdIn [(c,o)] c P=true):PySem.W.codeHdIn K c P=true:=by
  have e:List.lookup c [(c,o)]=some o:=by simp
  unfold PySem.W.codeHdIn at v ⊢
  rw [h]
  rw [e] at v
  exact v
theorem qeb {K:PySem.W.Frag} {x:Str} (a:PySem.W.nsIn K mainGlobals x=some none):qga K x=none:=by
  unfold qga
  simp only [a]
theorem qd9 {K:PySem.W.Frag} {t:Addr × Array Value} (h1:qga K "least_grown"=some t) (h2:qga K "greatest_first"=none):qaS K=[t]:=by
  unfold qaS
  simp [h1,h2]
def qge (K:PySem.W.Frag):Hp:=fun b=>((qaS K).find? fun u=>u.1 == b).map fun u=>HO.tbl u.2
theorem qiF {P:Program} {w:World} {K:PySem.W.Frag} {mg mb:Str→Option Value} {CX:CXT} {k:Nat} {fa a:Addr} {fd:FuncData} {x:Str} {sp:Sp} {s₁:Shared} {vs:List Value} {ns:List Int}
    (KX:K.In s₁.heap) (hns:s₁.heap.Ns mainGlobals mg) (hb:s₁.heap.Ns builtinsNs mb) (hbb:∀ x:Str,x≠"__name__"→mb x=bootBuiltins x) (hlim:s₁.heap.NoLimit)
    (hbm:∃ bm ob,mg "__builtins__"=some (.ref bm)∧bm≠builtinsNs∧s₁.heap.get? bm=some ob∧ob.cls=.type "module"∧ob.dict=some builtinsNs∧ob.data=.plain) (hg:s₁.gens=#[])
    (ha:s₁.heap.get? a=some { cls:=.type "list",data:=.seq vs.toArray }) (hi:IntsAre vs ns) (hl:ns.length≤sizeLine) (hr:Room k callerA)
    (F:∀ base:Heap,K.In base→base.Ns mainGlobals mg→FnOk P w K mg base CX k fa fd [x] sp) (hbind:∀ (s:Shared) (u:Value),BindsTo s fd ⟨[u],[]⟩ [(x,u)])
    (hT:∀ t∈qaS K,s₁.heap.get? t.1=some (PySem.W.tabObj #[])∧K.lookup t.1=none∧isCodeTable s₁.heap t.1) (hnd:∀ t∈qaS K,∀ u∈qaS K,t.1=u.1→t=u)
    (hsp:∀ H:Hp,SqL K H a (ns.map V.int)→TabF K H→sp [.ref a] H (fun v _=>v=.bl true) fun _ _ _=>False)
    (hCX:∀ H e s',CX [] H s₁ (fun _ _ _=>False) e s'→False) :
    codeAny (model P w) callerA (.call (.ref fa) ⟨[.ref a],[]⟩) (fun r s'=>r=.ok (.ret (.bool true))∧OldK s₁.heap s'.heap∧s'.os=s₁.os∧AllBare s'.gens) s₁:=by
  have rv:=qfj hi
  have lenV:=hi.length
  have core:∀ H:Hp,SqL K H a (ns.map V.int)→TabF K H→(∀ b u,H b=some u→(b=a∧K.lookup a=none∧u=.frz { cls:=.type "list",data:=.seq vs.toArray } (.lst (ns.map V.int)))∨∃ t∈qaS K,t.1=b∧u=.tbl t.2) →
      codeAny (model P w) callerA (.call (.ref fa) ⟨[.ref a],[]⟩) (fun r s'=>r=.ok (.ret (.bool true))∧OldK s₁.heap s'.heap∧s'.os=s₁.os∧AllBare s'.gens) s₁:=by
    intro H hS hTab hcl
    have hok:HOk P w H s₁.heap:=fun b u e=>by
      rcases hcl b u e with ⟨rfl,_,rfl⟩ | ⟨t,ht,rfl,rfl⟩
      · exact ⟨ha,by rw [List.length_map];exact hl,vs,_,rv,ha⟩
      · exact .inl (hT t ht).1
    have base_of:∀ {b:Addr} {o:Obj},s₁.heap.get? b=some o→H b=none→(qjA s₁.heap H).get? b=some o:=fun e n=>qjf e n
    have noO:∀ {b:Addr} {o:Obj},s₁.heap.get? b=some o→(o={ cls:=.type "list",data:=.seq vs.toArray }→False)→(o=PySem.W.tabObj #[]→False)→H b=none:=fun {b o} e n1 n2=>by
      cases q:H b with
      | none=>rfl
      | some u =>
        rcases hcl b u q with ⟨rfl,_,_⟩ | ⟨t,ht,rfl,_⟩
        · rw [ha] at e;cases e;exact (n1 rfl).elim
        · rw [(hT t ht).1] at e;cases e;exact (n2 rfl).elim
    have nsK:∀ {b:Addr} {m:Str→Option Value},s₁.heap.Ns b m→(qjA s₁.heap H).Ns b m:=fun {b m} hq0=>by obtain ⟨o,es,ep,e,d,r⟩:=hq0;exact ⟨o,es,ep,base_of e (noO e (fun z=>by rw [z] at d;cases d) fun z=>by rw [z] at d;cases d),d,r⟩
    have hKb:K.In (qjA s₁.heap H):=fun b o e=>base_of (KX b o e) (by
      cases q:H b with
      | none=>rfl
      | some u =>
        rcases hcl b u q with ⟨rfl,z,_⟩ | ⟨t,ht,rfl,_⟩
        · rw [z] at e;cases e
        · rw [(hT t ht).2.1] at e;cases e)
    have hM:Mod K mg (qjA s₁.heap H):=⟨hKb,nsK hns,⟨mb,nsK hb,hbb⟩,let ⟨mc,h1,h2⟩:=hlim;⟨mc,nsK h1,h2⟩,let ⟨bm,ob,b1,b2,b3,b4,b5,b6⟩:=hbm;⟨bm,ob,b1,b2,base_of b3 (noO b3 (fun z=>by rw [z] at b6;cases b6) fun z=>by rw [z] at b6;cases b6),b4,b5,b6⟩⟩
    have e0:Env0 P w K mg (qjA s₁.heap H) callerA [] s₁ H:=⟨rfl,hM,fun b o e=>qkx e,Nat.le_of_eq (qij _ _),trivial,fun b hb=>absurd (show b∈([]:List Addr) from hb) (by simp),hok,.of_eq hg⟩
    refine codeAny_mono ((F _ hKb (nsK hns)).run callerA [] s₁ H ⟨[.ref a],[]⟩ [.ref a] [.ref a] _ _ hr e0 (hbind s₁ (.ref a)) (.cons rfl .nil) (hsp H hS hTab)) fun r s' h=>?_
    cases r with
    | error e=>exact (hCX H e s' h).elim
    | ok fl =>
      cases fl with
      | next=>exact False.elim h
      | brk=>exact False.elim h
      | cont=>exact False.elim h
      | ret u =>
        obtain ⟨v,H',os,bare,un,hok',r',q⟩:=h
        have q':v=.bl true:=q
        subst q'
        obtain rfl:u=Value.bool true:=r'
        refine ⟨rfl,⟨fun b o e=>?_,fun b o e=>un.there b o e (by simp)⟩,os,bare⟩
        cases q:H b with
        | none=>exact .inl (un.keep b o e q (by intro z;exact absurd (show b∈([]:List Addr) from z) (by simp)) (by simp))
        | some u =>
          rcases hcl b u q with ⟨rfl,_,rfl⟩ | ⟨t,ht,rfl,rfl⟩
          · obtain ⟨e1,_⟩:=hok b _ q
            obtain ⟨e2,_⟩:=hok' b _ (un.frzs b _ _ q)
            rw [e] at e1;cases e1
            exact .inl e2
          · rw [(hT t ht).1] at e
            cases e
            rcases (show ObjOk P w H' s'.heap t.1 (.tbl t.2) from hok' t.1 _ (un.tbls t.1 _ q)) with z | ⟨c,oc,us,y,z,qq,t1,t2,_,_,z3,_⟩
            · exact .inl z
            · exact .inr (.inl ⟨(hT t ht).2.2,rfl,#[],#[y,z,.ref c],rfl,by simpa using z3⟩)
  have tabH:∀ t∈qaS K,qge K t.1=some (.tbl t.2):=fun t ht=>by
    unfold qge
    cases e:(qaS K).find? fun u=>u.1 == t.1 with
    | none=>have:=List.find?_eq_none.mp e t ht;simp at this
    | some u =>
      have h1:=List.find?_some e
      have h2:=List.mem_of_find?_eq_some e
      have h3:u=t:=hnd u h2 t ht (by simpa using h1)
      rw [h3];rfl
  have tabI:∀ b u,qge K b=some u→∃ t∈qaS K,t.1=b∧u=.tbl t.2:=fun b u h=>by
    unfold qge at h
    cases e:(qaS K).find? fun u=>u.1 == b with
    | none=>rw [e] at h;cases h
    | some t =>
      rw [e] at h
      cases h
      exact ⟨t,List.mem_of_find?_eq_some e,by simpa using List.find?_some e,rfl⟩
  have naT:∀ t∈qaS K,t.1≠a:=fun t ht z=>by
    have:=(hT t ht).1
    rw [z,ha] at this
    cases this
  cases hk:K.lookup a with
  | some o =>
    have e:=KX a o hk
    rw [ha] at e
    cases e
    exact core (qge K) (.inr ⟨_,vs.toArray,_,hk,rfl,rfl,rfl,by rw [List.size_toArray,lenV];exact hl,by simpa using rv⟩) tabH fun b u z=>.inr (tabI b u z)
  | none =>
    refine core (fun b=>if b=a then some (.frz { cls:=.type "list",data:=.seq vs.toArray } (.lst (ns.map V.int))) else qge K b) (.inl (.inr ⟨{ cls:=.type "list",data:=.seq vs.toArray },if_pos rfl⟩)) (fun t ht=>?_) fun b u z=>?_
    · show (if t.1=a then _ else qge K t.1)=_
      rw [if_neg (naT t ht)]
      exact tabH t ht
    · by_cases hb:b=a
      · have z':=(if_pos hb).symm.trans z
        cases z'
        exact .inl ⟨hb,hk,rfl⟩
      · have z':=(if_neg hb).symm.trans z
        exact .inr (tabI b u z')
theorem walk_ofT {l:PySem.W.OpenLaw} {n k:Nat} {q:Program} {loose:List Str} {XP:(Str→Option Value)→Heap→Prop} {YP:World→Heap→Prop} {d:DefRec} {K:Params→PySem.W.Frag} {CX:World→CXT} {sp:World→Sp} {x:Str}
    (hn:l.most=some n) (hn2:n≤sizeLine) (hdf:d.params.defaults=[]) (hr:Room k callerA)
    (hY:∀ (w:World) (h:Heap),YP w h→(K w.params).In h)
    (hT:∀ (w:World) (h:Heap),YP w h→∀ t∈qaS (K w.params),h.get? t.1=some (PySem.W.tabObj #[])∧(K w.params).lookup t.1=none∧isCodeTable h t.1) (hnd:∀ (w:World),∀ t∈qaS (K w.params),∀ u∈qaS (K w.params),t.1=u.1→t=u)
    (F:∀ (w:World) (mg:Str→Option Value) (fa:Addr) (h:Heap),(K w.params).In h→h.Ns mainGlobals mg→mg d.name=some (.ref fa) →
      ∃ fd:FuncData,(∀ (s:Shared) (u:Value),BindsTo s fd ⟨[u],[]⟩ [(x,u)]) ∧
        ∀ base:Heap,(K w.params).In base→base.Ns mainGlobals mg→FnOk l.prog w (K w.params) mg base (CX w) k fa fd [x] (sp w))
    (hsp:∀ (w:World) (H:Hp) (a:Addr) (ns:List Int),ns.length≤n→SqL (K w.params) H a (ns.map V.int)→TabF (K w.params) H→sp w [.ref a] H (fun v _=>v=.bl true) fun _ _ _=>False)
    (hCX:∀ (w:World) (H:Hp) (s:Shared) (e:Value) (s':Shared),CX w [] H s (fun _ _ _=>False) e s'→False) :
    PySem.W.WalkO q loose XP YP l.row.toRowW d [] (fun f vs=>PySem.call f vs):=by
  refine Att.attach_call hn hdf fun w s₀ s₁ mg mb fa o pm cd doc a vs ns G Y ho hd hcd hmg hobj hints hlen hg=>?_
  have KX:=hY w _ Y
  obtain ⟨fd,hb,hF⟩:=F w mg fa _ KX G.T.g hmg
  exact qiF KX G.T.g G.T.b G.T.builtins G.T.nolimit G.T.bmain hg hobj hints (Nat.le_trans hlen hn2) hr hF hb (hT w _ Y) (hnd w) (fun H hS hTb=>hsp w H a ns hlen hS hTb) fun H e s'=>hCX w H s₁ e s'
end L2
namespace L2
open PySem PySem.W PyProof.Rows
def Go {α:Type} (f:Nat→Nat→Bool) (N:Nat) (P:α→Prop):KasT α→Prop
  | .ret a=>P a
  | .ask i j k=>i<N∧j<N∧Go f N P (k (f i j))
theorem Go.bind {α β:Type} {f:Nat→Nat→Bool} {N:Nat} {P:α→Prop} {P':β→Prop} {g:α→KasT β}:∀ {t:KasT α},Go f N P t→(∀ a,P a→Go f N P' (g a))→Go f N P' (t.bind g)
  | .ret a,h,hg=>hg a h
  | .ask i j k,h,hg=>⟨h.1,h.2.1,Go.bind (t:=k (f i j)) h.2.2 hg⟩
theorem Go.imp {α:Type} {f:Nat→Nat→Bool} {N:Nat} {P P':α→Prop}:∀ {t:KasT α},Go f N P t→(∀ a,P a→P' a)→Go f N P' t
  | .ret a,h,hg=>hg a h
  | .ask i j k,h,hg=>⟨h.1,h.2.1,Go.imp (t:=k (f i j)) h.2.2 hg⟩
theorem Go.wp {α:Type} {f:Nat→Nat→Bool} {N:Nat} {P:α→Prop} {cmp:Nat→Nat→(Bool→Shared→Prop)→Shared→Prop} {Q:α→Shared→Prop} {s:Shared}
    (hc:∀ i j (C:Bool→Shared→Prop),i<N→j<N→C (f i j) s→cmp i j C s) (hq:∀ a,P a→Q a s):∀ {t:KasT α},Go f N P t→t.kasWp cmp Q s
  | .ret a,h=>hq a h
  | .ask i j k,h=>hc i j _ h.1 h.2.1 (Go.wp hc hq (t:=k (f i j)) h.2.2)
section
variable {key : Nat → Int} {N : Nat} {p : Array Nat}
def Ky (key:Nat→Int) (p:Array Nat) (i:Nat):Int:=key (p.getD i 0)
abbrev fk (key:Nat→Int):Nat→Nat→Bool:=fun i j=>decide (key i<key j)
def Asc (key:Nat→Int) (p:Array Nat) (n:Nat):Prop:=∀ i,i+1<n→Ky key p i<Ky key p (i+1)
def Dsc (key:Nat→Int) (p:Array Nat) (n:Nat):Prop:=∀ i,i+1<n→Ky key p (i+1)<Ky key p i
structure Pm (key:Nat→Int) (N:Nat) (p:Array Nat):Prop where
  sz:p.size=N
  pm:p.Perm (List.range N).toArray
theorem qff {p:Array Nat} {i:Nat} (h:i<p.size):p[i]?=some (p.getD i 0):=by simp [Array.getD,h]
theorem Pm.lt (h:Pm key N p) (hN:0<N) (i:Nat):p.getD i 0<N:=by
  by_cases c:i<p.size
  · have h1:p.getD i 0∈p:=by
      have e:p.getD i 0=p[i]:=by simp [Array.getD,c]
      rw [e]
      exact Array.getElem_mem c
    have h2:=(h.pm.mem_iff).mp h1
    simpa using h2
  · have e:p.getD i 0=0:=by simp [Array.getD,c]
    rw [e]
    exact hN
theorem Pm.inj (h:Pm key N p) {i j:Nat} (hi:i<N) (hj:j<N) (e:p.getD i 0=p.getD j 0):i=j:=by
  have nd:p.toList.Nodup:=by
    have:=h.pm.toList
    exact this.nodup_iff.mpr (by simpa using List.nodup_range)
  have e1:p.toList[i]?=some (p.getD i 0):=by rw [Array.getElem?_toList];exact qff (by rw [h.sz];exact hi)
  have e2:p.toList[j]?=some (p.getD j 0):=by rw [Array.getElem?_toList];exact qff (by rw [h.sz];exact hj)
  obtain ⟨h1,q1⟩:=List.getElem?_eq_some_iff.mp e1
  obtain ⟨h2,q2⟩:=List.getElem?_eq_some_iff.mp e2
  exact (List.getElem_inj nd).mp (q1.trans (e.trans q2.symm))
variable (hk : ∀ i j, i < N → j < N → key i = key j → i = j)
include hk
theorem Pm.ne (h:Pm key N p) {i j:Nat} (hi:i<N) (hj:j<N) (hne:i≠j):Ky key p i≠Ky key p j:=fun e =>
  hne (h.inj hi hj (hk _ _ (h.lt (by omega) i) (h.lt (by omega) j) e))
theorem qht (h:Pm key N p):∀ f n,1≤n→n+f≤N→Asc key p n→Go (fk key) N (fun m=>n≤m∧m≤n+f∧Asc key p m∧(m<n+f→Ky key p m<Ky key p (m - 1))) (kas_asc p f n)
  | 0,n,_,_,ha=>⟨Nat.le_refl _,Nat.le_refl _,ha,fun h=>absurd h (by omega)⟩
  | f+1,n,h1,h2,ha=>by
    refine ⟨h.lt (by omega) n,h.lt (by omega) (n - 1),?_⟩
    by_cases c:key (p.getD n 0)<key (p.getD (n - 1) 0)
    · simp only [fk,decide_eq_true c,if_true]
      exact ⟨Nat.le_refl _,by omega,ha,fun _=>c⟩
    · simp only [fk,decide_eq_false c,Bool.false_eq_true,if_false]
      have hne:=h.ne hk (i:=n) (j:=n - 1) (by omega) (by omega) (by omega)
      have hlt:Ky key p (n - 1)<Ky key p n:=by
        have c':¬ Ky key p n<Ky key p (n - 1):=c
        omega
      refine (qht h f (n+1) (by omega) (by omega) fun i hi=>?_).imp fun m hm=>⟨by omega,by omega,hm.2.2.1,fun z=>hm.2.2.2 (by omega)⟩
      by_cases e:i+1=n
      · have e':n - 1=i:=by omega
        rw [e'] at hlt
        rw [e]
        exact hlt
      · exact ha i (by omega)
theorem qit (h:Pm key N p):∀ f n,1≤n→n+f≤N→Dsc key p n→Go (fk key) N (fun r=>r.1=p∧n≤r.2.1∧r.2.1≤n+f∧r.2.2=0∧Dsc key p r.2.1) (kas_desc f p n 0)
  | 0,n,_,_,ha=>⟨rfl,Nat.le_refl _,Nat.le_refl _,rfl,ha⟩
  | f+1,n,h1,h2,ha=>by
    refine ⟨h.lt (by omega) n,h.lt (by omega) (n - 1),?_⟩
    have hne:=h.ne hk (i:=n) (j:=n - 1) (by omega) (by omega) (by omega)
    by_cases c:key (p.getD n 0)<key (p.getD (n - 1) 0)
    · simp only [fk,decide_eq_true c,if_true]
      rw [if_neg (by omega)]
      refine (qit h f (n+1) (by omega) (by omega) fun i hi=>?_).imp fun r hr=>⟨hr.1,by omega,by omega,hr.2.2.2⟩
      by_cases e:i+1=n
      · have e':n - 1=i:=by omega
        rw [e]
        have c':Ky key p n<Ky key p (n - 1):=c
        rw [e'] at c'
        exact c'
      · exact ha i (by omega)
    · simp only [fk,decide_eq_false c,Bool.false_eq_true,if_false]
      refine ⟨h.lt (by omega) (n - 1),h.lt (by omega) n,?_⟩
      have c2:key (p.getD (n - 1) 0)<key (p.getD n 0):=by
        have c':¬ Ky key p n<Ky key p (n - 1):=c
        show Ky key p (n - 1)<Ky key p n
        omega
      simp only [decide_eq_true c2,if_true]
      exact ⟨rfl,Nat.le_refl _,by show n≤n+(f+1);omega,rfl,ha⟩
omit hk in
theorem Pm.rev (h:Pm key N p) {n:Nat}:Pm key N (kas_rev p 0 n):=⟨by unfold kas_rev;rw [mirror_size];exact h.sz,(mirror_perm ..).trans h.pm⟩
omit hk in
theorem qko (h:Pm key N p) {n i:Nat} (hn:n≤N):Ky key (kas_rev p 0 n) i=if i<n then Ky key p (n - 1 - i) else Ky key p i:=by
  have e:=getElem?_mirror (xs:=p) (i:=0) (j:=n) (by rw [h.sz];exact hn) ((n - 0) / 2) (by omega) i
  have g:∀ (q:Array Nat) (k:Nat),q.getD k 0=(q[k]?).getD 0:=fun q k=>by simp [Array.getD_eq_getD_getElem?]
  unfold Ky kas_rev
  rw [g,e]
  by_cases c:i<n
  · rw [if_pos c]
    by_cases d:(0≤i∧i<0+(n - 0) / 2)∨(n - (n - 0) / 2≤i∧i<n)
    · rw [if_pos d,g]
      congr 3
      omega
    · rw [if_neg d,g]
      congr 3
      omega
  · rw [if_neg c,if_neg (by omega),g]
theorem qkN (h:Pm key N p) {n:Nat} (h1:1≤n) (h2:n≤N) (hd:Dsc key p n):Go (fk key) N (fun r=>1≤r.1∧r.1≤N∧Pm key N r.2∧Asc key r.2 r.1) (kas_tail3 n N p):=by
  unfold kas_tail3
  have ha:Asc key (kas_rev p 0 n) n:=fun i hi=>by
    rw [qko h h2,qko h h2,if_pos (by omega),if_pos hi]
    have:=hd (n - 1 - (i+1)) (by omega)
    have e:n - 1 - (i+1)+1=n - 1 - i:=by omega
    rw [e] at this
    exact this
  exact (qht hk h.rev (N - n) n h1 (by omega) ha).bind fun m hm=>⟨by omega,by omega,h.rev,hm.2.2.1⟩
theorem qja (h:Pm key N p) (h1:1≤N):Go (fk key) N (fun r=>1≤r.1∧r.1≤N∧Pm key N r.2∧Asc key r.2 r.1) (kas_count N p):=by
  unfold kas_count
  refine (qht hk h (N - 1) 1 (by omega) (by omega) fun i hi=>absurd hi (by omega)).bind fun n hn=>?_
  obtain ⟨n1,n2,ha,hs⟩:=hn
  by_cases c:(n == N)=true
  · rw [if_pos c]
    exact ⟨n1,by omega,h,ha⟩
  · rw [if_neg c]
    have cn:n≠N:=fun e=>c (by simp [e])
    by_cases d:n>1
    · rw [if_pos d]
      refine ⟨h.lt (by omega) 0,h.lt (by omega) (n - 1),?_⟩
      have up:∀ k,0<k→k<n→Ky key p 0<Ky key p k:=by
        intro k
        induction k with
        | zero=>intro z;omega
        | succ k ih =>
          intro _ hkn
          have h3:=ha k hkn
          by_cases e:k=0
          · subst e;exact h3
          · have:=ih (by omega) (by omega)
            omega
      have c2:key (p.getD 0 0)<key (p.getD (n - 1) 0):=up (n - 1) (by omega) (by omega)
      simp only [fk,decide_eq_true c2,if_true]
      exact ⟨n1,by omega,h,ha⟩
    · rw [if_neg d]
      have e1:n=1:=by omega
      subst e1
      unfold kas_descPart
      have h2:=hs (by omega)
      refine (qit hk h (N - (1+1)) (1+1) (by omega) (by omega) fun i hi=>?_).bind fun r hr=>?_
      · have e:i=0:=by omega
        subst e
        exact h2
      · obtain ⟨e1,r1,r2,e2,hd⟩:=hr
        rw [if_neg (by omega),e1]
        exact qkN hk h (by omega) (by omega) hd
theorem qeU (h:Pm key N p) {k:Nat} (hkN:k<N) (ha:Asc key p k):∀ f l r,l≤r→r≤k→r - l≤f→(∀ i,i<l→Ky key p i<Ky key p k)→(∀ i,r≤i→i<k→Ky key p k<Ky key p i) →
    Go (fk key) N (fun m=>m≤k∧(∀ i,i<m→Ky key p i<Ky key p k)∧∀ i,m≤i→i<k→Ky key p k<Ky key p i) (kas_place p k f l r)
  | 0,l,r,h1,h2,h3,h4,h5=>⟨by omega,h4,fun i hi=>h5 i (by omega)⟩
  | f+1,l,r,h1,h2,h3,h4,h5=>by
    have mono:∀ i j,i<j→j<k→Ky key p i<Ky key p j:=by
      intro i j
      induction j with
      | zero=>intro z;omega
      | succ j ih =>
        intro hij hjk
        have:=ha j hjk
        by_cases e:i=j
        · subst e;exact this
        · have:=ih (by omega) (by omega)
          omega
    unfold kas_place
    by_cases c:l≥r
    · rw [if_pos c]
      exact ⟨by omega,h4,fun i hi=>h5 i (by omega)⟩
    · rw [if_neg c]
      refine ⟨h.lt (by omega) k,h.lt (by omega) _,?_⟩
      have hne:=h.ne hk (i:=k) (j:=(l+r) / 2) (by omega) (by omega) (by omega)
      by_cases d:key (p.getD k 0)<key (p.getD ((l+r) / 2) 0)
      · simp only [fk,decide_eq_true d,if_true]
        refine qeU h hkN ha f l ((l+r) / 2) (by omega) (by omega) (by omega) h4 fun i hi hik=>?_
        have d':Ky key p k<Ky key p ((l+r) / 2):=d
        by_cases e:i=(l+r) / 2
        · rw [e];exact d'
        · have:=mono ((l+r) / 2) i (by omega) hik
          omega
      · simp only [fk,decide_eq_false d,Bool.false_eq_true,if_false]
        refine qeU h hkN ha f ((l+r) / 2+1) r (by omega) (by omega) (by omega) (fun i hi=>?_) h5
        have d':¬ Ky key p k<Ky key p ((l+r) / 2):=d
        by_cases e:i=(l+r) / 2
        · rw [e];omega
        · have:=mono i ((l+r) / 2) (by omega) (by omega)
          omega
omit hk in
theorem Pm.bub (h:Pm key N p) {k d:Nat}:Pm key N (bubble p k d):=⟨by rw [bubble_size];exact h.sz,(bubble_perm ..).trans h.pm⟩
theorem qkm:∀ f (p:Array Nat) k,Pm key N p→k+f=N→1≤k→Asc key p k→Go (fk key) N (fun q=>Pm key N q∧Asc key q N) (kas_bin f p k)
  | 0, p, k, h, e, _, ha => ⟨h, by have : k = N := by omega
                                   subst this;exact ha⟩
  | f+1,p,k,h,e,h1,ha=>by
    unfold kas_bin
    refine (qeU hk h (by omega) ha k 0 k (by omega) (by omega) (by omega) (fun i hi=>absurd hi (by omega)) fun i hi hi2=>absurd hi (by omega)).bind fun l hl=>?_
    obtain ⟨l1,l2,l3⟩:=hl
    refine qkm f _ (k+1) h.bub (by omega) (by omega) fun i hi=>?_
    have g:∀ (q:Array Nat) (k:Nat),q.getD k 0=(q[k]?).getD 0:=fun q k=>by simp [Array.getD_eq_getD_getElem?]
    have ky:∀ j,Ky key (bubble p k (k - l)) j=if j=l then Ky key p k else if l<j∧j≤k then Ky key p (j - 1) else Ky key p j:=fun j=>by
      have e:=getElem?_bubble (xs:=p) (src:=k) (by rw [h.sz];omega) (k - l) (by omega) j
      have e1:k - (k - l)=l:=by omega
      rw [e1] at e
      unfold Ky
      rw [g,e]
      by_cases c:j=l
      · rw [if_pos c,if_pos c,g]
      · rw [if_neg c,if_neg c]
        by_cases d:l<j∧j≤k
        · rw [if_pos d,if_pos d,g]
        · rw [if_neg d,if_neg d,g]
    rw [ky,ky]
    by_cases c1:i=l
    · subst c1
      rw [if_pos rfl,if_neg (by omega),if_pos (by omega)]
      exact l3 _ (by omega) (by omega)
    · rw [if_neg c1]
      by_cases c2:i+1=l
      · rw [if_pos c2,if_neg (by omega)]
        exact l2 i (by omega)
      · rw [if_neg c2]
        by_cases c3:l<i
        · rw [if_pos (by omega),if_pos (by omega)]
          have:=ha (i - 1) (by omega)
          have e1:i - 1+1=i:=by omega
          rw [e1] at this
          exact this
        · rw [if_neg (by omega),if_neg (by omega)]
          exact ha i (by omega)
theorem qkS (h1:1≤N):Go (fk key) N (fun q=>Pm key N q∧Asc key q N) (kas_sort N):=by
  unfold kas_sort
  have h0:Pm key N (List.toArray (List.range N)):=⟨by simp,Array.Perm.refl _⟩
  refine (qja hk h0 h1).bind fun r hr=>?_
  obtain ⟨r1,r2,hp,ha⟩:=hr
  by_cases c:r.1<N
  · rw [if_pos c]
    have e:max r.1 1=r.1:=by omega
    rw [e]
    exact qkm hk (N - r.1) r.2 r.1 hp (by omega) r1 ha
  · rw [if_neg c]
    have e:r.1=N:=by omega
    rw [e] at ha
    exact ⟨hp,ha⟩
end
end L2
namespace L2
open PySem PySem.Spec PySem.W PyProof.Rows PySem.Calls
section
variable {prog : Program} {w : World} {A : Around} {E : Value → Shared → Prop} {s : Shared} {h₀ : Heap} {L a : Addr} {m : Str → Option Value} {news : List (Addr × Obj)} {vs : List Value}
theorem qg0 {n:Nat} {P:PySem.Fin→Shared→Prop} (F:Fr h₀ L s.heap m) (N:News h₀ L s.heap news) (ho:s.heap.get? a=some (seqObj "list" vs.toArray n)) (haL:a≠L) (ha0:h₀.get? a=none) (hna:∀ p∈news,p.1≠a)
    (h2:vs.length<2) (h:∀ h' c,Fr h₀ L h' m→News h₀ L h' ((a,seqObj "list" vs.toArray c)::news)→P (.done (.ret .none)) { s with heap:=h' }) :
    wpAny (model prog w) A (Builtin.«list.sort» ⟨[.ref a],[]⟩) P E s:=by
  have ha:a<s.heap.objs.size:=Heap.lt_size ho
  have s1:=Heap.SameBut.update s.heap a (Obj.mapSeq fun _=>(#[]:Array Value))
  obtain ⟨e1,ho1⟩:∃ e1,(s.heap.update a (Obj.mapSeq fun _=>(#[]:Array Value))).get? a=some (seqObj "list" #[] e1):=⟨_,get?_update_seq ho fun _=>#[]⟩
  have F3:Fr h₀ L (((s.heap.update a (Obj.mapSeq fun _=>(#[]:Array Value))).push (seqObj "tuple" vs.toArray 0)).push (seqObj "list" #[] 0)) m:=((kas_fr F s1 haL ha0).push _).push _
  have N2:News h₀ L (((s.heap.update a (Obj.mapSeq fun _=>(#[]:Array Value))).push (seqObj "tuple" vs.toArray 0)).push (seqObj "list" #[] 0)) news :=
    (kas_news N s1 hna).grown fun b x e=>Heap.get?_push_of_some _ (Heap.get?_push_of_some _ e)
  have ho3:(((s.heap.update a (Obj.mapSeq fun _=>(#[]:Array Value))).push (seqObj "tuple" vs.toArray 0)).push (seqObj "list" #[] 0)).get? a=some (seqObj "list" #[] e1):=Heap.get?_push_of_some _ (Heap.get?_push_of_some _ ho1)
  rw [list_sort_plain]
  refine wpAny_bind (listItems_at ho rfl ?_)
  refine wpAny_bind (listUpdate_at ho rfl ?_ (by rw [List.size_toArray,sizeLine_eq];omega) (Nat.zero_le _))
  refine wpAny_bind (seqEpoch_at ho1 rfl ?_)
  refine wpAny_bind (wpAny_newTuple ?_ (by show vs.length≤_;rw [sizeLine_eq];omega))
  refine wpAny_bind (wpAny_newList ?_ (Nat.zero_le _))
  refine wpAny_holding ?_
  show wpAny (model prog w) A _ P E { s with heap:=((s.heap.update a (Obj.mapSeq fun _=>(#[]:Array Value))).push (seqObj "tuple" vs.toArray 0)).push (seqObj "list" #[] 0) }
  dsimp only
  have hn2:vs.toArray.size<2:=by rw [List.size_toArray];omega
  rw [if_pos hn2,if_pos hn2]
  refine wpAny_bind (wpAny_pure ?_)
  refine wpAny_bind (wpAny_of_eq (show (pure ():StateT SortSt Sem Unit).run (SortSt.mk' general' (vs.toArray.zip vs.toArray) #[] 7 none)=pure ((),SortSt.mk' general' (vs.toArray.zip vs.toArray) #[] 7 none) from rfl) ?_)
  dsimp only
  have hout:(arrOf (SortSt.mk' general' (vs.toArray.zip vs.toArray) #[] 7 none)).map (·.2)=vs.toArray:=by
    show (vs.toArray.zip vs.toArray).map (·.2)=vs.toArray
    have key:∀ l:List Value,(l.zip l).map (·.2)=l:=by
      intro l
      induction l with
      | nil=>rfl
      | cons x t ih=>rw [List.zip_cons_cons,List.map_cons,ih]
    apply Array.toList_inj.mp
    simp [key]
  rw [hout]
  generalize ((s.heap.update a (Obj.mapSeq fun _=>(#[]:Array Value))).push (seqObj "tuple" vs.toArray 0)).push (seqObj "list" #[] 0)=h3 at *
  have s2:=Heap.SameBut.update h3 a (Obj.mapSeq fun _=>vs.toArray)
  obtain ⟨c2,hc2⟩:∃ c2,(h3.update a (Obj.mapSeq fun _=>vs.toArray)).get? a=some (seqObj "list" vs.toArray c2):=⟨_,get?_update_seq ho3 fun _=>vs.toArray⟩
  refine wpAny_bind (seqEpoch_at ho3 rfl ?_)
  refine wpAny_bind (listUpdate_at ho3 rfl ?_ (Nat.zero_le _) (by rw [List.size_toArray,sizeLine_eq];omega))
  simp only [bne_self_eq_false,Bool.false_eq_true,if_false]
  refine wpAny_pure (h _ c2 (kas_fr F3 s2 haL ha0) fun p hp=>?_)
  rcases List.mem_cons.mp hp with rfl | hp
  · exact ⟨hc2,haL,ha0⟩
  · exact kas_news N2 s2 hna p hp
theorem qe6 {l:Addr} {Q:Value→Shared→Prop} (F:Fr h₀ L s.heap m) (N:News h₀ L s.heap news) (hl:s.heap.IsList l vs.toArray) (h2:vs.length<2)
    (h:∀ D h' c,Fr h₀ L h' m→News h₀ L h' ((D,seqObj "list" vs.toArray c)::news)→s.heap.objs.size≤D→Q (.ref D) { s with heap:=h' }) :
    wpAny (model prog w) A (call (.builtin "sorted") [.ref l]) Q E s:=by
  refine Calls.call_function_entry kind_sorted plain_sorted entry_sorted (args_sorted1 _) ?_
  unfold Builtin.«sorted»
  refine wpAny_bind (m:=checkCount "sorted" 1 1 _) (wpAny_pure ?_)
  refine wpAny_bind (collect_list hl ?_ (by rw [sizeLine_eq];omega))
  refine wpAny_bind (wpAny_newList ?_ (by rw [sizeLine_eq];omega))
  have hsz:((s.heap.push (seqObj "list" #[] 0)).update s.heap.objs.size (Obj.mapSeq (·++vs.toArray))).objs.size=s.heap.objs.size+1:=by
    rw [Heap.size_update,size_push']
  have hoL:(((s.heap.push (seqObj "list" #[] 0)).update s.heap.objs.size (Obj.mapSeq (·++vs.toArray))).push (seqObj "list" vs.toArray 0)).get? (s.heap.objs.size+1)=some (seqObj "list" vs.toArray 0):=by
    rw [← hsz];exact Heap.get?_push_size _ rfl
  have keep:∀ b o,s.heap.get? b=some o→(((s.heap.push (seqObj "list" #[] 0)).update s.heap.objs.size (Obj.mapSeq (·++vs.toArray))).push (seqObj "list" vs.toArray 0)).get? b=some o:=fun b o q=>by
    have hlt:b<s.heap.objs.size:=Heap.lt_size q
    rw [Heap.get?_push_ne _ _ _ (by rw [hsz];exact Nat.ne_of_lt (Nat.lt_succ_of_lt hlt)),Heap.get?_update_ne _ _ _ _ (Nat.ne_of_lt hlt),Heap.get?_push_ne _ _ _ (Nat.ne_of_lt hlt)]
    exact q
  have hL:L<s.heap.objs.size:=F.ns.lt
  show wpAny _ _ _ _ _ { s with heap:=((s.heap.push (seqObj "list" #[] 0)).update s.heap.objs.size (Obj.mapSeq (·++vs.toArray))).push (seqObj "list" vs.toArray 0) }
  rw [hsz]
  refine wpAny_bind (wpAny_holding (wpAny_call_entry slot_list_sort ⟨_,hoL,rfl⟩ entry_list_sort ?body (args_list_sort _)))
  case body =>
    refine qg0 (s:={ s with heap:=((s.heap.push (seqObj "list" #[] 0)).update s.heap.objs.size (Obj.mapSeq (·++vs.toArray))).push (seqObj "list" vs.toArray 0) })
      (F.kept keep) (N.grown keep) hoL (Nat.ne_of_gt (Nat.lt_succ_of_lt hL)) (Heap.get?_none_of_le (Nat.le_trans F.above (Nat.le_succ_of_le (Nat.le_of_lt hL))))
      (fun p hp=>Nat.ne_of_lt (Nat.lt_succ_of_lt (Heap.lt_size (N p hp).1))) h2 fun h' c F' N'=>?_
    exact ⟨_,rfl,wpAny_pure ⟨_,rfl,h _ h' c F' N' (Nat.le_succ _)⟩⟩
theorem qlF {x y:Addr} {a1 a2 b1 b2:Int} {t1 t2 u1 u2:Tok} {Q:Bool→Shared→Prop} (hx:IsTup s.heap x #[.int a1 t1,.int a2 t2]) (hy:IsTup s.heap y #[.int b1 u1,.int b2 u2])
    (h:Q (decide (a1<b1)) s) (he:a1=b1→a2=b2):wpAny (model prog w) A (keyLt' (tuples' true) (.ref x) (.ref y)) Q E s:=by
  obtain ⟨ox,hox,_,n,hdx⟩:=hx
  obtain ⟨oy,hoy,_,k,hdy⟩:=hy
  refine kat_lt hox hdx hoy hdy ?_
  refine kat_cons (wpAny_eqBool_int ?_)
  by_cases c:a1=b1
  · subst c
    have c2:=he rfl
    subst c2
    have e1:(a1 == a1)=true:=by simp
    rw [e1]
    refine kat_yes (kat_cons (wpAny_eqBool_int ?_))
    have e2:(a2 == a2)=true:=by simp
    rw [e2]
    refine kat_yes (kat_nil ?_)
    have e3:decide (a1<a1)=false:=by simp
    rw [e3] at h
    exact h
  · have e1:(a1 == b1)=false:=by simpa using c
    rw [e1]
    refine kat_no ?_
    show wpAny _ _ (oneLt' true _ _) _ _ _
    exact kat_lt_int h
end
end L2
namespace L2
open PySem PySem.Spec PySem.W PyProof.Rows PySem.Calls
theorem HOk.there {P:Program} {w:World} {H:Hp} {h:Heap} {a:Addr} {o:HO} (x:HOk P w H h) (e:H a=some o):∃ ob,h.get? a=some ob:=by
  have x:=x a o e
  cases o with
  | lst xs=>obtain ⟨_,_,_,_,e⟩:=x;exact ⟨_,e⟩
  | tup xs=>obtain ⟨_,_,_,ob,e,_⟩:=x;exact ⟨_,e⟩
  | dK kvs=>obtain ⟨_,_,_,_,o,_,_,e,_⟩:=x;exact ⟨_,e⟩
  | dT kvs=>obtain ⟨_,_,_,_,o,_,_,e,_⟩:=x;exact ⟨_,e⟩
  | set S n=>obtain ⟨o,_,_,_,e,_⟩:=x;exact ⟨_,e⟩
  | ins C dx fs=>obtain ⟨_,_,_,e,_⟩:=x;exact ⟨_,e⟩
  | own y=>obtain ⟨_,e⟩:=x;exact ⟨_,e⟩
  | xd fs=>obtain ⟨_,⟨_,_,_,e,_⟩,_⟩:=x;exact ⟨_,e⟩
  | rng lo hi=>obtain ⟨_,_,_,e⟩:=x;exact ⟨_,e⟩
  | frz ob u=>obtain ⟨e,_⟩:=x;exact ⟨_,e⟩
  | tbl ps=>rcases x with x | ⟨_,_,_,_,_,_,_,_,_,_,x,_⟩ <;> exact ⟨_,x⟩
  | met f y=>exact ⟨_,(show h.get? a=some _ from x)⟩
  | ext φ=>obtain ⟨_,⟨_,e⟩,_⟩:=x;exact ⟨_,e⟩
theorem Inv.listNew {X:Cx} {pins:List (Addr × Obj)} {σ:St} {H:Hp} {s:Shared} {h':Heap} {m:Str→Option Value} {Da:Addr} {vs:List V} {its:List Value} {c:Nat} (I:Inv X pins σ H s) (hm:s.heap.Ns X.env.locals m) (hm':h'.Ns X.env.locals m)
    (keep:∀ b o,b≠X.env.locals→s.heap.get? b=some o→h'.get? b=some o) (hD:s.heap.get? Da=none) (hDo:h'.get? Da=some (seqObj "list" its.toArray c)) (rv:Vals vs its) (hz:vs.length≤sizeLine) :
    H Da=none∧Inv X pins σ (upd H Da (.lst vs)) { s with heap:=h' }:=by
  have hn:H Da=none:=by
    cases e:H Da with
    | none=>rfl
    | some o=>obtain ⟨ob,q⟩:=I.hok.there e;rw [hD] at q;cases q
  refine ⟨hn,I.step (H':=upd H Da (.lst vs)) (h':=h') (g':=s.gens) (t':=s.toks) (d':=s.drawn) (ch:=[]) (fun b z=>absurd z (by simp)) (fun b o hL _ _ e _=>keep b o hL e) (fun b o hL _ _ e _=>⟨o.slots,keep b o hL e⟩) (fun b o _ e n=>?_) (fun b o _ e=>?_)
    (fun b xs e=>by rw [qau (qat e hn)];exact e) (fun b o u e=>by rw [qau (qat e hn)];exact e) (fun b ps e=>by rw [qau (qat e hn)];exact e) (fun m' h2=>?_) (fun b u e=>?_) I.bare⟩
  · have hb:b≠Da:=fun z=>by rw [z,hD] at e;cases e
    rw [qau hb];exact n
  · by_cases hL:b=X.env.locals
    · obtain ⟨o',_,_,ho',_⟩:=hm'
      exact ⟨o',by rw [hL];exact ho'⟩
    · exact ⟨o,keep b o hL e⟩
  · rw [h2.eq_nsMap,← hm.eq_nsMap]
    exact hm'
  · by_cases hb:b=Da
    · subst hb
      rw [qan] at e
      cases e
      exact ⟨hz,its,c,rv,hDo⟩
    · rw [qau hb] at e
      refine (I.hok b u e).stay (fun d v hc q=>keep d v ?_ q) (fun d q=>by rw [qau (qat q hn)];exact q) (fun d xs q=>by rw [qau (qat q hn)];exact q) fun d ob w q=>by rw [qau (qat q hn)];exact q
      rcases hc with z | z
      · rw [z];intro z2;rw [z2,I.free] at e;cases e
      · intro z2;rw [z2,I.free] at z;cases z
theorem qef {h:Heap}:∀ {its:List Value},(∀ v∈its,∃ (x:Addr) (a b:Int) (t t':Tok),v=.ref x∧IsTup h x #[.int a t,.int b t'])→∃ fs,KatTups h its fs∧fs.length=its.length∧∀ v∈fs,∃ (i:Int) (t:Tok),v=Value.int i t
  | [],_=>⟨[],.nil,rfl,fun v hv=>by simp at hv⟩
  | v::its,hv=>by
    obtain ⟨fs,h1,h2,h3⟩:=qef (its:=its) fun v' hv'=>hv v' (List.mem_cons_of_mem _ hv')
    obtain ⟨x,a,b,t,t',rfl,o,ho,hc,n,hd⟩:=hv v List.mem_cons_self
    refine ⟨.int a t::fs,.cons ho hc hd rfl h1,by simp [h2],fun v' hv'=>?_⟩
    rcases List.mem_cons.mp hv' with rfl | hv'
    · exact ⟨a,t,rfl⟩
    · exact h3 v' hv'
theorem qfG {vs:List V} {its:List Value} (r:Vals vs its):∀ l:List Nat,Vals (l.map fun i=>vs.getD i .non) (l.map fun i=>its.getD i .none)
  | []=>.nil
  | i::l=>by
    refine .cons ?_ (qfG r l)
    show RelV (vs.getD i .non) (its.getD i .none)
    rw [List.getD_eq_getElem?_getD,List.getD_eq_getElem?_getD]
    cases e:vs[i]? with
    | none=>rw [r.none_of e];rfl
    | some v=>obtain ⟨u,h1,h2⟩:=r.get e;rw [h1];exact h2
abbrev prT (p:Int × Int):D:=.tup [.int p.1,.int p.2]
def qmh:SpD:=fun ds R=>match ds with
  | [.lst es]=>∃ ps:List (Int × Int),es=ps.map prT∧ps.length<64∧(∀ (i j:Nat) (p q:Int × Int),ps[i]?=some p→ps[j]?=some q→p.1=q.1→i=j)∧∀ qs:List (Int × Int),qs.Perm ps→qs.Pairwise (fun a b=>a.1<b.1)→R (.lst (qs.map prT))
  | _=>False
theorem qcS {α:Type} (d:α) (l:List α):(List.range l.length).map (fun i=>l.getD i d)=l:=by
  refine List.ext_getElem? fun i=>?_
  rw [List.getElem?_map]
  by_cases h:i<l.length
  · rw [List.getElem?_range h]
    show some (l.getD i d)=_
    rw [List.getD_eq_getElem?_getD,List.getElem?_eq_getElem h]
    rfl
  · rw [List.getElem?_eq_none (by rw [List.length_range];omega),List.getElem?_eq_none (by omega)]
    rfl
section
variable {K : PySem.W.Frag} {X : Cx}
theorem qil:CallD K X (.builtin "sorted") qmh:=⟨fun hK pins s σ H xs us Q I rr hq0=>by
  obtain ⟨Φ,ds,R,sm,hl,h,k⟩:=hq0
  subst hK
  match ds,h with
  | [.lst es],⟨ps,hes,h64,hinj,hR⟩ =>
    subst hes
    obtain ⟨v,rfl,r⟩:=qbE hl
    obtain ⟨a,vs,rfl,q1,q2⟩:=r.lst sm
    cases rr with
    | cons r0 rr =>
    cases rr
    cases r0
    obtain ⟨hz,its,n,rvs,e1,e2⟩:=I.lstM q1
    have lv:vs.length=ps.length:=by rw [q2.1,List.length_map]
    have tp:∀ (i:Nat) (p:Int × Int),ps[i]?=some p→∃ (x:Addr) (t t':Tok),its[i]?=some (.ref x)∧IsTup s.heap x #[.int p.1 t,.int p.2 t']:=fun i p hp=>by
      obtain ⟨v,hv,rv⟩:=q2.at (i:=i) (d:=prT p) (by rw [List.getElem?_map,hp];rfl)
      cases rv with
      | @tup x ws _ h1 h2 h3 =>
        obtain ⟨u,hu,ru⟩:=rvs.get hv
        cases (show u=Value.ref x from ru)
        match ws,h2,h1,h3 with
        | [y,z],_,h1,h3 =>
          have r1:=h3 0 y (.int p.1) rfl rfl
          have r2:=h3 1 z (.int p.2) rfl rfl
          cases r1
          cases r2
          obtain ⟨its',r',p',_⟩:=I.tuple (sm.sqt h1)
          cases r' with
          | cons a1 r' =>
          cases r' with
          | cons a2 r' =>
          cases r'
          obtain ⟨t,rfl⟩:=a1
          obtain ⟨t',rfl⟩:=a2
          exact ⟨x,t,t',hu,p'⟩
    obtain ⟨m,hm,hloc⟩:=id I.loc
    have F:=Att.fr_all hm
    have N:News (Att.noObjs s.heap) X.env.locals s.heap (qdr (Att.noObjs s.heap) s.heap X.env.locals):=qi9
    have keepN:∀ {h':Heap} {l:List (Addr × Obj)},News (Att.noObjs s.heap) X.env.locals h' l→(∀ q∈qdr (Att.noObjs s.heap) s.heap X.env.locals,q∈l)→∀ b o,b≠X.env.locals→s.heap.get? b=some o→h'.get? b=some o:=fun N' hs b o hL e=>(N' (b,o) (hs _ (qdw hL (Att.noObjs_get _ _) e))).1
    have notT:∀ {x:Addr} {us:Array Value},IsTup s.heap x us→x≠X.env.locals:=fun {x us} hq1 z=>by
      obtain ⟨o,ho,_,n,hd⟩:=hq1
      obtain ⟨o',es,ep,ho',hd',_⟩:=hm
      rw [z,ho'] at ho;cases ho;rw [hd'] at hd;cases hd
    have fin:∀ (l:List Nat) (Da:Addr) (h':Heap) (c:Nat),l.Perm (List.range ps.length)→(l.map fun i=>ps.getD i (0,0)).Pairwise (fun a b=>a.1<b.1)→s.heap.get? Da=none→h'.Ns X.env.locals m→(∀ b o,b≠X.env.locals→s.heap.get? b=some o→h'.get? b=some o) →
        h'.get? Da=some (seqObj "list" (l.map fun i=>its.getD i .none).toArray c)→EP X pins σ Q (.ref Da) { s with heap:=h' }:=fun l Da h' c hp hs hD hm' keep hDo=>by
      have rp:=qfG rvs l
      have ll:l.length=ps.length:=by rw [hp.length_eq,List.length_range]
      obtain ⟨hn,I2⟩:=I.listNew hm hm' keep hD hDo rp (by rw [List.length_map,ll,← lv];exact hz)
      have sn:=qaG (sm.free hn) (.lst (l.map fun i=>vs.getD i .non))
      have rl:RpL X.K Φ ((l.map fun i=>ps.getD i (0,0)).map prT) (l.map fun i=>vs.getD i .non):=by
        refine ⟨by simp,fun i v d hv hd=>?_⟩
        rw [List.getElem?_map] at hv hd
        rw [List.getElem?_map] at hd
        cases e:l[i]? with
        | none=>rw [e] at hv;cases hv
        | some j =>
          rw [e] at hv hd
          cases hv
          cases hd
          have hj:j<ps.length:=List.mem_range.mp (hp.mem_iff.mp (List.mem_of_getElem? e))
          refine q2.2 j _ _ ?_ ?_
          · show vs[j]?=some (vs.getD j .non)
            rw [List.getD_eq_getElem?_getD,qaA (show j<vs.length by omega)];rfl
          · show (ps.map prT)[j]?=some (prT (ps.getD j (0,0)))
            rw [List.getElem?_map,List.getD_eq_getElem?_getD,qaA hj];rfl
      have pq:(l.map fun i=>ps.getD i (0,0)).Perm ps:=by
        have:=hp.map fun i=>ps.getD i (0,0)
        rw [qcS] at this
        exact this
      exact ⟨.ref Da,_,I2,rfl,k _ _ _ _ (hR _ pq hs) (.new sm hn _) ((rl.same sn).lst qan)⟩
    have hls:s.heap.IsList a its.toArray:=⟨_,e2,rfl,_,rfl⟩
    by_cases c2:its.length<2
    · refine qe6 F N hls c2 fun Da h' c F' N' hge=>?_
      refine fin (List.range ps.length) Da h' c (.refl _) ?_ (Heap.get?_none_of_le hge) F'.ns (keepN N' fun q hq=>List.mem_cons_of_mem _ hq) ?_
      · rw [qcS]
        match ps,(show ps.length<2 by omega) with
        | [],_=>exact .nil
        | [p],_=>exact List.pairwise_singleton _ _
      · have:(List.range ps.length).map (fun i=>its.getD i Value.none)=its:=by
          rw [← lv,e1]
          exact qcS _ its
        rw [this]
        exact (N' _ List.mem_cons_self).1
    · have lp:its.length=ps.length:=by omega
      refine kat_sorted F N hls (by omega) (by omega) fun Da d1 h' F' N' hlt=>?_
      have keep:=keepN N' fun q hq=>List.mem_cons_of_mem _ hq
      have hD:s.heap.get? Da=none:=by
        cases e:s.heap.get? Da with
        | none=>rfl
        | some o =>
          have nL:=(N' _ List.mem_cons_self).2.1
          exact absurd (hlt _ (qdw nL (Att.noObjs_get _ _) e)) (Nat.lt_irrefl _)
      have tp':∀ (i:Nat) (p:Int × Int),ps[i]?=some p→∃ (x:Addr) (t t':Tok),its[i]?=some (.ref x)∧IsTup h' x #[.int p.1 t,.int p.2 t']:=fun i p hp=>by
        obtain ⟨x,t,t',h1,h2⟩:=tp i p hp
        have nL:=notT h2
        obtain ⟨o,ho,r⟩:=h2
        exact ⟨x,t,t',h1,o,keep _ _ nL ho,r⟩
      obtain ⟨fs,k1,k2,k3⟩:=qef (h:=h') (its:=its) fun v hv=>by
        obtain ⟨i,hi⟩:=List.getElem?_of_mem hv
        have hil:i<ps.length:=by have:=qaF hi;omega
        obtain ⟨x,t,t',h1,h2⟩:=tp' i _ (qaA hil)
        rw [hi] at h1
        cases h1
        exact ⟨x,_,_,t,t',rfl,h2⟩
      refine kat_kind (s:={ s with heap:=h' }) (T:=.type "int") k1 (by omega) (fun v hv=>by obtain ⟨i,t,rfl⟩:=k3 v hv;exact Looks.of_pure rfl) (by decide) ?_
      show KasT.kasWp (kas_ask _ _ _ (tuples' true) its) (kas_sort its.length) _ _
      have hk:∀ i j,i<its.length→j<its.length→(fun i=>(ps.getD i (0,0)).1) i=(fun i=>(ps.getD i (0,0)).1) j→i=j:=fun i j hi hj e=>by
        have g:∀ i,i<ps.length→ps[i]?=some (ps.getD i (0,0)):=fun i hi=>by rw [List.getD_eq_getElem?_getD,qaA hi];rfl
        exact hinj i j _ _ (g i (by omega)) (g j (by omega)) e
      refine Go.wp (f:=fk fun i=>(ps.getD i (0,0)).1) (N:=its.length) (fun i j C hi hj hC=>?_) (fun p hp=>?_) (qkS (key:=fun i=>(ps.getD i (0,0)).1) hk (by omega))
      · have g:∀ i,i<ps.length→ps[i]?=some (ps.getD i (0,0)):=fun i hi=>by rw [List.getD_eq_getElem?_getD,qaA hi];rfl
        obtain ⟨x,t1,t2,x1,x2⟩:=tp' i _ (g i (by omega))
        obtain ⟨y,u1,u2,y1,y2⟩:=tp' j _ (g j (by omega))
        have ex:its.getD i Value.none=.ref x:=by rw [List.getD_eq_getElem?_getD,x1];rfl
        have ey:its.getD j Value.none=.ref y:=by rw [List.getD_eq_getElem?_getD,y1];rfl
        unfold kas_ask
        rw [ex,ey]
        exact qlF x2 y2 hC fun e=>by
          have:=hinj i j _ _ (g i (by omega)) (g j (by omega)) e
          rw [this]
      · obtain ⟨hpm,hasc⟩:=hp
        refine KasFin.intro F' N' (.head fun q hq=>Nat.ne_of_lt (hlt q hq)) fun h2 c F2 N2=>?_
        have hp:p.toList.Perm (List.range ps.length):=by
          have:=hpm.pm.toList
          rw [← lp]
          simpa using this
        refine fin p.toList Da h2 c hp ?_ hD F2.ns (keepN N2 fun q hq=>List.mem_cons_of_mem _ hq) (N2 _ List.mem_cons_self).1
        have up:∀ j i,i<j→j<its.length→Ky (fun i=>(ps.getD i (0,0)).1) p i<Ky (fun i=>(ps.getD i (0,0)).1) p j:=by
          intro j
          induction j with
          | zero=>intro i hi;omega
          | succ j ih =>
            intro i hi hj
            have h3:=hasc j hj
            by_cases e:i=j
            · subst e;exact h3
            · have:=ih i (by omega) (by omega)
              omega
        rw [List.pairwise_iff_getElem]
        intro i j hi hj hij
        rw [List.length_map] at hi hj
        have hpl:p.toList.length=its.length:=by rw [Array.length_toList];exact hpm.sz
        have h4:=up j i hij (by omega)
        have gd:∀ i (hi:i<p.toList.length),p.getD i 0=p.toList[i]:=fun i hi=>by
          have:i<p.size:=by simpa using hi
          simp [Array.getD,this]
        unfold Ky at h4
        rw [gd i hi,gd j hj] at h4
        simpa using h4⟩
end
end L2
namespace L2
open PySem PySem.Spec PyProof.Rows
section
variable {X : Cx}
end
section
variable {K : PySem.W.Frag} {X : Cx} {e e2 : Expr} {te te2 : TD} {pos : Pos}
end
section
variable {K : PySem.W.Frag} {X : Cx}
end
section
variable {K : PySem.W.Frag} {X : Cx} {e ev : Expr} {te tv : TD} {pos : Pos}
end
section
variable {X : Cx}
end
section
variable {K : PySem.W.Frag} {X : Cx} {a b : Expr} {ta tb : TD} {apos cpos : Pos}
end
end L2
namespace L2
open PySem PySem.Spec PySem.W PyProof.Rows PySem.Calls
section
variable {K : PySem.W.Frag} {X : Cx}
end
end L2
namespace L2
open PySem PySem.Spec PyProof.Rows
section
variable {K : PySem.W.Frag} {X : Cx} {e ev : Expr} {te tv : TD} {tk : TDK} {pos p : Pos}
end
section
variable {K : PySem.W.Frag} {X : Cx} {a : Expr} {pos p p2 pos2 : Pos} {tl : TDL}
end
section
variable {K : PySem.W.Frag} {X : Cx} {e : Expr} {es : List Expr} {pos p : Pos} {tl : TDL} {te : TD} {tf : TDL} {sp : SpD} {CX : CXT} {k : Nat} {f : Addr} {fd : FuncData} {ps : List Str} {x : Str} {E : XK}
end
structure Cl (P:Program) (w:World) (K:PySem.W.Frag) (mg:Str→Option Value) (base:Heap) (n:Nat) (x:Str) (ps:List Str) (z:SpD):Prop where
  ex:∃ (f:Addr) (fd:FuncData),FnOk P w K mg base CX0 n f fd ps (lSp K z)∧Binds K fd ps []∧PySem.W.keepIn K (.ref f)=true∧mg x=some (.ref f)
section
variable {P : Program} {w : World} {K : PySem.W.Frag} {mg : Str → Option Value} {base : Heap} {n m : Nat} {x : Str} {ps : List Str} {z : SpD} {X : Cx} {e : Expr} {es : List Expr} {pos p : Pos} {tl : TDL} {st : Stmt} {f : Addr} {fd : FuncData} {h : Heap}
theorem Cl.mono (C:Cl P w K mg base n x ps z) (k:n≤m):Cl P w K mg base m x ps z:=by
  obtain ⟨f,fd,F,r⟩:=C.ex
  exact ⟨f,fd,F.mono k,r⟩
theorem Cl.of (F:Fun K x x st f fd) (b:Binds K fd ps []) (m:mg x=some (.ref f)) (H:FnOk P w K mg base CX0 n f fd ps (lSp K z)):Cl P w K mg base n x ps z:=⟨f,fd,H,b,F.kp,m⟩
theorem qaq (C:Cl X.prog X.w K X.mg X.base n x ps z) (hr:Room n X.A) (hg:Gl X x)
    (ha:PAD K X (e::es) tl) (he:starEach (e::es) X.env=(false,eval e X.env)::starEach es X.env) (hpl:(backTo pos (starEach es X.env)).any (·.1)=false) (hdb:(x == ("__debug__":Str))=false:=by decide) :
    PD K X (.Call (.Name x p) (e::es) [] pos) (qjg z tl):=⟨fun hK=>by
  subst hK
  obtain ⟨f,fd,F,b,k,m⟩:=C.ex
  exact (qmX F hr hg m k b qlp ha he hpl hdb).pe rfl⟩
def dE (P:Params) (x:Str) (n:Nat) (v:Value):DictEntry:=⟨PyData.keyHash P x,.str x n,v⟩
def cO (n:Str) (a:Nat) (q:Str) (b c:Nat) (l m:Int) (k:Int) (r:Nat) (g:Int) (t:Nat) (x y:Value) (z:Nat) (i:Int) (d:Nat):Obj:=⟨.type "code",none,.fields #[.str n a,.str q b,.str "/claim/cut.py" c,.int l 0,.int m 0,.int 0 0,.int 0 0,.int k 0,.ref r,.bool true,.int g 0,.ref t,.none,x,y,.ref z,.int i 0,.int l 0,.str "/claim/cut.py" d],#[]⟩
def fO (s:Stmt) (n q m:Str) (i c:Nat):Obj:=⟨.type "function",none,.func (PySem.W.fnOf n q (qbA s) (qa7 s) (qaf s) .none .none .none (.str m i) none (.ref c) .none),#[]⟩
def Has (K:PySem.W.Frag) (s:Stmt) (x:Str):Prop:=∃ f m i c,PySem.W.nsIn K mainGlobals x=some (some (.ref f))∧K.lookup f=some (fO s x x m i c)∧PySem.W.codeIn K (.ref c) x=true
theorem Has.of {s:Stmt} {m:Str} {i c:Nat} (a:PySem.W.nsIn K mainGlobals x=some (some (.ref f))) (l:K.lookup f=some (fO s x x m i c)) (k:PySem.W.codeIn K (.ref c) x=true):Has K s x:=⟨f,m,i,c,a,l,k⟩
theorem Has.fn (a:Has K st x) (X:K.In h) (G:h.Ns mainGlobals mg):∃ f fd,Fun K x x st f fd∧mg x=some (.ref f)∧∃ m i c,fd=PySem.W.fnOf x x (qbA st) (qa7 st) (qaf st) .none .none .none (.str m i) none (.ref c) .none:=by
  obtain ⟨f,m,i,c,a,l,k⟩:=a
  exact ⟨f,_,qh0 l k (by unfold PySem.W.keepIn;simp only [l];rfl),PySem.W.mg_of X G a,m,i,c,rfl⟩
theorem Fun.cl (F:Fun K x x st f fd) (m:mg x=some (.ref f)) (H:FnOk P w K mg base CX0 n f fd ps (lSp K z))
    (b:∀ (kV doc pm:Value) (an:Option Addr) (cdv ct:Value) (us:List Value),us.length=ps.length→bindArgs (PySem.W.fnOf x x (qbA st) (qa7 st) (qaf st) .none kV doc pm an cdv ct) ⟨us,[]⟩=pure (ps.zip us)):Cl P w K mg base n x ps z:=.of F (F.binds b) m H
end
section
variable {K : PySem.W.Frag} {X : Cx} {n : Nat} {x : Str} {ps : List Str} {z : SpD} {e : Expr} {es : List Expr} {pos p : Pos} {tl : TDL}
end
end L2
namespace Wk
def sm:Nat→(Nat→Int)→Int
  | 0,_=>0
  | n+1,f=>sm n f+f n
theorem sm_congr:∀ {n:Nat} {f g:Nat→Int},(∀ i,i<n→f i=g i)→sm n f=sm n g
  | 0,_,_,_=>rfl
  | n+1,f,g,h=>by
    show sm n f+f n=sm n g+g n
    rw [sm_congr fun i hi=>h i (by omega),h n (by omega)]
theorem sm_zero:∀ (n:Nat),sm n (fun _=>0)=0
  | 0=>rfl
  | n+1=>by show sm n _+0=0;rw [sm_zero n];rfl
theorem qc6 (x y:Int) (f g:Nat→Int):∀ n:Nat,sm n (fun i=>x*f i+y*g i)=x*sm n f+y*sm n g
  | 0=>by show (0:Int)=x*0+y*0;omega
  | n+1=>by
    show sm n _+(x*f n+y*g n)=x*(sm n f+f n)+y*(sm n g+g n)
    rw [qc6 x y f g n]
    grind
theorem sm_add (f g:Nat→Int) (n:Nat):sm n (fun i=>f i+g i)=sm n f+sm n g:=by
  have:=qc6 1 1 f g n
  simp only [Int.one_mul] at this
  exact this
theorem sm_mul (x:Int) (f:Nat→Int) (n:Nat):sm n (fun i=>x*f i)=x*sm n f:=by
  have:=qc6 x 0 f f n
  simp only [Int.zero_mul,Int.add_zero] at this
  exact this
theorem sm_one:∀ {n k:Nat} {f:Nat→Int},k<n→(∀ i,i<n→i≠k→f i=0)→sm n f=f k
  | 0,_,_,h,_=>absurd h (by omega)
  | n+1,k,f,h,hz=>by
    show sm n f+f n=f k
    by_cases c:k=n
    · subst c
      rw [sm_congr (g:=fun _=>0) fun i hi=>hz i (by omega) (by omega),sm_zero]
      omega
    · rw [sm_one (by omega:k<n) fun i hi=>hz i (by omega),hz n (by omega) (by omega)]
      omega
theorem qj6:∀ {n k:Nat} {f:Nat→Int},k+1<n→(∀ i,i<n→i≠k→i≠k+1→f i=0)→sm n f=f k+f (k+1)
  | 0,_,_,h,_=>absurd h (by omega)
  | n+1,k,f,h,hz=>by
    show sm n f+f n=f k+f (k+1)
    by_cases c:k+1=n
    · subst c
      rw [sm_one (by omega:k<k+1) fun i hi hne=>hz i (by omega) hne (by omega)]
    · rw [qj6 (by omega:k+1<n) fun i hi=>hz i (by omega),hz n (by omega) (by omega) (by omega)]
      omega
theorem qdW (f:Nat→Nat→Int) (m:Nat):∀ n:Nat,sm n (fun i=>sm m (f i))=sm m (fun j=>sm n fun i=>f i j)
  | 0=>(sm_zero m).symm
  | n+1=>by
    show sm n _+sm m (f n)=sm m (fun j=>sm n (fun i=>f i j)+f n j)
    rw [qdW f m n,← sm_add]
abbrev Mx:=Nat→Nat→Int
def mn (i:Nat) (A:Mx):Mx:=fun a j=>A (if a<i then a else a+1) (j+1)
def sg:Nat→Int
  | 0=>1
  | n+1=>- sg n
def det:Nat→Mx→Int
  | 0,_=>1
  | n+1,A=>sm (n+1) fun i=>sg i*A i 0*det n (mn i A)
def up (A:Mx) (k:Nat) (r:Nat→Int):Mx:=fun i j=>if i=k then r j else A i j
theorem qca {A:Mx} {k:Nat} {r:Nat→Int}:up A k r k=r:=by funext j;unfold up;rw [if_pos rfl]
theorem qeD {A:Mx} {k i:Nat} {r:Nat→Int} (h:i≠k):up A k r i=A i:=by funext j;unfold up;rw [if_neg h]
theorem qnF {A:Mx} {k:Nat} {r q:Nat→Int}:up (up A k r) k q=up A k q:=by
  funext i j
  unfold up
  split <;> rfl
theorem qfS {A:Mx} {k:Nat}:up A k (A k)=A:=by
  funext i j
  unfold up
  split
  · next h=>rw [h]
  · rfl
theorem qfT {A:Mx} {k l:Nat} {r q:Nat→Int} (h:k≠l):up (up A k r) l q=up (up A l q) k r:=by
  funext i j
  unfold up
  by_cases c:i=l
  · subst c
    rw [if_pos rfl,if_neg (Ne.symm h),if_pos rfl]
  · rw [if_neg c,if_neg c]
theorem qf4 {A:Mx} {i:Nat} {r:Nat→Int}:mn i (up A i r)=mn i A:=by
  funext a j
  unfold mn up
  have:¬ (if a<i then a else a+1)=i:=by split <;> omega
  rw [if_neg this]
theorem qk3 {A:Mx} {i k:Nat} {r:Nat→Int} (h:i≠k):mn i (up A k r)=up (mn i A) (if k<i then k else k - 1) (fun j=>r (j+1)):=by
  funext a j
  unfold mn up
  by_cases c:(if a<i then a else a+1)=k
  · have c':a=(if k<i then k else k - 1):=by split at c <;> split <;> omega
    rw [if_pos c,if_pos c']
  · have c':¬ a=(if k<i then k else k - 1):=by split at c <;> split <;> omega
    rw [if_neg c,if_neg c']
theorem det_congr:∀ {n:Nat} {A B:Mx},(∀ i j,i<n→j<n→A i j=B i j)→det n A=det n B
  | 0,_,_,_=>rfl
  | n+1,A,B,h=>by
    unfold det
    refine sm_congr fun i hi=>?_
    rw [h i 0 hi (by omega),det_congr (A:=mn i A) (B:=mn i B) fun a j ha hj=>h _ _ (by split <;> omega) (by omega)]
theorem qdQ (x y:Int):∀ {n:Nat} {A:Mx} {k:Nat} (r q:Nat→Int),k<n→det n (up A k fun j=>x*r j+y*q j)=x*det n (up A k r)+y*det n (up A k q)
  | 0,_,_,_,_,h=>absurd h (by omega)
  | n+1,A,k,r,q,h=>by
    unfold det
    rw [← qc6]
    refine sm_congr fun i hi=>?_
    by_cases c:i=k
    · subst c
      rw [qf4,qf4,qf4,qca,qca,qca]
      grind
    · rw [qk3 c,qk3 c,qk3 c,qeD c,qeD c,qeD c]
      rw [qdQ x y (A:=mn i A) (k:=if k<i then k else k - 1) (fun j=>r (j+1)) (fun j=>q (j+1)) (by split <;> omega)]
      grind
theorem qeR:∀ {n:Nat} {A:Mx} {k:Nat},k+1<n→(∀ j,j<n→A k j=A (k+1) j)→det n A=0
  | 0,_,_,h,_=>absurd h (by omega)
  | n+1,A,k,h,he=>by
    unfold det
    rw [qj6 h fun i hi h1 h2=>?_]
    · have e:det n (mn k A)=det n (mn (k+1) A):=det_congr fun a j ha hj=>by
        unfold mn
        by_cases c:a=k
        · subst c
          rw [if_neg (by omega),if_pos (by omega)]
          exact (he (j+1) (by omega)).symm
        · by_cases c2:a<k
          · rw [if_pos c2,if_pos (by omega)]
          · rw [if_neg c2,if_neg (by omega)]
      rw [e,he 0 (by omega)]
      show sg k*A (k+1) 0*_+(- sg k)*A (k+1) 0*_=0
      grind
    · have:det n (mn i A)=0:=by
        by_cases c:i<k
        · refine qeR (k:=k - 1) (by omega) fun j hj=>?_
          unfold mn
          rw [if_neg (by omega),if_neg (by omega),show k - 1+1=k by omega]
          exact he (j+1) (by omega)
        · refine qeR (k:=k) (by omega) fun j hj=>?_
          unfold mn
          rw [if_pos (by omega),if_pos (by omega)]
          exact he (j+1) (by omega)
      rw [this,Int.mul_zero]
theorem qi0 {n:Nat} {A:Mx} {k:Nat} (h:k+1<n) (r q:Nat→Int):det n (up (up A k r) (k+1) q) = - det n (up (up A k q) (k+1) r):=by
  have z:∀ s:Nat→Int,det n (up (up A k s) (k+1) s)=0:=fun s=>qeR h fun j _=>by
    rw [qeD (by omega:k≠k+1),qca,qca]
  have lk:∀ v:Nat→Int,det n (up (up A k fun j=>1*r j+1*q j) (k+1) v)=1*det n (up (up A k r) (k+1) v)+1*det n (up (up A k q) (k+1) v):=fun v=>by
    have hc:k≠k+1:=by omega
    rw [qfT hc,qfT hc,qfT hc]
    exact qdQ 1 1 r q (by omega)
  have e1:=z fun j=>1*r j+1*q j
  rw [qdQ 1 1 r q (by omega),lk,lk,z,z] at e1
  omega
theorem qgi:∀ (d:Nat) {n:Nat} {A:Mx} {k:Nat},k+d+1<n→(∀ j,A k j=A (k+d+1) j)→det n A=0
  | 0,n,A,k,h,he=>qeR h fun j _=>he j
  | d+1,n,A,k,h,he=>by
    have e:A=up (up A (k+d+1) (A (k+d+1))) (k+d+1+1) (A (k+d+1+1)):=by rw [qfS,qfS]
    rw [e,qi0 (by omega)]
    have:det n (up (up A (k+d+1) (A (k+d+1+1))) (k+d+1+1) (A (k+d+1)))=0:=by
      refine qgi d (k:=k) (by omega) fun j=>?_
      rw [qeD (by omega),qeD (by omega),qeD (by omega),qca]
      exact he j
    rw [this]
    rfl
theorem qkq {n:Nat} {A:Mx} {k l:Nat} (hk:k<n) (hl:l<n) (hne:k≠l) (he:A k=A l):det n A=0:=by
  rcases Nat.lt_or_ge k l with c | c
  · exact qgi (l - k - 1) (k:=k) (by omega) fun j=>by rw [show k+(l - k - 1)+1=l by omega,he]
  · exact qgi (k - l - 1) (k:=l) (by omega) fun j=>by rw [show l+(k - l - 1)+1=k by omega,he]
def un (i:Nat):Nat→Int:=fun j=>if j=i then 1 else 0
theorem qfU:∀ n:Nat,det n un=1
  | 0=>rfl
  | n+1=>by
    unfold det
    rw [sm_one (k:=0) (by omega) fun i hi hne=>?_]
    · have e:mn 0 un=un:=by
        funext a j
        show (if j+1=(if a<0 then a else a+1) then (1:Int) else 0)=if j=a then 1 else 0
        rw [show (if a<0 then a else a+1)=a+1 from if_neg (by omega)]
        by_cases c:j=a
        · rw [if_pos c,if_pos (by omega)]
        · rw [if_neg c,if_neg (by omega)]
      rw [e,qfU n]
      rfl
    · show sg i*(if (0:Nat)=i then 1 else 0)*_=0
      rw [if_neg (by omega)]
      grind
def co (n:Nat) (A:Mx) (k:Nat):Nat→Int:=fun j=>det n (up A k (un j))
theorem qi3 {n:Nat} {A:Mx} {k:Nat} (h:k<n):det n (up A k fun _=>0)=0:=by
  have:=qdQ 0 0 (A:=A) (fun _=>0) (fun _=>0) h
  have e:(fun j:Nat=>(0:Int)*(fun _=>0) j+0*(fun _=>0) j)=fun _=>0:=by funext j;rfl
  rw [e] at this
  omega
theorem qm9 {n:Nat} {A:Mx} {k:Nat} (h:k<n) (r:Nat→Int):∀ m:Nat,det n (up A k fun j=>if j<m then r j else 0)=sm m (fun j=>r j*co n A k j)
  | 0=>by
    have e:(fun j=>if j<0 then r j else 0)=fun _=>(0:Int):=by funext j;rw [if_neg (by omega)]
    rw [e]
    exact qi3 h
  | m+1=>by
    have e:(fun j=>if j<m+1 then r j else 0)=fun j=>1*(if j<m then r j else 0)+r m*un m j:=by
      funext j
      unfold un
      by_cases c:j=m
      · subst c;rw [if_pos (by omega),if_neg (by omega),if_pos rfl];omega
      · rw [if_neg c]
        by_cases c2:j<m
        · rw [if_pos c2,if_pos (by omega)];omega
        · rw [if_neg c2,if_neg (by omega)];omega
    rw [e,qdQ 1 (r m) _ (un m) h,qm9 h r m]
    show 1*_+r m*co n A k m=_+r m*co n A k m
    omega
theorem qj3 {n:Nat} {A:Mx} {k:Nat} (h:k<n) (r:Nat→Int):sm n (fun j=>r j*co n A k j)=det n (up A k r):=by
  rw [← qm9 h r n]
  refine det_congr fun i j hi hj=>?_
  unfold up
  split
  · show (if j<n then r j else 0)=r j
    rw [if_pos hj]
  · rfl
theorem qkt {n:Nat} {A:Mx} {k l:Nat} (h:k<n) (hl:l<n):sm n (fun j=>A l j*co n A k j)=if l=k then det n A else 0:=by
  rw [qj3 h]
  split
  · next e=>subst e;rw [qfS]
  · next e =>
    refine qkq h hl (Ne.symm e) ?_
    rw [qca,qeD e]
theorem qnA {n:Nat} {A:Mx} {k:Nat} {r:Nat→Int}:co n (up A k r) k=co n A k:=by
  funext j
  unfold co
  rw [qnF]
theorem sm_abs {E:Nat}:∀ {n:Nat} {f:Nat→Int},(∀ i,i<n→(f i).natAbs≤E)→(sm n f).natAbs≤n*E
  | 0,_,_=>by show (0:Int).natAbs≤_;simp
  | n+1,f,h=>by
    show (sm n f+f n).natAbs≤_
    have h1:=sm_abs (n:=n) (f:=f) fun i hi=>h i (by omega)
    have h2:=h n (by omega)
    have h3:=Int.natAbs_add_le (sm n f) (f n)
    rw [Nat.succ_mul]
    omega
theorem qj8:∀ n:Nat,(sg n).natAbs=1
  | 0=>rfl
  | n+1=>by show (- sg n).natAbs=1;rw [Int.natAbs_neg,qj8 n]
theorem det_abs {E:Nat}:∀ {n N:Nat} {A:Mx},n≤N→(∀ i j,i<n→j<n→(A i j).natAbs≤E)→(det n A).natAbs≤(N*E) ^ n
  | 0,_,_,_,_=>by show (1:Int).natAbs≤_;simp
  | n+1,N,A,hN,h=>by
    unfold det
    have h1:(sm (n+1) fun i=>sg i*A i 0*det n (mn i A)).natAbs≤(n+1)*(E*(N*E) ^ n):=sm_abs fun i hi=>by
      rw [Int.natAbs_mul,Int.natAbs_mul,qj8,Nat.one_mul]
      exact Nat.mul_le_mul (h i 0 hi (by omega)) (det_abs (by omega) fun a j ha hj=>h _ _ (by split <;> omega) (by omega))
    refine Nat.le_trans h1 ?_
    rw [Nat.pow_succ,← Nat.mul_assoc,Nat.mul_comm ((N*E) ^ n)]
    exact Nat.mul_le_mul_right _ (Nat.mul_le_mul_right _ hN)
end Wk
namespace Wk
def dt (n:Nat) (x y:Nat→Int):Int:=sm n fun i=>x i*y i
theorem qek (n:Nat) (r:Nat→Int) (x y:Int) (u v:Nat→Int):dt n r (fun i=>x*u i+y*v i)=x*dt n r u+y*dt n r v:=by
  unfold dt
  rw [← qc6]
  exact sm_congr fun i _=>by grind
theorem qnj (n m:Nat) (r:Nat→Int) (c:Nat→Int) (u:Mx):dt n r (fun i=>sm m fun k=>c k*u k i)=sm m fun k=>c k*dt n r (u k):=by
  unfold dt
  have e:(fun i=>r i*sm m fun k=>c k*u k i)=fun i=>sm m fun k=>c k*(r i*u k i):=by
    funext i
    rw [← sm_mul]
    exact sm_congr fun k _=>by grind
  rw [e,qdW]
  exact sm_congr fun k _=>sm_mul _ _ _
structure Sd where
  h:Nat→Nat
  W:Mx
  x:Nat→Int
  b:Int
structure Ok (n:Nat) (a:Mx) (B:Nat→Int) (M:Nat) (S:Sd):Prop where
  pos:0<S.b
  lt:∀ k,k<n→S.h k<M
  eps:∃ e:Int,(e=1∨e = -1)∧S.b=e*det n (fun k=>a (S.h k))∧∀ k j,k<n→j<n→S.W k j=e*co n (fun k=>a (S.h k)) k j
  lf:∀ i j,i<n→j<n→sm n (fun k=>S.W k i*a (S.h k) j)=if i=j then S.b else 0
  cor:∀ i,i<n→S.x i=sm n fun k=>B (S.h k)*S.W k i
section
variable {n M : Nat} {a : Mx} {B : Nat → Int} {S : Sd}
theorem Ok.rt (o:Ok n a B M S) {l k:Nat} (hl:l<n) (hk:k<n):dt n (a (S.h l)) (S.W k)=if l=k then S.b else 0:=by
  obtain ⟨e,_,hb,hw⟩:=o.eps
  have h1:dt n (a (S.h l)) (S.W k)=e*sm n (fun j=>a (S.h l) j*co n (fun k=>a (S.h k)) k j):=by
    unfold dt
    rw [← sm_mul]
    exact sm_congr fun j hj=>by rw [hw k j hk hj];grind
  rw [h1,qkt (A:=fun k=>a (S.h k)) hk hl]
  split
  · exact hb.symm
  · exact Int.mul_zero e
theorem Ok.row (o:Ok n a B M S) (r:Nat→Int) {j:Nat} (hj:j<n):sm n (fun k=>dt n r (S.W k)*a (S.h k) j)=S.b*r j:=by
  have e:(sm n fun k=>dt n r (S.W k)*a (S.h k) j)=sm n fun i=>r i*sm n fun k=>S.W k i*a (S.h k) j:=by
    have e1:(fun k=>dt n r (S.W k)*a (S.h k) j)=fun k=>sm n fun i=>r i*(S.W k i*a (S.h k) j):=by
      funext k
      unfold dt
      rw [Int.mul_comm,← sm_mul]
      exact sm_congr fun i _=>by grind
    rw [e1,qdW]
    exact sm_congr fun i _=>sm_mul _ _ _
  rw [e,sm_one hj fun i hi hne=>by rw [o.lf i j hi hj,if_neg hne,Int.mul_zero],o.lf j j hj hj,if_pos rfl,Int.mul_comm]
theorem Ok.comb (o:Ok n a B M S) (r y:Nat→Int):S.b*dt n r y=sm n fun k=>dt n r (S.W k)*dt n (a (S.h k)) y:=by
  have e:(sm n fun k=>dt n r (S.W k)*dt n (a (S.h k)) y)=sm n fun j=>y j*sm n fun k=>dt n r (S.W k)*a (S.h k) j:=by
    have e1:(fun k=>dt n r (S.W k)*dt n (a (S.h k)) y)=fun k=>sm n fun j=>y j*(dt n r (S.W k)*a (S.h k) j):=by
      funext k
      conv=>lhs;rhs;unfold dt
      rw [← sm_mul]
      exact sm_congr fun i _=>by grind
    rw [e1,qdW]
    exact sm_congr fun i _=>sm_mul _ _ _
  rw [e]
  conv=>lhs;unfold dt
  rw [← sm_mul]
  exact sm_congr fun j hj=>by rw [o.row r hj];grind
theorem Ok.corner (o:Ok n a B M S) {k:Nat} (hk:k<n):dt n (a (S.h k)) S.x=B (S.h k)*S.b:=by
  have e:dt n (a (S.h k)) S.x=dt n (a (S.h k)) (fun i=>sm n fun l=>B (S.h l)*S.W l i):=sm_congr fun i hi=>by rw [o.cor i hi]
  rw [e,qnj,sm_one hk fun l hl hne=>by rw [o.rt hk hl,if_neg (Ne.symm hne),Int.mul_zero],o.rt hk hk,if_pos rfl]
theorem Ok.nil (o:Ok n a B M S) {y:Nat→Int} (h:∀ k,k<n→dt n (a (S.h k)) y=0) {i:Nat} (hi:i<n):y i=0:=by
  have e:S.b*y i=sm n fun k=>S.W k i*dt n (a (S.h k)) y:=by
    have e1:(fun k=>S.W k i*dt n (a (S.h k)) y)=fun k=>sm n fun j=>y j*(S.W k i*a (S.h k) j):=by
      funext k
      unfold dt
      rw [← sm_mul]
      exact sm_congr fun i _=>by grind
    rw [e1,qdW]
    have e2:∀ j,j<n→(sm n fun k=>y j*(S.W k i*a (S.h k) j))=y j*(if i=j then S.b else 0):=fun j hj=>by rw [sm_mul,o.lf i j hi hj]
    rw [sm_congr e2,sm_one hi fun j hj hne=>by rw [if_neg (Ne.symm hne),Int.mul_zero],if_pos rfl,Int.mul_comm]
  rw [sm_congr (g:=fun _=>0) fun k hk=>by rw [h k hk,Int.mul_zero],sm_zero] at e
  rcases Int.mul_eq_zero.mp e with h | h
  · have:=o.pos;omega
  · exact h
def gr (n:Nat) (a:Mx) (S:Sd) (q k:Nat):Int:=dt n (a q) (S.W k)
def ov (n:Nat) (a:Mx) (B:Nat→Int) (S:Sd) (q:Nat):Int:=dt n (a q) S.x - B q*S.b
def wy (n:Nat) (a:Mx) (S:Sd) (p q:Nat):Nat→Int:=fun i=>if gr n a S q p<0 then - S.W p i else S.W p i
def pv (n:Nat) (a:Mx) (B:Nat→Int) (S:Sd) (p q:Nat):Sd where
  h:=fun k=>if k=p then q else S.h k
  W:=fun o i=>if o=p then wy n a S p q i else (((gr n a S q p).natAbs:Int)*S.W o i - gr n a S q o*wy n a S p q i) / S.b
  x:=fun i=>(((gr n a S q p).natAbs:Int)*S.x i - ov n a B S q*wy n a S p q i) / S.b
  b:=((gr n a S q p).natAbs:Int)
theorem qkP {p q:Nat}:(fun k=>a ((pv n a B S p q).h k))=up (fun k=>a (S.h k)) p (a q):=by
  funext k j
  show a (if k=p then q else S.h k) j=if k=p then a q j else a (S.h k) j
  split <;> rfl
theorem Ok.pv_all (o:Ok n a B M S) {p q:Nat} (hp:p<n) (hq:q<M) (hg:gr n a S q p≠0) :
    Ok n a B M (pv n a B S p q)∧(∀ l i,l<n→l≠p→i<n→S.b*(pv n a B S p q).W l i=(pv n a B S p q).b*S.W l i - gr n a S q l*wy n a S p q i) ∧
      (∀ i,i<n→S.b*(pv n a B S p q).x i=(pv n a B S p q).b*S.x i - ov n a B S q*wy n a S p q i):=by
  obtain ⟨e,he,hb,hw⟩:=o.eps
  have bp:=o.pos
  obtain ⟨sn,hsn,hs,hwy⟩:∃ sn:Int,(sn=1∨sn = -1)∧((gr n a S q p).natAbs:Int)=sn*gr n a S q p∧wy n a S p q=fun i=>sn*S.W p i:=by
    by_cases c:gr n a S q p<0
    · exact ⟨-1,.inr rfl,by omega,by funext i;unfold wy;rw [if_pos c];omega⟩
    · exact ⟨1,.inl rfl,by omega,by funext i;unfold wy;rw [if_neg c];omega⟩
  have hs2:sn*sn=1:=by rcases hsn with h | h <;> rw [h] <;> rfl
  have he2:e*e=1:=by rcases he with h | h <;> rw [h] <;> rfl
  generalize hsz:((gr n a S q p).natAbs:Int)=s at hs
  have hs0:0<s:=by omega
  let A:Mx:=fun k=>a (S.h k)
  let A':Mx:=up A p (a q)
  have eA':(fun k=>a ((pv n a B S p q).h k))=A':=qkP
  have hgr:gr n a S q p=e*det n A':=by
    have:gr n a S q p=e*sm n (fun j=>a q j*co n A p j):=by
      unfold gr dt
      rw [← sm_mul]
      exact sm_congr fun j hj=>by rw [hw p j hp hj];grind
    rw [this,qj3 hp]
  have hdet:det n A'=e*gr n a S q p:=by rw [hgr];grind
  have hb':s=(sn*e)*det n A':=by rw [hs,hgr];grind
  have dtwy:∀ r:Nat→Int,dt n r (wy n a S p q)=sn*dt n r (S.W p):=fun r=>by
    rw [hwy]
    unfold dt
    rw [← sm_mul]
    exact sm_congr fun j _=>by grind
  have exact_:∀ l,l<n→l≠p→∀ i,i<n→S.b*((sn*e)*co n A' l i)=s*S.W l i - gr n a S q l*wy n a S p q i:=by
    intro l hl hne
    let y:Nat→Int:=fun i=>S.b*((sn*e)*co n A' l i) - (s*S.W l i - gr n a S q l*wy n a S p q i)
    have hy:∀ r:Nat→Int,dt n r y=S.b*(sn*e)*dt n r (co n A' l) - (s*dt n r (S.W l) - gr n a S q l*(sn*dt n r (S.W p))):=fun r=>by
      rw [← dtwy]
      have e1:dt n r y=dt n r (fun i=>1*(fun i=>(S.b*(sn*e))*co n A' l i+0*0) i+(-1)*(fun i=>s*S.W l i+(- gr n a S q l)*wy n a S p q i) i):=by
        unfold dt
        exact sm_congr fun i _=>by show r i*(_ - _)=r i*_;grind
      rw [e1,qek,qek,qek]
      grind
    have cow:∀ k,k<n→dt n (A' k) (co n A' l)=if k=l then det n A' else 0:=fun k hk=>qkt hl hk
    have aq:dt n (a q) y=0:=by
      have h1:=cow p hp
      rw [if_neg (Ne.symm hne)] at h1
      have h2:A' p=a q:=qca
      rw [h2] at h1
      rw [hy,h1]
      show _ - (s*gr n a S q l - gr n a S q l*(sn*gr n a S q p))=0
      rw [hs]
      grind
    have rest:∀ k,k<n→k≠p→dt n (a (S.h k)) y=0:=fun k hk hkp=>by
      have h1:=cow k hk
      have h2:A' k=a (S.h k):=qeD hkp
      rw [h2] at h1
      rw [hy,h1,o.rt hk hl,o.rt hk hp,if_neg hkp]
      split
      · have:S.b*(sn*e)*det n A'=S.b*s:=by rw [hb'];grind
        rw [this]
        grind
      · grind
    have ap:dt n (a (S.h p)) y=0:=by
      have h1:=o.comb (a q) y
      rw [aq,Int.mul_zero,sm_one hp fun k hk hkp=>by rw [rest k hk hkp,Int.mul_zero]] at h1
      rcases Int.mul_eq_zero.mp h1.symm with h | h
      · exact absurd h hg
      · exact h
    intro i hi
    have h0:y i=0:=o.nil (fun k hk=>by
      by_cases c:k=p
      · subst c;exact ap
      · exact rest k hk c) hi
    have h0':S.b*((sn*e)*co n A' l i) - (s*S.W l i - gr n a S q l*wy n a S p q i)=0:=h0
    omega
  have hWl:∀ l i,l<n→l≠p→i<n→(pv n a B S p q).W l i=(sn*e)*co n A' l i:=fun l i hl hne hi=>by
    show (if l=p then _ else (((gr n a S q p).natAbs:Int)*S.W l i - gr n a S q l*wy n a S p q i) / S.b)=_
    rw [if_neg hne,hsz,← exact_ l hl hne i hi,Int.mul_ediv_cancel_left _ (by omega)]
  have hWp:∀ i,(pv n a B S p q).W p i=wy n a S p q i:=fun i=>if_pos rfl
  have eb:(pv n a B S p q).b=s:=hsz
  have hmul:∀ l i,l<n→l≠p→i<n→S.b*(pv n a B S p q).W l i=s*S.W l i - gr n a S q l*wy n a S p q i:=fun l i hl hne hi=>by
    rw [hWl l i hl hne hi];exact exact_ l hl hne i hi
  have pz:∀ i,s*S.W p i - gr n a S q p*wy n a S p q i=0:=fun i=>by rw [hwy,hs];grind
  have hall:∀ l i,l<n→i<n→S.b*(pv n a B S p q).W l i=(s*S.W l i - gr n a S q l*wy n a S p q i)+(if l=p then S.b*wy n a S p q i else 0):=fun l i hl hi=>by
    by_cases c:l=p
    · subst c
      rw [hWp,pz,if_pos rfl,Int.zero_add]
    · rw [if_neg c,hmul l i hl c hi,Int.add_zero]
  have hx:∀ i,i<n→S.b*(sm n fun k=>B ((pv n a B S p q).h k)*(pv n a B S p q).W k i)=s*S.x i - ov n a B S q*wy n a S p q i:=fun i hi=>by
    have gx:(sm n fun k=>B (S.h k)*gr n a S q k)=dt n (a q) S.x:=by
      have e1:dt n (a q) S.x=dt n (a q) (fun i=>sm n fun l=>B (S.h l)*S.W l i):=sm_congr fun i hi=>by rw [o.cor i hi]
      rw [e1,qnj]
      rfl
    rw [← sm_mul]
    have e1:∀ k,k<n→S.b*(B ((pv n a B S p q).h k)*(pv n a B S p q).W k i)=(s*(B (S.h k)*S.W k i)+(- wy n a S p q i)*(B (S.h k)*gr n a S q k))+(if k=p then B q*(S.b*wy n a S p q i) else 0):=fun k hk=>by
      have h1:=hall k i hk hi
      by_cases c:k=p
      · subst c
        have h2:(pv n a B S k q).h k=q:=if_pos rfl
        have h3:=pz i
        rw [h2,if_pos rfl]
        rw [if_pos rfl,h3] at h1
        have h4:s*(B (S.h k)*S.W k i)+(- wy n a S k q i)*(B (S.h k)*gr n a S q k)=B (S.h k)*(s*S.W k i - gr n a S q k*wy n a S k q i):=by grind
        rw [h4,h3]
        grind
      · have h2:(pv n a B S p q).h k=S.h k:=if_neg c
        rw [h2,if_neg c]
        rw [if_neg c] at h1
        grind
    rw [sm_congr e1,sm_add,qc6,← o.cor i hi,gx,sm_one hp fun k _ hne=>if_neg hne,if_pos rfl]
    unfold ov
    grind
  have hxx:∀ i,i<n→(pv n a B S p q).x i=sm n fun k=>B ((pv n a B S p q).h k)*(pv n a B S p q).W k i:=fun i hi=>by
    show (((gr n a S q p).natAbs:Int)*S.x i - ov n a B S q*wy n a S p q i) / S.b=_
    rw [hsz,← hx i hi,Int.mul_ediv_cancel_left _ (by omega)]
  refine ⟨⟨by rw [eb];exact hs0,fun k hk=>?_,⟨sn*e,?_,by rw [eb,eA'];exact hb',fun k j hk hj=>?_⟩,fun i j hi hj=>?_,hxx⟩,fun l i hl hne hi=>by rw [eb];exact hmul l i hl hne hi,fun i hi=>by rw [hxx i hi,eb];exact hx i hi⟩
  · show (if k=p then q else S.h k)<M
    split
    · exact hq
    · exact o.lt k hk
  · rcases hsn with h | h <;> rcases he with h' | h' <;> rw [h,h'] <;> simp
  · rw [eA']
    by_cases c:k=p
    · subst c
      rw [hWp,hwy,show co n A' k=co n A k from qnA]
      show sn*S.W k j=_
      rw [hw k j hk hj]
      grind
    · exact hWl k j hk c hj
  · rw [eb]
    have e1:S.b*(sm n fun k=>(pv n a B S p q).W k i*a ((pv n a B S p q).h k) j)=S.b*(if i=j then s else 0):=by
      rw [← sm_mul]
      have e2:∀ k,k<n→S.b*((pv n a B S p q).W k i*a ((pv n a B S p q).h k) j)=(s*(S.W k i*a (S.h k) j)+(- wy n a S p q i)*(gr n a S q k*a (S.h k) j))+(if k=p then S.b*wy n a S p q i*a q j else 0):=fun k hk=>by
        have h1:=hall k i hk hi
        by_cases c:k=p
        · subst c
          have h2:(pv n a B S k q).h k=q:=if_pos rfl
          have h3:=pz i
          rw [h2,if_pos rfl]
          rw [if_pos rfl,h3] at h1
          have h4:s*(S.W k i*a (S.h k) j)+(- wy n a S k q i)*(gr n a S q k*a (S.h k) j)=(s*S.W k i - gr n a S q k*wy n a S k q i)*a (S.h k) j:=by grind
          rw [h4,h3]
          grind
        · have h2:(pv n a B S p q).h k=S.h k:=if_neg c
          rw [h2,if_neg c]
          rw [if_neg c] at h1
          grind
      rw [sm_congr e2,sm_add,qc6,o.lf i j hi hj,sm_one hp fun k _ hne=>if_neg hne,if_pos rfl]
      have e3:(sm n fun k=>gr n a S q k*a (S.h k) j)=S.b*a q j:=o.row (a q) hj
      rw [e3]
      split <;> grind
    exact Int.eq_of_mul_eq_mul_left (by omega) e1
end
end Wk
namespace Wk
theorem qiq:∀ {n:Nat} {f:Nat→Int},(∀ i,i<n→f i≤0)→sm n f≤0
  | 0,_,_=>Int.le_refl 0
  | n+1,f,h=>by
    show sm n f+f n≤0
    have h1:=qiq (n:=n) (f:=f) fun i hi=>h i (by omega)
    have h2:=h n (by omega)
    omega
theorem qj4:∀ {n k:Nat} {f:Nat→Int},(∀ i,i<n→f i≤0)→k<n→f k<0→sm n f<0
  | 0,_,_,_,h,_=>absurd h (by omega)
  | n+1,k,f,h,hk,hn=>by
    show sm n f+f n<0
    by_cases c:k=n
    · subst c
      have h1:=qiq (n:=k) (f:=f) fun i hi=>h i (by omega)
      omega
    · have h1:=qj4 (n:=n) (f:=f) (fun i hi=>h i (by omega)) (by omega:k<n) hn
      have h2:=h n (by omega)
      omega
theorem np {a b:Int} (ha:0≤a) (hb:b≤0):a*b≤0:=Int.mul_nonpos_of_nonneg_of_nonpos ha hb
theorem pn {a b:Int} (ha:a≤0) (hb:0≤b):a*b≤0:=Int.mul_nonpos_of_nonpos_of_nonneg ha hb
theorem qgS {a b:Int} (ha:0<a) (hb:b<0):a*b<0:=Int.mul_neg_of_pos_of_neg ha hb
def In (n:Nat) (S:Sd) (r:Nat):Prop:=∃ k,k<n∧S.h k=r
structure StA (n M:Nat) (a:Mx) (B:Nat→Int) (S:Sd) (p q:Nat):Prop where
  hp:p<n
  hq:q<M
  mis:ov n a B S q<0
  least:∀ r,r<q→0≤ov n a B S r
  grows:0<gr n a S q p
  first:∀ k,k<n→S.h k<S.h p→gr n a S q k≤0
structure StB (n M:Nat) (a:Mx) (B:Nat→Int) (c:Nat→Int) (S:Sd) (p q:Nat):Prop where
  hp:p<n
  hq:q<M
  feas:∀ r,r<M→0≤ov n a B S r
  gain:0<dt n c (S.W p)
  first:∀ k,k<n→S.h k<S.h p→dt n c (S.W k)≤0
  falls:gr n a S q p<0
  least:∀ r,r<M→gr n a S r p<0→ov n a B S q*(- gr n a S r p)≤ov n a B S r*(- gr n a S q p)∧(r<q→ov n a B S q*(- gr n a S r p)<ov n a B S r*(- gr n a S q p))
section
variable {n M : Nat} {a : Mx} {B : Nat → Int} {c : Nat → Int} {S T : Sd}
theorem Ok.inj (o:Ok n a B M S) {k l:Nat} (hk:k<n) (hl:l<n) (e:S.h k=S.h l):k=l:=by
  have h1:=o.rt hl hk
  rw [← e,o.rt hk hk,if_pos rfl] at h1
  split at h1
  · next h=>exact h.symm
  · have:=o.pos;omega
theorem Ok.ov0 (o:Ok n a B M S) {r:Nat} (h:In n S r):ov n a B S r=0:=by
  obtain ⟨k,hk,rfl⟩:=h
  unfold ov
  rw [o.corner hk]
  omega
theorem Ok.uniq (o:Ok n a B M S) (o':Ok n a B M T) (h:∀ k,k<n→S.h k=T.h k):S.b=T.b∧(∀ k j,k<n→j<n→S.W k j=T.W k j)∧∀ i,i<n→S.x i=T.x i:=by
  obtain ⟨e,he,hb,hw⟩:=o.eps
  obtain ⟨f,hf,hb',hw'⟩:=o'.eps
  have ed:det n (fun k=>a (S.h k))=det n (fun k=>a (T.h k)):=det_congr fun i j hi _=>by show a (S.h i) j=a (T.h i) j;rw [h i hi]
  have ec:∀ k j,k<n→co n (fun k=>a (S.h k)) k j=co n (fun k=>a (T.h k)) k j:=fun k j hk=>det_congr fun i l hi _=>by
    unfold up
    split
    · rfl
    · show a (S.h i) l=a (T.h i) l;rw [h i hi]
  have p1:=o.pos
  have p2:=o'.pos
  have ef:e=f:=by
    rw [hb] at p1
    rw [hb',← ed] at p2
    rcases he with rfl | rfl <;> rcases hf with rfl | rfl
    · rfl
    · omega
    · omega
    · rfl
  subst ef
  have hW:∀ k j,k<n→j<n→S.W k j=T.W k j:=fun k j hk hj=>by rw [hw k j hk hj,hw' k j hk hj,ec k j hk]
  refine ⟨by rw [hb,hb',ed],hW,fun i hi=>?_⟩
  rw [o.cor i hi,o'.cor i hi]
  exact sm_congr fun k hk=>by rw [h k hk,hW k i hk hi]
structure Nx (n M:Nat) (a:Mx) (B:Nat→Int) (S T:Sd) (p q:Nat):Prop where
  ok:Ok n a B M S
  ok':Ok n a B M T
  hp:p<n
  hq:q<M
  ne:gr n a S q p≠0
  hh:∀ k,k<n→T.h k=if k=p then q else S.h k
theorem Nx.at (x:Nx n M a B S T p q):T.b=(gr n a S q p).natAbs∧∀ i,i<n→S.b*T.x i=T.b*S.x i - ov n a B S q*wy n a S p q i:=by
  obtain ⟨o,h1,h2⟩:=x.ok.pv_all x.hp x.hq x.ne
  obtain ⟨eb,_,ex⟩:=x.ok'.uniq o x.hh
  refine ⟨eb,fun i hi=>?_⟩
  rw [ex i hi,h2 i hi,eb]
theorem Nx.dtx (x:Nx n M a B S T p q) (r:Nat→Int):S.b*dt n r T.x=T.b*dt n r S.x - ov n a B S q*dt n r (wy n a S p q):=by
  have e:S.b*dt n r T.x=dt n r (fun i=>T.b*S.x i+(- ov n a B S q)*wy n a S p q i):=by
    unfold dt
    rw [← sm_mul]
    refine sm_congr fun i hi=>?_
    have:=x.at.2 i hi
    grind
  rw [e,qek]
  grind
theorem qkl (r u:Nat→Int):dt n r (fun i=>- u i) = - dt n r u:=by
  have:=qek n r (-1) 0 u u
  have e:(fun i=>-1*u i+0*u i)=fun i=>- u i:=by funext i;omega
  rw [e] at this
  omega
theorem qj2 {p q:Nat} (h:gr n a S q p<0):wy n a S p q=fun i=>- S.W p i:=by
  funext i
  unfold wy
  rw [if_pos h]
theorem Nx.inn (x:Nx n M a B S T p q) (hq:¬ In n S q) {r:Nat}:In n T r↔(In n S r∧r≠S.h p)∨r=q:=by
  constructor
  · rintro ⟨k,hk,rfl⟩
    rw [x.hh k hk]
    split
    · exact .inr rfl
    · next h=>exact .inl ⟨⟨k,hk,rfl⟩,fun e=>h (x.ok.inj hk x.hp e)⟩
  · rintro (⟨⟨k,hk,rfl⟩,h⟩ | rfl)
    · refine ⟨k,hk,?_⟩
      rw [x.hh k hk,if_neg fun e=>h (by rw [e])]
    · exact ⟨p,x.hp,by rw [x.hh p x.hp,if_pos rfl]⟩
theorem StA.notin (s:StA n M a B S p q) (o:Ok n a B M S):¬ In n S q:=fun h=>by
  have:=o.ov0 h
  have:=s.mis
  omega
theorem StB.notin (s:StB n M a B c S p q) (o:Ok n a B M S):¬ In n S q:=fun ⟨k,hk,e⟩=>by
  have h1:=s.falls
  unfold gr at h1
  rw [← e,o.rt hk s.hp] at h1
  have:=o.pos
  split at h1 <;> omega
theorem StB.stays (s:StB n M a B c S p q) (x:Nx n M a B S T p q) {r:Nat} (hr:r<M):0≤ov n a B T r:=by
  have h1:=x.dtx (a r)
  rw [qj2 s.falls,qkl] at h1
  have hb:=x.at.1
  have hf:=s.falls
  have hTb:T.b = - gr n a S q p:=by omega
  have p0:=x.ok.pos
  have o1:=s.feas r hr
  have o2:=s.feas q s.hq
  have key:S.b*ov n a B T r=(- gr n a S q p)*ov n a B S r+ov n a B S q*gr n a S r p:=by
    unfold ov gr at *
    rw [Int.mul_sub,h1,hTb]
    grind
  have nn:0≤S.b*ov n a B T r:=by
    rw [key]
    by_cases c:gr n a S r p<0
    · have:=(s.least r hr c).1
      grind
    · have m1:=Int.mul_nonneg (show 0≤- gr n a S q p by omega) o1
      have m2:=Int.mul_nonneg o2 (show 0≤gr n a S r p by omega)
      omega
  rcases Int.lt_or_le (ov n a B T r) 0 with h | h
  · have:=Int.mul_neg_of_pos_of_neg p0 h
    omega
  · exact h
theorem StB.worth (s:StB n M a B c S p q) (x:Nx n M a B S T p q):S.b*dt n c T.x=T.b*dt n c S.x+ov n a B S q*dt n c (S.W p):=by
  have h1:=x.dtx c
  rw [qj2 s.falls,qkl] at h1
  rw [h1]
  grind
theorem qdl (o:Ok n a B M S) (o':Ok n a B M T) (h:∀ r,In n S r→In n T r):∀ i,i<n→T.b*S.x i=S.b*T.x i:=fun i hi=>by
  have:(fun i=>T.b*S.x i+(- S.b)*T.x i) i=0:=o.nil (y:=fun i=>T.b*S.x i+(- S.b)*T.x i) (fun k hk=>by
    rw [qek,o.corner hk]
    obtain ⟨l,hl,e⟩:=h _ ⟨k,hk,rfl⟩
    rw [← e,o'.corner hl]
    grind) hi
  have:T.b*S.x i+(- S.b)*T.x i=0:=this
  grind
theorem qmn {x y:Nat→Int} {s t:Int} (h:∀ i,i<n→t*x i=s*y i) (r:Nat→Int):t*dt n r x=s*dt n r y:=by
  unfold dt
  rw [← sm_mul,← sm_mul]
  exact sm_congr fun i hi=>by have:=h i hi;grind
theorem qle (h:∀ i,i<n→T.b*S.x i=S.b*T.x i) (r:Nat):T.b*ov n a B S r=S.b*ov n a B T r:=by
  have:=qmn h (a r)
  unfold ov
  grind
end
structure Chain (n M:Nat) (a:Mx) (B:Nat→Int) (c:Nat→Int) (m:Nat) (S:Nat→Sd) (P Q:Nat→Nat):Prop where
  nx:∀ i,i<m→Nx n M a B (S i) (S (i+1)) (P i) (Q i)
  st:∀ i,i<m→StA n M a B (S i) (P i) (Q i)∨StB n M a B c (S i) (P i) (Q i)
section
variable {n M : Nat} {a : Mx} {B : Nat → Int} {c : Nat → Int} {m : Nat} {S : Nat → Sd} {P Q : Nat → Nat}
theorem Chain.notin (C:Chain n M a B c m S P Q) {i:Nat} (hi:i<m):¬ In n (S i) (Q i):=(C.st i hi).elim (fun s=>s.notin (C.nx i hi).ok) (fun s=>s.notin (C.nx i hi).ok)
theorem Chain.ok (C:Chain n M a B c m S P Q) (hm:0<m) {i:Nat} (hi:i≤m):Ok n a B M (S i):=by
  rcases Nat.lt_or_ge i m with h | h
  · exact (C.nx i h).ok
  · obtain ⟨j,rfl⟩:∃ j,i=j+1:=⟨i - 1,by omega⟩
    exact (C.nx j (by omega)).ok'
theorem Chain.inn (C:Chain n M a B c m S P Q) {i:Nat} (hi:i<m) {r:Nat}:In n (S (i+1)) r↔(In n (S i) r∧r≠(S i).h (P i))∨r=Q i:=(C.nx i hi).inn (C.notin hi)
theorem Chain.still (C:Chain n M a B c m S P Q) (he:∀ r,In n (S 0) r↔In n (S m) r) {r:Nat} (hr:∀ i,i<m→Q i≠r) {i:Nat} (hi:i≤m):In n (S i) r↔In n (S 0) r:=by
  have down:∀ d j,j+d≤m→In n (S (j+d)) r→In n (S j) r:=by
    intro d
    induction d with
    | zero=>intro j _ h;exact h
    | succ d ih =>
      intro j hj h
      refine ih j (by omega) ?_
      have h2:In n (S (j+d+1)) r:=h
      rcases (C.inn (by omega:j+d<m)).mp h2 with h | h
      · exact h.1
      · exact absurd h.symm (hr _ (by omega))
  constructor
  · intro h;exact down i 0 (by omega) (by rw [Nat.zero_add];exact h)
  · intro h
    have:=(he r).mp h
    exact down (m - i) i (by omega) (by rw [show i+(m - i)=m by omega];exact this)
theorem Chain.left (C:Chain n M a B c m S P Q) (he:∀ r,In n (S 0) r↔In n (S m) r) {i:Nat} (hi:i<m):∃ j,j<m∧Q j=(S i).h (P i):=by
  apply Classical.byContradiction
  intro no
  have hr:∀ j,j<m→Q j≠(S i).h (P i):=fun j hj e=>no ⟨j,hj,e⟩
  have hin:In n (S i) ((S i).h (P i)):=⟨P i,(C.nx i hi).hp,rfl⟩
  have h1:=(C.still he hr (Nat.le_of_lt hi)).mp hin
  have h2:=(C.still he hr (show i+1≤m by omega)).mpr h1
  rcases (C.inn hi).mp h2 with h | h
  · exact h.2 rfl
  · exact hr i hi h.symm
theorem Chain.enters (C:Chain n M a B c m S P Q) (he:∀ r,In n (S 0) r↔In n (S m) r) {i:Nat} (hi:i<m):∃ j,j<m∧(S j).h (P j)=Q i:=by
  apply Classical.byContradiction
  intro no
  have up_:∀ d j,j+d≤m→In n (S j) (Q i)→In n (S (j+d)) (Q i):=by
    intro d
    induction d with
    | zero=>intro j _ h;exact h
    | succ d ih =>
      intro j hj h
      exact (C.inn (by omega:j+d<m)).mpr (.inl ⟨ih j (by omega) h,fun e=>no ⟨j+d,by omega,e.symm⟩⟩)
  have h1:In n (S (i+1)) (Q i):=(C.inn hi).mpr (.inr rfl)
  have h2:=up_ (m - (i+1)) (i+1) (by omega) h1
  rw [show i+1+(m - (i+1))=m by omega] at h2
  have h3:=up_ i 0 (by omega) ((he _).mpr h2)
  rw [Nat.zero_add] at h3
  exact C.notin hi h3
theorem qkV (Q:Nat→Nat):∀ m,0<m→∃ i,i<m∧∀ j,j<m→Q j≤Q i
  | 0,h=>absurd h (by omega)
  | 1,_=>⟨0,by omega,fun j hj=>by rw [show j=0 by omega];exact Nat.le_refl _⟩
  | m+2,_=>by
    obtain ⟨i,hi,h⟩:=qkV Q (m+1) (by omega)
    by_cases e:Q (m+1)≤Q i
    · exact ⟨i,by omega,fun j hj=>by
        by_cases e2:j=m+1
        · rw [e2];exact e
        · exact h j (by omega)⟩
    · exact ⟨m+1,by omega,fun j hj=>by
        by_cases e2:j=m+1
        · rw [e2];exact Nat.le_refl _
        · have:=h j (by omega);omega⟩
theorem Chain.allA (C:Chain n M a B c m S P Q) (hm:0<m) (he:∀ r,In n (S 0) r↔In n (S m) r) (hA:∀ i,i<m→StA n M a B (S i) (P i) (Q i)):False:=by
  obtain ⟨i2,h2,ht⟩:=qkV Q m hm
  obtain ⟨i1,h1,hl⟩:=C.enters he h2
  have o1:=(C.nx i1 h1).ok
  have o2:=(C.nx i2 h2).ok
  have s1:=hA i1 h1
  have s2:=hA i2 h2
  have p1:=o1.pos
  have p2:=o2.pos
  have key:(S i1).b*ov n a B (S i2) (Q i1)=(sm n fun k=>gr n a (S i1) (Q i1) k*ov n a B (S i2) ((S i1).h k))+(S i2).b*ov n a B (S i1) (Q i1):=by
    have e1:=o1.comb (a (Q i1)) (S i2).x
    have e2:=o1.comb (a (Q i1)) (S i1).x
    have e3:(sm n fun k=>dt n (a (Q i1)) ((S i1).W k)*dt n (a ((S i1).h k)) (S i1).x)=(S i1).b*sm n fun k=>gr n a (S i1) (Q i1) k*B ((S i1).h k):=by
      rw [← sm_mul]
      exact sm_congr fun k hk=>by rw [o1.corner hk];unfold gr;grind
    rw [e3] at e2
    have e4:=Int.eq_of_mul_eq_mul_left (by omega) e2
    have e5:(sm n fun k=>gr n a (S i1) (Q i1) k*ov n a B (S i2) ((S i1).h k))=1*(sm n fun k=>gr n a (S i1) (Q i1) k*dt n (a ((S i1).h k)) (S i2).x)+(- (S i2).b)*(sm n fun k=>gr n a (S i1) (Q i1) k*B ((S i1).h k)):=by
      rw [← qc6]
      exact sm_congr fun k _=>by unfold ov;grind
    rw [e5,← e4]
    have e6:(sm n fun k=>gr n a (S i1) (Q i1) k*dt n (a ((S i1).h k)) (S i2).x)=(S i1).b*dt n (a (Q i1)) (S i2).x:=e1.symm
    rw [e6]
    unfold ov
    grind
  have neg:ov n a B (S i2) (Q i1)<0:=by
    have hs:(sm n fun k=>gr n a (S i1) (Q i1) k*ov n a B (S i2) ((S i1).h k))≤0:=qiq fun k hk=>by
      by_cases c1:∃ j,j<m∧Q j=(S i1).h k
      · obtain ⟨j,hj,ej⟩:=c1
        have hle:=ht j hj
        by_cases c2:(S i1).h k=Q i2
        · have ek:k=P i1:=o1.inj hk s1.hp (by rw [c2,hl])
          subst ek
          have g1:=s1.grows
          have m2:=s2.mis
          rw [c2]
          exact np (by omega) (by omega)
        · have g1:=s1.first k hk (by rw [hl];omega)
          have m2:=s2.least ((S i1).h k) (by omega)
          exact pn g1 m2
      · have hr:∀ j,j<m→Q j≠(S i1).h k:=fun j hj e=>c1 ⟨j,hj,e⟩
        have hin:=(C.still he hr (Nat.le_of_lt h1)).mp ⟨k,hk,rfl⟩
        have hin2:=(C.still he hr (Nat.le_of_lt h2)).mpr hin
        rw [o2.ov0 hin2,Int.mul_zero]
        exact Int.le_refl 0
    have hm1:=qgS p2 s1.mis
    rcases Int.lt_or_le (ov n a B (S i2) (Q i1)) 0 with h | h
    · exact h
    · have:=Int.mul_nonneg (Int.le_of_lt p1) h
      omega
  have hne:Q i1≠Q i2:=fun e=>s1.notin o1 ⟨P i1,s1.hp,by rw [hl,e]⟩
  have hle:=ht i1 h1
  have:=s2.least (Q i1) (by omega)
  omega
theorem Chain.allB (C:Chain n M a B c m S P Q) (hm:0<m) (he:∀ r,In n (S 0) r↔In n (S m) r) (hB:∀ i,i<m→StB n M a B c (S i) (P i) (Q i)):False:=by
  have up_:∀ i,i≤m→0≤(S 0).b*dt n c (S i).x - (S i).b*dt n c (S 0).x:=by
    intro i
    induction i with
    | zero=>intro _;omega
    | succ i ih =>
      intro hi
      have h0:=ih (by omega)
      have w:=(hB i (by omega)).worth (C.nx i (by omega))
      have g:=(hB i (by omega)).gain
      have f:=(hB i (by omega)).feas _ (hB i (by omega)).hq
      have q0:=(C.ok hm (show 0≤m by omega)).pos
      have q1:=(C.ok hm (show i≤m by omega)).pos
      have q2:=(C.ok hm hi).pos
      have m1:=Int.mul_nonneg f (Int.le_of_lt g)
      have m2:=Int.mul_nonneg (Int.le_of_lt q0) m1
      have m3:=Int.mul_nonneg (Int.le_of_lt q2) h0
      have e:(S i).b*((S 0).b*dt n c (S (i+1)).x - (S (i+1)).b*dt n c (S 0).x)=(S (i+1)).b*((S 0).b*dt n c (S i).x - (S i).b*dt n c (S 0).x)+(S 0).b*(ov n a B (S i) (Q i)*dt n c ((S i).W (P i))):=by grind
      rcases Int.lt_or_le ((S 0).b*dt n c (S (i+1)).x - (S (i+1)).b*dt n c (S 0).x) 0 with h | h
      · have:=qgS q1 h
        omega
      · exact h
  have sc:=qdl (C.ok hm (show 0≤m by omega)) (C.ok hm (Nat.le_refl m)) fun r=>(he r).mp
  have end_:(S 0).b*dt n c (S m).x - (S m).b*dt n c (S 0).x=0:=by
    have:=qmn sc c
    omega
  have flat:∀ d,d≤m→(S 0).b*dt n c (S (m - d)).x - (S (m - d)).b*dt n c (S 0).x=0∧(0<d→ov n a B (S (m - d)) (Q (m - d))=0):=by
    intro d
    induction d with
    | zero=>intro _;exact ⟨by rw [Nat.sub_zero];exact end_,fun h=>absurd h (by omega)⟩
    | succ d ih =>
      intro hd
      have h0:=(ih (by omega)).1
      obtain ⟨i,hi,hi'⟩:∃ i,m - (d+1)=i∧m - d=i+1:=⟨m - (d+1),rfl,by omega⟩
      rw [hi'] at h0
      rw [hi]
      have w:=(hB i (by omega)).worth (C.nx i (by omega))
      have g:=(hB i (by omega)).gain
      have f:=(hB i (by omega)).feas _ (hB i (by omega)).hq
      have q0:=(C.ok hm (show 0≤m by omega)).pos
      have q1:=(C.ok hm (show i≤m by omega)).pos
      have q2:=(C.ok hm (show i+1≤m by omega)).pos
      have u:=up_ i (by omega)
      have m1:=Int.mul_nonneg f (Int.le_of_lt g)
      have m2:=Int.mul_nonneg (Int.le_of_lt q0) m1
      have m3:=Int.mul_nonneg (Int.le_of_lt q2) u
      have e:(S i).b*((S 0).b*dt n c (S (i+1)).x - (S (i+1)).b*dt n c (S 0).x)=(S (i+1)).b*((S 0).b*dt n c (S i).x - (S i).b*dt n c (S 0).x)+(S 0).b*(ov n a B (S i) (Q i)*dt n c ((S i).W (P i))):=by grind
      rw [h0,Int.mul_zero] at e
      have e1:(S (i+1)).b*((S 0).b*dt n c (S i).x - (S i).b*dt n c (S 0).x)=0:=by omega
      have e2:(S 0).b*(ov n a B (S i) (Q i)*dt n c ((S i).W (P i)))=0:=by omega
      refine ⟨?_,fun _=>?_⟩
      · rcases Int.mul_eq_zero.mp e1 with h | h
        · omega
        · exact h
      · rcases Int.mul_eq_zero.mp e2 with h | h
        · omega
        · rcases Int.mul_eq_zero.mp h with h | h
          · exact h
          · omega
  have zero:∀ i,i<m→ov n a B (S i) (Q i)=0:=fun i hi=>by
    have:=(flat (m - i) (by omega)).2 (by omega)
    rw [show m - (m - i)=i by omega] at this
    exact this
  have corner:∀ i,i≤m→∀ j,j<n→(S 0).b*(S i).x j=(S i).b*(S 0).x j:=by
    intro i
    induction i with
    | zero=>intro _ j _;rfl
    | succ i ih =>
      intro hi j hj
      have h0:=ih (by omega) j hj
      have h1:=(C.nx i (by omega)).at.2 j hj
      rw [zero i (by omega),Int.zero_mul,Int.sub_zero] at h1
      have q1:=(C.ok hm (show i≤m by omega)).pos
      refine Int.eq_of_mul_eq_mul_left (show (S i).b≠0 by omega) ?_
      grind
  have ovz:∀ i j r,i≤m→j≤m→ov n a B (S i) r=0→ov n a B (S j) r=0:=fun i j r hi hj h=>by
    have e1:=qle (a:=a) (B:=B) (S:=S i) (T:=S 0) (corner i hi) r
    have e2:=qle (a:=a) (B:=B) (S:=S j) (T:=S 0) (corner j hj) r
    have q0:=(C.ok hm (show 0≤m by omega)).pos
    have q1:=(C.ok hm hi).pos
    rw [h,Int.mul_zero] at e1
    rcases Int.mul_eq_zero.mp e1.symm with h3 | h3
    · omega
    · rw [h3,Int.mul_zero] at e2
      rcases Int.mul_eq_zero.mp e2 with h4 | h4
      · omega
      · exact h4
  obtain ⟨i2,h2,ht⟩:=qkV Q m hm
  obtain ⟨i1,h1,hl⟩:=C.enters he h2
  have o1:=(C.nx i1 h1).ok
  have o2:=(C.nx i2 h2).ok
  have s1:=hB i1 h1
  have s2:=hB i2 h2
  have key:=o1.comb c ((S i2).W (P i2))
  have hs:(sm n fun k=>dt n c ((S i1).W k)*dt n (a ((S i1).h k)) ((S i2).W (P i2)))<0:=by
    refine qj4 (k:=P i1) (fun k hk=>?_) s1.hp ?_
    · by_cases c1:∃ j,j<m∧Q j=(S i1).h k
      · obtain ⟨j,hj,ej⟩:=c1
        have hle:=ht j hj
        by_cases c2:(S i1).h k=Q i2
        · have ek:k=P i1:=o1.inj hk s1.hp (by rw [c2,hl])
          subst ek
          have g1:=s1.gain
          have f2:=s2.falls
          unfold gr at f2
          rw [c2]
          exact np (by omega) (by omega)
        · have g1:=s1.first k hk (by rw [hl];omega)
          refine pn g1 ?_
          rcases Int.lt_or_le (dt n (a ((S i1).h k)) ((S i2).W (P i2))) 0 with h | h
          · have hlt:=o1.lt k hk
            have l2:=(s2.least ((S i1).h k) hlt h).2 (by omega)
            have z1:ov n a B (S i2) ((S i1).h k)=0:=ovz i1 i2 _ (by omega) (by omega) (o1.ov0 ⟨k,hk,rfl⟩)
            rw [zero i2 h2,z1,Int.zero_mul,Int.zero_mul] at l2
            omega
          · exact h
      · have hr:∀ j,j<m→Q j≠(S i1).h k:=fun j hj e=>c1 ⟨j,hj,e⟩
        have hin:=(C.still he hr (Nat.le_of_lt h1)).mp ⟨k,hk,rfl⟩
        obtain ⟨l,hl2,e2⟩:=(C.still he hr (Nat.le_of_lt h2)).mpr hin
        have hne:l≠P i2:=fun e=>by
          obtain ⟨j,hj,ej⟩:=C.left he h2
          exact hr j hj (by rw [ej,← e2,e])
        rw [← e2,o2.rt hl2 s2.hp,if_neg hne,Int.mul_zero]
        exact Int.le_refl 0
    · have g1:=s1.gain
      have f2:=s2.falls
      unfold gr at f2
      rw [hl]
      exact qgS g1 f2
  rw [← key] at hs
  have:=Int.mul_pos o1.pos s2.gain
  omega
theorem Chain.never (C:Chain n M a B c m S P Q) (hm:0<m) (he:∀ r,In n (S 0) r↔In n (S m) r):False:=by
  by_cases hf:∃ i,i<m∧StB n M a B c (S i) (P i) (Q i)
  · obtain ⟨i0,hi0,s0⟩:=hf
    have fe:∀ d,i0+d≤m→∀ r,r<M→0≤ov n a B (S (i0+d)) r:=by
      intro d
      induction d with
      | zero=>intro _ r hr;exact s0.feas r hr
      | succ d ih =>
        intro hd r hr
        rcases C.st (i0+d) (by omega) with s | s
        · have:=ih (by omega) _ s.hq
          have:=s.mis
          omega
        · exact s.stays (C.nx (i0+d) (by omega)) hr
    have fm:=fe (m - i0) (by omega)
    rw [show i0+(m - i0)=m by omega] at fm
    have sc:=qdl (C.ok hm (show 0≤m by omega)) (C.ok hm (Nat.le_refl m)) fun r=>(he r).mp
    have f0:∀ r,r<M→0≤ov n a B (S 0) r:=fun r hr=>by
      have e:=qle (a:=a) (B:=B) sc r
      have q0:=(C.ok hm (show 0≤m by omega)).pos
      have qm:=(C.ok hm (Nat.le_refl m)).pos
      rcases Int.lt_or_le (ov n a B (S 0) r) 0 with h | h
      · have:=qgS qm h
        have:=Int.mul_nonneg (Int.le_of_lt q0) (fm r hr)
        omega
      · exact h
    have fall_:∀ i,i≤m→∀ r,r<M→0≤ov n a B (S i) r:=by
      intro i
      induction i with
      | zero=>intro _;exact f0
      | succ i ih =>
        intro hi r hr
        rcases C.st i (by omega) with s | s
        · have:=ih (by omega) _ s.hq
          have:=s.mis
          omega
        · exact s.stays (C.nx i (by omega)) hr
    refine C.allB hm he fun i hi=>?_
    rcases C.st i hi with s | s
    · have:=fall_ i (by omega) _ s.hq
      have:=s.mis
      omega
    · exact s
  · refine C.allA hm he fun i hi=>?_
    rcases C.st i hi with s | s
    · exact s
    · exact absurd ⟨i,hi,s⟩ hf
end
end Wk
namespace Wk
theorem qgP:∀ (N:Nat) {m:Nat} {f:Nat→Nat},(∀ i,i≤m→f i<N)→(∀ i j,i<j→j≤m→f i≠f j)→m<N
  | 0,m,f,h,_=>absurd (h 0 (by omega)) (by omega)
  | N+1,m,f,h,hi=>by
    by_cases c:∃ i,i≤m∧f i=N
    · obtain ⟨k,hk,e⟩:=c
      by_cases c0:m=0
      · omega
      · have:=qgP N (m:=m - 1) (f:=fun i=>if i<k then f i else f (i+1)) (fun i h1=>?_) (fun i j h1 h2=>?_)
        · omega
        · show (if i<k then f i else f (i+1))<N
          split
          · next h2 =>
            have:=h i (by omega)
            have:=hi i k h2 hk
            omega
          · next h2 =>
            have:=h (i+1) (by omega)
            have:=hi k (i+1) (by omega) (by omega)
            omega
        · show (if i<k then f i else f (i+1))≠(if j<k then f j else f (j+1))
          split <;> split
          · exact hi i j h1 (by omega)
          · exact hi i (j+1) (by omega) (by omega)
          · omega
          · exact hi (i+1) (j+1) (by omega) (by omega)
    · have:=qgP N (m:=m) (f:=f) (fun i h1=>by
        have:=h i h1
        have:f i≠N:=fun e=>c ⟨i,h1,e⟩
        omega) hi
      omega
def msk (p:Nat→Bool):Nat→Nat
  | 0=>0
  | r+1=>msk p r+(if p r=true then 2 ^ r else 0)
theorem qgV (p:Nat→Bool):∀ M,msk p M<2 ^ M
  | 0=>Nat.zero_lt_one
  | r+1=>by
    have:=qgV p r
    show msk p r+_<2 ^ (r+1)
    rw [Nat.pow_succ]
    split <;> omega
theorem qhz {p q:Nat→Bool}:∀ {M:Nat},msk p M=msk q M→∀ r,r<M→p r=q r
  | 0,_,r,hr=>absurd hr (by omega)
  | M+1,h,r,hr=>by
    have h':msk p M+(if p M=true then 2 ^ M else 0)=msk q M+(if q M=true then 2 ^ M else 0):=h
    have l1:=qgV p M
    have l2:=qgV q M
    have e:p M=q M:=by
      cases c1:p M <;> cases c2:q M
      · rfl
      · rw [c1,c2,if_neg (by decide),if_pos rfl] at h';omega
      · rw [c1,c2,if_pos rfl,if_neg (by decide)] at h';omega
      · rfl
    by_cases c:r=M
    · rw [c,e]
    · rw [e] at h'
      exact qhz (M:=M) (by omega) r (by omega)
open Classical in
noncomputable def qnz (n:Nat) (S:Sd) (M:Nat):Nat:=msk (fun r=>decide (In n S r)) M
section
variable {n M : Nat} {a : Mx} {B : Nat → Int} {c : Nat → Int} {m : Nat} {S : Nat → Sd} {P Q : Nat → Nat}
theorem Chain.part (C:Chain n M a B c m S P Q) {i j:Nat} (h:j≤m):Chain n M a B c (j - i) (fun k=>S (i+k)) (fun k=>P (i+k)) (fun k=>Q (i+k)) :=
  ⟨fun k hk=>C.nx (i+k) (by omega),fun k hk=>C.st (i+k) (by omega)⟩
theorem Ok.in_lt {S:Sd} (o:Ok n a B M S) {r:Nat} (h:In n S r):r<M:=by
  obtain ⟨k,hk,rfl⟩:=h
  exact o.lt k hk
open Classical in
theorem Chain.unlike (C:Chain n M a B c m S P Q) {i j:Nat} (h:i<j) (hj:j≤m):qnz n (S i) M≠qnz n (S j) M:=fun e=>by
  have o1:=C.ok (by omega) (show i≤m by omega)
  have o2:=C.ok (by omega) hj
  have hs:∀ r,In n (S i) r↔In n (S j) r:=fun r=>by
    by_cases c:r<M
    · have h1:=qhz e r c
      constructor
      · intro h
        exact of_decide_eq_true (h1.symm.trans (decide_eq_true h))
      · intro h
        exact of_decide_eq_true (h1.trans (decide_eq_true h))
    · exact ⟨fun h=>absurd (o1.in_lt h) c,fun h=>absurd (o2.in_lt h) c⟩
  refine (C.part (i:=i) hj).never (by omega) fun r=>?_
  show In n (S (i+0)) r↔In n (S (i+(j - i))) r
  rw [show i+(j - i)=j by omega]
  exact hs r
theorem Chain.short (C:Chain n M a B c m S P Q):m<2 ^ M :=
  qgP (2 ^ M) (m:=m) (f:=fun i=>qnz n (S i) M) (fun i _=>qgV _ M) fun i j h hj=>C.unlike h hj
theorem Chain.more (C:Chain n M a B c m S P Q) {T:Sd} {p q:Nat} (x:Nx n M a B (S m) T p q) (s:StA n M a B (S m) p q∨StB n M a B c (S m) p q) :
    Chain n M a B c (m+1) (fun i=>if i≤m then S i else T) (fun i=>if i<m then P i else p) (fun i=>if i<m then Q i else q):=by
  constructor
  · intro i hi
    show Nx n M a B (if i≤m then S i else T) (if i+1≤m then S (i+1) else T) (if i<m then P i else p) (if i<m then Q i else q)
    by_cases c:i<m
    · rw [if_pos (by omega),if_pos (by omega),if_pos c,if_pos c]
      exact C.nx i c
    · obtain rfl:i=m:=by omega
      rw [if_pos (by omega),if_neg (by omega),if_neg c,if_neg c]
      exact x
  · intro i hi
    show StA n M a B (if i≤m then S i else T) (if i<m then P i else p) (if i<m then Q i else q)∨StB n M a B _ (if i≤m then S i else T) (if i<m then P i else p) (if i<m then Q i else q)
    by_cases c:i<m
    · rw [if_pos (by omega),if_pos c,if_pos c]
      exact C.st i c
    · obtain rfl:i=m:=by omega
      rw [if_pos (by omega),if_neg c,if_neg c]
      exact s
theorem chain0 (T:Sd):Chain n M a B c 0 (fun _=>T) (fun _=>0) (fun _=>0):=⟨fun i h=>absurd h (by omega),fun i h=>absurd h (by omega)⟩
theorem ok_start (hn:n≤M) (ha:∀ k j,k<n→j<n→a k j=un k j):Ok n a B M ⟨fun k=>k,fun k=>un k,fun i=>B i,1⟩:=by
  have ed:det n (fun k=>a k)=1:=by
    rw [← qfU n]
    exact det_congr fun i j hi hj=>ha i j hi hj
  have ec:∀ k j,k<n→j<n→co n (fun k=>a k) k j=un k j:=fun k j hk hj=>by
    have e1:co n (fun k=>a k) k j=co n un k j:=det_congr fun i l hi hl=>by
      unfold up
      split
      · rfl
      · exact ha i l hi hl
    rw [e1]
    have h:=qkt (A:=un) hk hj
    rw [sm_one hj fun i hi hne=>?_] at h
    · rw [qfU] at h
      have e2:un j j=1:=if_pos rfl
      rw [e2,Int.one_mul] at h
      rw [h]
      rfl
    · show (if i=j then (1:Int) else 0)*_=0
      rw [if_neg hne,Int.zero_mul]
  refine ⟨by show (0:Int)<1;decide,fun k hk=>by show k<M;omega,⟨1,.inl rfl,?_,fun k j hk hj=>?_⟩,fun i j hi hj=>?_,fun i hi=>?_⟩
  · show (1:Int)=1*det n (fun k=>a k)
    rw [ed]
    rfl
  · show un k j=1*co n (fun k=>a k) k j
    rw [ec k j hk hj,Int.one_mul]
  · show (sm n fun k=>un k i*a k j)=if i=j then 1 else 0
    rw [sm_one hi fun k hk hne=>?_,ha i j hi hj]
    · have e2:un i i=1:=if_pos rfl
      rw [e2,Int.one_mul]
      unfold un
      by_cases c:i=j
      · rw [if_pos c,if_pos c.symm]
      · rw [if_neg c,if_neg (Ne.symm c)]
    · show (if i=k then (1:Int) else 0)*_=0
      rw [if_neg (Ne.symm hne),Int.zero_mul]
  · show B i=sm n fun k=>B k*un k i
    rw [sm_one hi fun k hk hne=>?_]
    · have e2:un i i=1:=if_pos rfl
      rw [e2,Int.mul_one]
    · show _*(if i=k then (1:Int) else 0)=0
      rw [if_neg (Ne.symm hne),Int.mul_zero]
end
end Wk
namespace Wk
def enc (M:Nat) (h:Nat→Nat):Nat→Nat
  | 0=>0
  | n+1=>enc M h n*M+h n
theorem qh6 {M:Nat} {h:Nat→Nat}:∀ {n:Nat},(∀ k,k<n→h k<M)→enc M h n<M ^ n
  | 0,_=>by show 0<1;decide
  | n+1,hl=>by
    have ih:=qh6 (n:=n) fun k hk=>hl k (by omega)
    have h1:=hl n (by omega)
    show enc M h n*M+h n<M ^ n*M
    have h2:(enc M h n+1)*M≤M ^ n*M:=Nat.mul_le_mul_right M ih
    rw [Nat.add_mul] at h2
    omega
theorem qh4 {M:Nat} {h g:Nat→Nat}:∀ {n:Nat},(∀ k,k<n→h k<M)→(∀ k,k<n→g k<M)→enc M h n=enc M g n→∀ k,k<n→h k=g k
  | 0,_,_,_,k,hk=>absurd hk (by omega)
  | n+1,h1,h2,e,k,hk=>by
    have e:enc M h n*M+h n=enc M g n*M+g n:=e
    have a:=h1 n (by omega)
    have b:=h2 n (by omega)
    have em:(enc M h n*M+h n) % M=(enc M g n*M+g n) % M:=by rw [e]
    rw [Nat.mul_add_mod_self_right,Nat.mul_add_mod_self_right,Nat.mod_eq_of_lt a,Nat.mod_eq_of_lt b] at em
    by_cases c:k=n
    · rw [c];exact em
    · have e2:enc M h n*M=enc M g n*M:=by omega
      have e3:=Nat.eq_of_mul_eq_mul_right (show 0<M by omega) e2
      exact qh4 (fun k hk=>h1 k (by omega)) (fun k hk=>h2 k (by omega)) e3 k (by omega)
section
variable {n M : Nat} {a : Mx} {B : Nat → Int} {c : Nat → Int} {m : Nat} {S : Nat → Sd} {P Q : Nat → Nat}
theorem Chain.fewer (C:Chain n M a B c m S P Q) (o0:Ok n a B M (S 0)):m<M ^ n:=by
  by_cases hm:m=0
  · subst hm
    have:=qh6 (M:=M) (h:=(S 0).h) (n:=n) fun k hk=>o0.lt k hk
    omega
  refine qgP (M ^ n) (m:=m) (f:=fun i=>enc M (S i).h n) (fun i hi=>qh6 fun k hk=>(C.ok (by omega) hi).lt k hk) fun i j h hj e=>?_
  have o1:=C.ok (by omega) (show i≤m by omega)
  have o2:=C.ok (by omega) hj
  have hh:=qh4 (fun k hk=>o1.lt k hk) (fun k hk=>o2.lt k hk) e
  refine C.unlike h hj ?_
  unfold qnz
  have:(fun r=>@decide (In n (S i) r) (Classical.propDecidable _))=fun r=>@decide (In n (S j) r) (Classical.propDecidable _):=by
    funext r
    have:In n (S i) r↔In n (S j) r:=⟨fun ⟨k,hk,e⟩=>⟨k,hk,by rw [← hh k hk];exact e⟩,fun ⟨k,hk,e⟩=>⟨k,hk,by rw [hh k hk];exact e⟩⟩
    exact decide_eq_decide.mpr this
  rw [this]
end
end Wk
namespace Kx
open PySem L2
section
variable {P : Program} {w : World} {K : PySem.W.Frag} {mg : Str → Option Value} {base : Heap}
def top (i:Nat):Stmt:=PySem.Challenge.pw_cutyard_k39_whole_inner.main.body.getD i (.Pass ⟨0,0,0,0⟩)
abbrev qbb:Stmt:=top 4
theorem sc_common_of_two:FnScope ["one","other","greater","lesser","rest"] ["one","other"] (qaf qbb):=⟨rfl,rfl,rfl,by decide +kernel,rfl,by decide +kernel,by decide +kernel⟩
abbrev qdb:Stmt:=top 5
theorem sc_common:FnScope ["numbers","divisor","number"] ["numbers"] (qaf qdb):=⟨rfl,rfl,rfl,by decide +kernel,rfl,by decide +kernel,by decide +kernel⟩
abbrev qcB:Stmt:=top 6
theorem sc_lowest:FnScope ["tops","bottom","divisor"] ["tops","bottom"] (qaf qcB):=⟨rfl,rfl,rfl,by decide +kernel,rfl,by decide +kernel,by decide +kernel⟩
abbrev qfA:Stmt:=top 8
theorem qkr:FnScope ["n","place"] ["n","place"] (qaf qfA):=⟨rfl,rfl,rfl,by decide +kernel,rfl,by decide +kernel,by decide +kernel⟩
abbrev qet:Stmt:=top 9
theorem qjj:FnScope ["rows"] ["rows"] (qaf qet):=⟨rfl,rfl,rfl,by decide +kernel,rfl,by decide +kernel,by decide +kernel⟩
abbrev qfJ:Stmt:=top 10
theorem qlz:FnScope ["entries","spot"] ["entries","spot"] (qaf qfJ):=⟨rfl,rfl,rfl,by decide +kernel,rfl,by decide +kernel,by decide +kernel⟩
abbrev qbg:Stmt:=top 13
theorem sc_beginning:FnScope ["rows","n","ways","tops"] ["rows","n"] (qaf qbg):=⟨rfl,rfl,rfl,by decide +kernel,rfl,by decide +kernel,by decide +kernel⟩
abbrev qb9:Stmt:=top 14
theorem qhe:FnScope ["stand","entries"] ["stand","entries"] (qaf qb9):=⟨rfl,rfl,rfl,by decide +kernel,rfl,by decide +kernel,by decide +kernel⟩
abbrev qgT:Stmt:=top 15
theorem qkw:FnScope ["row","stand"] ["row","stand"] (qaf qgT):=⟨rfl,rfl,rfl,by decide +kernel,rfl,by decide +kernel,by decide +kernel⟩
abbrev qbI:Stmt:=top 16
theorem sc_missed_row:FnScope ["rows","numbers","stand","number"] ["rows","numbers","stand"] (qaf qbI):=⟨rfl,rfl,rfl,by decide +kernel,rfl,by decide +kernel,by decide +kernel⟩
abbrev qay:Stmt:=top 17
theorem sc_least_grown:FnScope ["stand","grown","places"] ["stand","grown"] (qaf qay):=⟨rfl,rfl,rfl,by decide +kernel,rfl,by decide +kernel,by decide +kernel⟩
abbrev qbi:Stmt:=top 18
theorem sc_stopping_row:FnScope ["rows","numbers","stand","way","chosen","chosen_over","chosen_fall","number","fall","row_over"] ["rows","numbers","stand","way"] (qaf qbi):=⟨rfl,rfl,rfl,by decide +kernel,rfl,by decide +kernel,by decide +kernel⟩
abbrev qdp:Stmt:=top 19
theorem qjz:FnScope ["numbers","way","shift","size","bottom"] ["numbers","way","shift","size","bottom"] (qaf qdp):=⟨rfl,rfl,rfl,by decide +kernel,rfl,by decide +kernel,by decide +kernel⟩
abbrev qbf:Stmt:=top 20
theorem sc_exchanged:FnScope ["rows","stand","place","number","row","grown","size","way","ways","other","tops","held"] ["rows","stand","place","number"] (qaf qbf):=⟨rfl,rfl,rfl,by decide +kernel,rfl,by decide +kernel,by decide +kernel⟩
abbrev qcw:Stmt:=top 21
theorem qhX:FnScope ["stand","grown"] ["stand","grown"] (qaf qcw):=⟨rfl,rfl,rfl,by decide +kernel,rfl,by decide +kernel,by decide +kernel⟩
abbrev qbh:Stmt:=top 22
theorem sc_in_lowest:FnScope ["pairs","bottom","reduced"] ["pairs","bottom"] (qaf qbh):=⟨rfl,rfl,rfl,by decide +kernel,rfl,by decide +kernel,by decide +kernel⟩
abbrev qbq:Stmt:=top 23
theorem sc_none_ending:FnScope ["stand","number","grown","reduced"] ["stand","number","grown"] (qaf qbq):=⟨rfl,rfl,rfl,by decide +kernel,rfl,by decide +kernel,by decide +kernel⟩
abbrev qbr:Stmt:=top 24
theorem sc_best_ending:FnScope ["stand","grown","reduced"] ["stand","grown"] (qaf qbr):=⟨rfl,rfl,rfl,by decide +kernel,rfl,by decide +kernel,by decide +kernel⟩
abbrev qaY:Stmt:=top 25
theorem sc_endless_ending:FnScope ["stand","way","divisor"] ["stand","way"] (qaf qaY):=⟨rfl,rfl,rfl,by decide +kernel,rfl,by decide +kernel,by decide +kernel⟩
abbrev qbZ:Stmt:=top 26
theorem sc_next_step:FnScope ["rows","numbers","goal","stand","number","raised","place","grown"] ["rows","numbers","goal","stand"] (qaf qbZ):=⟨rfl,rfl,rfl,by decide +kernel,rfl,by decide +kernel,by decide +kernel⟩
abbrev qcI:Stmt:=top 27
theorem sc_walk_on:FnScope ["rows","numbers","goal","stand","steps","told"] ["rows","numbers","goal","stand"] (qaf qcI):=⟨rfl,rfl,rfl,by decide +kernel,rfl,by decide +kernel,by decide +kernel⟩
abbrev qgC:Stmt:=top 28
theorem qkM:FnScope ["rows","goal"] ["rows","goal"] (qaf qgC):=⟨rfl,rfl,rfl,by decide +kernel,rfl,by decide +kernel,by decide +kernel⟩
abbrev qeF:Stmt:=top 29
theorem qjN:FnScope ["rows","goal"] ["rows","goal"] (qaf qeF):=⟨rfl,rfl,rfl,by decide +kernel,rfl,by decide +kernel,by decide +kernel⟩
abbrev qcH:Stmt:=top 31
theorem qhG:FnScope ["lists","n"] ["lists","n"] (qaf qcH):=⟨rfl,rfl,rfl,by decide +kernel,rfl,by decide +kernel,by decide +kernel⟩
abbrev qbP:Stmt:=top 32
theorem sc_divided:FnScope ["numbers","divisor"] ["numbers"] (qaf qbP):=⟨rfl,rfl,rfl,by decide +kernel,rfl,by decide +kernel,by decide +kernel⟩
abbrev qa8:Stmt:=top 33
theorem sc_ask_still:FnScope ["rows","ray","still","goal"] ["rows","ray"] (qaf qa8):=⟨rfl,rfl,rfl,by decide +kernel,rfl,by decide +kernel,by decide +kernel⟩
abbrev qeQ:Stmt:=top 34
theorem sc_inner:FnScope ["rows","n","ray","asked","ending","weights","number","weight"] ["rows"] (qaf qeQ):=⟨rfl,rfl,rfl,by decide +kernel,rfl,by decide +kernel,by decide +kernel⟩
abbrev qbG:Stmt:=top 36
theorem sc__law_mixed:FnScope ["_law_cell","_law_k","_law_one"] ["_law_cell","_law_k"] (qaf qbG):=⟨rfl,rfl,rfl,by decide +kernel,rfl,by decide +kernel,by decide +kernel⟩
abbrev qbF:Stmt:=top 37
theorem sc__law_draws:FnScope ["_law_script","_law_at","_law_sizes","_law_cell","_law_rest","_law_drawn","_law_k","_law_size","_law_one"] ["_law_script","_law_at","_law_sizes"] (qaf qbF):=⟨rfl,rfl,rfl,by decide +kernel,rfl,by decide +kernel,by decide +kernel⟩
abbrev qbH:Stmt:=top 38
theorem qeG:FnScope ["_law_seen"] ["_law_seen"] (qaf qbH):=⟨rfl,rfl,rfl,by decide +kernel,rfl,by decide +kernel,by decide +kernel⟩
abbrev qba:Stmt:=top 39
theorem qd1:FnScope ["_law_seen","_law_size"] ["_law_seen","_law_size"] (qaf qba):=⟨rfl,rfl,rfl,by decide +kernel,rfl,by decide +kernel,by decide +kernel⟩
abbrev qbm:Stmt:=top 40
theorem qeO:FnScope ["_law_one","_law_other"] ["_law_one","_law_other"] (qaf qbm):=⟨rfl,rfl,rfl,by decide +kernel,rfl,by decide +kernel,by decide +kernel⟩
abbrev qaL:Stmt:=top 41
theorem sc__law_entries:FnScope ["_law_script","_law_n","_law_rows","_law_at","_law_closed","_law_k","_law_kind","_law_one","_law_other","_law_entries_here"] ["_law_script","_law_n"] (qaf qaL):=⟨rfl,rfl,rfl,by decide +kernel,rfl,by decide +kernel,by decide +kernel⟩
abbrev qbl:Stmt:=top 42
theorem sc__law_bound:FnScope ["_law_script","_law_at","_law_rows","_law_bounds"] ["_law_script","_law_at","_law_rows"] (qaf qbl):=⟨rfl,rfl,rfl,by decide +kernel,rfl,by decide +kernel,by decide +kernel⟩
abbrev qaU:Stmt:=top 43
theorem sc__law_tied:FnScope ["_law_n","_law_handed","_law_told","_law_grows","_law_k"] ["_law_n","_law_handed","_law_told"] (qaf qaU):=⟨rfl,rfl,rfl,by decide +kernel,rfl,by decide +kernel,by decide +kernel⟩
abbrev qje:Stmt:=top 44
theorem sc_law:FnScope ["_law_script","_law_n","_law_wide","_law_more","_law_rows","_law_here","_law_there","_law_tied_here","_law_other"] ["_law_script"] (qaf qje):=⟨rfl,rfl,rfl,by decide +kernel,rfl,by decide +kernel,by decide +kernel⟩
abbrev qaK:Stmt:=qlE (top 12) 0
theorem qcu:FnScope ["self","held","ways","tops","bottom"] ["self","held","ways","tops","bottom"] (qaf qaK):=⟨rfl,rfl,rfl,by decide +kernel,rfl,by decide +kernel,by decide +kernel⟩
structure TxtStand (K:PySem.W.Frag) (mg:Str→Option Value) (C:Addr):Prop where
  cl:Cls K C
  n_held:NoAttr K C "held"
  n_ways:NoAttr K C "ways"
  n_tops:NoAttr K C "tops"
  n_bottom:NoAttr K C "bottom"
  mgC:mg "Stand"=some (.ref C)
  ns:PySem.W.nsIn K mainGlobals "Stand"=some (some (.ref C))
abbrev qbT (x:Int):Prop:=x.natAbs<2 ^ 60000
abbrev qdK (r:Row):Prop:=(∀ x∈r.1,qbT x)∧qbT r.2
theorem qdS {a b:Int} (ha:qbT a) (hb:qbT b):IntMulOk a b:=qjM (m:=60000) (n:=60000) (by decide) (by decide) ha hb (by decide)
theorem toB {R:D→Prop} {a b:Bool} (q:R (.bl a)) (e:b=a):R (.bl b):=e ▸ q
theorem qdR {rs:List Row} {k:Int} (h0:0≤k) (h1:k<rs.length):atI (rs.map qbe) k=some (qbe (qag rs k)):=qbn (qgr h0 h1) (by omega)
def qfi:SpD:=fun ds R=>∃ (xs ys:List Int),ds=[.tup (xs.map D.int),.tup (ys.map D.int)]∧xs.length≤1000∧(∀ x∈xs,qbT x)∧(∀ y∈ys,qbT y)∧R (.int (dot xs ys))
theorem qlr {n:Nat} {f:Addr} {fd:FuncData} (F:Fun K "left" "left" qfJ f fd) (z_sum:mg "sum"=none) (z_zip:mg "zip"=none):FnOk P w K mg base CX0 (n+1) f fd ["entries","spot"] (lSp K qfi):=by
  refine F.okD qlz (fun ds R h=>?_) (fun cdv A outer s H E ds R hr h=>?_)
  · obtain ⟨xs,ys,rfl,_⟩:=h;rfl
  obtain ⟨xs,ys,rfl,hl,hx,hy,q⟩:=h
  refine ⟨_,(qaw (qaN (qaH (qlJ rfl) rfl z_sum PyProof.Rows.boot_sum (qap (PD.q (PF.d (qaM (k:=2) (N':=["entry","number"]) (cap:=[none,none]) rfl (.ok (show qaI ["entries","spot"] (qaf qfJ) _ ["entry","number"] [none,none]=true by decide +kernel)) (by decide +kernel) (qc5 (n:=2) (qa4 (qaC (by decide)) (qa4 (qaC (by decide)) qc2))) (qdz rfl z_zip (qab (dv 0) (qab (dv 1) qal qaa) qaa)) (fun _ _ _ _ _=>(qcT (n:=2) rfl (qaJ (qar (i:=0) (show List.Nodup (["entry","number"]:List Str) by decide +kernel) rfl (Or.inl rfl)) (qaJ (qar (i:=1) (show List.Nodup (["entry","number"]:List Str) by decide +kernel) rfl (Or.inl rfl)) qbO)))) (fun _ _ _ _ _=>(qa3 qbD (dvq 0) (dvq 1)))))) qav qah) qah qad))),?_⟩
  refine ⟨_,_,rfl,rfl,?_⟩
  refine qbt (fun x y=>D.int (x*y)) (qam hl) (fun x hx' y hy'=>⟨rfl,qdS (hx x hx') (hy y hy'),rfl⟩) ?_
  exact ⟨List.zipWith (fun x y=>x*y) xs ys,by rw [List.map_zipWith];rfl,q⟩
theorem qeJ (f:Str) (v:V):∀ fs:List (Str × V),(qd2 f v fs).length≤fs.length+1
  | []=>Nat.le_refl 1
  | (g,x)::r=>by
    have:=qeJ f v r
    unfold qd2
    split
    · rw [List.length_cons,List.length_cons];omega
    · rw [List.length_cons,List.length_cons];omega
abbrev qbc (K:PySem.W.Frag) (C:Addr):Sp:=qoB C ["held","ways","tops","bottom"]
theorem qcx {n:Nat} {f:Addr} {fd:FuncData} (F:Fun K "__init__" "Stand.__init__" qaK f fd) {C_Stand:Addr} (T_Stand:TxtStand K mg C_Stand):FnOk P w K mg base CX0 (n+1) f fd ["self","held","ways","tops","bottom"] (qbc K C_Stand):=by
  refine F.ok qcu (fun vs H Q E h=>?_) (fun cdv A outer s H vs Q E hr h=>?_)
  · obtain ⟨x,dx,ws,rfl,hl,_⟩:=h;rw [List.length_cons,hl];rfl
  obtain ⟨x,dx,ws,rfl,hl,hx,q⟩:=h
  obtain ⟨w1,w2,w3,w4,rfl⟩:∃ w1 w2 w3 w4,ws=[w1,w2,w3,w4]:=by
    match ws,hl with
    | [w1,w2,w3,w4],_=>exact ⟨w1,w2,w3,w4,rfl⟩
  refine ⟨_,(qcC (qgD (pv 0) (pv 1) rfl)
      (qcC (qgD (pv 0) (pv 2) rfl)
      (qcC (qgD (pv 0) (pv 3) rfl)
      (qip (qgD (pv 0) (pv 4) rfl))))),?_⟩
  refine ⟨_,rfl,_,rfl,x,C_Stand,dx,[],rfl,hx,T_Stand.cl,T_Stand.n_held,by decide,?_⟩
  have l1:=qeJ "held" w1 []
  have l2:=qeJ "ways" w2 (qd2 "held" w1 [])
  have l3:=qeJ "tops" w3 (qd2 "ways" w2 (qd2 "held" w1 []))
  rw [List.length_nil] at l1
  refine ⟨_,rfl,_,rfl,x,C_Stand,dx,_,rfl,qan,T_Stand.cl,T_Stand.n_ways,by omega,?_⟩
  refine ⟨_,rfl,_,rfl,x,C_Stand,dx,_,rfl,qan,T_Stand.cl,T_Stand.n_tops,by omega,?_⟩
  refine ⟨_,rfl,_,rfl,x,C_Stand,dx,_,rfl,qan,T_Stand.cl,T_Stand.n_bottom,by omega,?_⟩
  refine q _ (fun b hb=>by rw [qau hb,qau hb,qau hb,qau hb]) ?_
  rw [qan]
  rfl
structure Std where
  held:List Int
  ways:List (List Int)
  tops:List Int
  bot:Int
def wD (w:List Int):D:=.tup (w.map D.int)
def stD (s:Std):D:=.obj "Stand" [("held",.tup (s.held.map D.int)),("ways",.tup (s.ways.map wD)),("tops",.tup (s.tops.map D.int)),("bottom",.int s.bot)]
structure StB (s:Std):Prop where
  hl:s.held.length≤1000
  wl:s.ways.length≤1000
  wb:∀ w∈s.ways,∀ x∈w,qbT x
  tb:∀ x∈s.tops,qbT x
  bb:qbT s.bot
theorem qdx (s:Std):([("held",.tup (s.held.map D.int)),("ways",.tup (s.ways.map wD)),("tops",.tup (s.tops.map D.int)),("bottom",.int s.bot)]:List (Str × D)).lookup ("held":Str)=some (.tup (s.held.map D.int)):=by rfl
theorem qdF (s:Std):([("held",.tup (s.held.map D.int)),("ways",.tup (s.ways.map wD)),("tops",.tup (s.tops.map D.int)),("bottom",.int s.bot)]:List (Str × D)).lookup ("ways":Str)=some (.tup (s.ways.map wD)):=by rfl
theorem qey (s:Std):([("held",.tup (s.held.map D.int)),("ways",.tup (s.ways.map wD)),("tops",.tup (s.tops.map D.int)),("bottom",.int s.bot)]:List (Str × D)).lookup ("tops":Str)=some (.tup (s.tops.map D.int)):=by rfl
theorem qdV (s:Std):([("held",.tup (s.held.map D.int)),("ways",.tup (s.ways.map wD)),("tops",.tup (s.tops.map D.int)),("bottom",.int s.bot)]:List (Str × D)).lookup ("bottom":Str)=some (.int s.bot):=by rfl
def qdZ:SpD:=fun ds R=>∃ (s:Std) (es:List Int),ds=[stD s,.tup (es.map D.int)]∧StB s∧es.length≤1000∧(∀ x∈es,qbT x)∧R (.tup ((s.ways.map fun w=>dot es w).map D.int))
theorem qgY {n:Nat} {f:Addr} {fd:FuncData} (F:Fun K "growths" "growths" qb9 f fd) {C_Stand:Addr} (T_Stand:TxtStand K mg C_Stand) (Q_left:Cl P w K mg base n "left" ["entries","spot"] qfi) (z_tuple:mg "tuple"=none):FnOk P w K mg base CX0 (n+1) f fd ["stand","entries"] (lSp K qdZ):=by
  refine F.okD qhe (fun ds R h=>?_) (fun cdv A outer s H E ds R hr h=>?_)
  · obtain ⟨s,es,rfl,_⟩:=h;rfl
  obtain ⟨s,es,rfl,hs,hl,he,q⟩:=h
  refine ⟨_,(qaw (qaN (qaB qaP rfl z_tuple PyProof.Rows.boot_tuple (qap (PD.q (PF.d (qaM (k:=1) (N':=["way","entries"]) (cap:=[none,some 1]) rfl (.ok (show qaI ["stand","entries"] (qaf qb9) _ ["way","entries"] [none,some 1]=true by decide +kernel)) (by decide +kernel) (qaC (by decide)) (qbC (qbQ T_Stand.cl T_Stand.n_ways T_Stand.ns (dvq 0))) (fun _ _ _ _ _=>(qar (i:=0) (show List.Nodup (["way","entries"]:List Str) by decide +kernel) rfl (Or.inl rfl))) (fun _ _ _ _ _=>(qaq Q_left hr rfl (qab (dv 1) (qab (dv 0) qal qaa) qaa) qaa (qae qaa qad)))))) qav qah) qah qad))),?_⟩
  refine ⟨rfl,_,qdF s,?_⟩
  exact qaX (f:=wD) (fun w=>dot es w) (qam hs.wl) (fun w hw=>⟨es,w,rfl,hl,he,hs.wb w hw,rfl⟩) q
def ovL (r:Row) (s:Std):Int:=dot r.1 s.tops - r.2*s.bot
def qgO:SpD:=fun ds R=>∃ (r:Row) (s:Std),ds=[qbe r,stD s]∧StB s∧r.1.length≤1000∧qdK r∧R (.int (ovL r s))
theorem qlu {n:Nat} {f:Addr} {fd:FuncData} (F:Fun K "over" "over" qgT f fd) {C_Stand:Addr} (T_Stand:TxtStand K mg C_Stand) (Q_left:Cl P w K mg base n "left" ["entries","spot"] qfi):FnOk P w K mg base CX0 (n+1) f fd ["row","stand"] (lSp K qgO):=by
  refine F.okD qkw (fun ds R h=>?_) (fun cdv A outer s H E ds R hr h=>?_)
  · obtain ⟨r,sd,rfl,_⟩:=h;rfl
  obtain ⟨r,sd,rfl,hs,hl,hb,q⟩:=h
  refine ⟨_,(qaw (qaN (qa3 qgd (PD.q (qaq Q_left hr rfl (qab (qa1 (dvq 0) (PD.q qai) (fun _ _=>rfl)) (qab (qbQ T_Stand.cl T_Stand.n_tops T_Stand.ns (dvq 1)) qal qas) qac) qac (qae qas qad))) (PD.q (qa3 qbD (PD.q (qa1 (dvq 0) (PD.q qai) (fun _ _=>rfl))) (PD.q (qbQ T_Stand.cl T_Stand.n_bottom T_Stand.ns (dvq 1)))))))),?_⟩
  exact ⟨_,rfl,rfl,_,qey sd,r.1,sd.tops,rfl,hl,hb.1,hs.tb,_,rfl,rfl,_,qdV sd,qdS hb.2 hs.bb,q⟩
abbrev RsB (rs:List Row):Prop:=∀ r∈rs,r.1.length≤1000∧qdK r
def qcV:SpD:=fun ds R=>∃ (rs:List Row) (ns:List Int) (sd:Std),ds=[.tup (rs.map qbe),.tup (ns.map D.int),stD sd]∧StB sd∧RsB rs∧(∀ k∈ns,0≤k∧k<rs.length) ∧
  (∀ (i:Nat) (k:Int),ns[i]?=some k→ovL (qag rs k) sd<0→(∀ (j:Nat) (k':Int),j<i→ns[j]?=some k'→0≤ovL (qag rs k') sd)→R (.int k))∧((∀ k∈ns,0≤ovL (qag rs k) sd)→R .non)
theorem qeN {n:Nat} {f:Addr} {fd:FuncData} (F:Fun K "missed_row" "missed_row" qbI f fd) (Q_over:Cl P w K mg base n "over" ["row","stand"] qgO):FnOk P w K mg base CX0 (n+1) f fd ["rows","numbers","stand"] (lSp K qcV):=by
  refine F.okD sc_missed_row (fun ds R h=>?_) (fun cdv A outer s H E ds R hr h=>?_)
  · obtain ⟨rs,ns,sd,rfl,_⟩:=h;rfl
  obtain ⟨rs,ns,sd,rfl,hs,hrr,hn,q1,q0⟩:=h
  refine ⟨_,(qao (qdO PassesOwn.never rfl (qbC (dv 1)) (qar (i:=3) sc_missed_row.nd rfl (Or.inl rfl)) (qaw (qcZ (qa5 qkG (PD.q (qaq Q_over hr rfl (qab (qa1 (dvq 0) (dvq 3) (fun _ _=>rfl)) (qab (dv 2) qal qaa) qac) qac (qae qaa qad))) (PD.q qai) (qaD _)) (qaw (qaN (dv 3))) qbs)))
      (qaw (qaN qbK))),?_⟩
  refine ⟨fun i ρ=>∃ u3:Option Sl,ρ=[some (.v (.tup (rs.map qbe))),some (.v (.tup (ns.map D.int))),some (.v (stD sd)),u3]∧∀ (j:Nat) (k':Int),j<i→ns[j]?=some k'→0≤ovL (qag rs k') sd,⟨_,rfl,fun j k' h=>absurd h (by omega)⟩,?_,?_⟩
  · rintro i d ρ hd ⟨u3,rfl,hI⟩
    obtain ⟨k,rfl,hk⟩:=qbB hd
    obtain ⟨k0,k1⟩:=hn k (List.mem_of_getElem? hk)
    have hrow:=hrr _ (qaO k0 k1)
    refine ⟨_,qdR k0 k1,qag rs k,sd,rfl,hs,hrow.1,hrow.2,fun h=>q1 i k hk (dP h) hI,fun h=>⟨_,rfl,fun j k' hj hk'=>?_⟩⟩
    by_cases c:j=i
    · subst c
      rw [hk] at hk'
      cases hk'
      have:=of_decide_eq_false h
      omega
    · exact hI j k' (by omega) hk'
  · rintro ρ ⟨u3,rfl,hI⟩
    rw [List.length_map] at hI
    exact q0 fun k hk=>by
      obtain ⟨j,hj⟩:=List.getElem?_of_mem hk
      exact hI j k (qaF hj) hj
def qbk (rs:List Row) (way:List Int) (k:Int):Int:=- dot (qag rs k).1 way
def qoC:Option Int→D
  | none=>.non
  | some k=>.int k
def Stop (rs:List Row) (ns:List Int) (sd:Std) (way:List Int) (m:Nat):Option Int→Prop
  | none=>∀ (j:Nat) (k':Int),j<m→ns[j]?=some k'→qbk rs way k'≤0
  | some k=>∃ i:Nat,i<m∧ns[i]?=some k∧0<qbk rs way k∧∀ (j:Nat) (k':Int),j<m→ns[j]?=some k'→0<qbk rs way k'→ovL (qag rs k) sd*qbk rs way k'≤ovL (qag rs k') sd*qbk rs way k∧(j<i→ovL (qag rs k) sd*qbk rs way k'<ovL (qag rs k') sd*qbk rs way k)
theorem qjQ {o f oq fq ok fk:Int} (hq:0<fq) (hf:0<f) (hk:0<fk) (h1:ok*fq<oq*fk) (h2:oq*f≤o*fq):ok*f<o*fk:=by
  have a1:=Int.mul_lt_mul_of_pos_right h1 hf
  have a2:=Int.mul_le_mul_of_nonneg_right h2 (Int.le_of_lt hk)
  have e1:ok*fq*f=(ok*f)*fq:=by grind
  have e2:o*fq*fk=(o*fk)*fq:=by grind
  have e3:oq*fk*f=oq*f*fk:=by grind
  have:(ok*f)*fq<(o*fk)*fq:=by omega
  exact Int.lt_of_mul_lt_mul_right this (Int.le_of_lt hq)
theorem Stop.keep {rs:List Row} {ns:List Int} {sd:Std} {way:List Int} {m:Nat} {o:Option Int} {k:Int} (h:Stop rs ns sd way m o) (hk:ns[m]?=some k) (hf:qbk rs way k≤0):Stop rs ns sd way (m+1) o:=by
  have old:∀ j k',j<m+1→ns[j]?=some k'→0<qbk rs way k'→j<m:=fun j k' hj hk' hp=>by
    by_cases c:j=m
    · subst c
      rw [hk] at hk'
      cases hk'
      omega
    · omega
  cases o with
  | none =>
    show ∀ (j:Nat) (k':Int),j<m+1→ns[j]?=some k'→qbk rs way k'≤0
    intro j k' hj hk'
    rcases Int.lt_or_le 0 (qbk rs way k') with hp | hp
    · exact h j k' (old j k' hj hk' hp) hk'
    · exact hp
  | some q =>
    obtain ⟨i,hi,hq,hqf,hall⟩:=h
    exact ⟨i,by omega,hq,hqf,fun j k' hj hk' hp=>hall j k' (old j k' hj hk' hp) hk' hp⟩
theorem Stop.take {rs:List Row} {ns:List Int} {sd:Std} {way:List Int} {m:Nat} {k:Int} (h:∀ (j:Nat) (k':Int),j<m→ns[j]?=some k'→0<qbk rs way k'→ovL (qag rs k) sd*qbk rs way k'<ovL (qag rs k') sd*qbk rs way k) (hk:ns[m]?=some k) (hf:0<qbk rs way k):Stop rs ns sd way (m+1) (some k):=by
  refine ⟨m,by omega,hk,hf,fun j k' hj hk' hp=>?_⟩
  by_cases c:j=m
  · subst c
    rw [hk] at hk'
    cases hk'
    exact ⟨Int.le_refl _,fun h=>absurd h (by omega)⟩
  · have:=h j k' (by omega) hk' hp
    exact ⟨Int.le_of_lt this,fun _=>this⟩
def qcm:SpD:=fun ds R=>∃ (rs:List Row) (ns:List Int) (sd:Std) (way:List Int),ds=[.tup (rs.map qbe),.tup (ns.map D.int),stD sd,.tup (way.map D.int)]∧StB sd∧RsB rs∧(∀ k∈ns,0≤k∧k<rs.length)∧(∀ x∈way,qbT x) ∧
  (∀ k∈ns,qbT (ovL (qag rs k) sd)∧qbT (qbk rs way k))∧∀ o,Stop rs ns sd way ns.length o→R (qoC o)
theorem qdj {n:Nat} {f:Addr} {fd:FuncData} (F:Fun K "stopping_row" "stopping_row" qbi f fd) (Q_left:Cl P w K mg base n "left" ["entries","spot"] qfi) (Q_over:Cl P w K mg base n "over" ["row","stand"] qgO):FnOk P w K mg base CX0 (n+1) f fd ["rows","numbers","stand","way"] (lSp K qcm):=by
  refine F.okD sc_stopping_row (fun ds R h=>?_) (fun cdv A outer s H E ds R hr h=>?_)
  · obtain ⟨rs,ns,sd,way,rfl,_⟩:=h;rfl
  obtain ⟨rs,ns,sd,way,rfl,hs,hrr,hn,hw,hbig,q⟩:=h
  refine ⟨_,(qao (qaE (i:=4) sc_stopping_row.nd rfl (Or.inl rfl) qbK)
      (qao (qaE (i:=5) sc_stopping_row.nd rfl (Or.inl rfl) qai)
      (qao (qaE (i:=6) sc_stopping_row.nd rfl (Or.inl rfl) qai)
      (qao (qdO PassesOwn.never rfl (qbC (dv 1)) (qar (i:=7) sc_stopping_row.nd rfl (Or.inl rfl)) (qao (qaE (i:=8) sc_stopping_row.nd rfl (Or.inl rfl) (qf3 (PD.q (qaq Q_left hr rfl (qab (qa1 (PD.q (qa1 (dvq 0) (dvq 7) (fun _ _=>rfl))) (PD.q qai) (fun _ _=>rfl)) (qab (dv 3) qal qaa) qac) qac (qae qaa qad)))))
      (qaw (qcZ (qa5 qkY (dvq 8) (PD.q qai) (qaD _)) (qao (qaE (i:=9) sc_stopping_row.nd rfl (Or.inl rfl) (qaq Q_over hr rfl (qab (qa1 (dvq 0) (dvq 7) (fun _ _=>rfl)) (qab (dv 2) qal qaa) qac) qac (qae qaa qad)))
      (qaw (qcZ (PWD.td (qnr (qa5 qlN (dvq 4) (PD.q qbK) (qaD _)) (qjl (qa5 qkG (PD.q (qa3 qbD (dvq 9) (dvq 6))) (PD.q (qa3 qbD (dvq 5) (dvq 8))) (qaD _))))) (qao (qaE (i:=4) sc_stopping_row.nd rfl (Or.inl rfl) (dv 7))
      (qao (qaE (i:=5) sc_stopping_row.nd rfl (Or.inl rfl) (dv 9))
      (qaw (qaE (i:=6) sc_stopping_row.nd rfl (Or.inl rfl) (dv 8))))) qbs))) qbs))))
      (qaw (qaN (dv 4))))))),?_⟩
  refine ⟨fun i ρ=>∃ (o:Option Int) (ov fl:Int) (u7 u8 u9:Option Sl),ρ=[some (.v (.tup (rs.map qbe))),some (.v (.tup (ns.map D.int))),some (.v (stD sd)),some (.v (.tup (way.map D.int))),some (.v (qoC o)),some (.v (.int ov)),some (.v (.int fl)),u7,u8,u9]∧Stop rs ns sd way i o∧∀ q,o=some q→ov=ovL (qag rs q) sd∧fl=qbk rs way q∧q∈ns,⟨none,0,1,_,_,_,rfl,fun j k' h=>absurd h (by omega),fun q h=>by cases h⟩,?_,?_⟩
  · rintro i d ρ hd ⟨o,ov,fl,u7,u8,u9,rfl,hst,ho⟩
    obtain ⟨k,rfl,hk⟩:=qbB hd
    have hkm:=List.mem_of_getElem? hk
    obtain ⟨k0,k1⟩:=hn k hkm
    have hrow:=hrr _ (qaO k0 k1)
    obtain ⟨b1,b2⟩:=hbig k hkm
    refine ⟨_,qdR k0 k1,_,rfl,(qag rs k).1,way,rfl,hrow.1,hrow.2.1,hw,fun h=>?_,fun h=>?_⟩
    · have hf:0<qbk rs way k:=dP h
      refine ⟨_,qdR k0 k1,qag rs k,sd,rfl,hs,hrow.1,hrow.2,?_⟩
      cases o with
      | none =>
        refine ⟨fun _=>⟨fun _=>⟨some k,ovL (qag rs k) sd,qbk rs way k,_,_,_,rfl,?_,fun q e=>by cases e;exact ⟨rfl,rfl,hkm⟩⟩,fun h=>ff h.symm⟩,fun h=>by cases h⟩
        refine Stop.take (fun j k' hj hk' hp=>?_) hk hf
        have:=hst j k' hj hk'
        omega
      | some p =>
        obtain ⟨rfl,rfl,hpm⟩:=ho p rfl
        obtain ⟨c1,c2⟩:=hbig p hpm
        refine ⟨fun h=>(by cases h),fun _=>⟨qdS b1 c2,qdS c1 b2,fun h=>?_,fun h=>?_⟩⟩
        · have hlt:=dP h
          refine ⟨some k,ovL (qag rs k) sd,qbk rs way k,_,_,_,rfl,?_,fun q e=>by cases e;exact ⟨rfl,rfl,hkm⟩⟩
          obtain ⟨i0,_,_,hpf,hall⟩:=hst
          exact Stop.take (fun j k' hj hk' hp=>qjQ hpf hp hf hlt (hall j k' hj hk' hp).1) hk hf
        · have hge:=of_decide_eq_false h
          refine ⟨some p,_,_,_,_,_,rfl,?_,fun q e=>by cases e;exact ⟨rfl,rfl,hpm⟩⟩
          obtain ⟨i0,hi0,hp0,hpf,hall⟩:=hst
          refine ⟨i0,by omega,hp0,hpf,fun j k' hj hk' hp=>?_⟩
          by_cases c:j=i
          · subst c
            rw [hk] at hk'
            cases hk'
            have hge':¬ ovL (qag rs k) sd*qbk rs way p<ovL (qag rs p) sd*qbk rs way k:=hge
            exact ⟨by omega,fun h=>absurd h (by omega)⟩
          · exact hall j k' (by omega) hk' hp
    · have hf:=of_decide_eq_false h
      have hf':¬ 0<qbk rs way k:=hf
      exact ⟨o,ov,fl,_,_,_,rfl,hst.keep hk (by omega),ho⟩
  · rintro ρ ⟨o,ov,fl,u7,u8,u9,rfl,hst,_⟩
    rw [List.length_map] at hst
    exact q o hst
def mvL (sz sh b:Int) (xs ys:List Int):List Int:=List.zipWith (fun x y=>(sz*x - sh*y) / b) xs ys
def qiu:SpD:=fun ds R=>∃ (xs ys:List Int) (sh sz b:Int),ds=[.tup (xs.map D.int),.tup (ys.map D.int),.int sh,.int sz,.int b]∧xs.length≤1000∧(∀ x∈xs,qbT x)∧(∀ y∈ys,qbT y)∧qbT sh∧qbT sz∧0<b∧b<2 ^ 9000∧R (.tup ((mvL sz sh b xs ys).map D.int))
theorem qjG {n:Nat} {f:Addr} {fd:FuncData} (F:Fun K "moved" "moved" qdp f fd) (z_tuple:mg "tuple"=none) (z_zip:mg "zip"=none):FnOk P w K mg base CX0 (n+1) f fd ["numbers","way","shift","size","bottom"] (lSp K qiu):=by
  refine F.okD qjz (fun ds R h=>?_) (fun cdv A outer s H E ds R hr h=>?_)
  · obtain ⟨xs,ys,sh,sz,b,rfl,_⟩:=h;rfl
  obtain ⟨xs,ys,sh,sz,b,rfl,hl,hx,hy,h1,h2,b0,b1,q⟩:=h
  refine ⟨_,(qaw (qaN (qaB qaP rfl z_tuple PyProof.Rows.boot_tuple (qap (PD.q (PF.d (qaM (k:=2) (N':=["number","step","bottom","size","shift"]) (cap:=[none,none,some 4,some 3,some 2]) rfl (.ok (show qaI ["numbers","way","shift","size","bottom"] (qaf qdp) _ ["number","step","bottom","size","shift"] [none,none,some 4,some 3,some 2]=true by decide +kernel)) (by decide +kernel) (qc5 (n:=2) (qa4 (qaC (by decide)) (qa4 (qaC (by decide)) qc2))) (qdz rfl z_zip (qab (dv 0) (qab (dv 1) qal qaa) qaa)) (fun _ _ _ _ _=>(qcT (n:=2) rfl (qaJ (qar (i:=0) (show List.Nodup (["number","step","bottom","size","shift"]:List Str) by decide +kernel) rfl (Or.inl rfl)) (qaJ (qar (i:=1) (show List.Nodup (["number","step","bottom","size","shift"]:List Str) by decide +kernel) rfl (Or.inl rfl)) qbO)))) (fun _ _ _ _ _=>(qa3 qcW (PD.q (qa3 qgd (PD.q (qa3 qbD (dvq 3) (dvq 0))) (PD.q (qa3 qbD (dvq 4) (dvq 1))))) (dvq 2)))))) qav qah) qah qad))),?_⟩
  refine ⟨_,_,rfl,rfl,?_⟩
  refine qbt (fun x y=>D.int ((sz*x - sh*y) / b)) (qam hl) (fun x hx' y hy'=>⟨rfl,qdS h2 (hx x hx'),qdS h1 (hy y hy'),CDivB.of b0 b1,rfl⟩) ?_
  have e:List.zipWith (fun x y=>D.int ((sz*x - sh*y) / b)) xs ys=(mvL sz sh b xs ys).map D.int:=by
    unfold mvL
    rw [List.map_zipWith]
  rw [e]
  exact q
def wyL (sd:Std) (r:Row) (p:Nat):List Int:=if dot r.1 (sd.ways.getD p [])<0 then (sd.ways.getD p []).map (fun x=>-x) else sd.ways.getD p []
def szL (sd:Std) (r:Row) (p:Nat):Int:=if dot r.1 (sd.ways.getD p [])<0 then - dot r.1 (sd.ways.getD p []) else dot r.1 (sd.ways.getD p [])
theorem qhs (sd:Std) (r:Row) (p:Nat):szL sd r p=((dot r.1 (sd.ways.getD p [])).natAbs:Int):=by unfold szL;split <;> omega
def exL (r:Row) (sd:Std) (p:Nat) (q:Int):Std where
  held:=(List.range sd.ways.length).map fun o=>if o=p then q else sd.held.getD o 0
  ways:=(List.range sd.ways.length).map fun o=>if o=p then wyL sd r p else mvL (szL sd r p) (dot r.1 (sd.ways.getD o [])) sd.bot (sd.ways.getD o []) (wyL sd r p)
  tops:=mvL (szL sd r p) (ovL r sd) sd.bot sd.tops (wyL sd r p)
  bot:=szL sd r p
structure ExB (r:Row) (sd:Std) (p:Nat):Prop where
  sb:StB sd
  rl:r.1.length≤1000
  rb:qdK r
  hp:p<sd.ways.length
  hh:sd.held.length=sd.ways.length
  wl:∀ w∈sd.ways,w.length≤1000
  tl:sd.tops.length≤1000
  gb:∀ w∈sd.ways,qbT (dot r.1 w)
  ob:qbT (ovL r sd)
  b0:0<sd.bot
  b1:sd.bot<2 ^ 9000
theorem qax {α:Type} {xs:List α} {i:Nat} {d:α} (h:i<xs.length):xs.getD i d∈xs:=by
  rw [List.getD_eq_getElem?_getD,qaA h]
  exact List.getElem_mem h
theorem qaQ {α:Type} {xs:List α} {i:Nat} {d:α} (h:i<xs.length):xs[i]?=some (xs.getD i d):=by
  rw [List.getD_eq_getElem?_getD,qaA h]
  rfl
theorem qks {r:Row} {sd:Std} {p:Nat} (h:ExB r sd p):(∀ x∈wyL sd r p,qbT x)∧(wyL sd r p).length=(sd.ways.getD p []).length:=by
  unfold wyL
  split
  · refine ⟨fun x hx=>?_,by rw [List.length_map]⟩
    obtain ⟨y,hy,rfl⟩:=List.mem_map.mp hx
    show (-y).natAbs<_
    rw [Int.natAbs_neg]
    exact h.sb.wb _ (qax h.hp) y hy
  · exact ⟨fun x hx=>h.sb.wb _ (qax h.hp) x hx,rfl⟩
def qdX:SpD:=fun ds R=>∃ (rs:List Row) (sd:Std) (p:Nat) (q:Int),ds=[.tup (rs.map qbe),stD sd,.int (p:Int),.int q]∧(0≤q∧q<rs.length)∧ExB (qag rs q) sd p∧R (stD (exL (qag rs q) sd p q))
theorem qfD {n:Nat} {f:Addr} {fd:FuncData} (F:Fun K "exchanged" "exchanged" qbf f fd) {C_Stand:Addr} (T_Stand:TxtStand K mg C_Stand) (Q_growths:Cl P w K mg base (n+1) "growths" ["stand","entries"] qdZ) (Q_moved:Cl P w K mg base (n+1) "moved" ["numbers","way","shift","size","bottom"] qiu) (Q_over:Cl P w K mg base (n+1) "over" ["row","stand"] qgO) {f_Stand____init__:Addr} {d_Stand____init__:FuncData} (G_Stand____init__:FnOk P w K mg base CX0 n f_Stand____init__ d_Stand____init__ ["self","held","ways","tops","bottom"] (qbc K C_Stand)) (b_Stand____init__:Binds K d_Stand____init__ ["self","held","ways","tops","bottom"] []) (M_Stand:Mk K C_Stand f_Stand____init__) (z_abs:mg "abs"=none) (z_range:mg "range"=none) (z_tuple:mg "tuple"=none) (z_len:mg "len"=none):FnOk P w K mg base CX0 (n+2) f fd ["rows","stand","place","number"] (lSp K qdX):=by
  refine F.okD sc_exchanged (fun ds R h=>?_) (fun cdv A outer s H E ds R hr h=>?_)
  · obtain ⟨rs,sd,p,qn,rfl,_⟩:=h;rfl
  obtain ⟨rs,sd,p,qn,rfl,⟨q0,q1⟩,hx,q⟩:=h
  refine ⟨_,(qao (qaE (i:=4) sc_exchanged.nd rfl (Or.inl rfl) (qa1 (dvq 0) (dvq 3) (fun _ _=>rfl)))
      (qao (qaE (i:=5) sc_exchanged.nd rfl (Or.inl rfl) (qaq Q_growths hr rfl (qab (dv 1) (qab (qa1 (dvq 4) (PD.q qai) (fun _ _=>rfl)) qal qac) qaa) qaa (qae qac qad)))
      (qao (qaE (i:=6) sc_exchanged.nd rfl (Or.inl rfl) (qaH qlo rfl z_abs PyProof.Rows.boot_abs (qap (PD.q (qa1 (dvq 5) (dvq 2) (fun _ _=>rfl))) qav qac) qac qad))
      (qao (qaE (i:=7) sc_exchanged.nd rfl (Or.inl rfl) (qa1 (PD.q (qbQ T_Stand.cl T_Stand.n_ways T_Stand.ns (dvq 1))) (dvq 2) (fun _ _=>rfl)))
      (qbW (qcZ (qa5 qkG (PD.q (qa1 (dvq 5) (dvq 2) (fun _ _=>rfl))) (PD.q qai) (qaD _)) (qaw (qaE (i:=7) sc_exchanged.nd rfl (Or.inl rfl) (qaB qaP rfl z_tuple PyProof.Rows.boot_tuple (qap (PD.q (PF.d (qaM (k:=1) (N':=["step"]) (cap:=[none]) rfl (.ok (show qaI ["rows","stand","place","number","row","grown","size","way","ways","other","tops","held"] (qaf qbf) _ ["step"] [none]=true by decide +kernel)) (by decide +kernel) (qaC (by decide)) (qbC (dv 7)) (fun _ _ _ _ _=>(qar (i:=0) (show List.Nodup (["step"]:List Str) by decide +kernel) rfl (Or.inl rfl))) (fun _ _ _ _ _=>(qf3 (dvq 0)))))) qav qah) qah qad))) qbs)
      (qao (qjE (i:=8) sc_exchanged.nd rfl (Or.inl rfl) (qcK qal))
      (qao (qdO PassesOwn.never rfl (qa2 rfl z_range (qab (qaH qcg rfl z_len PySem.boot_len (qap (dvq 5) qav qaa) qaa qad) qal qaj)) (qar (i:=9) sc_exchanged.nd rfl (Or.inl rfl)) (qaw (qcZ (qa5 (qe3 hr.units) (dvq 9) (dvq 2) (qaD _)) (qaw (qbU 8 (dv 7) (qdD qaa) qaa)) (qaw (qbU 8 (qaq Q_moved hr rfl (qab (qa1 (PD.q (qbQ T_Stand.cl T_Stand.n_ways T_Stand.ns (dvq 1))) (dvq 9) (fun _ _=>rfl)) (qab (dv 7) (qab (qa1 (dvq 5) (dvq 9) (fun _ _=>rfl)) (qab (dv 6) (qab (qbQ T_Stand.cl T_Stand.n_bottom T_Stand.ns (dvq 1)) qal qas) qaa) qac) qaa) qac) qac (qae qaa (qae qac (qae qaa (qae qas qad))))) (qdD qaj) qaj)))))
      (qao (qaE (i:=10) sc_exchanged.nd rfl (Or.inl rfl) (qaq Q_moved hr rfl (qab (qbQ T_Stand.cl T_Stand.n_tops T_Stand.ns (dvq 1)) (qab (dv 7) (qab (qaq Q_over hr rfl (qab (dv 4) (qab (dv 1) qal qaa) qaa) qaa (qae qaa qad)) (qab (dv 6) (qab (qbQ T_Stand.cl T_Stand.n_bottom T_Stand.ns (dvq 1)) qal qas) qaa) qaj) qaa) qas) qas (qae qaa (qae qaj (qae qaa (qae qas qad))))))
      (qao (qdH (i:=11) (k:=1) (N':=["other","number","place","stand"]) (cap:=[none,some 3,some 2,some 1]) rfl sc_exchanged.nd rfl (Or.inl rfl) (.ok (show qaI ["rows","stand","place","number","row","grown","size","way","ways","other","tops","held"] (qaf qbf) _ ["other","number","place","stand"] [none,some 3,some 2,some 1]=true by decide +kernel)) (by decide +kernel) (qaC (by decide)) (qa2 rfl z_range (qab (qaH qcg rfl z_len PySem.boot_len (qap (dvq 5) qav qaa) qaa qad) qal qaj)) (fun _ _ _ _ _=>(qar (i:=0) (show List.Nodup (["other","number","place","stand"]:List Str) by decide +kernel) rfl (Or.inl rfl))) (fun _ _ _ _ _=>(qol (qa5 (qe3 hr.units) (dvq 0) (dvq 2) (qaD _)) (dv 1) (qa1 (PD.q (qbQ T_Stand.cl T_Stand.n_held T_Stand.ns (dvq 3))) (dvq 0) (fun _ _=>rfl)))))
      (qaw (qaN (qjT T_Stand.ns M_Stand G_Stand____init__ hr rfl T_Stand.mgC b_Stand____init__ qlp (qab (qaB qaP rfl z_tuple PyProof.Rows.boot_tuple (qap (dvq 11) qav qaa) qaa qad) (qab (qaB qaP rfl z_tuple PyProof.Rows.boot_tuple (qap (dvq 8) qav qaa) qaa qad) (qab (dv 10) (qab (dv 6) qal qaa) qaa) qaj) qaj) qaj (qae qaj (qae qaa (qae qaa qad))))))))))))))),?_⟩
  have hwp:=qax (d:=[]) hx.hp
  have hgl:(((sd.ways.map fun w=>dot (qag rs qn).1 w).map D.int).length:Int)=(sd.ways.length:Int):=by rw [List.length_map,List.length_map]
  have gat:∀ (o:Nat) (k:Int),o<sd.ways.length→k=(o:Int)→atI ((sd.ways.map fun w=>dot (qag rs qn).1 w).map D.int) k=some (.int (dot (qag rs qn).1 (sd.ways.getD o []))):=fun o k ho e=>qbn (i:=o) (by rw [List.getElem?_map,qaQ (d:=[]) ho];rfl) e
  have wat:∀ (o:Nat) (k:Int),o<sd.ways.length→k=(o:Int)→atI (sd.ways.map wD) k=some (wD (sd.ways.getD o [])):=fun o k ho e=>qbn (i:=o) (qaQ ho) e
  have hat:∀ (o:Nat) (k:Int),o<sd.ways.length→k=(o:Int)→atI (sd.held.map D.int) k=some (.int (sd.held.getD o 0)):=fun o k ho e=>qbn (i:=o) (qaQ (by rw [hx.hh];exact ho)) e
  obtain ⟨wb,wl⟩:=qks hx
  have hsz:qbT (szL sd (qag rs qn) p):=by
    have:=hx.gb _ hwp
    rw [qhs]
    show (((dot (qag rs qn).1 (sd.ways.getD p [])).natAbs:Int)).natAbs<_
    rw [Int.natAbs_natCast]
    exact this
  refine ⟨_,qdR q0 q1,_,rfl,sd,(qag rs qn).1,rfl,hx.sb,hx.rl,hx.rb.1,?_⟩
  refine ⟨_,gat p _ hx.hp rfl,rfl,_,qdF sd,_,wat p _ hx.hp rfl,?_⟩
  refine ⟨fun ρ=>ρ=[some (.v (.tup (rs.map qbe))),some (.v (stD sd)),some (.v (.int p)),some (.v (.int qn)),some (.v (qbe (qag rs qn))),some (.v (.tup ((sd.ways.map fun w=>dot (qag rs qn).1 w).map D.int))),some (.v (.int (szL sd (qag rs qn) p))),some (.v (wD (wyL sd (qag rs qn) p))),none,none,none,none],?_,?_⟩
  · refine ⟨_,gat p _ hx.hp rfl,fun h=>?_,fun h=>?_⟩
    · refine qaX (f:=D.int) (fun x=>-x) (qam (hx.wl _ hwp)) (fun x _=>rfl) ?_
      have e:wyL sd (qag rs qn) p=(sd.ways.getD p []).map fun x=>-x:=by unfold wyL;rw [if_pos (dP h)]
      rw [e]
      rfl
    · have e:wyL sd (qag rs qn) p=sd.ways.getD p []:=by unfold wyL;rw [if_neg (of_decide_eq_false h)]
      rw [e]
      rfl
  rintro ρ rfl
  have hwl:=hx.sb.wl
  refine ⟨⟨by omega,by omega⟩,fun i ρ=>∃ u9:Option Sl,ρ=[some (.v (.tup (rs.map qbe))),some (.v (stD sd)),some (.v (.int p)),some (.v (.int qn)),some (.v (qbe (qag rs qn))),some (.v (.tup ((sd.ways.map fun w=>dot (qag rs qn).1 w).map D.int))),some (.v (.int (szL sd (qag rs qn) p))),some (.v (wD (wyL sd (qag rs qn) p))),some (.own (((exL (qag rs qn) sd p qn).ways.take i).map wD)),u9,none,none],⟨_,rfl⟩,?_,?_⟩
  · rintro i d ρ hd ⟨u9,rfl⟩
    obtain ⟨hi,rfl⟩:=qbu hd
    have hi':i<sd.ways.length:=by omega
    have hel:(exL (qag rs qn) sd p qn).ways.length=sd.ways.length:=by show ((List.range _).map _).length=_;rw [List.length_map,List.length_range]
    have hei:(exL (qag rs qn) sd p qn).ways[i]?=some (if i=p then wyL sd (qag rs qn) p else mvL (szL sd (qag rs qn) p) (dot (qag rs qn).1 (sd.ways.getD i [])) sd.bot (sd.ways.getD i []) (wyL sd (qag rs qn) p)):=by
      show ((List.range _).map _)[i]?=_
      rw [List.getElem?_map,List.getElem?_range hi']
      rfl
    have hsn:∀ w,(exL (qag rs qn) sd p qn).ways[i]?=some w→(((exL (qag rs qn) sd p qn).ways.take i).map wD)++[wD w]=((exL (qag rs qn) sd p qn).ways.take (i+1)).map wD:=fun w hw=>by
      rw [qhg,List.take_succ,hw]
      rfl
    have hlt:(((exL (qag rs qn) sd p qn).ways.take i).map wD).length<sizeLine:=by rw [List.length_map,List.length_take];exact qam (by omega)
    by_cases c:i=p
    · subst c
      rw [if_pos rfl] at hei
      refine ⟨fun _=>⟨hlt,_,hsn _ hei,_,rfl⟩,fun h=>?_⟩
      have:((0+(i:Int)) == (i:Int))=false:=h
      rw [Int.zero_add] at this
      simp at this
    · rw [if_neg c] at hei
      refine ⟨fun h=>?_,fun _=>?_⟩
      · have:((0+(i:Int)) == (p:Int))=true:=h
        have:=eq_of_beq this
        omega
      · refine ⟨rfl,_,qdF sd,_,wat i _ hi' (by omega),_,gat i _ hi' (by omega),rfl,_,qdV sd,sd.ways.getD i [],wyL sd (qag rs qn) p,_,_,_,rfl,hx.wl _ (qax hi'),hx.sb.wb _ (qax hi'),wb,hx.gb _ (qax hi'),hsz,hx.b0,hx.b1,hlt,_,hsn _ hei,_,rfl⟩
  rintro ρ ⟨u9,rfl⟩
  have hel:(exL (qag rs qn) sd p qn).ways.length=sd.ways.length:=by show ((List.range _).map _).length=_;rw [List.length_map,List.length_range]
  refine ⟨rfl,_,qey sd,qag rs qn,sd,rfl,hx.sb,hx.rl,hx.rb,rfl,_,qdV sd,sd.tops,wyL sd (qag rs qn) p,_,_,_,rfl,hx.tl,hx.sb.tb,wb,hx.ob,hsz,hx.b0,hx.b1,⟨by omega,by omega⟩,?_⟩
  refine qa0 (fun o=>D.int (if o=p then qn else sd.held.getD o 0)) (qam (by omega)) (fun i hi=>?_) ?_
  · have hi':i<sd.ways.length:=by omega
    by_cases c:i=p
    · subst c
      refine ⟨fun _=>by rw [if_pos rfl];rfl,fun h=>?_⟩
      have:((0+(i:Int)) == (i:Int))=false:=h
      rw [Int.zero_add] at this
      simp at this
    · refine ⟨fun h=>?_,fun _=>⟨rfl,_,qdx sd,_,hat i _ hi' (by omega),by rw [if_neg c]⟩⟩
      have:((0+(i:Int)) == (p:Int))=true:=h
      have:=eq_of_beq this
      omega
  refine ⟨rfl,?_⟩
  have e0:((((sd.ways.map fun w=>dot (qag rs qn).1 w).map D.int).length:Int)).toNat=sd.ways.length:=by omega
  have e1:(exL (qag rs qn) sd p qn).ways.take sd.ways.length=(exL (qag rs qn) sd p qn).ways:=List.take_of_length_le (by omega)
  have e2:(List.range sd.ways.length).map (fun o=>D.int (if o=p then qn else sd.held.getD o 0))=(exL (qag rs qn) sd p qn).held.map D.int:=by
    show _=((List.range _).map _).map _
    rw [List.map_map]
    rfl
  show R (.obj "Stand" [("held",.tup _),("ways",.tup _),("tops",.tup _),("bottom",.int _)])
  rw [qaZ,e0,e1,e2]
  exact q
def qbv:SpD:=fun ds R=>∃ a b:Int,ds=[.int a,.int b]∧R (.int (Int.gcd a b))
theorem qc8 {n:Nat} {f:Addr} {fd:FuncData} (F:Fun K "common_of_two" "common_of_two" qbb f fd) (z_abs:mg "abs"=none):FnOk P w K mg base CX0 (n+1) f fd ["one","other"] (lSp K qbv):=by
  refine F.okD sc_common_of_two (fun ds R h=>?_) (fun cdv A outer s H E ds R hr h=>?_)
  · obtain ⟨a,b,rfl,_⟩:=h;rfl
  obtain ⟨a,b,rfl,q⟩:=h
  refine ⟨_,(qao (qaE (i:=2) sc_common_of_two.nd rfl (Or.inl rfl) (qaH qlo rfl z_abs PyProof.Rows.boot_abs (qap (dvq 0) qav qaa) qaa qad))
      (qao (qaE (i:=3) sc_common_of_two.nd rfl (Or.inl rfl) (qaH qlo rfl z_abs PyProof.Rows.boot_abs (qap (dvq 1) qav qaa) qaa qad))
      (qao (qfW PassesOwn.never (qa5 (qnS hr.units) (dvq 3) (PD.q qai) (qaD _)) (qao (qaE (i:=4) sc_common_of_two.nd rfl (Or.inl rfl) (qa3 qg3 (dvq 2) (dvq 3)))
      (qao (qaE (i:=2) sc_common_of_two.nd rfl (Or.inl rfl) (dv 3))
      (qaw (qaE (i:=3) sc_common_of_two.nd rfl (Or.inl rfl) (dv 4))))))
      (qaw (qaN (dv 2)))))),?_⟩
  refine ⟨fun m ρ=>∃ (g l:Int) (u4:Option Sl),ρ=[some (.v (.int a)),some (.v (.int b)),some (.v (.int g)),some (.v (.int l)),u4]∧m=l.toNat∧0≤g∧0≤l∧Int.gcd g l=Int.gcd a b,⟨_,_,_,_,rfl,rfl,by split <;> omega,by split <;> omega,?_⟩,?_⟩
  · have h1:∀ x:Int,(if x<0 then -x else x)=(x.natAbs:Int):=fun x=>by split <;> omega
    rw [h1,h1]
    unfold Int.gcd
    simp
  rintro m ρ ⟨g,l,u4,rfl,rfl,hg,hl,e⟩
  refine ⟨fun h=>?_,fun h=>?_⟩
  · have hne:l≠0:=fun e0=>by rw [e0] at h;cases h
    have hl':0<l:=by omega
    have h1:=Int.emod_lt_of_pos g hl'
    have h2:=Int.emod_nonneg g (b:=l) (by omega)
    exact ⟨hl',(g % l).toNat,by omega,l,g % l,_,rfl,rfl,hl,h2,(qiX hg hl').trans e⟩
  · have h0:l=0:=by
      have:(!(l == 0))=false:=h
      simp at this
      exact this
    subst h0
    have e2:g=(Int.gcd a b:Int):=by
      rw [← e]
      simp
      omega
    rw [e2]
    exact q
def asT:D→D
  | .lst l=>.tup l
  | d=>d
theorem qgb {d:D} {l:List D} (h:asT d=.tup l):d=.tup l∨d=.lst l:=by
  cases d with
  | tup m=>exact .inl h
  | lst m=>refine .inr ?_;cases h;rfl
  | _=>cases h
theorem qnq {ds:List D} {l:List D} (e:ds.map asT=[.tup l]):ds=[.tup l]∨ds=[.lst l]:=by
  have h:=congrArg List.length e
  rw [List.length_map] at h
  match ds,h,e with
  | [d1],_,e =>
    rcases qgb (List.cons.inj e).1 with rfl | rfl
    · exact .inl rfl
    · exact .inr rfl
def qdc:SpD:=fun ds R=>∃ ns:List Int,ds.map asT=[.tup (ns.map D.int)]∧R (.int (qa6 ns))
theorem qiA {n:Nat} {f:Addr} {fd:FuncData} (F:Fun K "common" "common" qdb f fd) (Q_common_of_two:Cl P w K mg base n "common_of_two" ["one","other"] qbv):FnOk P w K mg base CX0 (n+1) f fd ["numbers"] (lSp K qdc):=by
  refine F.okD sc_common (fun ds R h=>?_) (fun cdv A outer s H E ds R hr h=>?_)
  · obtain ⟨ns,e,_⟩:=h
    rcases qnq e with rfl | rfl <;> rfl
  obtain ⟨ns,e,q⟩:=h
  rcases qnq e with rfl | rfl
  · refine ⟨_,(qao (qaE (i:=1) sc_common.nd rfl (Or.inl rfl) qai)
      (qao (qdO PassesOwn.never rfl (qbC (dv 0)) (qar (i:=2) sc_common.nd rfl (Or.inl rfl)) (qaw (qaE (i:=1) sc_common.nd rfl (Or.inl rfl) (qaq Q_common_of_two hr rfl (qab (dv 2) (qab (dv 1) qal qaa) qaa) qaa (qae qaa qad)))))
      (qaw (qaN (dv 1))))),?_⟩
    refine ⟨fun i ρ=>∃ u2:Option Sl,ρ=[some (.v (.tup (ns.map D.int))),some (.v (.int (qa6 (ns.take i)))),u2],⟨_,rfl⟩,?_,?_⟩
    · rintro i d ρ hd ⟨u2,rfl⟩
      obtain ⟨k,rfl,hk⟩:=qbB hd
      refine ⟨_,_,rfl,some (.v (.int k)),?_⟩
      rw [qb8 hk,qdq]
      rfl
    · rintro ρ ⟨u2,rfl⟩
      rw [List.length_map,List.take_length]
      exact q
  · refine ⟨_,(qao (qaE (i:=1) sc_common.nd rfl (Or.inl rfl) qai)
      (qao (qdO PassesOwn.never rfl (qbC (dv 0)) (qar (i:=2) sc_common.nd rfl (Or.inl rfl)) (qaw (qaE (i:=1) sc_common.nd rfl (Or.inl rfl) (qaq Q_common_of_two hr rfl (qab (dv 2) (qab (dv 1) qal qaa) qaa) qaa (qae qaa qad)))))
      (qaw (qaN (dv 1))))),?_⟩
    refine ⟨fun i ρ=>∃ u2:Option Sl,ρ=[some (.v (.lst (ns.map D.int))),some (.v (.int (qa6 (ns.take i)))),u2],⟨_,rfl⟩,?_,?_⟩
    · rintro i d ρ hd ⟨u2,rfl⟩
      obtain ⟨k,rfl,hk⟩:=qbB hd
      refine ⟨_,_,rfl,some (.v (.int k)),?_⟩
      rw [qb8 hk,qdq]
      rfl
    · rintro ρ ⟨u2,rfl⟩
      rw [List.length_map,List.take_length]
      exact q
def qbS (ts:List Int) (b:Int):Int:=Int.gcd (qa6 ts) b
def qde:SpD:=fun ds R=>∃ (ts:List Int) (b:Int),ds=[.tup (ts.map D.int),.int b]∧0<b∧b<2 ^ 9000∧ts.length≤1000∧R (.tup [.tup ((ts.map (· / qbS ts b)).map D.int),.int (b / qbS ts b)])
theorem qhZ {n:Nat} {f:Addr} {fd:FuncData} (F:Fun K "lowest" "lowest" qcB f fd) (Q_common_of_two:Cl P w K mg base n "common_of_two" ["one","other"] qbv) (Q_common:Cl P w K mg base n "common" ["numbers"] qdc) (z_tuple:mg "tuple"=none):FnOk P w K mg base CX0 (n+1) f fd ["tops","bottom"] (lSp K qde):=by
  refine F.okD sc_lowest (fun ds R h=>?_) (fun cdv A outer s H E ds R hr h=>?_)
  · obtain ⟨ts,b,rfl,_⟩:=h;rfl
  obtain ⟨ts,b,rfl,b0,b1,hl,q⟩:=h
  refine ⟨_,(qbW (qcZ (qa5 qkG (dvq 1) (PD.q qai) (qaD _)) (qaw qkA) qbs)
      (qao (qaE (i:=2) sc_lowest.nd rfl (Or.inr rfl) (qaq Q_common_of_two hr rfl (qab (qaq Q_common hr rfl (qab (dv 0) qal qaa) qaa qad) (qab (dv 1) qal qaa) qaj) qaj (qae qaa qad)))
      (qaw (qaN (qcc (qab (qaB qaP rfl z_tuple PyProof.Rows.boot_tuple (qap (PD.q (PF.d (qaM (k:=1) (N':=["top","divisor"]) (cap:=[none,some 2]) rfl (.ok (show qaI ["tops","bottom","divisor"] (qaf qcB) _ ["top","divisor"] [none,some 2]=true by decide +kernel)) (by decide +kernel) (qaC (by decide)) (qbC (dv 0)) (fun _ _ _ _ _=>(qar (i:=0) (show List.Nodup (["top","divisor"]:List Str) by decide +kernel) rfl (Or.inl rfl))) (fun _ _ _ _ _=>(qa3 qcW (dvq 0) (dvq 1)))))) qav qah) qah qad) (qab (qa3 qcW (dvq 1) (dvq 2)) qal qaz) qaj)))))),?_⟩
  have hd0:0<qbS ts b:=by
    unfold qbS
    have:=Int.gcd_pos_of_ne_zero_right (qa6 ts) (show b≠0 by omega)
    omega
  have hd1:qbS ts b<2 ^ 9000:=by
    have:qbS ts b≤b:=by
      unfold qbS
      exact Int.le_of_dvd b0 (Int.gcd_dvd_right ..)
    omega
  refine ⟨fun ρ=>ρ=[some (.v (.tup (ts.map D.int))),some (.v (.int b)),none],⟨fun h=>?_,fun _=>rfl⟩,?_⟩
  · have:=dP h
    omega
  rintro ρ rfl
  refine ⟨ts,rfl,qa6 ts,b,rfl,?_⟩
  refine qaX (f:=D.int) (fun x=>x / qbS ts b) (qam hl) (fun x _=>⟨CDivB.of hd0 hd1,rfl⟩) ?_
  exact ⟨CDivB.of hd0 hd1,q⟩
def qji (c:Nat→Bool) (h:Nat→D) (i:Nat):Option D→Prop
  | some y=>y=h i∧c i=true
  | none=>c i=false
theorem qcQ {c:Nat→Bool} {h:Nat→D} {n:Nat} {ys:List (Option D)} (hyl:ys.length=n) (hy:∀ i y,ys[i]?=some y→qji c h i y):ys.filterMap id=((List.range n).filter c).map h:=by
  have e:ys=(List.range n).map fun i=>if c i then some (h i) else none:=by
    refine List.ext_getElem? fun i=>?_
    rw [List.getElem?_map]
    by_cases hi:i<n
    · rw [List.getElem?_range hi,qaA (show i<ys.length by omega)]
      have q:=hy i _ (qaA (show i<ys.length by omega))
      cases e:ys[i]'(by omega) with
      | none =>
        rw [e] at q
        have q':c i=false:=q
        show some none=some (if c i=true then _ else _)
        rw [q']
        rfl
      | some y =>
        rw [e] at q
        have q':y=h i∧c i=true:=q
        show some (some y)=some (if c i=true then _ else _)
        rw [q'.2,q'.1]
        rfl
    · rw [List.getElem?_eq_none (by omega),List.getElem?_eq_none (by rw [List.length_range];omega)]
      rfl
  have key:∀ l:List Nat,(l.map fun i=>if c i then some (h i) else none).filterMap id=(l.filter c).map h:=by
    intro l
    induction l with
    | nil=>rfl
    | cons x l ih =>
      rw [List.map_cons]
      cases e:c x with
      | true=>rw [if_pos rfl,List.filterMap_cons_some (f:=id) (a:=some (h x)) (b:=h x) rfl,List.filter_cons_of_pos e,List.map_cons,ih]
      | false=>rw [if_neg (by decide),List.filterMap_cons_none (f:=id) (a:=none) rfl,List.filter_cons_of_neg (by rw [e];decide),ih]
  rw [e,key]
def qbX (sd:Std) (gs:List Int):List (Int × Int):=((List.range gs.length).filter fun i=>decide (gs.getD i 0<0)).map fun i=>(sd.held.getD i 0,- gs.getD i 0)
def qeE:SpD:=fun ds R=>∃ (sd:Std) (gs:List Int),ds=[stD sd,.tup (gs.map D.int)]∧gs.length≤1000∧sd.held.length=gs.length∧R (.lst ((qbX sd gs).map prD))
theorem qik {n:Nat} {f:Addr} {fd:FuncData} (F:Fun K "fallen" "fallen" qcw f fd) {C_Stand:Addr} (T_Stand:TxtStand K mg C_Stand) (z_range:mg "range"=none) (z_len:mg "len"=none):FnOk P w K mg base CX0 (n+1) f fd ["stand","grown"] (lSp K qeE):=by
  refine F.okD qhX (fun ds R h=>?_) (fun cdv A outer s H E ds R hr h=>?_)
  · obtain ⟨sd,gs,rfl,_⟩:=h;rfl
  obtain ⟨sd,gs,rfl,hl,hh,q⟩:=h
  refine ⟨_,(qaw (qaN (PF.d (qnl (k:=1) (N':=["place","stand","grown"]) (cap:=[none,some 0,some 1]) rfl (.ok (show qaI ["stand","grown"] (qaf qcw) _ ["place","stand","grown"] [none,some 0,some 1]=true by decide +kernel)) (by decide +kernel) (qaC (by decide)) (qa2 rfl z_range (qab (qaH qcg rfl z_len PySem.boot_len (qap (dvq 1) qav qaa) qaa qad) qal qaj)) (fun _ _ _ _ _=>(qar (i:=0) (show List.Nodup (["place","stand","grown"]:List Str) by decide +kernel) rfl (Or.inl rfl))) (fun _ _ _ _ _=>(qhF (qa5 qkG (PD.q (qa1 (dvq 2) (dvq 0) (fun _ _=>rfl))) (PD.q qai) (qaD _)))) (fun _ _ _ _ _=>(qcc (qab (qa1 (PD.q (qbQ T_Stand.cl T_Stand.n_held T_Stand.ns (dvq 1))) (dvq 0) (fun _ _=>rfl)) (qab (qf3 (PD.q (qa1 (dvq 2) (dvq 0) (fun _ _=>rfl)))) qal qhh) qac))))))),?_⟩
  have gat:∀ (o:Nat) (k:Int),o<gs.length→k=(o:Int)→atI (gs.map D.int) k=some (.int (gs.getD o 0)):=fun o k ho e=>qbn (i:=o) (qaQ ho) e
  have hat:∀ (o:Nat) (k:Int),o<gs.length→k=(o:Int)→atI (sd.held.map D.int) k=some (.int (sd.held.getD o 0)):=fun o k ho e=>qbn (i:=o) (qaQ (by rw [hh];exact ho)) e
  have hgl:(((gs.map D.int).length:Nat):Int)=(gs.length:Int):=by rw [List.length_map]
  refine ⟨⟨by omega,by omega⟩,?_⟩
  refine ⟨by rw [qaZ];exact qam (by omega),qji (fun i=>decide (gs.getD i 0<0)) (fun i=>prD (sd.held.getD i 0,- gs.getD i 0)),fun i d hd=>?_,fun ys hyl hy=>?_⟩
  · obtain ⟨hi,rfl⟩:=qbu hd
    have hi':i<gs.length:=by omega
    refine ⟨_,gat i _ hi' (by omega),fun h=>?_,fun h=>h⟩
    exact ⟨rfl,_,qdx sd,_,hat i _ hi' (by omega),_,gat i _ hi' (by omega),rfl,h⟩
  · rw [qaZ] at hyl
    have e0:(((gs.map D.int).length:Int)).toNat=gs.length:=by omega
    rw [qcQ hyl hy,e0]
    have e1:(qbX sd gs).map prD=((List.range gs.length).filter fun i=>decide (gs.getD i 0<0)).map fun i=>prD (sd.held.getD i 0,- gs.getD i 0):=by
      unfold qbX
      rw [List.map_map]
      rfl
    rw [e1] at q
    exact q
def qcq:SpD:=fun ds R=>∃ (ps:List (Int × Int)) (b:Int),ds=[.lst (ps.map prD),.int b]∧0<b∧b<2 ^ 9000∧ps.length≤1000∧R (.tup [.lst ((ps.map fun p=>(p.1,p.2 / qbS (ps.map (·.2)) b)).map prD),.int (b / qbS (ps.map (·.2)) b)])
theorem qfw {n:Nat} {f:Addr} {fd:FuncData} (F:Fun K "in_lowest" "in_lowest" qbh f fd) (Q_lowest:Cl P w K mg base n "lowest" ["tops","bottom"] qde) (z_tuple:mg "tuple"=none) (z_zip:mg "zip"=none):FnOk P w K mg base CX0 (n+1) f fd ["pairs","bottom"] (lSp K qcq):=by
  refine F.okD sc_in_lowest (fun ds R h=>?_) (fun cdv A outer s H E ds R hr h=>?_)
  · obtain ⟨ps,b,rfl,_⟩:=h;rfl
  obtain ⟨ps,b,rfl,b0,b1,hl,q⟩:=h
  refine ⟨_,(qao (qaE (i:=2) sc_in_lowest.nd rfl (Or.inl rfl) (qaq Q_lowest hr rfl (qab (qaB qaP rfl z_tuple PyProof.Rows.boot_tuple (qap (PD.q (PF.d (qaM (k:=1) (N':=["pair"]) (cap:=[none]) rfl (.ok (show qaI ["pairs","bottom","reduced"] (qaf qbh) _ ["pair"] [none]=true by decide +kernel)) (by decide +kernel) (qaC (by decide)) (qbC (dv 0)) (fun _ _ _ _ _=>(qar (i:=0) (show List.Nodup (["pair"]:List Str) by decide +kernel) rfl (Or.inl rfl))) (fun _ _ _ _ _=>(qa1 (dvq 0) (PD.q qai) (fun _ _=>rfl)))))) qav qah) qah qad) (qab (dv 1) qal qaa) qaj) qaj (qae qaa qad)))
      (qaw (qaN (qcc (qab (PF.d (qaM (k:=2) (N':=["pair","weight"]) (cap:=[none,none]) rfl (.ok (show qaI ["pairs","bottom","reduced"] (qaf qbh) _ ["pair","weight"] [none,none]=true by decide +kernel)) (by decide +kernel) (qc5 (n:=2) (qa4 (qaC (by decide)) (qa4 (qaC (by decide)) qc2))) (qdz rfl z_zip (qab (dv 0) (qab (qa1 (dvq 2) (PD.q qai) (fun _ _=>rfl)) qal qac) qaa)) (fun _ _ _ _ _=>(qcT (n:=2) rfl (qaJ (qar (i:=0) (show List.Nodup (["pair","weight"]:List Str) by decide +kernel) rfl (Or.inl rfl)) (qaJ (qar (i:=1) (show List.Nodup (["pair","weight"]:List Str) by decide +kernel) rfl (Or.inl rfl)) qbO)))) (fun _ _ _ _ _=>(qcc (qab (qa1 (dvq 0) (PD.q qai) (fun _ _=>rfl)) (qab (dv 1) qal qaa) qac))))) (qab (qa1 (dvq 2) (PD.q qai) (fun _ _=>rfl)) qal qac) qah))))),?_⟩
  refine qaX (f:=prD) (fun p=>p.2) (qam hl) (fun p _=>⟨_,rfl,rfl⟩) ?_
  refine ⟨ps.map (fun p=>p.2),b,rfl,b0,b1,by rw [List.length_map];exact hl,?_⟩
  refine ⟨_,rfl,_,_,rfl,rfl,?_⟩
  refine qbt (f:=prD) (h:=D.int) (fun p w=>prD (p.1,w)) (qam hl) (fun p _ w _=>⟨rfl,_,rfl,rfl⟩) ?_
  have e:List.zipWith (fun (p:Int × Int) (w:Int)=>prD (p.1,w)) ps ((ps.map (fun p=>p.2)).map (· / qbS (ps.map (fun p=>p.2)) b))=(ps.map fun p=>(p.1,p.2 / qbS (ps.map (·.2)) b)).map prD:=by
    generalize qbS (ps.map (fun p=>p.2)) b=d
    have key:∀ l:List (Int × Int),List.zipWith (fun (p:Int × Int) (w:Int)=>prD (p.1,w)) l ((l.map (fun p=>p.2)).map (· / d))=(l.map fun p=>(p.1,p.2 / d)).map prD:=by
      intro l
      induction l with
      | nil=>rfl
      | cons p t ih =>
        rw [List.map_cons,List.map_cons,List.zipWith_cons_cons,List.map_cons,List.map_cons,ih]
    exact key ps
  rw [e]
  exact ⟨_,rfl,q⟩
def unL (n k:Nat):List Int:=(List.range n).map fun o=>if o=k then 1 else 0
def qjU:SpD:=fun ds R=>∃ n k:Nat,ds=[.int (n:Int),.int (k:Int)]∧n≤1000∧R (wD (unL n k))
theorem qlq {n:Nat} {f:Addr} {fd:FuncData} (F:Fun K "unit" "unit" qfA f fd) (z_tuple:mg "tuple"=none) (z_range:mg "range"=none):FnOk P w K mg base CX0 (n+1) f fd ["n","place"] (lSp K qjU):=by
  refine F.okD qkr (fun ds R h=>?_) (fun cdv A outer s H E ds R hr h=>?_)
  · obtain ⟨m,k,rfl,_⟩:=h;rfl
  obtain ⟨m,k,rfl,hm,q⟩:=h
  refine ⟨_,(qaw (qaN (qaB qaP rfl z_tuple PyProof.Rows.boot_tuple (qap (PD.q (PF.d (qaM (k:=1) (N':=["other","place"]) (cap:=[none,some 1]) rfl (.ok (show qaI ["n","place"] (qaf qfA) _ ["other","place"] [none,some 1]=true by decide +kernel)) (by decide +kernel) (qaC (by decide)) (qa2 rfl z_range (qab (dv 0) qal qaa)) (fun _ _ _ _ _=>(qar (i:=0) (show List.Nodup (["other","place"]:List Str) by decide +kernel) rfl (Or.inl rfl))) (fun _ _ _ _ _=>(qol (qa5 (qe3 hr.units) (dvq 0) (dvq 1) (qaD _)) qai qai))))) qav qah) qah qad))),?_⟩
  refine ⟨⟨by omega,by omega⟩,?_⟩
  refine qa0 (fun o=>D.int (if o=k then 1 else 0)) (qam (by omega)) (fun i hi=>?_) ?_
  · by_cases c:i=k
    · subst c
      refine ⟨fun _=>by rw [if_pos rfl];rfl,fun h=>?_⟩
      have:((0+(i:Int)) == (i:Int))=false:=h
      rw [Int.zero_add] at this
      simp at this
    · refine ⟨fun h=>?_,fun _=>by rw [if_neg c];rfl⟩
      have:((0+(i:Int)) == (k:Int))=true:=h
      have:=eq_of_beq this
      omega
  have e:(List.range ((m:Int)).toNat).map (fun o=>D.int (if o=k then 1 else 0))=(unL m k).map D.int:=by
    unfold unL
    rw [List.map_map,Int.toNat_natCast]
    rfl
  rw [e]
  exact q
def qjD (rs:List Row) (n:Nat):Std where
  held:=(List.range n).map fun (i:Nat)=>(i:Int)
  ways:=(List.range n).map fun k=>unL n k
  tops:=(List.range n).map fun (k:Nat)=>(qag rs (k:Int)).2
  bot:=1
def qdP:SpD:=fun ds R=>∃ (rs:List Row) (n:Nat),ds=[.tup (rs.map qbe),.int (n:Int)]∧n≤1000∧n≤rs.length∧R (stD (qjD rs n))
theorem qfz {n:Nat} {f:Addr} {fd:FuncData} (F:Fun K "beginning" "beginning" qbg f fd) {C_Stand:Addr} (T_Stand:TxtStand K mg C_Stand) (Q_unit:Cl P w K mg base (n+1) "unit" ["n","place"] qjU) {f_Stand____init__:Addr} {d_Stand____init__:FuncData} (G_Stand____init__:FnOk P w K mg base CX0 n f_Stand____init__ d_Stand____init__ ["self","held","ways","tops","bottom"] (qbc K C_Stand)) (b_Stand____init__:Binds K d_Stand____init__ ["self","held","ways","tops","bottom"] []) (M_Stand:Mk K C_Stand f_Stand____init__) (z_tuple:mg "tuple"=none) (z_range:mg "range"=none):FnOk P w K mg base CX0 (n+2) f fd ["rows","n"] (lSp K qdP):=by
  refine F.okD sc_beginning (fun ds R h=>?_) (fun cdv A outer s H E ds R hr h=>?_)
  · obtain ⟨rs,m,rfl,_⟩:=h;rfl
  obtain ⟨rs,m,rfl,hm,hl,q⟩:=h
  refine ⟨_,(qao (qaE (i:=2) sc_beginning.nd rfl (Or.inl rfl) (qaB qaP rfl z_tuple PyProof.Rows.boot_tuple (qap (PD.q (PF.d (qaM (k:=1) (N':=["place","n"]) (cap:=[none,some 1]) rfl (.ok (show qaI ["rows","n","ways","tops"] (qaf qbg) _ ["place","n"] [none,some 1]=true by decide +kernel)) (by decide +kernel) (qaC (by decide)) (qa2 rfl z_range (qab (dv 1) qal qaa)) (fun _ _ _ _ _=>(qar (i:=0) (show List.Nodup (["place","n"]:List Str) by decide +kernel) rfl (Or.inl rfl))) (fun _ _ _ _ _=>(qaq Q_unit hr rfl (qab (dv 1) (qab (dv 0) qal qaa) qaa) qaa (qae qaa qad)))))) qav qah) qah qad))
      (qao (qaE (i:=3) sc_beginning.nd rfl (Or.inl rfl) (qaB qaP rfl z_tuple PyProof.Rows.boot_tuple (qap (PD.q (PF.d (qaM (k:=1) (N':=["place","rows"]) (cap:=[none,some 0]) rfl (.ok (show qaI ["rows","n","ways","tops"] (qaf qbg) _ ["place","rows"] [none,some 0]=true by decide +kernel)) (by decide +kernel) (qaC (by decide)) (qa2 rfl z_range (qab (dv 1) qal qaa)) (fun _ _ _ _ _=>(qar (i:=0) (show List.Nodup (["place","rows"]:List Str) by decide +kernel) rfl (Or.inl rfl))) (fun _ _ _ _ _=>(qa1 (PD.q (qa1 (dvq 1) (dvq 0) (fun _ _=>rfl))) (PD.q qai) (fun _ _=>rfl)))))) qav qah) qah qad))
      (qaw (qaN (qjT T_Stand.ns M_Stand G_Stand____init__ hr rfl T_Stand.mgC b_Stand____init__ qlp (qab (qen rfl rfl z_tuple rfl z_range (qab (dv 1) qal qaa)) (qab (dv 2) (qab (dv 3) (qab qai qal qak) qaa) qaa) qaj) qaj (qae qaa (qae qaa (qae qak qad)))))))),?_⟩
  refine ⟨⟨by omega,by omega⟩,?_⟩
  refine qa0 (fun k=>wD (unL m k)) (qam (by omega)) (fun i hi=>⟨m,i,by rw [Int.zero_add],hm,rfl⟩) ?_
  refine ⟨⟨by omega,by omega⟩,?_⟩
  refine qa0 (fun (k:Nat)=>D.int (qag rs (k:Int)).2) (qam (by omega)) (fun i hi=>⟨_,qdR (by omega) (by omega),_,rfl,by rw [Int.zero_add]⟩) ?_
  refine ⟨⟨by omega,by omega⟩,rfl,?_⟩
  have e0:((m:Int)).toNat=m:=Int.toNat_natCast m
  have e1:(List.range m).map (fun k=>wD (unL m k))=(qjD rs m).ways.map wD:=by
    show _=((List.range _).map _).map _
    rw [List.map_map]
    rfl
  have e2:(List.range m).map (fun (k:Nat)=>D.int (qag rs (k:Int)).2)=(qjD rs m).tops.map D.int:=by
    show _=((List.range _).map _).map _
    rw [List.map_map]
    rfl
  have e3:qbz 0 m=(qjD rs m).held.map D.int:=by
    show _=((List.range _).map _).map _
    unfold qbz
    rw [List.map_map]
    exact List.map_congr_left fun i _=>by show D.int (0+(i:Int))=D.int (i:Int);rw [Int.zero_add]
  show R (.obj "Stand" [("held",.tup _),("ways",.tup _),("tops",.tup _),("bottom",.int 1)])
  rw [e0,e1,e2,e3]
  exact q
def qcF (ts:List Int) (b:Int):Row:=(ts.map (· / qbS ts b),b / qbS ts b)
def qb2:SpD:=fun ds R=>∃ (sd:Std) (way:List Int),ds=[stD sd,.tup (way.map D.int)]∧sd.tops.length≤1000∧0<sd.bot∧sd.bot<2 ^ 9000∧way.length≤1000∧0<qa6 way∧qa6 way<2 ^ 9000∧R (.tup [.str "endless",qbe (qcF sd.tops sd.bot),.tup ((way.map (· / qa6 way)).map D.int)])
theorem qcL {n:Nat} {f:Addr} {fd:FuncData} (F:Fun K "endless_ending" "endless_ending" qaY f fd) {C_Stand:Addr} (T_Stand:TxtStand K mg C_Stand) (Q_common:Cl P w K mg base n "common" ["numbers"] qdc) (Q_lowest:Cl P w K mg base n "lowest" ["tops","bottom"] qde) (z_tuple:mg "tuple"=none):FnOk P w K mg base CX0 (n+1) f fd ["stand","way"] (lSp K qb2):=by
  refine F.okD sc_endless_ending (fun ds R h=>?_) (fun cdv A outer s H E ds R hr h=>?_)
  · obtain ⟨sd,way,rfl,_⟩:=h;rfl
  obtain ⟨sd,way,rfl,tl,b0,b1,wl,g0,g1,q⟩:=h
  refine ⟨_,(qao (qaE (i:=2) sc_endless_ending.nd rfl (Or.inr rfl) (qaq Q_common hr rfl (qab (dv 1) qal qaa) qaa qad))
      (qaw (qaN (qcc (qab qdI (qab (qaq Q_lowest hr rfl (qab (qbQ T_Stand.cl T_Stand.n_tops T_Stand.ns (dvq 0)) (qab (qbQ T_Stand.cl T_Stand.n_bottom T_Stand.ns (dvq 0)) qal qas) qas) qas (qae qas qad)) (qab (qaB qaP rfl z_tuple PyProof.Rows.boot_tuple (qap (PD.q (PF.d (qaM (k:=1) (N':=["step","divisor"]) (cap:=[none,some 2]) rfl (.ok (show qaI ["stand","way","divisor"] (qaf qaY) _ ["step","divisor"] [none,some 2]=true by decide +kernel)) (by decide +kernel) (qaC (by decide)) (qbC (dv 1)) (fun _ _ _ _ _=>(qar (i:=0) (show List.Nodup (["step","divisor"]:List Str) by decide +kernel) rfl (Or.inl rfl))) (fun _ _ _ _ _=>(qa3 qcW (dvq 0) (dvq 1)))))) qav qah) qah qad) qal qaj) qaj) qak))))),?_⟩
  refine ⟨way,rfl,rfl,_,qey sd,rfl,_,qdV sd,sd.tops,sd.bot,rfl,b0,b1,tl,?_⟩
  refine qaX (f:=D.int) (fun x=>x / qa6 way) (qam wl) (fun x _=>⟨CDivB.of g0 g1,rfl⟩) ?_
  exact q
def qoK:Option Nat→D
  | none=>.non
  | some k=>.int (k:Int)
def Lg (sd:Std) (gs:List Int):Option Nat→Prop
  | none=>∀ i,i<gs.length→gs.getD i 0≤0
  | some p=>p<gs.length∧0<gs.getD p 0∧∀ j,j<gs.length→0<gs.getD j 0→sd.held.getD p 0≤sd.held.getD j 0
def qcD:SpD:=fun ds R=>∃ (sd:Std) (gs:List Int),ds=[stD sd,.tup (gs.map D.int)]∧gs.length≤1000∧sd.held.length=gs.length∧∀ o,Lg sd gs o→R (qoK o)
theorem qd6 {n:Nat} {f:Addr} {fd:FuncData} (F:Fun K "least_grown" "least_grown" qay f fd) {C_Stand:Addr} (T_Stand:TxtStand K mg C_Stand) (z_min:mg "min"=none) (z_range:mg "range"=none) (z_len:mg "len"=none) {cL PL:Addr} (L_least_grown:LamT K "least_grown" fd cL PL ⟨57,27,57,58⟩):FnOk P w K mg base CX0 (n+2) f fd ["stand","grown"] (lSp K qcD):=by
  refine F.okDL sc_least_grown (fun ds R h=>?_) (fun cdv A outer s H E ds R hcd hr h=>?_)
  · obtain ⟨sd,gs,rfl,_⟩:=h;rfl
  obtain ⟨sd,gs,rfl,hl,hh,q⟩:=h
  refine ⟨_,(qao (qka (i:=2) (k:=1) (N':=["place","grown"]) (cap:=[none,some 1]) rfl sc_least_grown.nd rfl (Or.inl rfl) (.ok (show qaI ["stand","grown","places"] (qaf qay) _ ["place","grown"] [none,some 1]=true by decide +kernel)) (by decide +kernel) (qaC (by decide)) (qa2 rfl z_range (qab (qaH qcg rfl z_len PySem.boot_len (qap (dvq 1) qav qaa) qaa qad) qal qaj)) (fun _ _ _ _ _=>(qar (i:=0) (show List.Nodup (["place","grown"]:List Str) by decide +kernel) rfl (Or.inl rfl))) (fun _ _ _ _ _=>(qhF (qa5 qkY (PD.q (qa1 (dvq 1) (dvq 0) (fun _ _=>rfl))) (PD.q qai) (qaD _)))) (fun _ _ _ _ _=>(dv 0)))
      (qaw (qaN (qjI (p:="place") (r:=["stand"]) (cap:=[some 0]) (hr.mono (by omega)) rfl z_min (dvq 2) (.ok (show qaI ["stand","grown","places"] (qaf qay) _ ["place","stand"] [none,some 0]=true by decide +kernel)) (by decide +kernel) rfl rfl rfl rfl (fun _ _ _ _ _ _=>rfl) (hcd.symm.trans L_least_grown.code) L_least_grown.hd L_least_grown.tab (fun _ _ _ _ _ _=>(qa1 (PD.q (qbQ T_Stand.cl T_Stand.n_held T_Stand.ns (dvq 1))) (dvq 0) (fun _ _=>rfl))) qaa)))),?_⟩
  have gat:∀ (o:Nat) (k:Int),o<gs.length→k=(o:Int)→atI (gs.map D.int) k=some (.int (gs.getD o 0)):=fun o k ho e=>qbn (i:=o) (qaQ ho) e
  have hat:∀ (o:Nat) (k:Int),o<gs.length→k=(o:Int)→atI (sd.held.map D.int) k=some (.int (sd.held.getD o 0)):=fun o k ho e=>qbn (i:=o) (qaQ (by rw [hh];exact ho)) e
  have hgl:(((gs.map D.int).length:Nat):Int)=(gs.length:Int):=by rw [List.length_map]
  refine ⟨⟨by omega,by omega⟩,?_⟩
  refine ⟨by rw [qaZ];exact qam (by omega),qji (fun i=>decide (0<gs.getD i 0)) (fun i=>D.int (i:Int)),fun i d hd=>?_,fun ys hyl hy=>?_⟩
  · obtain ⟨hi,rfl⟩:=qbu hd
    have hi':i<gs.length:=by omega
    refine ⟨_,gat i _ hi' (by omega),fun h=>?_,fun h=>h⟩
    exact ⟨by rw [Int.zero_add],h⟩
  · rw [qaZ] at hyl
    have e0:(((gs.map D.int).length:Int)).toNat=gs.length:=by omega
    rw [qcQ hyl hy,e0]
    have hin:∀ (i:Nat) (e:D),(((List.range gs.length).filter fun i=>decide (0<gs.getD i 0)).map fun (i:Nat)=>D.int (i:Int))[i]?=some e→∃ k:Nat,e=.int (k:Int)∧((List.range gs.length).filter fun i=>decide (0<gs.getD i 0))[i]?=some k∧k<gs.length∧0<gs.getD k 0:=fun i e he=>by
      obtain ⟨k,rfl,hk⟩:=qbB he
      have:=List.mem_filter.mp (List.mem_of_getElem? hk)
      exact ⟨k,rfl,hk,List.mem_range.mp this.1,of_decide_eq_true this.2⟩
    refine ⟨fun i=>sd.held.getD (((List.range gs.length).filter fun i=>decide (0<gs.getD i 0)).getD i 0) 0,fun i e he=>?_,fun hn=>?_,fun i e he hb=>?_⟩
    · obtain ⟨k,rfl,hk,hkl,hkg⟩:=hin i e he
      have e1:((List.range gs.length).filter fun i=>decide (0<gs.getD i 0)).getD i 0=k:=by rw [List.getD_eq_getElem?_getD,hk];rfl
      exact ⟨rfl,_,qdx sd,_,hat k _ hkl rfl,by show D.int _=D.int (sd.held.getD (List.getD _ i 0) 0);rw [e1]⟩
    · refine q none fun i hi=>?_
      have hz:=List.map_eq_nil_iff.mp hn
      rcases Int.lt_or_le 0 (gs.getD i 0) with c | c
      · have:i∈(List.range gs.length).filter fun i=>decide (0<gs.getD i 0):=List.mem_filter.mpr ⟨List.mem_range.mpr hi,decide_eq_true c⟩
        rw [hz] at this
        cases this
      · exact c
    · obtain ⟨k,rfl,hk,hkl,hkg⟩:=hin i e he
      have e1:((List.range gs.length).filter fun i=>decide (0<gs.getD i 0)).getD i 0=k:=by rw [List.getD_eq_getElem?_getD,hk];rfl
      refine q (some k) ⟨hkl,hkg,fun j hj hjg=>?_⟩
      have hm:j∈(List.range gs.length).filter fun i=>decide (0<gs.getD i 0):=List.mem_filter.mpr ⟨List.mem_range.mpr hj,decide_eq_true hjg⟩
      obtain ⟨i',hi'⟩:=List.getElem?_of_mem hm
      have h3:=(hb i' (by rw [List.length_map];exact qaF hi')).1
      have e2:((List.range gs.length).filter fun i=>decide (0<gs.getD i 0)).getD i' 0=j:=by rw [List.getD_eq_getElem?_getD,hi'];rfl
      have h4:sd.held.getD (((List.range gs.length).filter fun i=>decide (0<gs.getD i 0)).getD i 0) 0≤sd.held.getD (((List.range gs.length).filter fun i=>decide (0<gs.getD i 0)).getD i' 0) 0:=h3
      rw [e1,e2] at h4
      exact h4
theorem qfc {ps:List (Int × Int)} (h:(ps.map (·.1)).Nodup):∀ (i j:Nat) (p q:Int × Int),ps[i]?=some p→ps[j]?=some q→p.1=q.1→i=j:=fun i j p q hp hq e=>by
  have e1:(ps.map (·.1))[i]?=some p.1:=by rw [List.getElem?_map,hp];rfl
  have e2:(ps.map (·.1))[j]?=some q.1:=by rw [List.getElem?_map,hq];rfl
  obtain ⟨h1,q1⟩:=List.getElem?_eq_some_iff.mp e1
  obtain ⟨h2,q2⟩:=List.getElem?_eq_some_iff.mp e2
  exact (List.getElem_inj h).mp (q1.trans (e.trans q2.symm))
def shG (sd:Std) (gs:List Int):Int:=qbS ((qbX sd gs).map (·.2)) sd.bot
def shP (sd:Std) (gs:List Int):List (Int × Int):=(qbX sd gs).map fun p=>(p.1,p.2 / shG sd gs)
def shD (sd:Std) (gs:List Int):Int:=sd.bot / shG sd gs
theorem qh8 (sd:Std) (gs:List Int):(shP sd gs).map (·.1)=((List.range gs.length).filter fun i=>decide (gs.getD i 0<0)).map fun i=>sd.held.getD i 0:=by
  unfold shP qbX
  rw [List.map_map,List.map_map]
  rfl
theorem qfd {sd:Std} {gs:List Int} (hh:sd.held.length=gs.length) (hn:sd.held.Nodup):((shP sd gs).map (·.1)).Nodup:=by
  rw [qh8]
  have nd:((List.range gs.length).filter fun i=>decide (gs.getD i 0<0)).Nodup:=List.nodup_range.filter _
  refine List.pairwise_map.mpr (List.Pairwise.imp_of_mem (fun {a b} ha hb hab e=>hab ?_) nd)
  have la:=List.mem_range.mp (List.mem_filter.mp ha).1
  have lb:=List.mem_range.mp (List.mem_filter.mp hb).1
  have e1:=qaQ (xs:=sd.held) (d:=0) (i:=a) (by omega)
  have e2:=qaQ (xs:=sd.held) (d:=0) (i:=b) (by omega)
  obtain ⟨h1,q1⟩:=List.getElem?_eq_some_iff.mp e1
  obtain ⟨h2,q2⟩:=List.getElem?_eq_some_iff.mp e2
  exact (List.getElem_inj hn).mp (q1.trans (e.trans q2.symm))
theorem qcr (sd:Std) (gs:List Int):(shP sd gs).length≤gs.length:=by
  unfold shP qbX
  rw [List.length_map,List.length_map]
  have:=List.length_filter_le (fun i=>decide (gs.getD i 0<0)) (List.range gs.length)
  rw [List.length_range] at this
  exact this
theorem qfo (sd:Std) (gs:List Int):(qbX sd gs).length≤gs.length:=by
  have:=qcr sd gs
  unfold shP at this
  rw [List.length_map] at this
  exact this
def qcA:SpD:=fun ds R=>∃ (sd:Std) (q:Int) (gs:List Int),ds=[stD sd,.int q,.tup (gs.map D.int)]∧gs.length≤60∧sd.held.length=gs.length∧0<sd.bot∧sd.bot<2 ^ 9000∧sd.held.Nodup∧q∉sd.held ∧
  ∀ qs:List (Int × Int),qs.Perm (shP sd gs++[(q,shD sd gs)])→qs.Pairwise (fun a b=>a.1<b.1)→R (.tup [.str "none",.tup (qs.map prD)])
theorem qd0 {n:Nat} {f:Addr} {fd:FuncData} (F:Fun K "none_ending" "none_ending" qbq f fd) {C_Stand:Addr} (T_Stand:TxtStand K mg C_Stand) (Q_in_lowest:Cl P w K mg base n "in_lowest" ["pairs","bottom"] qcq) (Q_fallen:Cl P w K mg base n "fallen" ["stand","grown"] qeE) (z_tuple:mg "tuple"=none) (z_sorted:mg "sorted"=none):FnOk P w K mg base CX0 (n+1) f fd ["stand","number","grown"] (lSp K qcA):=by
  refine F.okD sc_none_ending (fun ds R h=>?_) (fun cdv A outer s H E ds R hr h=>?_)
  · obtain ⟨sd,qn,gs,rfl,_⟩:=h;rfl
  obtain ⟨sd,qn,gs,rfl,hl,hh,b0,b1,hn,hq,q⟩:=h
  refine ⟨_,(qao (qaE (i:=3) sc_none_ending.nd rfl (Or.inl rfl) (qaq Q_in_lowest hr rfl (qab (qaq Q_fallen hr rfl (qab (dv 0) (qab (dv 2) qal qaa) qaa) qaa (qae qaa qad)) (qab (qbQ T_Stand.cl T_Stand.n_bottom T_Stand.ns (dvq 0)) qal qas) qaj) qaj (qae qas qad)))
      (qaw (qaN (qcc (qab qdI (qab (qaB qaP rfl z_tuple PyProof.Rows.boot_tuple (qap (PD.q (qaH qil rfl z_sorted PyProof.Rows.boot_sorted (qap (PD.q (qa3 qbN (PD.q (qa1 (dvq 3) (PD.q qai) (fun _ _=>rfl))) (PD.q (PF.d (qcK (qab (qcc (qab (dv 1) (qab (qa1 (dvq 3) (PD.q qai) (fun _ _=>rfl)) qal qac) qaa)) qal qeB)))))) qav qaz) qaz qad)) qav qaj) qaj qad) qal qaj) qak))))),?_⟩
  have l1:=qfo sd gs
  refine ⟨sd,gs,rfl,by omega,hh,rfl,_,qdV sd,qbX sd gs,sd.bot,rfl,b0,b1,by omega,?_⟩
  refine ⟨_,rfl,_,rfl,?_,_,rfl,?_⟩
  · rw [List.length_map]
    show (shP sd gs).length+1≤sizeLine
    have:=qcr sd gs
    exact Nat.le_of_lt (qam (by omega))
  refine ⟨shP sd gs++[(qn,shD sd gs)],by rw [List.map_append];rfl,?_,qfc ?_,fun qs hp hs=>q qs hp hs⟩
  · rw [List.length_append]
    have:=qcr sd gs
    show (shP sd gs).length+1<64
    omega
  · rw [List.map_append]
    refine List.nodup_append.mpr ⟨qfd hh hn,by simp,fun a ha b hb e=>?_⟩
    have hb':b=qn:=by simpa using hb
    rw [e,hb'] at ha
    rw [qh8] at ha
    obtain ⟨i,hi,e2⟩:=List.mem_map.mp ha
    have li:=List.mem_range.mp (List.mem_filter.mp hi).1
    exact hq (by rw [← e2];exact qax (by omega))
def qcz:SpD:=fun ds R=>∃ (sd:Std) (gs:List Int),ds=[stD sd,.tup (gs.map D.int)]∧gs.length≤60∧sd.held.length=gs.length∧0<sd.bot∧sd.bot<2 ^ 9000∧sd.held.Nodup∧sd.tops.length≤1000 ∧
  ∀ qs:List (Int × Int),qs.Perm (shP sd gs)→qs.Pairwise (fun a b=>a.1<b.1)→R (.tup [.str "best",qbe (qcF sd.tops sd.bot),.tup (qs.map prD),.int (shD sd gs)])
theorem qd5 {n:Nat} {f:Addr} {fd:FuncData} (F:Fun K "best_ending" "best_ending" qbr f fd) {C_Stand:Addr} (T_Stand:TxtStand K mg C_Stand) (Q_in_lowest:Cl P w K mg base n "in_lowest" ["pairs","bottom"] qcq) (Q_fallen:Cl P w K mg base n "fallen" ["stand","grown"] qeE) (Q_lowest:Cl P w K mg base n "lowest" ["tops","bottom"] qde) (z_tuple:mg "tuple"=none) (z_sorted:mg "sorted"=none):FnOk P w K mg base CX0 (n+1) f fd ["stand","grown"] (lSp K qcz):=by
  refine F.okD sc_best_ending (fun ds R h=>?_) (fun cdv A outer s H E ds R hr h=>?_)
  · obtain ⟨sd,gs,rfl,_⟩:=h;rfl
  obtain ⟨sd,gs,rfl,hl,hh,b0,b1,hn,tl,q⟩:=h
  refine ⟨_,(qao (qaE (i:=2) sc_best_ending.nd rfl (Or.inl rfl) (qaq Q_in_lowest hr rfl (qab (qaq Q_fallen hr rfl (qab (dv 0) (qab (dv 1) qal qaa) qaa) qaa (qae qaa qad)) (qab (qbQ T_Stand.cl T_Stand.n_bottom T_Stand.ns (dvq 0)) qal qas) qaj) qaj (qae qas qad)))
      (qaw (qaN (qcc (qab qdI (qab (qaq Q_lowest hr rfl (qab (qbQ T_Stand.cl T_Stand.n_tops T_Stand.ns (dvq 0)) (qab (qbQ T_Stand.cl T_Stand.n_bottom T_Stand.ns (dvq 0)) qal qas) qas) qas (qae qas qad)) (qab (qaB qaP rfl z_tuple PyProof.Rows.boot_tuple (qap (PD.q (qaH qil rfl z_sorted PyProof.Rows.boot_sorted (qap (PD.q (qa1 (dvq 2) (PD.q qai) (fun _ _=>rfl))) qav qac) qac qad)) qav qaj) qaj qad) (qab (qa1 (dvq 2) (PD.q qai) (fun _ _=>rfl)) qal qac) qaj) qaj) qak))))),?_⟩
  have l1:=qfo sd gs
  have l2:=qcr sd gs
  refine ⟨sd,gs,rfl,by omega,hh,rfl,_,qdV sd,qbX sd gs,sd.bot,rfl,b0,b1,by omega,?_⟩
  refine ⟨rfl,_,qey sd,rfl,_,qdV sd,sd.tops,sd.bot,rfl,b0,b1,tl,?_⟩
  refine ⟨_,rfl,shP sd gs,rfl,by omega,qfc (qfd hh hn),fun qs hp hs=>⟨_,rfl,q qs hp hs⟩⟩
def aL (rs:List Row):Wk.Mx:=fun r j=>((qag rs (r:Int)).1).getD j 0
def BL (rs:List Row):Nat→Int:=fun r=>(qag rs (r:Int)).2
def cL (goal:List Int):Nat→Int:=fun j=>goal.getD j 0
def sdL (sd:Std):Wk.Sd:=⟨fun k=>(sd.held.getD k 0).toNat,fun k i=>(sd.ways.getD k []).getD i 0,fun i=>sd.tops.getD i 0,sd.bot⟩
structure Wf (rs:List Row) (n:Nat) (sd:Std):Prop where
  hl:sd.held.length=n
  h0:∀ k∈sd.held,0≤k
  wl:sd.ways.length=n
  ww:∀ w∈sd.ways,w.length=n
  tl:sd.tops.length=n
  ok:Wk.Ok n (aL rs) (BL rs) rs.length (sdL sd)
structure RsW (rs:List Row) (n:Nat):Prop where
  len:∀ r∈rs,r.1.length=n
  eb:∀ r∈rs,∀ x∈r.1,x.natAbs≤2 ^ 900
  bb:∀ r∈rs,r.2.natAbs≤2 ^ 900
  n8:n≤8
  nM:n≤rs.length
  M1:rs.length≤1000
theorem qgB (f:Nat→Int):∀ n:Nat,Wk.sm (n+1) f=f 0+Wk.sm n (fun i=>f (i+1))
  | 0=>by show 0+f 0=f 0+0;omega
  | n+1=>by
    have:=qgB f n
    show Wk.sm (n+1) f+f (n+1)=f 0+(Wk.sm n (fun i=>f (i+1))+f (n+1))
    omega
theorem qby:∀ {n:Nat} {xs ys:List Int},xs.length=n→ys.length=n→dot xs ys=Wk.dt n (fun i=>xs.getD i 0) (fun i=>ys.getD i 0)
  | 0,[],[],_,_=>rfl
  | n+1,x::xs,y::ys,h1,h2=>by
    have ih:=qby (n:=n) (xs:=xs) (ys:=ys) (by simpa using h1) (by simpa using h2)
    have e:dot (x::xs) (y::ys)=x*y+dot xs ys:=by unfold dot;rw [List.zipWith_cons_cons,List.sum_cons]
    rw [e,ih]
    unfold Wk.dt
    rw [qgB]
    rfl
theorem qcs {rs:List Row} {q:Int} (h:0≤q):qag rs ((q.toNat:Nat):Int)=qag rs q:=by
  have:((q.toNat:Nat):Int)=q:=by omega
  rw [this]
theorem qns {rs:List Row} {n:Nat} {sd:Std} (hf:Wf rs n sd) (hr:RsW rs n) {q:Int} (h0:0≤q) (h1:q<rs.length) {k:Nat} (hk:k<n):dot (qag rs q).1 (sd.ways.getD k [])=Wk.gr n (aL rs) (sdL sd) q.toNat k:=by
  have e:=qby (hr.len _ (qaO h0 h1)) (hf.ww _ (qax (d:=[]) (show k<sd.ways.length by rw [hf.wl];exact hk)))
  rw [e]
  unfold Wk.gr aL sdL
  rw [qcs h0]
theorem qlA {rs:List Row} {n:Nat} {sd:Std} (hf:Wf rs n sd) (hr:RsW rs n) {q:Int} (h0:0≤q) (h1:q<rs.length):ovL (qag rs q) sd=Wk.ov n (aL rs) (BL rs) (sdL sd) q.toNat:=by
  unfold ovL Wk.ov BL
  rw [qby (hr.len _ (qaO h0 h1)) hf.tl,qcs h0]
  unfold aL sdL
  rw [qcs h0]
theorem c_L {rs:List Row} {n:Nat} {sd:Std} (hf:Wf rs n sd) {goal:List Int} (hg:goal.length=n) {k:Nat} (hk:k<n):dot goal (sd.ways.getD k [])=Wk.dt n (cL goal) ((sdL sd).W k):=qby hg (hf.ww _ (qax (d:=[]) (show k<sd.ways.length by rw [hf.wl];exact hk)))
theorem qkJ {f:Int→Int→Int} {xs ys:List Int} {i:Nat} (h1:i<xs.length) (h2:i<ys.length):(List.zipWith f xs ys).getD i 0=f (xs.getD i 0) (ys.getD i 0):=by
  rw [List.getD_eq_getElem?_getD,List.getElem?_zipWith,qaQ (d:=0) h1,qaQ (d:=0) h2]
  rfl
theorem qaW {α:Type} {xs:List α} {i:Nat} {d:α} (h:xs.length≤i):xs.getD i d=d:=by rw [List.getD_eq_getElem?_getD,List.getElem?_eq_none h];rfl
theorem qku (n:Nat) (x:Nat→Int):Wk.dt n x (fun _=>0)=0:=by
  unfold Wk.dt
  have e:(fun i=>x i*(0:Int))=fun _=>0:=by funext i;exact Int.mul_zero _
  rw [e]
  exact Wk.sm_zero n
theorem qcM {sd:Std} {r:Row} {p:Nat}:(wyL sd r p).length=(sd.ways.getD p []).length:=by
  unfold wyL
  split
  · rw [List.length_map]
  · rfl
theorem qmx {rs:List Row} {n:Nat} {sd:Std} (hf:Wf rs n sd) (hr:RsW rs n) {p:Nat} {q:Int} (hp:p<n) (h0:0≤q) (h1:q<rs.length):sdL (exL (qag rs q) sd p q)=Wk.pv n (aL rs) (BL rs) (sdL sd) p q.toNat:=by
  have hpw:p<sd.ways.length:=by rw [hf.wl];exact hp
  have hlp:(sd.ways.getD p []).length=n:=hf.ww _ (qax hpw)
  have hgr:∀ k,k<n→dot (qag rs q).1 (sd.ways.getD k [])=Wk.gr n (aL rs) (sdL sd) q.toNat k:=fun k hk=>qns hf hr h0 h1 hk
  have hov:=qlA hf hr h0 h1
  have hsz:szL sd (qag rs q) p=((Wk.gr n (aL rs) (sdL sd) q.toNat p).natAbs:Int):=by rw [qhs,hgr p hp]
  have hwy:∀ i,(wyL sd (qag rs q) p).getD i 0=Wk.wy n (aL rs) (sdL sd) p q.toNat i:=fun i=>by
    unfold wyL Wk.wy
    rw [hgr p hp]
    by_cases c:Wk.gr n (aL rs) (sdL sd) q.toNat p<0
    · rw [if_pos c,if_pos c]
      show _ = - (sd.ways.getD p []).getD i 0
      by_cases hi:i<(sd.ways.getD p []).length
      · rw [List.getD_eq_getElem?_getD,List.getElem?_map,qaQ (d:=0) hi]
        rfl
      · rw [qaW (by rw [List.length_map];omega),qaW (by omega)]
        rfl
    · rw [if_neg c,if_neg c]
      rfl
  have wyo:∀ i,n≤i→Wk.wy n (aL rs) (sdL sd) p q.toNat i=0:=fun i hi=>by
    rw [← hwy,qaW]
    rw [qcM,hlp];exact hi
  have hmv:∀ (sh:Int) (xs:List Int) (i:Nat),xs.length=n→(mvL (szL sd (qag rs q) p) sh sd.bot xs (wyL sd (qag rs q) p)).getD i 0=(((Wk.gr n (aL rs) (sdL sd) q.toNat p).natAbs:Int)*xs.getD i 0 - sh*Wk.wy n (aL rs) (sdL sd) p q.toNat i) / sd.bot:=fun sh xs i hx=>by
    unfold mvL
    by_cases hi:i<n
    · rw [qkJ (by omega) (by rw [qcM,hlp];exact hi),hwy,hsz]
    · rw [qaW (by rw [List.length_zipWith,qcM,hlp,hx];omega),wyo i (by omega),qaW (by omega),Int.mul_zero,Int.mul_zero]
      simp
  have nz:∀ k,n≤k→∀ i,(sdL sd).W k i=0:=fun k hk i=>by
    show (sd.ways.getD k []).getD i 0=0
    rw [qaW (d:=[]) (by rw [hf.wl];exact hk)]
    rfl
  have eh:(sdL (exL (qag rs q) sd p q)).h=(Wk.pv n (aL rs) (BL rs) (sdL sd) p q.toNat).h:=by
    funext k
    show (((List.range sd.ways.length).map fun o=>if o=p then q else sd.held.getD o 0).getD k 0).toNat=if k=p then q.toNat else (sd.held.getD k 0).toNat
    by_cases hk:k<n
    · rw [List.getD_eq_getElem?_getD,List.getElem?_map,List.getElem?_range (by rw [hf.wl];exact hk)]
      show (if k=p then q else sd.held.getD k 0).toNat=_
      split <;> rfl
    · rw [qaW (by rw [List.length_map,List.length_range,hf.wl];omega),if_neg (by omega),qaW (by rw [hf.hl];omega)]
  have eW:(sdL (exL (qag rs q) sd p q)).W=(Wk.pv n (aL rs) (BL rs) (sdL sd) p q.toNat).W:=by
    funext k i
    show (((List.range sd.ways.length).map fun o=>if o=p then wyL sd (qag rs q) p else mvL (szL sd (qag rs q) p) (dot (qag rs q).1 (sd.ways.getD o [])) sd.bot (sd.ways.getD o []) (wyL sd (qag rs q) p)).getD k []).getD i 0 =
      if k=p then Wk.wy n (aL rs) (sdL sd) p q.toNat i else (((Wk.gr n (aL rs) (sdL sd) q.toNat p).natAbs:Int)*(sdL sd).W k i - Wk.gr n (aL rs) (sdL sd) q.toNat k*Wk.wy n (aL rs) (sdL sd) p q.toNat i) / sd.bot
    by_cases hk:k<n
    · have e:((List.range sd.ways.length).map fun o=>if o=p then wyL sd (qag rs q) p else mvL (szL sd (qag rs q) p) (dot (qag rs q).1 (sd.ways.getD o [])) sd.bot (sd.ways.getD o []) (wyL sd (qag rs q) p)).getD k []=if k=p then wyL sd (qag rs q) p else mvL (szL sd (qag rs q) p) (dot (qag rs q).1 (sd.ways.getD k [])) sd.bot (sd.ways.getD k []) (wyL sd (qag rs q) p):=by
        rw [List.getD_eq_getElem?_getD,List.getElem?_map,List.getElem?_range (by rw [hf.wl];exact hk)]
        rfl
      rw [e]
      by_cases c:k=p
      · rw [if_pos c,if_pos c,hwy]
      · rw [if_neg c,if_neg c,hmv _ _ i (hf.ww _ (qax (by rw [hf.wl];exact hk))),hgr k hk]
        rfl
    · rw [qaW (d:=[]) (by rw [List.length_map,List.length_range,hf.wl];omega),if_neg (by omega),nz k (by omega)]
      have e:Wk.gr n (aL rs) (sdL sd) q.toNat k=0:=by
        unfold Wk.gr
        have:(sdL sd).W k=fun _=>0:=by funext i;exact nz k (by omega) i
        rw [this]
        exact qku n _
      rw [e,Int.mul_zero,Int.zero_mul]
      simp
  have ex:(sdL (exL (qag rs q) sd p q)).x=(Wk.pv n (aL rs) (BL rs) (sdL sd) p q.toNat).x:=by
    funext i
    show (mvL (szL sd (qag rs q) p) (ovL (qag rs q) sd) sd.bot sd.tops (wyL sd (qag rs q) p)).getD i 0=_
    rw [hmv _ _ i hf.tl,hov]
    rfl
  have eb:(sdL (exL (qag rs q) sd p q)).b=(Wk.pv n (aL rs) (BL rs) (sdL sd) p q.toNat).b:=hsz
  generalize sdL (exL (qag rs q) sd p q)=S at *
  generalize Wk.pv n (aL rs) (BL rs) (sdL sd) p q.toNat=T at *
  cases S
  cases T
  simp only at eh eW ex eb
  rw [eh,eW,ex,eb]
theorem Wf.ex {rs:List Row} {n:Nat} {sd:Std} (hf:Wf rs n sd) (hr:RsW rs n) {p:Nat} {q:Int} (hp:p<n) (h0:0≤q) (h1:q<rs.length) (hg:Wk.gr n (aL rs) (sdL sd) q.toNat p≠0):Wf rs n (exL (qag rs q) sd p q):=by
  have hlp:(sd.ways.getD p []).length=n:=hf.ww _ (qax (by rw [hf.wl];exact hp))
  refine ⟨?_,fun k hk=>?_,?_,fun w hw=>?_,?_,?_⟩
  · show ((List.range _).map _).length=n
    rw [List.length_map,List.length_range,hf.wl]
  · obtain ⟨o,ho,rfl⟩:=List.mem_map.mp (show k∈(List.range _).map _ from hk)
    have lo:=List.mem_range.mp ho
    split
    · exact h0
    · exact hf.h0 _ (qax (by rw [hf.hl,← hf.wl];exact lo))
  · show ((List.range _).map _).length=n
    rw [List.length_map,List.length_range,hf.wl]
  · obtain ⟨o,ho,rfl⟩:=List.mem_map.mp (show w∈(List.range _).map _ from hw)
    have lo:=List.mem_range.mp ho
    split
    · rw [qcM,hlp]
    · unfold mvL
      rw [List.length_zipWith,qcM,hlp,hf.ww _ (qax lo)]
      omega
  · show (mvL _ _ _ _ _).length=n
    unfold mvL
    rw [List.length_zipWith,qcM,hlp,hf.tl]
    omega
  · rw [qmx hf hr hp h0 h1]
    exact (hf.ok.pv_all hp (by omega) hg).1
theorem qcb {a b:Nat} (h:a≤b):2 ^ a≤2 ^ b:=Nat.pow_le_pow_right (by decide) h
theorem qbL {x:Int} {m:Nat} (h:x.natAbs≤2 ^ m) (hm:m<60000):qbT x:=Nat.lt_of_le_of_lt h (Nat.pow_lt_pow_right (by decide) hm)
theorem qh7 {n:Nat} (h:n≤8):(8*2 ^ 900) ^ n≤2 ^ 7224:=by
  have e:8*2 ^ 900=2 ^ 903:=by rw [show (8:Nat)=2 ^ 3 by decide,← Nat.pow_add]
  rw [e,← Nat.pow_mul]
  exact qcb (by omega)
theorem qkc {n a b:Nat} {x y:Nat→Int} (hn:n≤8) (hx:∀ i,i<n→(x i).natAbs≤2 ^ a) (hy:∀ i,i<n→(y i).natAbs≤2 ^ b):(Wk.dt n x y).natAbs≤2 ^ (a+b+3):=by
  have h:=Wk.sm_abs (E:=2 ^ (a+b)) (n:=n) (f:=fun i=>x i*y i) fun i hi=>by
    show (x i*y i).natAbs≤_
    rw [Int.natAbs_mul,Nat.pow_add]
    exact Nat.mul_le_mul (hx i hi) (hy i hi)
  refine Nat.le_trans h (Nat.le_trans (Nat.mul_le_mul_right _ hn) ?_)
  rw [show (8:Nat)=2 ^ 3 by decide,← Nat.pow_add]
  exact qcb (by omega)
theorem qmb {rs:List Row} {n:Nat} (hr:RsW rs n) {r:Nat} (h:r<rs.length) (j:Nat):(aL rs r j).natAbs≤2 ^ 900:=by
  unfold aL
  by_cases c:j<(qag rs (r:Int)).1.length
  · exact hr.eb _ (qaO (by omega) (by omega)) _ (qax c)
  · rw [qaW (by omega)]
    exact Nat.zero_le _
structure Sz (rs:List Row) (n:Nat) (sd:Std):Prop where
  b0:0<sd.bot
  b:sd.bot.natAbs≤2 ^ 7224
  w:∀ w∈sd.ways,∀ x∈w,x.natAbs≤2 ^ 7224
  t:∀ x∈sd.tops,x.natAbs≤2 ^ 8127
theorem Wf.sz {rs:List Row} {n:Nat} {sd:Std} (hf:Wf rs n sd) (hr:RsW rs n):Sz rs n sd:=by
  obtain ⟨e,he,hb,hw⟩:=hf.ok.eps
  have ea:∀ z:Int,(e*z).natAbs=z.natAbs:=fun z=>by rcases he with h | h <;> rw [h] <;> omega
  have hW:∀ k i,k<n→i<n→((sdL sd).W k i).natAbs≤2 ^ 7224:=fun k i hk hi=>by
    rw [hw k i hk hi,ea]
    refine Nat.le_trans (Wk.det_abs (E:=2 ^ 900) (N:=8) hr.n8 fun l j hl hj=>?_) (qh7 hr.n8)
    unfold Wk.up
    split
    · unfold Wk.un
      split
      · exact Nat.one_le_two_pow
      · exact Nat.zero_le _
    · exact qmb hr (hf.ok.lt l hl) j
  have mem:∀ {α:Type} {l:List α} {x:α} (d:α),x∈l→∃ i,i<l.length∧l.getD i d=x:=fun {α l x} d hx=>by
    obtain ⟨i,hi⟩:=List.getElem?_of_mem hx
    exact ⟨i,qaF hi,by rw [List.getD_eq_getElem?_getD,hi];rfl⟩
  refine ⟨hf.ok.pos,?_,fun w hw' x hx=>?_,fun x hx=>?_⟩
  · show (sdL sd).b.natAbs≤_
    rw [hb,ea]
    exact Nat.le_trans (Wk.det_abs (E:=2 ^ 900) (N:=8) hr.n8 fun l j hl hj=>qmb hr (hf.ok.lt l hl) j) (qh7 hr.n8)
  · obtain ⟨k,hk,rfl⟩:=mem [] hw'
    obtain ⟨i,hi,rfl⟩:=mem 0 hx
    rw [hf.wl] at hk
    rw [hf.ww _ (qax (by rw [hf.wl];exact hk))] at hi
    exact hW k i hk hi
  · obtain ⟨i,hi,rfl⟩:=mem 0 hx
    rw [hf.tl] at hi
    have h1:=hf.ok.cor i hi
    show ((sdL sd).x i).natAbs≤_
    rw [h1]
    have:=qkc (n:=n) (a:=900) (b:=7224) (x:=fun k=>BL rs ((sdL sd).h k)) (y:=fun k=>(sdL sd).W k i) hr.n8 (fun k hk=>hr.bb _ (qaO (by omega) (by have:=hf.ok.lt k hk;omega))) fun k hk=>hW k i hk hi
    exact this
theorem qhU {xs:List Int} {m:Nat} (h:∀ x∈xs,x.natAbs≤2 ^ m) (i:Nat):(xs.getD i 0).natAbs≤2 ^ m:=by
  by_cases c:i<xs.length
  · exact h _ (qax c)
  · rw [qaW (by omega)];exact Nat.zero_le _
theorem qem {n a b:Nat} {xs ys:List Int} (hn:n≤8) (h1:xs.length=n) (h2:ys.length=n) (hx:∀ x∈xs,x.natAbs≤2 ^ a) (hy:∀ y∈ys,y.natAbs≤2 ^ b):(dot xs ys).natAbs≤2 ^ (a+b+3):=by
  rw [qby h1 h2]
  exact qkc hn (fun i _=>qhU hx i) fun i _=>qhU hy i
theorem qj9 {rs:List Row} {n:Nat} {sd:Std} (hf:Wf rs n sd) (hr:RsW rs n) {r:Row} (hm:r∈rs):(ovL r sd).natAbs≤2 ^ 9031:=by
  have z:=hf.sz hr
  have h1:=qem hr.n8 (hr.len r hm) hf.tl (hr.eb r hm) z.t
  have h2:(r.2*sd.bot).natAbs≤2 ^ (900+7224):=by
    rw [Int.natAbs_mul,Nat.pow_add]
    exact Nat.mul_le_mul (hr.bb r hm) z.b
  unfold ovL
  have h3:=qcb (a:=900+7224) (b:=9030) (by decide)
  have e:2 ^ 9031=2 ^ 9030+2 ^ 9030:=by rw [show (9031:Nat)=9030+1 by rfl,Nat.pow_succ,Nat.mul_two]
  have h4:(dot r.1 sd.tops).natAbs≤2 ^ 9030:=h1
  have h5:=Nat.le_trans h2 h3
  rw [e]
  generalize 2 ^ 9030=z at *
  omega
theorem Wf.nd {rs:List Row} {n:Nat} {sd:Std} (hf:Wf rs n sd):sd.held.Nodup:=by
  rw [List.nodup_iff_pairwise_ne,List.pairwise_iff_getElem]
  intro i j hi hj hij e
  have e1:sd.held.getD i 0=sd.held.getD j 0:=by
    rw [List.getD_eq_getElem?_getD,List.getD_eq_getElem?_getD,qaA hi,qaA hj]
    exact e
  have:=hf.ok.inj (k:=i) (l:=j) (by rw [← hf.hl];exact hi) (by rw [← hf.hl];exact hj) (by show (sd.held.getD i 0).toNat=(sd.held.getD j 0).toNat;rw [e1])
  omega
theorem Wf.heldNat {rs:List Row} {n:Nat} {sd:Std} (hf:Wf rs n sd) {k:Nat} (hk:k<n):((sdL sd).h k:Int)=sd.held.getD k 0:=by
  have:=hf.h0 _ (qax (d:=0) (show k<sd.held.length by rw [hf.hl];exact hk))
  show (((sd.held.getD k 0).toNat:Nat):Int)=_
  omega
theorem Wf.notheld {rs:List Row} {n:Nat} {sd:Std} (hf:Wf rs n sd) {q:Int} (h0:0≤q) (h:¬ Wk.In n (sdL sd) q.toNat):q∉sd.held:=fun hm=>by
  obtain ⟨i,hi⟩:=List.getElem?_of_mem hm
  have il:i<n:=by rw [← hf.hl];exact qaF hi
  refine h ⟨i,il,?_⟩
  show (sd.held.getD i 0).toNat=q.toNat
  rw [List.getD_eq_getElem?_getD,hi]
  rfl
theorem Wf.big {rs:List Row} {n:Nat} {sd:Std} (hf:Wf rs n sd) (hr:RsW rs n):StB sd:=by
  have z:=hf.sz hr
  have:=hr.n8
  exact ⟨by rw [hf.hl];omega,by rw [hf.wl];omega,fun w hw x hx=>qbL (z.w w hw x hx) (by decide),fun x hx=>qbL (z.t x hx) (by decide),qbL z.b (by decide)⟩
theorem RsW.big {rs:List Row} {n:Nat} (hr:RsW rs n):RsB rs:=fun r h=>by
  have:=hr.n8
  exact ⟨by rw [hr.len r h];omega,fun x hx=>qbL (hr.eb r h x hx) (by decide),qbL (hr.bb r h) (by decide)⟩
theorem Sz.b9 {rs:List Row} {n:Nat} {sd:Std} (z:Sz rs n sd):sd.bot<2 ^ 9000:=by
  have h1:=z.b
  have h2:(2:Nat) ^ 7224<2 ^ 9000:=Nat.pow_lt_pow_right (by decide) (by decide)
  have h3:sd.bot.natAbs<2 ^ 9000:=Nat.lt_of_le_of_lt h1 h2
  have h4:=z.b0
  have h5:((sd.bot.natAbs:Nat):Int)<((2 ^ 9000:Nat):Int):=by exact_mod_cast h3
  have h6:((2 ^ 9000:Nat):Int)=2 ^ 9000:=by rw [Int.natCast_pow];rfl
  rw [h6] at h5
  omega
def gsL (sd:Std) (es:List Int):List Int:=sd.ways.map fun w=>dot es w
def qbo (M:Nat):List Int:=(List.range M).map fun (i:Nat)=>(i:Int)
theorem qeM {M i:Nat} {k:Int} (h:(qbo M)[i]?=some k):k=(i:Int)∧i<M:=by
  unfold qbo at h
  rw [List.getElem?_map] at h
  by_cases c:i<M
  · rw [List.getElem?_range c] at h
    cases h
    exact ⟨rfl,c⟩
  · rw [List.getElem?_eq_none (by rw [List.length_range];omega)] at h
    cases h
theorem qcy {M i:Nat} (h:i<M):(qbo M)[i]?=some (i:Int):=by
  unfold qbo
  rw [List.getElem?_map,List.getElem?_range h]
  rfl
theorem qhY {M:Nat} {k:Int} (h:k∈qbo M):0≤k∧k<M:=by
  obtain ⟨i,hi⟩:=List.getElem?_of_mem h
  obtain ⟨e,l⟩:=qeM hi
  omega
theorem qhv (M:Nat):(qbo M).length=M:=by unfold qbo;rw [List.length_map,List.length_range]
def qlQ (rs:List Row) (sd:Std) (q:Int):Prop:=(0≤q∧q<rs.length)∧ovL (qag rs q) sd<0∧∀ r:Int,0≤r→r<q→0≤ovL (qag rs r) sd
def Met (rs:List Row) (sd:Std):Prop:=∀ r:Int,0≤r→r<rs.length→0≤ovL (qag rs r) sd
def qm2 (p:Nat) (q:Int):D:=.tup [.str "step",.int (p:Int),.int q]
def qlK (qs:List (Int × Int)):D:=.tup [.str "none",.tup (qs.map prD)]
def qfY (pt:Row) (qs:List (Int × Int)) (d:Int):D:=.tup [.str "best",qbe pt,.tup (qs.map prD),.int d]
def qk7 (pt:Row) (ray:List Int):D:=.tup [.str "endless",qbe pt,.tup (ray.map D.int)]
inductive Nxt (rs:List Row) (goal:List Int) (sd:Std):D→Prop
  | stepA (q:Int) (p:Nat):qlQ rs sd q→Lg sd (gsL sd (qag rs q).1) (some p)→Nxt rs goal sd (qm2 p q)
  | non (q:Int) (qs:List (Int × Int)):qlQ rs sd q→Lg sd (gsL sd (qag rs q).1) none→qs.Perm (shP sd (gsL sd (qag rs q).1)++[(q,shD sd (gsL sd (qag rs q).1))])→qs.Pairwise (fun a b=>a.1<b.1)→Nxt rs goal sd (qlK qs)
  | best (qs:List (Int × Int)):Met rs sd→Lg sd (gsL sd goal) none→qs.Perm (shP sd (gsL sd goal))→qs.Pairwise (fun a b=>a.1<b.1)→Nxt rs goal sd (qfY (qcF sd.tops sd.bot) qs (shD sd (gsL sd goal)))
  | endl (p:Nat):Met rs sd→Lg sd (gsL sd goal) (some p)→Stop rs (qbo rs.length) sd (sd.ways.getD p []) rs.length none→Nxt rs goal sd (qk7 (qcF sd.tops sd.bot) ((sd.ways.getD p []).map (· / qa6 (sd.ways.getD p []))))
  | stepB (q:Int) (p:Nat):Met rs sd→Lg sd (gsL sd goal) (some p)→Stop rs (qbo rs.length) sd (sd.ways.getD p []) rs.length (some q)→Nxt rs goal sd (qm2 p q)
theorem qcE {sd:Std} {es:List Int} {k:Nat} (h:k<sd.ways.length):(gsL sd es).getD k 0=dot es (sd.ways.getD k []):=by
  unfold gsL
  rw [List.getD_eq_getElem?_getD,List.getElem?_map,qaQ (d:=[]) h]
  rfl
theorem qaT (sd:Std) (es:List Int):(gsL sd es).length=sd.ways.length:=by unfold gsL;rw [List.length_map]
theorem qez {xs ys:List Int} (h:∀ y∈ys,y=0):dot xs ys=0:=by
  unfold dot
  induction xs generalizing ys with
  | nil=>rfl
  | cons x xs ih =>
    cases ys with
    | nil=>rfl
    | cons y ys =>
      rw [List.zipWith_cons_cons,List.sum_cons,ih fun z hz=>h z (List.mem_cons_of_mem _ hz),h y List.mem_cons_self]
      omega
abbrev qfn (goal:List Int) (m:Nat):Prop:=goal.length=m∧∀ x∈goal,x.natAbs≤2 ^ 900
def qdB:SpD:=fun ds R=>∃ (rs:List Row) (goal:List Int) (m:Nat) (sd:Std),ds=[.tup (rs.map qbe),.tup ((qbo rs.length).map D.int),.tup (goal.map D.int),stD sd]∧RsW rs m∧Wf rs m sd∧qfn goal m∧∀ d,Nxt rs goal sd d→R d
theorem qfI {n:Nat} {f:Addr} {fd:FuncData} (F:Fun K "next_step" "next_step" qbZ f fd) {C_Stand:Addr} (T_Stand:TxtStand K mg C_Stand) (Q_missed_row:Cl P w K mg base n "missed_row" ["rows","numbers","stand"] qcV) (Q_growths:Cl P w K mg base n "growths" ["stand","entries"] qdZ) (Q_least_grown:Cl P w K mg base n "least_grown" ["stand","grown"] qcD) (Q_stopping_row:Cl P w K mg base n "stopping_row" ["rows","numbers","stand","way"] qcm) (Q_best_ending:Cl P w K mg base n "best_ending" ["stand","grown"] qcz) (Q_endless_ending:Cl P w K mg base n "endless_ending" ["stand","way"] qb2) (Q_none_ending:Cl P w K mg base n "none_ending" ["stand","number","grown"] qcA):FnOk P w K mg base CX0 (n+1) f fd ["rows","numbers","goal","stand"] (lSp K qdB):=by
  refine F.okD sc_next_step (fun ds R h=>?_) (fun cdv A outer s H E ds R hr h=>?_)
  · obtain ⟨rs,goal,m,sd,rfl,_⟩:=h;rfl
  obtain ⟨rs,goal,m,sd,rfl,hrw,hf,⟨hgl,hgb⟩,q⟩:=h
  refine ⟨_,(qao (qaE (i:=4) sc_next_step.nd rfl (Or.inl rfl) (qaq Q_missed_row hr rfl (qab (dv 0) (qab (dv 1) (qab (dv 3) qal qaa) qaa) qaa) qaa (qae qaa (qae qaa qad))))
      (qbW (qcZ (qa5 qkK (dvq 4) (PD.q qbK) (qaD _)) (qao (qaE (i:=5) sc_next_step.nd rfl (Or.inl rfl) (qaq Q_growths hr rfl (qab (dv 3) (qab (qa1 (PD.q (qa1 (dvq 0) (dvq 4) (fun _ _=>rfl))) (PD.q qai) (fun _ _=>rfl)) qal qac) qaa) qaa (qae qac qad)))
      (qao (qaE (i:=6) sc_next_step.nd rfl (Or.inl rfl) (qaq Q_least_grown hr rfl (qab (dv 3) (qab (dv 5) qal qaa) qaa) qaa (qae qaa qad)))
      (qbW (qcZ (qa5 qlN (dvq 6) (PD.q qbK) (qaD _)) (qaw (qaN (qaq Q_none_ending hr rfl (qab (dv 3) (qab (dv 4) (qab (dv 5) qal qaa) qaa) qaa) qaa (qae qaa (qae qaa qad))))) qbs)
      (qaw (qaN (qcc (qab qdI (qab (dv 6) (qab (dv 4) qal qaa) qaa) qak))))))) qbs)
      (qao (qaE (i:=7) sc_next_step.nd rfl (Or.inl rfl) (qaq Q_growths hr rfl (qab (dv 3) (qab (dv 2) qal qaa) qaa) qaa (qae qaa qad)))
      (qao (qaE (i:=6) sc_next_step.nd rfl (Or.inl rfl) (qaq Q_least_grown hr rfl (qab (dv 3) (qab (dv 7) qal qaa) qaa) qaa (qae qaa qad)))
      (qbW (qcZ (qa5 qlN (dvq 6) (PD.q qbK) (qaD _)) (qaw (qaN (qaq Q_best_ending hr rfl (qab (dv 3) (qab (dv 7) qal qaa) qaa) qaa (qae qaa qad)))) qbs)
      (qao (qaE (i:=4) sc_next_step.nd rfl (Or.inl rfl) (qaq Q_stopping_row hr rfl (qab (dv 0) (qab (dv 1) (qab (dv 3) (qab (qa1 (PD.q (qbQ T_Stand.cl T_Stand.n_ways T_Stand.ns (dvq 3))) (dvq 6) (fun _ _=>rfl)) qal qac) qaa) qaa) qaa) qaa (qae qaa (qae qaa (qae qac qad)))))
      (qbW (qcZ (qa5 qlN (dvq 4) (PD.q qbK) (qaD _)) (qaw (qaN (qaq Q_endless_ending hr rfl (qab (dv 3) (qab (qa1 (PD.q (qbQ T_Stand.cl T_Stand.n_ways T_Stand.ns (dvq 3))) (dvq 6) (fun _ _=>rfl)) qal qac) qaa) qaa (qae qac qad)))) qbs)
      (qaw (qaN (qcc (qab qdI (qab (dv 6) (qab (dv 4) qal qaa) qaa) qak))))))))))),?_⟩
  have z:=hf.sz hrw
  have n8:=hrw.n8
  have hbig:=hf.big hrw
  have hrb:=hrw.big
  have hns:∀ k∈qbo rs.length,0≤k∧k<(rs.length:Int):=fun k hk=>qhY hk
  have gb:∀ x∈goal,qbT x:=fun x hx=>qbL (hgb x hx) (by decide)
  have hw1:sd.ways.length=m:=hf.wl
  have hh1:=hf.hl
  refine ⟨rs,qbo rs.length,sd,rfl,hbig,hrb,hns,fun i k hk hov hpre=>?_,fun hall=>?_⟩
  · obtain ⟨rfl,hi⟩:=qeM hk
    have hms:qlQ rs sd (i:Int):=⟨⟨by omega,by omega⟩,hov,fun r r0 r1=>by
      have:=hpre r.toNat r (by omega) (by rw [qcy (by omega)];congr 1;omega)
      exact this⟩
    have hrow:=hrb _ (qaO (rs:=rs) (k:=(i:Int)) (by omega) (by omega))
    refine ⟨fun _=>False,⟨fun _=>?_,fun h=>(by cases h)⟩,fun _ h=>h.elim⟩
    refine ⟨_,qdR (by omega) (by omega),_,rfl,sd,(qag rs (i:Int)).1,rfl,hbig,hrow.1,hrow.2.1,?_⟩
    refine ⟨sd,gsL sd (qag rs (i:Int)).1,rfl,by rw [qaT];omega,by rw [qaT];omega,fun o ho=>?_⟩
    cases o with
    | none =>
      refine ⟨fun _=>False,⟨fun _=>?_,fun h=>(by cases h)⟩,fun _ h=>h.elim⟩
      have hnh:(i:Int)∉sd.held:=hf.notheld (by omega) fun hin=>by
        have e:=hf.ok.ov0 hin
        rw [← qlA hf hrw (by omega) (by omega)] at e
        omega
      exact ⟨sd,(i:Int),gsL sd (qag rs (i:Int)).1,rfl,by rw [qaT];omega,by rw [qaT];omega,z.b0,z.b9,hf.nd,hnh,fun qs hp hs=>q _ (.non _ qs hms ho hp hs)⟩
    | some p =>
      refine ⟨fun ρ=>ρ=[some (.v (.tup (rs.map qbe))),some (.v (.tup ((qbo rs.length).map D.int))),some (.v (.tup (goal.map D.int))),some (.v (stD sd)),some (.v (.int (i:Int))),some (.v (.tup ((gsL sd (qag rs (i:Int)).1).map D.int))),some (.v (.int (p:Int))),none],⟨fun h=>(by cases h),fun _=>rfl⟩,?_⟩
      rintro ρ rfl
      exact q _ (.stepA _ p hms ho)
  · have hmet:Met rs sd:=fun r r0 r1=>hall r (List.mem_of_getElem? (i:=r.toNat) (by rw [qcy (by omega)];congr 1;omega))
    refine ⟨fun ρ=>ρ=[some (.v (.tup (rs.map qbe))),some (.v (.tup ((qbo rs.length).map D.int))),some (.v (.tup (goal.map D.int))),some (.v (stD sd)),some (.v .non),none,none,none],⟨fun h=>(by cases h),fun _=>rfl⟩,?_⟩
    rintro ρ rfl
    refine ⟨sd,goal,rfl,hbig,by omega,gb,?_⟩
    refine ⟨sd,gsL sd goal,rfl,by rw [qaT];omega,by rw [qaT];omega,fun o ho=>?_⟩
    cases o with
    | none =>
      refine ⟨fun _=>False,⟨fun _=>?_,fun h=>(by cases h)⟩,fun _ h=>h.elim⟩
      exact ⟨sd,gsL sd goal,rfl,by rw [qaT];omega,by rw [qaT];omega,z.b0,z.b9,hf.nd,by rw [hf.tl];omega,fun qs hp hs=>q _ (.best qs hmet ho hp hs)⟩
    | some p =>
      refine ⟨fun ρ=>ρ=[some (.v (.tup (rs.map qbe))),some (.v (.tup ((qbo rs.length).map D.int))),some (.v (.tup (goal.map D.int))),some (.v (stD sd)),some (.v .non),none,some (.v (.int (p:Int))),some (.v (.tup ((gsL sd goal).map D.int)))],⟨fun h=>(by cases h),fun _=>rfl⟩,?_⟩
      rintro ρ rfl
      obtain ⟨hp1,hp2,hp3⟩:=id ho
      have hpl:p<sd.ways.length:=by rw [qaT] at hp1;exact hp1
      have hwp:=qax (d:=[]) hpl
      have wat:atI (sd.ways.map wD) (p:Int)=some (wD (sd.ways.getD p [])):=qbn (i:=p) (qaQ hpl) rfl
      have hwl:=hf.ww _ hwp
      refine ⟨rfl,_,qdF sd,_,wat,rs,qbo rs.length,sd,sd.ways.getD p [],rfl,hbig,hrb,hns,hbig.wb _ hwp,fun k hk=>?_,fun o2 ho2=>?_⟩
      · obtain ⟨k0,k1⟩:=hns k hk
        have hm:=qaO k0 k1
        refine ⟨qbL (qj9 hf hrw hm) (by decide),?_⟩
        show (- dot (qag rs k).1 (sd.ways.getD p [])).natAbs<_
        rw [Int.natAbs_neg]
        exact qbL (qem n8 (hrw.len _ hm) hwl (hrw.eb _ hm) (z.w _ hwp)) (by decide)
      · rw [qhv] at ho2
        cases o2 with
        | none =>
          refine ⟨fun _=>False,⟨fun _=>?_,fun h=>(by cases h)⟩,fun _ h=>h.elim⟩
          have g0:0<qa6 (sd.ways.getD p []):=by
            have h1:=qb7 (sd.ways.getD p [])
            by_cases c:qa6 (sd.ways.getD p [])=0
            · have:=qfy c
              rw [qcE hpl,qez this] at hp2
              omega
            · omega
          have g1:qa6 (sd.ways.getD p [])<2 ^ 9000:=by
            have h1:=qim (ns:=sd.ways.getD p []) (m:=2 ^ 9000) (fun x hx=>Nat.lt_of_le_of_lt (z.w _ hwp x hx) (Nat.pow_lt_pow_right (by decide) (by decide))) (Nat.pow_pos (by decide))
            have h6:((2 ^ 9000:Nat):Int)=2 ^ 9000:=by rw [Int.natCast_pow];rfl
            rw [h6] at h1
            exact h1
          exact ⟨rfl,_,qdF sd,_,wat,sd,sd.ways.getD p [],rfl,by rw [hf.tl];omega,z.b0,z.b9,by omega,g0,g1,q _ (.endl p hmet ho ho2)⟩
        | some k =>
          refine ⟨fun ρ=>ρ=[some (.v (.tup (rs.map qbe))),some (.v (.tup ((qbo rs.length).map D.int))),some (.v (.tup (goal.map D.int))),some (.v (stD sd)),some (.v (.int k)),none,some (.v (.int (p:Int))),some (.v (.tup ((gsL sd goal).map D.int)))],⟨fun h=>(by cases h),fun _=>rfl⟩,?_⟩
          rintro ρ rfl
          exact q _ (.stepB k p hmet ho ho2)
def Few (rs:List Row) (m:Nat):Prop:=2 ^ rs.length≤8388608∨rs.length ^ m≤8388608
def StepOk (rs:List Row) (goal:List Int) (sd:Std) (p:Nat) (q:Int):Prop:=(qlQ rs sd q∧Lg sd (gsL sd (qag rs q).1) (some p))∨(Met rs sd∧Lg sd (gsL sd goal) (some p)∧Stop rs (qbo rs.length) sd (sd.ways.getD p []) rs.length (some q))
inductive Run (rs:List Row) (goal:List Int) (a:Std):Nat→Std→Prop
  | nil:Run rs goal a 0 a
  | snoc {j:Nat} {b:Std} {p:Nat} {q:Int}:Run rs goal a j b→b.held.Nodup→b.held.length=b.ways.length→StepOk rs goal b p q→Run rs goal a (j+1) (exL (qag rs q) b p q)
structure Hist (rs:List Row) (goal:List Int) (m:Nat) (sd0 sd:Std) (st:List (Int × Int)) (j:Nat):Prop where
  run:Run rs goal sd0 j sd
  ex:∃ S P Q,Wk.Chain m rs.length (aL rs) (BL rs) (cL goal) j S P Q∧S 0=sdL sd0∧S j=sdL sd∧st.length=j∧∀ i,i<j→st[i]?=some (((S i).h (P i):Int),(Q i:Int))
inductive End (rs:List Row) (goal:List Int) (sd:Std):D→Prop
  | non (q:Int) (qs:List (Int × Int)):qlQ rs sd q→Lg sd (gsL sd (qag rs q).1) none→qs.Perm (shP sd (gsL sd (qag rs q).1)++[(q,shD sd (gsL sd (qag rs q).1))])→qs.Pairwise (fun a b=>a.1<b.1)→End rs goal sd (qlK qs)
  | best (qs:List (Int × Int)):Met rs sd→Lg sd (gsL sd goal) none→qs.Perm (shP sd (gsL sd goal))→qs.Pairwise (fun a b=>a.1<b.1)→End rs goal sd (qfY (qcF sd.tops sd.bot) qs (shD sd (gsL sd goal)))
  | endl (p:Nat):Met rs sd→Lg sd (gsL sd goal) (some p)→Stop rs (qbo rs.length) sd (sd.ways.getD p []) rs.length none→End rs goal sd (qk7 (qcF sd.tops sd.bot) ((sd.ways.getD p []).map (· / qa6 (sd.ways.getD p []))))
theorem Hist.start (rs:List Row) (goal:List Int) (m:Nat) (sd:Std):Hist rs goal m sd sd [] 0:=⟨.nil,fun _=>sdL sd,fun _=>0,fun _=>0,Wk.chain0 _,rfl,rfl,rfl,fun i h=>absurd h (by omega)⟩
theorem Hist.less {rs:List Row} {goal:List Int} {m:Nat} {sd0 sd:Std} {st:List (Int × Int)} {j:Nat} (h:Hist rs goal m sd0 sd st j) (o:Wf rs m sd0) (hf:Few rs m):j<8388608∧st.length=j:=by
  obtain ⟨S,P,Q,C,e0,e1,e2,_⟩:=h.ex
  refine ⟨?_,e2⟩
  rcases hf with f | f
  · have:=C.short
    omega
  · have:=C.fewer (by rw [e0];exact o.ok)
    omega
theorem StepOk.all {rs:List Row} {goal:List Int} {m:Nat} {sd:Std} {p:Nat} {q:Int} (h:StepOk rs goal sd p q) (hrw:RsW rs m) (hf:Wf rs m sd) (hg:qfn goal m) :
    p<m∧(0≤q∧q<rs.length)∧Wk.gr m (aL rs) (sdL sd) q.toNat p≠0∧(Wk.StA m rs.length (aL rs) (BL rs) (sdL sd) p q.toNat∨Wk.StB m rs.length (aL rs) (BL rs) (cL goal) (sdL sd) p q.toNat):=by
  have hw:=hf.wl
  have ix:∀ r:Nat,((r:Int)).toNat=r:=fun r=>by omega
  have hlt:∀ k,k<m→(sdL sd).h k<(sdL sd).h p→p<m→sd.held.getD k 0<sd.held.getD p 0:=fun k hk h hp=>by
    have e1:=hf.heldNat hk
    have e2:=hf.heldNat hp
    omega
  rcases h with ⟨⟨⟨q0,q1⟩,hm,hl⟩,hp,hpg,hpl⟩ | ⟨hmet,⟨hp,hpg,hpl⟩,i,hi,hiq,hfq,hall⟩
  · rw [qaT,hw] at hp
    rw [qcE (by omega),qns hf hrw q0 q1 hp] at hpg
    refine ⟨hp,⟨q0,q1⟩,by omega,.inl ⟨hp,by omega,?_,fun r hr=>?_,hpg,fun k hk hkp=>?_⟩⟩
    · rw [← qlA hf hrw q0 q1];exact hm
    · have:=hl (r:Int) (by omega) (by omega)
      rw [qlA hf hrw (by omega) (by omega),ix] at this
      exact this
    · rcases Int.lt_or_le 0 (Wk.gr m (aL rs) (sdL sd) q.toNat k) with c | c
      · have:=hpl k (by rw [qaT,hw];exact hk) (by rw [qcE (by omega),qns hf hrw q0 q1 hk];exact c)
        have:=hlt k hk hkp hp
        omega
      · exact c
  · rw [qaT,hw] at hp
    rw [qcE (by omega),c_L hf hg.1 hp] at hpg
    obtain ⟨rfl,hi'⟩:=qeM hiq
    have fl:∀ r:Int,0≤r→r<rs.length→qbk rs (sd.ways.getD p []) r = - Wk.gr m (aL rs) (sdL sd) r.toNat p:=fun r r0 r1=>by
      unfold qbk
      rw [qns hf hrw r0 r1 hp]
    have q0:(0:Int)≤(i:Int):=by omega
    have q1:(i:Int)<rs.length:=by omega
    rw [fl _ q0 q1] at hfq
    refine ⟨hp,⟨q0,q1⟩,by omega,.inr ⟨hp,by omega,fun r hr=>?_,hpg,fun k hk hkp=>?_,by omega,fun r hr hrg=>?_⟩⟩
    · have:=hmet (r:Int) (by omega) (by omega)
      rw [qlA hf hrw (by omega) (by omega),ix] at this
      exact this
    · rcases Int.lt_or_le 0 (Wk.dt m (cL goal) ((sdL sd).W k)) with c | c
      · have:=hpl k (by rw [qaT,hw];exact hk) (by rw [qcE (by omega),c_L hf hg.1 hk];exact c)
        have:=hlt k hk hkp hp
        omega
      · exact c
    · have h1:=hall r (r:Int) (by omega) (qcy hr) (by rw [fl _ (by omega) (by omega),ix];omega)
      rw [fl (r:Int) (by omega) (by omega),fl _ q0 q1,qlA hf hrw q0 q1,qlA hf hrw (q:=(r:Int)) (by omega) (by omega),ix,ix] at h1
      rw [ix]
      exact ⟨h1.1,fun hrq=>h1.2 (by omega)⟩
theorem Hist.step {rs:List Row} {goal:List Int} {m:Nat} {sd0 sd:Std} {st:List (Int × Int)} {j p:Nat} {q:Int} (h:Hist rs goal m sd0 sd st j) (s:StepOk rs goal sd p q) (hrw:RsW rs m) (hf:Wf rs m sd) (hg:qfn goal m) :
    Wf rs m (exL (qag rs q) sd p q)∧Hist rs goal m sd0 (exL (qag rs q) sd p q) (st++[(sd.held.getD p 0,q)]) (j+1):=by
  obtain ⟨hp,⟨q0,q1⟩,hgr,hst⟩:=s.all hrw hf hg
  have hf2:=hf.ex hrw hp q0 q1 hgr
  refine ⟨hf2,?_⟩
  obtain ⟨S,P,Q,C,e0,e1,e2,e3⟩:=h.ex
  have x:Wk.Nx m rs.length (aL rs) (BL rs) (S j) (sdL (exL (qag rs q) sd p q)) p q.toNat:=by
    rw [e1]
    exact ⟨hf.ok,hf2.ok,hp,by omega,hgr,fun k hk=>by rw [qmx hf hrw hp q0 q1];rfl⟩
  have C2:=C.more x (by rw [e1];exact hst)
  refine ⟨.snoc h.run hf.nd (by rw [hf.hl,hf.wl]) s,_,_,_,C2,?_,?_,by rw [List.length_append,e2];rfl,fun i hi=>?_⟩
  · show (if 0≤j then S 0 else _)=_
    rw [if_pos (by omega)];exact e0
  · show (if j+1≤j then _ else _)=_
    rw [if_neg (by omega)]
  · show _=some ((((if i≤j then S i else _).h (if i<j then P i else p):Nat):Int),(((if i<j then Q i else q.toNat):Nat):Int))
    by_cases c:i<j
    · rw [if_pos (by omega),if_pos c,if_pos c,List.getElem?_append_left (by omega)]
      exact e3 i c
    · have e:i=j:=by omega
      subst e
      rw [if_pos (by omega),if_neg c,if_neg c,List.getElem?_append_right (by omega),e2,Nat.sub_self,e1,hf.heldNat hp]
      show some (sd.held.getD p 0,q)=_
      congr 2
      omega
theorem Hist.exB {rs:List Row} {m:Nat} {sd:Std} {p:Nat} {q:Int} (hrw:RsW rs m) (hf:Wf rs m sd) (hp:p<m) (h0:0≤q) (h1:q<rs.length):ExB (qag rs q) sd p:=by
  have z:=hf.sz hrw
  have n8:=hrw.n8
  have hm:=qaO h0 h1
  have hrb:=hrw.big _ hm
  exact ⟨hf.big hrw,hrb.1,hrb.2,by rw [hf.wl];exact hp,by rw [hf.hl,hf.wl],fun w hw=>by rw [hf.ww w hw];omega,by rw [hf.tl];omega,fun w hw=>qbL (qem n8 (hrw.len _ hm) (hf.ww w hw) (hrw.eb _ hm) (z.w w hw)) (by decide),qbL (qj9 hf hrw hm) (by decide),z.b0,z.b9⟩
def qfs:SpD:=fun ds R=>∃ (rs:List Row) (goal:List Int) (m:Nat) (sd0:Std),ds=[.tup (rs.map qbe),.tup ((qbo rs.length).map D.int),.tup (goal.map D.int),stD sd0]∧RsW rs m∧Wf rs m sd0∧qfn goal m∧Few rs m ∧
  ∀ sd st j d,Hist rs goal m sd0 sd st j→Wf rs m sd→End rs goal sd d→R (.tup [.tup (st.map prD),stD sd,d])
theorem qg8 {n:Nat} {f:Addr} {fd:FuncData} (F:Fun K "walk_on" "walk_on" qcI f fd) {C_Stand:Addr} (T_Stand:TxtStand K mg C_Stand) (Q_next_step:Cl P w K mg base n "next_step" ["rows","numbers","goal","stand"] qdB) (Q_exchanged:Cl P w K mg base n "exchanged" ["rows","stand","place","number"] qdX) (z_tuple:mg "tuple"=none):FnOk P w K mg base CX0 (n+1) f fd ["rows","numbers","goal","stand"] (lSp K qfs):=by
  refine F.okD sc_walk_on (fun ds R h=>?_) (fun cdv A outer s H E ds R hr h=>?_)
  · obtain ⟨rs,goal,m,sd0,rfl,_⟩:=h;rfl
  obtain ⟨rs,goal,m,sd0,rfl,hrw,hf0,hg,hfew,q⟩:=h
  refine ⟨_,(qao (qjE (i:=4) sc_walk_on.nd rfl (Or.inl rfl) (qcK qal))
      (qao (qaE (i:=5) sc_walk_on.nd rfl (Or.inl rfl) (qaq Q_next_step hr rfl (qab (dv 0) (qab (dv 1) (qab (dv 2) (qab (dv 3) qal qaa) qaa) qaa) qaa) qaa (qae qaa (qae qaa (qae qaa qad)))))
      (qao (qfW PassesOwn.never (qa5 (qe3 hr.units) (PD.q (qa1 (dvq 5) (PD.q qai) (fun _ _=>rfl))) (PD.q qdI) (qaD _)) (qao (qbU 4 (qcc (qab (qa1 (PD.q (qbQ T_Stand.cl T_Stand.n_held T_Stand.ns (dvq 3))) (PD.q (qa1 (dvq 5) (PD.q qai) (fun _ _=>rfl))) (fun _ _=>rfl)) (qab (qa1 (dvq 5) (PD.q qai) (fun _ _=>rfl)) qal qac) qac)) (qdD qeB) qeB)
      (qao (qaE (i:=3) sc_walk_on.nd rfl (Or.inl rfl) (qaq Q_exchanged hr rfl (qab (dv 0) (qab (dv 3) (qab (qa1 (dvq 5) (PD.q qai) (fun _ _=>rfl)) (qab (qa1 (dvq 5) (PD.q qai) (fun _ _=>rfl)) qal qac) qac) qaa) qaa) qaa (qae qaa (qae qac (qae qac qad)))))
      (qaw (qaE (i:=5) sc_walk_on.nd rfl (Or.inl rfl) (qaq Q_next_step hr rfl (qab (dv 0) (qab (dv 1) (qab (dv 2) (qab (dv 3) qal qaa) qaa) qaa) qaa) qaa (qae qaa (qae qaa (qae qaa qad)))))))))
      (qaw (qaN (qcc (qab (qaB qaP rfl z_tuple PyProof.Rows.boot_tuple (qap (dvq 4) qav qaa) qaa qad) (qab (dv 3) (qab (dv 5) qal qaa) qaa) qaj))))))),?_⟩
  refine ⟨rs,goal,m,sd0,rfl,hrw,hf0,hg,fun d0 hN0=>?_⟩
  refine ⟨fun k ρ=>∃ sd st j d,ρ=[some (.v (.tup (rs.map qbe))),some (.v (.tup ((qbo rs.length).map D.int))),some (.v (.tup (goal.map D.int))),some (.v (stD sd)),some (.own (st.map prD)),some (.v d)]∧Hist rs goal m sd0 sd st j∧Wf rs m sd∧Nxt rs goal sd d∧k=8388608 - j,⟨_,sd0,[],0,d0,rfl,.start rs goal m sd0,hf0,hN0,rfl⟩,?_⟩
  rintro k ρ ⟨sd,st,j,d,rfl,hH,hf,hN,rfl⟩
  obtain ⟨hj,hsl⟩:=hH.less hf0 hfew
  have hat:∀ p,p<m→atI (sd.held.map D.int) (p:Int)=some (.int (sd.held.getD p 0)):=fun p hp=>qbn (i:=p) (qaQ (by rw [hf.hl];exact hp)) rfl
  have more:∀ p qn,StepOk rs goal sd p qn→∀ d',Nxt rs goal (exL (qag rs qn) sd p qn) d'→∃ k',k'<8388608 - j∧∃ sd' st' j' d'',[some (Sl.v (.tup (rs.map qbe))),some (.v (.tup ((qbo rs.length).map D.int))),some (.v (.tup (goal.map D.int))),some (.v (stD (exL (qag rs qn) sd p qn))),some (.own ((st++[(sd.held.getD p 0,qn)]).map prD)),some (.v d')]=[some (.v (.tup (rs.map qbe))),some (.v (.tup ((qbo rs.length).map D.int))),some (.v (.tup (goal.map D.int))),some (.v (stD sd')),some (.own (st'.map prD)),some (.v d'')]∧Hist rs goal m sd0 sd' st' j'∧Wf rs m sd'∧Nxt rs goal sd' d''∧k'=8388608 - j':=fun p qn hs d' hN'=>by
    obtain ⟨hf2,hH2⟩:=hH.step hs hrw hf hg
    exact ⟨8388608 - (j+1),by omega,_,_,_,_,rfl,hH2,hf2,hN',rfl⟩
  have hsz:(st.map prD).length<sizeLine:=by rw [List.length_map,hsl];exact Nat.lt_of_lt_of_le hj (by decide)
  cases hN with
  | stepA qn p h1 h2 =>
    have hs:StepOk rs goal sd p qn:=.inl ⟨h1,h2⟩
    obtain ⟨hp,⟨q0,q1⟩,_,_⟩:=hs.all hrw hf hg
    obtain ⟨hf2,hH2⟩:=hH.step hs hrw hf hg
    refine ⟨_,rfl,fun _=>?_,fun h=>(by cases h)⟩
    refine ⟨rfl,_,qdx sd,_,rfl,_,hat p hp,_,rfl,hsz,_,qhg prD st (sd.held.getD p 0,qn),?_⟩
    refine ⟨_,rfl,_,rfl,rs,sd,p,qn,rfl,⟨q0,q1⟩,Hist.exB hrw hf hp q0 q1,?_⟩
    exact ⟨rs,goal,m,_,rfl,hrw,hf2,hg,fun d' hN'=>more p qn hs d' hN'⟩
  | stepB qn p h1 h2 h3 =>
    have hs:StepOk rs goal sd p qn:=.inr ⟨h1,h2,h3⟩
    obtain ⟨hp,⟨q0,q1⟩,_,_⟩:=hs.all hrw hf hg
    obtain ⟨hf2,hH2⟩:=hH.step hs hrw hf hg
    refine ⟨_,rfl,fun _=>?_,fun h=>(by cases h)⟩
    refine ⟨rfl,_,qdx sd,_,rfl,_,hat p hp,_,rfl,hsz,_,qhg prD st (sd.held.getD p 0,qn),?_⟩
    refine ⟨_,rfl,_,rfl,rs,sd,p,qn,rfl,⟨q0,q1⟩,Hist.exB hrw hf hp q0 q1,?_⟩
    exact ⟨rs,goal,m,_,rfl,hrw,hf2,hg,fun d' hN'=>more p qn hs d' hN'⟩
  | non qn qs h1 h2 h3 h4 =>
    refine ⟨_,rfl,fun h=>(by cases h),fun _=>?_⟩
    exact q sd st j _ hH hf (.non qn qs h1 h2 h3 h4)
  | best qs h1 h2 h3 h4 =>
    refine ⟨_,rfl,fun h=>(by cases h),fun _=>?_⟩
    exact q sd st j _ hH hf (.best qs h1 h2 h3 h4)
  | endl p h1 h2 h3 =>
    refine ⟨_,rfl,fun h=>(by cases h),fun _=>?_⟩
    exact q sd st j _ hH hf (.endl p h1 h2 h3)
theorem qjn {n M:Nat} {a:Wk.Mx} {B:Nat→Int} {S T:Wk.Sd} (o:Wk.Ok n a B M S) (hh:∀ k,k<n→T.h k=S.h k) (hW:∀ k i,k<n→i<n→T.W k i=S.W k i) (hx:∀ i,i<n→T.x i=S.x i) (hb:T.b=S.b):Wk.Ok n a B M T:=by
  obtain ⟨e,he,h1,h2⟩:=o.eps
  have ed:Wk.det n (fun k=>a (T.h k))=Wk.det n (fun k=>a (S.h k)):=Wk.det_congr fun i j hi _=>by show a (T.h i) j=a (S.h i) j;rw [hh i hi]
  have ec:∀ k j,Wk.co n (fun k=>a (T.h k)) k j=Wk.co n (fun k=>a (S.h k)) k j:=fun k j=>Wk.det_congr fun i l hi _=>by
    unfold Wk.up
    split
    · rfl
    · show a (T.h i) l=a (S.h i) l;rw [hh i hi]
  refine ⟨by rw [hb];exact o.pos,fun k hk=>by rw [hh k hk];exact o.lt k hk,⟨e,he,by rw [hb,ed];exact h1,fun k j hk hj=>by rw [hW k j hk hj,ec];exact h2 k j hk hj⟩,fun i j hi hj=>?_,fun i hi=>?_⟩
  · rw [hb,← o.lf i j hi hj]
    exact Wk.sm_congr fun k hk=>by rw [hW k i hk hi,hh k hk]
  · rw [hx i hi,o.cor i hi]
    exact Wk.sm_congr fun k hk=>by rw [hW k i hk hi,hh k hk]
def ql4 (rs:List Row) (m:Nat):Prop:=∀ k:Nat,k<m→(qag rs (k:Int)).1=unL m k
theorem qcv {α β:Type} (f:α→β) (g:Nat→α) {n k:Nat} {d:β} (h:k<n):((List.range n).map fun i=>f (g i)).getD k d=f (g k):=by
  rw [List.getD_eq_getElem?_getD,List.getElem?_map,List.getElem?_range h]
  rfl
theorem qgH {m k j:Nat} (hj:j<m):(unL m k).getD j 0=Wk.un k j:=by
  unfold unL Wk.un
  exact qcv (fun x:Int=>x) (fun o=>if o=k then (1:Int) else 0) hj
theorem qfV (m k:Nat):(unL m k).length=m:=by unfold unL;rw [List.length_map,List.length_range]
theorem qmq {rs:List Row} {m:Nat} (hr:RsW rs m) (hu:ql4 rs m):Wf rs m (qjD rs m):=by
  refine ⟨by show ((List.range m).map _).length=m;rw [List.length_map,List.length_range],fun k hk=>?_,by show ((List.range m).map _).length=m;rw [List.length_map,List.length_range],fun w hw=>?_,by show ((List.range m).map _).length=m;rw [List.length_map,List.length_range],?_⟩
  · obtain ⟨i,_,rfl⟩:=List.mem_map.mp (show k∈(List.range m).map _ from hk)
    omega
  · obtain ⟨i,_,rfl⟩:=List.mem_map.mp (show w∈(List.range m).map _ from hw)
    exact qfV m i
  · refine qjn (Wk.ok_start (n:=m) (M:=rs.length) (a:=aL rs) (B:=BL rs) hr.nM fun k j hk hj=>?_) (fun k hk=>?_) (fun k i hk hi=>?_) (fun i hi=>?_) rfl
    · unfold aL
      rw [hu k hk]
      exact qgH hj
    · show (((List.range m).map fun (i:Nat)=>(i:Int)).getD k 0).toNat=k
      rw [qcv (fun x:Int=>x) (fun i=>(i:Int)) hk]
      omega
    · show (((List.range m).map fun k=>unL m k).getD k []).getD i 0=Wk.un k i
      rw [qcv (fun x:List Int=>x) (fun i=>unL m i) hk]
      exact qgH hi
    · show ((List.range m).map fun (k:Nat)=>(qag rs (k:Int)).2).getD i 0=BL rs i
      exact qcv (fun x:Int=>x) (fun i=>(qag rs (i:Int)).2) hi
structure FirstOk (rs:List Row) (goal:List Int) (m:Nat):Prop where
  rw_:RsW rs m
  gw:qfn goal m
  few:Few rs m
  un:ql4 rs m
def qj1:SpD:=fun ds R=>∃ (rs:List Row) (goal:List Int) (m:Nat),ds=[.tup (rs.map qbe),.tup (goal.map D.int)]∧FirstOk rs goal m∧∀ sd st j d,Hist rs goal m (qjD rs m) sd st j→Wf rs m sd→End rs goal sd d→R (.tup [.tup (st.map prD),stD sd,d])
theorem qln {n:Nat} {f:Addr} {fd:FuncData} (F:Fun K "walk" "walk" qgC f fd) (Q_walk_on:Cl P w K mg base n "walk_on" ["rows","numbers","goal","stand"] qfs) (Q_beginning:Cl P w K mg base n "beginning" ["rows","n"] qdP) (z_tuple:mg "tuple"=none) (z_range:mg "range"=none) (z_len:mg "len"=none):FnOk P w K mg base CX0 (n+1) f fd ["rows","goal"] (lSp K qj1):=by
  refine F.okD qkM (fun ds R h=>?_) (fun cdv A outer s H E ds R hr h=>?_)
  · obtain ⟨rs,goal,m,rfl,_⟩:=h;rfl
  obtain ⟨rs,goal,m,rfl,ho,q⟩:=h
  refine ⟨_,(qaw (qaN (qaq Q_walk_on hr rfl (qab (dv 0) (qab (qen rfl rfl z_tuple rfl z_range (qab (qaH qcg rfl z_len PySem.boot_len (qap (dvq 0) qav qaa) qaa qad) qal qaj)) (qab (dv 1) (qab (qaq Q_beginning hr rfl (qab (dv 0) (qab (qaH qcg rfl z_len PySem.boot_len (qap (dvq 1) qav qaa) qaa qad) qal qaj) qaa) qaa (qae qaj qad)) qal qaj) qaa) qaj) qaa) qaa (qae qaj (qae qaa (qae qaj qad)))))),?_⟩
  have hM:=ho.rw_.M1
  have n8:=ho.rw_.n8
  have hgl:=ho.gw.1
  have hnl:(((rs.map qbe).length:Nat):Int)=(rs.length:Int):=by rw [List.length_map]
  have hgl2:(((goal.map D.int).length:Nat):Int)=(m:Int):=by rw [List.length_map,hgl]
  refine ⟨⟨by omega,by omega⟩,?_⟩
  have e3:qbz 0 (((rs.map qbe).length:Int)).toNat=(qbo rs.length).map D.int:=by
    rw [hnl]
    unfold qbz qbo
    rw [List.map_map,Int.toNat_natCast]
    exact List.map_congr_left fun i _=>by show D.int (0+(i:Int))=D.int (i:Int);rw [Int.zero_add]
  refine ⟨rs,m,by rw [← hgl2],by omega,ho.rw_.nM,?_⟩
  rw [e3]
  exact ⟨rs,goal,m,qjD rs m,rfl,ho.rw_,qmq ho.rw_ ho.un,ho.gw,ho.few,q⟩
def qiE:SpD:=fun ds R=>∃ (rs:List Row) (goal:List Int) (m:Nat),ds=[.tup (rs.map qbe),.tup (goal.map D.int)]∧FirstOk rs goal m∧∀ sd st j d,Hist rs goal m (qjD rs m) sd st j→Wf rs m sd→End rs goal sd d→R d
theorem qi6 {n:Nat} {f:Addr} {fd:FuncData} (F:Fun K "first" "first" qeF f fd) (Q_walk:Cl P w K mg base n "walk" ["rows","goal"] qj1):FnOk P w K mg base CX0 (n+1) f fd ["rows","goal"] (lSp K qiE):=by
  refine F.okD qjN (fun ds R h=>?_) (fun cdv A outer s H E ds R hr h=>?_)
  · obtain ⟨rs,goal,m,rfl,_⟩:=h;rfl
  obtain ⟨rs,goal,m,rfl,ho,q⟩:=h
  refine ⟨_,(qaw (qaN (qa1 (PD.q (qaq Q_walk hr rfl (qab (dv 0) (qab (dv 1) qal qaa) qaa) qaa (qae qaa qad))) (PD.q qai) (fun _ _=>rfl)))),?_⟩
  exact ⟨rs,goal,m,rfl,ho,fun sd st j d h hf he=>⟨_,rfl,q sd st j d h hf he⟩⟩
def qea (rs:List Row) (qs:List (Int × Int)) (k:Nat):Int:=(qs.map fun s=>s.2*(qag rs s.1).1.getD k 0).sum
def qd7 (rs:List Row) (qs:List (Int × Int)):Int:=(qs.map fun s=>s.2*(qag rs s.1).2).sum
theorem qdd {f:(Int × Int)→Int} {qs ps:List (Int × Int)} (h:qs.Perm ps):(qs.map f).sum=(ps.map f).sum:=by
  induction h with
  | nil=>rfl
  | cons x _ ih=>rw [List.map_cons,List.map_cons,List.sum_cons,List.sum_cons,ih]
  | swap x y l=>rw [List.map_cons,List.map_cons,List.map_cons,List.map_cons,List.sum_cons,List.sum_cons,List.sum_cons,List.sum_cons];omega
  | trans _ _ h1 h2=>exact h1.trans h2
theorem qgM (c:Nat→Bool) (g:Nat→Int) (hz:∀ i,c i=false→g i=0):∀ n:Nat,(((List.range n).filter c).map g).sum=Wk.sm n g
  | 0=>rfl
  | n+1=>by
    rw [List.range_succ,List.filter_append,List.map_append,List.sum_append,qgM c g hz n]
    show _=Wk.sm n g+g n
    congr 1
    cases e:c n with
    | true=>simp [e]
    | false=>simp [e,hz n e]
theorem qe0 {m:Int}:∀ {ns:List Int},(∀ x∈ns,m∣x)→m∣qa6 ns:=by
  have key:∀ (ns:List Int) (d:Int),m∣d→(∀ x∈ns,m∣x)→m∣ns.foldl (fun d x=>(Int.gcd x d:Int)) d:=by
    intro ns
    induction ns with
    | nil=>intro d hd _;exact hd
    | cons x r ih =>
      intro d hd hx
      exact ih _ (Int.dvd_coe_gcd (hx x List.mem_cons_self) hd) fun y hy=>hx y (List.mem_cons_of_mem _ hy)
  intro ns h
  exact key ns 0 (Int.dvd_zero m) h
theorem qir {l1 l2:List Int} (h:∀ x,x∈l1↔x∈l2):qa6 l1=qa6 l2:=by
  have a:qa6 l1∣qa6 l2:=qe0 fun x hx=>qbj l1 x ((h x).mpr hx)
  have b:qa6 l2∣qa6 l1:=qe0 fun x hx=>qbj l2 x ((h x).mp hx)
  exact Int.dvd_antisymm (qb7 _) (qb7 _) a b
theorem qgq {l:List Int} (h:0<qa6 l):qa6 (l.map (· / qa6 l))=1:=by
  generalize hd:qa6 l=d at h
  have h1:d*qa6 (l.map (· / d))∣d:=by
    conv=>rhs;rw [← hd]
    refine qe0 fun x hx=>?_
    have hx1:d∣x:=by rw [← hd];exact qbj l x hx
    have hx2:=qbj (l.map (· / d)) (x / d) (List.mem_map.mpr ⟨x,hx,rfl⟩)
    have:=Int.mul_dvd_mul_left d hx2
    rw [Int.mul_ediv_cancel' hx1] at this
    exact this
  have nn:=qb7 (l.map (· / d))
  generalize qa6 (l.map (· / d))=e at *
  obtain ⟨k,hk⟩:=h1
  have h2:d*(e*k)=d*1:=by rw [← Int.mul_assoc,← hk,Int.mul_one]
  have h3:e*k=1:=Int.eq_of_mul_eq_mul_left (by omega) h2
  exact Int.eq_one_of_dvd_one nn ⟨k,h3.symm⟩
theorem qf9 (ts:List Int) (b:Int):qbS ts b=qa6 (ts++[b]):=by
  unfold qbS
  rw [qdq,Int.gcd_comm]
theorem qdh {ts:List Int} {b:Int} (h:0<b):0<qbS ts b:=by
  have:=Int.gcd_pos_of_ne_zero_right (qa6 ts) (show b≠0 by omega)
  unfold qbS
  omega
theorem qgK {ts:List Int} {b:Int} (h:0<b):qa6 (ts.map (· / qbS ts b)++[b / qbS ts b])=1:=by
  have h0:=qdh (ts:=ts) h
  have e:ts.map (· / qbS ts b)++[b / qbS ts b]=(ts++[b]).map (· / qa6 (ts++[b])):=by rw [← qf9,List.map_append];rfl
  rw [e]
  exact qgq (by rw [← qf9];exact h0)
theorem qex {ts:List Int} {b:Int}:(∀ x∈ts,qbS ts b∣x)∧qbS ts b∣b:=by
  rw [qf9]
  exact ⟨fun x hx=>qbj _ x (List.mem_append_left _ hx),qbj _ b (List.mem_append_right _ (by simp))⟩
theorem qdn {g:Int}:∀ {xs ys:List Int},(∀ y∈ys,g∣y)→dot xs (ys.map (· / g))*g=dot xs ys
  | [],_,_=>by show 0*g=0;omega
  | _::_,[],_=>by show 0*g=0;omega
  | x::xs,y::ys,h=>by
    have ih:=qdn (xs:=xs) (ys:=ys) fun z hz=>h z (List.mem_cons_of_mem _ hz)
    have e1:dot (x::xs) ((y::ys).map (· / g))=x*(y / g)+dot xs (ys.map (· / g)):=by unfold dot;rw [List.map_cons,List.zipWith_cons_cons,List.sum_cons]
    have e2:dot (x::xs) (y::ys)=x*y+dot xs ys:=by unfold dot;rw [List.zipWith_cons_cons,List.sum_cons]
    rw [e1,e2,Int.add_mul,ih,Int.mul_assoc,Int.ediv_mul_cancel (h y List.mem_cons_self)]
theorem qdy {x g:Int} (h:0<g) (hd:g∣x):(x / g).natAbs≤x.natAbs:=by
  obtain ⟨k,rfl⟩:=hd
  rw [Int.mul_ediv_cancel_left k (by omega),Int.natAbs_mul]
  have:1≤g.natAbs:=by omega
  exact Nat.le_mul_of_pos_left _ this
theorem qf7 {x g:Int} (h:0<g) (hd:g∣x) (hx:0<x):1≤x / g:=by
  obtain ⟨k,rfl⟩:=hd
  rw [Int.mul_ediv_cancel_left k (by omega)]
  rcases Int.lt_or_le 0 k with c | c
  · omega
  · have:=Wk.np (Int.le_of_lt h) c
    omega
theorem qjx {rs:List Row} {m:Nat} {sd:Std} (hrw:RsW rs m) (hf:Wf rs m sd) (hmet:Met rs sd) :
    (qcF sd.tops sd.bot).1.length=m∧1≤(qcF sd.tops sd.bot).2∧qa6 ((qcF sd.tops sd.bot).1++[(qcF sd.tops sd.bot).2])=1∧qdK (qcF sd.tops sd.bot)∧∀ r∈rs,r.1.length≤1000∧qdK r∧r.2*(qcF sd.tops sd.bot).2≤dot r.1 (qcF sd.tops sd.bot).1:=by
  have z:=hf.sz hrw
  have g0:=qdh (ts:=sd.tops) z.b0
  obtain ⟨gd,gb⟩:=qex (ts:=sd.tops) (b:=sd.bot)
  refine ⟨by show (sd.tops.map _).length=m;rw [List.length_map];exact hf.tl,qf7 g0 gb z.b0,qgK z.b0,⟨fun x hx=>?_,?_⟩,fun r hr=>?_⟩
  · obtain ⟨y,hy,rfl⟩:=List.mem_map.mp (show x∈sd.tops.map _ from hx)
    exact qbL (Nat.le_trans (qdy g0 (gd y hy)) (z.t y hy)) (by decide)
  · exact qbL (Nat.le_trans (qdy g0 gb) z.b) (by decide)
  · obtain ⟨rl,rb⟩:=hrw.big r hr
    refine ⟨rl,rb,?_⟩
    obtain ⟨k,hk⟩:=List.getElem?_of_mem hr
    have hkl:=qaF hk
    have er:qag rs (k:Int)=r:=by
      unfold qag
      rw [List.getD_eq_getElem?_getD,Int.toNat_natCast,hk]
      rfl
    have h1:=hmet (k:Int) (by omega) (by omega)
    rw [er] at h1
    unfold ovL at h1
    have h2:=qdn (xs:=r.1) gd
    have h3:r.2*(sd.bot / qbS sd.tops sd.bot)*qbS sd.tops sd.bot=r.2*sd.bot:=by rw [Int.mul_assoc,Int.ediv_mul_cancel gb]
    show r.2*(sd.bot / qbS sd.tops sd.bot)≤dot r.1 (sd.tops.map (· / qbS sd.tops sd.bot))
    refine Int.le_of_mul_le_mul_right ?_ g0
    rw [h2,h3]
    omega
theorem qib {α:Type} (f:α→Int) (g:Int):∀ l:List α,(l.map f).sum*g=(l.map fun x=>f x*g).sum
  | []=>by show 0*g=0;omega
  | x::l=>by rw [List.map_cons,List.map_cons,List.sum_cons,List.sum_cons,Int.add_mul,qib f g l]
theorem qnb {sd:Std} {gs:List Int}:∀ s∈qbX sd gs,∃ i,i<gs.length∧gs.getD i 0<0∧s=(sd.held.getD i 0,- gs.getD i 0):=fun s hs=>by
  obtain ⟨i,hi,rfl⟩:=List.mem_map.mp (show s∈List.map _ _ from hs)
  obtain ⟨h1,h2⟩:=List.mem_filter.mp hi
  exact ⟨i,List.mem_range.mp h1,of_decide_eq_true h2,rfl⟩
theorem qlg {sd:Std} {gs:List Int} (h:0<sd.bot):0<shG sd gs:=qdh h
theorem qhq {sd:Std} {gs:List Int}:(∀ s∈qbX sd gs,shG sd gs∣s.2)∧shG sd gs∣sd.bot:=by
  obtain ⟨a,b⟩:=qex (ts:=(qbX sd gs).map (·.2)) (b:=sd.bot)
  exact ⟨fun s hs=>a s.2 (List.mem_map.mpr ⟨s,hs,rfl⟩),b⟩
theorem qjZ {sd:Std} {gs:List Int} (hg:∀ i,i<gs.length→gs.getD i 0≤0) (φ:Int→Int):((shP sd gs).map fun s=>s.2*φ s.1).sum*shG sd gs = - Wk.sm gs.length (fun i=>gs.getD i 0*φ (sd.held.getD i 0)):=by
  rw [qib]
  unfold shP
  rw [List.map_map]
  have e1:(qbX sd gs).map ((fun s:Int × Int=>s.2*φ s.1*shG sd gs) ∘ fun p=>(p.1,p.2 / shG sd gs))=(qbX sd gs).map fun p=>p.2*φ p.1:=by
    refine List.map_congr_left fun p hp=>?_
    show p.2 / shG sd gs*φ p.1*shG sd gs=p.2*φ p.1
    rw [Int.mul_assoc,Int.mul_comm (φ p.1),← Int.mul_assoc,Int.ediv_mul_cancel (qhq.1 p hp)]
  rw [e1]
  unfold qbX
  rw [List.map_map]
  have e2:((fun p:Int × Int=>p.2*φ p.1) ∘ fun i=>(sd.held.getD i 0,- gs.getD i 0))=fun i=>- gs.getD i 0*φ (sd.held.getD i 0):=rfl
  rw [e2,qgM]
  · have:=Wk.sm_mul (-1) (fun i=>gs.getD i 0*φ (sd.held.getD i 0)) gs.length
    rw [show - Wk.sm gs.length (fun i=>gs.getD i 0*φ (sd.held.getD i 0)) = -1*Wk.sm gs.length (fun i=>gs.getD i 0*φ (sd.held.getD i 0)) by omega,← this]
    refine Wk.sm_congr fun i _=>?_
    show - gs.getD i 0*φ _ = -1*(gs.getD i 0*φ _)
    rw [Int.neg_mul]
    omega
  · intro i hi
    have h1:=of_decide_eq_false hi
    have h2:gs.getD i 0=0:=by
      by_cases c:i<gs.length
      · have:=hg i c
        omega
      · exact qaW (by omega)
    show - gs.getD i 0*_=0
    rw [h2]
    simp
structure ShOk (rs:List Row) (sd:Std) (es:List Int) (m:Nat):Prop where
  g0:0<shG sd (gsL sd es)
  d1:1≤shD sd (gsL sd es)
  dg:shD sd (gsL sd es)*shG sd (gsL sd es)=sd.bot
  row:∀ k,k<m→qea rs (shP sd (gsL sd es)) k*shG sd (gsL sd es) = - (sd.bot*es.getD k 0)
  bnd:qd7 rs (shP sd (gsL sd es))*shG sd (gsL sd es) = - dot es sd.tops
  ok:∀ s∈shP sd (gsL sd es),(0≤s.1∧s.1<rs.length)∧1≤s.2∧qbT s.2
  one:qa6 ((shP sd (gsL sd es)).map (·.2)++[shD sd (gsL sd es)])=1
  dB:qbT (shD sd (gsL sd es))
theorem qjY {rs:List Row} {m:Nat} {sd:Std} {es:List Int} (hrw:RsW rs m) (hf:Wf rs m sd) (hel:es.length=m) (heb:∀ x∈es,x.natAbs≤2 ^ 900) (hlg:Lg sd (gsL sd es) none):ShOk rs sd es m:=by
  have z:=hf.sz hrw
  have g0:=qlg (gs:=gsL sd es) z.b0
  obtain ⟨gw,gb⟩:=qhq (sd:=sd) (gs:=gsL sd es)
  have gl:(gsL sd es).length=m:=by rw [qaT,hf.wl]
  have hW:∀ i,i<m→(gsL sd es).getD i 0=Wk.dt m (fun j=>es.getD j 0) ((sdL sd).W i):=fun i hi=>by rw [qcE (by rw [hf.wl];exact hi)];exact c_L hf hel hi
  have hh:∀ i,i<m→qag rs (sd.held.getD i 0)=qag rs (((sdL sd).h i:Nat):Int):=fun i hi=>by rw [hf.heldNat hi]
  have bp:=z.b0
  refine ⟨g0,qf7 g0 gb z.b0,Int.ediv_mul_cancel gb,fun k hk=>?_,?_,fun s hs=>?_,?_,qbL (Nat.le_trans (qdy g0 gb) z.b) (by decide)⟩
  · have h1:=qjZ (sd:=sd) hlg fun r=>(qag rs r).1.getD k 0
    rw [gl] at h1
    show ((shP sd (gsL sd es)).map fun s=>s.2*(qag rs s.1).1.getD k 0).sum*_=_
    rw [h1]
    congr 1
    have h2:=hf.ok.row (fun j=>es.getD j 0) hk
    have e:(sdL sd).b=sd.bot:=rfl
    rw [e] at h2
    rw [← h2]
    refine Wk.sm_congr fun i hi=>?_
    rw [hW i hi,hh i hi]
    rfl
  · have h1:=qjZ (sd:=sd) hlg fun r=>(qag rs r).2
    rw [gl] at h1
    show ((shP sd (gsL sd es)).map fun s=>s.2*(qag rs s.1).2).sum*_=_
    rw [h1]
    congr 1
    have h2:=hf.ok.comb (fun j=>es.getD j 0) (sdL sd).x
    have h3:Wk.sm m (fun k=>Wk.dt m (fun j=>es.getD j 0) ((sdL sd).W k)*Wk.dt m (aL rs ((sdL sd).h k)) (sdL sd).x)=sd.bot*Wk.sm m (fun i=>(gsL sd es).getD i 0*(qag rs (sd.held.getD i 0)).2):=by
      rw [← Wk.sm_mul]
      refine Wk.sm_congr fun i hi=>?_
      rw [hf.ok.corner hi,hW i hi,hh i hi]
      show _*(BL rs _*sd.bot)=sd.bot*(_*BL rs _)
      generalize Wk.dt m (fun j=>es.getD j 0) ((sdL sd).W i)=x
      generalize BL rs ((sdL sd).h i)=y
      rw [Int.mul_comm sd.bot,Int.mul_assoc]
    rw [h3] at h2
    have e:(sdL sd).b=sd.bot:=rfl
    rw [e] at h2
    have h4:=Int.eq_of_mul_eq_mul_left (by omega) h2
    rw [← h4,qby hel hf.tl]
    rfl
  · obtain ⟨p,hp,rfl⟩:=List.mem_map.mp (show s∈List.map _ _ from hs)
    have hd:=gw p hp
    obtain ⟨i,hi,hneg,rfl⟩:=qnb p hp
    rw [gl] at hi
    have e1:=hf.heldNat hi
    have e2:=hf.ok.lt i hi
    refine ⟨⟨by show 0≤sd.held.getD i 0;omega,by show sd.held.getD i 0<_;omega⟩,qf7 g0 hd (by show 0 < - (gsL sd es).getD i 0;omega),?_⟩
    refine qbL (m:=900+7224+3) (Nat.le_trans (qdy g0 hd) ?_) (by decide)
    show (- (gsL sd es).getD i 0).natAbs≤_
    have hiw:i<sd.ways.length:=by rw [hf.wl];exact hi
    rw [Int.natAbs_neg,qcE hiw]
    exact qem hrw.n8 hel (hf.ww _ (qax hiw)) heb (z.w _ (qax hiw))
  · have:=qgK (ts:=(qbX sd (gsL sd es)).map (·.2)) z.b0
    have e:(shP sd (gsL sd es)).map (·.2)=((qbX sd (gsL sd es)).map (·.2)).map (· / qbS ((qbX sd (gsL sd es)).map (·.2)) sd.bot):=by
      unfold shP shG
      rw [List.map_map,List.map_map]
      rfl
    rw [e]
    exact this
structure NonOk (rs:List Row) (m:Nat) (qs:List (Int × Int)):Prop where
  pw:qs.Pairwise (fun a b=>a.1<b.1)
  ok:∀ s∈qs,(0≤s.1∧s.1<rs.length)∧1≤s.2∧qbT s.2
  len:qs.length≤900
  row:∀ k,k<m→qea rs qs k=0
  bnd:0<qd7 rs qs
  one:qa6 (qs.map (·.2))=1
structure PtOk (rs:List Row) (m:Nat) (p:Row):Prop where
  len:p.1.length=m
  one:1≤p.2
  low:qa6 (p.1++[p.2])=1
  big:qdK p
  met:∀ r∈rs,r.1.length≤1000∧qdK r∧r.2*p.2≤dot r.1 p.1
structure EndlOk (rs:List Row) (goal:List Int) (m:Nat) (p:Row) (ray:List Int):Prop where
  pt:PtOk rs m p
  len:ray.length=m
  big:∀ x∈ray,qbT x
  one:qa6 ray=1
  grow:0<dot goal ray
  up:∀ r∈rs,0≤dot r.1 ray
structure BestOk (rs:List Row) (goal:List Int) (m:Nat) (p:Row) (qs:List (Int × Int)) (d:Int):Prop where
  pt:PtOk rs m p
  pw:qs.Pairwise (fun a b=>a.1<b.1)
  ok:∀ s∈qs,(0≤s.1∧s.1<rs.length)∧1≤s.2∧qbT s.2
  len:qs.length≤900
  d1:1≤d
  dB:qbT d
  one:qa6 (qs.map (·.2)++[d])=1
  row:∀ k,k<m→qea rs qs k = -d*goal.getD k 0
  bnd:qd7 rs qs*p.2 = -d*dot goal p.1
  tB:qbT (qd7 rs qs)
  gB:qbT (dot goal p.1)
theorem qgg {x g:Int} (hg:0<g) (h:x*g=0):x=0:=by
  rcases Int.mul_eq_zero.mp h with h | h
  · exact h
  · omega
theorem qep {x g:Int} (hg:0<g):x.natAbs≤(x*g).natAbs:=by
  rw [Int.natAbs_mul]
  exact Nat.le_mul_of_pos_right _ (by omega)
theorem qhu (rs:List Row) (qs:List (Int × Int)) (s:Int × Int):(∀ k,qea rs (qs++[s]) k=qea rs qs k+s.2*(qag rs s.1).1.getD k 0)∧qd7 rs (qs++[s])=qd7 rs qs+s.2*(qag rs s.1).2:=by
  unfold qea qd7
  exact ⟨fun k=>by rw [List.map_append,List.sum_append];simp,by rw [List.map_append,List.sum_append];simp⟩
theorem qkT {rs:List Row} {m:Nat} {sd:Std} {q:Int} {qs:List (Int × Int)} (hrw:RsW rs m) (hf:Wf rs m sd) (hms:qlQ rs sd q) (hlg:Lg sd (gsL sd (qag rs q).1) none) (hp:qs.Perm (shP sd (gsL sd (qag rs q).1)++[(q,shD sd (gsL sd (qag rs q).1))])) (hw:qs.Pairwise (fun a b=>a.1<b.1)):NonOk rs m qs:=by
  obtain ⟨⟨q0,q1⟩,hov,_⟩:=hms
  have hm:=qaO q0 q1
  have S:=qjY hrw hf (hrw.len _ hm) (hrw.eb _ hm) hlg
  have n8:=hrw.n8
  have tl:∀ k,qea rs qs k=qea rs (shP sd (gsL sd (qag rs q).1)) k+shD sd (gsL sd (qag rs q).1)*(qag rs q).1.getD k 0:=fun k=>by
    rw [← (qhu rs _ (q,_)).1]
    exact qdd hp
  have tb:qd7 rs qs=qd7 rs (shP sd (gsL sd (qag rs q).1))+shD sd (gsL sd (qag rs q).1)*(qag rs q).2:=by
    rw [← (qhu rs _ (q,_)).2]
    exact qdd hp
  have mem:∀ s∈qs,s∈shP sd (gsL sd (qag rs q).1)∨s=(q,shD sd (gsL sd (qag rs q).1)):=fun s hs=>(List.mem_append.mp (hp.mem_iff.mp hs)).imp id fun z=>by simpa using z
  refine ⟨hw,fun s hs=>?_,?_,fun k hk=>?_,?_,?_⟩
  · rcases mem s hs with h | rfl
    · exact S.ok s h
    · exact ⟨⟨q0,q1⟩,S.d1,S.dB⟩
  · rw [hp.length_eq,List.length_append]
    have:=qcr sd (gsL sd (qag rs q).1)
    rw [qaT,hf.wl] at this
    show _+1≤900
    omega
  · refine qgg S.g0 ?_
    rw [tl,Int.add_mul,S.row k hk,Int.mul_assoc,Int.mul_comm ((qag rs q).1.getD k 0),← Int.mul_assoc,S.dg]
    omega
  · have h1:qd7 rs qs*shG sd (gsL sd (qag rs q).1) = - ovL (qag rs q) sd:=by
      rw [tb,Int.add_mul,S.bnd,Int.mul_assoc,Int.mul_comm (qag rs q).2,← Int.mul_assoc,S.dg]
      unfold ovL
      rw [Int.mul_comm (qag rs q).2]
      omega
    rcases Int.lt_or_le 0 (qd7 rs qs) with c | c
    · exact c
    · have:=Wk.pn c (Int.le_of_lt S.g0)
      omega
  · rw [← S.one]
    refine qir fun x=>?_
    constructor
    · intro hx
      obtain ⟨s,hs,rfl⟩:=List.mem_map.mp hx
      rcases mem s hs with h | rfl
      · exact List.mem_append_left _ (List.mem_map.mpr ⟨s,h,rfl⟩)
      · exact List.mem_append_right _ (List.mem_singleton.mpr rfl)
    · intro hx
      rcases List.mem_append.mp hx with h | h
      · obtain ⟨s,hs,rfl⟩:=List.mem_map.mp h
        exact List.mem_map.mpr ⟨s,hp.mem_iff.mpr (List.mem_append_left _ hs),rfl⟩
      · have:x=shD sd (gsL sd (qag rs q).1):=by simpa using h
        exact List.mem_map.mpr ⟨(q,shD sd (gsL sd (qag rs q).1)),hp.mem_iff.mpr (List.mem_append_right _ (List.mem_singleton.mpr rfl)),this.symm⟩
theorem qnf {rs:List Row} {m:Nat} {sd:Std} (hrw:RsW rs m) (hf:Wf rs m sd) (hmet:Met rs sd):PtOk rs m (qcF sd.tops sd.bot):=by
  obtain ⟨a,b,c,d,e⟩:=qjx hrw hf hmet
  exact ⟨a,b,c,d,e⟩
theorem qjv {rs:List Row} {goal:List Int} {m:Nat} {sd:Std} {qs:List (Int × Int)} (hrw:RsW rs m) (hf:Wf rs m sd) (hg:qfn goal m) (hmet:Met rs sd) (hlg:Lg sd (gsL sd goal) none) (hp:qs.Perm (shP sd (gsL sd goal))) (hw:qs.Pairwise (fun a b=>a.1<b.1)):BestOk rs goal m (qcF sd.tops sd.bot) qs (shD sd (gsL sd goal)):=by
  have S:=qjY hrw hf hg.1 hg.2 hlg
  have n8:=hrw.n8
  have z:=hf.sz hrw
  have g0:=qdh (ts:=sd.tops) z.b0
  obtain ⟨gd,gb⟩:=qex (ts:=sd.tops) (b:=sd.bot)
  have hdd:dot goal (qcF sd.tops sd.bot).1*qbS sd.tops sd.bot=dot goal sd.tops:=qdn gd
  have hbb:(qcF sd.tops sd.bot).2*qbS sd.tops sd.bot=sd.bot:=Int.ediv_mul_cancel gb
  have tl:∀ k,qea rs qs k=qea rs (shP sd (gsL sd goal)) k:=fun k=>qdd hp
  have tb:qd7 rs qs=qd7 rs (shP sd (gsL sd goal)):=qdd hp
  have hdt:qbT (dot goal sd.tops):=qbL (qem n8 hg.1 hf.tl hg.2 z.t) (by decide)
  refine ⟨qnf hrw hf hmet,hw,fun s hs=>S.ok s (hp.mem_iff.mp hs),?_,S.d1,S.dB,?_,fun k hk=>?_,?_,?_,?_⟩
  · rw [hp.length_eq]
    have:=qcr sd (gsL sd goal)
    rw [qaT,hf.wl] at this
    omega
  · rw [← S.one]
    refine qir fun x=>?_
    have e:∀ y,y∈qs.map (·.2)↔y∈(shP sd (gsL sd goal)).map (·.2):=fun y=>(hp.map (·.2)).mem_iff
    rw [List.mem_append,List.mem_append,e x]
  · refine Int.eq_of_mul_eq_mul_right (a:=shG sd (gsL sd goal)) (by have:=S.g0;omega) ?_
    rw [tl,S.row k hk,Int.mul_assoc,Int.mul_comm (goal.getD k 0),← Int.mul_assoc,Int.neg_mul,S.dg,Int.neg_mul]
  · refine Int.eq_of_mul_eq_mul_right (a:=shG sd (gsL sd goal)*qbS sd.tops sd.bot) (by have:=Int.mul_pos S.g0 g0;omega) ?_
    have h1:=S.bnd
    rw [← tb] at h1
    have e1:qd7 rs qs*(qcF sd.tops sd.bot).2*(shG sd (gsL sd goal)*qbS sd.tops sd.bot)=(qd7 rs qs*shG sd (gsL sd goal))*((qcF sd.tops sd.bot).2*qbS sd.tops sd.bot):=by
      generalize qd7 rs qs=x;generalize (qcF sd.tops sd.bot).2=y;generalize shG sd (gsL sd goal)=u;generalize qbS sd.tops sd.bot=v
      grind
    have e2:-shD sd (gsL sd goal)*dot goal (qcF sd.tops sd.bot).1*(shG sd (gsL sd goal)*qbS sd.tops sd.bot) = -(shD sd (gsL sd goal)*shG sd (gsL sd goal))*(dot goal (qcF sd.tops sd.bot).1*qbS sd.tops sd.bot):=by
      generalize shD sd (gsL sd goal)=x;generalize dot goal (qcF sd.tops sd.bot).1=y;generalize shG sd (gsL sd goal)=u;generalize qbS sd.tops sd.bot=v
      grind
    rw [e1,e2,h1,hbb,S.dg,hdd]
    rw [Int.neg_mul,Int.neg_mul,Int.mul_comm]
  · have h1:=S.bnd
    rw [← tb] at h1
    have h2:=qep (x:=qd7 rs qs) S.g0
    rw [h1,Int.natAbs_neg] at h2
    exact Nat.lt_of_le_of_lt h2 hdt
  · have h2:=qep (x:=dot goal (qcF sd.tops sd.bot).1) g0
    rw [hdd] at h2
    exact Nat.lt_of_le_of_lt h2 hdt
theorem qjy {rs:List Row} {goal:List Int} {m:Nat} {sd:Std} {p:Nat} (hrw:RsW rs m) (hf:Wf rs m sd) (hg:qfn goal m) (hmet:Met rs sd) (hlg:Lg sd (gsL sd goal) (some p)) (hst:Stop rs (qbo rs.length) sd (sd.ways.getD p []) rs.length none):EndlOk rs goal m (qcF sd.tops sd.bot) ((sd.ways.getD p []).map (· / qa6 (sd.ways.getD p []))):=by
  have z:=hf.sz hrw
  obtain ⟨hp1,hp2,_⟩:=hlg
  have hpl:p<sd.ways.length:=by rw [qaT] at hp1;exact hp1
  rw [qcE hpl] at hp2
  have hwp:=qax (d:=[]) hpl
  have g0:0<qa6 (sd.ways.getD p []):=by
    have h1:=qb7 (sd.ways.getD p [])
    by_cases c:qa6 (sd.ways.getD p [])=0
    · have:=qfy c
      rw [qez this] at hp2
      omega
    · omega
  have gd:=qbj (sd.ways.getD p [])
  have pos:∀ {x:Int},0<x*qa6 (sd.ways.getD p [])→0<x:=fun {x} h=>by
    rcases Int.lt_or_le 0 x with c | c
    · exact c
    · have:=Wk.pn c (Int.le_of_lt g0)
      omega
  have nn:∀ {x:Int},0≤x*qa6 (sd.ways.getD p [])→0≤x:=fun {x} h=>by
    rcases Int.lt_or_le x 0 with c | c
    · have:=Int.mul_neg_of_neg_of_pos c g0
      omega
    · exact c
  refine ⟨qnf hrw hf hmet,by rw [List.length_map];exact hf.ww _ hwp,fun x hx=>?_,qgq g0,?_,fun r hr=>?_⟩
  · obtain ⟨y,hy,rfl⟩:=List.mem_map.mp hx
    exact qbL (Nat.le_trans (qdy g0 (gd y hy)) (z.w _ hwp y hy)) (by decide)
  · refine pos ?_
    rw [qdn gd]
    exact hp2
  · refine nn ?_
    rw [qdn gd]
    obtain ⟨k,hk⟩:=List.getElem?_of_mem hr
    have hkl:=qaF hk
    have h1:=hst k (k:Int) hkl (qcy hkl)
    unfold qbk at h1
    have er:qag rs (k:Int)=r:=by
      unfold qag
      rw [List.getD_eq_getElem?_getD,Int.toNat_natCast,hk]
      rfl
    rw [er] at h1
    omega
def qmM (rs:List Row) (x:List Int) (y:Int):Prop:=∀ r∈rs,r.2*y≤dot r.1 x
theorem qis {rs:List Row} {m:Nat} {x:List Int} {y:Int} (hl:∀ r∈rs,r.1.length=m) (hx:x.length=m) (h:qmM rs x y):∀ {qs:List (Int × Int)},(∀ s∈qs,(0≤s.1∧s.1<rs.length)∧1≤s.2)→qd7 rs qs*y≤Wk.sm m (fun k=>qea rs qs k*x.getD k 0)
  | [],_=>by
    have e:Wk.sm m (fun k=>qea rs [] k*x.getD k 0)=0:=by
      rw [Wk.sm_congr (g:=fun _=>0) fun k _=>by show (0:Int)*_=0;omega]
      exact Wk.sm_zero m
    rw [e]
    show (0:Int)*y≤0
    omega
  | s::qs,hq=>by
    have i1:=qis hl hx h fun t ht=>hq t (List.mem_cons_of_mem _ ht)
    obtain ⟨⟨s0,s1⟩,s2⟩:=hq s List.mem_cons_self
    have hm:=qaO s0 s1
    have h1:=h _ hm
    rw [qby (hl _ hm) hx] at h1
    have h2:=Int.mul_le_mul_of_nonneg_left h1 (show 0≤s.2 by omega)
    have e1:qd7 rs (s::qs)=s.2*(qag rs s.1).2+qd7 rs qs:=by unfold qd7;rw [List.map_cons,List.sum_cons]
    have e2:Wk.sm m (fun k=>qea rs (s::qs) k*x.getD k 0)=s.2*Wk.dt m (fun i=>(qag rs s.1).1.getD i 0) (fun i=>x.getD i 0)+Wk.sm m (fun k=>qea rs qs k*x.getD k 0):=by
      unfold Wk.dt
      rw [← Wk.sm_mul,← Wk.sm_add]
      refine Wk.sm_congr fun k _=>?_
      have:qea rs (s::qs) k=s.2*(qag rs s.1).1.getD k 0+qea rs qs k:=by unfold qea;rw [List.map_cons,List.sum_cons]
      rw [this,Int.add_mul,Int.mul_assoc]
    rw [e1,e2,Int.add_mul,Int.mul_assoc]
    omega
theorem NonOk.bars {rs:List Row} {m:Nat} {qs:List (Int × Int)} {x:List Int} {y:Int} (h:NonOk rs m qs) (hl:∀ r∈rs,r.1.length=m) (hx:x.length=m) (hy:0<y) (hm:qmM rs x y):False:=by
  have h1:=qis hl hx hm fun s hs=>⟨(h.ok s hs).1,(h.ok s hs).2.1⟩
  have e:Wk.sm m (fun k=>qea rs qs k*x.getD k 0)=0:=by
    rw [Wk.sm_congr (g:=fun _=>0) fun k hk=>by rw [h.row k hk];exact Int.zero_mul _]
    exact Wk.sm_zero m
  have:=Int.mul_pos h.bnd hy
  omega
inductive Told (rs:List Row) (goal:List Int) (m:Nat):D→Prop
  | non (qs:List (Int × Int)):NonOk rs m qs→Told rs goal m (qlK qs)
  | best (p:Row) (qs:List (Int × Int)) (d:Int):BestOk rs goal m p qs d→Told rs goal m (qfY p qs d)
  | endl (p:Row) (ray:List Int):EndlOk rs goal m p ray→Told rs goal m (qk7 p ray)
theorem qb0 {α:Type} {xs:List α} {i:Nat} {x d:α} (h:xs[i]?=some x):xs.getD i d=x:=by rw [List.getD_eq_getElem?_getD,h];rfl
def qhy:SpD:=fun ds R=>∃ (rs:List Row) (n:Nat),ds=[.tup (rs.map qbe)]∧(rs=[]→n=0)∧(∀ r∈rs,r.1.length=n)∧R (.int (n:Int))
theorem qiQ {n:Nat} {f:Addr} {fd:FuncData} (F:Fun K "width" "width" qet f fd) (z_len:mg "len"=none):FnOk P w K mg base CX0 (n+1) f fd ["rows"] (lSp K qhy):=by
  refine F.okD qjj (fun ds R h=>?_) (fun cdv A outer s H E ds R hr h=>?_)
  · obtain ⟨rs,n,rfl,_⟩:=h;rfl
  obtain ⟨rs,n,rfl,h0,hl,q⟩:=h
  refine ⟨_,(qbW (qcZ (qa5 (qe3 hr.units) (PD.q (qaH qcg rfl z_len PySem.boot_len (qap (dvq 0) qav qaa) qaa qad)) (PD.q qai) (qaD _)) (qaw (qaN qai)) qbs)
      (qaw (qaN (qaH qcg rfl z_len PySem.boot_len (qap (PD.q (qa1 (PD.q (qa1 (dvq 0) (PD.q qai) (fun _ _=>rfl))) (PD.q qai) (fun _ _=>rfl))) qav qac) qac qad)))),?_⟩
  refine ⟨fun ρ=>rs≠[]∧ρ=[some (.v (.tup (rs.map qbe)))],⟨fun h=>?_,fun h=>⟨fun e=>?_,rfl⟩⟩,?_⟩
  · have h1:=eq_of_beq h
    rw [List.length_map] at h1
    have e:rs=[]:=List.length_eq_zero_iff.mp (by omega)
    rw [h0 e] at q
    exact q
  · rw [e] at h
    cases h
  rintro ρ ⟨hne,rfl⟩
  obtain ⟨r,t,rfl⟩:=List.exists_cons_of_ne_nil hne
  refine ⟨_,qbn (i:=0) rfl rfl,_,rfl,?_⟩
  have e:=hl r List.mem_cons_self
  show R (.int (((r.1.map D.int).length:Nat):Int))
  rw [List.length_map,e]
  exact q
def qbM (ls:List (List Int)) (n:Nat):List Int:=(List.range n).map fun k=>(ls.map fun l=>l.getD k 0).sum
theorem qb6 (ls:List (List Int)) (n:Nat):(qbM ls n).length=n:=by unfold qbM;rw [List.length_map,List.length_range]
theorem qeC (ls:List (List Int)) {n k:Nat} (h:k<n):(qbM ls n).getD k 0=(ls.map fun l=>l.getD k 0).sum:=by
  unfold qbM
  exact qcv (fun x:Int=>x) (fun k=>(ls.map fun l=>l.getD k 0).sum) h
def qeS:SpD:=fun ds R=>∃ (ls:List (List Int)) (n:Nat),ds=[.lst (ls.map wD),.int (n:Int)]∧n≤500∧ls.length≤500∧(∀ l∈ls,l.length=n)∧R (.tup ((qbM ls n).map D.int))
theorem qhH {n:Nat} {f:Addr} {fd:FuncData} (F:Fun K "summed" "summed" qcH f fd) (z_tuple:mg "tuple"=none) (z_sum:mg "sum"=none) (z_range:mg "range"=none):FnOk P w K mg base CX0 (n+1) f fd ["lists","n"] (lSp K qeS):=by
  refine F.okD qhG (fun ds R h=>?_) (fun cdv A outer s H E ds R hr h=>?_)
  · obtain ⟨ls,n,rfl,_⟩:=h;rfl
  obtain ⟨ls,n,rfl,hn,hl,hln,q⟩:=h
  refine ⟨_,(qaw (qaN (qaB qaP rfl z_tuple PyProof.Rows.boot_tuple (qap (PD.q (PF.d (qaM (k:=1) (N':=["place","lists"]) (cap:=[none,some 0]) rfl (.ok (show qaI ["lists","n"] (qaf qcH) _ ["place","lists"] [none,some 0]=true by decide +kernel)) (by decide +kernel) (qaC (by decide)) (qa2 rfl z_range (qab (dv 1) qal qaa)) (fun _ _ _ _ _=>(qar (i:=0) (show List.Nodup (["place","lists"]:List Str) by decide +kernel) rfl (Or.inr rfl))) (fun _ _ _ _ _=>(qaH (qlJ rfl) rfl z_sum PyProof.Rows.boot_sum (qap (PD.q (PF.d (qaM (k:=1) (N':=["entries","place"]) (cap:=[none,some 0]) rfl (.ok (show qaI ["place","lists"] _ _ ["entries","place"] [none,some 0]=true from by rfl)) (by decide +kernel) (qaC (by decide)) (qbC (dv 1)) (fun _ _ _ _ _=>(qar (i:=0) (show List.Nodup (["entries","place"]:List Str) by decide +kernel) rfl (Or.inl rfl))) (fun _ _ _ _ _=>(qa1 (dvq 0) (dvq 1) (fun _ _=>rfl)))))) qav qah) qah qad))))) qav qah) qah qad))),?_⟩
  refine ⟨⟨by omega,by omega⟩,?_⟩
  refine qa0 (fun k=>D.int ((ls.map fun l=>l.getD k 0).sum)) (qam (by omega)) (fun k hk=>?_) ?_
  · have hk':k<n:=by omega
    refine qaX (f:=wD) (fun l=>l.getD k 0) (qam (by omega)) (fun l hl'=>⟨_,qbn (i:=k) (qaQ (d:=0) (by rw [hln l hl'];exact hk')) (Int.zero_add _),rfl⟩) ?_
    exact ⟨_,rfl,rfl⟩
  · have e:(List.range (n:Int).toNat).map (fun k=>D.int ((ls.map fun l=>l.getD k 0).sum))=(qbM ls n).map D.int:=by
      unfold qbM
      rw [Int.toNat_natCast,List.map_map]
      rfl
    rw [e]
    exact q
def qfM (ns:List Int):List Int:=if qa6 ns=0 then ns else ns.map (· / qa6 ns)
def qfl:SpD:=fun ds R=>∃ ns:List Int,ds.map asT=[.tup (ns.map D.int)]∧ns.length≤500∧(∀ x∈ns,x.natAbs≤2 ^ 8900)∧R (.tup ((qfM ns).map D.int))
theorem qhc {n:Nat} {f:Addr} {fd:FuncData} (F:Fun K "divided" "divided" qbP f fd) (Q_common:Cl P w K mg base n "common" ["numbers"] qdc) (z_tuple:mg "tuple"=none):FnOk P w K mg base CX0 (n+1) f fd ["numbers"] (lSp K qfl):=by
  refine F.okD sc_divided (fun ds R h=>?_) (fun cdv A outer s H E ds R hr h=>?_)
  · obtain ⟨ns,e,_⟩:=h
    rcases qnq e with rfl | rfl <;> rfl
  obtain ⟨ns,e,hl,hb,q⟩:=h
  have g0:=qb7 ns
  have g9:qa6 ns<2 ^ 9000:=by
    have:=qim (ns:=ns) (m:=2 ^ 8900+1) (fun x hx=>by have:=hb x hx;omega) (by omega)
    have h9:(2:Int) ^ 8900+1<2 ^ 9000:=by decide +kernel
    push_cast at this
    omega
  have e0:qa6 ns=0→qfM ns=ns:=fun h=>if_pos h
  have e1:qa6 ns≠0→qfM ns=ns.map (· / qa6 ns):=fun h=>if_neg h
  rcases qnq e with rfl | rfl
  · refine ⟨_,(qao (qaE (i:=1) sc_divided.nd rfl (Or.inr rfl) (qaq Q_common hr rfl (qab (dv 0) qal qaa) qaa qad))
      (qbW (qcZ (qa5 (qe3 hr.units) (dvq 1) (PD.q qai) (qaD _)) (qaw (qaN (qaB qaP rfl z_tuple PyProof.Rows.boot_tuple (qap (dvq 0) qav qaa) qaa qad))) qbs)
      (qaw (qaN (qaB qaP rfl z_tuple PyProof.Rows.boot_tuple (qap (PD.q (PF.d (qaM (k:=1) (N':=["number","divisor"]) (cap:=[none,some 1]) rfl (.ok (show qaI ["numbers","divisor"] (qaf qbP) _ ["number","divisor"] [none,some 1]=true by decide +kernel)) (by decide +kernel) (qaC (by decide)) (qbC (dv 0)) (fun _ _ _ _ _=>(qar (i:=0) (show List.Nodup (["number","divisor"]:List Str) by decide +kernel) rfl (Or.inl rfl))) (fun _ _ _ _ _=>(qa3 qcW (dvq 0) (dvq 1)))))) qav qah) qah qad))))),?_⟩
    refine ⟨ns,rfl,fun ρ=>qa6 ns≠0∧ρ=[some (.v (.tup (ns.map D.int))),some (.v (.int (qa6 ns)))],⟨fun h=>?_,fun h=>⟨fun e=>?_,rfl⟩⟩,?_⟩
    · rw [e0 (eq_of_beq h)] at q
      exact q
    · rw [e] at h
      cases h
    rintro ρ ⟨hne,rfl⟩
    refine qaX (f:=D.int) (fun x=>x / qa6 ns) (qam (by omega)) (fun x _=>⟨CDivB.of (by omega) g9,rfl⟩) ?_
    rw [e1 hne] at q
    exact q
  · refine ⟨_,(qao (qaE (i:=1) sc_divided.nd rfl (Or.inr rfl) (qaq Q_common hr rfl (qab (dv 0) qal qaa) qaa qad))
      (qbW (qcZ (qa5 (qe3 hr.units) (dvq 1) (PD.q qai) (qaD _)) (qaw (qaN (qaB qaP rfl z_tuple PyProof.Rows.boot_tuple (qap (dvq 0) qav qaa) qaa qad))) qbs)
      (qaw (qaN (qaB qaP rfl z_tuple PyProof.Rows.boot_tuple (qap (PD.q (PF.d (qaM (k:=1) (N':=["number","divisor"]) (cap:=[none,some 1]) rfl (.ok (show qaI ["numbers","divisor"] (qaf qbP) _ ["number","divisor"] [none,some 1]=true by decide +kernel)) (by decide +kernel) (qaC (by decide)) (qbC (dv 0)) (fun _ _ _ _ _=>(qar (i:=0) (show List.Nodup (["number","divisor"]:List Str) by decide +kernel) rfl (Or.inl rfl))) (fun _ _ _ _ _=>(qa3 qcW (dvq 0) (dvq 1)))))) qav qah) qah qad))))),?_⟩
    refine ⟨ns,rfl,fun ρ=>qa6 ns≠0∧ρ=[some (.v (.lst (ns.map D.int))),some (.v (.int (qa6 ns)))],⟨fun h=>?_,fun h=>⟨fun e=>?_,rfl⟩⟩,?_⟩
    · rw [e0 (eq_of_beq h)] at q
      exact q
    · rw [e] at h
      cases h
    rintro ρ ⟨hne,rfl⟩
    refine qaX (f:=D.int) (fun x=>x / qa6 ns) (qam (by omega)) (fun x _=>⟨CDivB.of (by omega) g9,rfl⟩) ?_
    rw [e1 hne] at q
    exact q
def qbw (rs:List Row):List Row:=rs.map fun r=>(r.1,0)
def stl (rs:List Row) (ray:List Int):List Nat:=(List.range rs.length).filter fun i=>decide (dot (qag rs (i:Int)).1 ray=0)
def nI (l:List Nat):List Int:=l.map fun (i:Nat)=>(i:Int)
def glS (rs:List Row) (ray:List Int) (n:Nat):List Int:=qbM ((stl rs ray).map fun (i:Nat)=>(qag rs (i:Int)).1) n
structure In39 (rs:List Row) (n:Nat):Prop where
  len:∀ r∈rs,r.1.length=n
  eb:∀ r∈rs,∀ x∈r.1,x.natAbs≤2 ^ 80
  n8:n≤8
  nM:n≤rs.length
  M:rs.length≤20
  nil:rs=[]→n=0
  un:∀ k:Nat,k<n→(qag rs (k:Int)).1=unL n k
theorem qf6 {M:Nat}:∀ {l:List Int},(∀ x∈l,x.natAbs≤M)→l.sum.natAbs≤l.length*M
  | [],_=>by simp
  | x::l,h=>by
    have i:=qf6 (l:=l) fun y hy=>h y (List.mem_cons_of_mem _ hy)
    have:=h x List.mem_cons_self
    rw [List.sum_cons,List.length_cons,Nat.add_mul]
    omega
theorem qgn (rs:List Row) (ray:List Int):(stl rs ray).length≤rs.length:=by
  have:=List.length_filter_le (fun (i:Nat)=>decide (dot (qag rs (i:Int)).1 ray=0)) (List.range rs.length)
  rwa [List.length_range] at this
theorem stl_mem {rs:List Row} {ray:List Int} {i:Nat}:i∈stl rs ray↔i<rs.length∧dot (qag rs (i:Int)).1 ray=0:=by
  unfold stl
  rw [List.mem_filter,List.mem_range]
  simp
theorem qer {rs:List Row} {k:Nat} (h:k<rs.length):qag (qbw rs) (k:Int)=((qag rs (k:Int)).1,0):=by
  unfold qag qbw
  rw [Int.toNat_natCast,List.getD_eq_getElem?_getD,List.getD_eq_getElem?_getD,List.getElem?_map,qaA h]
  rfl
theorem qhQ {rs:List Row} {n:Nat} (h:In39 rs n) (ray:List Int):FirstOk (qbw rs) (glS rs ray n) n:=by
  have p9:∀ x:Nat,x≤2 ^ 85→x≤2 ^ 900:=fun x hx=>Nat.le_trans hx (Nat.pow_le_pow_right (by decide) (by decide))
  have hl0:(qbw rs).length=rs.length:=by unfold qbw;rw [List.length_map]
  refine ⟨⟨fun r hr=>?_,fun r hr x hx=>?_,fun r hr=>?_,h.n8,by rw [hl0];exact h.nM,by rw [hl0];have:=h.M;omega⟩,⟨qb6 _ _,fun x hx=>p9 _ ?_⟩,.inl (by rw [hl0];exact Nat.le_trans (Nat.pow_le_pow_right (by decide) h.M) (by decide)),fun k hk=>?_⟩
  · obtain ⟨r',hr',rfl⟩:=List.mem_map.mp hr
    exact h.len r' hr'
  · obtain ⟨r',hr',rfl⟩:=List.mem_map.mp hr
    exact p9 _ (Nat.le_trans (h.eb r' hr' x hx) (by decide))
  · obtain ⟨r',hr',rfl⟩:=List.mem_map.mp hr
    exact Nat.zero_le _
  · obtain ⟨k,hk,rfl⟩:=List.mem_map.mp (show x∈List.map _ _ from hx)
    have:=qf6 (M:=2 ^ 80) (l:=((stl rs ray).map fun (i:Nat)=>(qag rs (i:Int)).1).map fun l=>l.getD k 0) fun y hy=>by
      obtain ⟨l,hl,rfl⟩:=List.mem_map.mp hy
      obtain ⟨i,hi,rfl⟩:=List.mem_map.mp hl
      have hm:=qaO (rs:=rs) (k:=(i:Int)) (by omega) (by have:=(stl_mem.mp hi).1;omega)
      by_cases c:k<(qag rs (i:Int)).1.length
      · exact h.eb _ hm _ (qax c)
      · rw [qaW (by omega)];exact Nat.zero_le _
    rw [List.length_map,List.length_map] at this
    have h1:=qgn rs ray
    have h2:=h.M
    have h3:(stl rs ray).length*2 ^ 80≤20*2 ^ 80:=Nat.mul_le_mul_right _ (by omega)
    have h4:20*2 ^ 80≤2 ^ 85:=by decide
    omega
  · rw [qer (by have:=h.nM;omega)]
    exact h.un k hk
def qdY:SpD:=fun ds R=>∃ (rs:List Row) (ray:List Int) (n:Nat),ds=[.tup (rs.map qbe),.tup (ray.map D.int)]∧In39 rs n∧ray.length=n∧(∀ x∈ray,x.natAbs≤2 ^ 8000)∧∀ sd st j d,Hist (qbw rs) (glS rs ray n) n (qjD (qbw rs) n) sd st j→Wf (qbw rs) n sd→End (qbw rs) (glS rs ray n) sd d→R (.tup [.lst ((nI (stl rs ray)).map D.int),d])
theorem qe8 {n:Nat} {f:Addr} {fd:FuncData} (F:Fun K "ask_still" "ask_still" qa8 f fd) (Q_summed:Cl P w K mg base n "summed" ["lists","n"] qeS) (Q_first:Cl P w K mg base n "first" ["rows","goal"] qiE) (Q_left:Cl P w K mg base n "left" ["entries","spot"] qfi) (z_len:mg "len"=none) (z_enumerate:mg "enumerate"=none) (z_tuple:mg "tuple"=none):FnOk P w K mg base CX0 (n+1) f fd ["rows","ray"] (lSp K qdY):=by
  refine F.okD sc_ask_still (fun ds R h=>?_) (fun cdv A outer s H E ds R hr h=>?_)
  · obtain ⟨rs,ray,n,rfl,_⟩:=h;rfl
  obtain ⟨rs,ray,n,rfl,h39,hrl,hrb,q⟩:=h
  refine ⟨_,(qao (qka (i:=2) (k:=2) (N':=["number","row","ray"]) (cap:=[none,none,some 1]) rfl sc_ask_still.nd rfl (Or.inl rfl) (.ok (show qaI ["rows","ray","still","goal"] (qaf qa8) _ ["number","row","ray"] [none,none,some 1]=true by decide +kernel)) (by decide +kernel) (qc5 (n:=2) (qa4 (qaC (by decide)) (qa4 (qaC (by decide)) qc2))) (qf5 rfl z_enumerate (qab (dv 0) qal qaa)) (fun _ _ _ _ _=>(qcT (n:=2) rfl (qaJ (qar (i:=0) (show List.Nodup (["number","row","ray"]:List Str) by decide +kernel) rfl (Or.inl rfl)) (qaJ (qar (i:=1) (show List.Nodup (["number","row","ray"]:List Str) by decide +kernel) rfl (Or.inl rfl)) qbO)))) (fun _ _ _ _ _=>(qhF (qa5 (qe3 hr.units) (PD.q (qaq Q_left hr rfl (qab (qa1 (dvq 1) (PD.q qai) (fun _ _=>rfl)) (qab (dv 2) qal qaa) qac) qac (qae qaa qad))) (PD.q qai) (qaD _)))) (fun _ _ _ _ _=>(dv 0)))
      (qao (qaE (i:=3) sc_ask_still.nd rfl (Or.inl rfl) (qaq Q_summed hr rfl (qab (PF.d (qaM (k:=1) (N':=["number","rows"]) (cap:=[none,some 0]) rfl (.ok (show qaI ["rows","ray","still","goal"] (qaf qa8) _ ["number","rows"] [none,some 0]=true by decide +kernel)) (by decide +kernel) (qaC (by decide)) (qbC (dv 2)) (fun _ _ _ _ _=>(qar (i:=0) (show List.Nodup (["number","rows"]:List Str) by decide +kernel) rfl (Or.inl rfl))) (fun _ _ _ _ _=>(qa1 (PD.q (qa1 (dvq 1) (dvq 0) (fun _ _=>rfl))) (PD.q qai) (fun _ _=>rfl))))) (qab (qaH qcg rfl z_len PySem.boot_len (qap (dvq 1) qav qaa) qaa qad) qal qaj) qah) qah (qae qaj qad)))
      (qaw (qaN (qcc (qab (dv 2) (qab (qaq Q_first hr rfl (qab (qaB qaP rfl z_tuple PyProof.Rows.boot_tuple (qap (PD.q (PF.d (qaM (k:=1) (N':=["row"]) (cap:=[none]) rfl (.ok (show qaI ["rows","ray","still","goal"] (qaf qa8) _ ["row"] [none]=true by decide +kernel)) (by decide +kernel) (qaC (by decide)) (qbC (dv 0)) (fun _ _ _ _ _=>(qar (i:=0) (show List.Nodup (["row"]:List Str) by decide +kernel) rfl (Or.inl rfl))) (fun _ _ _ _ _=>(qcc (qab (qa1 (dvq 0) (PD.q qai) (fun _ _=>rfl)) (qab qai qal qak) qac)))))) qav qah) qah qad) (qab (dv 3) qal qaa) qaj) qaj (qae qaa qad)) qal qaj) qaa)))))),?_⟩
  have hM:=h39.M
  have n8:=h39.n8
  have hrbig:∀ x∈ray,qbT x:=fun x hx=>qbL (hrb x hx) (by decide)
  have hebig:∀ r∈rs,∀ x∈r.1,qbT x:=fun r hr x hx=>qbL (h39.eb r hr x hx) (by decide)
  refine ⟨by rw [qbR,List.length_map];exact qam (by omega),qji (fun (i:Nat)=>decide (dot (qag rs (i:Int)).1 ray=0)) (fun (i:Nat)=>D.int (i:Int)),fun i d hd=>?_,fun ys hyl hy=>?_⟩
  · obtain ⟨e,he,rfl⟩:=qdf hd
    obtain ⟨r,rfl,hr0⟩:=qbB he
    have er:qag rs (i:Int)=r:=by
      unfold qag
      rw [List.getD_eq_getElem?_getD,Int.toNat_natCast,hr0]
      rfl
    have hm:=List.mem_of_getElem? hr0
    refine ⟨rfl,_,rfl,r.1,ray,rfl,by rw [h39.len r hm];omega,hebig r hm,hrbig,fun h=>⟨rfl,?_⟩,fun h=>?_⟩
    · show decide (dot (qag rs (i:Int)).1 ray=0)=true
      rw [er];exact decide_eq_true (eq_of_beq h)
    · show decide (dot (qag rs (i:Int)).1 ray=0)=false
      rw [er]
      refine decide_eq_false fun e=>?_
      rw [e] at h
      cases h
  rw [qbR,List.length_map] at hyl
  rw [qcQ hyl hy]
  have es:((List.range rs.length).filter fun (i:Nat)=>decide (dot (qag rs (i:Int)).1 ray=0)).map (fun (i:Nat)=>D.int (i:Int))=(nI (stl rs ray)).map D.int:=by
    unfold nI stl
    rw [List.map_map]
    rfl
  rw [es]
  have sl:=qgn rs ray
  refine qbp (f:=D.int) (fun i=>wD (qag rs i).1) (qam (by unfold nI;rw [List.length_map];omega)) (fun i hi=>?_) ?_
  · obtain ⟨k,hk,rfl⟩:=List.mem_map.mp (show i∈List.map _ _ from hi)
    have:=(stl_mem.mp hk).1
    exact ⟨_,qdR (by omega) (by omega),_,rfl,rfl⟩
  have e2:(nI (stl rs ray)).map (fun i=>wD (qag rs i).1)=((stl rs ray).map fun (i:Nat)=>(qag rs (i:Int)).1).map wD:=by
    unfold nI
    rw [List.map_map,List.map_map]
    rfl
  rw [e2]
  have hrl2:((ray.map D.int).length:Int)=(n:Int):=by rw [List.length_map,hrl]
  refine ⟨_,n,by rw [← hrl2],by omega,by rw [List.length_map];omega,fun l hl=>?_,?_⟩
  · obtain ⟨k,hk,rfl⟩:=List.mem_map.mp hl
    have:=(stl_mem.mp hk).1
    exact h39.len _ (qaO (by omega) (by omega))
  refine qbp (f:=qbe) (fun r=>qbe (r.1,0)) (qam (by omega)) (fun r _=>⟨_,rfl,rfl⟩) ?_
  have e3:rs.map (fun r=>qbe (r.1,0))=(qbw rs).map qbe:=by unfold qbw;rw [List.map_map];rfl
  rw [e3]
  exact ⟨qbw rs,glS rs ray n,n,rfl,qhQ h39 ray,fun sd st j d hH hf he=>q sd st j d hH hf he⟩
theorem qdv:∀ {ws ys:List Int},(∀ x∈ws,0≤x)→(∀ y∈ys,0≤y)→0≤dot ws ys∧(dot ws ys=0→∀ k,k<ws.length→k<ys.length→ws.getD k 0*ys.getD k 0=0)
  | [],_,_,_=>⟨Int.le_refl _,fun _ k h=>absurd h (by simp)⟩
  | _::_,[],_,_=>⟨Int.le_refl _,fun _ k _ h=>absurd h (by simp)⟩
  | w::ws,y::ys,h1,h2=>by
    obtain ⟨a,b⟩:=qdv (ws:=ws) (ys:=ys) (fun x hx=>h1 x (List.mem_cons_of_mem _ hx)) (fun x hx=>h2 x (List.mem_cons_of_mem _ hx))
    have c:=Int.mul_nonneg (h1 w List.mem_cons_self) (h2 y List.mem_cons_self)
    have e:dot (w::ws) (y::ys)=w*y+dot ws ys:=rfl
    refine ⟨by rw [e];omega,fun h k hk1 hk2=>?_⟩
    rw [e] at h
    cases k with
    | zero=>show w*y=0;omega
    | succ k=>exact b (by omega) k (by simpa using hk1) (by simpa using hk2)
theorem qev {n:Nat} {x:List Int} (hx:x.length=n):∀ {ws:List Int} {es:List (List Int)},(∀ e∈es,e.length=n)→dot ws (es.map fun e=>dot e x)=Wk.sm n (fun j=>x.getD j 0*dot ws (es.map fun e=>e.getD j 0))
  | [],es,_=>by
    have e:∀ ys:List Int,dot [] ys=0:=fun ys=>rfl
    simp only [e,Int.mul_zero]
    exact (Wk.sm_zero n).symm
  | _::_,[],_=>by
    have e:∀ xs:List Int,dot xs []=0:=fun xs=>by cases xs <;> rfl
    simp only [List.map_nil,e,Int.mul_zero]
    exact (Wk.sm_zero n).symm
  | w::ws,e::es,h=>by
    have i:=qev hx (ws:=ws) (es:=es) fun z hz=>h z (List.mem_cons_of_mem _ hz)
    show w*dot e x+dot ws (es.map fun e=>dot e x)=Wk.sm n (fun j=>x.getD j 0*(w*e.getD j 0+dot ws (es.map fun e=>e.getD j 0)))
    rw [i,qby (h e List.mem_cons_self) hx]
    unfold Wk.dt
    rw [← Wk.sm_mul,← Wk.sm_add]
    exact Wk.sm_congr fun j _=>by grind
structure InOk (es:List (List Int)) (n:Nat) (ray ws:List Int):Prop where
  rl:ray.length=n
  wl:ws.length=es.length
  up:∀ e∈es,0≤dot e ray
  wn:∀ x∈ws,0≤x
  sum:∀ j,j<n→dot ws (es.map fun e=>e.getD j 0)=0
  xor:∀ k e,es[k]?=some e→(0<dot e ray↔ws.getD k 0=0)
  rb:∀ x∈ray,qbT x
  wb:∀ x∈ws,qbT x
theorem InOk.dot0 {es:List (List Int)} {n:Nat} {ray ws x:List Int} (h:InOk es n ray ws) (hl:∀ e∈es,e.length=n) (hx:x.length=n):dot ws (es.map fun e=>dot e x)=0:=by
  rw [qev hx hl,Wk.sm_congr (g:=fun _=>0) fun j hj=>by rw [h.sum j hj,Int.mul_zero]]
  exact Wk.sm_zero n
theorem InOk.one {es es':List (List Int)} {n:Nat} {ray ws ray' ws':List Int} (h:InOk es n ray ws) (h':InOk es' n ray' ws') (hl:∀ e∈es',e.length=n) (hm:∀ e,e∈es'→e∈es):∀ e∈es',0<dot e ray→0<dot e ray':=fun e he hg=>by
  obtain ⟨k,hk⟩:=List.getElem?_of_mem he
  have hk':=qaF hk
  refine (h'.xor k e hk).mpr ?_
  have h0:=(qdv (ws:=ws') (ys:=es'.map fun e=>dot e ray) h'.wn fun y hy=>by
    obtain ⟨z,hz,rfl⟩:=List.mem_map.mp hy
    exact h.up z (hm z hz)).2 (h'.dot0 hl h.rl) k (by rw [h'.wl];exact hk') (by rw [List.length_map];exact hk')
  rw [qb0 (xs:=es'.map fun e=>dot e ray) (x:=dot e ray) (by rw [List.getElem?_map,hk];rfl)] at h0
  rcases Int.mul_eq_zero.mp h0 with c | c
  · exact c
  · omega
theorem qdi (ns:List Int):(qfM ns).length=ns.length:=by unfold qfM;split <;> simp
theorem qgk (ns:List Int):∃ G:Int,0<G∧∀ k,(qfM ns).getD k 0*G=ns.getD k 0:=by
  unfold qfM
  have g0:=qb7 ns
  by_cases c:qa6 ns=0
  · exact ⟨1,by decide,fun k=>by rw [if_pos c];omega⟩
  · refine ⟨qa6 ns,by omega,fun k=>?_⟩
    rw [if_neg c]
    by_cases hk:k<ns.length
    · rw [List.getD_eq_getElem?_getD,List.getElem?_map,qaQ (d:=0) hk]
      exact Int.ediv_mul_cancel (qbj ns _ (qax hk))
    · rw [qaW (by rw [List.length_map];omega),qaW (by omega)]
      omega
theorem qgW (ns:List Int):∃ G:Int,0<G∧ns=(qfM ns).map (·*G):=by
  obtain ⟨G,g0,h⟩:=qgk ns
  refine ⟨G,g0,List.ext_getElem (by rw [List.length_map,qdi]) fun i h1 h2=>?_⟩
  have:=h i
  have hi:i<(qfM ns).length:=by rw [qdi];exact h1
  rw [qb0 (qaA hi),qb0 (qaA h1)] at this
  rw [List.getElem_map,this]
theorem qgI (c:Int):∀ (xs ys:List Int),dot xs (ys.map (·*c))=dot xs ys*c
  | [],_=>by show (0:Int)=0*c;omega
  | _::_,[]=>by show (0:Int)=0*c;omega
  | x::xs,y::ys=>by
    have i:=qgI c xs ys
    show x*(y*c)+dot xs (ys.map (·*c))=(x*y+dot xs ys)*c
    rw [i,Int.add_mul,Int.mul_assoc]
theorem qgo (c:Int):∀ (xs ys:List Int),dot (xs.map (·*c)) ys=dot xs ys*c
  | [],_=>by show (0:Int)=0*c;omega
  | _::_,[]=>by show (0:Int)=0*c;omega
  | x::xs,y::ys=>by
    have i:=qgo c xs ys
    show x*c*y+dot (xs.map (·*c)) ys=(x*y+dot xs ys)*c
    rw [i,Int.add_mul]
    grind
theorem sgG {x G:Int} (h:0<G):(0<x*G↔0<x)∧(x*G=0↔x=0)∧(0≤x*G→0≤x)∧x.natAbs≤(x*G).natAbs:=by
  refine ⟨?_,?_,?_,by rw [Int.natAbs_mul];exact Nat.le_mul_of_pos_right _ (by omega)⟩ <;>
  · rcases Int.lt_trichotomy x 0 with c | c | c
    · have:=Int.mul_neg_of_neg_of_pos c h
      omega
    · subst c;omega
    · have:=Int.mul_pos c h
      omega
theorem InOk.div {es:List (List Int)} {n:Nat} {ray ws:List Int} (h:InOk es n ray ws):InOk es n (qfM ray) (qfM ws):=by
  obtain ⟨G,g0,eG⟩:=qgW ray
  obtain ⟨Q,q0,eQ⟩:=qgW ws
  obtain ⟨G',g0',aG⟩:=qgk ray
  obtain ⟨Q',q0',aQ⟩:=qgk ws
  have hd:∀ e:List Int,dot e ray=dot e (qfM ray)*G:=fun e=>(congrArg (dot e) eG).trans (qgI G e (qfM ray))
  have hw:∀ ys:List Int,dot ws ys=dot (qfM ws) ys*Q:=fun ys=>(congrArg (fun l=>dot l ys) eQ).trans (qgo Q (qfM ws) ys)
  refine ⟨by rw [qdi];exact h.rl,by rw [qdi];exact h.wl,fun e he=>?_,fun x hx=>?_,fun j hj=>?_,fun k e hk=>?_,fun x hx=>?_,fun x hx=>?_⟩
  · have:=h.up e he
    rw [hd] at this
    exact (sgG g0).2.2.1 this
  · have:=h.wn (x*Q) (by rw [eQ];exact List.mem_map.mpr ⟨x,hx,rfl⟩)
    exact (sgG q0).2.2.1 this
  · have:=h.sum j hj
    rw [hw] at this
    exact (sgG q0).2.1.mp this
  · rw [← (sgG (x:=dot e (qfM ray)) g0).1,← hd,h.xor k e hk,← aQ k]
    exact (sgG q0').2.1
  · have h1:=h.rb (x*G) (by rw [eG];exact List.mem_map.mpr ⟨x,hx,rfl⟩)
    exact Nat.lt_of_le_of_lt (sgG g0).2.2.2 h1
  · have h1:=h.wb (x*Q) (by rw [eQ];exact List.mem_map.mpr ⟨x,hx,rfl⟩)
    exact Nat.lt_of_le_of_lt (sgG q0).2.2.2 h1
theorem qjR {n:Nat} {x:List Int} (hx:x.length=n):∀ {ls:List (List Int)},(∀ l∈ls,l.length=n)→dot (qbM ls n) x=(ls.map fun l=>dot l x).sum:=fun {ls} h=>by
  have e:dot (qbM ls n) x=Wk.sm n (fun k=>(ls.map fun l=>l.getD k 0).sum*x.getD k 0):=by
    rw [qby (qb6 ls n) hx]
    exact Wk.sm_congr fun k hk=>by show (qbM ls n).getD k 0*_=_;rw [qeC ls hk]
  rw [e]
  clear e
  induction ls with
  | nil =>
    show Wk.sm n (fun k=>0*x.getD k 0)=0
    rw [Wk.sm_congr (g:=fun _=>0) fun k _=>by omega]
    exact Wk.sm_zero n
  | cons l ls ih =>
    have i:=ih fun z hz=>h z (List.mem_cons_of_mem _ hz)
    show Wk.sm n (fun k=>(l.getD k 0+(ls.map fun l=>l.getD k 0).sum)*x.getD k 0)=dot l x+(ls.map fun l=>dot l x).sum
    rw [← i,qby (h l List.mem_cons_self) hx]
    unfold Wk.dt
    rw [← Wk.sm_add]
    exact Wk.sm_congr fun k _=>by rw [Int.add_mul]
theorem qla {n:Nat} {r a b:List Int} (hr:r.length=n) (ha:a.length=n) (hb:b.length=n):dot r (qbM [a,b] n)=dot r a+dot r b:=by
  rw [qby hr (qb6 _ _),qby hr ha,qby hr hb]
  unfold Wk.dt
  rw [← Wk.sm_add]
  refine Wk.sm_congr fun k hk=>?_
  show r.getD k 0*(qbM [a,b] n).getD k 0=r.getD k 0*a.getD k 0+r.getD k 0*b.getD k 0
  rw [qeC [a,b] hk]
  show r.getD k 0*(a.getD k 0+(b.getD k 0+0))=_
  grind
theorem qiB {α:Type} {p q:α→Bool}:∀ {l:List α},(∀ x∈l,p x=true→q x=true)→(l.filter p).length≤(l.filter q).length∧((∃ x∈l,q x=true∧p x=false)→(l.filter p).length<(l.filter q).length)
  | [],_=>⟨Nat.le_refl _,fun ⟨x,hx,_⟩=>absurd hx List.not_mem_nil⟩
  | a::l,h=>by
    obtain ⟨i1,i2⟩:=qiB (l:=l) fun x hx=>h x (List.mem_cons_of_mem _ hx)
    have ha:=h a List.mem_cons_self
    rw [List.filter_cons,List.filter_cons]
    cases hp:p a with
    | true =>
      rw [if_pos rfl,if_pos (ha hp),List.length_cons,List.length_cons]
      refine ⟨by omega,fun ⟨x,hx,hq,hp'⟩=>?_⟩
      rcases List.mem_cons.mp hx with rfl | hx
      · rw [hp] at hp';cases hp'
      · have:=i2 ⟨x,hx,hq,hp'⟩;omega
    | false =>
      rw [if_neg (by decide)]
      cases hq:q a with
      | true =>
        rw [if_pos rfl,List.length_cons]
        exact ⟨by omega,fun _=>by omega⟩
      | false =>
        rw [if_neg (by decide)]
        refine ⟨i1,fun ⟨x,hx,hq',hp'⟩=>?_⟩
        rcases List.mem_cons.mp hx with rfl | hx
        · rw [hq] at hq';cases hq'
        · exact i2 ⟨x,hx,hq',hp'⟩
theorem qhn:∀ {l:List Int},0<l.sum→∃ x∈l,0<x
  | [],h=>by simp at h
  | a::l,h=>by
    rw [List.sum_cons] at h
    by_cases c:0<a
    · exact ⟨a,List.mem_cons_self,c⟩
    · obtain ⟨x,hx,h'⟩:=qhn (l:=l) (by omega)
      exact ⟨x,List.mem_cons_of_mem _ hx,h'⟩
structure RayOk (rs:List Row) (n:Nat) (ray:List Int):Prop where
  len:ray.length=n
  up:∀ k:Nat,k<rs.length→0≤dot (qag rs (k:Int)).1 ray
  sz:∀ x∈ray,x.natAbs≤(20 - (stl rs ray).length)*2 ^ 7224
theorem RayOk.sz2 {rs:List Row} {n:Nat} {ray:List Int} (h:RayOk rs n ray):∀ x∈ray,x.natAbs≤2 ^ 8000:=fun x hx=>by
  have h1:=h.sz x hx
  have h2:(20 - (stl rs ray).length)*2 ^ 7224≤20*2 ^ 7224:=Nat.mul_le_mul_right _ (by omega)
  have h3:20*2 ^ 7224≤2 ^ 8000:=by decide +kernel
  exact Nat.le_trans h1 (Nat.le_trans h2 h3)
theorem RayOk.add {rs:List Row} {n:Nat} {ray r2:List Int} (h:RayOk rs n ray) (h39:In39 rs n) (hl:r2.length=n) (hu:∀ k:Nat,k<rs.length→0≤dot (qag rs (k:Int)).1 r2) (hg:0<dot (glS rs ray n) r2) (hb:∀ x∈r2,x.natAbs≤2 ^ 7224):RayOk rs n (qbM [ray,r2] n)∧(stl rs (qbM [ray,r2] n)).length<(stl rs ray).length:=by
  have hrow:∀ k:Nat,k<rs.length→(qag rs (k:Int)).1.length=n:=fun k hk=>h39.len _ (qaO (by omega) (by omega))
  have hd:∀ k:Nat,k<rs.length→dot (qag rs (k:Int)).1 (qbM [ray,r2] n)=dot (qag rs (k:Int)).1 ray+dot (qag rs (k:Int)).1 r2:=fun k hk=>qla (hrow k hk) h.len hl
  have hlt:(stl rs (qbM [ray,r2] n)).length<(stl rs ray).length:=by
    unfold stl
    refine (qiB fun i hi hp=>?_).2 ?_
    · have hi':=List.mem_range.mp hi
      have e:=of_decide_eq_true hp
      rw [hd i hi'] at e
      have:=h.up i hi'
      have:=hu i hi'
      exact decide_eq_true (by omega)
    · unfold glS at hg
      rw [qjR hl fun l hl'=>by
        obtain ⟨i,hi,rfl⟩:=List.mem_map.mp hl'
        exact hrow i (stl_mem.mp hi).1] at hg
      obtain ⟨y,hy,y0⟩:=qhn hg
      obtain ⟨l,hl',rfl⟩:=List.mem_map.mp hy
      obtain ⟨i,hi,rfl⟩:=List.mem_map.mp hl'
      obtain ⟨i1,i2⟩:=stl_mem.mp hi
      refine ⟨i,List.mem_range.mpr i1,decide_eq_true i2,decide_eq_false ?_⟩
      rw [hd i i1]
      have y0:0<dot (qag rs (i:Int)).1 r2:=y0
      omega
  refine ⟨⟨qb6 _ _,fun k hk=>by rw [hd k hk];have:=h.up k hk;have:=hu k hk;omega,fun x hx=>?_⟩,hlt⟩
  obtain ⟨k,hk,rfl⟩:=List.mem_map.mp (show x∈List.map _ _ from hx)
  show (ray.getD k 0+(r2.getD k 0+0)).natAbs≤_
  have hk':=List.mem_range.mp hk
  have a1:=h.sz _ (qax (d:=0) (show k<ray.length by rw [h.len];exact hk'))
  have a2:=hb _ (qax (d:=0) (show k<r2.length by rw [hl];exact hk'))
  have a3:=qgn rs ray
  have a4:=h39.M
  have a5:(20 - (stl rs ray).length+1)*2 ^ 7224≤(20 - (stl rs (qbM [ray,r2] n)).length)*2 ^ 7224:=Nat.mul_le_mul_right _ (by omega)
  rw [Nat.add_mul,Nat.one_mul] at a5
  generalize 2 ^ 7224=E at *
  generalize (20 - (stl rs ray).length)*E=u at *
  generalize (20 - (stl rs (qbM [ray,r2] n)).length)*E=v at *
  omega
theorem qjq {rs:List Row} {goal:List Int} {m:Nat} {sd:Std} (hrw:RsW rs m) (hf:Wf rs m sd) (hg:qfn goal m):(∀ s∈shP sd (gsL sd goal),s.2.natAbs≤2 ^ 8127)∧(shD sd (gsL sd goal)).natAbs≤2 ^ 7224:=by
  have z:=hf.sz hrw
  refine ⟨fun s hs=>?_,Nat.le_trans (Int.natAbs_ediv_le_natAbs _ _) z.b⟩
  obtain ⟨p,hp,rfl⟩:=List.mem_map.mp (show s∈List.map _ _ from hs)
  refine Nat.le_trans (Int.natAbs_ediv_le_natAbs _ _) ?_
  obtain ⟨i,hi,rfl⟩:=List.mem_map.mp (show p∈List.map _ _ from hp)
  have hi':=List.mem_range.mp (List.mem_filter.mp hi).1
  rw [qaT] at hi'
  show (-(gsL sd goal).getD i 0).natAbs≤_
  rw [Int.natAbs_neg,qcE hi']
  have hm:=qax (d:=[]) hi'
  exact qem hrw.n8 hg.1 (hf.ww _ hm) hg.2 (z.w _ hm)
theorem qhx {rs:List Row} {r:Row} (h:r∈qbw rs):∃ r'∈rs,r=(r'.1,0):=by
  obtain ⟨r',hr',e⟩:=List.mem_map.mp h
  exact ⟨r',hr',e.symm⟩
def qhm (qs:List (Int × Int)) (k:Nat):Int:=(qs.map fun s=>if s.1=(k:Int) then s.2 else 0).sum
def esL (rs:List Row):List (List Int):=rs.map fun r=>r.1
def qhr:SpD:=fun ds R=>∃ (rs:List Row) (n:Nat),ds=[.tup (rs.map qbe)]∧In39 rs n∧∀ ray ws:List Int,InOk (esL rs) n ray ws→R (.tup [.tup (ray.map D.int),.tup (ws.map D.int)])
theorem qix (qs:List (Int × Int)) (s:Int × Int) (k:Nat):qhm (qs++[s]) k=qhm qs k+if s.1=(k:Int) then s.2 else 0:=by
  unfold qhm
  rw [List.map_append,List.sum_append]
  simp
theorem qid {qs:List (Int × Int)} (h:∀ s∈qs,0≤s.2) (k:Nat):0≤qhm qs k:=by
  unfold qhm
  induction qs with
  | nil=>exact Int.le_refl 0
  | cons s qs ih =>
    have i:=ih fun x hx=>h x (List.mem_cons_of_mem _ hx)
    have:=h s List.mem_cons_self
    rw [List.map_cons,List.sum_cons]
    split <;> omega
theorem qh1 {M:Nat} {c:Nat→Int}:∀ {qs:List (Int × Int)},(∀ s∈qs,0≤s.1∧s.1<M)→Wk.sm M (fun k=>qhm qs k*c k)=(qs.map fun s=>s.2*c s.1.toNat).sum
  | [],_=>by
    show Wk.sm M (fun k=>0*c k)=0
    rw [Wk.sm_congr (g:=fun _=>0) fun k _=>by omega]
    exact Wk.sm_zero M
  | s::qs,h=>by
    have i:=qh1 (c:=c) (qs:=qs) fun x hx=>h x (List.mem_cons_of_mem _ hx)
    obtain ⟨s0,s1⟩:=h s List.mem_cons_self
    rw [List.map_cons,List.sum_cons,← i]
    have e:Wk.sm M (fun k=>(if s.1=(k:Int) then s.2 else 0)*c k)=s.2*c s.1.toNat:=by
      rw [Wk.sm_one (k:=s.1.toNat) (by omega) fun j hj hne=>by rw [if_neg (by omega)];omega]
      show (if s.1=((s.1.toNat:Nat):Int) then s.2 else 0)*_=_
      rw [if_pos (by omega)]
    rw [← e,← Wk.sm_add]
    refine Wk.sm_congr fun k _=>?_
    show ((if s.1=(k:Int) then s.2 else 0)+qhm qs k)*c k=_
    rw [Int.add_mul]
theorem qhA {p:Nat→Bool} {f:Nat→Int}:∀ M:Nat,Wk.sm M (fun k=>if p k=true then f k else 0)=(((List.range M).filter p).map f).sum
  | 0=>rfl
  | M+1=>by
    have i:=qhA (p:=p) (f:=f) M
    show Wk.sm M _+_=_
    rw [i,List.range_succ,List.filter_append,List.map_append,List.sum_append]
    congr 1
    show (if p M=true then f M else 0)=_
    cases h:p M with
    | true=>rw [if_pos rfl];simp [h]
    | false=>rw [if_neg (by decide)];simp [h]
theorem qgy (c:Int):∀ l:List Int,(l.map (c*·)).sum=c*l.sum
  | []=>by simp
  | x::l=>by rw [List.map_cons,List.sum_cons,List.sum_cons,qgy c l,Int.mul_add]
theorem qlM {rs:List Row} {ray:List Int} (f:Nat→Int):Wk.sm rs.length (fun k=>if k∈stl rs ray then f k else 0)=((stl rs ray).map f).sum:=by
  unfold stl
  rw [← qhA]
  refine Wk.sm_congr fun k hk=>?_
  by_cases c:decide (dot (qag rs (k:Int)).1 ray=0)=true
  · rw [if_pos c,if_pos (List.mem_filter.mpr ⟨List.mem_range.mpr hk,c⟩)]
  · have hn:¬ k∈(List.range rs.length).filter fun (i:Nat)=>decide (dot (qag rs (i:Int)).1 ray=0):=fun h=>c (List.mem_filter.mp h).2
    rw [if_neg c,if_neg hn]
theorem qgs {α:Type} (f:α→D) (xs:List α) (j:Nat) (a:α):(xs.map f).set j (f a)=(xs.set j a).map f:=by rw [List.map_set]
theorem qa9 {ws:List Int} {j k:Nat} {v:Int} (hj:j<ws.length):(ws.set j v).getD k 0=if k=j then v else ws.getD k 0:=by
  rw [List.getD_eq_getElem?_getD,List.getElem?_set]
  by_cases c:j=k
  · subst c
    rw [if_pos rfl,if_pos hj,if_pos rfl]
    rfl
  · rw [if_neg c,if_neg (Ne.symm c),List.getD_eq_getElem?_getD]
theorem qk1 {rs:List Row} {n:Nat} {ray ws:List Int} {p:Row} {qs:List (Int × Int)} {d:Int} (h39:In39 rs n) (hR:RayOk rs n ray) (hB:BestOk (qbw rs) (glS rs ray n) n p qs d) (hwl:ws.length=rs.length) (hw:∀ k,k<rs.length→ws.getD k 0=(if k∈stl rs ray then d else 0)+qhm qs k) (hwb:∀ x∈ws,qbT x):InOk (esL rs) n ray ws:=by
  have hl0:(qbw rs).length=rs.length:=by unfold qbw;rw [List.length_map]
  have hel:(esL rs).length=rs.length:=by unfold esL;rw [List.length_map]
  have hq:∀ s∈qs,0≤s.1∧s.1<(rs.length:Int):=fun s hs=>by have:=(hB.ok s hs).1;rw [hl0] at this;exact this
  have hq1:∀ s∈qs,0≤s.2:=fun s hs=>by have:=(hB.ok s hs).2.1;omega
  have hd:=hB.d1
  have hrow:∀ k:Nat,k<rs.length→(esL rs)[k]?=some (qag rs (k:Int)).1:=fun k hk=>by
    unfold esL qag
    rw [List.getElem?_map,Int.toNat_natCast,qaQ (d:=([],0)) hk]
    rfl
  have hlen:∀ e∈esL rs,e.length=n:=fun e he=>by
    obtain ⟨r,hr,rfl⟩:=List.mem_map.mp he
    exact h39.len r hr
  have hup:∀ e∈esL rs,0≤dot e ray:=fun e he=>by
    obtain ⟨k,hk⟩:=List.getElem?_of_mem he
    have hk':k<rs.length:=by rw [← hel];exact qaF hk
    rw [hrow k hk'] at hk
    cases hk
    exact hR.up k hk'
  have hwn:∀ x∈ws,0≤x:=fun x hx=>by
    obtain ⟨k,hk⟩:=List.getElem?_of_mem hx
    have:=hw k (by rw [← hwl];exact qaF hk)
    rw [qb0 hk] at this
    have:=qid hq1 k
    split at*<;> omega
  have hsum:∀ j,j<n→dot ws ((esL rs).map fun e=>e.getD j 0)=0:=fun j hj=>by
    rw [qby hwl (by rw [List.length_map,hel])]
    unfold Wk.dt
    have e1:Wk.sm rs.length (fun k=>ws.getD k 0*((esL rs).map fun e=>e.getD j 0).getD k 0)=Wk.sm rs.length (fun k=>if k∈stl rs ray then d*(qag rs (k:Int)).1.getD j 0 else 0)+Wk.sm rs.length (fun k=>qhm qs k*(qag rs (k:Int)).1.getD j 0):=by
      rw [← Wk.sm_add]
      refine Wk.sm_congr fun k hk=>?_
      rw [hw k hk,qb0 (xs:=(esL rs).map fun e=>e.getD j 0) (x:=(qag rs (k:Int)).1.getD j 0) (by rw [List.getElem?_map,hrow k hk];rfl),Int.add_mul]
      congr 1
      split
      · rfl
      · omega
    rw [e1,qlM,qh1 hq]
    have e2:((stl rs ray).map fun k=>d*(qag rs ((k:Nat):Int)).1.getD j 0).sum=d*(glS rs ray n).getD j 0:=by
      unfold glS
      rw [qeC _ hj,List.map_map,← qgy,List.map_map]
      rfl
    have e3:(qs.map fun s=>s.2*(qag rs ((s.1.toNat:Nat):Int)).1.getD j 0).sum=qea (qbw rs) qs j:=by
      unfold qea
      congr 1
      refine List.map_congr_left fun s hs=>?_
      have h1:=hq s hs
      have h2:qag (qbw rs) s.1=((qag rs s.1).1,0):=by
        have:=qer (rs:=rs) (k:=s.1.toNat) (by omega)
        rwa [show ((s.1.toNat:Nat):Int)=s.1 by omega] at this
      rw [h2,show ((s.1.toNat:Nat):Int)=s.1 by omega]
    rw [e2,e3,hB.row j hj,Int.neg_mul]
    omega
  have hz:=(qdv (ws:=ws) (ys:=(esL rs).map fun e=>dot e ray) hwn fun y hy=>by
    obtain ⟨z,hz,rfl⟩:=List.mem_map.mp hy
    exact hup z hz).2 (by
      rw [qev hR.len hlen,Wk.sm_congr (g:=fun _=>0) fun j hj=>by rw [hsum j hj,Int.mul_zero]]
      exact Wk.sm_zero n)
  refine ⟨hR.len,by rw [hel];exact hwl,hup,hwn,hsum,fun k e hk=>?_,fun x hx=>qbL (hR.sz2 x hx) (by decide),hwb⟩
  have hk':k<rs.length:=by rw [← hel];exact qaF hk
  have he:=hup e (List.mem_of_getElem? hk)
  have hz:=hz k (by rw [hwl];exact hk') (by rw [List.length_map,hel];exact hk')
  rw [qb0 (xs:=(esL rs).map fun e=>dot e ray) (x:=dot e ray) (by rw [List.getElem?_map,hk];rfl)] at hz
  constructor
  · intro hg
    rcases Int.mul_eq_zero.mp hz with c | c
    · exact c
    · omega
  · intro h0
    rcases Int.lt_or_le 0 (dot e ray) with c | c
    · exact c
    · rw [hrow k hk'] at hk
      cases hk
      have hs:k∈stl rs ray:=stl_mem.mpr ⟨hk',by omega⟩
      have:=hw k hk'
      rw [if_pos hs] at this
      have:=qid hq1 k
      omega
theorem qi2 {n:Nat} {f:Addr} {fd:FuncData} (F:Fun K "inner" "inner" qeQ f fd) (Q_width:Cl P w K mg base n "width" ["rows"] qhy) (Q_ask_still:Cl P w K mg base n "ask_still" ["rows","ray"] qdY) (Q_summed:Cl P w K mg base n "summed" ["lists","n"] qeS) (Q_divided:Cl P w K mg base n "divided" ["numbers"] qfl) (z_len:mg "len"=none):FnOk P w K mg base CX0 (n+1) f fd ["rows"] (lSp K qhr):=by
  refine F.okD sc_inner (fun ds R h=>?_) (fun cdv A outer s H E ds R hr h=>?_)
  · obtain ⟨rs,n,rfl,_⟩:=h;rfl
  obtain ⟨rs,n,rfl,h39,q⟩:=h
  refine ⟨_,(qao (qaE (i:=1) sc_inner.nd rfl (Or.inl rfl) (qaq Q_width hr rfl (qab (dv 0) qal qaa) qaa qad))
      (qao (qaE (i:=2) sc_inner.nd rfl (Or.inl rfl) (qa3 qbD (PD.q (qcc (qab qai qal qak))) (dvq 1)))
      (qao (qaE (i:=3) sc_inner.nd rfl (Or.inl rfl) (qaq Q_ask_still hr rfl (qab (dv 0) (qab (dv 2) qal qaa) qaa) qaa (qae qaa qad)))
      (qao (qfW PassesOwn.never (qa5 (qe3 hr.units) (PD.q (qa1 (PD.q (qa1 (dvq 3) (PD.q qai) (fun _ _=>rfl))) (PD.q qai) (fun _ _=>rfl))) (PD.q qdI) (qaD _)) (qao (qaE (i:=2) sc_inner.nd rfl (Or.inl rfl) (qaq Q_summed hr rfl (qab (PF.d (qcK (qab (dv 2) (qab (qa1 (PD.q (qa1 (dvq 3) (PD.q qai) (fun _ _=>rfl))) (PD.q qai) (fun _ _=>rfl)) qal qac) qaa))) (qab (dv 1) qal qaa) qce) qce (qae qaa qad)))
      (qaw (qaE (i:=3) sc_inner.nd rfl (Or.inl rfl) (qaq Q_ask_still hr rfl (qab (dv 0) (qab (dv 2) qal qaa) qaa) qaa (qae qaa qad))))))
      (qao (qaE (i:=4) sc_inner.nd rfl (Or.inl rfl) (qa1 (dvq 3) (PD.q qai) (fun _ _=>rfl)))
      (qao (qjE (i:=5) sc_inner.nd rfl (Or.inl rfl) (qnO (PD.q (PF.d (qcK (qab qai qal qak)))) (PD.q (qaH qcg rfl z_len PySem.boot_len (qap (dvq 0) qav qaa) qaa qad))))
      (qao (qdO PassesOwn.never rfl (qbC (qa1 (dvq 3) (PD.q qai) (fun _ _=>rfl))) (qar (i:=6) sc_inner.nd rfl (Or.inl rfl)) (qaw (qlR 5 (qa1 (dvq 4) (PD.q qai) (fun _ _=>rfl)) (dvq 6))))
      (qao (qdO PassesOwn.never rfl (qbC (qa1 (dvq 4) (PD.q qai) (fun _ _=>rfl))) (qcT (n:=2) rfl (qaJ (qar (i:=6) sc_inner.nd rfl (Or.inl rfl)) (qaJ (qar (i:=7) sc_inner.nd rfl (Or.inl rfl)) qbO))) (qaw (qlR 5 (qa3 qbN (PD.q (qa1 (dvq 5) (dvq 6) (fun _ _=>rfl))) (dvq 7)) (dvq 6))))
      (qkO 5 (qaw (qaN (qcc (qab (qaq Q_divided hr rfl (qab (dv 2) qal qaa) qaa qad) (qab (qaq Q_divided hr rfl (qab (dv 5) qal qaa) qaa qad) qal qaj) qaj))))))))))))),?_⟩
  have n8:=h39.n8
  have hM:=h39.M
  have hMl:((rs.map qbe).length:Int)=(rs.length:Int):=by rw [List.length_map]
  have hl0:(qbw rs).length=rs.length:=by unfold qbw;rw [List.length_map]
  have hz0:∀ x∈List.replicate n (0:Int),x=0:=fun x hx=>(List.mem_replicate.mp hx).2
  have hR0:RayOk rs n (List.replicate n 0):=⟨List.length_replicate,fun k _=>by rw [qez hz0];exact Int.le_refl _,fun x hx=>by rw [hz0 x hx];exact Nat.zero_le _⟩
  refine ⟨rs,n,rfl,h39.nil,h39.len,⟨by simp,by omega,by omega,by show (n:Int).toNat*1≤1000;omega⟩,(List.replicate n (0:Int)).map D.int,by rw [qcJ,Int.toNat_natCast],rs,List.replicate n 0,n,rfl,h39,List.length_replicate,hR0.sz2,fun sd0 st0 j0 d0 _ hf0 he0=>?_⟩
  refine ⟨fun k ρ=>∃ (ray:List Int) (sd:Std) (d:D),ρ=[some (.v (.tup (rs.map qbe))),some (.v (.int (n:Int))),some (.v (.tup (ray.map D.int))),some (.v (.tup [.lst ((nI (stl rs ray)).map D.int),d])),none,none,none,none]∧RayOk rs n ray∧Wf (qbw rs) n sd∧End (qbw rs) (glS rs ray n) sd d∧k=(stl rs ray).length,⟨_,List.replicate n 0,sd0,d0,rfl,hR0,hf0,he0,rfl⟩,?_⟩
  rintro k ρ ⟨ray,sd,d,rfl,hR,hf,he,rfl⟩
  have ho:=qhQ h39 ray
  have hrw:=ho.rw_
  have hz:=hf.sz hrw
  cases he with
  | non qn qs a1 a2 a3 a4 =>
    refine (NonOk.bars (qkT hrw hf a1 a2 a3 a4) hrw.len (x:=List.replicate n 0) (y:=1) List.length_replicate (by decide) fun r hr=>?_).elim
    obtain ⟨r',_,rfl⟩:=qhx hr
    rw [qez hz0]
    show (0:Int)*1≤0
    omega
  | endl p a1 a2 a3 =>
    have hE:=qjy hrw hf ho.gw a1 a2 a3
    have hp:p<n:=by have:=a2.1;rw [qaT,hf.wl] at this;exact this
    have hpm:=qax (d:=[]) (show p<sd.ways.length by rw [hf.wl];exact hp)
    have hrb:∀ x∈(sd.ways.getD p []).map (· / qa6 (sd.ways.getD p [])),x.natAbs≤2 ^ 7224:=fun x hx=>by
      obtain ⟨y,hy,rfl⟩:=List.mem_map.mp hx
      exact Nat.le_trans (Int.natAbs_ediv_le_natAbs _ _) (hz.w _ hpm y hy)
    generalize (sd.ways.getD p []).map (· / qa6 (sd.ways.getD p []))=r2 at hE hrb
    obtain ⟨hR2,hlt⟩:=hR.add h39 hE.len (fun k hk=>by
      have:=hE.up (qag (qbw rs) (k:Int)) (qaO (by omega) (by rw [hl0];omega))
      rwa [qer hk] at this) hE.grow hrb
    refine ⟨_,rfl,_,rfl,fun _=>?_,fun h=>(by cases h)⟩
    refine ⟨_,rfl,_,rfl,[ray,r2],n,rfl,by omega,by show 2≤500;decide,fun l hl=>?_,?_⟩
    · rcases List.mem_cons.mp hl with rfl | hl
      · exact hR.len
      · rw [List.mem_singleton.mp hl];exact hE.len
    exact ⟨rs,qbM [ray,r2] n,n,rfl,h39,qb6 _ _,hR2.sz2,fun sd' st' j' d' _ hf' he'=>⟨_,hlt,_,sd',d',rfl,hR2,hf',he',rfl⟩⟩
  | best qs a1 a2 a3 a4 =>
    have hB:=qjv hrw hf ho.gw a1 a2 a3 a4
    obtain ⟨sm1,sm2⟩:=qjq hrw hf ho.gw
    have hqs:∀ s∈qs,s.2.natAbs≤2 ^ 8127:=fun s hs=>sm1 s (a3.mem_iff.mp hs)
    have hql:qs.length≤8:=by
      rw [a3.length_eq]
      have:=qcr sd (gsL sd (glS rs ray n))
      rw [qaT,hf.wl] at this
      omega
    have hq:∀ s∈qs,0≤s.1∧s.1<(rs.length:Int):=fun s hs=>by have:=(hB.ok s hs).1;rw [hl0] at this;exact this
    refine ⟨_,rfl,_,rfl,fun h=>(by cases h),fun _=>?_⟩
    refine ⟨_,rfl,⟨by omega,by omega,small (by show 1*(((rs.map qbe).length:Nat):Int).toNat≤1000;omega)⟩,(List.replicate rs.length (0:Int)).map D.int,by rw [qcJ,hMl,Int.toNat_natCast],_,rfl,?_⟩
    refine ⟨fun i ρ=>∃ (ws:List Int) (u6:Option Sl),ρ=[some (.v (.tup (rs.map qbe))),some (.v (.int (n:Int))),some (.v (.tup (ray.map D.int))),some (.v (.tup [.lst ((nI (stl rs ray)).map D.int),qfY (qcF sd.tops sd.bot) qs (shD sd (gsL sd (glS rs ray n)))])),some (.v (qfY (qcF sd.tops sd.bot) qs (shD sd (gsL sd (glS rs ray n))))),some (.own (ws.map D.int)),u6,none]∧ws.length=rs.length∧∀ k,k<rs.length→ws.getD k 0=if k∈(stl rs ray).take i then shD sd (gsL sd (glS rs ray n)) else 0,⟨List.replicate rs.length 0,_,rfl,List.length_replicate,fun k hk=>?_⟩,?_,?_⟩
    · rw [List.take_zero,if_neg List.not_mem_nil,List.getD_eq_getElem?_getD,List.getElem?_replicate,if_pos hk]
      rfl
    · rintro i e ρ hE ⟨ws,u6,rfl,hwl,hw⟩
      obtain ⟨s0,rfl,hs0⟩:=qbB hE
      unfold nI at hs0
      rw [List.getElem?_map] at hs0
      cases es:(stl rs ray)[i]? with
      | none=>rw [es] at hs0;cases hs0
      | some k0 =>
        rw [es] at hs0
        cases hs0
        have hk0:=(stl_mem.mp (List.mem_of_getElem? es)).1
        refine ⟨_,rfl,k0,by rw [List.length_map];exact qin (by omega),_,qgs D.int ws k0 _,ws.set k0 _,_,rfl,by rw [List.length_set];exact hwl,fun k hk=>?_⟩
        rw [qa9 (by omega),hw k hk,qb8 es]
        by_cases c:k=k0
        · rw [if_pos c,if_pos (List.mem_append_right _ (by rw [c];exact List.mem_singleton.mpr rfl))]
        · rw [if_neg c]
          by_cases c2:k∈(stl rs ray).take i
          · rw [if_pos c2,if_pos (List.mem_append_left _ c2)]
          · rw [if_neg c2,if_neg fun h=>by
              rcases List.mem_append.mp h with h | h
              · exact c2 h
              · exact c (List.mem_singleton.mp h)]
    rintro ρ ⟨ws0,u6,rfl,hwl0,hw0⟩
    have hw0':∀ k,k<rs.length→ws0.getD k 0=if k∈stl rs ray then shD sd (gsL sd (glS rs ray n)) else 0:=fun k hk=>by
      have:=hw0 k hk
      rwa [List.length_map,show (nI (stl rs ray)).length=(stl rs ray).length by unfold nI;rw [List.length_map],List.take_length] at this
    refine ⟨_,rfl,fun i ρ=>∃ (ws:List Int) (u6 u7:Option Sl),ρ=[some (.v (.tup (rs.map qbe))),some (.v (.int (n:Int))),some (.v (.tup (ray.map D.int))),some (.v (.tup [.lst ((nI (stl rs ray)).map D.int),qfY (qcF sd.tops sd.bot) qs (shD sd (gsL sd (glS rs ray n)))])),some (.v (qfY (qcF sd.tops sd.bot) qs (shD sd (gsL sd (glS rs ray n))))),some (.own (ws.map D.int)),u6,u7]∧ws.length=rs.length∧∀ k,k<rs.length→ws.getD k 0=(if k∈stl rs ray then shD sd (gsL sd (glS rs ray n)) else 0)+qhm (qs.take i) k,⟨ws0,_,_,rfl,hwl0,fun k hk=>?_⟩,?_,?_⟩
    · rw [hw0' k hk,List.take_zero]
      show _=_+0
      omega
    · rintro i e ρ hE ⟨ws,u6,u7,rfl,hwl,hw⟩
      obtain ⟨s,rfl,hs⟩:=qbB hE
      have hsm:=List.mem_of_getElem? hs
      obtain ⟨s0,s1⟩:=hq s hsm
      obtain ⟨k0,ek0⟩:∃ k0:Nat,s.1=(k0:Int):=⟨s.1.toNat,by omega⟩
      have hk0:k0<rs.length:=by omega
      refine ⟨rfl,_,qbn (i:=k0) (qaQ (d:=0) (by omega)) ek0,k0,by rw [List.length_map,ek0];exact qin (by omega),_,qgs D.int ws k0 _,ws.set k0 _,_,_,rfl,by rw [List.length_set];exact hwl,fun k hk=>?_⟩
      rw [qa9 (by omega),qb8 hs,qix,hw k0 hk0]
      by_cases c:k=k0
      · rw [if_pos c,c,if_pos ek0]
        omega
      · rw [if_neg c,hw k hk,if_neg (show ¬ s.1=(k:Int) by omega)]
        omega
    rintro ρ ⟨ws,u6,u7,rfl,hwl,hw⟩
    rw [List.length_map,List.take_length] at hw
    have hab:∀ k,(qhm qs k).natAbs≤8*2 ^ 8127:=fun k=>by
      have:=qf6 (M:=2 ^ 8127) (l:=qs.map fun s=>if s.1=(k:Int) then s.2 else 0) fun x hx=>by
        obtain ⟨s,hs,rfl⟩:=List.mem_map.mp hx
        split
        · exact hqs s hs
        · exact Nat.zero_le _
      rw [List.length_map] at this
      exact Nat.le_trans this (Nat.mul_le_mul_right _ hql)
    have hwB:∀ x∈ws,x.natAbs≤2 ^ 8900:=fun x hx=>by
      obtain ⟨k,hk⟩:=List.getElem?_of_mem hx
      have e:=hw k (by rw [← hwl];exact qaF hk)
      rw [qb0 hk] at e
      have h1:=hab k
      have h2:2 ^ 7224+8*2 ^ 8127≤2 ^ 8900:=by decide +kernel
      have h3:(if k∈stl rs ray then shD sd (gsL sd (glS rs ray n)) else 0).natAbs≤2 ^ 7224:=by
        split
        · exact sm2
        · exact Nat.zero_le _
      generalize (if k∈stl rs ray then shD sd (gsL sd (glS rs ray n)) else 0)=u at e h3
      generalize qhm qs k=v at e h1
      generalize 8*2 ^ 8127=E1 at *
      generalize 2 ^ 7224=E2 at *
      generalize 2 ^ 8900=E3 at *
      omega
    have hI:InOk (esL rs) n ray ws:=qk1 h39 hR hB hwl hw fun x hx=>qbL (hwB x hx) (by decide)
    refine ⟨ray,rfl,by rw [hR.len];omega,fun x hx=>Nat.le_trans (hR.sz2 x hx) (qcb (by decide)),ws,rfl,by rw [hwl];omega,hwB,?_⟩
    exact q _ _ hI.div
def qcU:SpD:=fun ds R=>∃ i:Int,ds=[.int i]∧R (.bl true)
theorem qeA {n:Nat} {f:Addr} {fd:FuncData} (F:Fun K "_law_whole" "_law_whole" qbH f fd) (z_isinstance:mg "isinstance"=none) (z_int:mg "int"=none) (z_bool:mg "bool"=none):FnOk P w K mg base CX0 (n+1) f fd ["_law_seen"] (lSp K qcU):=by
  refine F.okD qeG (fun ds R h=>?_) (fun cdv A outer s H E ds R hr h=>?_)
  · obtain ⟨i,rfl,_⟩:=h;rfl
  obtain ⟨i,rfl,q⟩:=h
  refine ⟨_,(qaw (qaN (qkW (qjp rfl z_isinstance (dvq 0) (qes (v:=.ty "int") rfl z_int PyProof.Rows.boot_int rfl) qaa qaa) (qm4 (qnU (PD.q (qjp rfl z_isinstance (dvq 0) (qes (v:=.ty "bool") rfl z_bool PyProof.Rows.boot_bool rfl) qaa qaa))))))),?_⟩
  exact ⟨true,qmE i,fun _=>⟨false,qmc i,q⟩,fun h=>tf h⟩
def qcX:SpD:=fun ds R=>∃ (xs ys:List Int),ds.map asT=[.tup (xs.map D.int),.tup (ys.map D.int)]∧xs.length≤1000∧(∀ x∈xs,qbT x)∧(∀ y∈ys,qbT y)∧R (.int (dot xs ys))
theorem qeX {n:Nat} {f:Addr} {fd:FuncData} (F:Fun K "_law_times" "_law_times" qbm f fd) (z_sum:mg "sum"=none) (z_zip:mg "zip"=none):FnOk P w K mg base CX0 (n+1) f fd ["_law_one","_law_other"] (lSp K qcX):=by
  refine F.okD qeO (fun ds R h=>?_) (fun cdv A outer s H E ds R hr h=>?_)
  · obtain ⟨xs,ys,e,_⟩:=h
    have:=congrArg List.length e
    rw [List.length_map] at this
    exact this
  obtain ⟨xs,ys,e,hl,hx,hy,q⟩:=h
  obtain ⟨d1,d2,rfl⟩:∃ d1 d2,ds=[d1,d2]:=by
    have:=congrArg List.length e
    rw [List.length_map] at this
    match ds,this with
    | [d1,d2],_=>exact ⟨d1,d2,rfl⟩
  have e1:asT d1=.tup (xs.map D.int):=(List.cons.inj e).1
  have e2:asT d2=.tup (ys.map D.int):=(List.cons.inj (List.cons.inj e).2).1
  refine ⟨_,(qaw (qaN (qaH (qlJ rfl) rfl z_sum PyProof.Rows.boot_sum (qap (PD.q (PF.d (qaM (k:=2) (N':=["_law_here","_law_there"]) (cap:=[none,none]) rfl (.ok (show qaI ["_law_one","_law_other"] (qaf qbm) _ ["_law_here","_law_there"] [none,none]=true by decide +kernel)) (by decide +kernel) (qc5 (n:=2) (qa4 (qaC (by decide)) (qa4 (qaC (by decide)) qc2))) (qdz rfl z_zip (qab (dv 0) (qab (dv 1) qal qaa) qaa)) (fun _ _ _ _ _=>(qcT (n:=2) rfl (qaJ (qar (i:=0) (show List.Nodup (["_law_here","_law_there"]:List Str) by decide +kernel) rfl (Or.inl rfl)) (qaJ (qar (i:=1) (show List.Nodup (["_law_here","_law_there"]:List Str) by decide +kernel) rfl (Or.inl rfl)) qbO)))) (fun _ _ _ _ _=>(qa3 qbD (dvq 0) (dvq 1)))))) qav qah) qah qad))),?_⟩
  rcases qgb e1 with rfl | rfl <;> rcases qgb e2 with rfl | rfl
  all_goals
    refine ⟨_,_,rfl,rfl,?_⟩
    refine qbt (fun x y=>D.int (x*y)) (qam hl) (fun x hx' y hy'=>⟨rfl,qdS (hx x hx') (hy y hy'),rfl⟩) ?_
    exact ⟨List.zipWith (fun x y=>x*y) xs ys,by rw [List.map_zipWith];rfl,q⟩
abbrev Dr (d z:Int):Prop:=0≤d∧d<z
abbrev Drawn (ds zs:List Int):Prop:=Paired Dr ds zs
theorem Drawn.take {zs:List Int} {i:Nat} {z:Int} {ds:List Int} (h:Drawn ds (zs.take i)) (hz:zs[i]?=some z) {d:Int} (h0:0≤d) (h1:d<z):Drawn (ds++[d]) (zs.take (i+1)):=by
  rw [qb8 hz]
  exact Paired.snoc h ⟨h0,h1⟩
theorem Drawn.len {ds zs:List Int} (h:Drawn ds zs):ds.length=zs.length:=Paired.length h
def qc3:SpD:=fun ds R=>∃ (c k:Int),ds=[.int c,.int k]∧0≤k∧k<2 ^ 20∧∀ x:Int,0≤x→x<1000000007→R (.int x)
theorem qeY {n:Nat} {f:Addr} {fd:FuncData} (F:Fun K "_law_mixed" "_law_mixed" qbG f fd) :FnOk P w K mg base CX0 (n+1) f fd ["_law_cell","_law_k"] (lSp K qc3):=by
  refine F.okD sc__law_mixed (fun ds R h=>?_) (fun cdv A outer s H E ds R hr h=>?_)
  · obtain ⟨c,k,rfl,_⟩:=h;rfl
  obtain ⟨c,k,rfl,k0,k1,q⟩:=h
  refine ⟨_,(qao (qaE (i:=2) sc__law_mixed.nd rfl (Or.inl rfl) (qa3 qg3 (PD.q (qa3 qbD (PD.q (qa3 qbN (PD.q (qa3 qbN (PD.q (qa3 qbN (dvq 0) (PD.q (qa3 qbD (PD.q (qa3 qbD (PD.q qai) (dvq 1))) (dvq 1))))) (PD.q (qa3 qbD (PD.q qai) (dvq 1))))) (PD.q qai))) (PD.q qai))) (PD.q qai)))
      (qaw (qaN (qa3 qg3 (PD.q (qa3 qbN (PD.q (qa3 qbD (dvq 2) (PD.q qai))) (PD.q (qa3 qcW (dvq 2) (PD.q qai))))) (PD.q qai))))),?_⟩
  refine ⟨qct (by decide) (by decide),qfQ (by omega) (by omega),qct (by decide) (by decide),qfQ (by decide) (by decide),(by decide:(0:Int)<2147483647),qfQ (by decide) (by decide),CDivB.of (by decide) (by decide +kernel),(by decide:(0:Int)<1000000007),q _ (Int.emod_nonneg _ (by decide)) (Int.emod_lt_of_pos _ (by decide))⟩
def qbJ:SpD:=fun ds R=>∃ (ns:List Int) (at_:Int) (zs:List Int),ds=[.fzl (ns.map D.int),.int at_,.lst (zs.map D.int)]∧ns.length≤63∧0≤at_∧at_≤1000∧zs.length≤500∧(∀ z∈zs,0<z∧z<2 ^ 9000)∧∀ es:List Int,Drawn es zs→R (.lst (es.map D.int))
theorem qeT {n:Nat} {f:Addr} {fd:FuncData} (F:Fun K "_law_draws" "_law_draws" qbF f fd) (Q__law_mixed:Cl P w K mg base n "_law_mixed" ["_law_cell","_law_k"] qc3) (z_enumerate:mg "enumerate"=none) (z_len:mg "len"=none):FnOk P w K mg base CX0 (n+1) f fd ["_law_script","_law_at","_law_sizes"] (lSp K qbJ):=by
  refine F.okD sc__law_draws (fun ds R h=>?_) (fun cdv A outer s H E ds R hr h=>?_)
  · obtain ⟨ns,at_,zs,rfl,_⟩:=h;rfl
  obtain ⟨ns,at_,zs,rfl,hn,a0,a1,hz,hzs,q⟩:=h
  refine ⟨_,(qao (qaE (i:=3) sc__law_draws.nd rfl (Or.inl rfl) (qa3 qbD (PD.q qai) (dvq 1)))
      (qbW (qcZ (qgc (dvq 0) (fun _=>rfl)) (qaw (qaE (i:=3) sc__law_draws.nd rfl (Or.inl rfl) (qa1 (dvq 0) (PD.q (qa3 qg3 (dvq 1) (PD.q (qaH qcg rfl z_len PySem.boot_len (qap (dvq 0) qav qaa) qaa qad)))) (fun _ _=>rfl)))) qbs)
      (qao (qaE (i:=4) sc__law_draws.nd rfl (Or.inl rfl) (qa3 qgd (dvq 3) (PD.q (qa3 qhj (PD.q qai) (PD.q qai)))))
      (qao (qjE (i:=5) sc__law_draws.nd rfl (Or.inl rfl) (qcK qal))
      (qao (qdO PassesOwn.never rfl (qf5 rfl z_enumerate (qab (dv 2) qal qaa)) (qcT (n:=2) rfl (qaJ (qar (i:=6) sc__law_draws.nd rfl (Or.inl rfl)) (qaJ (qar (i:=7) sc__law_draws.nd rfl (Or.inl rfl)) qbO))) (qaw (qcZ (qa5 qkY (dvq 4) (PD.q qai) (qaD _)) (qao (qbU 5 (qa3 qg3 (dvq 4) (dvq 7)) (qdD qaz) qaz)
      (qaw (qaE (i:=4) sc__law_draws.nd rfl (Or.inl rfl) (qa3 qcW (dvq 4) (dvq 7))))) (qao (qaE (i:=8) sc__law_draws.nd rfl (Or.inl rfl) (qaq Q__law_mixed hr rfl (qab (dv 3) (qab (qa3 qbN (PD.q (qa3 qbD (PD.q qai) (dvq 1))) (dvq 6)) qal qaz) qaa) qaa (qae qaz qad)))
      (qbW (qcZ (qa5 qkY (dvq 7) (PD.q qai) (qaD _)) (qaw (qaE (i:=8) sc__law_draws.nd rfl (Or.inl rfl) (qa3 qbN (PD.q (qa3 qhj (dvq 8) (PD.q qai))) (PD.q (qaq Q__law_mixed hr rfl (qab (dv 3) (qab (qa3 qbN (PD.q (qa3 qbN (PD.q (qa3 qbD (PD.q qai) (dvq 1))) (dvq 6))) (PD.q qai)) qal qaz) qaa) qaa (qae qaz qad)))))) qbs)
      (qaw (qbU 5 (qa3 qg3 (dvq 8) (dvq 7)) (qdD qaz) qaz)))))))
      (qkO 5 (qaw (qaN (dv 5))))))))),?_⟩
  refine ⟨qct (by decide) (by decide),fun ρ=>∃ cl:Int,ρ=[some (.v (.fzl (ns.map D.int))),some (.v (.int at_)),some (.v (.lst (zs.map D.int))),some (.v (.int cl)),none,none,none,none,none],⟨fun h=>?_,fun h=>⟨_,rfl⟩⟩,?_⟩
  · have hne:ns≠[]:=fun e=>by subst e;cases h
    have hp:(0:Int)<((ns.map D.int).length:Int):=by
      have:=List.length_pos_iff.mpr hne
      rw [List.length_map];omega
    obtain ⟨v,hv⟩:=qkL (ns:=ns) (k:=at_ % ((ns.map D.int).length:Int)) (Int.emod_nonneg _ (by omega)) (by have:=Int.emod_lt_of_pos at_ hp;rw [List.length_map] at this ⊢;exact this)
    exact ⟨hp,_,hv,_,rfl⟩
  rintro ρ ⟨cl,rfl⟩
  refine ⟨⟨by decide,by decide,by decide⟩,fun i ρ=>∃ (r:Int) (es:List Int) (u6 u7 u8:Option Sl),ρ=[some (.v (.fzl (ns.map D.int))),some (.v (.int at_)),some (.v (.lst (zs.map D.int))),some (.v (.int cl)),some (.v (.int r)),some (.own (es.map D.int)),u6,u7,u8]∧Drawn es (zs.take i),⟨_,[],_,_,_,rfl,.nil⟩,?_,?_⟩
  · rintro i d ρ hd ⟨r,es,u6,u7,u8,rfl,hD⟩
    obtain ⟨e,he,rfl⟩:=qdf hd
    obtain ⟨z,rfl,hzi⟩:=qbB he
    have hzm:=hzs z (List.mem_of_getElem? hzi)
    have hi:i<zs.length:=qaF hzi
    have ll:(es.map D.int).length<sizeLine:=by
      have:=hD.len
      rw [List.length_take] at this
      rw [List.length_map]
      exact qam (by omega)
    refine ⟨rfl,fun h=>⟨hzm.1,ll,_,qhg _ _ _,CDivB.of hzm.1 hzm.2,_,es++[r % z],_,_,_,rfl,hD.take hzi (Int.emod_nonneg _ (by omega)) (Int.emod_lt_of_pos _ hzm.1)⟩,fun h=>?_⟩
    refine ⟨qct (by decide) (by decide),cl,_,rfl,by omega,by omega,fun x x0 x1=>?_⟩
    refine ⟨fun ρ=>∃ y:Int,ρ=[some (.v (.fzl (ns.map D.int))),some (.v (.int at_)),some (.v (.lst (zs.map D.int))),some (.v (.int cl)),some (.v (.int r)),some (.own (es.map D.int)),some (.v (.int i)),some (.v (.int z)),some (.v (.int y))],⟨fun _=>⟨⟨by decide,by decide,by omega⟩,qct (by decide) (by decide),cl,_,rfl,by omega,by omega,fun y _ _=>⟨_,rfl⟩⟩,fun _=>⟨_,rfl⟩⟩,?_⟩
    rintro ρ ⟨y,rfl⟩
    exact ⟨hzm.1,ll,_,qhg _ _ _,_,es++[y % z],_,_,_,rfl,hD.take hzi (Int.emod_nonneg _ (by omega)) (Int.emod_lt_of_pos _ hzm.1)⟩
  · rintro ρ ⟨r,es,u6,u7,u8,rfl,hD⟩
    rw [qbR,List.length_map,List.take_length] at hD
    exact q es hD
def qcG:SpD:=fun ds R=>∃ (xs:List Int) (n:Int),ds=[.tup (xs.map D.int),.int n]∧n=(xs.length:Int)∧xs.length≤500∧R (.bl true)
theorem qd8 {n:Nat} {f:Addr} {fd:FuncData} (F:Fun K "_law_wholes" "_law_wholes" qba f fd) (Q__law_whole:Cl P w K mg base n "_law_whole" ["_law_seen"] qcU) (z_isinstance:mg "isinstance"=none) (z_tuple:mg "tuple"=none) (z_all:mg "all"=none) (z_len:mg "len"=none):FnOk P w K mg base CX0 (n+1) f fd ["_law_seen","_law_size"] (lSp K qcG):=by
  refine F.okD qd1 (fun ds R h=>?_) (fun cdv A outer s H E ds R hr h=>?_)
  · obtain ⟨xs,n,rfl,_⟩:=h;rfl
  obtain ⟨xs,n,rfl,hn,hl,q⟩:=h
  refine ⟨_,(qaw (qaN (qkW (qjp rfl z_isinstance (dvq 0) (qes (v:=.ty "tuple") rfl z_tuple PyProof.Rows.boot_tuple rfl) qaa qaa) (qkW (qeW (qe3 hr.units) (PD.q (qaH qcg rfl z_len PySem.boot_len (qap (dvq 0) qav qaa) qaa qad)) (dvq 1) (qaD _)) (qm4 (qaH (qnT rfl) rfl z_all PyProof.Rows.boot_all (qap (PD.q (PF.d (qaM (k:=1) (N':=["_law_one"]) (cap:=[none]) rfl (.ok (show qaI ["_law_seen","_law_size"] (qaf qba) _ ["_law_one"] [none]=true by decide +kernel)) (by decide +kernel) (qaC (by decide)) (qbC (dv 0)) (fun _ _ _ _ _=>(qar (i:=0) (show List.Nodup (["_law_one"]:List Str) by decide +kernel) rfl (Or.inl rfl))) (fun _ _ _ _ _=>(qaq Q__law_whole hr rfl (qab (dv 0) qal qaa) qaa qad))))) qav qah) qah qad)))))),?_⟩
  have hL:((xs.map D.int).length:Int)=n:=by rw [List.length_map,hn]
  have hb:(((xs.map D.int).length:Int) == n)=true:=by rw [hL];exact beq_self_eq_true _
  refine ⟨true,qkd _,fun _=>⟨fun _=>?_,fun h=>?_⟩,fun h=>tf h⟩
  · refine qbp (f:=D.int) (fun _=>D.bl true) (qam (by omega)) (fun x _=>⟨x,rfl,rfl⟩) ?_
    refine ⟨xs.map fun _=>true,by rw [List.map_map];rfl,?_⟩
    refine toB q ?_
    show (xs.map fun _=>true).all id=true
    rw [List.all_eq_true]
    intro b hb
    obtain ⟨_,_,rfl⟩:=List.mem_map.mp hb
    rfl
  · have h':(((xs.map D.int).length:Int) == n)=false:=h
    rw [hb] at h'
    cases h'
def qc1:SpD:=fun ds R=>∃ (ns:List Int) (at_:Int) (es:List (List Int)),ds=[.fzl (ns.map D.int),.int at_,.lst (es.map wD)]∧ns.length≤63∧0≤at_∧at_≤1000∧es.length≤400∧∀ bs:List Int,bs.length=es.length→R (.tup ((List.zip es bs).map qbe))
theorem qew {n:Nat} {f:Addr} {fd:FuncData} (F:Fun K "_law_bound" "_law_bound" qbl f fd) (Q__law_draws:Cl P w K mg base n "_law_draws" ["_law_script","_law_at","_law_sizes"] qbJ) (z_tuple:mg "tuple"=none) (z_len:mg "len"=none) (z_zip:mg "zip"=none):FnOk P w K mg base CX0 (n+1) f fd ["_law_script","_law_at","_law_rows"] (lSp K qc1):=by
  refine F.okD sc__law_bound (fun ds R h=>?_) (fun cdv A outer s H E ds R hr h=>?_)
  · obtain ⟨ns,at_,es,rfl,_⟩:=h;rfl
  obtain ⟨ns,at_,es,rfl,hn,a0,a1,hl,q⟩:=h
  refine ⟨_,(qao (qaE (i:=3) sc__law_bound.nd rfl (Or.inl rfl) (qaq Q__law_draws hr rfl (qab (dv 0) (qab (dv 1) (qab (qa3 qbD (PD.q (PF.d (qcK (qab (qa3 qbN (PD.q (qa3 qbD (PD.q qai) (PD.q (qa3 qhj (PD.q qai) (PD.q qai))))) (PD.q qai)) qal qaz)))) (PD.q (qaH qcg rfl z_len PySem.boot_len (qap (dvq 2) qav qaa) qaa qad))) qal qaz) qaa) qaa) qaa (qae qaa (qae qaz qad))))
      (qaw (qaN (qaB qaP rfl z_tuple PyProof.Rows.boot_tuple (qap (PD.q (PF.d (qaM (k:=2) (N':=["_law_entries_here","_law_bound_here"]) (cap:=[none,none]) rfl (.ok (show qaI ["_law_script","_law_at","_law_rows","_law_bounds"] (qaf qbl) _ ["_law_entries_here","_law_bound_here"] [none,none]=true by decide +kernel)) (by decide +kernel) (qc5 (n:=2) (qa4 (qaC (by decide)) (qa4 (qaC (by decide)) qc2))) (qdz rfl z_zip (qab (dv 2) (qab (dv 3) qal qaa) qaa)) (fun _ _ _ _ _=>(qcT (n:=2) rfl (qaJ (qar (i:=0) (show List.Nodup (["_law_entries_here","_law_bound_here"]:List Str) by decide +kernel) rfl (Or.inl rfl)) (qaJ (qar (i:=1) (show List.Nodup (["_law_entries_here","_law_bound_here"]:List Str) by decide +kernel) rfl (Or.inl rfl)) qbO)))) (fun _ _ _ _ _=>(qcc (qab (dv 0) (qab (qa3 qgd (dvq 1) (PD.q (qa3 qhj (PD.q qai) (PD.q qai)))) qal qaz) qaa)))))) qav qah) qah qad)))),?_⟩
  have hL:((es.map wD).length:Int)=(es.length:Int):=by rw [List.length_map]
  refine ⟨⟨by decide,by decide,by decide⟩,qct (by decide) (by decide),⟨by omega,by omega,small (by show 1*(((es.map wD).length:Nat):Int).toNat≤1000;omega)⟩,(List.replicate es.length (2*10 ^ 20+1:Int)).map D.int,by rw [qcJ,hL,Int.toNat_natCast];rfl,ns,at_,List.replicate es.length (2*10 ^ 20+1:Int),rfl,hn,a0,a1,by rw [List.length_replicate];omega,fun z hz=>?_,fun bs hD=>?_⟩
  · rw [(List.mem_replicate.mp hz).2]
    exact ⟨by decide,by decide +kernel⟩
  have hbl:bs.length=es.length:=by rw [hD.len,List.length_replicate]
  refine ⟨_,_,rfl,rfl,?_⟩
  refine qbt (f:=wD) (h:=D.int) (fun e b=>qbe (e,b - 10 ^ (20:Int).toNat)) (qam (by omega)) (fun e _ b _=>⟨rfl,⟨by decide,by decide,by decide⟩,rfl⟩) ?_
  have e1:List.zipWith (fun (e:List Int) (b:Int)=>qbe (e,b - 10 ^ (20:Int).toNat)) es bs=(List.zip es (bs.map (· - 10 ^ (20:Int).toNat))).map qbe:=by
    rw [List.zip,List.map_zipWith,List.zipWith_map_right]
  rw [e1]
  exact q _ (by rw [List.length_map];exact hbl)
theorem qm5 {ds:List Int} {z1:Int} (h:Drawn ds [z1]):∃ x1:Int,ds=[x1]∧Dr x1 z1:=by
  cases h with | cons h1 t1 =>
  cases t1
  exact ⟨_,rfl,h1⟩
theorem qkf {ds:List Int} {z1 z2 z3:Int} (h:Drawn ds [z1,z2,z3]):∃ x1 x2 x3:Int,ds=[x1,x2,x3]∧Dr x1 z1∧Dr x2 z2∧Dr x3 z3:=by
  cases h with | cons h1 t1 =>
  cases t1 with | cons h2 t2 =>
  cases t2 with | cons h3 t3 =>
  cases t3
  exact ⟨_,_,_,rfl,h1,h2,h3⟩
theorem Drawn.mem {ds zs:List Int} (h:Drawn ds zs):∀ d∈ds,∃ z∈zs,0≤d∧d<z:=by
  induction h with
  | nil=>intro d hd;exact absurd hd List.not_mem_nil
  | cons h1 t ih =>
    intro d hd
    rcases List.mem_cons.mp hd with rfl | hd
    · exact ⟨_,List.mem_cons_self,h1⟩
    · obtain ⟨z,hz,q⟩:=ih d hd
      exact ⟨z,List.mem_cons_of_mem _ hz,q⟩
structure Ents (n:Nat) (B:Nat) (es:List (List Int)):Prop where
  nl:n≤es.length
  len:∀ e∈es,e.length=n
  eb:∀ e∈es,∀ x∈e,x.natAbs≤2 ^ B
  un:∀ k:Nat,k<n→es[k]?=some (unL n k)
theorem Ents.add {n B B':Nat} {es:List (List Int)} {e:List Int} (h:Ents n B es) (hB:B≤B') (hl:e.length=n) (hb:∀ x∈e,x.natAbs≤2 ^ B'):Ents n B' (es++[e]):=by
  refine ⟨by rw [List.length_append];have:=h.nl;omega,fun x hx=>?_,fun x hx y hy=>?_,fun k hk=>by rw [List.getElem?_append_left (by have:=h.nl;omega)];exact h.un k hk⟩
  · rcases List.mem_append.mp hx with hx | hx
    · exact h.len x hx
    · rw [List.mem_singleton.mp hx];exact hl
  · rcases List.mem_append.mp hx with hx | hx
    · exact Nat.le_trans (h.eb x hx y hy) (qcb hB)
    · rw [List.mem_singleton.mp hx] at hy;exact hb y hy
theorem qmr {n k:Nat}:∀ x∈unL n k,x.natAbs≤1:=fun x hx=>by
  obtain ⟨o,_,rfl⟩:=List.mem_map.mp (show x∈List.map _ _ from hx)
  split <;> decide
theorem bool_int (a b:Nat):(if ((0+(a:Int)) == (0+(b:Int)))=true then (1:Int) else 0)=if a=b then 1 else 0:=by
  by_cases c:a=b
  · subst c;simp
  · rw [if_neg c,if_neg (by intro h;have:=eq_of_beq h;omega)]
theorem qhL (a b:Nat):(if ((0+(a:Int)) == (b:Int))=true then (1:Int) else 0)=if a=b then 1 else 0:=by
  by_cases c:a=b
  · subst c;simp
  · rw [if_neg c,if_neg (by intro h;have:=eq_of_beq h;omega)]
def qcn:SpD:=fun ds R=>∃ (ns:List Int) (n:Nat),ds=[.fzl (ns.map D.int),.int (n:Int)]∧ns.length≤63∧n≤8∧∀ es:List (List Int),Ents n 60 es→es.length≤20→R (.lst (es.map wD))
theorem qdN {n:Nat} {f:Addr} {fd:FuncData} (F:Fun K "_law_entries" "_law_entries" qaL f fd) (Q__law_draws:Cl P w K mg base n "_law_draws" ["_law_script","_law_at","_law_sizes"] qbJ) (z_enumerate:mg "enumerate"=none) (z_range:mg "range"=none) (z_tuple:mg "tuple"=none) (z_int:mg "int"=none) (z_max:mg "max"=none) (z_len:mg "len"=none) (z_zip:mg "zip"=none):FnOk P w K mg base CX0 (n+1) f fd ["_law_script","_law_n"] (lSp K qcn):=by
  refine F.okD sc__law_entries (fun ds R h=>?_) (fun cdv A outer s H E ds R hr h=>?_)
  · obtain ⟨ns,n,rfl,_⟩:=h;rfl
  obtain ⟨ns,n,rfl,hn,n8,q⟩:=h
  refine ⟨_,(qao (qjd (i:=2) (k:=1) (N':=["_law_at","_law_n"]) (cap:=[none,some 1]) rfl sc__law_entries.nd rfl (Or.inl rfl) (.ok (show qaI ["_law_script","_law_n","_law_rows","_law_at","_law_closed","_law_k","_law_kind","_law_one","_law_other","_law_entries_here"] (qaf qaL) _ ["_law_at","_law_n"] [none,some 1]=true by decide +kernel)) (by decide +kernel) (qaC (by decide)) (qa2 rfl z_range (qab (dv 1) qal qaa)) (fun _ _ _ _ _=>(qar (i:=0) (show List.Nodup (["_law_at","_law_n"]:List Str) by decide +kernel) rfl (Or.inr rfl))) (fun _ _ _ _ _=>(qaB qaP rfl z_tuple PyProof.Rows.boot_tuple (qap (PD.q (PF.d (qaM (k:=1) (N':=["_law_k","_law_at"]) (cap:=[none,some 0]) rfl (.ok (show qaI ["_law_at","_law_n"] _ _ ["_law_k","_law_at"] [none,some 0]=true from by rfl)) (by decide +kernel) (qaC (by decide)) (qa2 rfl z_range (qab (dv 1) qal qaa)) (fun _ _ _ _ _=>(qar (i:=0) (show List.Nodup (["_law_k","_law_at"]:List Str) by decide +kernel) rfl (Or.inl rfl))) (fun _ _ _ _ _=>(qaB qmP rfl z_int PyProof.Rows.boot_int (qap (PD.q (qeW (qe3 hr.units) (dvq 0) (dvq 1) (qaD _))) qav qck) qck qad))))) qav qah) qah qad)))
      (qao (qdO PassesOwn.never rfl (qf5 rfl z_enumerate (qab (qaq Q__law_draws hr rfl (qab (dv 0) (qab qai (qab (qa3 qbD (PD.q (PF.d (qcK (qab qai qal qak)))) (dvq 1)) qal qaz) qak) qaa) qaa (qae qak (qae qaz qad))) qal qaj)) (qcT (n:=2) rfl (qaJ (qar (i:=3) sc__law_entries.nd rfl (Or.inr rfl)) (qaJ (qar (i:=4) sc__law_entries.nd rfl (Or.inl rfl)) qbO))) (qaw (qcZ (qa5 (qe3 hr.units) (dvq 4) (PD.q qai) (qaD _)) (qaw (qbU 2 (qaB qaP rfl z_tuple PyProof.Rows.boot_tuple (qap (PD.q (PF.d (qaM (k:=1) (N':=["_law_k","_law_at"]) (cap:=[none,some 3]) rfl (.ok (show qaI ["_law_script","_law_n","_law_rows","_law_at","_law_closed","_law_k","_law_kind","_law_one","_law_other","_law_entries_here"] (qaf qaL) _ ["_law_k","_law_at"] [none,some 3]=true by decide +kernel)) (by decide +kernel) (qaC (by decide)) (qa2 rfl z_range (qab (dv 1) qal qaa)) (fun _ _ _ _ _=>(qar (i:=0) (show List.Nodup (["_law_k","_law_at"]:List Str) by decide +kernel) rfl (Or.inl rfl))) (fun _ _ _ _ _=>(qf3 (PD.q (qaB qmP rfl z_int PyProof.Rows.boot_int (qap (PD.q (qeW (qe3 hr.units) (dvq 0) (dvq 1) (qaD _))) qav qck) qck qad))))))) qav qah) qah qad) (qdD qaj) qaj)) qbs)))
      (qao (qdO PassesOwn.never rfl (qa2 rfl z_range (qab (qa1 (PD.q (qaq Q__law_draws hr rfl (qab (dv 0) (qab qai (qab (PF.d (qcK (qab qai qal qak))) qal qce) qak) qaa) qaa (qae qak (qae qce qad)))) (PD.q qai) (fun _ _=>rfl)) qal qac)) (qar (i:=5) sc__law_entries.nd rfl (Or.inl rfl)) (qao (ql0 (qaq Q__law_draws hr rfl (qab (dv 0) (qab (qa3 qbN (PD.q qai) (dvq 5)) (qab (PF.d (qcK (qab qai (qab (qaH (qki rfl) rfl z_max PyProof.Rows.boot_max (qap (PD.q qai) (qap (PD.q (qaH qcg rfl z_len PySem.boot_len (qap (dvq 2) qav qaa) qaa qad)) qav qaj) qak) qak (qae qaj qad)) (qab (qaH (qki rfl) rfl z_max PyProof.Rows.boot_max (qap (PD.q qai) (qap (PD.q (qaH qcg rfl z_len PySem.boot_len (qap (dvq 2) qav qaa) qaa qad)) qav qaj) qak) qak (qae qaj qad)) qal qaj) qaj) qak))) qal qce) qaz) qaa) qaa (qae qaz (qae qce qad))) (qcT (n:=3) rfl (qaJ (qar (i:=6) sc__law_entries.nd rfl (Or.inl rfl)) (qaJ (qar (i:=7) sc__law_entries.nd rfl (Or.inl rfl)) (qaJ (qar (i:=8) sc__law_entries.nd rfl (Or.inl rfl)) qbO)))))
      (qao (qdH (i:=9) (k:=1) (N':=["_law_number"]) (cap:=[none]) rfl sc__law_entries.nd rfl (Or.inl rfl) (.ok (show qaI ["_law_script","_law_n","_law_rows","_law_at","_law_closed","_law_k","_law_kind","_law_one","_law_other","_law_entries_here"] (qaf qaL) _ ["_law_number"] [none]=true by decide +kernel)) (by decide +kernel) (qaC (by decide)) (qbC (qaq Q__law_draws hr rfl (qab (dv 0) (qab (qa3 qbN (PD.q qai) (dvq 5)) (qab (qa3 qbD (PD.q (PF.d (qcK (qab qai qal qak)))) (dvq 1)) qal qaz) qaz) qaa) qaa (qae qaz (qae qaz qad)))) (fun _ _ _ _ _=>(qar (i:=0) (show List.Nodup (["_law_number"]:List Str) by decide +kernel) rfl (Or.inl rfl))) (fun _ _ _ _ _=>(qa3 qgd (dvq 0) (PD.q qai))))
      (qbW (qcZ (PWD.td (qmU (qa5 (qe3 hr.units) (dvq 6) (PD.q qai) (qaD _)) (qkj (qa5 qkG (dvq 1) (PD.q qai) (qaD _))))) (qaw (qdH (i:=9) (k:=1) (N':=["_law_number"]) (cap:=[none]) rfl sc__law_entries.nd rfl (Or.inl rfl) (.ok (show qaI ["_law_script","_law_n","_law_rows","_law_at","_law_closed","_law_k","_law_kind","_law_one","_law_other","_law_entries_here"] (qaf qaL) _ ["_law_number"] [none]=true by decide +kernel)) (by decide +kernel) (qaC (by decide)) (qbC (qaq Q__law_draws hr rfl (qab (dv 0) (qab (qa3 qbN (PD.q qai) (dvq 5)) (qab (qa3 qbD (PD.q (PF.d (qcK (qab (qa3 qbN (PD.q (qa3 qbD (PD.q qai) (PD.q (qa3 qhj (PD.q qai) (PD.q qai))))) (PD.q qai)) qal qaz)))) (dvq 1)) qal qaz) qaz) qaa) qaa (qae qaz (qae qaz qad)))) (fun _ _ _ _ _=>(qar (i:=0) (show List.Nodup (["_law_number"]:List Str) by decide +kernel) rfl (Or.inl rfl))) (fun _ _ _ _ _=>(qa3 qgd (dvq 0) (PD.q (qa3 qhj (PD.q qai) (PD.q qai))))))) qbs)
      (qbW (qcZ (PWD.td (qmU (qa5 qkY (dvq 6) (PD.q qai) (qaD _)) (qkj (qgc (dvq 2) (fun _=>rfl))))) (qaw (qdH (i:=9) (k:=2) (N':=["_law_here","_law_there"]) (cap:=[none,none]) rfl sc__law_entries.nd rfl (Or.inl rfl) (.ok (show qaI ["_law_script","_law_n","_law_rows","_law_at","_law_closed","_law_k","_law_kind","_law_one","_law_other","_law_entries_here"] (qaf qaL) _ ["_law_here","_law_there"] [none,none]=true by decide +kernel)) (by decide +kernel) (qc5 (n:=2) (qa4 (qaC (by decide)) (qa4 (qaC (by decide)) qc2))) (qdz rfl z_zip (qab (qa1 (dvq 2) (dvq 7) (fun _ _=>rfl)) (qab (qa1 (dvq 2) (dvq 8) (fun _ _=>rfl)) qal qac) qac)) (fun _ _ _ _ _=>(qcT (n:=2) rfl (qaJ (qar (i:=0) (show List.Nodup (["_law_here","_law_there"]:List Str) by decide +kernel) rfl (Or.inl rfl)) (qaJ (qar (i:=1) (show List.Nodup (["_law_here","_law_there"]:List Str) by decide +kernel) rfl (Or.inl rfl)) qbO)))) (fun _ _ _ _ _=>(qa3 qgd (PD.q (qf3 (dvq 0))) (dvq 1))))) qbs)
      (qaw (qbU 2 (qaB qaP rfl z_tuple PyProof.Rows.boot_tuple (qap (dvq 9) qav qaa) qaa qad) (qdD qaj) qaj)))))))
      (qkO 2 (qaw (qaN (dv 2))))))),?_⟩
  refine ⟨⟨by omega,by omega⟩,?_⟩
  refine qa0 (fun a=>wD (unL n a)) (qam (by omega)) (fun a ha=>?_) ?_
  · refine ⟨⟨by omega,by omega⟩,?_⟩
    refine qa0 (fun k=>D.int (if k=a then 1 else 0)) (qam (by omega)) (fun k hk=>congrArg D.int (bool_int k a)) ?_
    show D.tup _=wD (unL n a)
    unfold wD unL
    rw [Int.toNat_natCast,List.map_map]
    rfl
  have e0:(List.range (n:Int).toNat).map (fun a=>wD (unL n a))=((List.range n).map fun a=>unL n a).map wD:=by rw [Int.toNat_natCast,List.map_map];rfl
  rw [e0]
  have hE0:Ents n 51 ((List.range n).map fun a=>unL n a):=by
    refine ⟨by rw [List.length_map,List.length_range];exact Nat.le_refl _,fun e he=>?_,fun e he x hx=>?_,fun k hk=>by rw [List.getElem?_map,List.getElem?_range hk];rfl⟩
    · obtain ⟨a,_,rfl⟩:=List.mem_map.mp he
      exact qfV n a
    · obtain ⟨a,_,rfl⟩:=List.mem_map.mp he
      exact Nat.le_trans (qmr x hx) (by decide)
  refine ⟨⟨by omega,by omega,small (by show 1*(n:Int).toNat≤1000;omega)⟩,(List.replicate n (3:Int)).map D.int,by rw [qcJ,Int.toNat_natCast],ns,1,List.replicate n (3:Int),rfl,hn,by decide,by decide,by rw [List.length_replicate];omega,fun z hz=>?_,fun ds1 hD1=>?_⟩
  · rw [(List.mem_replicate.mp hz).2]
    exact ⟨by decide,by decide +kernel⟩
  have hl1:ds1.length=n:=by rw [hD1.len,List.length_replicate]
  refine ⟨fun i ρ=>∃ (es:List (List Int)) (u3 u4:Option Sl),ρ=[some (.v (.fzl (ns.map D.int))),some (.v (.int (n:Int))),some (.own (es.map wD)),u3,u4,none,none,none,none,none]∧Ents n 51 es∧es.length≤n+i,⟨_,_,_,rfl,hE0,by rw [List.length_map,List.length_range];omega⟩,?_,?_⟩
  · rintro i d ρ hd ⟨es,u3,u4,rfl,hE,hel⟩
    obtain ⟨e,he,rfl⟩:=qdf hd
    obtain ⟨x,rfl,hx⟩:=qbB he
    have hi:i<n:=by have:=qaF hx;omega
    refine ⟨rfl,fun h=>?_,fun h=>⟨es,_,_,rfl,hE,by omega⟩⟩
    refine ⟨⟨by omega,by omega⟩,?_⟩
    refine qa0 (fun k=>D.int (-(if k=i then 1 else 0))) (qam (by omega)) (fun k hk=>congrArg (fun z:Int=>D.int (-z)) (qhL k i)) ?_
    refine ⟨?_,(es++[(List.range n).map fun k=>-(if k=i then (1:Int) else 0)]).map wD,?_,es++[(List.range n).map fun k=>-(if k=i then (1:Int) else 0)],_,_,rfl,hE.add (Nat.le_refl _) (by rw [List.length_map,List.length_range]) fun y hy=>?_,by rw [List.length_append];show es.length+1≤_;omega⟩
    · rw [List.length_map];exact qam (by omega)
    · rw [List.map_append]
      congr 1
      show _=[D.tup (((List.range n).map fun k=>-(if k=i then (1:Int) else 0)).map D.int)]
      rw [List.map_map,Int.toNat_natCast]
      rfl
    · obtain ⟨k,_,rfl⟩:=List.mem_map.mp hy
      split <;> decide
  rintro ρ ⟨es1,u3,u4,rfl,hE1,hel1⟩
  rw [qbR,List.length_map,hl1] at hel1
  refine ⟨ns,2,[5],rfl,hn,by decide,by decide,by decide,by decide +kernel,fun ds2 hD2=>?_⟩
  obtain ⟨mm,rfl,dm⟩:=qm5 hD2
  have dm:0≤mm∧mm<5:=dm
  refine ⟨_,rfl,⟨by omega,by omega⟩,fun i ρ=>∃ (es:List (List Int)) (u5 u6 u7 u8 u9:Option Sl),ρ=[some (.v (.fzl (ns.map D.int))),some (.v (.int (n:Int))),some (.own (es.map wD)),u3,u4,u5,u6,u7,u8,u9]∧Ents n (51+i) es∧es.length≤n+n+i,⟨es1,_,_,_,_,_,rfl,hE1,by omega⟩,?_,?_⟩
  · rintro i d ρ hd ⟨es,u5,u6,u7,u8,u9,rfl,hE,hel⟩
    obtain ⟨hi,rfl⟩:=qbu hd
    have hi':i<4:=by omega
    have hLl:((es.map wD).length:Int)=(es.length:Int):=by rw [List.length_map]
    have h9:(1000:Int)<2 ^ 9000:=by decide +kernel
    have hmx:(if ((es.map wD).length:Int)>1 then ((es.map wD).length:Int) else 1)=if (es.length:Int)>1 then (es.length:Int) else 1:=by rw [hLl]
    refine ⟨ns,_,[5,(if ((es.map wD).length:Int)>1 then ((es.map wD).length:Int) else 1),(if ((es.map wD).length:Int)>1 then ((es.map wD).length:Int) else 1)],rfl,hn,by omega,by omega,by show 3≤500;decide,fun z hz=>?_,fun ds3 hD3=>?_⟩
    · rw [hmx] at hz
      rcases List.mem_cons.mp hz with rfl | hz
      · exact ⟨by decide,by omega⟩
      · rcases List.mem_cons.mp hz with rfl | hz
        · split <;> omega
        · rw [List.mem_singleton.mp hz];split <;> omega
    obtain ⟨kd,oa,ob,rfl,dk,da,db⟩:=qkf hD3
    rw [hmx] at da db
    refine ⟨rfl,⟨by omega,by omega,small (by show 1*(n:Int).toNat≤1000;omega)⟩,(List.replicate n (7:Int)).map D.int,by rw [qcJ,Int.toNat_natCast],ns,_,List.replicate n (7:Int),rfl,hn,by omega,by omega,by rw [List.length_replicate];omega,fun z hz=>?_,fun ds4 hD4=>?_⟩
    · rw [(List.mem_replicate.mp hz).2]
      exact ⟨by decide,by decide +kernel⟩
    have hl4:ds4.length=n:=by rw [hD4.len,List.length_replicate]
    refine qaX (f:=D.int) (fun x=>x - 3) (qam (by omega)) (fun x _=>rfl) ?_
    have hb4:∀ y∈ds4.map fun x=>x - 3,y.natAbs≤2 ^ 51:=fun y hy=>by
      obtain ⟨x,hx,rfl⟩:=List.mem_map.mp hy
      obtain ⟨z,hz,z0,z1⟩:=hD4.mem x hx
      rw [(List.mem_replicate.mp hz).2] at z1
      omega
    have hl4':(ds4.map fun x=>x - 3).length=n:=by rw [List.length_map];exact hl4
    generalize (ds4.map fun x=>x - 3)=e4 at hb4 hl4'
    refine ⟨fun ρ=>∃ en:List Int,en.length=n∧(∀ x∈en,x.natAbs≤2 ^ 51)∧ρ=[some (.v (.fzl (ns.map D.int))),some (.v (.int (n:Int))),some (.own (es.map wD)),u3,u4,some (.v (.int (0+(i:Int)))),some (.v (.int kd)),some (.v (.int oa)),some (.v (.int ob)),some (.v (.lst (en.map D.int)))],⟨fun h=>⟨fun h2=>?_,fun h2=>⟨e4,hl4',hb4,rfl⟩⟩,fun h=>⟨fun h=>ff h,fun _=>⟨e4,hl4',hb4,rfl⟩⟩⟩,?_⟩
    · refine ⟨⟨by decide,by decide,by decide⟩,qct (by decide) (by decide),⟨by omega,by omega,small (by show 1*(n:Int).toNat≤1000;omega)⟩,(List.replicate n (2*10 ^ (15:Int).toNat+1:Int)).map D.int,by rw [qcJ,Int.toNat_natCast],ns,_,List.replicate n (2*10 ^ (15:Int).toNat+1:Int),rfl,hn,by omega,by omega,by rw [List.length_replicate];omega,fun z hz=>?_,fun ds5 hD5=>?_⟩
      · rw [(List.mem_replicate.mp hz).2]
        exact ⟨by decide,by decide +kernel⟩
      have hl5:ds5.length=n:=by rw [hD5.len,List.length_replicate]
      refine qaX (f:=D.int) (fun x=>x - 10 ^ (15:Int).toNat) (qam (by omega)) (fun x _=>⟨⟨by decide,by decide,by decide⟩,rfl⟩) ?_
      refine ⟨ds5.map fun x=>x - 10 ^ (15:Int).toNat,by rw [List.length_map];exact hl5,fun y hy=>?_,rfl⟩
      obtain ⟨x,hx,rfl⟩:=List.mem_map.mp hy
      obtain ⟨z,hz,z0,z1⟩:=hD5.mem x hx
      rw [(List.mem_replicate.mp hz).2] at z1
      have e15:(10:Int) ^ (15:Int).toNat=1000000000000000:=by decide
      rw [e15] at z1 ⊢
      omega
    rintro ρ ⟨en,hnl,hnb,rfl⟩
    refine ⟨fun ρ=>∃ en:List Int,en.length=n∧(∀ x∈en,x.natAbs≤2 ^ (52+i))∧ρ=[some (.v (.fzl (ns.map D.int))),some (.v (.int (n:Int))),some (.own (es.map wD)),u3,u4,some (.v (.int (0+(i:Int)))),some (.v (.int kd)),some (.v (.int oa)),some (.v (.int ob)),some (.v (.lst (en.map D.int)))],⟨fun h=>⟨fun h2=>?_,fun h2=>⟨en,hnl,fun x hx=>Nat.le_trans (hnb x hx) (qcb (by omega)),rfl⟩⟩,fun h=>⟨fun h=>ff h,fun _=>⟨en,hnl,fun x hx=>Nat.le_trans (hnb x hx) (qcb (by omega)),rfl⟩⟩⟩,?_⟩
    · have hne:0<es.length:=by
        rcases Nat.eq_zero_or_pos es.length with c | c
        · rw [List.length_eq_zero_iff.mp c] at h2
          cases h2
        · exact c
      have ha:0≤oa∧oa<(es.length:Int):=by
        obtain ⟨a0,a1⟩:=da
        split at a1 <;> omega
      have hb:0≤ob∧ob<(es.length:Int):=by
        obtain ⟨a0,a1⟩:=db
        split at a1 <;> omega
      have hma:=qax (xs:=es) (d:=[]) (i:=oa.toNat) (by omega)
      have hmb:=qax (xs:=es) (d:=[]) (i:=ob.toNat) (by omega)
      refine ⟨_,qbn (i:=oa.toNat) (qaQ (d:=[]) (by omega)) (by omega),_,qbn (i:=ob.toNat) (qaQ (d:=[]) (by omega)) (by omega),_,_,rfl,rfl,?_⟩
      refine qbt (fun x y=>D.int (-x - y)) (qam (by rw [hE.len _ hma];omega)) (fun x _ y _=>⟨rfl,rfl⟩) ?_
      refine ⟨List.zipWith (fun x y=>-x - y) (es.getD oa.toNat []) (es.getD ob.toNat []),by rw [List.length_zipWith,hE.len _ hma,hE.len _ hmb,Nat.min_self],fun y hy=>?_,by rw [List.map_zipWith];rfl⟩
      obtain ⟨k,hk⟩:=List.getElem?_of_mem hy
      rw [List.getElem?_zipWith] at hk
      cases h1:(es.getD oa.toNat [])[k]? with
      | none=>rw [h1] at hk;simp at hk
      | some x1 =>
        cases h3:(es.getD ob.toNat [])[k]? with
        | none=>rw [h1,h3] at hk;simp at hk
        | some x2 =>
          rw [h1,h3] at hk
          have e:-x1 - x2=y:=by simpa using hk
          have b1:=hE.eb _ hma x1 (List.mem_of_getElem? h1)
          have b2:=hE.eb _ hmb x2 (List.mem_of_getElem? h3)
          have e2:2 ^ (52+i)=2 ^ (51+i)+2 ^ (51+i):=by rw [show 52+i=(51+i)+1 by omega,Nat.pow_succ];omega
          omega
    rintro ρ ⟨en,hnl,hnb,rfl⟩
    refine ⟨?_,_,qhg wD es en,es++[en],_,_,_,_,_,rfl,hE.add (by omega) hnl (by rw [show 51+(i+1)=52+i by omega];exact hnb),by rw [List.length_append];show es.length+1≤_;omega⟩
    rw [List.length_map];exact qam (by omega)
  rintro ρ ⟨es,u5,u6,u7,u8,u9,rfl,hE,hel⟩
  rw [qaZ] at hE hel
  refine q es ⟨hE.nl,hE.len,fun e he x hx=>Nat.le_trans (hE.eb e he x hx) (qcb (by omega)),hE.un⟩ (by omega)
def qdU:SpD:=fun ds R=>∃ (n:Nat) (rs:List Row) (ray ws:List Int),ds=[.int (n:Int),.tup (rs.map qbe),.tup [.tup (ray.map D.int),.tup (ws.map D.int)]]∧In39 rs n∧InOk (esL rs) n ray ws∧R (.lst (rs.map fun r=>D.bl (dot r.1 ray == 0)))
theorem qmK {n k:Nat} {xs:List Int} (hk:k<n) (hx:xs.length=n):dot (unL n k) xs=xs.getD k 0:=by
  rw [qby (qfV n k) hx]
  unfold Wk.dt
  refine (Wk.sm_one hk fun j hj c=>?_).trans ?_
  · show (unL n k).getD j 0*xs.getD j 0=_
    rw [qgH hj]
    unfold Wk.un
    rw [if_neg c]
    omega
  · show (unL n k).getD k 0*xs.getD k 0=_
    rw [qgH hk]
    unfold Wk.un
    rw [if_pos rfl]
    omega
theorem qfp {n:Nat} {f:Addr} {fd:FuncData} (F:Fun K "_law_tied" "_law_tied" qaU f fd) (Q__law_times:Cl P w K mg base n "_law_times" ["_law_one","_law_other"] qcX) (Q__law_wholes:Cl P w K mg base n "_law_wholes" ["_law_seen","_law_size"] qcG) (z_any:mg "any"=none) (z_range:mg "range"=none) (z_isinstance:mg "isinstance"=none) (z_tuple:mg "tuple"=none) (z_len:mg "len"=none) (z_zip:mg "zip"=none) (z_list:mg "list"=none):FnOk P w K mg base CX0 (n+1) f fd ["_law_n","_law_handed","_law_told"] (lSp K qdU):=by
  refine F.okD sc__law_tied (fun ds R h=>?_) (fun cdv A outer s H E ds R hr h=>?_)
  · obtain ⟨n,rs,ray,ws,rfl,_⟩:=h;rfl
  obtain ⟨n,rs,ray,ws,rfl,h39,hI,q⟩:=h
  refine ⟨_,(qbW (qcZ (PWD.td (qnr (qlj (qgc (PD.q (qjp rfl z_isinstance (dvq 2) (qes (v:=.ty "tuple") rfl z_tuple PyProof.Rows.boot_tuple rfl) qaa qaa)) (fun _=>rfl))) (qjl (qa5 (qnS hr.units) (PD.q (qaH qcg rfl z_len PySem.boot_len (qap (dvq 2) qav qaa) qaa qad)) (PD.q qai) (qaD _))))) (qaw (qaN qbK)) qbs)
      (qbW (qcZ (PWD.td (qnr (qlj (qgc (PD.q (qaq Q__law_wholes hr rfl (qab (qa1 (dvq 2) (PD.q qai) (fun _ _=>rfl)) (qab (dv 0) qal qaa) qac) qac (qae qaa qad))) (fun _=>rfl))) (qjl (qlj (qgc (PD.q (qaq Q__law_wholes hr rfl (qab (qa1 (dvq 2) (PD.q qai) (fun _ _=>rfl)) (qab (qaH qcg rfl z_len PySem.boot_len (qap (dvq 1) qav qaa) qaa qad) qal qaj) qac) qac (qae qaj qad))) (fun _=>rfl)))))) (qaw (qaN qbK)) qbs)
      (qao (qdH (i:=3) (k:=1) (N':=["_law_row","_law_told"]) (cap:=[none,some 2]) rfl sc__law_tied.nd rfl (Or.inl rfl) (.ok (show qaI ["_law_n","_law_handed","_law_told","_law_grows","_law_k"] (qaf qaU) _ ["_law_row","_law_told"] [none,some 2]=true by decide +kernel)) (by decide +kernel) (qaC (by decide)) (qbC (dv 1)) (fun _ _ _ _ _=>(qar (i:=0) (show List.Nodup (["_law_row","_law_told"]:List Str) by decide +kernel) rfl (Or.inl rfl))) (fun _ _ _ _ _=>(qaq Q__law_times hr rfl (qab (qa1 (dvq 0) (PD.q qai) (fun _ _=>rfl)) (qab (qa1 (dvq 1) (PD.q qai) (fun _ _=>rfl)) qal qac) qac) qac (qae qac qad))))
      (qbW (qcZ (qgc (PD.q (qaH (qnk rfl) rfl z_any PyProof.Rows.boot_any (qap (PD.q (PF.d (qaM (k:=1) (N':=["_law_one"]) (cap:=[none]) rfl (.ok (show qaI ["_law_n","_law_handed","_law_told","_law_grows","_law_k"] (qaf qaU) _ ["_law_one"] [none]=true by decide +kernel)) (by decide +kernel) (qaC (by decide)) (qbC (qa3 qbN (PD.q (qa3 qbN (PD.q (PF.d (qkg rfl z_list (PD.q (qa1 (dvq 2) (PD.q qai) (fun _ _=>rfl))) qac))) (PD.q (PF.d (qkg rfl z_list (PD.q (qa1 (dvq 2) (PD.q qai) (fun _ _=>rfl))) qac))))) (dvq 3))) (fun _ _ _ _ _=>(qar (i:=0) (show List.Nodup (["_law_one"]:List Str) by decide +kernel) rfl (Or.inl rfl))) (fun _ _ _ _ _=>(qeW qkG (dvq 0) (PD.q qai) (qaD _)))))) qav qah) qah qad)) (fun _=>rfl)) (qaw (qaN qbK)) qbs)
      (qao (qdO PassesOwn.never rfl (qa2 rfl z_range (qab (dv 0) qal qaa)) (qar (i:=4) sc__law_tied.nd rfl (Or.inr rfl)) (qaw (qcZ (qa5 (qnS hr.units) (PD.q (qaq Q__law_times hr rfl (qab (qa1 (dvq 2) (PD.q qai) (fun _ _=>rfl)) (qab (PF.d (qaM (k:=1) (N':=["_law_row","_law_k"]) (cap:=[none,some 4]) rfl (.ok (show qaI ["_law_n","_law_handed","_law_told","_law_grows","_law_k"] (qaf qaU) _ ["_law_row","_law_k"] [none,some 4]=true by decide +kernel)) (by decide +kernel) (qaC (by decide)) (qbC (dv 1)) (fun _ _ _ _ _=>(qar (i:=0) (show List.Nodup (["_law_row","_law_k"]:List Str) by decide +kernel) rfl (Or.inl rfl))) (fun _ _ _ _ _=>(qa1 (PD.q (qa1 (dvq 0) (PD.q qai) (fun _ _=>rfl))) (dvq 1) (fun _ _=>rfl))))) qal qah) qac) qac (qae qah qad))) (PD.q qai) (qaD _)) (qaw (qaN qbK)) qbs)))
      (qbW (qcZ (qgc (PD.q (qaH (qnk rfl) rfl z_any PyProof.Rows.boot_any (qap (PD.q (PF.d (qaM (k:=2) (N':=["_law_grow","_law_weight"]) (cap:=[none,none]) rfl (.ok (show qaI ["_law_n","_law_handed","_law_told","_law_grows","_law_k"] (qaf qaU) _ ["_law_grow","_law_weight"] [none,none]=true by decide +kernel)) (by decide +kernel) (qc5 (n:=2) (qa4 (qaC (by decide)) (qa4 (qaC (by decide)) qc2))) (qdz rfl z_zip (qab (dv 3) (qab (qa1 (dvq 2) (PD.q qai) (fun _ _=>rfl)) qal qac) qaa)) (fun _ _ _ _ _=>(qcT (n:=2) rfl (qaJ (qar (i:=0) (show List.Nodup (["_law_grow","_law_weight"]:List Str) by decide +kernel) rfl (Or.inl rfl)) (qaJ (qar (i:=1) (show List.Nodup (["_law_grow","_law_weight"]:List Str) by decide +kernel) rfl (Or.inl rfl)) qbO)))) (fun _ _ _ _ _=>(qeW (qe3 hr.units) (PD.q (qeW qkY (dvq 0) (PD.q qai) (qaD _))) (PD.q (qeW qkY (dvq 1) (PD.q qai) (qaD _))) (qaD _)))))) qav qah) qah qad)) (fun _=>rfl)) (qaw (qaN qbK)) qbs)
      (qaw (qaN (PF.d (qaM (k:=1) (N':=["_law_grow"]) (cap:=[none]) rfl (.ok (show qaI ["_law_n","_law_handed","_law_told","_law_grows","_law_k"] (qaf qaU) _ ["_law_grow"] [none]=true by decide +kernel)) (by decide +kernel) (qaC (by decide)) (qbC (dv 3)) (fun _ _ _ _ _=>(qar (i:=0) (show List.Nodup (["_law_grow"]:List Str) by decide +kernel) rfl (Or.inl rfl))) (fun _ _ _ _ _=>(qeW (qe3 hr.units) (dvq 0) (PD.q qai) (qaD _))))))))))))),?_⟩
  have n8:=h39.n8
  have hM:=h39.M
  have hwl:ws.length=rs.length:=by rw [hI.wl];unfold esL;rw [List.length_map]
  have hL:((rs.map qbe).length:Int)=(ws.length:Int):=by rw [List.length_map,hwl]
  have hebig:∀ r∈rs,∀ x∈r.1,qbT x:=fun r hr x hx=>qbL (h39.eb r hr x hx) (by decide)
  have hmem:∀ r∈rs,r.1∈esL rs:=fun r hr=>List.mem_map.mpr ⟨r,hr,rfl⟩
  refine ⟨fun ρ=>ρ=[some (.v (.int (n:Int))),some (.v (.tup (rs.map qbe))),some (.v (.tup [.tup (ray.map D.int),.tup (ws.map D.int)])),none,none],⟨true,qkd _,fun h=>(by cases h),fun _=>⟨fun h=>(by cases h),fun _=>rfl⟩⟩,?_⟩
  rintro ρ rfl
  refine ⟨fun ρ=>ρ=[some (.v (.int (n:Int))),some (.v (.tup (rs.map qbe))),some (.v (.tup [.tup (ray.map D.int),.tup (ws.map D.int)])),none,none],⟨_,rfl,ray,_,rfl,by rw [hI.rl],by rw [hI.rl];omega,fun h=>(by cases h),fun _=>⟨_,rfl,ws,_,rfl,hL,by omega,fun h=>(by cases h),fun _=>rfl⟩⟩,?_⟩
  rintro ρ rfl
  refine qaX (f:=qbe) (fun r=>dot r.1 ray) (qam (by omega)) (fun r hr=>⟨_,rfl,_,rfl,r.1,ray,rfl,by rw [h39.len r hr];omega,hebig r hr,hI.rb,rfl⟩) ?_
  refine ⟨fun ρ=>ρ=[some (.v (.int (n:Int))),some (.v (.tup (rs.map qbe))),some (.v (.tup [.tup (ray.map D.int),.tup (ws.map D.int)])),some (.v (.lst ((rs.map fun r=>dot r.1 ray).map D.int))),none],?_,?_⟩
  · refine ⟨_,rfl,_,rfl,_,rfl,_,rfl,?_,_,qnx D.int ray ws,?_,_,qnx D.int _ _,?_⟩
    · rw [List.length_map,List.length_map,hI.rl];exact small (by omega)
    · rw [List.length_map,List.length_map,List.length_append,List.length_map,hI.rl];exact small (by omega)
    refine qbp (f:=D.int) (fun x=>D.bl (decide (x<0))) (qam (by rw [List.length_append,List.length_append,List.length_map,hI.rl];omega)) (fun x _=>rfl) ?_
    refine ⟨(ray++ws++rs.map fun r=>dot r.1 ray).map fun x=>decide (x<0),by rw [List.map_map];rfl,fun h=>?_,fun _=>rfl⟩
    have h':=qmH h
    obtain ⟨x,hx,hx0⟩:=List.any_eq_true.mp h'
    have hx0:=of_decide_eq_true hx0
    exfalso
    rcases List.mem_append.mp hx with hx | hx
    · rcases List.mem_append.mp hx with hx | hx
      · obtain ⟨k,hk⟩:=List.getElem?_of_mem hx
        have hk':k<n:=by have:=qaF hk;rw [hI.rl] at this;exact this
        have h1:=hI.up (qag rs (k:Int)).1 (hmem _ (qaO (by omega) (by have:=h39.nM;omega)))
        rw [h39.un k hk',qmK hk' hI.rl,qb0 hk] at h1
        omega
      · have:=hI.wn x hx
        omega
    · obtain ⟨r,hr,rfl⟩:=List.mem_map.mp hx
      have:=hI.up r.1 (hmem r hr)
      omega
  rintro ρ rfl
  refine ⟨⟨by omega,by omega⟩,fun i ρ=>∃ u4:Option Sl,ρ=[some (.v (.int (n:Int))),some (.v (.tup (rs.map qbe))),some (.v (.tup [.tup (ray.map D.int),.tup (ws.map D.int)])),some (.v (.lst ((rs.map fun r=>dot r.1 ray).map D.int))),u4],⟨_,rfl⟩,?_,?_⟩
  · rintro i d ρ hd ⟨u4,rfl⟩
    obtain ⟨hi,rfl⟩:=qbu hd
    have hi':i<n:=by omega
    refine ⟨_,rfl,?_⟩
    refine qaX (f:=qbe) (fun r=>r.1.getD i 0) (qam (by omega)) (fun r hr=>⟨_,rfl,_,qbn (i:=i) (qaQ (d:=0) (by rw [h39.len r hr];exact hi')) (Int.zero_add _),rfl⟩) ?_
    refine ⟨ws,rs.map fun r=>r.1.getD i 0,rfl,by omega,hI.wb,fun x hx=>?_,?_⟩
    · obtain ⟨r,hr,rfl⟩:=List.mem_map.mp hx
      exact hebig r hr _ (qax (by rw [h39.len r hr];exact hi'))
    have e:dot ws (rs.map fun r=>r.1.getD i 0)=0:=by
      have:=hI.sum i hi'
      unfold esL at this
      rw [List.map_map] at this
      exact this
    rw [e]
    exact ⟨fun h=>(by cases h),fun _=>⟨_,rfl⟩⟩
  rintro ρ ⟨u4,rfl⟩
  have hxor:∀ (k:Nat) (r:Row),rs[k]?=some r→(0<dot r.1 ray↔ws.getD k 0=0):=fun k r hk=>hI.xor k r.1 (by unfold esL;rw [List.getElem?_map,hk];rfl)
  refine ⟨fun ρ=>ρ=[some (.v (.int (n:Int))),some (.v (.tup (rs.map qbe))),some (.v (.tup [.tup (ray.map D.int),.tup (ws.map D.int)])),some (.v (.lst ((rs.map fun r=>dot r.1 ray).map D.int))),u4],?_,?_⟩
  · refine ⟨_,rfl,_,_,rfl,rfl,?_⟩
    refine qbt (f:=D.int) (h:=D.int) (fun g w=>D.bl (decide (0<g) == decide (0<w))) (qam (by rw [List.length_map];omega)) (fun g _ w _=>⟨rfl,rfl⟩) ?_
    refine ⟨List.zipWith (fun g w=>decide (0<g) == decide (0<w)) (rs.map fun r=>dot r.1 ray) ws,by rw [List.map_zipWith];rfl,fun h=>?_,fun _=>rfl⟩
    exfalso
    have h':(List.zipWith (fun g w=>decide (0<g) == decide (0<w)) (rs.map fun r=>dot r.1 ray) ws).any id=true:=h
    obtain ⟨b,hb,hb1⟩:=List.any_eq_true.mp h'
    obtain ⟨k,hk⟩:=List.getElem?_of_mem hb
    rw [List.getElem?_zipWith,List.getElem?_map] at hk
    cases h1:rs[k]? with
    | none=>rw [h1] at hk;simp at hk
    | some r =>
      cases h2:ws[k]? with
      | none=>rw [h1,h2] at hk;simp at hk
      | some w =>
        rw [h1,h2] at hk
        have e:(decide (0<dot r.1 ray) == decide (0<w))=b:=by simpa using hk
        have hx:=hxor k r h1
        rw [qb0 h2] at hx
        have hw0:=hI.wn w (List.mem_of_getElem? h2)
        have hb1:b=true:=hb1
        rw [hb1] at e
        have e':=eq_of_beq e
        by_cases c:0<dot r.1 ray
        · have:=hx.mp c
          rw [decide_eq_true c] at e'
          have:=of_decide_eq_true e'.symm
          omega
        · have hw:w≠0:=fun z=>c (hx.mpr z)
          rw [decide_eq_false c] at e'
          have:=of_decide_eq_false e'.symm
          omega
  rintro ρ rfl
  refine qbp (f:=D.int) (fun g=>D.bl (g == 0)) (qam (by rw [List.length_map];omega)) (fun g _=>rfl) ?_
  rw [List.map_map]
  exact q
abbrev sp_law:=qma
abbrev qnR:=qkb
theorem qgv {f:D→D→Option Bool}:∀ {xs:List D},(∀ x∈xs,f x x=some true)→cmL f xs xs=some true
  | [],_=>rfl
  | x::xs,h=>by
    show ((f x x).bind fun b=>(cmL f xs xs).map (b && ·))=_
    rw [h x List.mem_cons_self,qgv fun y hy=>h y (List.mem_cons_of_mem _ hy)]
    rfl
theorem qiJ (bs:List Bool):cmB 40 (.lst (bs.map D.bl)) (.lst (bs.map D.bl))=some true:=by
  show (if (bs.map D.bl).length=(bs.map D.bl).length then cmL (cmB 39) (bs.map D.bl) (bs.map D.bl) else some false)=_
  rw [if_pos rfl]
  refine qgv fun x hx=>?_
  obtain ⟨b,_,rfl⟩:=List.mem_map.mp hx
  show some (b == b)=_
  rw [beq_self_eq_true]
theorem qcd {es:List (List Int)} {bs:List Int} (h:bs.length=es.length):(List.zip es bs).map (fun r=>r.1)=es:=List.map_fst_zip (by omega)
theorem qos {n:Nat} {es:List (List Int)} {bs:List Int} (hE:Ents n 60 es) (n8:n≤8) (hl:es.length≤20) (hb:bs.length=es.length) (h0:es=[]→n=0):In39 (List.zip es bs) n:=by
  have hzl:(List.zip es bs).length=es.length:=by rw [List.length_zip];omega
  have hm:∀ r∈List.zip es bs,r.1∈es:=fun r hr=>by
    rw [← qcd hb]
    exact List.mem_map.mpr ⟨r,hr,rfl⟩
  refine ⟨fun r hr=>hE.len _ (hm r hr),fun r hr x hx=>Nat.le_trans (hE.eb _ (hm r hr) x hx) (by decide),n8,by rw [hzl];exact hE.nl,by omega,fun e=>h0 ?_,fun k hk=>?_⟩
  · have:=congrArg List.length e
    rw [hzl] at this
    exact List.length_eq_zero_iff.mp this
  · have h1:=hE.un k hk
    rw [← qcd hb,List.getElem?_map] at h1
    unfold qag
    rw [Int.toNat_natCast,List.getD_eq_getElem?_getD]
    cases e:(List.zip es bs)[k]? with
    | none=>rw [e] at h1;cases h1
    | some r=>rw [e] at h1;exact Option.some.inj h1
theorem Ents.turn {n B:Nat} {es:List (List Int)} (h:Ents n B es):Ents n B (es.take n++(es.drop n).reverse)∧(es.take n++(es.drop n).reverse).length=es.length∧∀ e,e∈es.take n++(es.drop n).reverse↔e∈es:=by
  have hm:∀ e,e∈es.take n++(es.drop n).reverse↔e∈es:=fun e=>by
    rw [List.mem_append,List.mem_reverse,← List.mem_append,List.take_append_drop]
  have hl:(es.take n++(es.drop n).reverse).length=es.length:=by
    rw [List.length_append,List.length_reverse,List.length_take,List.length_drop]
    omega
  have nl:=h.nl
  refine ⟨⟨by rw [hl];exact nl,fun e he=>h.len e ((hm e).mp he),fun e he=>h.eb e ((hm e).mp he),fun k hk=>?_⟩,hl,hm⟩
  rw [List.getElem?_append_left (by rw [List.length_take];omega),List.getElem?_take_of_lt hk]
  exact h.un k hk
theorem qj7 {es:List (List Int)} {bs:List Int} (h:bs.length=es.length) (ray:List Int):(List.zip es bs).map (fun r=>D.bl (dot r.1 ray == 0))=(es.map fun e=>(dot e ray == 0)).map D.bl:=by
  have e:=congrArg (List.map fun e=>D.bl (dot e ray == 0)) (qcd h)
  rw [List.map_map] at e
  rw [List.map_map]
  exact e
theorem qkk {es:List (List Int)} {bs:List Int} (h:bs.length=es.length):esL (List.zip es bs)=es:=qcd h
theorem qlW {n:Nat} {f:Addr} {fd:FuncData} (F:Fun K "law" "law" qje f fd) (Q__law_draws:Cl P w K mg base n "_law_draws" ["_law_script","_law_at","_law_sizes"] qbJ) (Q__law_entries:Cl P w K mg base n "_law_entries" ["_law_script","_law_n"] qcn) (Q__law_bound:Cl P w K mg base n "_law_bound" ["_law_script","_law_at","_law_rows"] qc1) (Q__law_tied:Cl P w K mg base n "_law_tied" ["_law_n","_law_handed","_law_told"] qdU) (Q_inner:Cl P w K mg base n "inner" ["rows"] qhr):FnOk P w K mg base CX0 (n+1) f fd ["_law_script"] (lSp K qnR):=by
  refine F.okD sc_law (fun ds R h=>?_) (fun cdv A outer s H E ds R hr h=>?_)
  · obtain ⟨ns,rfl,_⟩:=h;rfl
  obtain ⟨ns,rfl,hz,q⟩:=h
  refine ⟨_,(qao (ql0 (qaq Q__law_draws hr rfl (qab (dv 0) (qab qai (qab (PF.d (qcK (qab qai (qab qai (qab qai qal qak) qak) qak))) qal qce) qak) qaa) qaa (qae qak (qae qce qad))) (qcT (n:=3) rfl (qaJ (qar (i:=1) sc_law.nd rfl (Or.inl rfl)) (qaJ (qar (i:=2) sc_law.nd rfl (Or.inl rfl)) (qaJ (qar (i:=3) sc_law.nd rfl (Or.inl rfl)) qbO)))))
      (qbW (qcZ (qa5 (qe3 hr.units) (dvq 2) (PD.q qai) (qaD _)) (qaw (qaE (i:=1) sc_law.nd rfl (Or.inl rfl) (qa3 qbN (PD.q qai) (dvq 3)))) qbs)
      (qao (qaE (i:=4) sc_law.nd rfl (Or.inl rfl) (qaq Q__law_entries hr rfl (qab (dv 0) (qab (dv 1) qal qaa) qaa) qaa (qae qaa qad)))
      (qao (qaE (i:=5) sc_law.nd rfl (Or.inl rfl) (qaq Q__law_bound hr rfl (qab (dv 0) (qab qai (qab (dv 4) qal qaa) qak) qaa) qaa (qae qak (qae qaa qad))))
      (qao (qaE (i:=6) sc_law.nd rfl (Or.inl rfl) (qaq Q__law_bound hr rfl (qab (dv 0) (qab qai (qab (qa3 qbN (PD.q (qnv (dvq 4) qgG (qej (dvq 1)))) (PD.q (qjV (PD.q (qnv (dvq 4) (qej (dvq 1)) qgG)) (qej (PD.q (qf3 (PD.q qai))))))) qal qaz) qak) qaa) qaa (qae qak (qae qaz qad))))
      (qao (qaE (i:=7) sc_law.nd rfl (Or.inl rfl) (qaq Q__law_tied hr rfl (qab (dv 1) (qab (dv 5) (qab (qaq Q_inner hr rfl (qab (dv 5) qal qaa) qaa qad) qal qaj) qaa) qaa) qaa (qae qaa (qae qaj qad))))
      (qao (qaE (i:=8) sc_law.nd rfl (Or.inl rfl) (qaq Q__law_tied hr rfl (qab (dv 1) (qab (dv 6) (qab (qaq Q_inner hr rfl (qab (dv 6) qal qaa) qaa qad) qal qaj) qaa) qaa) qaa (qae qaa (qae qaj qad))))
      (qbW (qcZ (PWD.td (qnr (qa5 qlN (dvq 7) (PD.q qbK) (qaD _)) (qjl (qa5 qlN (dvq 8) (PD.q qbK) (qaD _))))) (qaw (qaN qn6)) qbs)
      (qaw (qaN (qeW (qe3 hr.units) (PD.q (qa3 qbN (PD.q (qnv (dvq 7) qgG (qej (dvq 1)))) (PD.q (qjV (PD.q (qnv (dvq 7) (qej (dvq 1)) qgG)) (qej (PD.q (qf3 (PD.q qai)))))))) (dvq 8) (qaD _)))))))))))),?_⟩
  refine ⟨ns,0,[4,8,5],rfl,hz,by decide,by decide,by decide,by decide +kernel,fun ds hD=>?_⟩
  obtain ⟨x0,x1,x2,rfl,d0,d1,d2⟩:=qkf hD
  have d0:0≤x0∧x0<4:=d0
  have d2:0≤x2∧x2<5:=d2
  refine ⟨rfl,fun ρ=>∃ n:Nat,n≤8∧ρ=[some (.v (.fzl (ns.map D.int))),some (.v (.int (n:Int))),some (.v (.int x1)),some (.v (.int x2)),none,none,none,none,none],⟨fun h=>⟨(4+x2).toNat,by omega,?_⟩,fun h=>⟨x0.toNat,by omega,?_⟩⟩,?_⟩
  · rw [show (((4+x2).toNat:Nat):Int)=4+x2 by omega];rfl
  · rw [show ((x0.toNat:Nat):Int)=x0 by omega];rfl
  rintro ρ ⟨n,n8,rfl⟩
  refine ⟨ns,n,rfl,hz,n8,fun es hE hel=>?_⟩
  refine ⟨ns,40,es,rfl,hz,by decide,by decide,by omega,fun bs hbl=>?_⟩
  obtain ⟨hE2,hel2,hm2⟩:=hE.turn
  refine ⟨_,(qdg wD es none (some (n:Int))).trans (by rw [qgx]),_,(qdg wD es (some (n:Int)) none).trans (by rw [qgA]),rfl,_,List.map_reverse.symm,?_,_,qnx wD _ _,ns,41,_,rfl,hz,by decide,by decide,by omega,fun bs2 hbl2=>?_⟩
  · rw [List.length_map,List.length_map,List.length_reverse,List.length_take,List.length_drop];exact small (by omega)
  have h0:es=[]→n=0:=fun e=>by have:=hE.nl;rw [e] at this;simpa using this
  have i1:In39 (List.zip es bs) n:=qos hE n8 hel hbl h0
  have i2:In39 (List.zip (es.take n++(es.drop n).reverse) bs2) n:=qos hE2 n8 (by omega) hbl2 fun e=>h0 (by
    have:=congrArg List.length e
    rw [hel2] at this
    exact List.length_eq_zero_iff.mp this)
  refine ⟨List.zip es bs,n,rfl,i1,fun ray ws hI=>⟨n,_,ray,ws,rfl,i1,hI,?_⟩⟩
  refine ⟨List.zip (es.take n++(es.drop n).reverse) bs2,n,rfl,i2,fun ray2 ws2 hI2=>⟨n,_,ray2,ws2,rfl,i2,hI2,?_⟩⟩
  rw [qj7 hbl,qj7 hbl2]
  rw [qkk hbl] at hI
  rw [qkk hbl2] at hI2
  have hff:(es.take n++(es.drop n).reverse).map (fun e=>(dot e ray == 0))=(es.take n++(es.drop n).reverse).map fun e=>(dot e ray2 == 0):=by
    refine List.map_congr_left fun e he=>?_
    have u1:=hI.up e ((hm2 e).mp he)
    have u2:=hI2.up e he
    have a1:=hI.one hI2 hE2.len (fun e he=>(hm2 e).mp he) e he
    have a2:=hI2.one hI hE.len (fun e he=>(hm2 e).mpr he) e ((hm2 e).mp he)
    by_cases c:dot e ray=0
    · have:dot e ray2=0:=by omega
      rw [c,this]
    · have:dot e ray2≠0:=by omega
      rw [beq_eq_false_iff_ne.mpr c,beq_eq_false_iff_ne.mpr this]
  refine ⟨fun ρ=>ρ=[some (.v (.fzl (ns.map D.int))),some (.v (.int (n:Int))),some (.v (.int x1)),some (.v (.int x2)),some (.v (.lst (es.map wD))),some (.v (.tup ((List.zip es bs).map qbe))),some (.v (.tup ((List.zip (es.take n++(es.drop n).reverse) bs2).map qbe))),some (.v (.lst ((es.map fun e=>(dot e ray == 0)).map D.bl))),some (.v (.lst (((es.take n++(es.drop n).reverse).map fun e=>(dot e ray2 == 0)).map D.bl)))],⟨fun h=>(by cases h),fun _=>⟨fun h=>(by cases h),fun _=>rfl⟩⟩,?_⟩
  rintro ρ rfl
  refine ⟨_,(qdg D.bl _ none (some (n:Int))).trans (by rw [qgx]),_,(qdg D.bl _ (some (n:Int)) none).trans (by rw [qgA]),rfl,_,List.map_reverse.symm,?_,_,qnx D.bl _ _,?_⟩
  · rw [List.length_map,List.length_map,List.length_reverse,List.length_take,List.length_drop,List.length_map];exact small (by omega)
  have e1:(es.map fun e=>(dot e ray == 0)).take n++((es.map fun e=>(dot e ray == 0)).drop n).reverse=(es.take n++(es.drop n).reverse).map fun e=>(dot e ray2 == 0):=by
    rw [← hff,List.map_append,List.map_reverse,List.map_take,List.map_drop]
  rw [e1]
  show (match cmB 40 _ _ with | some b=>R (.bl b) | none=>False)
  rw [qiJ]
  exact q
end
theorem ql3 {A:Type} {p:List A→Prop} (h:∀ a0,p [a0]):∀ us:List A,us.length=1→p us
  | [a0],_=>h a0
theorem qeo {A:Type} {p:List A→Prop} (h:∀ a0 a1,p [a0,a1]):∀ us:List A,us.length=2→p us
  | [a0,a1],_=>h a0 a1
theorem qmu {A:Type} {p:List A→Prop} (h:∀ a0 a1 a2,p [a0,a1,a2]):∀ us:List A,us.length=3→p us
  | [a0,a1,a2],_=>h a0 a1 a2
theorem qnu {A:Type} {p:List A→Prop} (h:∀ a0 a1 a2 a3,p [a0,a1,a2,a3]):∀ us:List A,us.length=4→p us
  | [a0,a1,a2,a3],_=>h a0 a1 a2 a3
theorem qoz {A:Type} {p:List A→Prop} (h:∀ a0 a1 a2 a3 a4,p [a0,a1,a2,a3,a4]):∀ us:List A,us.length=5→p us
  | [a0,a1,a2,a3,a4],_=>h a0 a1 a2 a3 a4
theorem all_mk {l:PySem.W.OpenLaw} {w:World} {K:PySem.W.Frag} {h:Heap} {mg:Str→Option Value} {fa f11 f37:Addr} {C_Stand:Addr} (X:K.In h) (G:h.Ns mainGlobals mg) (hfa:mg "law"=some (.ref fa))
    {od11 an11 od37 an37:Option Addr} {sl11 sl37:Array (Option Value)} {oc11 kV11 dc11 pm11 cd11 ct11 oc37 kV37 dc37 pm37 cd37 ct37:Value}
    (aC_Stand:PySem.W.nsIn K mainGlobals "Stand"=some (some (.ref C_Stand)))
    (a1:Has K qbb "common_of_two")
    (a2:Has K qdb "common")
    (a3:Has K qcB "lowest")
    (a4:Has K qfA "unit")
    (a5:Has K qet "width")
    (a6:Has K qfJ "left")
    (a7:Has K qbg "beginning")
    (a8:Has K qb9 "growths")
    (a9:Has K qgT "over")
    (a10:Has K qbI "missed_row")
    (a11:PySem.W.nsIn K mainGlobals "least_grown"=some (some (.ref f11))) (l11:K.lookup f11=some ⟨oc11,od11,.func (PySem.W.fnOf "least_grown" "least_grown" (qbA qay) (qa7 qay) (qaf qay) .none kV11 dc11 pm11 an11 cd11 ct11),sl11⟩) (c11:PySem.W.codeIn K cd11 "least_grown"=true) (k11:PySem.W.keepIn K (.ref f11)=true)
    {cc11 pp11:Addr} {dq11:Option Addr} {vq11:Array Value} {sq11:Array (Option Value)} (x11:cd11=.ref cc11) (q11:K.lookup cc11=some ⟨.type "code",dq11,.fields vq11,sq11⟩) (r11:(vq11[11]?:Option Value)=some (.ref pp11)) (v11:PySem.W.codeHdIn [(cc11,⟨.type "code",dq11,.fields vq11,sq11⟩)] cc11 pp11=true) (yg:PySem.W.nsIn K mainGlobals "greatest_first"=some none)
    (a12:Has K qbi "stopping_row")
    (a13:Has K qdp "moved")
    (a14:Has K qbf "exchanged")
    (a15:Has K qcw "fallen")
    (a16:Has K qbh "in_lowest")
    (a17:Has K qbq "none_ending")
    (a18:Has K qbr "best_ending")
    (a19:Has K qaY "endless_ending")
    (a20:Has K qbZ "next_step")
    (a21:Has K qcI "walk_on")
    (a22:Has K qgC "walk")
    (a23:Has K qeF "first")
    (a24:Has K qcH "summed")
    (a25:Has K qbP "divided")
    (a26:Has K qa8 "ask_still")
    (a27:Has K qeQ "inner")
    (a28:Has K qbG "_law_mixed")
    (a29:Has K qbF "_law_draws")
    (a30:Has K qbH "_law_whole")
    (a31:Has K qba "_law_wholes")
    (a32:Has K qbm "_law_times")
    (a33:Has K qaL "_law_entries")
    (a34:Has K qbl "_law_bound")
    (a35:Has K qaU "_law_tied")
    (a36:Has K qje "law")
    (a37:PySem.W.findIn K (.ref C_Stand) "__init__"=some (some (.ref f37))) (i37:PySem.W.isFn K (.ref f37)=true) (l37:K.lookup f37=some ⟨oc37,od37,.func (PySem.W.fnOf "__init__" "Stand.__init__" (qbA qaK) (qa7 qaK) (qaf qaK) .none kV37 dc37 pm37 an37 cd37 ct37),sl37⟩) (c37:PySem.W.codeIn K cd37 "Stand.__init__"=true) (k37:PySem.W.keepIn K (.ref f37)=true)
    (pg_Stand:PySem.W.plainGet K C_Stand Str.empty=true) (hd_Stand:PySem.W.hasDictIn K C_Stand=true) (po_Stand:PySem.W.plainOver K C_Stand=true) (sa_Stand:PySem.W.findIn K (.ref C_Stand) "__setattr__"=some (some (.builtin "object.__setattr__"))) (mk_Stand:PySem.W.makesIn K C_Stand=true) (kc_Stand:PySem.W.keepIn K (.ref C_Stand)=true)
    (n_Stand_held:PySem.W.findIn K (.ref C_Stand) "held"=some none)
    (n_Stand_ways:PySem.W.findIn K (.ref C_Stand) "ways"=some none)
    (n_Stand_tops:PySem.W.findIn K (.ref C_Stand) "tops"=some none)
    (n_Stand_bottom:PySem.W.findIn K (.ref C_Stand) "bottom"=some none)
    (y_abs:PySem.W.nsIn K mainGlobals "abs"=some none)
    (y_tuple:PySem.W.nsIn K mainGlobals "tuple"=some none)
    (y_range:PySem.W.nsIn K mainGlobals "range"=some none)
    (y_len:PySem.W.nsIn K mainGlobals "len"=some none)
    (y_sum:PySem.W.nsIn K mainGlobals "sum"=some none)
    (y_zip:PySem.W.nsIn K mainGlobals "zip"=some none)
    (y_min:PySem.W.nsIn K mainGlobals "min"=some none)
    (y_sorted:PySem.W.nsIn K mainGlobals "sorted"=some none)
    (y_enumerate:PySem.W.nsIn K mainGlobals "enumerate"=some none)
    (y_isinstance:PySem.W.nsIn K mainGlobals "isinstance"=some none)
    (y_int:PySem.W.nsIn K mainGlobals "int"=some none)
    (y_bool:PySem.W.nsIn K mainGlobals "bool"=some none)
    (y_all:PySem.W.nsIn K mainGlobals "all"=some none)
    (y_max:PySem.W.nsIn K mainGlobals "max"=some none)
    (y_any:PySem.W.nsIn K mainGlobals "any"=some none)
    (y_list:PySem.W.nsIn K mainGlobals "list"=some none) :
    ∃ fd:FuncData,(∀ (s:Shared) (v:Value),BindsTo s fd ⟨[v],[]⟩ [("_law_script",v)])∧∀ base:Heap,K.In base→base.Ns mainGlobals mg→FnOk l.prog w K mg base CX0 12 fa fd ["_law_script"] (sp_law K):=by
  obtain ⟨f1,d1,F1,m1,_⟩:=a1.fn X G
  obtain ⟨f2,d2,F2,m2,_⟩:=a2.fn X G
  obtain ⟨f3,d3,F3,m3,_⟩:=a3.fn X G
  obtain ⟨f4,d4,F4,m4,_⟩:=a4.fn X G
  obtain ⟨f5,d5,F5,m5,_⟩:=a5.fn X G
  obtain ⟨f6,d6,F6,m6,_⟩:=a6.fn X G
  obtain ⟨f7,d7,F7,m7,_⟩:=a7.fn X G
  obtain ⟨f8,d8,F8,m8,_⟩:=a8.fn X G
  obtain ⟨f9,d9,F9,m9,_⟩:=a9.fn X G
  obtain ⟨f10,d10,F10,m10,_⟩:=a10.fn X G
  have F11:=qh0 (st:=qay) l11 c11 k11
  have m11:=PySem.W.mg_of X G a11
  obtain ⟨f12,d12,F12,m12,_⟩:=a12.fn X G
  obtain ⟨f13,d13,F13,m13,_⟩:=a13.fn X G
  obtain ⟨f14,d14,F14,m14,_⟩:=a14.fn X G
  obtain ⟨f15,d15,F15,m15,_⟩:=a15.fn X G
  obtain ⟨f16,d16,F16,m16,_⟩:=a16.fn X G
  obtain ⟨f17,d17,F17,m17,_⟩:=a17.fn X G
  obtain ⟨f18,d18,F18,m18,_⟩:=a18.fn X G
  obtain ⟨f19,d19,F19,m19,_⟩:=a19.fn X G
  obtain ⟨f20,d20,F20,m20,_⟩:=a20.fn X G
  obtain ⟨f21,d21,F21,m21,_⟩:=a21.fn X G
  obtain ⟨f22,d22,F22,m22,_⟩:=a22.fn X G
  obtain ⟨f23,d23,F23,m23,_⟩:=a23.fn X G
  obtain ⟨f24,d24,F24,m24,_⟩:=a24.fn X G
  obtain ⟨f25,d25,F25,m25,_⟩:=a25.fn X G
  obtain ⟨f26,d26,F26,m26,_⟩:=a26.fn X G
  obtain ⟨f27,d27,F27,m27,_⟩:=a27.fn X G
  obtain ⟨f28,d28,F28,m28,_⟩:=a28.fn X G
  obtain ⟨f29,d29,F29,m29,_⟩:=a29.fn X G
  obtain ⟨f30,d30,F30,m30,_⟩:=a30.fn X G
  obtain ⟨f31,d31,F31,m31,_⟩:=a31.fn X G
  obtain ⟨f32,d32,F32,m32,_⟩:=a32.fn X G
  obtain ⟨f33,d33,F33,m33,_⟩:=a33.fn X G
  obtain ⟨f34,d34,F34,m34,_⟩:=a34.fn X G
  obtain ⟨f35,d35,F35,m35,_⟩:=a35.fn X G
  obtain ⟨f36,d36,F36,m36,_,_,_,e⟩:=a36.fn X G
  have F37:=qh0 (st:=qaK) l37 c37 k37
  have b37:=F37.binds (ps:=["self","held","ways","tops","bottom"]) <| fun _ _ _ _ _ _=>qoz fun _ _ _ _ _=>rfl
  cases hfa.symm.trans m36
  refine ⟨d36,fun s v=>by rw [e];exact .of_eq rfl,fun base _ _=>?_⟩
  have z_abs:=PySem.W.mg_none_of X G y_abs
  have z_tuple:=PySem.W.mg_none_of X G y_tuple
  have z_range:=PySem.W.mg_none_of X G y_range
  have z_len:=PySem.W.mg_none_of X G y_len
  have z_sum:=PySem.W.mg_none_of X G y_sum
  have z_zip:=PySem.W.mg_none_of X G y_zip
  have z_min:=PySem.W.mg_none_of X G y_min
  have z_sorted:=PySem.W.mg_none_of X G y_sorted
  have z_enumerate:=PySem.W.mg_none_of X G y_enumerate
  have z_isinstance:=PySem.W.mg_none_of X G y_isinstance
  have z_int:=PySem.W.mg_none_of X G y_int
  have z_bool:=PySem.W.mg_none_of X G y_bool
  have z_all:=PySem.W.mg_none_of X G y_all
  have z_max:=PySem.W.mg_none_of X G y_max
  have z_any:=PySem.W.mg_none_of X G y_any
  have z_list:=PySem.W.mg_none_of X G y_list
  have T_Stand:TxtStand K mg C_Stand:=⟨⟨pg_Stand,hd_Stand,po_Stand,sa_Stand⟩,n_Stand_held,n_Stand_ways,n_Stand_tops,n_Stand_bottom,PySem.W.mg_of X G aC_Stand,aC_Stand⟩
  have H1:=qc8 (P:=l.prog) (w:=w) (mg:=mg) (base:=base) (n:=0) F1 z_abs
  have Q1:=F1.cl m1 H1 <| fun _ _ _ _ _ _=>qeo fun _ _=>rfl
  have H2:=qiA (n:=1) F2 (Q1.mono (by decide))
  have Q2:=F2.cl m2 H2 <| fun _ _ _ _ _ _=>ql3 fun _=>rfl
  have H3:=qhZ (n:=2) F3 (Q1.mono (by decide)) (Q2.mono (by decide)) z_tuple
  have Q3:=F3.cl m3 H3 <| fun _ _ _ _ _ _=>qeo fun _ _=>rfl
  have H4:=qlq (P:=l.prog) (w:=w) (mg:=mg) (base:=base) (n:=0) F4 z_tuple z_range
  have Q4:=F4.cl m4 H4 <| fun _ _ _ _ _ _=>qeo fun _ _=>rfl
  have H5:=qiQ (P:=l.prog) (w:=w) (mg:=mg) (base:=base) (n:=0) F5 z_len
  have Q5:=F5.cl m5 H5 <| fun _ _ _ _ _ _=>ql3 fun _=>rfl
  have H6:=qlr (P:=l.prog) (w:=w) (mg:=mg) (base:=base) (n:=0) F6 z_sum z_zip
  have Q6:=F6.cl m6 H6 <| fun _ _ _ _ _ _=>qeo fun _ _=>rfl
  have H8:=qgY (n:=1) F8 T_Stand (Q6.mono (by decide)) z_tuple
  have Q8:=F8.cl m8 H8 <| fun _ _ _ _ _ _=>qeo fun _ _=>rfl
  have H9:=qlu (n:=1) F9 T_Stand (Q6.mono (by decide))
  have Q9:=F9.cl m9 H9 <| fun _ _ _ _ _ _=>qeo fun _ _=>rfl
  have H10:=qeN (n:=2) F10 (Q9.mono (by decide))
  have Q10:=F10.cl m10 H10 <| fun _ _ _ _ _ _=>qmu fun _ _ _=>rfl
  have L11:LamT K "least_grown" (PySem.W.fnOf "least_grown" "least_grown" (qbA qay) (qa7 qay) (qaf qay) .none kV11 dc11 pm11 an11 cd11 ct11) cc11 pp11 ⟨57,27,57,58⟩:=⟨x11,qg6 q11 v11,by rw [qd9 (qgt a11 l11 x11 q11 r11 rfl) (qeb yg)];exact List.mem_singleton.mpr rfl⟩
  have H11:=qd6 (P:=l.prog) (w:=w) (mg:=mg) (base:=base) (n:=0) F11 T_Stand z_min z_range z_len L11
  have Q11:=F11.cl m11 H11 <| fun _ _ _ _ _ _=>qeo fun _ _=>rfl
  have H12:=qdj (n:=2) F12 (Q6.mono (by decide)) (Q9.mono (by decide))
  have Q12:=F12.cl m12 H12 <| fun _ _ _ _ _ _=>qnu fun _ _ _ _=>rfl
  have H13:=qjG (P:=l.prog) (w:=w) (mg:=mg) (base:=base) (n:=0) F13 z_tuple z_zip
  have Q13:=F13.cl m13 H13 <| fun _ _ _ _ _ _=>qoz fun _ _ _ _ _=>rfl
  have H15:=qik (P:=l.prog) (w:=w) (mg:=mg) (base:=base) (n:=0) F15 T_Stand z_range z_len
  have Q15:=F15.cl m15 H15 <| fun _ _ _ _ _ _=>qeo fun _ _=>rfl
  have H16:=qfw (n:=3) F16 (Q3.mono (by decide)) z_tuple z_zip
  have Q16:=F16.cl m16 H16 <| fun _ _ _ _ _ _=>qeo fun _ _=>rfl
  have H17:=qd0 (n:=4) F17 T_Stand (Q16.mono (by decide)) (Q15.mono (by decide)) z_tuple z_sorted
  have Q17:=F17.cl m17 H17 <| fun _ _ _ _ _ _=>qmu fun _ _ _=>rfl
  have H18:=qd5 (n:=4) F18 T_Stand (Q16.mono (by decide)) (Q15.mono (by decide)) (Q3.mono (by decide)) z_tuple z_sorted
  have Q18:=F18.cl m18 H18 <| fun _ _ _ _ _ _=>qeo fun _ _=>rfl
  have H19:=qcL (n:=3) F19 T_Stand (Q2.mono (by decide)) (Q3.mono (by decide)) z_tuple
  have Q19:=F19.cl m19 H19 <| fun _ _ _ _ _ _=>qeo fun _ _=>rfl
  have H20:=qfI (n:=5) F20 T_Stand (Q10.mono (by decide)) (Q8.mono (by decide)) (Q11.mono (by decide)) (Q12.mono (by decide)) (Q18.mono (by decide)) (Q19.mono (by decide)) (Q17.mono (by decide))
  have Q20:=F20.cl m20 H20 <| fun _ _ _ _ _ _=>qnu fun _ _ _ _=>rfl
  have H24:=qhH (P:=l.prog) (w:=w) (mg:=mg) (base:=base) (n:=0) F24 z_tuple z_sum z_range
  have Q24:=F24.cl m24 H24 <| fun _ _ _ _ _ _=>qeo fun _ _=>rfl
  have H25:=qhc (n:=2) F25 (Q2.mono (by decide)) z_tuple
  have Q25:=F25.cl m25 H25 <| fun _ _ _ _ _ _=>ql3 fun _=>rfl
  have H28:=qeY (P:=l.prog) (w:=w) (mg:=mg) (base:=base) (n:=0) F28
  have Q28:=F28.cl m28 H28 <| fun _ _ _ _ _ _=>qeo fun _ _=>rfl
  have H29:=qeT (n:=1) F29 (Q28.mono (by decide)) z_enumerate z_len
  have Q29:=F29.cl m29 H29 <| fun _ _ _ _ _ _=>qmu fun _ _ _=>rfl
  have H30:=qeA (P:=l.prog) (w:=w) (mg:=mg) (base:=base) (n:=0) F30 z_isinstance z_int z_bool
  have Q30:=F30.cl m30 H30 <| fun _ _ _ _ _ _=>ql3 fun _=>rfl
  have H31:=qd8 (n:=1) F31 (Q30.mono (by decide)) z_isinstance z_tuple z_all z_len
  have Q31:=F31.cl m31 H31 <| fun _ _ _ _ _ _=>qeo fun _ _=>rfl
  have H32:=qeX (P:=l.prog) (w:=w) (mg:=mg) (base:=base) (n:=0) F32 z_sum z_zip
  have Q32:=F32.cl m32 H32 <| fun _ _ _ _ _ _=>qeo fun _ _=>rfl
  have H33:=qdN (n:=2) F33 (Q29.mono (by decide)) z_enumerate z_range z_tuple z_int z_max z_len z_zip
  have Q33:=F33.cl m33 H33 <| fun _ _ _ _ _ _=>qeo fun _ _=>rfl
  have H34:=qew (n:=2) F34 (Q29.mono (by decide)) z_tuple z_len z_zip
  have Q34:=F34.cl m34 H34 <| fun _ _ _ _ _ _=>qmu fun _ _ _=>rfl
  have H35:=qfp (n:=2) F35 (Q32.mono (by decide)) (Q31.mono (by decide)) z_any z_range z_isinstance z_tuple z_len z_zip z_list
  have Q35:=F35.cl m35 H35 <| fun _ _ _ _ _ _=>qmu fun _ _ _=>rfl
  have H37:=qcx (P:=l.prog) (w:=w) (mg:=mg) (base:=base) (n:=0) F37 T_Stand
  have H7:=qfz (n:=1) F7 T_Stand (Q4.mono (by decide)) (H37.mono (by decide)) b37 ⟨mk_Stand,a37,i37,kc_Stand⟩ z_tuple z_range
  have Q7:=F7.cl m7 H7 <| fun _ _ _ _ _ _=>qeo fun _ _=>rfl
  have H14:=qfD (n:=1) F14 T_Stand (Q8.mono (by decide)) (Q13.mono (by decide)) (Q9.mono (by decide)) (H37.mono (by decide)) b37 ⟨mk_Stand,a37,i37,kc_Stand⟩ z_abs z_range z_tuple z_len
  have Q14:=F14.cl m14 H14 <| fun _ _ _ _ _ _=>qnu fun _ _ _ _=>rfl
  have H21:=qg8 (n:=6) F21 T_Stand (Q20.mono (by decide)) (Q14.mono (by decide)) z_tuple
  have Q21:=F21.cl m21 H21 <| fun _ _ _ _ _ _=>qnu fun _ _ _ _=>rfl
  have H22:=qln (n:=7) F22 (Q21.mono (by decide)) (Q7.mono (by decide)) z_tuple z_range z_len
  have Q22:=F22.cl m22 H22 <| fun _ _ _ _ _ _=>qeo fun _ _=>rfl
  have H23:=qi6 (n:=8) F23 (Q22.mono (by decide))
  have Q23:=F23.cl m23 H23 <| fun _ _ _ _ _ _=>qeo fun _ _=>rfl
  have H26:=qe8 (n:=9) F26 (Q24.mono (by decide)) (Q23.mono (by decide)) (Q6.mono (by decide)) z_len z_enumerate z_tuple
  have Q26:=F26.cl m26 H26 <| fun _ _ _ _ _ _=>qeo fun _ _=>rfl
  have H27:=qi2 (n:=10) F27 (Q5.mono (by decide)) (Q26.mono (by decide)) (Q24.mono (by decide)) (Q25.mono (by decide)) z_len
  have Q27:=F27.cl m27 H27 <| fun _ _ _ _ _ _=>ql3 fun _=>rfl
  have H36:=qlW (n:=11) F36 (Q29.mono (by decide)) (Q33.mono (by decide)) (Q34.mono (by decide)) (Q35.mono (by decide)) (Q27.mono (by decide))
  exact H36.imp qjm
theorem walk {l:PySem.W.OpenLaw} {q:Program} {loose:List Str} {XP:(Str→Option Value)→Heap→Prop} {YP:World→Heap→Prop} {d:DefRec} {K:Params→PySem.W.Frag} (hn:l.most=some 63) (hdf:d.params.defaults=[])
    (hY:∀ (w:World) (h:Heap),YP w h→(K w.params).In h)
    (hT:∀ (w:World) (h:Heap),YP w h→∀ t∈qaS (K w.params),h.get? t.1=some (PySem.W.tabObj #[])∧(K w.params).lookup t.1=none∧isCodeTable h t.1) (hnd:∀ (w:World),∀ t∈qaS (K w.params),∀ u∈qaS (K w.params),t.1=u.1→t=u)
    (F:∀ (w:World) (mg:Str→Option Value) (fa:Addr) (h:Heap),(K w.params).In h→h.Ns mainGlobals mg→mg d.name=some (.ref fa) →
      ∃ fd:FuncData,(∀ (s:Shared) (u:Value),BindsTo s fd ⟨[u],[]⟩ [("_law_script",u)])∧∀ base:Heap,(K w.params).In base→base.Ns mainGlobals mg→FnOk l.prog w (K w.params) mg base CX0 12 fa fd ["_law_script"] (sp_law (K w.params))) :
    PySem.W.WalkO q loose XP YP l.row.toRowW d [] (fun f vs=>PySem.call f vs) :=
  L2.walk_ofT (n:=63) (k:=12) (x:="_law_script") (CX:=fun _=>CX0) (sp:=fun w=>sp_law (K w.params)) hn (by decide) hdf ⟨rfl,by decide,by decide⟩ hY hT hnd F (fun _ _ a ns hl hS hTb=>⟨a,ns,rfl,hS,hl,hTb,fun _=>rfl⟩) fun _ _ _ _ _ z=>z
theorem tabs_is {K:PySem.W.Frag} {f c P:Addr} {oc kV dc pm cd ct:Value} {od an odq:Option Addr} {sl slq:Array (Option Value)} {vq:Array Value} (a:PySem.W.nsIn K mainGlobals "least_grown"=some (some (.ref f)))
    (l:K.lookup f=some ⟨oc,od,.func (PySem.W.fnOf "least_grown" "least_grown" (qbA qay) (qa7 qay) (qaf qay) .none kV dc pm an cd ct),sl⟩) (x:cd=.ref c) (q:K.lookup c=some ⟨.type "code",odq,.fields vq,slq⟩) (r:(vq[11]?:Option Value)=some (.ref P)) (yg:PySem.W.nsIn K mainGlobals "greatest_first"=some none):∃ ps,qaS K=[(P,ps)] :=
  ⟨_,qd9 (qgt a l x q r rfl) (qeb yg)⟩
theorem tabs_in {K:PySem.W.Frag} {h:Heap} {P c:Addr} {odq:Option Addr} {vq:Array Value} {slq:Array (Option Value)} (X:K.In h) (e:∃ ps,qaS K=[(P,ps)]) (q:K.lookup c=some ⟨.type "code",odq,.fields vq,slq⟩) (r:(vq[11]?:Option Value)=some (.ref P)) (n:K.lookup P=none) (m:h.get? P=some (PySem.W.tabObj #[])) :
    ∀ t∈qaS K,h.get? t.1=some (PySem.W.tabObj #[])∧K.lookup t.1=none∧isCodeTable h t.1:=fun t ht=>by
  obtain ⟨ps,e⟩:=e
  rw [e] at ht
  have:=List.mem_singleton.mp ht
  subst this
  exact ⟨m,n,c,_,vq,X _ _ q,rfl,rfl,r⟩
theorem tabs_nd {K:PySem.W.Frag} {P:Addr} (e:∃ ps,qaS K=[(P,ps)]):∀ t∈qaS K,∀ u∈qaS K,t.1=u.1→t=u:=fun t ht u hu _=>by
  obtain ⟨ps,e⟩:=e
  rw [e] at ht hu
  rw [List.mem_singleton.mp ht,List.mem_singleton.mp hu]
end Kx
namespace Kx
open PySem PySem.W L2
def KK:Params→Frag:=fun P =>
  (nat_lit 2,⟨.none,none,(.dict #[] 0),#[]⟩) ::
  (nat_lit 3,⟨(.type "dict"),none,(.dict #[dE P "__name__" 165 ((.str "law_cutyard_k39_whole_inner" 486)),dE P "__doc__" 166 (.none),dE P "__package__" 167 (.none),dE P "__loader__" 168 ((.builtin "__main__.__loader__#opaque")),dE P "__spec__" 169 (.none),dE P "__annotations__" 170 ((.ref 6)),dE P "__builtins__" 171 ((.ref 4)),dE P "__file__" 173 ((.str "/claim/cut.py" 172)),dE P "__cached__" 174 (.none),dE P "YardError" 206 ((.ref 24)),dE P "NoNumber" 222 ((.ref 37)),dE P "common_of_two" 235 ((.ref 46)),dE P "common" 244 ((.ref 53)),dE P "lowest" 250 ((.ref 58)),dE P "unit" 258 ((.ref 63)),dE P "width" 265 ((.ref 70)),dE P "left" 271 ((.ref 75)),dE P "Stand" 308 ((.ref 92)),dE P "beginning" 314 ((.ref 101)),dE P "growths" 320 ((.ref 106)),dE P "over" 328 ((.ref 113)),dE P "missed_row" 338 ((.ref 120)),dE P "least_grown" 344 ((.ref 125)),dE P "stopping_row" 360 ((.ref 132)),dE P "moved" 366 ((.ref 137)),dE P "exchanged" 372 ((.ref 142)),dE P "fallen" 378 ((.ref 147)),dE P "in_lowest" 384 ((.ref 152)),dE P "none_ending" 394 ((.ref 159)),dE P "best_ending" 403 ((.ref 166)),dE P "endless_ending" 409 ((.ref 171)),dE P "next_step" 423 ((.ref 178)),dE P "walk_on" 435 ((.ref 185)),dE P "walk" 443 ((.ref 192)),dE P "first" 451 ((.ref 199)),dE P "summed" 459 ((.ref 204)),dE P "divided" 465 ((.ref 209)),dE P "ask_still" 471 ((.ref 214)),dE P "inner" 485 ((.ref 221)),dE P "_law_mixed" 496 ((.ref 228)),dE P "_law_draws" 511 ((.ref 235)),dE P "_law_whole" 518 ((.ref 242)),dE P "_law_wholes" 524 ((.ref 247)),dE P "_law_times" 530 ((.ref 252)),dE P "_law_entries" 536 ((.ref 257)),dE P "_law_bound" 542 ((.ref 262)),dE P "_law_tied" 548 ((.ref 267)),dE P "law" 563 ((.ref 274))] 48),#[]⟩) ::
(nat_lit 45,cO "common_of_two" 225 "common_of_two" 226 227 7 2 3 40 181 41 (.ref 42) (.ref 43) 44 233 234) ::
  (nat_lit 46,fO qbb "common_of_two" "common_of_two" "cutyard.wholes" 223 45) ::
(nat_lit 52,cO "common" 236 "common" 237 238 15 1 3 47 181 48 (.ref 49) (.ref 50) 51 242 243) ::
  (nat_lit 53,fO qdb "common" "common" "cutyard.wholes" 223 52) ::
(nat_lit 57,cO "lowest" 245 "lowest" 246 247 20 2 3 54 181 55 .none .none 56 248 249) ::
  (nat_lit 58,fO qcB "lowest" "lowest" "cutyard.wholes" 223 57) ::
(nat_lit 62,cO "unit" 253 "unit" 254 255 26 2 3 59 181 60 .none .none 61 256 257) ::
  (nat_lit 63,fO qfA "unit" "unit" "cutyard.rows" 251 62) ::
(nat_lit 69,cO "width" 259 "width" 260 261 28 1 3 64 181 65 (.ref 66) (.ref 67) 68 263 264) ::
  (nat_lit 70,fO qet "width" "width" "cutyard.rows" 251 69) ::
(nat_lit 74,cO "left" 266 "left" 267 268 32 2 3 71 181 72 .none .none 73 269 270) ::
  (nat_lit 75,fO qfJ "left" "left" "cutyard.rows" 251 74) ::
(nat_lit 88,cO "__init__" 286 "Stand.__init__" 287 288 37 5 3 83 181 84 (.ref 85) (.ref 86) 87 294 295) ::
  (nat_lit 89,fO qaK "__init__" "Stand.__init__" "cutyard.first" 272 88) ::
  (nat_lit 90,⟨(.type "tuple"),none,(.seq #[(.str "bottom" 297),(.str "held" 298),(.str "tops" 299),(.str "ways" 300)] 0),#[]⟩) ::
  (nat_lit 91,⟨(.type "dict"),none,(.dict #[dE P "__module__" 281 ((.str "cutyard.first" 272)),dE P "__firstlineno__" 285 ((.int 35 284)),dE P "__init__" 296 ((.ref 89)),dE P "__static_attributes__" 301 ((.ref 90)),dE P "__dict__" 303 ((.ref 93)),dE P "__weakref__" 305 ((.ref 94)),dE P "__doc__" 306 (.none)] 4),#[]⟩) ::
  (nat_lit 92,⟨(.type "type"),none,(.cls ⟨"Stand",[(.type "object")],[(.ref 92),(.type "object")],91,"Stand",true,[],[],false,none,false⟩),#[none,none,(some (.str "Stand" 274)),(some (.str "Stand" 282)),(some (.builtin "object.__new__")),(some (.bool true))]⟩) ::
  (nat_lit 93,⟨(.type "getset_descriptor"),none,(.fields #[(.str "__dict__" 302),(.ref 92),(.builtin "function.__dict__"),(.builtin "function.__dict__#set")]),#[]⟩) ::
  (nat_lit 94,⟨(.type "getset_descriptor"),none,(.fields #[(.str "__weakref__" 304),(.ref 92),(.builtin "ExceptionGroup.__weakref__"),.none]),#[]⟩) ::
(nat_lit 100,cO "beginning" 309 "beginning" 310 311 42 2 3 97 181 98 .none .none 99 312 313) ::
  (nat_lit 101,fO qbg "beginning" "beginning" "cutyard.first" 272 100) ::
(nat_lit 105,cO "growths" 315 "growths" 316 317 46 2 3 102 181 103 .none .none 104 318 319) ::
  (nat_lit 106,fO qb9 "growths" "growths" "cutyard.first" 272 105) ::
(nat_lit 112,cO "over" 321 "over" 322 323 48 2 3 107 181 108 (.ref 109) (.ref 110) 111 326 327) ::
  (nat_lit 113,fO qgT "over" "over" "cutyard.first" 272 112) ::
(nat_lit 119,cO "missed_row" 329 "missed_row" 330 331 50 3 3 114 181 115 (.ref 116) (.ref 117) 118 336 337) ::
  (nat_lit 120,fO qbI "missed_row" "missed_row" "cutyard.first" 272 119) ::
(nat_lit 124,cO "least_grown" 339 "least_grown" 340 341 55 2 3 121 181 122 .none .none 123 342 343) ::
  (nat_lit 125,fO qay "least_grown" "least_grown" "cutyard.first" 272 124) ::
(nat_lit 131,cO "stopping_row" 345 "stopping_row" 346 347 58 4 3 126 181 127 (.ref 128) (.ref 129) 130 358 359) ::
  (nat_lit 132,fO qbi "stopping_row" "stopping_row" "cutyard.first" 272 131) ::
(nat_lit 136,cO "moved" 361 "moved" 362 363 71 5 3 133 181 134 .none .none 135 364 365) ::
  (nat_lit 137,fO qdp "moved" "moved" "cutyard.first" 272 136) ::
(nat_lit 141,cO "exchanged" 367 "exchanged" 368 369 73 4 3 138 181 139 .none .none 140 370 371) ::
  (nat_lit 142,fO qbf "exchanged" "exchanged" "cutyard.first" 272 141) ::
(nat_lit 146,cO "fallen" 373 "fallen" 374 375 89 2 3 143 181 144 .none .none 145 376 377) ::
  (nat_lit 147,fO qcw "fallen" "fallen" "cutyard.first" 272 146) ::
(nat_lit 151,cO "in_lowest" 379 "in_lowest" 380 381 91 2 3 148 181 149 .none .none 150 382 383) ::
  (nat_lit 152,fO qbh "in_lowest" "in_lowest" "cutyard.first" 272 151) ::
(nat_lit 158,cO "none_ending" 385 "none_ending" 386 387 94 3 3 153 181 154 (.ref 155) (.ref 156) 157 392 393) ::
  (nat_lit 159,fO qbq "none_ending" "none_ending" "cutyard.first" 272 158) ::
(nat_lit 165,cO "best_ending" 395 "best_ending" 396 397 97 2 3 160 181 161 (.ref 162) (.ref 163) 164 401 402) ::
  (nat_lit 166,fO qbr "best_ending" "best_ending" "cutyard.first" 272 165) ::
(nat_lit 170,cO "endless_ending" 404 "endless_ending" 405 406 100 2 3 167 181 168 .none .none 169 407 408) ::
  (nat_lit 171,fO qaY "endless_ending" "endless_ending" "cutyard.first" 272 170) ::
(nat_lit 177,cO "next_step" 410 "next_step" 411 412 103 4 3 172 181 173 (.ref 174) (.ref 175) 176 421 422) ::
  (nat_lit 178,fO qbZ "next_step" "next_step" "cutyard.first" 272 177) ::
(nat_lit 184,cO "walk_on" 424 "walk_on" 425 426 119 4 3 179 181 180 (.ref 181) (.ref 182) 183 433 434) ::
  (nat_lit 185,fO qcI "walk_on" "walk_on" "cutyard.first" 272 184) ::
(nat_lit 191,cO "walk" 436 "walk" 437 438 127 2 3 186 181 187 (.ref 188) (.ref 189) 190 441 442) ::
  (nat_lit 192,fO qgC "walk" "walk" "cutyard.first" 272 191) ::
(nat_lit 198,cO "first" 444 "first" 445 446 129 2 3 193 181 194 (.ref 195) (.ref 196) 197 449 450) ::
  (nat_lit 199,fO qeF "first" "first" "cutyard.first" 272 198) ::
(nat_lit 203,cO "summed" 454 "summed" 455 456 132 2 3 200 181 201 .none .none 202 457 458) ::
  (nat_lit 204,fO qcH "summed" "summed" "cutyard.ways" 452 203) ::
(nat_lit 208,cO "divided" 460 "divided" 461 462 134 1 3 205 181 206 .none .none 207 463 464) ::
  (nat_lit 209,fO qbP "divided" "divided" "cutyard.ways" 452 208) ::
(nat_lit 213,cO "ask_still" 466 "ask_still" 467 468 139 2 3 210 181 211 .none .none 212 469 470) ::
  (nat_lit 214,fO qa8 "ask_still" "ask_still" "cutyard.ways" 452 213) ::
(nat_lit 220,cO "inner" 472 "inner" 473 474 143 1 3 215 181 216 (.ref 217) (.ref 218) 219 483 484) ::
  (nat_lit 221,fO qeQ "inner" "inner" "cutyard.ways" 452 220) ::
(nat_lit 227,cO "_law_mixed" 488 "_law_mixed" 489 490 158 2 3 222 181 223 (.ref 224) (.ref 225) 226 494 495) ::
  (nat_lit 228,fO qbG "_law_mixed" "_law_mixed" "law_cutyard_k39_whole_inner" 486 227) ::
(nat_lit 234,cO "_law_draws" 497 "_law_draws" 498 499 161 3 3 229 181 230 (.ref 231) (.ref 232) 233 509 510) ::
  (nat_lit 235,fO qbF "_law_draws" "_law_draws" "law_cutyard_k39_whole_inner" 486 234) ::
(nat_lit 241,cO "_law_whole" 512 "_law_whole" 513 514 177 1 3 236 181 237 (.ref 238) (.ref 239) 240 516 517) ::
  (nat_lit 242,fO qbH "_law_whole" "_law_whole" "law_cutyard_k39_whole_inner" 486 241) ::
(nat_lit 246,cO "_law_wholes" 519 "_law_wholes" 520 521 179 2 3 243 181 244 .none .none 245 522 523) ::
  (nat_lit 247,fO qba "_law_wholes" "_law_wholes" "law_cutyard_k39_whole_inner" 486 246) ::
(nat_lit 251,cO "_law_times" 525 "_law_times" 526 527 181 2 3 248 181 249 .none .none 250 528 529) ::
  (nat_lit 252,fO qbm "_law_times" "_law_times" "law_cutyard_k39_whole_inner" 486 251) ::
(nat_lit 256,cO "_law_entries" 531 "_law_entries" 532 533 183 2 3 253 181 254 .none .none 255 534 535) ::
  (nat_lit 257,fO qaL "_law_entries" "_law_entries" "law_cutyard_k39_whole_inner" 486 256) ::
(nat_lit 261,cO "_law_bound" 537 "_law_bound" 538 539 197 3 3 258 181 259 .none .none 260 540 541) ::
  (nat_lit 262,fO qbl "_law_bound" "_law_bound" "law_cutyard_k39_whole_inner" 486 261) ::
(nat_lit 266,cO "_law_tied" 543 "_law_tied" 544 545 200 3 3 263 181 264 .none .none 265 546 547) ::
  (nat_lit 267,fO qaU "_law_tied" "_law_tied" "law_cutyard_k39_whole_inner" 486 266) ::
(nat_lit 273,cO "law" 549 "law" 550 551 214 1 3 268 181 269 (.ref 270) (.ref 271) 272 561 562) ::
  (nat_lit 274,fO qje "law" "law" "law_cutyard_k39_whole_inner" 486 273)::[]
end Kx
def PySem.W.Fast.tw18432808511379111894:=PySem.Challenge.pw_cutyard_k39_whole_inner
theorem PySem.W.Fast.te18432808511379111894:PySem.Challenge.pw_cutyard_k39_whole_inner=PySem.W.Fast.tw18432808511379111894:=rfl
def PySem.W.Fast.tw5385739360559341639:=Kx.KK
theorem PySem.W.Fast.te5385739360559341639:Kx.KK=PySem.W.Fast.tw5385739360559341639:=rfl
theorem PySem.W.Fast.tw10415965861396777596:True:=trivial
theorem PySem.W.Fast.tw11087305781196649613:True:=trivial
theorem PySem.W.Fast.tw12114431995125702391:True:=trivial
theorem PySem.W.Fast.tw13414449288256768162:True:=trivial
theorem PySem.W.Fast.tw14846868033651258005:True:=trivial
theorem PySem.W.Fast.tw16033827365321421539:True:=trivial
theorem PySem.W.Fast.tw16222443494527173419:True:=trivial
theorem PySem.W.Fast.tw16362853570773972384:True:=trivial
theorem PySem.W.Fast.tw16365528554454599415:True:=trivial
theorem PySem.W.Fast.tw16661476429615023059:True:=trivial
theorem PySem.W.Fast.tw1820266456161069870:True:=trivial
theorem PySem.W.Fast.tw18290217060436623862:True:=trivial
theorem PySem.W.Fast.tw2718944324847076301:True:=trivial
theorem PySem.W.Fast.tw4264339851458876423:True:=trivial
theorem PySem.W.Fast.tw6434917205934874894:True:=trivial
theorem PySem.W.Fast.tw7830497490145801458:True:=trivial
theorem PySem.W.Fast.tw8663768646649789785:True:=trivial
theorem PySem.W.Fast.tw8997031243840370180:True:=trivial
theorem PySem.W.Fast.tw9410018322231232182:True:=trivial
theorem PySem.W.Fast.tw9949996464310402920:True:=trivial
open PySem PySem.W PyProof.Rows
set_option maxRecDepth 100000 in
set_option maxHeartbeats 0 in
theorem PySem.Challenge.cw_cutyard_k39_whole_inner_holds : PySem.Challenge.rw_cutyard_k39_whole_inner.Holds := by
  w_on;o_law;o_head (kmHook Kx.KK (2::3::45::46::52::53::57::58::62::63::69::70::74::75::88::89::90::91::92::93::94::100::101::105::106::112::113::119::120::124::125::131::132::136::137::141::142::146::147::151::152::158::159::165::166::170::171::177::178::184::185::191::192::198::199::203::204::208::209::213::214::220::221::227::228::234::235::241::242::246::247::251::252::256::257::261::262::266::267::273::274::[]) (fun _=>by kernel_rfl) [122]);(case hw=>w_witness2)
  k_fill
  refine Kx.walk (l:=PySem.Challenge.rw_cutyard_k39_whole_inner) rfl rfl (fun w h Y=>PySem.W.km_in_of Y) ?tabT ?tabN ?F
  case tabT =>
    intro w h Y
    have KX:=PySem.W.km_in_of Y
    refine' Kx.tabs_in KX (Kx.tabs_is ?ta9 ?tl9 ?tx9 ?tq9 ?tr9 ?tg9) ?tq9 ?tr9 ?tn9 ?tm9
    (case ta9=>k_is);(case tl9=>k_is);(case tx9=>rfl);(case tq9=>k_is);(case tr9=>rfl);(case tg9=>k_is)
    (case tn9=>kernel_rfl);(case tm9=>exact PySem.W.km_tabs_of Y _ (by simp))
  case tabN =>
    intro w
    refine' Kx.tabs_nd (Kx.tabs_is ?ta9 ?tl9 ?tx9 ?tq9 ?tr9 ?tg9)
    (case ta9=>k_is);(case tl9=>k_is);(case tx9=>rfl);(case tq9=>k_is);(case tr9=>rfl);(case tg9=>k_is)
  case F =>
    intro w mg fa h KX G hmg
    refine' Kx.all_mk KX G hmg ?aC_Stand ?a1 ?a2 ?a3 ?a4 ?a5 ?a6 ?a7 ?a8 ?a9 ?a10 ?a11 ?l11 ?c11 ?k11 ?lx11 ?lq11 ?lr11 ?lv11 ?lyg ?a12 ?a13 ?a14 ?a15 ?a16 ?a17 ?a18 ?a19 ?a20 ?a21 ?a22 ?a23 ?a24 ?a25 ?a26 ?a27 ?a28 ?a29 ?a30 ?a31 ?a32 ?a33 ?a34 ?a35 ?a36 ?a37 ?i37 ?l37 ?c37 ?k37 ?pg_Stand ?hd_Stand ?po_Stand ?sa_Stand ?mk_Stand ?kc_Stand ?n_Stand_held ?n_Stand_ways ?n_Stand_tops ?n_Stand_bottom ?y_abs ?y_tuple ?y_range ?y_len ?y_sum ?y_zip ?y_min ?y_sorted ?y_enumerate ?y_isinstance ?y_int ?y_bool ?y_all ?y_max ?y_any ?y_list
    (case aC_Stand=>k_is);(case pg_Stand=>k_is);(case hd_Stand=>k_is);(case po_Stand=>k_is);(case sa_Stand=>k_is);(case mk_Stand=>k_is);(case kc_Stand=>k_is);(case n_Stand_held=>k_is);(case n_Stand_ways=>k_is);(case n_Stand_tops=>k_is);(case n_Stand_bottom=>k_is)
    (case a11=>k_is);(case l11=>k_is);(case c11=>k_is);(case k11=>k_is)
    (case lx11=>rfl);(case lq11=>k_is);(case lr11=>rfl);(case lv11=>kernel_rfl);(case lyg=>k_is)
    (case a37=>k_is);(case i37=>k_is);(case l37=>k_is);(case c37=>k_is);(case k37=>k_is)
    (case y_abs=>k_is)
    (case y_tuple=>k_is)
    (case y_range=>k_is)
    (case y_len=>k_is)
    (case y_sum=>k_is)
    (case y_zip=>k_is)
    (case y_min=>k_is)
    (case y_sorted=>k_is)
    (case y_enumerate=>k_is)
    (case y_isinstance=>k_is)
    (case y_int=>k_is)
    (case y_bool=>k_is)
    (case y_all=>k_is)
    (case y_max=>k_is)
    (case y_any=>k_is)
    (case y_list=>k_is)
    all_goals (refine' L2.Has.of ?a ?l ?c;(case a=>k_is);(case l=>k_is);(case c=>k_is))

