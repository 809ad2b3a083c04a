import PyProof.Rows.All
import Wide.All
import OpenK.AllK
import Wide.FinOn
import Lean
import PyProof.EqAt
import PyProof.EqKinds
import PyProof.TupleCall
import PyProof.NeKinds
import KE.KLam
import KE.KMinKey
import KE.KSortTup
import PyProof.AutoListH
import PyProof.MeetsStr
import PyProof.StrLawsJoin
import PyProof.FitsReplace
import PyProof.Rows.TupDisplay
import PyProof.ListRange
import PySem.Challenge.RW_cutyard_k23_whole_verdicts_exclude
set_option Elab.async false
set_option linter.all false
set_option maxRecDepth 100000
namespace L2
open PySem PySem.Spec PyProof.Rows
abbrev Key:=Sum Int Str
def qmk:Key→Value→Bool
  | .inl k,v=>Value.isInt k v
  | .inr x,v=>Value.isStrOf x v
def qox (w:World):Key→Int
  | .inl k=>hashInt k
  | .inr x=>hashStr w x
theorem qbl:∀ {k:Key} {v:Value},qmk k v=true→(∃ i t,k=Sum.inl i∧v=Value.int i t)∨(∃ x t,k=Sum.inr x∧v=Value.str x t)
  | .inl i,v,h=>by
    obtain ⟨t,e⟩:=Value.isInt_shape (k:=i) (v:=v) h
    exact .inl ⟨i,t,rfl,e⟩
  | .inr x,v,h=>by
    obtain ⟨t,e⟩:=Value.isStrOf_shape (x:=x) (v:=v) h
    exact .inr ⟨x,t,rfl,e⟩
theorem qmn (a b:Int):decide ((Sum.inl a:Key)=Sum.inl b)=(a == b):=by
  by_cases e:a=b
  · subst e;simp
  · have h:¬ (Sum.inl a:Key)=Sum.inl b:=fun q=>e (Sum.inl.inj q)
    rw [decide_eq_false h]
    exact (beq_eq_false_iff_ne.mpr e).symm
theorem qlZ (a b:Str):decide ((Sum.inr a:Key)=Sum.inr b)=decide (a=b):=by
  by_cases e:a=b
  · subst e;simp
  · have h:¬ (Sum.inr a:Key)=Sum.inr b:=fun q=>e (Sum.inr.inj q)
    rw [decide_eq_false h,decide_eq_false e]
theorem qmf (a:Int) (b:Str):decide ((Sum.inl a:Key)=Sum.inr b)=false:=decide_eq_false (fun q=>nomatch q)
theorem ql8 (a:Str) (b:Int):decide ((Sum.inr a:Key)=Sum.inl b)=false:=decide_eq_false (fun q=>nomatch q)
def qgn (prog:Program) (w:World):PySem.KeyKind prog w Key where
  is:=qmk
  hash:=qox w
  inj:=fun v a b ha hb=>by
    rcases qbl ha with ⟨i,t,rfl,rfl⟩ | ⟨x,t,rfl,rfl⟩
    · rcases qbl hb with ⟨j,u,rfl,e⟩ | ⟨y,u,rfl,e⟩
      · injection e with e1 _;rw [e1]
      · exact nomatch e
    · rcases qbl hb with ⟨j,u,rfl,e⟩ | ⟨y,u,rfl,e⟩
      · exact nomatch e
      · injection e with e1 _;rw [e1]
  byValue:=fun k v h=>by
    rcases qbl h with ⟨i,t,rfl,rfl⟩ | ⟨x,t,rfl,rfl⟩ <;> rfl
  pyHash:=fun hv h=>by
    rcases qbl hv with ⟨i,t,rfl,rfl⟩ | ⟨x,t,rfl,rfl⟩
    · exact wpAny_pyHash_int h
    · exact wpAny_pyHash_str h
  eqBool:=fun hu hv h=>by
    rcases qbl hu with ⟨i,t,rfl,rfl⟩ | ⟨x,t,rfl,rfl⟩
    · rcases qbl hv with ⟨j,u,rfl,rfl⟩ | ⟨y,u,rfl,rfl⟩
      · rw [qmn] at h;exact wpAny_eqBool_int h
      · rw [qmf] at h;exact SeqAt.EqAt.int_str i t y u _ _ _ _ h
    · rcases qbl hv with ⟨j,u,rfl,rfl⟩ | ⟨y,u,rfl,rfl⟩
      · rw [ql8] at h;exact SeqAt.EqAt.str_int x t j u _ _ _ _ h
      · rw [qlZ] at h;exact wpAny_eqBool_str h
  «strs»:=fun k x t v h=>by
    rcases qbl h with ⟨i,u,rfl,e⟩ | ⟨y,u,rfl,e⟩
    · exact nomatch e
    · injection e with e1 _
      subst e1
      cases v <;> rfl
inductive V where
  | non | bl (b:Bool) | int (i:Int) | str (x:Str) | byt (b:Array UInt8) | flt (b:UInt64) | ref (a:Addr) | ty (n:String)
  deriving DecidableEq
def RelV:V→Value→Prop
  | .non,u=>u=Value.none
  | .bl b,u=>u=Value.bool b
  | .int i,u=>∃ t,u=Value.int i t
  | .str x,u=>∃ t,u=Value.str x t
  | .byt b,u=>∃ t,u=Value.bytes b t
  | .flt b,u=>∃ t,u=Value.float b t
  | .ref a,u=>u=Value.ref a
  | .ty n,u=>u=Value.type n
abbrev Vals:List V→List Value→Prop:=Paired RelV
theorem Vals.length {xs:List V} {us:List Value} (r:Vals xs us):xs.length=us.length:=Paired.length r
theorem Vals.get:∀ {xs:List V} {us:List Value} {i:Nat} {x:V},Vals xs us→xs[i]?=some x→∃ u,us[i]?=some u∧RelV x u
  | _,_,_,_,.nil,e=>by simp at e
  | _,_,0,_,.cons r _,e=>by simp at e;subst e;exact ⟨_,rfl,r⟩
  | _,_,i+1,x,.cons _ t,e=>by
    obtain ⟨u,h1,h2⟩:=Vals.get (i:=i) (x:=x) t (by simpa using e)
    exact ⟨u,by simpa using h1,h2⟩
theorem Vals.set {x:V} {u:Value} (r:RelV x u):∀ {xs:List V} {us:List Value} (i:Nat),Vals xs us→Vals (xs.set i x) (us.set i u)
  | _,_,_,.nil=>.nil
  | _,_,0,.cons _ t=>.cons r t
  | _,_,i+1,.cons q t=>.cons q (Vals.set r i t)
theorem Vals.append:∀ {xs ys:List V} {us ws:List Value},Vals xs us→Vals ys ws→Vals (xs++ys) (us++ws)
  | _,_,_,_,.nil,s=>s
  | _,_,_,_,.cons r t,s=>.cons r (Vals.append t s)
theorem Vals.take:∀ {xs:List V} {us:List Value} (n:Nat),Vals xs us→Vals (xs.take n) (us.take n)
  | _,_,0,_=>.nil
  | _,_,_+1,.nil=>.nil
  | _,_,n+1,.cons r t=>.cons r (Vals.take n t)
theorem Vals.drop:∀ {xs:List V} {us:List Value} (n:Nat),Vals xs us→Vals (xs.drop n) (us.drop n)
  | _,_,0,r=>r
  | _,_,_+1,.nil=>.nil
  | _,_,n+1,.cons _ t=>Vals.drop n t
def RelO:Option V→Option Value→Prop
  | some v,some u=>RelV v u
  | none,none=>True
  | _,_=>False
def KV {κ:Type}:List (κ × V)→List (κ × Value)→Prop:=Paired fun (p:κ × V) (q:κ × Value)=>p.1=q.1∧RelV p.2 q.2
def kV:Key→V
  | .inl i=>.int i
  | .inr x=>.str x
inductive HO where
    | lst (xs:List V)
    | tup (xs:List V)
    | dK (kvs:List (Key × V)) | dT (kvs:List (List Key × V))
    | set (S:Int→Bool) (n:Nat)
    | ins (C dx:Addr) (fs:List (Str × V))
    | own (x:Addr)
    | xd (fs:List (Str × V))
    | met (f x:Addr)
    | rng (lo hi:Int)
    | frz (o:Obj) (u:HO)
    | tbl (ps:Array Value)
    | ext (φ:Heap→Prop)
abbrev Hp:=Addr→Option HO
def upd (H:Hp) (a:Addr) (o:HO):Hp:=fun b=>if b=a then some o else H b
theorem qan {H:Hp} {a:Addr} {o:HO}:upd H a o a=some o:=by unfold upd;rw [if_pos rfl]
theorem qaA {H:Hp} {a b:Addr} {o:HO} (h:b≠a):upd H a o b=H b:=by unfold upd;rw [if_neg h]
theorem qmX {H:Hp} {a b:Addr} {o u:HO} (h:H a=some o) (h':H b=some u) (d:o≠u):a≠b:=by
  intro e;subst e;rw [h] at h';exact d (Option.some.inj h')
theorem qaE {H:Hp} {a b:Addr} {o:HO} (h:H a=some o) (h':H b=none):a≠b:=by
  intro e;subst e;rw [h] at h';cases h'
section
variable (P : Program) (w : World)
def ObjOk (H:Hp) (h:Heap) (a:Addr):HO→Prop
  | .lst xs=>xs.length≤sizeLine∧∃ (its:List Value) (n:Nat),Vals xs its∧h.get? a=some { cls:=.type "list",data:=.seq its.toArray n }
  | .tup xs=>xs.length≤sizeLine∧∃ its:List Value,Vals xs its∧IsTup h a its.toArray
  | .dK kvs=>kvs.length≤sizeLine∧(a == sysModules)=false∧∃ vs,KV kvs vs∧h.DictOf (qgn P w) a vs
  | .dT kvs=>kvs.length≤sizeLine∧(a == sysModules)=false∧∃ xs:List (List Key × Addr × Value),
      Paired (fun (p:List Key × V) (q:List Key × Addr × Value)=>p.1=q.1∧H q.2.1=some (.tup (p.1.map kV))∧RelV p.2 q.2.2) kvs xs ∧
      ∃ o es ep,h.get? a=some o∧o.ExactDict∧o.data=.dict es ep∧es.toList=xs.map (entryOfKey (tupleKind (qgn P w)))∧(xs.map (·.1)).Nodup
  | .set S n=>h.SetOf (intKind P w) a S n
  | .ins C dx fs=>H dx=some (.own a)∧fs.length≤1000∧dx≠a∧h.get? a=some (PySem.W.instObj C dx) ∧
      ∃ mA,h.Ns1 dx mA∧(∀ f,RelO (fs.lookup f) (mA f))∧PySem.Within mA (fs.map (·.1))
  | .own _=>∃ o,h.get? a=some o
  | .xd fs=>∃ mA,h.Ns1 a mA∧∀ f,RelO (fs.lookup f) (mA f)
  | .rng lo hi=>∃ t u v,h.get? a=some { cls:=.type "range",data:=.fields #[.int lo t,.int hi u,.int 1 v] }
  | .frz o u=>h.get? a=some o∧ObjOk H h a u
  | .tbl ps=>h.get? a=some { cls:=.none,data:=.fields #[] }∨∃ (c:Addr) (o:Obj) (vs:Array Value) (x y:Value) (q:Str) (t t':Tok),ps=#[x,y,.str q t]∧H c=some (.frz o (.own a)) ∧
      h.get? a=some { cls:=.none,data:=.fields #[x,y,.ref c] }∧o.data=.fields vs∧vs[1]?=some (.str q t')
  | .met f x=>h.get? a=some (PySem.W.methodObj (.ref f) (.ref x))
  | .ext φ=>φ h∧(∃ o,h.get? a=some o)∧∀ h1 h2:Heap,φ h1→(∀ o,h1.get? a=some o→h2.get? a=some o)→φ h2
def HOk (H:Hp) (h:Heap):Prop:=∀ a o,H a=some o→ObjOk P w H h a o
end
section
variable {P : Program} {w : World} {H H' : Hp} {h h' : Heap} {a : Addr} {o : HO}
theorem ObjOk.lt (x:ObjOk P w H h a o):a<h.objs.size:=by
  cases o with
  | lst xs=>obtain ⟨_,_,_,_,e⟩:=x;exact Heap.lt_size e
  | tup xs=>obtain ⟨_,_,_,p⟩:=x;exact p.lt
  | dK kvs=>obtain ⟨_,_,_,_,o,_,_,e,_⟩:=x;exact Heap.lt_size e
  | dT kvs=>obtain ⟨_,_,_,_,o,_,_,e,_⟩:=x;exact Heap.lt_size e
  | set S n=>obtain ⟨o,_,_,_,e,_⟩:=x;exact Heap.lt_size e
  | ins C dx fs=>obtain ⟨_,_,_,e,_⟩:=x;exact Heap.lt_size e
  | own y=>obtain ⟨_,e⟩:=x;exact Heap.lt_size e
  | xd fs=>obtain ⟨_,⟨_,_,_,e,_⟩,_⟩:=x;exact Heap.lt_size e
  | rng lo hi=>obtain ⟨_,_,_,e⟩:=x;exact Heap.lt_size e
  | frz ob u=>obtain ⟨e,_⟩:=x;exact Heap.lt_size e
  | tbl ps=>rcases x with x | ⟨_,_,_,_,_,_,_,_,_,_,x,_⟩ <;> exact Heap.lt_size x
  | met f y=>exact Heap.lt_size (show h.get? a=some _ from x)
  | ext φ=>obtain ⟨_,⟨_,e⟩,_⟩:=x;exact Heap.lt_size e
theorem Paired.mapP {α β:Type} {F G:α→β→Prop}:∀ {l₁:List α} {l₂:List β},Paired F l₁ l₂→(∀ a b,F a b→G a b)→Paired G l₁ l₂
  | _,_,.nil,_=>.nil
  | _,_,.cons r t,f=>.cons (f _ _ r) (Paired.mapP t f)
theorem ObjOk.stay (x:ObjOk P w H h a o) (k:∀ b u,(b=a∨H b=some (.own a))→h.get? b=some u→h'.get? b=some u)
    (ho:∀ b,H b=some (.own a)→H' b=some (.own a)) (ht:∀ b xs,H b=some (.tup xs)→H' b=some (.tup xs)) (hf:∀ b o u,H b=some (.frz o u)→H' b=some (.frz o u)):ObjOk P w H' h' a o:=by
  induction o with
  | lst xs=>obtain ⟨z,its,n,r,e⟩:=x;exact ⟨z,its,n,r,k _ _ (.inl rfl) e⟩
  | tup xs=>obtain ⟨z,its,r,ob,e,c⟩:=x;exact ⟨z,its,r,ob,k _ _ (.inl rfl) e,c⟩
  | dK kvs=>obtain ⟨z,y,vs,r,ob,es,ep,e,c⟩:=x;exact ⟨z,y,vs,r,ob,es,ep,k _ _ (.inl rfl) e,c⟩
  | dT kvs =>
    obtain ⟨z,y,xs,r,ob,es,ep,e,c⟩:=x
    exact ⟨z,y,xs,Paired.mapP r fun p q z=>⟨z.1,ht _ _ z.2.1,z.2.2⟩,ob,es,ep,k _ _ (.inl rfl) e,c⟩
  | set S n=>obtain ⟨ob,es,ep,t,e,c⟩:=x;exact ⟨ob,es,ep,t,k _ _ (.inl rfl) e,c⟩
  | ins C dx fs =>
    obtain ⟨d,z,ne,e,mA,⟨od,es,ep,e2,c⟩,r⟩:=x
    exact ⟨ho _ d,z,ne,k _ _ (.inl rfl) e,mA,⟨od,es,ep,k _ _ (.inr d) e2,c⟩,r⟩
  | own y=>obtain ⟨ob,e⟩:=x;exact ⟨ob,k _ _ (.inl rfl) e⟩
  | xd fs=>obtain ⟨mA,⟨od,es,ep,e,c⟩,r⟩:=x;exact ⟨mA,⟨od,es,ep,k _ _ (.inl rfl) e,c⟩,r⟩
  | rng lo hi=>obtain ⟨t,u,v,e⟩:=x;exact ⟨t,u,v,k _ _ (.inl rfl) e⟩
  | frz ob u ih=>obtain ⟨e,q⟩:=x;exact ⟨k _ _ (.inl rfl) e,ih q⟩
  | tbl ps =>
    rcases x with x | ⟨c,o,vs,y,z,q,t,t',e1,e2,e3,e4⟩
    · exact .inl (k a _ (.inl rfl) x)
    · exact .inr ⟨c,o,vs,y,z,q,t,t',e1,hf _ _ _ e2,k a _ (.inl rfl) e3,e4⟩
  | met f y =>
    have e:h.get? a=some (PySem.W.methodObj (.ref f) (.ref y)):=x
    show h'.get? a=some (PySem.W.methodObj (.ref f) (.ref y))
    exact k a _ (.inl rfl) e
  | ext φ=>obtain ⟨p,⟨o,e⟩,st⟩:=x;exact ⟨st _ _ p fun o q=>k _ _ (.inl rfl) q,⟨o,k _ _ (.inl rfl) e⟩,st⟩
theorem HOk.lt (x:HOk P w H h) (e:H a=some o):a<h.objs.size:=(x a o e).lt
theorem HOk.fresh (x:HOk P w H h) (e:h.objs.size≤a):H a=none:=by
  cases q:H a with
  | none=>rfl
  | some u=>exact absurd (Nat.lt_of_lt_of_le (x.lt q) e) (Nat.lt_irrefl _)
theorem HOk.kept (x:HOk P w H h) (k:∀ b u,h.get? b=some u→h'.get? b=some u):HOk P w H h':=fun a o e =>
  (x a o e).stay (fun b u _ q=>k b u q) (fun _ q=>q) (fun _ _ q=>q) fun _ _ _ q=>q
theorem HOk.laid (x:HOk P w H h) (k:∀ b u,h.get? b=some u→h'.get? b=some u) (hp:h.objs.size≤a) (new:ObjOk P w (upd H a o) h' a o):HOk P w (upd H a o) h':=fun b u e=>by
  have hn:=x.fresh hp
  by_cases hb:b=a
  · subst hb;rw [qan] at e;cases e;exact new
  · rw [qaA hb] at e
    exact (x b u e).stay (fun c v _ q=>k c v q) (fun c q=>by rw [qaA (qaE q hn)];exact q) (fun c xs q=>by rw [qaA (qaE q hn)];exact q) fun c ob w' q=>by rw [qaA (qaE q hn)];exact q
end
def Rd (H:Hp) (a:Addr) (u:HO):Prop:=H a=some u∨∃ o,H a=some (.frz o u)
theorem Rd.ok {P:Program} {w:World} {H:Hp} {h:Heap} {a:Addr} {u:HO} (r:Rd H a u) (x:HOk P w H h):ObjOk P w H h a u:=by
  rcases r with r | ⟨o,r⟩
  · exact x a u r
  · obtain ⟨_,q⟩:=x a _ r
    exact q
def Mut:Option HO→Prop
  | some (.lst _)=>True
  | some (.dK _)=>True
  | some (.dT _)=>True
  | some (.set _ _)=>True
  | some (.ins _ _ _)=>True
  | some (.ext _)=>True
  | _=>False
section
variable {P : Program} {w : World} {H : Hp} {h h' : Heap} {x e : Addr} {o' : HO}
theorem HOk.write (ok:HOk P w H h) (mu:Mut (H x)) (he:e=x∨H e=some (.own x)) (k:∀ b u,b≠e→h.get? b=some u→h'.get? b=some u) (heo:∃ u,h'.get? e=some u)
    (new:ObjOk P w (upd H x o') h' x o'):HOk P w (upd H x o') h':=fun b u q=>by
  have nown:∀ c y,H c=some (.own y)→c≠x:=fun c y r z=>by subst z;rw [r] at mu;exact mu
  have ntup:∀ c xs,H c=some (.tup xs)→c≠x:=fun c xs r z=>by subst z;rw [r] at mu;exact mu
  have nfrz:∀ c ob w',H c=some (.frz ob w')→c≠x:=fun c ob w' r z=>by subst z;rw [r] at mu;exact mu
  by_cases hb:b=x
  · subst hb;rw [qan] at q;cases q;exact new
  · rw [qaA hb] at q
    by_cases hbe:b=e
    · have q':H b=some (.own x):=by
        rcases he with z | z
        · exact absurd (hbe.trans z) hb
        · rw [hbe];exact z
      rw [q] at q';cases q'
      obtain ⟨v,hv⟩:=heo
      exact ⟨v,by rw [hbe];exact hv⟩
    · refine (ok b u q).stay (fun c v hc r=>k c v ?_ r) (fun c r=>by rw [qaA (nown c b r)];exact r) (fun c xs r=>by rw [qaA (ntup c xs r)];exact r) fun c ob w' r=>by rw [qaA (nfrz c ob w' r)];exact r
      rcases hc with rfl | hc
      · exact hbe
      · rintro rfl
        rcases he with z | z
        · exact nown c b hc z
        · rw [hc] at z;cases z;exact hb rfl
end
structure Un (fs ex:List Addr) (H H':Hp) (h h':Heap):Prop where
  keep:∀ b o,h.get? b=some o→H b=none→b∉fs→b∉ex→h'.get? b=some o
  slot:∀ b o,h.get? b=some o→H b=none→b∈fs→b∉ex→∃ sl,h'.get? b=some { o with slots:=sl }
  free:∀ b o,h.get? b=some o→H b=none→b∉ex→H' b=none
  there:∀ b o,h.get? b=some o→b∉ex→∃ o',h'.get? b=some o'
  tups:∀ b xs,H b=some (.tup xs)→H' b=some (.tup xs)
  frzs:∀ b o u,H b=some (.frz o u)→H' b=some (.frz o u)
  tbls:∀ b ps,H b=some (.tbl ps)→H' b=some (.tbl ps)
section
variable {fs fs' ex ex' : List Addr} {H H1 H2 : Hp} {h h1 h2 h' : Heap} {a x e : Addr} {o : HO}
theorem Un.any (u:Un fs ex H H1 h h1) {b:Addr} {ob:Obj} (q:h.get? b=some ob) (n:H b=none) (hx:b∉ex):∃ sl,h1.get? b=some { ob with slots:=sl }:=by
  by_cases hb:b∈fs
  · exact u.slot b ob q n hb hx
  · exact ⟨ob.slots,u.keep b ob q n hb hx⟩
theorem Un.kept (k:∀ b u,h.get? b=some u→h'.get? b=some u):Un fs ex H H h h' :=
  ⟨fun b ob q _ _ _=>k b ob q,fun b ob q _ _ _=>⟨ob.slots,k b ob q⟩,fun _ _ _ n _=>n,fun b ob q _=>⟨ob,k b ob q⟩,fun _ _ q=>q,fun _ _ _ q=>q,fun _ _ q=>q⟩
theorem Un.refl:Un fs ex H H h h:=Un.kept fun _ _ q=>q
theorem Un.laid (k:∀ b u,h.get? b=some u→h'.get? b=some u) (hp:h.objs.size≤a) (hn:H a=none):Un fs ex H (upd H a o) h h' where
  keep:=fun b u q _ _ _=>k b u q
  slot:=fun b u q _ _ _=>⟨u.slots,k b u q⟩
  free:=fun b u q n _=>by rw [qaA (Nat.ne_of_lt (Nat.lt_of_lt_of_le (Heap.lt_size q) hp))];exact n
  there:=fun b u q _=>⟨u,k b u q⟩
  tups:=fun b xs q=>by rw [qaA (qaE q hn)];exact q
  frzs:=fun b u xs q=>by rw [qaA (qaE q hn)];exact q
  tbls:=fun b ps q=>by rw [qaA (qaE q hn)];exact q
theorem Un.write (mu:Mut (H x)) (he:e=x∨H e=some (.own x)) (k:∀ b u,b≠e→h.get? b=some u→h'.get? b=some u) (heo:∃ u,h'.get? e=some u):Un fs ex H (upd H x o) h h':=by
  have hx:∀ b,H b=none→b≠x:=fun b n z=>by subst z;rw [n] at mu;exact mu
  have hb:∀ b,H b=none→b≠e:=fun b n z=>by
    subst z
    rcases he with r | r
    · exact hx b n r
    · rw [n] at r;cases r
  have hm:∀ b u,H b=some u→¬ Mut (some u)→b≠x:=fun b u q nm z=>by subst z;rw [q] at mu;exact nm mu
  refine ⟨fun b u q n _ _=>k b u (hb b n) q,fun b u q n _ _=>⟨u.slots,k b u (hb b n) q⟩,fun b u q n _=>by rw [qaA (hx b n)];exact n,fun b u q _=>?_,
    fun b xs q=>by rw [qaA (hm b _ q fun z=>z)];exact q,fun b u xs q=>by rw [qaA (hm b _ q fun z=>z)];exact q,fun b ps q=>by rw [qaA (hm b _ q fun z=>z)];exact q⟩
  by_cases hbe:b=e
  · subst hbe;exact heo
  · exact ⟨u,k b u hbe q⟩
end
def trk (h:Heap) (H:Hp):List Addr:=(List.range h.objs.size).filter fun a=>(H a).isSome
def qki (h:Heap) (H:Hp):Heap:=PySem.W.hideAll h (trk h H)
theorem qji (h:Heap) (H:Hp):(qki h H).objs.size=h.objs.size:=PySem.W.hideAll_size _ _
theorem qjy {h:Heap} {H:Hp} {b:Addr} {o:Obj} (e:h.get? b=some o) (n:H b=none):(qki h H).get? b=some o :=
  PySem.W.hideAll_get _ e fun hm=>by
    have q:(H b).isSome=true:=(List.mem_filter.mp hm).2
    rw [n] at q;simp at q
theorem qlu {h:Heap} {H:Hp} {b:Addr} {o:Obj} (e:(qki h H).get? b=some o):h.get? b=some o∧H b=none:=by
  have e':h.get? b=some o:=PySem.W.of_hideAll (trk h H) e
  refine ⟨e',?_⟩
  cases q:H b with
  | none=>rfl
  | some x =>
    have hm:b∈trk h H:=List.mem_filter.mpr ⟨List.mem_range.mpr (Heap.lt_size e'),by simp [q]⟩
    have z:(qki h H).get? b=none:=PySem.W.hideAll_none (trk h H) hm
    rw [z] at e;cases e
structure Mod (K:PySem.W.Frag) (mg:Str→Option Value) (base:Heap):Prop where
  kin:K.In base
  glob:base.Ns mainGlobals mg
  blt:∃ mb,base.Ns builtinsNs mb∧∀ x:Str,x≠"__name__"→mb x=bootBuiltins x
  nolimit:base.NoLimit
  bmod:∃ bm ob,mg "__builtins__"=some (.ref bm)∧bm≠builtinsNs∧base.get? bm=some ob∧ob.cls=.type "module"∧ob.dict=some builtinsNs∧ob.data=.plain
structure Cx where
  prog:Program
  w:World
  K:PySem.W.Frag
  mg:Str→Option Value
  base:Heap
  A:Around
  N:List Str
  s₀:Shared
  H₀:Hp
  env:Env
  outer:List Env
  stack:List Env
  ex:List Addr
  fn:Str→Bool
  calm:Bool
  pn:List (Addr × Obj)
  xe:Value→Shared→Prop
def frs (l:List Env):List Addr:=l.filterMap (·.frame)
abbrev Cx.fs (X:Cx):List Addr:=frs X.outer
def Vis (sc:Scope) (x:Str):Prop:=sc.names.lookup x=some .local∨sc.names.lookup x=some .cell∨sc.names.lookup x=some .free
def Loc (sc:Scope) (x:Str):Prop:=sc.names.lookup x=some .local∨sc.names.lookup x=some .cell
def qo8 (env:Env) (h:Heap) (m:Str→Option Value) (x:Str) (u:Value):Prop :=
  (env.kindOf x=some .local∧m x=some u)∨((env.kindOf x=some .cell∨env.kindOf x=some .free)∧∃ c,env.cells.lookup x=some c∧h.IsCell c (some u))
structure Cx.Ok (X:Cx):Prop where
  mod:Mod X.K X.mg X.base
  kind:X.env.scope.kind=.function
  glob:X.env.globals=mainGlobals
  blt:X.env.builtins=builtinsNs
  above:X.s₀.heap.objs.size≤X.env.locals
  inj:∀ x y c,X.env.cells.lookup x=some c→X.env.cells.lookup y=some c→x=y
  has:∀ x,(X.env.kindOf x=some .cell∨X.env.kindOf x=some .free)→∃ c,X.env.cells.lookup x=some c
  cab:∀ x c,X.fn x=true→X.env.cells.lookup x=some c→X.s₀.heap.objs.size≤c
  hd:X.calm=true→X.A.handled=none
  frames:X.A.frames=some X.stack
  stk:X.stack=X.outer∨(X.stack=X.env::X.outer∧X.env.frame=some X.env.locals)
  exf:∀ b∈X.ex,b≠X.env.locals∧∀ x c,X.env.cells.lookup x=some c→c≠b
  bs:∀ b o,X.base.get? b=some o→X.s₀.heap.get? b=some o∧X.H₀ b=none
  bsz:X.base.objs.size≤X.s₀.heap.objs.size
  noex:∀ b o,X.base.get? b=some o→b∉X.ex
  exfs:∀ b∈X.ex,b∉X.fs
  funs:X.s₀.heap.FunFrames X.base X.outer
  frf:∀ b∈X.fs,X.H₀ b=none
structure Inv (X:Cx) (pins:List (Addr × Obj)) (σ:List (Option V)) (H:Hp) (s:Shared):Prop where
  ok:X.Ok
  os:s.os=X.s₀.os
  bare:AllBare s.gens
  base:Un X.fs X.ex X.H₀ H X.s₀.heap s.heap
  loc:∃ m,s.heap.Ns X.env.locals m∧∀ (i:Nat) (x:Str) (v:V),X.N[i]?=some x→σ[i]?=some (some v)→Vis X.env.scope x→∃ u,RelV v u∧qo8 X.env s.heap m x u
  cell:∀ x c,X.env.cells.lookup x=some c→∃ v,s.heap.IsCell c v
  free:H X.env.locals=none
  freeC:∀ x c,X.env.cells.lookup x=some c→H c=none
  pin:∀ p∈X.pn++pins,s.heap.get? p.1=some p.2∧H p.1=none∧p.1≠X.env.locals∧p.1∉X.fs∧∀ v,p.2.data≠.cell v
  hok:HOk X.prog X.w H s.heap
  len:σ.length=X.N.length
section
variable {X : Cx} {pins : List (Addr × Obj)} {σ : List (Option V)} {H H' : Hp} {s : Shared} {h' : Heap}
theorem Cx.Ok.nofr (ok:X.Ok) {b:Addr} {o:Obj} (e:X.base.get? b=some o):b∉X.fs:=fun hb=>by
  have:=(ok.funs.mem hb).1
  rw [e] at this;cases this
theorem Inv.bs (I:Inv X pins σ H s):∀ b o,X.base.get? b=some o→s.heap.get? b=some o∧H b=none:=fun b o e =>
  ⟨I.base.keep b o (I.ok.bs b o e).1 (I.ok.bs b o e).2 (I.ok.nofr e) (I.ok.noex b o e),I.base.free b o (I.ok.bs b o e).1 (I.ok.bs b o e).2 (I.ok.noex b o e)⟩
theorem Inv.bk (I:Inv X pins σ H s):∀ b o,X.base.get? b=some o→s.heap.get? b=some o:=fun b o e=>(I.bs b o e).1
theorem Inv.mod (I:Inv X pins σ H s):Mod X.K X.mg X.base:=I.ok.mod
theorem Inv.kIn (I:Inv X pins σ H s):X.K.In s.heap:=I.ok.mod.kin.keeps I.bk
theorem Inv.lt (I:Inv X pins σ H s):X.env.locals<s.heap.objs.size:=let ⟨_,hn,_⟩:=I.loc;hn.lt
theorem Inv.sz (I:Inv X pins σ H s):X.s₀.heap.objs.size≤s.heap.objs.size:=Nat.le_trans I.ok.above (Nat.le_of_lt I.lt)
theorem Inv.nofs (I:Inv X pins σ H s) {a:Addr} (h:s.heap.objs.size≤a):a∉X.fs:=fun hb=>by
  obtain ⟨_,o,ho,_⟩:=I.ok.funs.mem hb
  exact absurd (Nat.lt_of_lt_of_le (Heap.lt_size ho) (Nat.le_trans I.sz h)) (Nat.lt_irrefl _)
theorem Inv.cne (I:Inv X pins σ H s):∀ x c,X.env.cells.lookup x=some c→c≠X.env.locals:=fun x c e z=>by
  obtain ⟨v,o,ho,hd⟩:=I.cell x c e
  obtain ⟨m,⟨o',es,ep,ho',hd',_⟩,_⟩:=I.loc
  rw [z,ho'] at ho;cases ho;rw [hd'] at hd;cases hd
theorem Inv.funs (I:Inv X pins σ H s):s.heap.FunFrames X.base X.outer:=by
  have all:∀ (l:List Env),(∀ b∈frs l,b∈X.fs)→X.s₀.heap.FunFrames X.base l→s.heap.FunFrames X.base l:=by
    intro l
    induction l with
    | nil=>intro _ _;trivial
    | cons env r ih =>
      intro hs hl
      obtain ⟨hk,⟨L,o,hf,hn,ho,hd⟩,hr⟩:=hl
      have hL:L∈X.fs:=hs L (by unfold frs;rw [List.filterMap_cons,hf];exact List.mem_cons_self)
      obtain ⟨sl,e⟩:=I.base.slot L o ho (I.ok.frf L hL) hL fun z=>I.ok.exfs L z hL
      exact ⟨hk,⟨L,_,hf,hn,e,hd⟩,ih (fun b hb=>hs b (by unfold frs;rw [List.filterMap_cons,hf];exact List.mem_cons_of_mem _ hb)) hr⟩
  exact all X.outer (fun _ hb=>hb) I.ok.funs
theorem Inv.stack (I:Inv X pins σ H s):s.heap.FunFrames X.base X.stack:=by
  rcases I.ok.stk with e | ⟨e,hf⟩
  · rw [e];exact I.funs
  · rw [e]
    obtain ⟨m,hn,_⟩:=I.loc
    refine .cons (by rw [I.ok.kind];decide) hf hn ?_ I.funs
    exact Heap.get?_none_of_le (Nat.le_trans I.ok.bsz I.ok.above)
theorem Inv.stkSub (I:Inv X pins σ H s):∀ b∈frs X.stack,b∈X.env.locals::X.fs:=fun b hb=>by
  rcases I.ok.stk with e | ⟨e,hf⟩
  · rw [e] at hb;exact List.mem_cons_of_mem _ hb
  · rw [e] at hb
    unfold frs at hb
    rw [List.filterMap_cons,hf] at hb
    exact hb
theorem Inv.stkFree (I:Inv X pins σ H s):∀ b∈frs X.stack,H b=none:=fun b hb=>by
  rcases List.mem_cons.mp (I.stkSub b hb) with e | hb
  · rw [e];exact I.free
  · obtain ⟨_,o,ho,_⟩:=I.ok.funs.mem hb
    exact I.base.free b o ho (I.ok.frf b hb) fun z=>I.ok.exfs b z hb
theorem Inv.step {g':Array GenState} {t':Nat} {d':Drawn} {ch:List Addr} (I:Inv X pins σ H s)
    (hch:∀ b∈ch,(b∈X.ex∨X.s₀.heap.objs.size≤b)∧b≠X.env.locals∧(∀ x c,X.env.cells.lookup x=some c→c≠b)∧∀ p∈X.pn++pins,p.1≠b)
    (keep:∀ b o,b≠X.env.locals→b∉X.fs→b∉ch→s.heap.get? b=some o→H b=none→h'.get? b=some o)
    (slot:∀ b o,b≠X.env.locals→b∈X.fs→b∉ch→s.heap.get? b=some o→H b=none→∃ sl,h'.get? b=some { o with slots:=sl }) (free:∀ b o,b∉ch→s.heap.get? b=some o→H b=none→H' b=none)
    (there:∀ b o,b∉ch→s.heap.get? b=some o→∃ o',h'.get? b=some o')
    (tups:∀ b xs,H b=some (.tup xs)→H' b=some (.tup xs)) (frzs:∀ b o u,H b=some (.frz o u)→H' b=some (.frz o u)) (tbls:∀ b ps,H b=some (.tbl ps)→H' b=some (.tbl ps))
    (ns:∀ m,s.heap.Ns X.env.locals m→h'.Ns X.env.locals m) (hok:HOk X.prog X.w H' h') (hg:AllBare g') :
    Inv X pins σ H' { s with heap:=h',gens:=g',drawn:=d',toks:=t' }:=by
  have neL:∀ b o,X.s₀.heap.get? b=some o→b≠X.env.locals:=fun b o e=>Nat.ne_of_lt (Nat.lt_of_lt_of_le (Heap.lt_size e) I.ok.above)
  have neC:∀ b o,X.s₀.heap.get? b=some o→b∉X.ex→b∉ch:=fun b o e hx hb=>by
    rcases (hch b hb).1 with z | z
    · exact hx z
    · exact absurd (Nat.lt_of_lt_of_le (Heap.lt_size e) z) (Nat.lt_irrefl _)
  have cellK:∀ x c,X.env.cells.lookup x=some c→∀ v,s.heap.IsCell c v→h'.IsCell c v:=fun x c e v hq0=>by
    obtain ⟨o,ho,hd⟩:=hq0
    have nch:c∉ch:=fun z=>(hch c z).2.2.1 x c e rfl
    by_cases hc:c∈X.fs
    · obtain ⟨sl,q⟩:=slot c o (I.cne x c e) hc nch ho (I.freeC x c e)
      exact ⟨_,q,hd⟩
    · exact ⟨o,keep c o (I.cne x c e) hc nch ho (I.freeC x c e),hd⟩
  refine ⟨I.ok,I.os,hg,⟨fun b o e n hb hx=>?_,fun b o e n hb hx=>?_,fun b o e n hx=>?_,fun b o e hx=>?_,fun b xs e=>tups b xs (I.base.tups b xs e),fun b o xs e=>frzs b o xs (I.base.frzs b o xs e),fun b ps e=>tbls b ps (I.base.tbls b ps e)⟩,?_,fun x c e=>?_,?_,fun x c e=>?_,fun p hp=>?_,hok,I.len⟩
  · exact keep b o (neL b o e) hb (neC b o e hx) (I.base.keep b o e n hb hx) (I.base.free b o e n hx)
  · obtain ⟨sl,e1⟩:=I.base.slot b o e n hb hx
    obtain ⟨sl',e2⟩:=slot b _ (neL b o e) hb (neC b o e hx) e1 (I.base.free b o e n hx)
    exact ⟨sl',e2⟩
  · obtain ⟨o',e1⟩:=I.base.there b o e hx
    exact free b o' (neC b o e hx) e1 (I.base.free b o e n hx)
  · obtain ⟨o',e1⟩:=I.base.there b o e hx
    exact there b o' (neC b o e hx) e1
  · obtain ⟨m,hn,hl⟩:=I.loc
    refine ⟨m,ns m hn,fun i x v e1 e2 e3=>?_⟩
    obtain ⟨u,r,l⟩:=hl i x v e1 e2 e3
    refine ⟨u,r,?_⟩
    rcases l with l | ⟨k,c,e,z⟩
    · exact .inl l
    · exact .inr ⟨k,c,e,cellK x c e _ z⟩
  · obtain ⟨v,z⟩:=I.cell x c e
    exact ⟨v,cellK x c e v z⟩
  · obtain ⟨m,⟨o,_,_,ho,_⟩,_⟩:=I.loc
    exact free _ o (fun z=>(hch _ z).2.1 rfl) ho I.free
  · obtain ⟨v,o,ho,hd⟩:=I.cell x c e
    exact free c o (fun z=>(hch c z).2.2.1 x c e rfl) ho (I.freeC x c e)
  · obtain ⟨e,n,ne,nf,d⟩:=I.pin p hp
    have nch:p.1∉ch:=fun z=>(hch p.1 z).2.2.2 p hp rfl
    exact ⟨keep p.1 p.2 ne nf nch e n,free p.1 p.2 nch e n,ne,nf,d⟩
theorem Inv.un {t':Nat} (I:Inv X pins σ H s) (u:Un X.fs [] H H' s.heap h') (hok:HOk X.prog X.w H' h'):Inv X pins σ H' { s with heap:=h',toks:=t' }:=by
  obtain ⟨m,⟨o,es,ep,ho,r⟩,_⟩:=id I.loc
  obtain ⟨sl,hL⟩:=u.any ho I.free (by simp)
  exact I.step (g':=s.gens) (d':=s.drawn) (ch:=[]) (fun _ z=>nomatch z) (fun b o _ hb _ e n=>u.keep b o e n hb (by simp)) (fun b o _ hb _ e n=>u.slot b o e n hb (by simp)) (fun b o _ e n=>u.free b o e n (by simp)) (fun b o _ e=>u.there b o e (by simp)) u.tups u.frzs u.tbls (fun m' hm=>by
    obtain ⟨o',es',ep',ho',r'⟩:=hm
    rw [ho] at ho';cases ho'
    exact ⟨_,es',ep',hL,r'⟩) hok I.bare
theorem Inv.call {g':Array GenState} {t':Nat} {d':Drawn} {ch:List Addr} (I:Inv X pins σ H s) (u:Un (frs X.stack) ch H H' s.heap h') (hok:HOk X.prog X.w H' h') (hg:AllBare g')
    (hch:∀ b∈ch,(b∈X.ex∨X.s₀.heap.objs.size≤b)∧b≠X.env.locals∧(∀ x c,X.env.cells.lookup x=some c→c≠b)∧∀ p∈X.pn++pins,p.1≠b) :
    Inv X pins σ H' { s with heap:=h',gens:=g',drawn:=d',toks:=t' }:=by
  obtain ⟨m,⟨o,es,ep,ho,r⟩,_⟩:=id I.loc
  obtain ⟨sl,hL⟩:=u.any ho I.free fun z=>(hch _ z).2.1 rfl
  exact I.step (ch:=ch) hch (fun b o hL hb hc e n=>u.keep b o e n (fun z=>(List.mem_cons.mp (I.stkSub b z)).elim hL hb) hc) (fun b o _ _ hc e n=>u.any e n hc) (fun b o hc e n=>u.free b o e n hc) (fun b o hc e=>u.there b o e hc) u.tups u.frzs u.tbls (fun m' hm=>by
    obtain ⟨o',es',ep',ho',r'⟩:=hm
    rw [ho] at ho';cases ho'
    exact ⟨_,es',ep',hL,r'⟩) hok hg
theorem Inv.turned {t':Nat} {it:Addr} (I:Inv X pins σ H s) (k:∀ b o,b≠it→s.heap.get? b=some o→h'.get? b=some o) (hn:H it=none) (hL:it≠X.env.locals)
    (h1:it∈X.ex∨X.s₀.heap.objs.size≤it) (h2:∀ x c,X.env.cells.lookup x=some c→c≠it) (h3:∀ p∈X.pn++pins,p.1≠it):Inv X pins σ H { s with heap:=h',toks:=t' }:=by
  have nit:∀ b u,H b=some u→b≠it:=fun b u e z=>by rw [z,hn] at e;cases e
  refine I.step (g':=s.gens) (d':=s.drawn) (ch:=[it]) (fun b hb=>?_) (fun b o _ _ hc e _=>k b o (fun z=>hc (by simp [z])) e) (fun b o _ _ hc e _=>⟨o.slots,k b o (fun z=>hc (by simp [z])) e⟩) (fun _ _ _ _ n=>n)
    (fun b o hc e=>⟨o,k b o (fun z=>hc (by simp [z])) e⟩) (fun _ _ e=>e) (fun _ _ _ e=>e) (fun b ps e=>e) (fun m hm=>?_) (fun b u e=>?_) I.bare
  · have e:b=it:=by simpa using hb
    subst e
    exact ⟨h1,hL,h2,h3⟩
  · obtain ⟨o,es,ep,ho,r⟩:=hm
    exact ⟨o,es,ep,k _ o (Ne.symm hL) ho,r⟩
  · refine (I.hok b u e).stay (fun c v hc q=>k c v ?_ q) (fun _ q=>q) (fun _ _ q=>q) fun _ _ _ q=>q
    rcases hc with z | z
    · rw [z];exact nit b u e
    · exact nit c _ z
theorem Inv.tok (I:Inv X pins σ H s) (t:Nat):Inv X pins σ H { s with toks:=t }:=I.un (h':=s.heap) (t':=t) Un.refl I.hok
theorem Inv.kept {t':Nat} (I:Inv X pins σ H s) (k:∀ b u,s.heap.get? b=some u→h'.get? b=some u):Inv X pins σ H { s with heap:=h',toks:=t' }:=I.un (Un.kept k) (I.hok.kept k)
theorem Inv.laid {a:Addr} {o:HO} {t':Nat} (I:Inv X pins σ H s) (k:∀ b u,s.heap.get? b=some u→h'.get? b=some u) (hp:s.heap.objs.size≤a) (new:ObjOk X.prog X.w (upd H a o) h' a o) :
    Inv X pins σ (upd H a o) { s with heap:=h',toks:=t' }:=I.un (Un.laid k hp (I.hok.fresh hp)) (I.hok.laid k hp new)
theorem Inv.write {x e:Addr} {o:HO} {t':Nat} (I:Inv X pins σ H s) (mu:Mut (H x)) (he:e=x∨H e=some (.own x)) (k:∀ b u,b≠e→s.heap.get? b=some u→h'.get? b=some u) (heo:∃ u,h'.get? e=some u)
    (new:ObjOk X.prog X.w (upd H x o) h' x o):Inv X pins σ (upd H x o) { s with heap:=h',toks:=t' }:=I.un (Un.write mu he k heo) (I.hok.write mu he k heo new)
theorem Inv.pins_of {pins':List (Addr × Obj)} (I:Inv X pins σ H s) (h:∀ p∈pins',s.heap.get? p.1=some p.2∧H p.1=none∧p.1≠X.env.locals∧p.1∉X.fs∧∀ v,p.2.data≠.cell v):Inv X pins' σ H s :=
  ⟨I.ok,I.os,I.bare,I.base,I.loc,I.cell,I.free,I.freeC,fun p hp=>(List.mem_append.mp hp).elim (fun z=>I.pin p (List.mem_append_left _ z)) (h p),I.hok,I.len⟩
theorem qg7 {N:List Str} (hN:N.Nodup) {i j:Nat} {x:Str} (a:N[i]?=some x) (b:N[j]?=some x):i=j:=by
  obtain ⟨h1,e1⟩:=List.getElem?_eq_some_iff.mp a
  obtain ⟨h2,e2⟩:=List.getElem?_eq_some_iff.mp b
  exact (List.getElem_inj hN).mp (e1.trans e2.symm)
theorem qf5 {M:Model} {A:Around} {E:Value→Shared→Prop} {i:Nat} {x:Str} {v:V} {u:Value} {Q:Unit→Shared→Prop} (I:Inv X pins σ H s) (hN:X.N.Nodup) (hi:X.N[i]?=some x) (hx:Loc X.env.scope x) (r:RelV v u)
    (h:∀ s',Inv X pins (σ.set i (some v)) H s'→(∃ a,Heap.SameBut a s.heap s'.heap∧(a=X.env.locals∨X.env.cells.lookup x=some a))→Q () s') (hf:X.fn x=true∨X.env.scope.names.lookup x=some .local:=by first | exact .inl rfl | exact .inr rfl | assumption):wpAny M A (storeName X.env x u) Q E s:=by
  obtain ⟨m,hn,hl⟩:=id I.loc
  have hcls:(X.env.scope.kind == .class || (X.env.scope.kind == .module && X.env.locals != X.env.globals))=false:=by rw [I.ok.kind];rfl
  have hiσ:i<σ.length:=by rw [I.len];exact (List.getElem?_eq_some_iff.mp hi).1
  have cne:=I.cne
  have tracked:∀ {a:Addr} {h':Heap},(∃ o,s.heap.get? a=some o∧H a=none)→Heap.SameBut a s.heap h'→HOk X.prog X.w H h':=fun {a h'} ha hs b ob e=>by
    obtain ⟨_,_,hfree⟩:=ha
    refine (I.hok b ob e).stay (fun c w' hc q=>(hs.2 c ?_).trans q) (fun _ q=>q) (fun _ _ q=>q) fun _ _ _ q=>q
    rintro rfl
    rcases hc with rfl | hc
    · rw [hfree] at e;cases e
    · rw [hfree] at hc;cases hc
  rcases hx with hk | hk
  · refine wpAny_storeName_local hk hn (fun h' hn' hs=>?_) hcls
    obtain ⟨oL,_,_,hoL,_⟩:=id hn
    refine h _ ⟨I.ok,I.os,I.bare,⟨fun b o e n hb hx=>?_,fun b o e n hb hx=>?_,I.base.free,fun b o e hx=>?_,I.base.tups,I.base.frzs,I.base.tbls⟩,⟨_,hn',fun j y v' e1 e2 e3=>?_⟩,fun y c e=>?_,I.free,I.freeC,fun p hp=>?_,tracked ⟨oL,hoL,I.free⟩ hs,by simpa using I.len⟩ ⟨_,hs,.inl rfl⟩
    · exact (hs.2 b (Nat.ne_of_lt (Nat.lt_of_lt_of_le (Heap.lt_size e) I.ok.above))).trans (I.base.keep b o e n hb hx)
    · obtain ⟨sl,e1⟩:=I.base.slot b o e n hb hx
      exact ⟨sl,(hs.2 b (Nat.ne_of_lt (Nat.lt_of_lt_of_le (Heap.lt_size e) I.ok.above))).trans e1⟩
    · obtain ⟨o',e1⟩:=I.base.there b o e hx
      exact ⟨o',(hs.2 b (Nat.ne_of_lt (Nat.lt_of_lt_of_le (Heap.lt_size e) I.ok.above))).trans e1⟩
    · by_cases hj:j=i
      · subst hj
        rw [hi] at e1;cases e1
        rw [List.getElem?_set_self hiσ] at e2
        cases e2
        exact ⟨u,r,.inl ⟨hk,by simp⟩⟩
      · rw [List.getElem?_set_ne (Ne.symm hj)] at e2
        obtain ⟨u',r',q⟩:=hl j y v' e1 e2 e3
        refine ⟨u',r',?_⟩
        rcases q with ⟨k,e⟩ | ⟨k,c,e,z⟩
        · refine .inl ⟨k,?_⟩
          have:y≠x:=fun e=>hj (qg7 hN e1 (e ▸ hi))
          simp [this,e]
        · exact .inr ⟨k,c,e,z.sameBut hs (cne y c e)⟩
    · obtain ⟨w',z⟩:=I.cell y c e
      exact ⟨w',z.sameBut hs (cne y c e)⟩
    · obtain ⟨e,n,ne,nf,d⟩:=I.pin p hp
      exact ⟨(hs.2 p.1 ne).trans e,n,ne,nf,d⟩
  · have hfn:X.fn x=true:=by
      rcases hf with z | z
      · exact z
      · rw [z] at hk;cases hk
    obtain ⟨c,hc⟩:=I.ok.has x (.inl hk)
    obtain ⟨w',z⟩:=I.cell x c hc
    refine wpAny_storeName_cell I.ok.kind hk hc z (fun h' hc' hs=>?_)
    obtain ⟨oc,hoc,hocd⟩:=id z
    refine h { s with heap:=h' } ⟨I.ok,I.os,I.bare,⟨fun b o e n hb hx=>?_,fun b o e n hb hx=>?_,I.base.free,fun b o e hx=>?_,I.base.tups,I.base.frzs,I.base.tbls⟩,⟨m,hn.sameBut hs (Ne.symm (cne x c hc)),fun j y v' e1 e2 e3=>?_⟩,fun y c' e=>?_,I.free,I.freeC,fun p hp=>?_,tracked ⟨oc,hoc,I.freeC x c hc⟩ hs,by simpa using I.len⟩ ⟨c,hs,.inr hc⟩
    · exact (hs.2 b (Nat.ne_of_lt (Nat.lt_of_lt_of_le (Heap.lt_size e) (I.ok.cab x c hfn hc)))).trans (I.base.keep b o e n hb hx)
    · obtain ⟨sl,e1⟩:=I.base.slot b o e n hb hx
      exact ⟨sl,(hs.2 b (Nat.ne_of_lt (Nat.lt_of_lt_of_le (Heap.lt_size e) (I.ok.cab x c hfn hc)))).trans e1⟩
    · obtain ⟨o',e1⟩:=I.base.there b o e hx
      exact ⟨o',(hs.2 b (Nat.ne_of_lt (Nat.lt_of_lt_of_le (Heap.lt_size e) (I.ok.cab x c hfn hc)))).trans e1⟩
    · by_cases hj:j=i
      · subst hj
        rw [hi] at e1;cases e1
        rw [List.getElem?_set_self hiσ] at e2
        cases e2
        exact ⟨u,r,.inr ⟨.inl hk,c,hc,hc'⟩⟩
      · rw [List.getElem?_set_ne (Ne.symm hj)] at e2
        obtain ⟨u',r',q⟩:=hl j y v' e1 e2 e3
        refine ⟨u',r',?_⟩
        rcases q with q | ⟨k,c',e,z'⟩
        · exact .inl q
        · refine .inr ⟨k,c',e,z'.sameBut hs ?_⟩
          rintro rfl
          exact hj (qg7 hN e1 (I.ok.inj _ _ _ e hc ▸ hi))
    · by_cases hcc:c'=c
      · subst hcc;exact ⟨_,hc'⟩
      · obtain ⟨w2,z2⟩:=I.cell y c' e
        exact ⟨w2,z2.sameBut hs hcc⟩
    · obtain ⟨e,n,ne,nf,d⟩:=I.pin p hp
      refine ⟨(hs.2 p.1 ?_).trans e,n,ne,nf,d⟩
      intro q
      rw [q,hoc] at e
      have q':oc=p.2:=Option.some.inj e
      exact d w' (by rw [← q'];exact hocd)
theorem qeY {M:Model} {A:Around} {E:Value→Shared→Prop} {i:Nat} {x:Str} {v:V} {u:Value} {Q:Unit→Shared→Prop} (I:Inv X pins σ H s) (hN:X.N.Nodup) (hi:X.N[i]?=some x) (hx:Loc X.env.scope x) (r:RelV v u)
    (h:∀ s',Inv X pins (σ.set i (some v)) H s'→Q () s') (hf:X.fn x=true∨X.env.scope.names.lookup x=some .local:=by first | exact .inl rfl | exact .inr rfl | assumption):wpAny M A (storeName X.env x u) Q E s :=
  qf5 I hN hi hx r (fun s' I' _=>h s' I') hf
theorem Inv.call' {s':Shared} {ch:List Addr} (I:Inv X pins σ H s) (ho:s'.os=s.os) (u:Un (frs X.stack) ch H H' s.heap s'.heap) (hok:HOk X.prog X.w H' s'.heap) (hg:AllBare s'.gens)
    (hch:∀ b∈ch,(b∈X.ex∨X.s₀.heap.objs.size≤b)∧b≠X.env.locals∧(∀ x c,X.env.cells.lookup x=some c→c≠b)∧∀ p∈X.pn++pins,p.1≠b):Inv X pins σ H' s':=by
  obtain ⟨h',g',d',t',o'⟩:=s'
  have e:o'=s.os:=ho
  subst e
  exact I.call (g':=g') (t':=t') (d':=d') u hok hg hch
end
abbrev XK:=Value→Option Addr→Hp→Prop
abbrev St:=List (Option V)
abbrev VK:=V→Hp→Prop
abbrev TE:=St→Hp→VK→Prop
abbrev TT:=St→Hp→(Bool→Hp→Prop)→Prop
abbrev TA:=St→Hp→(List V→Hp→Prop)→Prop
structure Ends where
  nx:St→Hp→Prop
  rt:VK
  bk:St→Hp→Prop:=fun _ _=>False
  ct:St→Hp→Prop:=fun _ _=>False
abbrev TS:=Ends→St→Hp→Prop
def EP (X:Cx) (pins:List (Addr × Obj)) (σ:St) (Q:VK) (u:Value) (s':Shared):Prop:=∃ v H',Inv X pins σ H' s'∧RelV v u∧Q v H'
def TP (X:Cx) (pins:List (Addr × Obj)) (σ:St) (Q:Bool→Hp→Prop) (b:Bool) (s':Shared):Prop:=∃ H',Inv X pins σ H' s'∧Q b H'
def AP (X:Cx) (pins:List (Addr × Obj)) (σ:St) (Q:List V→Hp→Prop) (us:List Value) (s':Shared):Prop:=∃ vs H',Inv X pins σ H' s'∧Vals vs us∧Q vs H'
def SP (X:Cx) (pins:List (Addr × Obj)) (D:Ends) (f:Flow) (s':Shared):Prop :=
  match f with
  | .next=>∃ σ' H',Inv X pins σ' H' s'∧D.nx σ' H'
  | .brk=>∃ σ' H',Inv X pins σ' H' s'∧D.bk σ' H'
  | .cont=>∃ σ' H',Inv X pins σ' H' s'∧D.ct σ' H'
  | .ret u=>∃ v σ' H',Inv X pins σ' H' s'∧RelV v u∧D.rt v H'
def PE (X:Cx) (e:Expr) (t:TE):Prop :=
  ∀ (pins:List (Addr × Obj)) (s:Shared) (σ:St) (H:Hp) (Q:VK),Inv X pins σ H s→t σ H Q→wpAny (model X.prog X.w) X.A (eval e X.env) (EP X pins σ Q) X.xe s
def PT (X:Cx) (e:Expr) (t:TT):Prop :=
  ∀ (pins:List (Addr × Obj)) (s:Shared) (σ:St) (H:Hp) (Q:Bool→Hp→Prop),Inv X pins σ H s→t σ H Q→wpAny (model X.prog X.w) X.A (isTrue e X.env (eval e X.env)) (TP X pins σ Q) X.xe s
def PW (X:Cx) (e:Expr) (t:TT):Prop :=
  ∀ (whole:Sem Value) (pins:List (Addr × Obj)) (s:Shared) (σ:St) (H:Hp) (Q:Bool→Hp→Prop),Inv X pins σ H s→t σ H Q→wpAny (model X.prog X.w) X.A (isTrue e X.env whole) (TP X pins σ Q) X.xe s
theorem PW.pt {X:Cx} {e:Expr} {t:TT} (h:PW X e t):PT X e t:=h _
def PA (X:Cx) (es:List Expr) (t:TA):Prop :=
  ∀ (pos:Pos) (pins:List (Addr × Obj)) (s:Shared) (σ:St) (H:Hp) (Q:List V→Hp→Prop),Inv X pins σ H s→t σ H Q→wpAny (model X.prog X.w) X.A (spliced (backTo pos (starEach es X.env))) (AP X pins σ Q) X.xe s
def PS (X:Cx) (st:Stmt) (t:TS):Prop :=
  ∀ (pins:List (Addr × Obj)) (s:Shared) (σ:St) (H:Hp) (D:Ends),Inv X pins σ H s→t D σ H→wpAny (model X.prog X.w) X.A (exec st X.env) (SP X pins D) X.xe s
def PSs (X:Cx) (st:List Stmt) (t:TS):Prop :=
  ∀ (pins:List (Addr × Obj)) (s:Shared) (σ:St) (H:Hp) (D:Ends),Inv X pins σ H s→t D σ H→wpAny (model X.prog X.w) X.A (execs st X.env) (SP X pins D) X.xe s
theorem thn {α:Type} {t:Sem α} {Q Q':α→Shared→Prop} {M:Model} {A:Around} {E:Value→Shared→Prop} {s:Shared} (h:wpAny M A t Q E s) (hQ:∀ a s,Q a s→Q' a s):wpAny M A t Q' E s:=wpAny_mono h hQ fun _ _ x=>x
section
variable {X : Cx}
def qn1 (i:Nat):TE:=fun σ H Q=>∃ v,σ[i]?=some (some v)∧Q v H
def tC (v:V):TE:=fun _ H Q=>Q v H
theorem qlU {i:Nat} {x:Str} {pos:Pos} (hN:X.N[i]?=some x) (hv:Vis X.env.scope x) (hd:(x == ("__debug__":Str))=false:=by decide) (hcd:(x == ("__classdict__":Str))=false:=by decide):PE X (.Name x pos) (qn1 i):=by
  intro pins s σ H Q I h
  obtain ⟨v,e,h⟩:=h
  obtain ⟨m,hn,hl⟩:=I.loc
  obtain ⟨u,r,l⟩:=hl i x v hN e hv
  have fin:EP X pins σ Q u s:=⟨v,H,I,r,h⟩
  rcases l with ⟨hk,hm⟩ | ⟨hk,c,hc,hcell⟩
  · exact wpAny_Name (wpAny_loadName_local I.ok.kind hk hn hm fin) hd
  · rcases hk with hk | hk
    · exact wpAny_Name (wpAny_loadName_cell I.ok.kind hk hc hcell fin) hd
    · exact wpAny_Name (wpAny_loadName_free I.ok.kind hk hc hcell fin hcd) hd
theorem qaX {i j pos}:PE X (.Constant (.int i) j pos) (tC (.int i)):=fun _ _ _ H _ I h=>wpAny_Constant_int ⟨.int i,H,I.tok _,⟨_,rfl⟩,h⟩
theorem qfJ {b j pos}:PE X (.Constant (.bool b) j pos) (tC (.bl b)):=fun _ _ _ H _ I h=>Constant_bool ⟨.bl b,H,I,rfl,h⟩
theorem qeu {j pos}:PE X (.Constant .none j pos) (tC .non):=fun _ _ _ H _ I h=>Constant_none ⟨.non,H,I,rfl,h⟩
theorem qg1 {x j pos}:PE X (.Constant (.str x) j pos) (tC (.str x)):=fun _ _ _ H _ I h=>Calls.Constant_str ⟨.str x,H,I.tok _,⟨_,rfl⟩,h⟩
def Gl (X:Cx) (x:Str):Prop:=X.env.kindOf x=some .globalImplicit
theorem qi3 {E:Value→Shared→Prop} {pins:List (Addr × Obj)} {s:Shared} {σ:St} {H:Hp} {x:Str} {u:Value} {pos:Pos} {Q:Value→Shared→Prop} (I:Inv X pins σ H s) (hg:Gl X x) (hm:X.mg x=some u) (h:Q u s)
    (hd:(x == ("__debug__":Str))=false:=by decide):wpAny (model X.prog X.w) X.A (eval (.Name x pos) X.env) Q E s :=
  Calls.Name_function_global I.ok.kind hg (Calls.loadGlobal_global (by rw [I.ok.glob];exact I.mod.glob.keeps I.bk) hm h) hd
theorem qdy {E:Value→Shared→Prop} {pins:List (Addr × Obj)} {s:Shared} {σ:St} {H:Hp} {x:Str} {u:Value} {pos:Pos} {Q:Value→Shared→Prop} (I:Inv X pins σ H s) (hg:Gl X x) (hm:X.mg x=none) (hv:bootBuiltins x=some u) (h:Q u s)
    (hn:x≠"__name__":=by decide) (hd:(x == ("__debug__":Str))=false:=by decide):wpAny (model X.prog X.w) X.A (eval (.Name x pos) X.env) Q E s:=by
  obtain ⟨mb,h1,h2⟩:=I.mod.blt
  exact Calls.Name_function_global I.ok.kind hg (Calls.loadGlobal_builtin (by rw [I.ok.glob];exact I.mod.glob.keeps I.bk) hm (by rw [I.ok.blt];exact h1.keeps I.bk) ((h2 x hn).trans hv) h) hd
theorem qiX {x:Str} {v:V} {u:Value} {pos:Pos} (hg:Gl X x) (hm:X.mg x=none) (hv:bootBuiltins x=some u) (r:RelV v u) (hn:x≠"__name__":=by decide) (hd:(x == ("__debug__":Str))=false:=by decide):PE X (.Name x pos) (tC v) :=
  fun _ _ _ H _ I h=>qdy I hg hm hv ⟨v,H,I,r,h⟩ hn hd
variable {a b : Expr} {ta tb : TE} {pos : Pos}
variable {tA tB' : TT} {rest : List Expr}
def qoB (t u:TT):TT:=fun σ H Q=>t σ H fun c H1=>if c=true then u σ H1 Q else Q false H1
def tOr (t u:TT):TT:=fun σ H Q=>t σ H fun c H1=>if c=true then Q true H1 else u σ H1 Q
def qoK (t:TT):TT:=fun σ H Q=>t σ H fun c H1=>Q (!c) H1
theorem qlK (ha:PT X a tA):PW X (.BoolOp .And [a] pos) tA:=by
  intro wh pins s σ H Q I h
  refine isTrue_and (thn (ha pins s σ H Q I h) fun c s1 e=>?_)
  cases c with
  | true=>exact isTrue_and_nil e
  | false=>exact e
theorem qh5 (ha:PT X a tA):PW X (.BoolOp .Or [a] pos) tA:=by
  intro wh pins s σ H Q I h
  refine isTrue_or (thn (ha pins s σ H Q I h) fun c s1 e=>?_)
  cases c with
  | false=>exact isTrue_or_nil e
  | true=>exact e
theorem qmP (ha:PT X a tA) (hb:PW X (.BoolOp .And (b::rest) pos) tB'):PW X (.BoolOp .And (a::b::rest) pos) (qoB tA tB'):=by
  intro wh pins s σ H Q I h
  refine isTrue_and (thn (ha pins s σ H _ I h) fun c s1 hq0=>?_)
  obtain ⟨H1,I1,q1⟩:=hq0
  cases c with
  | true=>exact hb wh pins s1 σ H1 Q I1 q1
  | false=>exact ⟨H1,I1,q1⟩
theorem qlG (ha:PT X a tA) (hb:PW X (.BoolOp .Or (b::rest) pos) tB'):PW X (.BoolOp .Or (a::b::rest) pos) (tOr tA tB'):=by
  intro wh pins s σ H Q I h
  refine isTrue_or (thn (ha pins s σ H _ I h) fun c s1 hq0=>?_)
  obtain ⟨H1,I1,q1⟩:=hq0
  cases c with
  | true=>exact ⟨H1,I1,q1⟩
  | false=>exact hb wh pins s1 σ H1 Q I1 q1
theorem qhi (ha:PT X a tA):PT X (.UnaryOp .Not a pos) (qoK tA):=by
  intro pins s σ H Q I h
  exact isTrue_not (ha pins s σ H (fun c H1=>Q (!c) H1) I h)
def qnQ (ta tb:TE):TE:=fun σ H Q=>ta σ H fun x H1=>∃ c,x=.bl c∧if c=true then tb σ H1 Q else Q (.bl false) H1
theorem qh9 {op} {t:TE} (h:PE X a t):PE X (.BoolOp op [a] pos) t:=fun pins s σ H Q I hw=>BoolOp_one (h pins s σ H Q I hw)
theorem qi7 (ha:PE X a ta) (hb:PE X (.BoolOp .And (b::rest) pos) tb):PE X (.BoolOp .And (a::b::rest) pos) (qnQ ta tb):=by
  intro pins s σ H Q I h
  refine BoolOp_and (thn (ha pins s σ H _ I h) fun v s1 hq0=>?_)
  obtain ⟨x,H1,I1,r1,q1⟩:=hq0
  obtain ⟨c,rfl,q1⟩:=q1
  cases r1
  refine wpAny_truthy_bool ?_
  cases c with
  | true=>exact hb pins s1 σ H1 Q I1 q1
  | false=>exact ⟨.bl false,H1,I1,rfl,q1⟩
def tIf (t:TT) (ta tb:TE):TE:=fun σ H Q=>t σ H fun c H1=>if c=true then ta σ H1 Q else tb σ H1 Q
theorem qjO {c:Expr} (hc:PT X c tA) (ha:PE X a ta) (hb:PE X b tb):PE X (.IfExp c a b pos) (tIf tA ta tb):=by
  intro pins s σ H Q I h
  refine wpAny_IfExp (thn (hc pins s σ H _ I h) fun d s1 hq0=>?_)
  obtain ⟨H1,I1,q1⟩:=hq0
  cases d with
  | true=>exact ha pins s1 σ H1 Q I1 q1
  | false=>exact hb pins s1 σ H1 Q I1 q1
end
def SqL (K:PySem.W.Frag) (H:Hp) (a:Addr) (xs:List V):Prop :=
  Rd H a (.lst xs) ∨
    ∃ (o:Obj) (its:Array Value) (n:Nat),K.lookup a=some o∧o.cls=.type "list"∧o.dict=none∧o.data=.seq its n∧its.size≤sizeLine∧Vals xs its.toList
def SqT (K:PySem.W.Frag) (H:Hp) (a:Addr) (xs:List V):Prop :=
  Rd H a (.tup xs) ∨
    ∃ (o:Obj) (its:Array Value) (n:Nat),K.lookup a=some o∧o.cls=.type "tuple"∧o.data=.seq its n∧its.size≤sizeLine∧Vals xs its.toList
def qo1:Value→Option V
  | .none=>some .non
  | .bool b=>some (.bl b)
  | .int i _=>some (.int i)
  | .str x _=>some (.str x)
  | .bytes b _=>some (.byt b)
  | .float b _=>some (.flt b)
  | .ref a=>some (.ref a)
  | .type n=>some (.ty n)
  | _=>none
theorem RelV.abs {x:V} {u:Value} (r:RelV x u):qo1 u=some x:=by
  cases x with
  | non=>cases r;rfl
  | bl _=>cases r;rfl
  | int _=>obtain ⟨t,rfl⟩:=r;rfl
  | str _=>obtain ⟨t,rfl⟩:=r;rfl
  | byt _=>obtain ⟨t,rfl⟩:=r;rfl
  | flt _=>obtain ⟨t,rfl⟩:=r;rfl
  | ref _=>cases r;rfl
  | ty _=>cases r;rfl
theorem RelV.inj {x y:V} {u:Value} (r:RelV x u) (q:RelV y u):x=y:=Option.some.inj (r.abs.symm.trans q.abs)
theorem Vals.inj:∀ {xs ys:List V} {us:List Value},Vals xs us→Vals ys us→xs=ys
  | _,_,_,.nil,.nil=>rfl
  | _,_,_,.cons r t,.cons r' t'=>by rw [r.inj r',Vals.inj t t']
section
variable {X : Cx} {pins : List (Addr × Obj)} {σ : St} {H : Hp} {s : Shared} {a : Addr} {xs ys : List V}
theorem SqL.of {K:PySem.W.Frag} (h:H a=some (.lst xs)):SqL K H a xs:=.inl (.inl h)
theorem SqT.of {K:PySem.W.Frag} (h:H a=some (.tup xs)):SqT K H a xs:=.inl (.inl h)
theorem Inv.list (I:Inv X pins σ H s) (h:SqL X.K H a xs):∃ its:List Value,Vals xs its∧PlainL s.heap a its.toArray∧xs.length≤sizeLine:=by
  rcases h with h | ⟨o,its,n,hk,hc,hd,hs,hz,r⟩
  · obtain ⟨z,its,n,r,e⟩:=h.ok I.hok
    exact ⟨its,r,⟨_,n,e,rfl,rfl,rfl⟩,z⟩
  · refine ⟨its.toList,r,⟨o,n,I.kIn a o hk,hc,hd,by simpa using hs⟩,?_⟩
    have e:=r.length
    simp only [Array.length_toList] at e
    omega
theorem Inv.tuple (I:Inv X pins σ H s) (h:SqT X.K H a xs):∃ its:List Value,Vals xs its∧IsTup s.heap a its.toArray∧xs.length≤sizeLine:=by
  rcases h with h | ⟨o,its,n,hk,hc,hs,hz,r⟩
  · obtain ⟨z,its,r,p⟩:=h.ok I.hok
    exact ⟨its,r,p,z⟩
  · refine ⟨its.toList,r,⟨o,I.kIn a o hk,hc,n,by simpa using hs⟩,?_⟩
    have e:=r.length
    simp only [Array.length_toList] at e
    omega
theorem Inv.list_inj (I:Inv X pins σ H s) (h:SqL X.K H a xs) (h':SqL X.K H a ys):xs=ys:=by
  obtain ⟨its,r,⟨o,n,e,_,_,d⟩,_⟩:=I.list h
  obtain ⟨its',r',⟨o',n',e',_,_,d'⟩,_⟩:=I.list h'
  rw [e] at e';cases e'
  rw [d] at d'
  injection d' with d1 _
  have:its=its':=by simpa using congrArg Array.toList d1
  subst this
  exact r.inj r'
theorem Inv.tuple_inj (I:Inv X pins σ H s) (h:SqT X.K H a xs) (h':SqT X.K H a ys):xs=ys:=by
  obtain ⟨its,r,⟨o,e,_,n,d⟩,_⟩:=I.tuple h
  obtain ⟨its',r',⟨o',e',_,n',d'⟩,_⟩:=I.tuple h'
  rw [e] at e';cases e'
  rw [d] at d'
  injection d' with d1 _
  have:its=its':=by simpa using congrArg Array.toList d1
  subst this
  exact r.inj r'
end
abbrev Cx.wish (X:Cx) (E:Value→Shared→Prop):Cx:={ X with xe:=E }
abbrev Cx.nox (X:Cx):Cx:=X.wish fun _ _=>False
theorem Cx.Ok.wish {X:Cx} (ok:X.Ok) (E:Value→Shared→Prop):(X.wish E).Ok :=
  ⟨ok.mod,ok.kind,ok.glob,ok.blt,ok.above,ok.inj,ok.has,ok.cab,ok.hd,ok.frames,ok.stk,ok.exf,ok.bs,ok.bsz,ok.noex,ok.exfs,ok.funs,ok.frf⟩
theorem Cx.Ok.unwish {X:Cx} {E:Value→Shared→Prop} (ok:(X.wish E).Ok):X.Ok :=
  ⟨ok.mod,ok.kind,ok.glob,ok.blt,ok.above,ok.inj,ok.has,ok.cab,ok.hd,ok.frames,ok.stk,ok.exf,ok.bs,ok.bsz,ok.noex,ok.exfs,ok.funs,ok.frf⟩
section
variable {X : Cx} {pins : List (Addr × Obj)} {σ : St} {H : Hp} {s : Shared} {E : Value → Shared → Prop}
theorem Inv.wish (I:Inv X pins σ H s) (E:Value→Shared→Prop):Inv (X.wish E) pins σ H s:=⟨I.ok.wish E,I.os,I.bare,I.base,I.loc,I.cell,I.free,I.freeC,I.pin,I.hok,I.len⟩
theorem Inv.unwish (I:Inv (X.wish E) pins σ H s):Inv X pins σ H s:=⟨I.ok.unwish,I.os,I.bare,I.base,I.loc,I.cell,I.free,I.freeC,I.pin,I.hok,I.len⟩
theorem SP.unwish {D:Ends} {f:Flow} {s':Shared} (h:SP (X.wish E) pins D f s'):SP X pins D f s':=by
  cases f with
  | next=>obtain ⟨σ',H',I,q⟩:=h;exact ⟨σ',H',I.unwish,q⟩
  | brk=>obtain ⟨σ',H',I,q⟩:=h;exact ⟨σ',H',I.unwish,q⟩
  | cont=>obtain ⟨σ',H',I,q⟩:=h;exact ⟨σ',H',I.unwish,q⟩
  | ret u=>obtain ⟨v,σ',H',I,r,q⟩:=h;exact ⟨v,σ',H',I.unwish,r,q⟩
theorem PSs.nox {st:List Stmt} {t:TS} (h:PSs X.nox st t):PSs X st t:=fun pins s σ H D I hw =>
  wpAny_mono (h pins s σ H D (I.wish _) hw) (fun _ _ q=>q.unwish) fun _ _ z=>False.elim z
end
section
variable {X : Cx} {st : Stmt} {rest : List Stmt} {t u : TS} {e : Expr} {te : TE} {pos : Pos}
def qnj:TS:=fun D σ H=>D.nx σ H
def qoJ (t u:TS):TS:=fun D σ H=>t { D with nx:=u D } σ H
theorem pss_nil:PSs X [] qnj:=fun _ _ σ H _ I h=>wpAny_execs_nil ⟨σ,H,I,h⟩
theorem qa4 (h1:PS X st t) (h2:PSs X rest u):PSs X (st::rest) (qoJ t u):=by
  intro pins s σ H D I h
  refine wpAny_execs_cons (thn (h1 pins s σ H { D with nx:=u D } I h) fun f s1 q=>?_)
  cases f with
  | next =>
    obtain ⟨σ',H',I',q⟩:=q
    exact h2 pins s1 σ' H' D I' q
  | ret v=>exact q
  | brk=>exact q
  | cont=>exact q
theorem qaL (h1:PS X st t):PSs X [st] t:=by
  intro pins s σ H D I h
  refine wpAny_execs_cons (thn (h1 pins s σ H D I h) fun f s1 q=>?_)
  cases f with
  | next=>exact wpAny_execs_nil q
  | ret v=>exact q
  | brk=>exact q
  | cont=>exact q
theorem Inv.quiet {pins:List (Addr × Obj)} {σ:St} {H:Hp} {s:Shared} (I:Inv X pins σ H s):interactive X.env=false:=by simp [interactive,I.ok.kind]
def qnG (te:TE):TS:=fun D σ H=>te σ H fun _ H1=>D.nx σ H1
theorem qdi (he:PE X e te) (hs:swapsWith e none pos.line X.env=pure false:=by rfl):PS X (.Expr e pos) (qnG te):=by
  intro pins s σ H D I h
  exact wpAny_Expr_any (thn (he pins s σ H _ I h) fun v s1 hq0=>by obtain ⟨x,H1,I1,r1,q1⟩:=hq0;exact ⟨σ,H1,I1,q1⟩) I.quiet hs
def qoz (te:TE):TS:=fun D σ H=>te σ H D.rt
theorem qbD (he:PE X e te):PS X (.Return (some e) pos) (qoz te):=by
  intro pins s σ H D I h
  exact wpAny_Return_some (thn (he pins s σ H _ I h) fun v s1 hq0=>by obtain ⟨x,H1,I1,r1,q1⟩:=hq0;exact ⟨x,σ,H1,I1,r1,q1⟩)
def qoy (c:TT) (t u:TS):TS:=fun D σ H=>c σ H fun b H1=>if b=true then t D σ H1 else u D σ H1
theorem qdk {c:Expr} {a b:List Stmt} {tc:TT} (hc:PT X c tc) (ha:PSs X a t) (hb:PSs X b u):PS X (.If c a b pos) (qoy tc t u):=by
  intro pins s σ H D I h
  refine wpAny_If (thn (hc pins s σ H _ I h) fun d s1 hq0=>?_)
  obtain ⟨H1,I1,q1⟩:=hq0
  cases d with
  | true=>exact ha pins s1 σ H1 D I1 q1
  | false=>exact hb pins s1 σ H1 D I1 q1
def qmC:TS:=fun _ _ _=>False
theorem qkf:PS X st qmC:=fun _ _ _ _ _ _ h=>h.elim
end
abbrev TG:=V→St→Hp→(St→Hp→Prop)→Prop
abbrev TGs:=List V→St→Hp→(St→Hp→Prop)→Prop
def PG (X:Cx) (target:Expr) (t:TG):Prop :=
  ∀ (pins:List (Addr × Obj)) (s:Shared) (σ:St) (H:Hp) (v:V) (u:Value) (Q:St→Hp→Prop),Inv X pins σ H s→RelV v u→t v σ H Q →
    wpAny (model X.prog X.w) X.A (assign target X.env u) (fun _ s'=>∃ σ' H',Inv X pins σ' H' s'∧Q σ' H') X.xe s
def PGs (X:Cx) (ts:List Expr) (t:TGs):Prop :=
  ∀ (pins:List (Addr × Obj)) (s:Shared) (σ:St) (H:Hp) (vs:List V) (us:List Value) (Q:St→Hp→Prop),Inv X pins σ H s→Vals vs us→t vs σ H Q →
    wpAny (model X.prog X.w) X.A (assignInOrder ((assignEach ts X.env).map (·.2)) us) (fun _ s'=>∃ σ' H',Inv X pins σ' H' s'∧Q σ' H') X.xe s
abbrev qmh:=V→V→V→Hp→(Hp→Prop)→Prop
def qnO (X:Cx) (t:qmh):Prop :=
  ∀ (pins:List (Addr × Obj)) (s:Shared) (σ:St) (H:Hp) (o i v:V) (ov iv u:Value) (Q:Hp→Prop),Inv X pins σ H s→RelV o ov→RelV i iv→RelV v u→t o i v H Q →
    wpAny (model X.prog X.w) X.A (setItem ov iv u) (fun _ s'=>∃ H',Inv X pins σ H' s'∧Q H') X.xe s
abbrev TIp:=V→V→Hp→VK→Prop
def PIp (X:Cx) (op:Operator) (t:TIp):Prop :=
  ∀ (pins:List (Addr × Obj)) (s:Shared) (σ:St) (H:Hp) (x y:V) (v u:Value) (Q:VK),Inv X pins σ H s→RelV x v→RelV y u→t x y H Q →
    wpAny (model X.prog X.w) X.A (inplaceOp op v u) (EP X pins σ Q) X.xe s
section
variable {X : Cx} {pos : Pos}
def qhE (i:Nat):TG:=fun v σ H Q=>Q (σ.set i (some v)) H
theorem qcd {i:Nat} {x:Str} (hN:X.N.Nodup) (hi:X.N[i]?=some x) (hx:Loc X.env.scope x) (hf:X.fn x=true∨X.env.scope.names.lookup x=some .local:=by first | exact .inl rfl | exact .inr rfl | assumption):PG X (.Name x pos) (qhE i):=by
  intro pins s σ H v u Q I r h
  exact wpAny_assign_Name (qeY I hN hi hx r (fun s' I'=>⟨_,H,I',h⟩) hf)
def qoM:TGs:=fun vs σ H Q=>vs=[]∧Q σ H
def qnU (t:TG) (u:TGs):TGs:=fun vs σ H Q=>∃ v r,vs=v::r∧t v σ H fun σ' H'=>u r σ' H' Q
theorem pgs_nil:PGs X [] qoM:=by
  intro pins s σ H vs us Q I r h
  obtain ⟨e,h⟩:=h
  subst e
  cases r
  exact assignInOrder_nil ⟨σ,H,I,h⟩
theorem qcE {e:Expr} {es:List Expr} {t:TG} {u:TGs} (h1:PG X e t) (h2:PGs X es u)
    (hs:(assignEach (e::es) X.env).map (·.2)=assign e X.env::(assignEach es X.env).map (·.2):=by rfl):PGs X (e::es) (qnU t u):=by
  intro pins s σ H vs us Q I r h
  obtain ⟨v,vr,e1,h⟩:=h
  subst e1
  cases r with
  | cons r rr =>
    rw [hs]
    refine assignInOrder_cons (thn (h1 pins s σ H _ _ _ I r h) fun _ s1 hq0=>?_)
    obtain ⟨σ1,H1,I1,q1⟩:=hq0
    exact h2 pins s1 σ1 H1 _ _ Q I1 rr q1
def qnd (K:PySem.W.Frag) (n:Nat) (t:TGs):TG:=fun v σ H Q=>∃ a xs,v=.ref a∧SqT K H a xs∧xs.length=n∧t xs σ H Q
theorem qgS {es:List Expr} {k:Nat} {t:TGs} {n:Nat} (hc:X.calm=true) (h:PGs X es t)
    (hn:(assignEach es X.env).length=n:=by rfl) (hst:(assignEach es X.env).findIdx? (·.1)=none:=by rfl):PG X (.Tuple es k pos) (qnd X.K n t):=by
  intro pins s σ H v u Q I r hw
  obtain ⟨a,xs,e1,hq,hl,hw⟩:=hw
  subst e1
  cases r
  obtain ⟨its,rv,ht,hz⟩:=I.tuple hq
  refine assign_Tuple_tuple (I.ok.hd hc) ht (by simp [hn,← hl,rv.length]) hst fun h' hx=>?_
  have I1:Inv X pins σ H { s with heap:=h' }:=I.kept (t':=s.toks) fun b o e=>hx b o (Nat.ne_of_lt (Heap.lt_size e)) e
  exact h pins _ σ H xs _ Q I1 (by simpa using rv) hw
def qoF (to ti:TE) (t:qmh):TG:=fun v σ H Q=>to σ H fun o H1=>ti σ H1 fun i H2=>t o i v H2 fun H3=>Q σ H3
theorem qmv {o i:Expr} {to ti:TE} {t:qmh} (ho:PE X o to) (hi:PE X i ti) (hs:qnO X t)
    (ha:∀ v,assign (.Subscript o i pos) X.env v=(do
      let ov ← holding [v] (eval o X.env)
      let iv ← holding [v,ov] (eval i X.env)
      standAt pos
      holding [v,ov,iv] (setItem ov iv v)
      release [v,ov,iv] []):=by intro _;rfl):PG X (.Subscript o i pos) (qoF to ti t):=by
  intro pins s σ H v u Q I r h
  rw [ha]
  refine wpAny_bind (wpAny_holding (thn (ho pins s σ H _ I h) fun ov s1 hq0=>?_))
  obtain ⟨x,H1,I1,r1,q1⟩:=hq0
  refine wpAny_bind (wpAny_holding (thn (hi pins s1 σ H1 _ I1 q1) fun iv s2 hq1=>?_))
  obtain ⟨y,H2,I2,r2,q2⟩:=hq1
  refine wpAny_bind (wpAny_standAt (wpAny_bind (wpAny_holding (thn (hs pins s2 σ H2 x y v ov iv u _ I2 r1 r2 r q2) fun _ s3 hq2=>?_))))
  obtain ⟨H3,I3,q3⟩:=hq2
  exact wpAny_release ⟨σ,H3,I3,q3⟩
def qmm (te:TE) (g:TG):TS:=fun D σ H=>te σ H fun x H1=>g x σ H1 D.nx
theorem qkI {tg e:Expr} {te:TE} {g:TG} (he:PE X e te) (hg:PG X tg g) (hs:swapsWithSole [tg] e pos.line X.env=pure false:=by rfl) (hw:swappedStores [tg] e X.env=pure none:=by rfl)
    (h1:(assignEach [tg] X.env).map (·.2)=[assign tg X.env]:=by rfl):PS X (.Assign [tg] e pos) (qmm te g):=by
  intro pins s σ H D I h
  refine wpAny_Assign_stores (thn (he pins s σ H _ I h) fun v s1 hq0=>?_) hs hw
  obtain ⟨x,H1,I1,r1,q1⟩:=hq0
  rw [h1]
  exact thn (hg pins s1 σ H1 x v _ I1 r1 q1) fun _ s2 q=>q
theorem qcm {i:Nat} {x:Str} {e:Expr} {te:TE} {pos':Pos} (hN:X.N.Nodup) (hi:X.N[i]?=some x) (hx:Loc X.env.scope x) (he:PE X e te) (hs:swapsWith e (some (.Name x pos')) pos.line X.env=pure false:=by rfl) (hf:X.fn x=true∨X.env.scope.names.lookup x=some .local:=by first | exact .inl rfl | exact .inr rfl | assumption) :
    PS X (.Assign [.Name x pos'] e pos) (qmm te (qhE i)):=by
  intro pins s σ H D I h
  refine wpAny_Assign_Name (thn (he pins s σ H _ I h) fun v s1 hq0=>?_) hs
  obtain ⟨y,H1,I1,r1,q1⟩:=hq0
  exact qeY I1 hN hi hx r1 (fun s2 I2=>⟨_,H1,I2,q1⟩) hf
def qo9 (i:Nat) (te:TE) (ti:TIp):TS:=fun D σ H=>∃ x,σ[i]?=some (some x)∧te σ H fun y H1=>ti x y H1 fun z H2=>D.nx (σ.set i (some z)) H2
theorem qmg {i:Nat} {x:Str} {e:Expr} {te:TE} {op:Operator} {ti:TIp} {pos':Pos} (hN:X.N.Nodup) (hi:X.N[i]?=some x) (hx:Loc X.env.scope x) (he:PE X e te) (ho:PIp X op ti) (hf:X.fn x=true∨X.env.scope.names.lookup x=some .local:=by first | exact .inl rfl | exact .inr rfl | assumption) :
    PS X (.AugAssign (.Name x pos') op e pos) (qo9 i te ti):=by
  intro pins s σ H D I h
  obtain ⟨v,e1,h⟩:=h
  obtain ⟨m,hn,hl⟩:=I.loc
  have vis:Vis X.env.scope x:=by rcases hx with k | k;exact .inl k;exact .inr (.inl k)
  obtain ⟨u,r,l⟩:=hl i x v hi e1 vis
  refine wpAny_AugAssign_Name ?_
  have go:wpAny (model X.prog X.w) X.A (eval e X.env) (fun w s₂=>wpAny (model X.prog X.w) X.A (inplaceOp op u w) (fun r s₃=>wpAny (model X.prog X.w) X.A (storeName X.env x r) (fun _=>SP X pins D .next) X.xe s₃) X.xe s₂) X.xe s:=by
    refine thn (he pins s σ H _ I h) fun w s1 hq0=>?_
    obtain ⟨y,H1,I1,r1,q1⟩:=hq0
    refine thn (ho pins s1 σ H1 v y u w _ I1 r r1 q1) fun z s2 hq1=>?_
    obtain ⟨zv,H2,I2,r2,q2⟩:=hq1
    exact qeY I2 hN hi hx r2 (fun s3 I3=>⟨_,H2,I3,q2⟩) hf
  rcases l with ⟨hk,hm⟩ | ⟨hk,c,hc,hcell⟩
  · exact wpAny_loadName_local I.ok.kind hk hn hm go
  · rcases hk with hk | hk
    · exact wpAny_loadName_cell I.ok.kind hk hc hcell go
    · rcases hx with k | k
      · have:X.env.scope.names.lookup x=some .free:=hk
        rw [k] at this;cases this
      · have:X.env.scope.names.lookup x=some .free:=hk
        rw [k] at this;cases this
def qnr (to ti te:TE) (tget:V→V→Hp→VK→Prop) (tip:TIp) (tset:qmh):TS:=fun D σ H=>to σ H fun o H1=>ti σ H1 fun i H2=>tget o i H2 fun x H3=>te σ H3 fun y H4=>tip x y H4 fun z H5=>tset o i z H5 fun H6=>D.nx σ H6
def qnM (X:Cx) (t:V→V→Hp→VK→Prop):Prop :=
  ∀ (pins:List (Addr × Obj)) (s:Shared) (σ:St) (H:Hp) (o i:V) (ov iv:Value) (Q:VK),Inv X pins σ H s→RelV o ov→RelV i iv→t o i H Q →
    wpAny (model X.prog X.w) X.A (getItem ov iv) (EP X pins σ Q) X.xe s
theorem qlv {o i e:Expr} {to ti te:TE} {tget:V→V→Hp→VK→Prop} {tip:TIp} {tset:qmh} {op:Operator} {tpos:Pos} (ho:PE X o to) (hi:PE X i ti) (hg:qnM X tget) (he:PE X e te) (hp:PIp X op tip) (hs:qnO X tset)
    (ha:∀ ov iv new,augStore i ov iv new=(do holding [new,ov,iv] (setItem ov iv new);release [new,ov,iv] [];pure .next):=by intros;rfl):PS X (.AugAssign (.Subscript o i tpos) op e pos) (qnr to ti te tget tip tset):=by
  intro pins s σ H D I h
  refine wpAny_AugAssign_SubscriptAny (thn (ho pins s σ H _ I h) fun ov s1 hq0=>?_) ha
  obtain ⟨x1,H1,I1,r1,q1⟩:=hq0
  refine thn (hi pins s1 σ H1 _ I1 q1) fun iv s2 hq1=>?_
  obtain ⟨x2,H2,I2,r2,q2⟩:=hq1
  refine thn (hg pins s2 σ H2 x1 x2 ov iv _ I2 r1 r2 q2) fun old s3 hq2=>?_
  obtain ⟨x3,H3,I3,r3,q3⟩:=hq2
  refine thn (he pins s3 σ H3 _ I3 q3) fun v s4 hq3=>?_
  obtain ⟨x4,H4,I4,r4,q4⟩:=hq3
  refine thn (hp pins s4 σ H4 x3 x4 old v _ I4 r3 r4 q4) fun new s5 hq4=>?_
  obtain ⟨x5,H5,I5,r5,q5⟩:=hq4
  exact thn (hs pins s5 σ H5 x1 x2 x5 ov iv new _ I5 r1 r2 r5 q5) fun _ s6 hq5=>by obtain ⟨H6,I6,q6⟩:=hq5;exact ⟨σ,H6,I6,q6⟩
def ipI (f:Int→Int→Int):TIp:=fun x y H Q=>∃ i j,x=.int i∧y=.int j∧Q (.int (f i j)) H
theorem qkF:PIp X .Add (ipI fun i j=>i+j):=by
  intro pins s σ H x y v u Q I r1 r2 h
  obtain ⟨i,j,e1,e2,q⟩:=h
  subst e1;subst e2
  obtain ⟨t,rfl⟩:=r1
  obtain ⟨t',rfl⟩:=r2
  exact iadd_int ⟨.int _,H,I.tok _,⟨_,rfl⟩,q⟩
end
section
variable {X : Cx} {pos : Pos}
def qkB (c:TT) (tb:TS):TS:=fun D σ H=>∃ W:Nat→St→Hp→Prop,(∃ m,W m σ H)∧∀ m σ H,W m σ H →
  c σ H fun b H1=>if b=true then ∃ N:St→Hp→Prop,(∀ σ' H',N σ' H'→∃ m',m'<m∧W m' σ' H')∧tb { D with nx:=N,ct:=N,bk:=D.nx } σ H1 else D.nx σ H1
theorem qjA {c:Expr} {body:List Stmt} {tc:TT} {tb:TS} (hp:PassesOwn (model X.prog X.w) X.A X.env X.xe) (hc:PT X c tc) (hb:PSs X body tb):PS X (.While c body [] pos) (qkB tc tb):=by
  intro pins s σ H D I h
  obtain ⟨W,⟨m0,w0⟩,turn⟩:=h
  refine wpAny_While (codeAny_whileLoop (fun n s'=>∃ σ' H',Inv X pins σ' H' s'∧W n σ' H') ?_ m0 ⟨σ,H,I,w0⟩)
  rintro n s1 ⟨σ1,H1,I1,w1⟩
  refine wpAny_passesOwn hp (thn (hc pins s1 σ1 H1 _ I1 (turn n σ1 H1 w1)) fun b s2 hq0=>?_)
  obtain ⟨H2,I2,q2⟩:=hq0
  cases b with
  | true =>
    obtain ⟨N,hN,q2⟩:=q2
    rw [if_pos rfl]
    refine wpAny_passesOwn hp (thn (hb pins s2 σ1 H2 _ I2 q2) fun f s3 q3=>?_)
    cases f with
    | next =>
      obtain ⟨σ3,H3,I3,n3⟩:=q3
      obtain ⟨m',hm,w3⟩:=hN σ3 H3 n3
      exact ⟨m',hm,σ3,H3,I3,w3⟩
    | cont =>
      obtain ⟨σ3,H3,I3,n3⟩:=q3
      obtain ⟨m',hm,w3⟩:=hN σ3 H3 n3
      exact ⟨m',hm,σ3,H3,I3,w3⟩
    | brk=>exact q3
    | ret v=>exact q3
  | false =>
    rw [if_neg Bool.false_ne_true]
    exact wpAny_execs_nil ⟨σ1,H2,I2,q2⟩
end
structure It where
  go:Nat→Hp→Prop
  yld:Nat→Hp→V→Hp→Prop
  stop:Nat→Hp→Prop
def qe0 (X:Cx) (pins:List (Addr × Obj)) (H:Hp) (b:Addr):Prop :=
  H b=none∧b≠X.env.locals∧b∉X.fs∧(b∈X.ex∨X.s₀.heap.objs.size≤b)∧(∀ x c,X.env.cells.lookup x=some c→c≠b)∧∀ p∈X.pn++pins,p.1≠b
theorem Inv.fpOk {X:Cx} {pins:List (Addr × Obj)} {σ:St} {H H':Hp} {s:Shared} {b:Addr} (I:Inv X pins σ H s) (hb:s.heap.objs.size≤b) (hn:H' b=none):qe0 X pins H' b:=by
  refine ⟨hn,Nat.ne_of_gt (Nat.lt_of_lt_of_le I.lt hb),I.nofs hb,.inr (Nat.le_trans I.sz hb),fun x c e z=>?_,fun p hp z=>?_⟩
  · obtain ⟨v,q⟩:=I.cell x c e
    exact absurd (Nat.lt_of_lt_of_le q.lt (by rw [z];exact hb)) (Nat.lt_irrefl _)
  · exact absurd (Nat.lt_of_lt_of_le (Heap.lt_size (I.pin p hp).1) (by rw [z];exact hb)) (Nat.lt_irrefl _)
structure Turn (P:Program) (w:World) (K:PySem.W.Frag) (tg:Expr) (J:It) (fp:List Addr) (it:Addr) (tn:Nat→Heap→Prop):Prop where
  mem:it∈fp
  obj:∀ i h,tn i h→∀ b∈fp,∃ o,h.get? b=some o∧∀ v,o.data≠.cell v
  keep:∀ i h h',tn i h→(∀ b∈fp,∀ o,h.get? b=some o→h'.get? b=some o)→tn i h'
  item:∀ (X:Cx),X.prog=P→X.w=w→X.K=K→X.calm=true→∀ (i:Nat) (pins:List (Addr × Obj)) (s:Shared) (σ:St) (H:Hp) (E:Value→Shared→Prop),Inv X pins σ H s→(∀ b∈fp,qe0 X pins H b)→tn i s.heap→J.go i H →
    wpAny (model P w) X.A (pyNext (.ref it)) (fun r s1=>∃ u,r=some u ∧
      wpAny (model P w) X.A (letOwnedTupleGo tg (.ref it) u) (fun _ s2=>∃ x H',Inv X pins σ H' s2∧RelV x u∧J.yld i H x H'∧tn (i+1) s2.heap∧∀ b∈fp,H' b=none) E s1) E s
  done:∀ (X:Cx),X.prog=P→X.w=w→X.K=K→X.calm=true→∀ (i:Nat) (pins:List (Addr × Obj)) (s:Shared) (σ:St) (H:Hp) (E:Value→Shared→Prop),Inv X pins σ H s→(∀ b∈fp,qe0 X pins H b)→tn i s.heap→J.stop i H →
    wpAny (model P w) X.A (pyNext (.ref it)) (fun r s1=>r=none∧Inv X pins σ H s1) E s
  self:∀ (A:Around) (i:Nat) (s:Shared) (Q:Value→Shared→Prop) (E:Value→Shared→Prop),tn i s.heap→Q (.ref it) s→wpAny (model P w) A (pyIter (.ref it)) Q E s
abbrev TI:=St→Hp→(It→Hp→Prop)→Prop
def PIE (X:Cx) (pins:List (Addr × Obj)) (σ:St) (tg:Expr) (R:It→Hp→Prop) (itv:Value) (s2:Shared):Prop :=
  ∃ (it:Addr) (fp:List Addr) (tn:Nat→Heap→Prop) (J:It) (H':Hp),itv=.ref it∧Inv X pins σ H' s2∧Turn X.prog X.w X.K tg J fp it tn∧tn 0 s2.heap∧(∀ b∈fp,qe0 X pins H' b)∧R J H'
def PI (X:Cx) (tg iter:Expr) (wi:TI):Prop :=
  ∀ (pins:List (Addr × Obj)) (s:Shared) (σ:St) (H:Hp) (R:It→Hp→Prop),Inv X pins σ H s→wi σ H R →
    wpAny (model X.prog X.w) X.A (eval iter X.env) (fun v s1=>wpAny (model X.prog X.w) X.A (pyIter v) (PIE X pins σ tg R) X.xe s1) X.xe s
theorem qli {M:Model} {A:Around} {E:Value→Shared→Prop} {s:Shared} {tg:Expr} {it:Addr} {u:Value} {o:Obj} {n:String} {vs:Array Value} {Q:Unit→Shared→Prop} (ho:s.heap.get? it=some o) (hc:o.cls=.type n) (hd:o.data=.fields vs)
    (hn:["enumerate","zip","dict_itemiterator","dict_reverseitemiterator","odict_iterator","itertools.zip_longest","itertools.pairwise"].contains n=false) (hQ:Q () s):wpAny M A (letOwnedTupleGo tg (.ref it) u) Q E s:=by
  unfold letOwnedTupleGo
  cases tg <;> first
    | exact wpAny_pure hQ
    | (cases u <;> first
        | exact wpAny_pure hQ
        | (refine wpAny_bind (wpAny_load ho ?_)
           rw [hc,hd]
           show wpAny M A (if (["enumerate","zip","dict_itemiterator","dict_reverseitemiterator","odict_iterator","itertools.zip_longest","itertools.pairwise"].contains n && vs[0]? == some (rawInt _))=true then _ else _) Q E s
           rw [if_neg (by intro h;rw [hn,Bool.false_and] at h;cases h)]
           exact wpAny_pure hQ))
def Itl (K:PySem.W.Frag) (a:Addr):It :=
  ⟨fun i H=>∃ xs x,SqL K H a xs∧xs[i]?=some x,fun i H x H'=>H'=H∧∀ xs,SqL K H a xs→xs[i]?=some x,fun i H=>∃ xs,SqL K H a xs∧xs.length≤i⟩
def Itt (K:PySem.W.Frag) (a:Addr):It :=
  ⟨fun i H=>∃ xs x,SqT K H a xs∧xs[i]?=some x,fun i H x H'=>H'=H∧∀ xs,SqT K H a xs→xs[i]?=some x,fun i H=>∃ xs,SqT K H a xs∧xs.length≤i⟩
def Itr (lo:Int) (n:Nat):It:=⟨fun i _=>i<n,fun i H x H'=>H'=H∧x=.int (lo+i),fun i _=>n≤i⟩
theorem qiS {P:Program} {w:World} {K:PySem.W.Frag} {tg:Expr} (a it:Addr):Turn P w K tg (Itl K a) [it] it (fun i h=>h.IsListIter it a i) where
  mem:=by simp
  obj:=fun i h st b hb=>by
    have e:b=it:=by simpa using hb
    subst e
    obtain ⟨o,e,c,d⟩:=st
    exact ⟨o,e,fun v z=>by rw [d] at z;cases z⟩
  keep:=fun i h h' st k=>st.at fun o e=>k it (by simp) o e
  item:=by
    intro X hP hw hK hc i pins s σ H E I hf st hg
    subst hP hw hK
    obtain ⟨xs,x,hq,hx⟩:=hg
    obtain ⟨its,rv,p,hz⟩:=I.list hq
    obtain ⟨u,hu,ru⟩:=rv.get hx
    obtain ⟨f0,f1,f2,f3,f4,f5⟩:=hf it (by simp)
    refine wpAny_pyNext_list_item st p.isList (x:=u) (by simpa using hu) fun h' st' sb=>?_
    have I1:Inv X pins σ H { s with heap:=h' }:=I.turned (t':=s.toks) (fun b o hb e=>(sb.2 b hb).trans e) f0 f1 f3 f4 f5
    obtain ⟨o,e,c,d⟩:=id st'
    exact ⟨u,rfl,qli (s:={ s with heap:=h' }) e c d (by decide) ⟨x,H,I1,ru,⟨rfl,fun ys hy=>by rw [I.list_inj hy hq];exact hx⟩,st',fun b hb=>(hf b hb).1⟩⟩
  done:=by
    intro X hP hw hK hc i pins s σ H E I hf st hg
    subst hP hw hK
    obtain ⟨xs,hq,hx⟩:=hg
    obtain ⟨its,rv,p,hz⟩:=I.list hq
    obtain ⟨f0,f1,f2,f3,f4,f5⟩:=hf it (by simp)
    have hl:=rv.length
    exact wpAny_pyNext_list_end (I.ok.hd hc) st p.isList (by simp;omega) fun h' eb=>⟨rfl,I.turned (t':=s.toks) (fun b o hb e=>eb b o hb e) f0 f1 f3 f4 f5⟩
  self:=fun _ _ _ _ _ st h=>wpAny_pyIter_listiter st h
theorem qeQ {P:Program} {w:World} {K:PySem.W.Frag} {tg:Expr} (a it:Addr):Turn P w K tg (Itt K a) [it] it (fun i h=>h.IsTupleIter it a i) where
  mem:=by simp
  obj:=fun i h st b hb=>by
    have e:b=it:=by simpa using hb
    subst e
    obtain ⟨o,e,c,d⟩:=st
    exact ⟨o,e,fun v z=>by rw [d] at z;cases z⟩
  keep:=fun i h h' st k=>st.at fun o e=>k it (by simp) o e
  item:=by
    intro X hP hw hK hc i pins s σ H E I hf st hg
    subst hP hw hK
    obtain ⟨xs,x,hq,hx⟩:=hg
    obtain ⟨its,rv,p,hz⟩:=I.tuple hq
    obtain ⟨u,hu,ru⟩:=rv.get hx
    obtain ⟨f0,f1,f2,f3,f4,f5⟩:=hf it (by simp)
    refine wpAny_pyNext_tuple_item st (show s.heap.IsTuple a its.toArray from p) (x:=u) (by simpa using hu) fun h' st' sb=>?_
    have I1:Inv X pins σ H { s with heap:=h' }:=I.turned (t':=s.toks) (fun b o hb e=>(sb.2 b hb).trans e) f0 f1 f3 f4 f5
    obtain ⟨o,e,c,d⟩:=id st'
    exact ⟨u,rfl,qli (s:={ s with heap:=h' }) e c d (by decide) ⟨x,H,I1,ru,⟨rfl,fun ys hy=>by rw [I.tuple_inj hy hq];exact hx⟩,st',fun b hb=>(hf b hb).1⟩⟩
  done:=by
    intro X hP hw hK hc i pins s σ H E I hf st hg
    subst hP hw hK
    obtain ⟨xs,hq,hx⟩:=hg
    obtain ⟨its,rv,p,hz⟩:=I.tuple hq
    obtain ⟨f0,f1,f2,f3,f4,f5⟩:=hf it (by simp)
    have hl:=rv.length
    exact wpAny_pyNext_tuple_end (I.ok.hd hc) st (show s.heap.IsTuple a its.toArray from p) (by simp;omega) fun h' eb=>⟨rfl,I.turned (t':=s.toks) (fun b o hb e=>eb b o hb e) f0 f1 f3 f4 f5⟩
  self:=fun _ _ _ _ _ st h=>wpAny_pyIter_tupleiter st h
theorem qhI {P:Program} {w:World} {K:PySem.W.Frag} {tg:Expr} (it:Addr) (lo:Int) (n:Nat):Turn P w K tg (Itr lo n) [it] it (fun i h=>IsRangeIter h it (lo+(i:Nat)*1) ((n:Int) - (i:Nat)) 1) where
  mem:=by simp
  obj:=fun i h st b hb=>by
    have e:b=it:=by simpa using hb
    subst e
    exact ⟨_,st,fun v z=>by
      have z':Data.fields _=Data.cell v:=z
      cases z'⟩
  keep:=fun i h h' st k=>k it (by simp) _ st
  item:=by
    intro X hP hw hK hc i pins s σ H E I hf st hg
    subst hP hw hK
    obtain ⟨f0,f1,f2,f3,f4,f5⟩:=hf it (by simp)
    have W:=Walks.range (prog:=X.prog) (w:=X.w) (I.ok.hd hc) it lo 1 n
    refine W.item i s _ _ hg st fun v h' tk hv st' kk=>?_
    obtain ⟨t,rfl⟩:=hv
    have I1:Inv X pins σ H { s with heap:=h',toks:=tk }:=I.turned (fun b o hb e=>kk b o (by simpa using hb) e) f0 f1 f3 f4 f5
    refine ⟨_,rfl,qli (s:={ s with heap:=h',toks:=tk }) (n:="range_iterator") st' rfl rfl (by decide) ⟨.int (lo+i),H,I1,⟨t,?_⟩,⟨rfl,rfl⟩,st',fun b hb=>(hf b hb).1⟩⟩
    rw [Int.mul_one]
  done:=by
    intro X hP hw hK hc i pins s σ H E I hf st hg
    subst hP hw hK
    obtain ⟨f0,f1,f2,f3,f4,f5⟩:=hf it (by simp)
    exact wpAny_pyNext_range_end (I.ok.hd hc) st (by have:n≤i:=hg;omega) fun h' eb=>⟨rfl,I.turned (t':=s.toks) (fun b o hb e=>eb b o hb e) f0 f1 f3 f4 f5⟩
  self:=fun _ _ _ _ _ st h=>wpAny_pyIter_rangeiter st h
section
variable {X : Cx} {tg : Expr}
def qpf (K:PySem.W.Frag) (tl:TE):TI:=fun σ H R=>tl σ H fun x H1=>∃ a,x=.ref a∧(∃ xs,SqT K H1 a xs)∧R (Itt K a) H1
theorem qfY {l:Expr} {tl:TE} (hl:PE X l tl):PI X tg l (qpf X.K tl):=by
  intro pins s σ H R I h
  refine thn (hl pins s σ H _ I h) fun v s1 hq0=>?_
  obtain ⟨x,H1,I1,r1,q1⟩:=hq0
  obtain ⟨a,e,⟨xs,hq⟩,q⟩:=q1
  subst e
  cases r1
  obtain ⟨its,rv,p,hz⟩:=I1.tuple hq
  refine wpAny_pyIter_tuple (show s1.heap.IsTuple a its.toArray from p) ?_
  refine ⟨s1.heap.objs.size,[s1.heap.objs.size],_,_,H1,rfl,I1.kept (t':=s1.toks) fun b o e=>Heap.get?_push_of_some _ e,qeQ a _,⟨_,Heap.get?_push_size _ rfl,rfl,rfl⟩,fun b hb=>?_,q⟩
  have e:b=s1.heap.objs.size:=by simpa using hb
  subst e
  exact I1.fpOk (Nat.le_refl _) (I1.hok.fresh (Nat.le_refl _))
theorem qg4 {pins:List (Addr × Obj)} {σ:St} {H:Hp} {s:Shared} {R:It→Hp→Prop} {E:Value→Shared→Prop} {lo hi:Int} {t u v:Tok} {tk:Nat} (I:Inv X pins σ H s) (h1:-(2 ^ 62)≤lo) (h2:lo<2 ^ 62) (h3:-(2 ^ 62)≤hi) (h4:hi<2 ^ 62)
    (q:R (Itr lo (hi - lo).toNat) H):wpAny (model X.prog X.w) X.A (pyIter (.ref s.heap.objs.size)) (PIE X pins σ tg R) E { s with heap:=s.heap.push { cls:=.type "range",data:=.fields #[.int lo t,.int hi u,.int 1 v] },toks:=tk }:=by
  refine wpAny_pyIter_range (IsRange.new ..) (small_one h1 h2 h3 h4) ?_
  have I1:Inv X pins σ H { s with heap:=s.heap.push { cls:=.type "range",data:=.fields #[.int lo t,.int hi u,.int 1 v] },toks:=tk }:=I.kept fun b o e=>Heap.get?_push_of_some _ e
  refine ⟨(s.heap.push { cls:=.type "range",data:=.fields #[.int lo t,.int hi u,.int 1 v] }).objs.size,[(s.heap.push { cls:=.type "range",data:=.fields #[.int lo t,.int hi u,.int 1 v] }).objs.size],_,_,H,rfl,
    I1.kept (t':=tk) fun b o e=>Heap.get?_push_of_some _ e,qhI _ lo (hi - lo).toNat,?_,fun b hb=>?_,q⟩
  · have e1:lo+((0:Nat):Int)*1=lo:=by simp
    have e2:(((hi - lo).toNat:Nat):Int) - ((0:Nat):Int)=Builtin.Range.rangeSize lo hi 1:=by rw [rangeSize_one];split <;> omega
    show IsRangeIter _ _ (lo+((0:Nat):Int)*1) ((((hi - lo).toNat:Nat):Int) - ((0:Nat):Int)) 1
    rw [e1,e2]
    exact Heap.get?_push_size _ rfl
  · have e:b=(s.heap.push { cls:=.type "range",data:=.fields #[.int lo t,.int hi u,.int 1 v] }).objs.size:=by simpa using hb
    subst e
    exact I1.fpOk (Nat.le_refl _) (I1.hok.fresh (Nat.le_refl _))
def qnZ (ta:TA):TI:=fun σ H R=>ta σ H fun vs H1=>∃ j:Int,vs=[.int j]∧-(2 ^ 62)≤j∧j<2 ^ 62∧R (Itr 0 j.toNat) H1
def qnB (ta:TA):TI:=fun σ H R=>ta σ H fun vs H1=>∃ i j:Int,vs=[.int i,.int j]∧(-(2 ^ 62)≤i∧i<2 ^ 62∧-(2 ^ 62)≤j∧j<2 ^ 62)∧R (Itr i (j - i).toNat) H1
theorem qiT {a:Expr} {ta:TA} {p pos:Pos} (hg:Gl X "range") (hm:X.mg "range"=none) (ha:PA X [a] ta) (hs:starEach [a] X.env=[(false,eval a X.env)]:=by rfl):PI X tg (.Call (.Name "range" p) [a] [] pos) (qnZ ta):=by
  intro pins s σ H R I h
  refine Call_ (qdy I hg hm boot_range (PyProof.Rows.callWith_type1 (thn (ha pos pins s σ H _ I h) fun us s1 hq0=>?_) hs rfl))
  obtain ⟨vs,H1,I1,r1,q1⟩:=hq0
  obtain ⟨j,e,q1,q2,q⟩:=q1
  subst e
  cases r1 with
  | cons r rr =>
    cases rr
    obtain ⟨t,rfl⟩:=r
    exact call_range_1 (qg4 I1 (by omega) (by omega) q1 q2 (by simpa using q))
theorem qhS {a b:Expr} {ta:TA} {p pos:Pos} (hg:Gl X "range") (hm:X.mg "range"=none) (ha:PA X [a,b] ta) (hs:starEach [a,b] X.env=[(false,eval a X.env),(false,eval b X.env)]:=by rfl) (hs2:starEach [b] X.env=[(false,eval b X.env)]:=by rfl) :
    PI X tg (.Call (.Name "range" p) [a,b] [] pos) (qnB ta):=by
  intro pins s σ H R I h
  refine Call_ (qdy I hg hm boot_range (PyProof.Rows.callWith_type1 (thn (ha pos pins s σ H _ I h) fun us s1 ⟨vs,H1,I1,r1,q1⟩=>?_) (by rw [hs,hs2]) (by rw [hs2];rfl)))
  obtain ⟨i,j,e,⟨q1,q2,q3,q4⟩,q⟩:=q1
  subst e
  cases r1 with
  | cons r rr =>
    cases rr with
    | cons r' rr =>
      cases rr
      obtain ⟨t,rfl⟩:=r
      obtain ⟨t',rfl⟩:=r'
      exact call_range_2 (qg4 I1 q1 q2 q3 q4 q)
def qoW (wi:TI) (g:TG) (tb:TS):TS:=fun D σ H=>wi σ H fun J H1=>∃ W:Nat→Nat→St→Hp→Prop,(∃ m,W 0 m σ H1)∧∀ i m σ H,W i m σ H →
  (J.stop i H∧D.nx σ H)∨(J.go i H∧∃ N:St→Hp→Prop,(∀ σ' H',N σ' H'→∃ m',m'<m∧W (i+1) m' σ' H')∧∀ x H',J.yld i H x H'→g x σ H' fun σ2 H2=>tb { D with nx:=N,ct:=N,bk:=D.nx } σ2 H2)
def qf7 (fp:List Addr) (h:Heap):List (Addr × Obj):=fp.filterMap fun b=>(h.get? b).map fun o=>(b,o)
theorem qc6 {fp:List Addr} {h:Heap} {b:Addr} {o:Obj} (hb:b∈fp) (e:h.get? b=some o):(b,o)∈qf7 fp h:=List.mem_filterMap.mpr ⟨b,hb,by rw [e];rfl⟩
theorem qiD {fp:List Addr} {h:Heap} {p:Addr × Obj} (hp:p∈qf7 fp h):p.1∈fp∧h.get? p.1=some p.2:=by
  obtain ⟨b,hb,e⟩:=List.mem_filterMap.mp hp
  cases q:h.get? b with
  | none=>rw [q] at e;cases e
  | some o =>
    rw [q] at e
    have e':(b,o)=p:=Option.some.inj e
    subst e'
    exact ⟨hb,q⟩
theorem Inv.pinned {pins:List (Addr × Obj)} {σ:St} {H:Hp} {s:Shared} {fp:List Addr} (I:Inv X pins σ H s) (hf:∀ b∈fp,qe0 X pins H b) (ho:∀ b∈fp,∃ o,s.heap.get? b=some o∧∀ v,o.data≠.cell v):Inv X (pins++qf7 fp s.heap) σ H s :=
  I.pins_of fun p hp=>(List.mem_append.mp hp).elim (fun z=>I.pin p (List.mem_append_right _ z)) fun z=>by
    obtain ⟨hb,e⟩:=qiD z
    obtain ⟨f0,f1,f2,_⟩:=hf p.1 hb
    obtain ⟨o,e',d⟩:=ho p.1 hb
    rw [e] at e';cases e'
    exact ⟨e,f0,f1,f2,d⟩
theorem Inv.unpinned {pins pl:List (Addr × Obj)} {σ:St} {H:Hp} {s:Shared} (I:Inv X (pins++pl) σ H s):Inv X pins σ H s:=I.pins_of fun p hp=>I.pin p (List.mem_append_right _ (List.mem_append_left _ hp))
theorem qif {iter:Expr} {body:List Stmt} {wi:TI} {g:TG} {tb:TS} {pos:Pos} (hp:PassesOwn (model X.prog X.w) X.A X.env X.xe) (hc:X.calm=true) (hi:PI X tg iter wi) (hg:PG X tg g) (hb:PSs X body tb)
    (hs:∀ x,foldedSetIterable iter X.env x=pure x:=by intro _;rfl):PS X (.For tg iter body [] pos) (qoW wi g tb):=by
  intro pins s σ H D I h
  refine wpAny_For (thn (hi pins s σ H _ I h) fun v s1 h1=>thn h1 fun itv s2 h2=>?_) hs
  obtain ⟨it,fp,tn,J,H2,e,I2,T,st2,f2,W,⟨m0,w0⟩,turn⟩:=h2
  subst e
  have stat:∀ {H':Hp},(∀ b∈fp,H' b=none)→∀ b∈fp,qe0 X pins H' b:=fun hn b hb=>⟨hn b hb,(f2 b hb).2⟩
  refine codeAny_forLoop_any (fun n s'=>∃ i σ' H',Inv X pins σ' H' s'∧tn i s'.heap∧(∀ b∈fp,H' b=none)∧W i n σ' H') ?_ m0 ⟨0,σ,H2,I2,st2,fun b hb=>(f2 b hb).1,w0⟩
  rintro n s3 ⟨i,σ3,H3,I3,st3,fr3,w3⟩
  rcases turn i n σ3 H3 w3 with ⟨stop,qn⟩ | ⟨go,N,hN,step⟩
  · refine wpAny_passesOwn hp (thn (T.done X rfl rfl rfl hc i pins s3 σ3 H3 X.xe I3 (stat fr3) st3 stop) fun r s4 hq0=>?_)
    obtain ⟨hr,I4⟩:=hq0
    subst hr
    exact wpAny_execs_nil ⟨σ3,H3,I4,qn⟩
  · refine wpAny_passesOwn hp (thn (T.item X rfl rfl rfl hc i pins s3 σ3 H3 X.xe I3 (stat fr3) st3 go) fun r s4 hq1=>?_)
    obtain ⟨u,hr,h4⟩:=hq1
    subst hr
    refine wpAny_passesOwn hp (thn h4 fun _ s5 hq2=>?_)
    obtain ⟨x,H5,I5,r5,y5,st5,fr5⟩:=hq2
    have I5':=I5.pinned (stat fr5) (T.obj _ _ st5)
    refine wpAny_passesOwn hp (thn (hg _ s5 σ3 H5 x u _ I5' r5 (step x H5 y5)) fun _ s6 hq3=>?_)
    obtain ⟨σ6,H6,I6,q6⟩:=hq3
    refine wpAny_passesOwn hp (thn (hb _ s6 σ6 H6 _ I6 q6) fun f s7 q7=>?_)
    have again:∀ {σ7:St} {H7:Hp},Inv X (pins++qf7 fp s5.heap) σ7 H7 s7→N σ7 H7→∃ m,m<n∧∃ i σ' H',Inv X pins σ' H' s7∧tn i s7.heap∧(∀ b∈fp,H' b=none)∧W i m σ' H':=fun {σ7 H7} I7 n7=>by
      obtain ⟨m',hm,w7⟩:=hN σ7 H7 n7
      refine ⟨m',hm,i+1,σ7,H7,I7.unpinned,T.keep _ _ _ st5 fun b hb o e=>(I7.pin (b,o) (List.mem_append_right _ (List.mem_append_right _ (qc6 hb e)))).1,fun b hb=>?_,w7⟩
      obtain ⟨o,e,d⟩:=T.obj _ _ st5 b hb
      exact (I7.pin (b,o) (List.mem_append_right _ (List.mem_append_right _ (qc6 hb e)))).2.1
    cases f with
    | next=>obtain ⟨σ7,H7,I7,n7⟩:=q7;exact again I7 n7
    | cont=>obtain ⟨σ7,H7,I7,n7⟩:=q7;exact again I7 n7
    | brk=>obtain ⟨σ7,H7,I7,q7⟩:=q7;exact ⟨σ7,H7,I7.unpinned,q7⟩
    | ret v=>obtain ⟨x7,σ7,H7,I7,r7,q7⟩:=q7;exact ⟨x7,σ7,H7,I7.unpinned,r7,q7⟩
end
theorem qjH {c:TT} {tb:TS} {D:Ends} {σ:St} {H:Hp} (Pv:St→Hp→Prop) (μ:St→Hp→Nat) (h0:Pv σ H)
    (hs:∀ σ H,Pv σ H→c σ H fun b H1=>if b=true then tb { D with nx:=fun σ' H'=>Pv σ' H'∧μ σ' H'<μ σ H,ct:=fun σ' H'=>Pv σ' H'∧μ σ' H'<μ σ H,bk:=D.nx } σ H1 else D.nx σ H1)
    (mono:∀ σ H Q Q',(∀ b H1,Q b H1→Q' b H1)→c σ H Q→c σ H Q'):qkB c tb D σ H:=by
  refine ⟨fun m σ H=>m=μ σ H∧Pv σ H,⟨_,rfl,h0⟩,?_⟩
  rintro m σ H ⟨rfl,p⟩
  refine mono σ H _ _ (fun b H1 q=>?_) (hs σ H p)
  cases b with
  | true=>exact ⟨_,fun σ' H' hq0=>by obtain ⟨p',l⟩:=hq0;exact ⟨_,l,rfl,p'⟩,q⟩
  | false=>exact q
abbrev R2:=V→V→Hp→VK→Prop
def OpR (X:Cx) (f:Value→Value→Sem Value) (r:R2):Prop :=
  ∀ (pins:List (Addr × Obj)) (s:Shared) (σ:St) (H:Hp) (x y:V) (v u:Value) (Q:VK),Inv X pins σ H s→RelV x v→RelV y u→r x y H Q →
    wpAny (model X.prog X.w) X.A (f v u) (EP X pins σ Q) X.xe s
def UnR (X:Cx) (f:Value→Sem Value) (r:V→Hp→VK→Prop):Prop :=
  ∀ (pins:List (Addr × Obj)) (s:Shared) (σ:St) (H:Hp) (x:V) (v:Value) (Q:VK),Inv X pins σ H s→RelV x v→r x H Q →
    wpAny (model X.prog X.w) X.A (f v) (EP X pins σ Q) X.xe s
def qcv (X:Cx) (f:Value) (r:List V→Hp→VK→Prop):Prop :=
  ∀ (pins:List (Addr × Obj)) (s:Shared) (σ:St) (H:Hp) (xs:List V) (us:List Value) (Q:VK),Inv X pins σ H s→Vals xs us→r xs H Q →
    wpAny (model X.prog X.w) X.A (call f us) (EP X pins σ Q) X.xe s
def qoq (X:Cx) (r:V→Hp→(Bool→Hp→Prop)→Prop):Prop :=
  ∀ (pins:List (Addr × Obj)) (s:Shared) (σ:St) (H:Hp) (x:V) (v:Value) (Q:Bool→Hp→Prop),Inv X pins σ H s→RelV x v→r x H Q →
    wpAny (model X.prog X.w) X.A (truthy v) (TP X pins σ Q) X.xe s
def tOp (r:R2) (ta tb:TE):TE:=fun σ H Q=>ta σ H fun x H1=>tb σ H1 fun y H2=>r x y H2 Q
def tUn (r:V→Hp→VK→Prop) (ta:TE):TE:=fun σ H Q=>ta σ H fun x H1=>r x H1 Q
def rI (C:Int→Int→Prop) (g:Int→Int→V):R2:=fun x y H Q=>∃ i j,x=.int i∧y=.int j∧C i j∧Q (g i j) H
def rI0 (g:Int→Int→V):R2:=fun x y H Q=>∃ i j,x=.int i∧y=.int j∧Q (g i j) H
def rU (g:Int→V):V→Hp→VK→Prop:=fun x H Q=>∃ i,x=.int i∧Q (g i) H
section
variable {X : Cx} {a b c : Expr} {ta tb tc : TE} {pos : Pos}
theorem qny (ha:PE X a ta) (hb:PE X b tb) {pins:List (Addr × Obj)} {s:Shared} {σ:St} {H:Hp} {R:V→V→Hp→Prop} (I:Inv X pins σ H s)
    (h:ta σ H fun x H1=>tb σ H1 fun y H2=>R x y H2) {Q:Value→Shared→Prop} {f:Value→Value→Sem Value}
    (hf:∀ v u s2 x y H2,Inv X pins σ H2 s2→RelV x v→RelV y u→R x y H2→wpAny (model X.prog X.w) X.A (f v u) Q X.xe s2) :
    wpAny (model X.prog X.w) X.A (eval a X.env) (fun v s₁=>wpAny (model X.prog X.w) X.A (eval b X.env) (fun u s₂=>wpAny (model X.prog X.w) X.A (f v u) Q X.xe s₂) X.xe s₁) X.xe s:=by
  refine thn (ha pins s σ H _ I h) fun v s1 hq0=>?_
  obtain ⟨x,H1,I1,r1,q1⟩:=hq0
  refine thn (hb pins s1 σ H1 _ I1 q1) fun u s2 hq1=>?_
  obtain ⟨y,H2,I2,r2,q2⟩:=hq1
  exact hf v u s2 x y H2 I2 r1 r2 q2
theorem qd1 {op:Operator} {r:R2} (ho:OpR X (binaryOp op) r) (ha:PE X a ta) (hb:PE X b tb):PE X (.BinOp a op b pos) (tOp r ta tb):=by
  intro pins s σ H Q I h
  exact wpAny_BinOp (qny ha hb I h fun v u s2 x y H2 I2 rx ry q=>ho pins s2 σ H2 x y v u Q I2 rx ry q)
theorem qik {op:UnaryOp} {r:V→Hp→VK→Prop} (ho:UnR X (unaryOp op) r) (ha:PE X a ta):PE X (.UnaryOp op a pos) (tUn r ta):=by
  intro pins s σ H Q I h
  exact UnaryOp_ (thn (ha pins s σ H _ I h) fun v s1 hq0=>by obtain ⟨x,H1,I1,r1,q1⟩:=hq0;exact ho pins s1 σ H1 x v Q I1 r1 q1)
theorem opI {f:Value→Value→Sem Value} {C:Int→Int→Prop} {g:Int→Int→Int}
    (rule:∀ (i j:Int) (t u:Tok) (s:Shared) (Q:Value→Shared→Prop) (E:Value→Shared→Prop),C i j→Q (.int (g i j) s.toks) { s with toks:=s.toks+1 }→wpAny (model X.prog X.w) X.A (f (.int i t) (.int j u)) Q E s) :
    OpR X f (rI C fun i j=>.int (g i j)):=by
  intro pins s σ H x y v u Q I rx ry h
  obtain ⟨i,j,rfl,rfl,hc,q⟩:=h
  obtain ⟨t,rfl⟩:=rx
  obtain ⟨t',rfl⟩:=ry
  exact rule i j t t' s _ _ hc ⟨.int (g i j),H,I.tok _,⟨_,rfl⟩,q⟩
theorem qog {f:Value→Value→Sem Value} {g:Int→Int→Int}
    (rule:∀ (i j:Int) (t u:Tok) (s:Shared) (Q:Value→Shared→Prop) (E:Value→Shared→Prop),Q (.int (g i j) s.toks) { s with toks:=s.toks+1 }→wpAny (model X.prog X.w) X.A (f (.int i t) (.int j u)) Q E s) :
    OpR X f (rI0 fun i j=>.int (g i j)):=by
  intro pins s σ H x y v u Q I rx ry h
  obtain ⟨i,j,rfl,rfl,q⟩:=h
  obtain ⟨t,rfl⟩:=rx
  obtain ⟨t',rfl⟩:=ry
  exact rule i j t t' s _ _ ⟨.int (g i j),H,I.tok _,⟨_,rfl⟩,q⟩
theorem qng {f:Value→Value→Sem Value} {g:Int→Int→Bool}
    (rule:∀ (i j:Int) (t u:Tok) (s:Shared) (Q:Value→Shared→Prop) (E:Value→Shared→Prop),Q (.bool (g i j)) s→wpAny (model X.prog X.w) X.A (f (.int i t) (.int j u)) Q E s) :
    OpR X f (rI0 fun i j=>.bl (g i j)):=by
  intro pins s σ H x y v u Q I rx ry h
  obtain ⟨i,j,rfl,rfl,q⟩:=h
  obtain ⟨t,rfl⟩:=rx
  obtain ⟨t',rfl⟩:=ry
  exact rule i j t t' s _ _ ⟨.bl (g i j),H,I,rfl,q⟩
def qob (i j:Int):Prop:=0≤j∧j≤1000000∧i.natAbs<2 ^ 64
theorem qgY:OpR X (binaryOp .Add) (rI0 fun i j=>.int (i+j)):=qog fun _ _ _ _ _ _ _ q=>add_int q
theorem qkO:OpR X (binaryOp .Sub) (rI0 fun i j=>.int (i - j)):=qog fun _ _ _ _ _ _ _ q=>sub_int q
theorem qkv:OpR X (binaryOp .Mod) (rI (fun _ j=>0<j) fun i j=>.int (i % j)):=opI fun i j _ _ _ _ _ hc q=>by
  have h1:(0:Int)<j:=hc
  exact mod_int' (by omega) (by rw [Int.fmod_eq_emod_of_nonneg i (by omega)];exact q)
theorem qml:OpR X (binaryOp .Pow) (rI qob fun i j=>.int (i ^ j.toNat)):=opI fun _ _ _ _ _ _ _ hc q=>pow_int_small hc.1 hc.2.1 hc.2.2 q
theorem unI {f:Value→Sem Value} {g:Int→Int}
    (rule:∀ (i:Int) (t:Tok) (s:Shared) (Q:Value→Shared→Prop) (E:Value→Shared→Prop),Q (.int (g i) s.toks) { s with toks:=s.toks+1 }→wpAny (model X.prog X.w) X.A (f (.int i t)) Q E s) :
    UnR X f (rU fun i=>.int (g i)):=by
  intro pins s σ H x v Q I rx h
  obtain ⟨i,rfl,q⟩:=h
  obtain ⟨t,rfl⟩:=rx
  exact rule i t s _ _ ⟨.int (g i),H,I.tok _,⟨_,rfl⟩,q⟩
theorem qgd:UnR X (unaryOp .USub) (rU fun i=>.int (-i)):=unI fun _ _ _ _ _ q=>neg_int q
end
def qoc:V→V→Bool
  | .non,.non=>true | .non,.int _=>true | .int _,.non=>true | .non,.bl _=>true | .bl _,.non=>true | .non,.str _=>true | .str _,.non=>true
  | .int _,.int _=>true | .bl _,.bl _=>true | .str _,.str _=>true | .byt _,.byt _=>true
  | .int _,.str _=>true | .str _,.int _=>true | .bl _,.str _=>true | .str _,.bl _=>true
  | _,_=>false
def rEq:R2:=fun x y H Q=>qoc x y=true∧Q (.bl (decide (x=y))) H
def rNe:R2:=fun x y H Q=>qoc x y=true∧Q (.bl (!decide (x=y))) H
theorem qiq {i j:Int}:decide (V.int i=V.int j)=(i == j):=by
  rw [Bool.eq_iff_iff]
  simp
theorem qkz {i j:Bool}:decide (V.bl i=V.bl j)=(i == j):=by
  rw [Bool.eq_iff_iff]
  simp
theorem qiu {i j:Str}:decide (V.str i=V.str j)=(i == j):=by
  rw [Bool.eq_iff_iff]
  simp
theorem qiK {i j:Array UInt8}:decide (V.byt i=V.byt j)=(i.toList == j.toList):=by
  rw [Bool.eq_iff_iff]
  cases i
  cases j
  simp
section
variable {X : Cx} {a b c : Expr} {ta tb tc : TE} {pos : Pos}
theorem qa2 {pins:List (Addr × Obj)} {σ:St} {H:Hp} {s:Shared} {Q:VK} {k k':Bool} (I:Inv X pins σ H s) (q:Q (.bl k) H) (e:k=k'):EP X pins σ Q (.bool k') s:=by
  subst e
  exact ⟨.bl k,H,I,rfl,q⟩
theorem qf8:OpR X (compareOp .Eq) rEq:=by
  intro pins s σ H x y v u Q I rx ry h
  obtain ⟨hs,q⟩:=h
  cases x with
  | non =>
    cases rx
    cases y with
    | non=>cases ry;exact PySem.EqNone.eq_none_none (qa2 I q (by simp))
    | bl j=>cases ry;exact PySem.EqNone.eq_none_bool (qa2 I q (by simp))
    | int j=>obtain ⟨t',rfl⟩:=ry;exact PySem.EqNone.eq_none_int (qa2 I q (by simp))
    | str j=>obtain ⟨t',rfl⟩:=ry;exact PySem.EqNone.eq_none_str (qa2 I q (by simp))
    | _=>exact absurd (show false=true from hs) Bool.false_ne_true
  | bl i =>
    cases rx
    cases y with
    | non=>cases ry;exact PySem.EqNone.eq_bool_none (qa2 I q (by simp))
    | bl j=>cases ry;exact eq_bool (qa2 I q qkz)
    | str j=>obtain ⟨t',rfl⟩:=ry;exact PySem.EqMixed.eq_bool_str (qa2 I q (by simp))
    | _=>exact absurd (show false=true from hs) Bool.false_ne_true
  | int i =>
    obtain ⟨t,rfl⟩:=rx
    cases y with
    | non=>cases ry;exact PySem.EqNone.eq_int_none (qa2 I q (by simp))
    | int j=>obtain ⟨t',rfl⟩:=ry;exact eq_int (qa2 I q qiq)
    | str j=>obtain ⟨t',rfl⟩:=ry;exact PySem.EqMixed.eq_int_str (qa2 I q (by simp))
    | _=>exact absurd (show false=true from hs) Bool.false_ne_true
  | str i =>
    obtain ⟨t,rfl⟩:=rx
    cases y with
    | non=>cases ry;exact PySem.EqNone.eq_str_none (qa2 I q (by simp))
    | bl j=>cases ry;exact PySem.EqMixed.eq_str_bool (qa2 I q (by simp))
    | int j=>obtain ⟨t',rfl⟩:=ry;exact PySem.EqMixed.eq_str_int (qa2 I q (by simp))
    | str j=>obtain ⟨t',rfl⟩:=ry;exact eq_str (qa2 I q qiu)
    | _=>exact absurd (show false=true from hs) Bool.false_ne_true
  | byt i =>
    obtain ⟨t,rfl⟩:=rx
    cases y with
    | byt j=>obtain ⟨t',rfl⟩:=ry;exact PySem.W.eq_bytes (qa2 I q qiK)
    | _=>exact absurd (show false=true from hs) Bool.false_ne_true
  | _=>cases y <;> exact absurd (show false=true from hs) Bool.false_ne_true
theorem qmM:OpR X (compareOp .NotEq) rNe:=by
  intro pins s σ H x y v u Q I rx ry h
  obtain ⟨hs,q⟩:=h
  cases x with
  | non =>
    cases rx
    cases y with
    | non=>cases ry;exact PySem.EqNone.ne_none_none (qa2 I q (by simp))
    | bl j=>cases ry;exact PySem.EqNone.ne_none_bool (qa2 I q (by simp))
    | int j=>obtain ⟨t',rfl⟩:=ry;exact PySem.EqNone.ne_none_int (qa2 I q (by simp))
    | str j=>obtain ⟨t',rfl⟩:=ry;exact PySem.EqNone.ne_none_str (qa2 I q (by simp))
    | _=>exact absurd (show false=true from hs) Bool.false_ne_true
  | bl i =>
    cases rx
    cases y with
    | non=>cases ry;exact PySem.EqNone.ne_bool_none (qa2 I q (by simp))
    | bl j=>cases ry;exact ne_bool (qa2 I q (congrArg not qkz))
    | str j=>obtain ⟨t',rfl⟩:=ry;exact PySem.EqMixed.ne_bool_str (qa2 I q (by simp))
    | _=>exact absurd (show false=true from hs) Bool.false_ne_true
  | int i =>
    obtain ⟨t,rfl⟩:=rx
    cases y with
    | non=>cases ry;exact PySem.EqNone.ne_int_none (qa2 I q (by simp))
    | int j=>obtain ⟨t',rfl⟩:=ry;exact ne_int (qa2 I q (congrArg not qiq))
    | str j=>obtain ⟨t',rfl⟩:=ry;exact PySem.EqMixed.ne_int_str (qa2 I q (by simp))
    | _=>exact absurd (show false=true from hs) Bool.false_ne_true
  | str i =>
    obtain ⟨t,rfl⟩:=rx
    cases y with
    | non=>cases ry;exact PySem.EqNone.ne_str_none (qa2 I q (by simp))
    | bl j=>cases ry;exact PySem.EqMixed.ne_str_bool (qa2 I q (by simp))
    | int j=>obtain ⟨t',rfl⟩:=ry;exact PySem.EqMixed.ne_str_int (qa2 I q (by simp))
    | str j=>obtain ⟨t',rfl⟩:=ry;exact ne_str (qa2 I q (congrArg not qiu))
    | _=>exact absurd (show false=true from hs) Bool.false_ne_true
  | byt i =>
    obtain ⟨t,rfl⟩:=rx
    cases y with
    | byt j=>obtain ⟨t',rfl⟩:=ry;exact PySem.W.ne_bytes (qa2 I q (congrArg not qiK))
    | _=>exact absurd (show false=true from hs) Bool.false_ne_true
  | _=>cases y <;> exact absurd (show false=true from hs) Bool.false_ne_true
theorem qh0:OpR X (compareOp .Lt) (rI0 fun i j=>.bl (decide (i<j))):=qng fun _ _ _ _ _ _ _ q=>lt_int q
theorem qkZ:OpR X (compareOp .Gt) (rI0 fun i j=>.bl (decide (j<i))):=qng fun _ _ _ _ _ _ _ q=>gt_int q
theorem ql6:OpR X (compareOp .GtE) (rI0 fun i j=>.bl (decide (j≤i))):=qng fun _ _ _ _ _ _ _ q=>ge_int q
theorem qhU:OpR X (compareOp .Is) (fun x y H Q=>y=.non∧Q (.bl (decide (x=.non))) H):=by
  intro pins s σ H x y v u Q I rx ry h
  obtain ⟨rfl,q⟩:=h
  cases ry
  refine is_none_gen (qa2 I q ?_)
  cases x <;> first
    | (cases rx;rfl)
    | (obtain ⟨t,rfl⟩:=rx;rfl)
theorem qll:OpR X (compareOp .IsNot) (fun x y H Q=>y=.non∧Q (.bl (!decide (x=.non))) H):=by
  intro pins s σ H x y v u Q I rx ry h
  obtain ⟨rfl,q⟩:=h
  cases ry
  refine isnot_none_gen (qa2 I q ?_)
  cases x <;> first
    | (cases rx;rfl)
    | (obtain ⟨t,rfl⟩:=rx;rfl)
theorem qao (b:Expr) {op:CmpOp} (h:op≠.In:=by decide) (h2:op≠.NotIn:=by decide):behindInMarks op b=false:=by
  have e1:(op == CmpOp.In)=false:=by cases op <;> first | rfl | exact absurd rfl h
  have e2:(op == CmpOp.NotIn)=false:=by cases op <;> first | rfl | exact absurd rfl h2
  cases b <;> simp [behindInMarks,e1,e2]
theorem qdg {op:CmpOp} {r:R2} (ho:OpR X (compareOp op) r) (ha:PE X a ta) (hb:PE X b tb) (hm:behindInMarks op b=false):PE X (.Compare a [op] [b] pos) (tOp r ta tb):=by
  intro pins s σ H Q I h
  exact wpAny_Compare1 (qny ha hb I h fun v u s2 x y H2 I2 rx ry q=>ho pins s2 σ H2 x y v u Q I2 rx ry q) hm
def qmN (t:TE):TT:=fun σ H Q=>t σ H fun x H'=>∃ k,x=.bl k∧Q k H'
theorem qbG {op:CmpOp} {r:R2} (ho:OpR X (compareOp op) r) (ha:PE X a ta) (hb:PE X b tb) (hm:behindInMarks op b=false):PT X (.Compare a [op] [b] pos) (qmN (tOp r ta tb)):=by
  intro pins s σ H Q I h
  refine wpAny_isTrue_Compare1 (thn (ha pins s σ H _ I h) fun v s1 ⟨x,H1,I1,r1,q1⟩=>thn (hb pins s1 σ H1 _ I1 q1) fun u s2 ⟨y,H2,I2,r2,q2⟩ =>
    thn (ho pins s2 σ H2 x y v u _ I2 r1 r2 q2) fun c s3 ⟨z,H3,I3,r3,k,e,q3⟩=>?_) hm
  subst e
  cases r3
  exact wpAny_truthy_bool ⟨H3,I3,q3⟩
def qnn (K:PySem.W.Frag) (x:V) (H:Hp) (k:Bool):Prop :=
  match x with
  | .non=>k=false
  | .bl b=>k=b
  | .int i=>k=(i != 0)
  | .str y=>y.length≤sizeLine∧k=((y.length:Int) != 0)
  | .byt y=>y.size≤sizeLine∧k=((y.size:Int) != 0)
  | .ref p=>(∃ xs,SqL K H p xs∧k=!xs.isEmpty)∨(∃ xs,SqT K H p xs∧k=!xs.isEmpty)∨∃ kvs,H p=some (.dK kvs)∧k=!kvs.isEmpty
  | _=>False
theorem qhD {κ:Type} {kvs:List (κ × V)} {vs:List (κ × Value)} (r:KV kvs vs):(!vs.isEmpty)=!kvs.isEmpty:=by
  cases r <;> rfl
theorem qeJ {xs:List V} {its:List Value} (r:Vals xs its):(!its.toArray.isEmpty)=!xs.isEmpty:=by
  cases r <;> simp
theorem qdR:(sizeLine:Nat)<2 ^ 63:=by rw [sizeLine_eq];decide
theorem qm4:qoq X (fun x H Q=>∃ k,qnn X.K x H k∧Q k H):=by
  intro pins s σ H x v Q I rx h
  obtain ⟨k,e,q⟩:=h
  have hl:=qdR
  have hs:sizeLine=16777216:=sizeLine_eq
  cases x with
  | non =>
    cases rx
    have e':k=false:=e
    subst e'
    exact truthy_none ⟨H,I,q⟩
  | bl b =>
    cases rx
    have e':k=b:=e
    subst e'
    exact wpAny_truthy_bool ⟨H,I,q⟩
  | int i =>
    obtain ⟨t,rfl⟩:=rx
    have e':k=(i != 0):=e
    subst e'
    exact PySem.P.truthy_int ⟨H,I,q⟩
  | str y =>
    obtain ⟨t,rfl⟩:=rx
    obtain ⟨hy,e'⟩:y.length≤sizeLine∧k=((y.length:Int) != 0):=e
    subst e'
    exact PySem.P.truthy_str (by omega) ⟨H,I.tok _,q⟩
  | byt y =>
    obtain ⟨t,rfl⟩:=rx
    obtain ⟨hy,e'⟩:y.size≤sizeLine∧k=((y.size:Int) != 0):=e
    subst e'
    exact PySem.W.truthy_bytes (by omega) ⟨H,I.tok _,q⟩
  | ref p =>
    cases rx
    have e':(∃ xs,SqL X.K H p xs∧k=!xs.isEmpty)∨(∃ xs,SqT X.K H p xs∧k=!xs.isEmpty)∨∃ kvs,H p=some (.dK kvs)∧k=!kvs.isEmpty:=e
    rcases e' with ⟨xs,hx,e'⟩ | ⟨xs,hx,e'⟩ | ⟨kvs,hx,e'⟩
    · subst e'
      obtain ⟨its,r,pl,hz⟩:=I.list hx
      have hlen:=r.length
      exact wpAny_truthy_list pl.isList (by simp only [List.size_toArray];omega) ⟨H,I.tok _,by rw [qeJ r];exact q⟩
    · subst e'
      obtain ⟨its,r,pl,hz⟩:=I.tuple hx
      have hlen:=r.length
      exact truthy_tuple pl (by simp only [List.size_toArray];omega) ⟨H,I.tok _,by rw [qeJ r];exact q⟩
    · subst e'
      obtain ⟨hz,hS,vs,r,m⟩:kvs.length≤sizeLine∧(p == sysModules)=false∧∃ vs,KV kvs vs∧s.heap.DictOf (qgn X.prog X.w) p vs:=I.hok p _ hx
      have hlen:kvs.length=vs.length:=Paired.length r
      exact wpAny_truthy_dict hS m (by omega) ⟨H,I.tok _,by rw [qhD r];exact q⟩
  | _=>exact (show False from e).elim
theorem qdv (ha:PE X a ta) (he:∀ whole,isTrue a X.env whole=(do let v ← whole;standAt a.pos;holding [v] (truthy v))) :
    PT X a (fun σ H Q=>ta σ H fun x H'=>∃ k,qnn X.K x H' k∧Q k H'):=by
  intro pins s σ H Q I h
  exact isTrue_plain (thn (ha pins s σ H _ I h) fun v s1 hq0=>by obtain ⟨x,H1,I1,r1,q1⟩:=hq0;exact qm4 pins s1 σ H1 x v Q I1 r1 q1) (he _)
theorem qhs:OpR X (binaryOp .Add) (fun x y H Q=>∃ i j,x=.str i∧y=.str j∧i.length+j.length≤sizeLine∧Q (.str (i++j)) H):=by
  intro pins s σ H x y v u Q I rx ry h
  obtain ⟨i,j,rfl,rfl,hz,q⟩:=h
  obtain ⟨t,rfl⟩:=rx
  obtain ⟨t',rfl⟩:=ry
  exact add_str (fun t' tk=>⟨.str (i++j),H,I.tok _,⟨_,rfl⟩,q⟩) hz
theorem qgo {x:V} {us:List Value} (r:Vals [x] us):∃ u,us=[u]∧RelV x u:=by
  cases r with
  | cons r1 r2=>cases r2;exact ⟨_,rfl,r1⟩
theorem qmW {x y:V} {us:List Value} (r:Vals [x,y] us):∃ u w',us=[u,w']∧RelV x u∧RelV y w':=by
  cases r with
  | cons r1 r2 =>
    cases r2 with
    | cons r3 r4=>cases r4;exact ⟨_,_,rfl,r1,r3⟩
theorem qkd:qcv X (.builtin "abs") (fun xs H Q=>∃ i,xs=[.int i]∧Q (.int (if i<0 then -i else i)) H):=by
  intro pins s σ H xs us Q I r h
  obtain ⟨i,rfl,q⟩:=h
  obtain ⟨u,rfl,t,rfl⟩:=qgo r
  exact call_abs_int fun u tk=>⟨.int (if i<0 then -i else i),H,I.tok _,⟨_,rfl⟩,q⟩
theorem qiw (hc:X.calm=true):qcv X (.builtin "max") (fun xs H Q=>∃ i j,xs=[.int i,.int j]∧Q (.int (if j>i then j else i)) H):=by
  intro pins s σ H xs us Q I r h
  obtain ⟨i,j,rfl,q⟩:=h
  obtain ⟨u,w',rfl,⟨t,rfl⟩,⟨t',rfl⟩⟩:=qmW r
  refine max_two_ints (I.ok.hd hc) fun h' tk k=>⟨_,H,I.kept k,?_,q⟩
  by_cases hj:j>i
  · rw [if_pos hj,if_pos hj];exact ⟨_,rfl⟩
  · rw [if_neg hj,if_neg hj];exact ⟨_,rfl⟩
theorem qi5 (hc:X.calm=true):qcv X (.builtin "min") (fun xs H Q=>∃ i j,xs=[.int i,.int j]∧Q (.int (if j<i then j else i)) H):=by
  intro pins s σ H xs us Q I r h
  obtain ⟨i,j,rfl,q⟩:=h
  obtain ⟨u,w',rfl,⟨t,rfl⟩,⟨t',rfl⟩⟩:=qmW r
  refine min_two_ints (I.ok.hd hc) fun h' tk k=>⟨_,H,I.kept k,?_,q⟩
  by_cases hj:j<i
  · rw [if_pos hj,if_pos hj];exact ⟨_,rfl⟩
  · rw [if_neg hj,if_neg hj];exact ⟨_,rfl⟩
theorem qgc:qcv X (.type "int") (fun xs H Q=>(∃ i,xs=[.int i]∧Q (.int i) H)∨∃ k,xs=[.bl k]∧Q (.int (if k then 1 else 0)) H):=by
  intro pins s σ H xs us Q I r h
  rcases h with ⟨i,rfl,q⟩ | ⟨k,rfl,q⟩
  · obtain ⟨u,rfl,t,rfl⟩:=qgo r
    exact call_int_int ⟨.int i,H,I,⟨_,rfl⟩,q⟩
  · obtain ⟨u,rfl,r1⟩:=qgo r
    cases r1
    exact call_int_bool ⟨.int (if k then 1 else 0),H,I.tok _,⟨_,rfl⟩,q⟩
end
structure ObjM (h:Heap) (x dx C:Addr) (mA:Str→Option Value):Prop where
  obj:h.get? x=some (PySem.W.instObj C dx)
  ns:h.Ns1 dx mA
  ne:dx≠x
theorem qiI {h:Heap} {dx:Addr} {mA:Str→Option Value} (n:h.Ns1 dx mA):∃ od,h.get? dx=some od∧∀ name,PySem.W.lookIn name od=some (mA name):=by
  obtain ⟨o,es,ep,ho,hd,hk,_,hm⟩:=n
  refine ⟨o,ho,fun name=>?_⟩
  have e:=hm name
  unfold nsFind findBy at e
  rw [← Array.find?_toList] at e
  unfold PySem.W.lookIn
  rw [hd]
  dsimp only
  split
  · rename_i y q
    rw [q] at e
    exact congrArg some e
  · rename_i q
    rw [q] at e
    have a:es.toList.any (·.refKey)=false:=by
      rw [List.any_eq_false]
      intro y hy
      obtain ⟨z,t,hkey⟩:=hk y (Array.mem_toList_iff.mp hy)
      simp [DictEntry.refKey,hkey]
    have a':¬ es.toList.any (·.refKey)=true:=by rw [a];exact Bool.false_ne_true
    rw [if_neg a']
    exact congrArg some e
theorem ObjM.look {h:Heap} {x dx C:Addr} {mA:Str→Option Value} (I:ObjM h x dx C mA):∃ od,PySem.W.InstAt h x (PySem.W.instObj C dx) C (some od)∧∀ name,PySem.W.lookIn name od=some (mA name) :=
  let ⟨od,ho,hl⟩:=qiI I.ns
  ⟨od,⟨I.obj,rfl,rfl,ho⟩,hl⟩
section
variable {prog : Program} {w : World} {A : Around} {E : Value → Shared → Prop} {s : Shared} {K : PySem.W.Frag} {x dx C f : Addr} {mA : Str → Option Value} {name : Str} {v : Value}
theorem qly {expr:Bool} {Q:Value→Shared→Prop} (X:K.In s.heap) (I:ObjM s.heap x dx C mA) (hg:PySem.W.plainGet K C name=true) (hh:PySem.W.hasDictIn K C=true)
    (ha:PySem.W.findIn K (.ref C) name=some none) (hv:mA name=some v) (hv':PySem.W.handedIn v=true) (h:Q v { s with toks:=s.toks+1 }) :
    wpAny (model prog w) A (getAttr (.ref x) name expr) Q E s:=by
  obtain ⟨od,J,hl⟩:=I.look
  exact PySem.W.get_value X J (PySem.W.plainGet_of hg).1 (PySem.W.findObj_own hh ha rfl (by rw [hl,hv])) hv' h
theorem qj3 {pl:Sem Bool} {Q:Value × List Value→Shared→Prop} (X:K.In s.heap) (I:ObjM s.heap x dx C mA) (hg:PySem.W.plainGet K C name=true)
    (hf:PySem.W.findIn K (.ref C) name=some (some (.ref f))) (ht:PySem.W.isFn K (.ref f)=true) (hv:mA name=none) (h:Q (.ref f,[.ref x]) s) :
    wpAny (model prog w) A (getMethod (.ref x) name pl) Q E s:=by
  obtain ⟨od,J,hl⟩:=I.look
  exact PySem.W.method_fn X J (PySem.W.plainGet_of hg).1 (PySem.W.plainGet_of hg).2 hf (beq_iff_eq.mp ht) (by show (PySem.W.lookIn name od).map (·.isSome)=some false;rw [hl,hv];rfl) h
theorem qlo {ns:List Str} {Q:Unit→Shared→Prop} (X:K.In s.heap) (I:ObjM s.heap x dx C mA)
    (hs:PySem.W.findIn K (.ref C) "__setattr__"=some (some (.builtin "object.__setattr__"))) (hp:PySem.W.plainOver K C=true) (ht:PySem.W.takerIn K C name=some none) (hh:PySem.W.hasDictIn K C=true)
    (hw:PySem.Within mA ns) (hsz:ns.length≤sizeLine)
    (h:∀ h',ObjM h' x dx C (fun y=>if y=name then some v else mA y)→Heap.SameBut dx s.heap h'→Q () { s with heap:=h',toks:=s.toks+2 }) :
    wpAny (model prog w) A (setAttr (.ref x) name v) Q E s:=by
  obtain ⟨od,J,hl⟩:=I.look
  refine PySem.W.set_plain X J hs (PySem.W.osa_open (s:={ s with toks:=s.toks+1 }) (r:=none) X J hp ht fun b=>?_)
  obtain ⟨cd,hc,hd'⟩:=PySem.W.any_some hh
  have hx:s.heap.get? x=some ⟨.ref C,some dx,.plain,#[]⟩:=I.obj
  refine wpAny_bind (wpAny_pure (wpAny_bind (wpAny_bind (wpAny_loadPart hx (wpAny_bind (PySem.W.Looks.here (s:={ s with toks:=s.toks+1 }) (PySem.W.looks_clsIn X hc) ?_))))))
  rw [hd']
  refine wpAny_pure (a:=some dx) (wpAny_bind (wpAny_pure (wpAny_bind ?_)))
  refine wpAny_nsSet1 (s:={ s with toks:=s.toks+1 }) I.ns fun h' hn2 hs2=>?_
  obtain ⟨oD,esD,epD,hoD,hdD,hcD⟩:=hn2.count (PySem.Within.cons name v hw)
  refine wpAny_bind (wpAny_lookBehind hoD (by rw [hdD];exact pastItsLine_dict (Nat.le_trans hcD (by rw [List.length_cons];omega))) ?_)
  exact wpAny_pure (h _ ⟨(hs2.2 _ (Ne.symm I.ne)).trans I.obj,hn2,I.ne⟩ hs2)
theorem qjB {R:Result→Shared→Prop} {vs:List Value} {kw:List (Str × Value)} (X:K.In s.heap) (hm:PySem.W.makesIn K C=true)
    (hi:PySem.W.findIn K (.ref C) "__init__"=some (some (.ref f))) (hf:PySem.W.typeIn K (.ref f)=some (.type "function"))
    (h:codeAny (model prog w) (A.under (.builtin "type.__call__" ⟨.ref C::vs,kw⟩)) (.call (.ref f) ⟨.ref (s.heap.objs.size+1)::vs,kw⟩) (PySem.W.InitBack (s.heap.objs.size+1) R)
      { s with heap:=(s.heap.push PySem.W.emptyDict).push (PySem.W.instObj C s.heap.objs.size) }) :
    codeAny (model prog w) A (.call (.ref C) ⟨vs,kw⟩) R s:=by
  obtain ⟨hh,g,d,t,os⟩:=s
  exact PySem.W.make_core (PySem.W.makes_of X hm) (PySem.W.looks_findIn X hi) (fun self=>PySem.W.bind_fn X self hf) (.inl rfl) h
end
def qc2 (f:Str) (v:V):List (Str × V)→List (Str × V)
  | []=>[(f,v)]
  | (g,x)::r=>if g=f then (g,v)::r else (g,x)::qc2 f v r
theorem qba (f g:Str) (v:V):∀ fs:List (Str × V),(qc2 f v fs).lookup g=if g=f then some v else fs.lookup g
  | []=>by
    show List.lookup g [(f,v)]=_
    by_cases h:g=f
    · have hb:(g == f)=true:=beq_iff_eq.mpr h
      simp only [List.lookup,hb,if_pos h]
    · have hb:(g == f)=false:=beq_eq_false_iff_ne.mpr h
      simp only [List.lookup,hb,if_neg h]
  | (k,x)::r=>by
    have ih:=qba f g v r
    rw [show qc2 f v ((k,x)::r)=(if k=f then (k,v)::r else (k,x)::qc2 f v r) from rfl]
    by_cases hk:k=f
    · rw [if_pos hk]
      by_cases h:g=k
      · have hb:(g == k)=true:=beq_iff_eq.mpr h
        simp only [List.lookup,hb,if_pos (h.trans hk)]
      · have hb:(g == k)=false:=beq_eq_false_iff_ne.mpr h
        simp only [List.lookup,hb,if_neg (fun e:g=f=>h (e.trans hk.symm))]
    · rw [if_neg hk]
      by_cases h:g=k
      · have hb:(g == k)=true:=beq_iff_eq.mpr h
        simp only [List.lookup,hb,if_neg (fun e:g=f=>hk (h.symm.trans e))]
      · have hb:(g == k)=false:=beq_eq_false_iff_ne.mpr h
        simp only [List.lookup,hb]
        exact ih
theorem qer (f:Str) (v:V):∀ fs:List (Str × V),f∈(qc2 f v fs).map (·.1)∧∀ g,g∈fs.map (·.1)→g∈(qc2 f v fs).map (·.1)
  | []=>⟨by simp [qc2],fun g h=>by simp at h⟩
  | (k,x)::r=>by
    obtain ⟨i1,i2⟩:=qer f v r
    rw [show qc2 f v ((k,x)::r)=(if k=f then (k,v)::r else (k,x)::qc2 f v r) from rfl]
    by_cases hk:k=f
    · rw [if_pos hk]
      subst hk
      exact ⟨by simp,fun g h=>by simpa using h⟩
    · rw [if_neg hk]
      refine ⟨?_,fun g h=>?_⟩
      · rw [List.map_cons]
        exact List.mem_cons_of_mem _ i1
      · rw [List.map_cons] at h ⊢
        rcases List.mem_cons.mp h with e | e
        · exact List.mem_cons.mpr (.inl e)
        · exact List.mem_cons_of_mem _ (i2 g e)
theorem qeb (f:Str) (v:V):∀ fs:List (Str × V),(qc2 f v fs).length≤fs.length+1
  | []=>by simp [qc2]
  | (k,x)::r=>by
    have ih:=qeb f v r
    rw [show qc2 f v ((k,x)::r)=(if k=f then (k,v)::r else (k,x)::qc2 f v r) from rfl]
    by_cases hk:k=f
    · rw [if_pos hk,List.length_cons,List.length_cons];omega
    · rw [if_neg hk,List.length_cons,List.length_cons];omega
theorem RelO.some_of {v:V} {o:Option Value} (r:RelO (some v) o):∃ u,o=some u∧RelV v u:=by
  cases o with
  | none=>exact (show False from r).elim
  | some u=>exact ⟨u,rfl,r⟩
theorem RelO.none_of {o:Option Value} (r:RelO none o):o=none:=by
  cases o with
  | none=>rfl
  | some u=>exact (show False from r).elim
theorem qh7 {v:V} {u:Value} (r:RelV v u):PySem.W.handedIn u=true:=by
  cases v with
  | non=>cases (show u=Value.none from r);rfl
  | bl b=>cases (show u=Value.bool b from r);rfl
  | int i=>obtain ⟨t,e⟩:=(show ∃ t,u=Value.int i t from r);cases e;rfl
  | str x=>obtain ⟨t,e⟩:=(show ∃ t,u=Value.str x t from r);cases e;rfl
  | byt b=>obtain ⟨t,e⟩:=(show ∃ t,u=Value.bytes b t from r);cases e;rfl
  | flt b=>obtain ⟨t,e⟩:=(show ∃ t,u=Value.float b t from r);cases e;rfl
  | ref a=>cases (show u=Value.ref a from r);rfl
  | ty n=>cases (show u=Value.type n from r);rfl
section
variable {P : Program} {w : World} {H H' : Hp} {h h' : Heap} {a C dx : Addr} {fs fs' : List (Str × V)}
theorem qgE (hok:HOk P w H h) (e:H a=some (.ins C dx fs)):∃ mA,ObjM h a dx C mA∧(∀ f,RelO (fs.lookup f) (mA f))∧PySem.Within mA (fs.map (·.1))∧fs.length≤1000∧H dx=some (.own a):=by
  obtain ⟨d,z,ne,ob,mA,n,r,q⟩:=(show ObjOk P w H h a (.ins C dx fs) from hok a _ e)
  exact ⟨mA,⟨ob,n,ne⟩,r,q,z,d⟩
end
structure Cls (K:PySem.W.Frag) (C:Addr):Prop where
  pg:PySem.W.plainGet K C Str.empty=true
  hd:PySem.W.hasDictIn K C=true
  po:PySem.W.plainOver K C=true
  sa:PySem.W.findIn K (.ref C) "__setattr__"=some (some (.builtin "object.__setattr__"))
theorem Cls.get {K:PySem.W.Frag} {C:Addr} (c:Cls K C) (f:Str):PySem.W.plainGet K C f=true:=c.pg
def NoAttr (K:PySem.W.Frag) (C:Addr) (f:Str):Prop:=PySem.W.findIn K (.ref C) f=some none
theorem NoAttr.taker {K:PySem.W.Frag} {C:Addr} {f:Str} (n:NoAttr K C f):PySem.W.takerIn K C f=some none:=by
  unfold PySem.W.takerIn
  rw [show PySem.W.findIn K (.ref C) f=some none from n]
  rfl
structure Meth (K:PySem.W.Frag) (C:Addr) (m:Str) (f:Addr):Prop where
  at_:PySem.W.findIn K (.ref C) m=some (some (.ref f))
  fn:PySem.W.isFn K (.ref f)=true
  kp:PySem.W.keepIn K (.ref f)=true
section
variable {X : Cx} {pins : List (Addr × Obj)} {σ : St} {H : Hp} {s : Shared} {a C dx : Addr} {fs : List (Str × V)} {f : Str} {v : V} {A : Around} {E : Value → Shared → Prop}
theorem qhC {b:Bool} {Q:Value→Shared→Prop} (I:Inv X pins σ H s) (e:H a=some (.ins C dx fs)) (c:Cls X.K C) (n:NoAttr X.K C f) (l:fs.lookup f=some v)
    (h:∀ u s',Inv X pins σ H s'→RelV v u→Q u s'):wpAny (model X.prog X.w) A (getAttr (.ref a) f b) Q E s:=by
  obtain ⟨mA,O,r,_,_,_⟩:=qgE I.hok e
  obtain ⟨u,hu,ru⟩:=RelO.some_of (v:=v) (o:=mA f) (by rw [← l];exact r f)
  exact qly I.kIn O (c.get f) c.hd n hu (qh7 ru) (h u _ (I.tok _) ru)
theorem qeI {m:Str} {g:Addr} {pl:Sem Bool} {Q:Value × List Value→Shared→Prop} (I:Inv X pins σ H s) (e:H a=some (.ins C dx fs)) (c:Cls X.K C) (k:Meth X.K C m g) (l:fs.lookup m=none)
    (h:Q (.ref g,[.ref a]) s):wpAny (model X.prog X.w) A (getMethod (.ref a) m pl) Q E s:=by
  obtain ⟨mA,O,r,_,_,_⟩:=qgE I.hok e
  have hn:mA m=none:=RelO.none_of (by rw [← l];exact r m)
  exact qj3 I.kIn O (c.get m) k.at_ k.fn hn h
theorem qhv {y:V} {u:Value} {Q:Unit→Shared→Prop} (I:Inv X pins σ H s) (e:H a=some (.ins C dx fs)) (c:Cls X.K C) (n:NoAttr X.K C f) (hl:fs.length<1000) (ry:RelV y u)
    (h:∀ s',Inv X pins σ (upd H a (.ins C dx (qc2 f y fs))) s'→Q () s'):wpAny (model X.prog X.w) A (setAttr (.ref a) f u) Q E s:=by
  obtain ⟨mA,O,r,wi,_,ho⟩:=qgE I.hok e
  have hz:(fs.map (·.1)).length≤sizeLine:=by rw [List.length_map,sizeLine_eq];omega
  refine qlo I.kIn O c.sa c.po n.taker c.hd wi hz fun h' O' sb=>h _ ?_
  have hd:∃ o,h'.get? dx=some o:=let ⟨o,_,_,e',_⟩:=O'.ns;⟨o,e'⟩
  refine I.write (x:=a) (e:=dx) (by rw [e];exact True.intro) (.inr ho) (fun b q hb z=>(sb.2 b hb).trans z) hd ?_
  refine ⟨by rw [qaA O.ne];exact ho,?_,O.ne,O'.obj,_,O'.ns,fun g=>?_,fun g hg=>?_⟩
  · have:=qeb f y fs;omega
  · show RelO ((qc2 f y fs).lookup g) (if g=f then some u else mA g)
    rw [qba]
    by_cases q:g=f
    · rw [if_pos q,if_pos q];exact ry
    · rw [if_neg q,if_neg q];exact r g
  · by_cases q:g=f
    · rw [q];exact (qer f y fs).1
    · refine (qer f y fs).2 g (wi g fun z=>hg ?_)
      show (if g=f then some u else mA g)=none
      rw [if_neg q];exact z
theorem Inv.made (I:Inv X pins σ H s):Inv X pins σ (upd (upd H s.heap.objs.size (.own (s.heap.objs.size+1))) (s.heap.objs.size+1) (.ins C s.heap.objs.size []))
    { s with heap:=(s.heap.push PySem.W.emptyDict).push (PySem.W.instObj C s.heap.objs.size) }:=by
  have e1:(s.heap.push PySem.W.emptyDict).get? s.heap.objs.size=some PySem.W.emptyDict:=Heap.get?_push_size s.heap rfl
  have e2:((s.heap.push PySem.W.emptyDict).push (PySem.W.instObj C s.heap.objs.size)).get? (s.heap.objs.size+1)=some (PySem.W.instObj C s.heap.objs.size):=by
    have:=Heap.get?_push_size (s.heap.push PySem.W.emptyDict) (o:=PySem.W.instObj C s.heap.objs.size) rfl
    rwa [Heap.size_push] at this
  have e3:(s.heap.push PySem.W.emptyDict).Ns s.heap.objs.size (fun _=>none):=⟨PySem.W.emptyDict,#[],_,e1,rfl,(fun e he=>absurd he (by simp)),fun _=>rfl⟩
  have I1:=I.laid (a:=s.heap.objs.size) (o:=.own (s.heap.objs.size+1)) (h':=s.heap.push PySem.W.emptyDict) (t':=s.toks) (fun b u q=>Heap.get?_push_of_some _ q) (Nat.le_refl _) ⟨_,e1⟩
  refine I1.laid (a:=s.heap.objs.size+1) (o:=.ins C s.heap.objs.size []) (t':=s.toks) (fun b u q=>Heap.get?_push_of_some _ q) (Nat.le_of_eq (Heap.size_push _ _)) ?_
  have ne:s.heap.objs.size≠s.heap.objs.size+1:=Nat.ne_of_lt (Nat.lt_succ_self _)
  refine ⟨by rw [qaA ne,qan],Nat.zero_le _,ne,e2,fun _=>none,(Heap.Ns1.of_empty e3).at fun o q=>Heap.get?_push_of_some _ q,fun _=>True.intro,fun y hy=>absurd rfl hy⟩
theorem qlH {prog:Program} {w:World} {env:Env} {e:Expr} {f:Str} {pos:Pos} {s:Shared} {Q:Value→Shared→Prop} (hb:attributeBase e f env (eval e env)=eval e env)
    (h:wpAny (model prog w) A (eval e env) (fun o s₁=>wpAny (model prog w) A (getAttr o f true) Q E s₁) E s):wpAny (model prog w) A (eval (.Attribute e f pos) env) Q E s :=
  Attribute_any_ h (by rw [arm_eval_Attribute,hb])
end
def qoC (K:PySem.W.Frag) (ta:TE) (f:Str):TE:=fun σ H Q=>ta σ H fun x H1=>∃ a C dx fs v,x=.ref a∧H1 a=some (.ins C dx fs)∧Cls K C∧NoAttr K C f∧fs.lookup f=some v∧Q v H1
def qpc (K:PySem.W.Frag) (ta tv:TE) (f:Str):TS:=fun D σ H=>tv σ H fun y H1=>ta σ H1 fun x H2=>∃ a C dx fs,x=.ref a∧H2 a=some (.ins C dx fs)∧Cls K C∧NoAttr K C f∧fs.length<1000 ∧
  D.nx σ (upd H2 a (.ins C dx (qc2 f y fs)))
section
variable {X : Cx} {o e value : Expr} {f : Str} {pos pos' tpos : Pos} {ta tv : TE}
theorem qcP (he:PE X e ta) (hb:attributeBase e f X.env (eval e X.env)=eval e X.env):PE X (.Attribute e f pos) (qoC X.K ta f):=by
  intro pins s σ H Q I h
  refine qlH hb (thn (he pins s σ H _ I h) fun u s1 hq0=>?_)
  obtain ⟨x,H1,I1,rx,a,C,dx,fs,v,ex,ea,c,n,l,q⟩:=hq0
  subst ex
  obtain rfl:u=Value.ref a:=rx
  exact qhC I1 ea c n l fun u' s2 I2 ru=>⟨v,H1,I2,ru,q⟩
theorem qi8 (ha:PE X o ta) (hv:PE X value tv) (hs:swapsWith value (some (.Attribute o f pos')) pos.line X.env=pure false):PS X (.Assign [.Attribute o f pos'] value pos) (qpc X.K ta tv f):=by
  intro pins s σ H D I h
  refine plainObj_wpAny_Assign_Attribute (thn (hv pins s σ H _ I h) fun u s1 ⟨y,H1,I1,ry,q⟩=>thn (ha pins s1 σ H1 _ I1 q) fun ov s2 ⟨x,H2,I2,rx,a,C,dx,fs,ex,ea,c,n,l,q2⟩=>?_) hs
  subst ex
  obtain rfl:ov=Value.ref a:=rx
  exact qhv I2 ea c n l ry fun s3 I3=>⟨σ,_,I3,q2⟩
end
section
variable {X : Cx} {pins : List (Addr × Obj)} {σ : St} {H : Hp} {s : Shared} {A : Around} {E : Value → Shared → Prop} {Q : Value → Shared → Prop} {c : Value} {b : Bool}
inductive TyOf (K:PySem.W.Frag) (H:Hp):V→Value→Prop where
  | non:TyOf K H .non (.type "NoneType")
  | bl (x:Bool):TyOf K H (.bl x) (.type "bool")
  | int (i:Int):TyOf K H (.int i) (.type "int")
  | str (x:Str):TyOf K H (.str x) (.type "str")
  | flt (x:UInt64):TyOf K H (.flt x) (.type "float")
  | lst {a:Addr} {xs:List V} (e:H a=some (.lst xs)):TyOf K H (.ref a) (.type "list")
  | frz {a:Addr} {o:Obj} {xs:List V} (e:H a=some (.frz o (.lst xs))):TyOf K H (.ref a) (.type "list")
  | tup {a:Addr} {xs:List V} (e:H a=some (.tup xs)):TyOf K H (.ref a) (.type "tuple")
  | dK {a:Addr} {kvs:List (Key × V)} (e:H a=some (.dK kvs)):TyOf K H (.ref a) (.type "dict")
  | dT {a:Addr} {kvs:List (List Key × V)} (e:H a=some (.dT kvs)):TyOf K H (.ref a) (.type "dict")
  | ins {a C dx:Addr} {fs:List (Str × V)} (e:H a=some (.ins C dx fs)) (cl:Cls K C) (ha:PySem.W.findIn K (.ref C) "__class__"=some (some (.builtin "object.__class__")))
      (hn:PySem.W.specialIn K (.builtin "object.__class__") "__get__"=some (some (.builtin "getset_descriptor.__get__"))) (htk:PySem.W.takesIn K (.builtin "object.__class__")=some true)
      (hm:PySem.W.mroIn K C (.type "object")=some true):TyOf K H (.ref a) (.ref C)
end
structure Room (k:Nat) (A:Around):Prop where
  hd:A.handled=none
  dp:A.depth+3*k+5<recursionLimit
  un:A.units+16*k+200<cLine
theorem Room.mono {j k:Nat} {A:Around} (r:Room k A) (h:j≤k):Room j A:=⟨r.hd,by have:=r.dp;omega,by have:=r.un;omega⟩
theorem Room.deeper {k:Nat} {A:Around} (r:Room (k+1) A) (env:Env):Room k (A.deeper env) :=
  ⟨r.hd,by have:=r.dp;show A.depth+1+3*k+5<_;omega,by have:=r.un;show A.units+3+16*k+200<_;omega⟩
theorem qhz {A:Around} {C:Addr} {us:List Value} {kw:List (Str × Value)}:(A.under (.builtin "type.__call__" ⟨.ref C::us,kw⟩)).depth=A.depth+1:=by
  first | rfl | simp [Around.under,Code.weight,Code.isCreation,Code.isGuard,Code.isCaller,Code.frames,Code.isFrame,guardIds]
theorem qho {A:Around} {C:Addr} {us:List Value} {kw:List (Str × Value)}:(A.under (.builtin "type.__call__" ⟨.ref C::us,kw⟩)).units=A.units+1:=by
  first | rfl | simp [Around.under,Code.cUnits,Code.frames,Code.isFrame]
theorem Room.make {k:Nat} {A:Around} (r:Room (k+1) A) (C:Addr) (us:List Value) (kw:List (Str × Value)):Room k (A.under (.builtin "type.__call__" ⟨.ref C::us,kw⟩)) :=
  ⟨r.hd,by have:=r.dp;rw [qhz];omega,by have:=r.un;rw [qho];omega⟩
theorem Room.depth {k:Nat} {A:Around} (r:Room k A):A.depth<recursionLimit:=by have:=r.dp;omega
theorem Room.units {k:Nat} {A:Around} (r:Room k A):A.units+64<cLine:=by have:=r.un;omega
def qn5:TA:=fun _ H Q=>Q [] H
def qnL (ta:TE) (tr:TA):TA:=fun σ H Q=>ta σ H fun x H1=>tr σ H1 fun xs H2=>Q (x::xs) H2
section
variable {X : Cx} {e : Expr} {es : List Expr} {te : TE} {t : TA} {pos : Pos}
theorem pa_nil:PA X [] qn5:=fun _ _ _ _ H Q I h=>Calls.spliced_nil ⟨[],H,I,.nil,h⟩
theorem qaq (ha:PE X e te) (hr:PA X es t) (hs:starEach (e::es) X.env=(false,eval e X.env)::starEach es X.env:=by rfl):PA X (e::es) (qnL te t):=by
  intro pos pins s σ H Q I h
  rw [hs]
  show wpAny _ _ (spliced ((false,eval e X.env)::backTo pos (starEach es X.env))) _ _ s
  refine Calls.spliced_cons (thn (ha pins s σ H _ I h) fun u s1 hq0=>?_)
  obtain ⟨x,H1,I1,r1,q1⟩:=hq0
  exact thn (hr pos pins s1 σ H1 _ I1 q1) fun us s2 hq1=>by obtain ⟨xs,H2,I2,r2,q2⟩:=hq1;exact ⟨x::xs,H2,I2,.cons r1 r2,q2⟩
def qo0 (t:TA):TE:=fun σ H Q=>t σ H fun xs H1=>xs.length≤sizeLine∧∀ p,H1 p=none→Q (.ref p) (upd H1 p (.tup xs))
def qo3 (t:TA):TE:=fun σ H Q=>t σ H fun xs H1=>xs.length≤sizeLine∧∀ p,H1 p=none→Q (.ref p) (upd H1 p (.lst xs))
theorem qeK {x1} (h:PA X es t):PE X (.Tuple es x1 pos) (qo0 t):=by
  intro pins s σ H Q I hq
  refine wpAny_Tuple_spliced (thn (h pos pins s σ H _ I hq) fun us s1 ⟨xs,H1,I1,r,z,q⟩=>⟨by rw [← r.length];exact z,?_⟩)
  have hf:H1 s1.heap.objs.size=none:=I1.hok.fresh (Nat.le_refl _)
  refine ⟨.ref s1.heap.objs.size,upd H1 s1.heap.objs.size (.tup xs),I1.laid (t':=s1.toks) (fun b u e=>Heap.get?_push_of_some _ e) (Nat.le_refl _) ?_,rfl,q _ hf⟩
  exact ⟨z,us,r,⟨_,Heap.get?_push_size _ rfl,rfl,_,rfl⟩⟩
theorem qij (h:PA X es t):PE X (.List es pos) (qo3 t):=by
  intro pins s σ H Q I hq
  refine wpAny_List_spliced (thn (h pos pins s σ H _ I hq) fun us s1 ⟨xs,H1,I1,r,z,q⟩=>⟨by rw [← r.length];exact z,?_⟩)
  have hf:H1 s1.heap.objs.size=none:=I1.hok.fresh (Nat.le_refl _)
  refine ⟨.ref s1.heap.objs.size,upd H1 s1.heap.objs.size (.lst xs),I1.laid (t':=s1.toks) (fun b u e=>Heap.get?_push_of_some _ e) (Nat.le_refl _) ?_,rfl,q _ hf⟩
  exact ⟨z,us,0,r,Heap.get?_push_size _ rfl⟩
end
abbrev Sp:=List V→Hp→VK→XK→Prop
abbrev CXT:=List Env→Hp→Shared→XK→Value→Shared→Prop
structure Env0 (P:Program) (w:World) (K:PySem.W.Frag) (mg:Str→Option Value) (base:Heap) (A:Around) (outer:List Env) (s:Shared) (H:Hp):Prop where
  frames:A.frames=some outer
  mod:Mod K mg base
  bs:∀ b o,base.get? b=some o→s.heap.get? b=some o∧H b=none
  bsz:base.objs.size≤s.heap.objs.size
  funs:s.heap.FunFrames base outer
  frf:∀ b∈frs outer,H b=none
  hok:HOk P w H s.heap
  bare:AllBare s.gens
def CE (outer:List Env) (P:Program) (w:World) (H:Hp) (s:Shared) (Q:VK) (u:Value) (s':Shared):Prop :=
  ∃ v H',s'.os=s.os∧AllBare s'.gens∧Un (frs outer) [] H H' s.heap s'.heap∧HOk P w H' s'.heap∧RelV v u∧Q v H'
def CR (CX:CXT) (outer:List Env) (P:Program) (w:World) (H:Hp) (s:Shared) (Q:VK) (E:XK) (r:Result) (s':Shared):Prop :=
  match r with
  | .ok (.ret u)=>CE outer P w H s Q u s'
  | .ok _=>False
  | .error e=>CX outer H s E e s'
structure FnOk (P:Program) (w:World) (K:PySem.W.Frag) (mg:Str→Option Value) (base:Heap) (CX:CXT) (k:Nat) (f:Addr) (fd:FuncData) (ps:List Str) (sp:Sp):Prop where
  len:∀ vs H Q E,sp vs H Q E→vs.length=ps.length
  run:∀ (A:Around) (outer:List Env) (s:Shared) (H:Hp) (args:Args) (us:List Value) (vs:List V) (Q:VK) (E:XK),Room k A→Env0 P w K mg base A outer s H→BindsTo s fd args (ps.zip us)→Vals vs us→sp vs H Q E →
    codeAny (model P w) A (.call (.ref f) args) (CR CX outer P w H s Q E) s
theorem FnOk.mono {P:Program} {w:World} {K:PySem.W.Frag} {mg:Str→Option Value} {base:Heap} {CX:CXT} {j k:Nat} {f:Addr} {fd:FuncData} {ps:List Str} {sp:Sp} (F:FnOk P w K mg base CX j f fd ps sp) (h:j≤k) :
    FnOk P w K mg base CX k f fd ps sp:=⟨F.len,fun A outer s H args us vs Q E hr=>F.run A outer s H args us vs Q E (hr.mono h)⟩
theorem FnOk.imp {P:Program} {w:World} {K:PySem.W.Frag} {mg:Str→Option Value} {base:Heap} {CX:CXT} {k:Nat} {f:Addr} {fd:FuncData} {ps:List Str} {sp sp':Sp} (F:FnOk P w K mg base CX k f fd ps sp)
    (h:∀ vs H Q E,sp' vs H Q E→sp vs H Q E):FnOk P w K mg base CX k f fd ps sp' :=
  ⟨fun vs H Q E q=>F.len vs H Q E (h _ _ _ _ q),fun A outer s H args us vs Q E hr he hb hv hs=>F.run A outer s H args us vs Q E hr he hb hv (h _ _ _ _ hs)⟩
theorem Env0.make {P:Program} {w:World} {K:PySem.W.Frag} {mg:Str→Option Value} {base:Heap} {A:Around} {outer:List Env} {s:Shared} {H:Hp} (e:Env0 P w K mg base A outer s H) (C:Addr) (us:List Value) (kw:List (Str × Value)) :
    Env0 P w K mg base (A.under (.builtin "type.__call__" ⟨.ref C::us,kw⟩)) outer s H:=⟨by first | exact e.frames | (simpa [Around.under,Code.envs,Code.isFrame,pushEnvs] using e.frames),e.mod,e.bs,e.bsz,e.funs,e.frf,e.hok,e.bare⟩
section
variable {X : Cx} {pins : List (Addr × Obj)} {σ : St} {H : Hp} {s s' : Shared}
theorem Inv.env0 (I:Inv X pins σ H s):Env0 X.prog X.w X.K X.mg X.base X.A X.stack s H :=
  ⟨I.ok.frames,I.ok.mod,I.bs,Nat.le_trans I.ok.bsz I.sz,I.stack,I.stkFree,I.hok,I.bare⟩
theorem Inv.after {Q:VK} {u:Value} (I:Inv X pins σ H s) (h:CE X.stack X.prog X.w H s Q u s'):EP X pins σ Q u s':=by
  obtain ⟨v,H',os,bare,un,hok,r,q⟩:=h
  obtain ⟨hh,g,d,t,os'⟩:=s'
  obtain rfl:os'=s.os:=os
  exact ⟨v,H',I.call (h':=hh) (g':=g) (d':=d) (t':=t) (ch:=[]) un hok bare (fun b z=>absurd z (by simp)),r,q⟩
end
def qnS (sp:Sp) (dvs:List V) (E:XK) (t:TA):TE:=fun σ H Q=>t σ H fun vs H1=>sp (vs++dvs) H1 Q E
def qmR (C:Addr) (m:Str) (sp:Sp) (dvs:List V) (E:XK) (ta:TE) (t:TA):TE:=fun σ H Q=>ta σ H fun x H1=>∃ a dx fs,x=.ref a∧H1 a=some (.ins C dx fs)∧fs.lookup m=none ∧
  t σ H1 fun vs H2=>sp (x::(vs++dvs)) H2 Q E
def qnw (C:Addr) (sp:Sp) (dvs:List V) (E:XK) (t:TA):TE:=fun σ H Q=>t σ H fun vs H1=>∀ x dx,H1 x=none→H1 dx=none→dx≠x →
  sp (.ref x::(vs++dvs)) (upd (upd H1 dx (.own x)) x (.ins C dx [])) (fun v H2=>v=.non∧Q (.ref x) H2) E
def Binds (K:PySem.W.Frag) (fd:FuncData) (ps:List Str) (ds:List Value):Prop :=
  ∀ (s:Shared) (us:List Value),K.In s.heap→(us++ds).length=ps.length→BindsTo s fd ⟨us,[]⟩ (ps.zip (us++ds))
theorem Binds.all {K:PySem.W.Frag} {fd:FuncData} {ps:List Str} (h:∀ us:List Value,us.length=ps.length→bindArgs fd ⟨us,[]⟩=pure (ps.zip us)):Binds K fd ps []:=fun s us _ hl=>by
  rw [List.append_nil] at hl ⊢
  exact .of_eq (h us hl)
def qdS (CX:CXT) (X:Cx) (E:XK):Prop:=∀ (pins:List (Addr × Obj)) (σ:St) (H:Hp) (s:Shared) (e:Value) (s':Shared),Inv X pins σ H s→CX X.stack H s E e s'→X.xe e s'
section
variable {X : Cx} {CX : CXT} {k : Nat} {f C : Addr} {fd : FuncData} {ps : List Str} {sp : Sp} {dvs : List V} {ds : List Value} {E : XK} {x m : Str} {p pos apos : Pos} {e o : Expr} {es : List Expr} {ta : TE} {t : TA}
theorem qiF {pins:List (Addr × Obj)} {σ:St} {H:Hp} {s:Shared} {Q:VK} {us:List Value} {vs:List V} (F:FnOk X.prog X.w X.K X.mg X.base CX k f fd ps sp) (hr:Room k X.A) (hb:Binds X.K fd ps ds) (hd:Vals dvs ds) (hx:qdS CX X E)
    (I:Inv X pins σ H s) (r:Vals vs us) (h:sp (vs++dvs) H Q E):wpAny (model X.prog X.w) X.A (call (.ref f) us) (EP X pins σ Q) X.xe s:=by
  have r2:Vals (vs++dvs) (us++ds):=r.append hd
  have hl:(us++ds).length=ps.length:=by rw [← r2.length];exact F.len _ _ _ _ h
  refine wpAny_call (codeAny_mono (F.run X.A X.stack s H ⟨us,[]⟩ (us++ds) (vs++dvs) Q E hr I.env0 (hb s us I.kIn hl) r2 h) fun r s' hq=>?_)
  cases r with
  | error e=>exact hx pins σ H s e s' I hq
  | ok fl =>
    cases fl with
    | ret u=>exact I.after hq
    | next=>exact False.elim hq
    | brk=>exact False.elim hq
    | cont=>exact False.elim hq
theorem qcO (F:FnOk X.prog X.w X.K X.mg X.base CX k f fd ps sp) (hr:Room k X.A) (hg:Gl X x) (hm:X.mg x=some (.ref f)) (hk:PySem.W.keepIn X.K (.ref f)=true) (hb:Binds X.K fd ps ds) (hd:Vals dvs ds) (hx:qdS CX X E)
    (ha:PA X (e::es) t) (hdb:(x == ("__debug__":Str))=false:=by decide) (he:starEach (e::es) X.env=(false,eval e X.env)::starEach es X.env:=by rfl) (hpl:(backTo pos (starEach es X.env)).any (·.1)=false:=by rfl) :
    PE X (.Call (.Name x p) (e::es) [] pos) (qnS sp dvs E t):=by
  intro pins s σ H Q I h
  refine wpAny_Call_Name_kw (qi3 I hg hm ?_ hdb)
  refine PySem.W.callWith_K (h₀:=X.base) I.ok.mod.kin hk (thn (ha pos pins s σ H _ I h) fun us s1 ⟨vs,H1,I1,r,q⟩=>⟨I1.kIn,?_⟩) he hpl
  exact qiF F hr hb hd hx I1 r q
theorem qiZ {pl:Sem Bool} (he:PE X o ta) (c:Cls X.K C) (hm:Meth X.K C m f) (F:FnOk X.prog X.w X.K X.mg X.base CX k f fd ps sp) (hr:Room k X.A) (hb:Binds X.K fd ps ds) (hd:Vals dvs ds) (hx:qdS CX X E) (ha:PA X (e::es) t)
    (hst:starEach (e::es) X.env=(false,eval e X.env)::starEach es X.env:=by rfl) (hpl:(backTo pos (starEach es X.env)).any (·.1)=false:=by rfl)
    (ht:eval (.Call (.Attribute o m apos) (e::es) [] pos) X.env=(do
      let ov ← eval o X.env
      standAt apos.atName
      let (f,first) ← holding [ov] (getMethod ov m pl)
      callWith pos f first (backTo pos (starEach (e::es) X.env)) (backToKw pos (keywordEach [] X.env))):=by rfl) :
    PE X (.Call (.Attribute o m apos) (e::es) [] pos) (qmR C m sp dvs E ta t):=by
  intro pins s σ H Q I h
  refine PySem.W.methodCall_KW (pl:=pl) (thn (he pins s σ H _ I h) fun u s1 ⟨x,H1,I1,rx,a,dx,fs,ex,ea,l,q⟩=>?_) ht
  subst ex
  obtain rfl:u=Value.ref a:=rx
  refine qeI I1 ea c hm l ?_
  refine PySem.W.callWith_K (first:=[.ref a]) (h₀:=X.base) I.ok.mod.kin hm.kp (thn (ha pos pins s1 σ H1 _ I1 q) fun us s2 ⟨vs,H2,I2,r,q2⟩=>⟨I2.kIn,?_⟩) hst hpl
  exact qiF (us:=.ref a::us) (vs:=.ref a::vs) F hr hb hd hx I2 (.cons rfl r) q2
theorem qjK {pl:Sem Bool} (he:PE X o ta) (c:Cls X.K C) (hm:Meth X.K C m f) (F:FnOk X.prog X.w X.K X.mg X.base CX k f fd ps sp) (hr:Room k X.A) (hb:Binds X.K fd ps ds) (hd:Vals dvs ds) (hx:qdS CX X E)
    (ht:eval (.Call (.Attribute o m apos) [] [] pos) X.env=(do
      let ov ← eval o X.env
      standAt apos.atName
      let (f,first) ← holding [ov] (getMethod ov m pl)
      callWith pos f first (backTo pos (starEach [] X.env)) (backToKw pos (keywordEach [] X.env))):=by rfl) :
    PE X (.Call (.Attribute o m apos) [] [] pos) (qmR C m sp dvs E ta qn5):=by
  intro pins s σ H Q I h
  refine PySem.W.methodCall_KW (pl:=pl) (thn (he pins s σ H _ I h) fun u s1 hq0=>?_) ht
  obtain ⟨x,H1,I1,rx,a,dx,fs,ex,ea,l,q⟩:=hq0
  subst ex
  obtain rfl:u=Value.ref a:=rx
  refine qeI I1 ea c hm l ?_
  exact PySem.W.callWith_K0 (first:=[.ref a]) I1.kIn hm.kp (qiF (us:=[.ref a]) (vs:=[.ref a]) F hr hb hd hx I1 (.cons rfl .nil) q)
structure Mk (K:PySem.W.Frag) (C f:Addr):Prop where
  makes:PySem.W.makesIn K C=true
  init:PySem.W.findIn K (.ref C) "__init__"=some (some (.ref f))
  fn:PySem.W.isFn K (.ref f)=true
  kp:PySem.W.keepIn K (.ref C)=true
theorem qjs {pins:List (Addr × Obj)} {σ:St} {H:Hp} {s:Shared} {Q:VK} {us:List Value} {vs:List V} (M:Mk X.K C f) (F:FnOk X.prog X.w X.K X.mg X.base CX k f fd ps sp) (hr:Room (k+1) X.A) (hb:Binds X.K fd ps ds) (hd:Vals dvs ds)
    (hx:qdS CX X E) (I:Inv X pins σ H s) (r:Vals vs us)
    (h:∀ x dx,H x=none→H dx=none→dx≠x→sp (.ref x::(vs++dvs)) (upd (upd H dx (.own x)) x (.ins C dx [])) (fun v H2=>v=.non∧Q (.ref x) H2) E) :
    wpAny (model X.prog X.w) X.A (call (.ref C) us) (EP X pins σ Q) X.xe s:=by
  have hq:=h (s.heap.objs.size+1) s.heap.objs.size (I.hok.fresh (Nat.le_succ _)) (I.hok.fresh (Nat.le_refl _)) (Nat.ne_of_lt (Nat.lt_succ_self _))
  have I2:=Inv.made (C:=C) I
  have r2:Vals (V.ref (s.heap.objs.size+1)::(vs++dvs)) (Value.ref (s.heap.objs.size+1)::(us++ds)):=.cons rfl (r.append hd)
  have hl:(Value.ref (s.heap.objs.size+1)::us++ds).length=ps.length:=by
    have e:=r2.length
    rw [F.len _ _ _ _ hq] at e
    exact e.symm
  refine wpAny_call (qjB (f:=f) I.kIn M.makes M.init (beq_iff_eq.mp M.fn) (codeAny_mono (F.run _ X.stack _ _ ⟨Value.ref (s.heap.objs.size+1)::us,[]⟩ (Value.ref (s.heap.objs.size+1)::(us++ds)) _ _ E (hr.make C us [])
    (I2.env0.make C us []) (hb _ (Value.ref (s.heap.objs.size+1)::us) I2.kIn hl) r2 hq) fun r s' hq'=>?_))
  cases r with
  | error e=>exact hx pins σ _ _ e s' I2 hq'
  | ok fl =>
    cases fl with
    | ret u =>
      obtain ⟨v,H',I3,rv,ev,q3⟩:=I2.after hq'
      subst ev
      exact ⟨rv,⟨V.ref (s.heap.objs.size+1),H',I3,rfl,q3⟩⟩
    | next=>exact False.elim hq'
    | brk=>exact False.elim hq'
    | cont=>exact False.elim hq'
theorem qls (M:Mk X.K C f) (F:FnOk X.prog X.w X.K X.mg X.base CX k f fd ps sp) (hr:Room (k+1) X.A) (hg:Gl X x) (hm:X.mg x=some (.ref C)) (hb:Binds X.K fd ps ds) (hd:Vals dvs ds) (hx:qdS CX X E)
    (ha:PA X (e::es) t) (hdb:(x == ("__debug__":Str))=false:=by decide) (he:starEach (e::es) X.env=(false,eval e X.env)::starEach es X.env:=by rfl) (hpl:(backTo pos (starEach es X.env)).any (·.1)=false:=by rfl) :
    PE X (.Call (.Name x p) (e::es) [] pos) (qnw C sp dvs E t):=by
  intro pins s σ H Q I h
  refine wpAny_Call_Name_kw (qi3 I hg hm ?_ hdb)
  refine PySem.W.callWith_K (h₀:=X.base) I.ok.mod.kin M.kp (thn (ha pos pins s σ H _ I h) fun us s1 ⟨vs,H1,I1,r,q⟩=>⟨I1.kIn,?_⟩) he hpl
  exact qjs M F hr hb hd hx I1 r q
end
section
variable {X : Cx} {CX : CXT} {k : Nat} {f C : Addr} {fd : FuncData} {ps ks : List Str} {sp : Sp} {E : XK} {x m : Str} {p pos apos kpos : Pos} {e o : Expr} {es : List Expr} {kws : List Keyword} {te ta : TE} {t tk : TA} {nm : Option Str}
variable {g : List Value → List Value → List Value} {gV : List V → List V → List V}
end
structure FnScope (N P:List Str) (sc:Scope):Prop where
  kind:sc.kind=.function
  co:sc.isCoroutine=false
  gen:sc.isGenerator=false
  nd:N.Nodup
  pre:N.take P.length=P
  par:∀ x∈P,sc.names.lookup x=some .local∨sc.names.lookup x=some .cell
  nofree:∀ y∈sc.names,y.2≠.free
theorem qgg {kindOf:Str→Option NameKind} {x:Str}:∀ {binds:List (Str × Value)} {m:Str→Option Value},(∀ v,(x,v)∉binds)→bindL kindOf binds m x=m x
  | [],_,_=>rfl
  | (n,v)::r,m,h=>by
    unfold bindL
    rw [qgg fun w hw=>h w (List.mem_cons_of_mem _ hw)]
    split
    · have:x≠n:=by rintro rfl;exact h v List.mem_cons_self
      simp [this]
    · rfl
theorem qfE {kindOf:Str→Option NameKind} {x:Str}:∀ {binds:List (Str × Value)} {m:Str→Option Value},(∀ v,(x,v)∉binds)→bindC kindOf binds m x=m x
  | [],_,_=>rfl
  | (n,v)::r,m,h=>by
    unfold bindC
    rw [qfE fun w hw=>h w (List.mem_cons_of_mem _ hw)]
    split
    · rfl
    · have:x≠n:=by rintro rfl;exact h v List.mem_cons_self
      simp [this]
theorem qf6 {kindOf:Str→Option NameKind} {x:Str} {v:Value}:∀ {P:List Str} {vs:List Value} {i:Nat} {m:Str→Option Value},P.Nodup→P[i]?=some x→vs[i]?=some v→kindOf x=some .local →
    bindL kindOf (P.zip vs) m x=some v
  | [],_,_,_,_,h,_,_=>by simp at h
  | _::_,[],_,_,_,_,h,_=>by simp at h
  | p::P,w::vs,0,m,nd,h1,h2,hk=>by
    simp at h1 h2;subst h1;subst h2
    show bindL kindOf ((p,w)::P.zip vs) m p=_
    unfold bindL
    rw [qgg fun v hv=>(List.nodup_cons.mp nd).1 (List.of_mem_zip hv).1,if_pos hk]
    simp
  | p::P,w::vs,i+1,m,nd,h1,h2,hk=>by
    show bindL kindOf ((p,w)::P.zip vs) m x=_
    unfold bindL
    exact qf6 (i:=i) (List.nodup_cons.mp nd).2 (by simpa using h1) (by simpa using h2) hk
theorem qgj {kindOf:Str→Option NameKind} {x:Str} {v:Value}:∀ {P:List Str} {vs:List Value} {i:Nat} {m:Str→Option Value},P.Nodup→P[i]?=some x→vs[i]?=some v→kindOf x≠some .local →
    bindC kindOf (P.zip vs) m x=some v
  | [],_,_,_,_,h,_,_=>by simp at h
  | _::_,[],_,_,_,_,h,_=>by simp at h
  | p::P,w::vs,0,m,nd,h1,h2,hk=>by
    simp at h1 h2;subst h1;subst h2
    show bindC kindOf ((p,w)::P.zip vs) m p=_
    unfold bindC
    rw [qfE fun v hv=>(List.nodup_cons.mp nd).1 (List.of_mem_zip hv).1,if_neg hk]
    simp
  | p::P,w::vs,i+1,m,nd,h1,h2,hk=>by
    show bindC kindOf ((p,w)::P.zip vs) m x=_
    unfold bindC
    exact qgj (i:=i) (List.nodup_cons.mp nd).2 (by simpa using h1) (by simpa using h2) hk
def qen (N:List Str) (vs:List V):St:=vs.map some++List.replicate (N.length - vs.length) none
def qkW (CX:CXT) (P:Program) (w:World) (K:PySem.W.Frag) (mg:Str→Option Value) (base:Heap) (N:List Str) (qual:Str) (scope:Scope) (f:Addr) (cd:Value) (A:Around) (outer:List Env) (s:Shared) (H:Hp) (E:XK):Cx where
  prog:=P
  w:=w
  K:=K
  mg:=mg
  base:=base
  A:=A.deeper (envOfC qual scope s.heap.objs.size f cd)
  N:=N
  s₀:=s
  H₀:=H
  env:=envOfC qual scope s.heap.objs.size f cd
  outer:=outer
  stack:=envOfC qual scope s.heap.objs.size f cd::outer
  ex:=[]
  calm:=true
  fn:=fun _=>true
  pn:=[]
  xe:=fun e s'=>wpAny (model P w) (A.deeper (envOfC qual scope s.heap.objs.size f cd)) (leaving (envOfC qual scope s.heap.objs.size f cd) e) (fun _ s''=>CX outer H s E e s'') (fun e' s''=>CX outer H s E e' s'') s'
theorem qfa {sc:Scope} {n:Nat} {x:Str} (h:sc.names.lookup x=some .cell):∃ c,(cellsFrom n sc.names []).lookup x=some c:=by
  have q:=PySem.W.cellsFrom_some sc.names n [] (.inl h)
  exact Option.isSome_iff_exists.mp q
theorem qhL {CX:CXT} {P:Program} {w:World} {K:PySem.W.Frag} {mg:Str→Option Value} {base:Heap} {N ps:List Str} {qual:Str} {scope:Scope} {f:Addr} {cd:Value} {A:Around} {outer:List Env} {s s1:Shared} {H:Hp} {E:XK} {us:List Value} {vs:List V}
    (S:FnScope N ps scope) (hd:A.handled=none) (e0:Env0 P w K mg base A outer s H) (hl:vs.length=ps.length) (r:Vals vs us)
    (x:InCallC s s.heap.objs.size (bindL (envOfC qual scope s.heap.objs.size f cd).kindOf (ps.zip us) fun _=>none) (cellsFrom (s.heap.objs.size+1) scope.names []) (bindC (envOfC qual scope s.heap.objs.size f cd).kindOf (ps.zip us) fun _=>none) s1) :
    Inv (qkW CX P w K mg base N qual scope f cd A outer s H E) [] (qen N vs) H s1:=by
  have hpl:ps.length≤N.length:=by have:=congrArg List.length S.pre;rw [List.length_take] at this;omega
  obtain ⟨h1,tk,rfl,hk⟩:=x.done
  have noA:∀ b:Addr,b∉(qkW CX P w K mg base N qual scope f cd A outer s H E).ex:=fun b z=>absurd (show b∈([]:List Addr) from z) (by simp)
  refine ⟨⟨e0.mod,S.kind,rfl,rfl,Nat.le_refl _,fun y z c h1 h2=>?_,fun y hy=>?_,fun y c _ h=>?_,fun _=>hd,Around.frames_deeper e0.frames,.inr ⟨rfl,rfl⟩,fun b z=>absurd z (noA b),e0.bs,e0.bsz,fun b _ _=>noA b,fun b z=>absurd z (noA b),e0.funs,e0.frf⟩,
    rfl,e0.bare,Un.kept hk,⟨_,x.toInCall.ns,fun i y v h1 h2 h3=>?_⟩,fun y c h=>⟨_,x.cell y c h⟩,e0.hok.fresh (Nat.le_refl _),fun y c h=>?_,fun p hp=>absurd (show p∈([]:List (Addr × Obj)) from hp) (by simp),e0.hok.kept hk,?_⟩
  · exact name_of_addr x.apart (PySem.mem_of_lookup h1) (PySem.mem_of_lookup h2)
  · have hy:scope.names.lookup y=some .cell∨scope.names.lookup y=some .free:=hy
    rcases hy with hy | hy
    · exact qfa hy
    · exact absurd rfl (S.nofree _ (PySem.mem_of_lookup hy))
  · exact Nat.le_of_lt (x.above y c (PySem.mem_of_lookup h))
  · have hi:i<vs.length:=by
      unfold qen at h2
      by_cases hi:i<vs.length
      · exact hi
      · rw [List.getElem?_append_right (by simpa using hi)] at h2
        rw [List.getElem?_replicate] at h2
        split at h2 <;> cases h2
    have ha:vs[i]?=some v:=by
      unfold qen at h2
      rw [List.getElem?_append_left (by simpa using hi),List.getElem?_map] at h2
      cases e:vs[i]? with
      | none=>rw [e] at h2;cases h2
      | some a=>rw [e] at h2;cases h2;rfl
    obtain ⟨u,hu,rv⟩:=r.get ha
    have hp:ps[i]?=some y:=by
      rw [← S.pre,List.getElem?_take_of_lt (by omega)];exact h1
    have ndP:ps.Nodup:=by rw [← S.pre];exact S.nd.sublist (List.take_sublist _ _)
    refine ⟨u,rv,?_⟩
    rcases S.par y (List.mem_of_getElem? hp) with k | k
    · exact .inl ⟨k,qf6 ndP hp hu k⟩
    · obtain ⟨c,e⟩:=qfa (n:=s.heap.objs.size+1) k
      refine .inr ⟨.inl k,c,e,?_⟩
      have q:=x.cell y c e
      rw [qgj ndP hp hu (by show scope.names.lookup y≠_;rw [k];decide)] at q
      exact q
  · exact e0.hok.fresh (Nat.le_of_lt (x.above y c (PySem.mem_of_lookup h)))
  · unfold qen
    show _=N.length
    rw [List.length_append,List.length_map,List.length_replicate]
    omega
theorem qnh {CX:CXT} {P:Program} {w:World} {K:PySem.W.Frag} {mg:Str→Option Value} {base:Heap} {k:Nat} {f:Addr} {name qual:Str} {params:Arguments} {body:List Stmt} {scope:Scope} {dV kV doc pm cdv ct oc:Value} {an od:Option Addr}
    {osl:Array (Option Value)} {N ps:List Str} {sp:Sp} (lk:K.lookup f=some ⟨oc,od,.func (PySem.W.fnOf name qual params body scope dV kV doc pm an cdv ct),osl⟩) (hcd:PySem.W.codeIn K cdv qual=true) (S:FnScope N ps scope)
    (len:∀ vs H Q E,sp vs H Q E→vs.length=ps.length)
    (hbody:∀ (A:Around) (outer:List Env) (s:Shared) (H:Hp) (vs:List V) (Q:VK) (E:XK),Room k (A.deeper (envOfC qual scope s.heap.objs.size f cdv))→sp vs H Q E →
      ∃ t,PSs (qkW CX P w K mg base N qual scope f cdv A outer s H E) body t∧t { nx:=fun _ H'=>Q .non H',rt:=Q } (qen N vs) H) :
    FnOk P w K mg base CX (k+1) f (PySem.W.fnOf name qual params body scope dV kV doc pm an cdv ct) ps sp:=by
  refine ⟨len,fun A outer s H args us vs Q E hr e0 hb r hsp=>?_⟩
  have hl:=len _ _ _ _ hsp
  have KX:K.In s.heap:=e0.mod.kin.keeps fun b o e=>(e0.bs b o e).1
  have lim:s.heap.NoLimit:=e0.mod.nolimit.keeps fun b o e=>(e0.bs b o e).1
  have hkind:∀ y∈ps.zip us,scope.names.lookup y.1=some .local∨(scope.names.lookup y.1=some .cell∧((cellsFrom (s.heap.objs.size+1) scope.names []).lookup y.1).isSome=true):=fun hq0 hy=>by
    obtain ⟨n,v⟩:=hq0
    rcases S.par n (List.of_mem_zip hy).1 with q | q
    · exact .inl q
    · exact .inr ⟨q,PySem.W.cellsFrom_some _ _ _ (.inl q)⟩
  refine codeAny_call_function hr.depth (KX _ _ lk) rfl S.co S.gen rfl (PySem.W.codeRec_of KX hcd) (hb _ _ _ _ ?_)
  refine wpAny_newFunctionEnv_cells S.kind hkind fun env he s1 x=>?_
  subst he
  refine ⟨lim.keeps x.toInCall.keep,codeAny_func ?_⟩
  obtain ⟨t,ht,hq⟩:=hbody A outer s H vs Q E (hr.deeper _) hsp
  have I:Inv (qkW CX P w K mg base N qual scope f cdv A outer s H E) [] (qen N vs) H s1:=qhL S hr.hd e0 hl r x
  refine wpAny_mono (ht [] s1 (qen N vs) H _ I hq) (fun fl s' hs=>?_) fun e s' hs=>hs
  have fin:∀ {σ':St} {H':Hp} {v:V} {u:Value},Inv (qkW CX P w K mg base N qual scope f cdv A outer s H E) [] σ' H' s'→RelV v u→Q v H'→CE outer P w H s Q u s' :=
    fun {σ' H' v u} J rv q=>⟨v,H',J.os,J.bare,J.base,J.hok,rv,q⟩
  cases fl with
  | ret u =>
    obtain ⟨v,σ',H',J,rv,q⟩:=hs
    exact fin J rv q
  | next =>
    obtain ⟨σ',H',J,q⟩:=hs
    exact fin (v:=V.non) (u:=Value.none) J rfl q
  | brk =>
    obtain ⟨_,_,_,q⟩:=hs
    exact False.elim q
  | cont =>
    obtain ⟨_,_,_,q⟩:=hs
    exact False.elim q
section
variable {X : Cx} {x : Str} {p pos : Pos} {e : Expr} {es : List Expr} {t : TA} {id T : String} {r : List V → Hp → VK → Prop}
def tCB (r:List V→Hp→VK→Prop) (t:TA):TE:=fun σ H Q=>t σ H fun vs H1=>r vs H1 Q
theorem qbt (hc:qcv X (.builtin id) r) (hg:Gl X x) (hm:X.mg x=none) (hv:bootBuiltins x=some (.builtin id)) (ha:PA X (e::es) t) (hn:x≠"__name__":=by decide) (hdb:(x == ("__debug__":Str))=false:=by decide)
    (he:starEach (e::es) X.env=(false,eval e X.env)::starEach es X.env:=by rfl) (hpl:(backTo pos (starEach es X.env)).any (·.1)=false:=by rfl):PE X (.Call (.Name x p) (e::es) [] pos) (tCB r t):=by
  intro pins s σ H Q I h
  refine wpAny_Call_Name_kw (qdy I hg hm hv ?_ hn hdb)
  exact PyProof.Rows.callWith_builtin1 (thn (ha pos pins s σ H _ I h) fun us s1 hq0=>by obtain ⟨vs,H1,I1,r1,q1⟩:=hq0;exact hc pins s1 σ H1 vs us Q I1 r1 q1) he hpl
theorem qcy (hc:qcv X (.type T) r) (hg:Gl X x) (hm:X.mg x=none) (hv:bootBuiltins x=some (.type T)) (ha:PA X (e::es) t) (hn:x≠"__name__":=by decide) (hdb:(x == ("__debug__":Str))=false:=by decide)
    (he:starEach (e::es) X.env=(false,eval e X.env)::starEach es X.env:=by rfl) (hpl:(backTo pos (starEach es X.env)).any (·.1)=false:=by rfl):PE X (.Call (.Name x p) (e::es) [] pos) (tCB r t):=by
  intro pins s σ H Q I h
  refine wpAny_Call_Name_kw (qdy I hg hm hv ?_ hn hdb)
  exact PyProof.Rows.callWith_type1 (thn (ha pos pins s σ H _ I h) fun us s1 hq0=>by obtain ⟨vs,H1,I1,r1,q1⟩:=hq0;exact hc pins s1 σ H1 vs us Q I1 r1 q1) he hpl
end
end L2
namespace HT
open PySem PyProof.Rows
section
open PySem.SeqAt
open PySem.AutoSeq1 (wpAny_loadPart')
open PySem.MeetsSeq PySem.MeetsSeq2 PySem.MeetsSeq3
end
section
variable {prog : Program} {w : World} {A : Around} {E : Value → Shared → Prop} {s : Shared}
theorem cat_tup {t b:Addr} {vs ws:List Value} {Q:Value→Shared→Prop} (ht:IsTup s.heap t vs.toArray) (hb:IsTup s.heap b ws.toArray) (hv:vs≠[])
    (h1:ws=[]→Q (.ref t) s) (h2:ws≠[]→Q (.ref s.heap.objs.size) { s with heap:=s.heap.push { cls:=.type "tuple",data:=.seq (vs++ws).toArray } })
    (hsz:vs.length+ws.length≤sizeLine):wpAny (model prog w) A (binaryOp .Add (.ref t) (.ref b)) Q E s:=by
  obtain ⟨⟨cls,dd,data,sl⟩,ho,hc,n,hd⟩:=id ht
  obtain ⟨⟨cls2,dd2,data2,sl2⟩,ho2,hc2,n2,hd2⟩:=id hb
  simp only at hc hd hc2 hd2
  subst hc hd hc2 hd2
  have e:vs.toArray++ws.toArray=(vs++ws).toArray:=by simp
  by_cases hw:ws=[]
  · exact concat_meets ⟨_,ho,rfl⟩ ⟨_,ho2,rfl⟩ noFill_tuple_add seq_tuple_add PySem.F.slot_tuple_add PySem.F.entry_tuple_add (PySem.F.args_tuple_add_2 _ _)
      (tuple_addW1 t b vs.toArray ws.toArray n n2 dd dd2 sl sl2 (by simpa using hv) (by simp [hw])) ⟨ho,ho2,h1 hw⟩
  · refine concat_meets ⟨_,ho,rfl⟩ ⟨_,ho2,rfl⟩ noFill_tuple_add seq_tuple_add PySem.F.slot_tuple_add PySem.F.entry_tuple_add (PySem.F.args_tuple_add_2 _ _)
      (tuple_addW2 t b vs.toArray ws.toArray n n2 dd dd2 sl sl2 (by simpa using hv) (by simpa using hw) (by rw [List.size_toArray,List.size_toArray];exact hsz)) ⟨ho,ho2,?_⟩
    rw [e]
    exact h2 hw
def sIx (n d:Nat):Option Int→Nat
  | none=>d
  | some v=>if v<0 then (v+(n:Int)).toNat else min v.toNat n
theorem sIx_nat (n d k:Nat):sIx n d (some (k:Int))=min k n:=by
  show (if (k:Int)<0 then ((k:Int)+(n:Int)).toNat else min (k:Int).toNat n)=min k n
  rw [if_neg (by omega),Int.toNat_natCast]
theorem qmp (n d:Nat) (hd:d≤n) (o:Option Int):sIx n d o≤n:=by
  cases o with
  | none=>exact hd
  | some v =>
    show (if v<0 then (v+(n:Int)).toNat else min v.toNat n)≤n
    by_cases hv:v<0
    · rw [if_pos hv];omega
    · rw [if_neg hv];exact Nat.min_le_right _ _
theorem qh6 (v:Int) (n d:Nat):(if v<0 then max (v+(n:Int)) 0 else min v (n:Int))=((sIx n d (some v):Nat):Int):=by
  show (if v<0 then max (v+(n:Int)) 0 else min v (n:Int))=(((if v<0 then (v+(n:Int)).toNat else min v.toNat n):Nat):Int)
  by_cases hv:v<0
  · simp only [if_pos hv];omega
  · simp only [if_neg hv];omega
theorem qhB (lo hi:Option Int) (n:Nat):Builtin.Slice.sliceAdjust lo hi 1 (n:Int)=(((sIx n 0 lo:Nat):Int),((sIx n n hi:Nat):Int)):=by
  have h1:¬ ((1:Int)<0):=by omega
  unfold Builtin.Slice.sliceAdjust
  simp only [h1,if_false]
  refine Prod.ext ?_ ?_
  · cases lo with
    | none=>rfl
    | some v=>exact qh6 v n 0
  · cases hi with
    | none=>rfl
    | some v=>exact qh6 v n n
theorem qhG (i j:Nat):Builtin.Slice.slicePlaces (i:Int) (j:Int) 1=j - i:=by
  unfold Builtin.Slice.slicePlaces
  have h1:(1:Int)>0:=by omega
  simp only [h1,if_true,Int.ediv_one]
  split <;> omega
theorem qeF {v:Value} {o:Option Int} {Q:Option Int→Shared→Prop} (p:IsPart v o) (h:Q o s):wpAny (model prog w) A (Builtin.Slice.slicePartIndex v) Q E s:=by
  cases p with
  | none=>exact slicePart_none h
  | int i t=>exact slicePart_int h
theorem qcV {sl:Addr} {vl vu:Value} {lo hi:Option Int} {n:Nat} {Q:Int × Int × Nat→Shared→Prop} (hs:s.heap.IsSliceOf sl vl vu .none) (pl:IsPart vl lo) (pu:IsPart vu hi)
    (h:Q (((sIx n 0 lo:Nat):Int),1,sIx n n hi - sIx n 0 lo) s):wpAny (model prog w) A (Builtin.Slice.sliceApplied (.ref sl) (pure (n:Int))) Q E s:=by
  obtain ⟨os,hos,hcs,hds⟩:=id hs
  unfold Builtin.Slice.sliceApplied Builtin.Slice.sliceFields
  refine wpAny_bind (wpAny_bind (wpAny_field hos hds (x:=vl) rfl (wpAny_bind (wpAny_field hos hds (x:=vu) rfl (wpAny_bind (wpAny_field hos hds (x:=.none) rfl (wpAny_pure ?_)))))))
  refine wpAny_bind (slicePart_none ?_)
  show wpAny _ _ (if ((1:Int) == 0)=true then _ else _) _ _ s
  rw [if_neg (by decide)]
  refine wpAny_bind (qeF pl (wpAny_bind (qeF pu (wpAny_bind (wpAny_pure ?_)))))
  show wpAny _ _ (match Builtin.Slice.sliceAdjust lo hi 1 (n:Int) with | (lo,hi)=>pure (lo,(1:Int),Builtin.Slice.slicePlaces lo hi 1)) _ _ s
  rw [qhB lo hi n]
  show wpAny _ _ (pure (((sIx n 0 lo:Nat):Int),(1:Int),Builtin.Slice.slicePlaces ((sIx n 0 lo:Nat):Int) ((sIx n n hi:Nat):Int) 1)) _ _ s
  rw [qhG]
  exact wpAny_pure h
theorem qjt (xs:Array Value) (i k:Nat):((List.range k).filterMap fun (m:Nat)=>xs[((i:Int)+(m:Int)*1).toNat]?).toArray=((xs.toList.drop i).take k).toArray:=by
  have e:(fun (m:Nat)=>xs[((i:Int)+(m:Int)*1).toNat]?)=fun m=>xs[i+m]?:=by
    funext m
    have:((i:Int)+(m:Int)*1).toNat=i+m:=by omega
    rw [this]
  rw [e]
  have:=pick_run xs i k
  rw [List.filterMap_map] at this
  have e2:((fun x=>xs[x]?) ∘ fun x=>i+x)=fun m=>xs[i+m]?:=rfl
  rw [e2] at this
  rw [this]
theorem getItem_tuple_cut {t sl:Addr} {items:Array Value} {vl vu:Value} {lo hi:Option Int} {Q:Value→Shared→Prop} (ht:IsTup s.heap t items) (hs:s.heap.IsSliceOf sl vl vu .none) (pl:IsPart vl lo) (pu:IsPart vu hi)
    (hw:¬ (sIx items.size 0 lo=0∧sIx items.size items.size hi=items.size))
    (h:Q (.ref s.heap.objs.size) { s with heap:=s.heap.push { cls:=.type "tuple",data:=.seq ((items.toList.drop (sIx items.size 0 lo)).take (sIx items.size items.size hi - sIx items.size 0 lo)).toArray } })
    (hsz:items.size≤sizeLine):wpAny (model prog w) A (getItem (.ref t) (.ref sl)) Q E s:=by
  have htake:sizeOk (.seq ((items.toList.drop (sIx items.size 0 lo)).take (sIx items.size items.size hi - sIx items.size 0 lo)).toArray):=by
    show ((items.toList.drop (sIx items.size 0 lo)).take (sIx items.size items.size hi - sIx items.size 0 lo)).toArray.size≤sizeLine
    rw [List.size_toArray,List.length_take,List.length_drop,Array.length_toList]
    omega
  have hj:sIx items.size items.size hi≤items.size:=qmp _ _ (Nat.le_refl _) hi
  obtain ⟨os,hos,hcs,hds⟩:=id hs
  have hTs:s.TypeIs (.ref sl) "slice":=⟨os,hos,hcs⟩
  unfold getItem
  try with_reducible refine wpAny_holding ?_
  first | refine wpAny_bind (wpAny_pure ?_) | skip
  refine wpAny_bind (wpAny_sequenceKey ht.typeIs (by decide) ?_)
  refine wpAny_bind (wpAny_callSpecial?_slot (name:=Str.ofString "__getitem__") ht.typeIs PyProof.Rows.slot_tuple_getitem
    (wpAny_call_entry PyProof.Rows.slot_tuple_getitem ht.typeIs entry_tuple_getitem ?_ (args_tuple_getitem _ _)))
  show wpAny _ _ (Builtin.Tuple.tupleItemsOf (.ref t) >>= _) _ _ s
  refine wpAny_bind (tupleItemsOf_ ht ?_)
  refine wpAny_bind (wpAny_typeOf hTs ?_)
  rw [if_pos (by decide)]
  refine wpAny_bind (qcV hs pl pu ?_)
  have hno:¬ ((((sIx items.size 0 lo:Nat):Int) == 0 && (1:Int) == 1 && (sIx items.size items.size hi - sIx items.size 0 lo) == items.size)=true):=by
    intro q
    rw [Bool.and_eq_true,Bool.and_eq_true] at q
    have q1:((sIx items.size 0 lo:Nat):Int)=0:=eq_of_beq q.1.1
    have q2:sIx items.size items.size hi - sIx items.size 0 lo=items.size:=eq_of_beq q.2
    exact hw ⟨by omega,by omega⟩
  show wpAny _ _ (if (((sIx items.size 0 lo:Nat):Int) == 0 && (1:Int) == 1 && (sIx items.size items.size hi - sIx items.size 0 lo) == items.size)=true then _ else _) _ _ s
  rw [if_neg hno,qjt]
  first
    | exact wpAny_bind (m:=Builtin.Tuple.tupleExact _) (wpAny_newObj_type (wpAny_pure ⟨_,rfl,wpAny_pure h⟩) htake)
    | exact wpAny_bind (m:=Builtin.Tuple.tupleExact _) (wpAny_newObj_type (wpAny_bind (wpAny_pure (wpAny_pure ⟨_,rfl,wpAny_pure h⟩))) htake)
    | exact wpAny_bind (wpAny_bind (m:=Builtin.Tuple.tupleExact _) (wpAny_newObj_type (wpAny_pure (wpAny_pure ⟨_,rfl,wpAny_pure h⟩)) htake))
    | exact wpAny_bind (wpAny_bind (m:=Builtin.Tuple.tupleExact _) (wpAny_newObj_type (wpAny_pure ⟨_,rfl,wpAny_pure h⟩) htake))
end
end HT
namespace L2
open PySem PySem.Spec PyProof.Rows
abbrev TO:=St→Hp→(Option Int→Hp→Prop)→Prop
def PO (X:Cx) (e:Option Expr) (t:TO):Prop :=
  ∀ (pins:List (Addr × Obj)) (s:Shared) (σ:St) (H:Hp) (Q:Option Int→Hp→Prop),Inv X pins σ H s→t σ H Q →
    wpAny (model X.prog X.w) X.A (evalPart e X.env) (fun u s'=>∃ o H',Inv X pins σ H' s'∧IsPart u o∧Q o H') X.xe s
def qlr:TO:=fun _ H Q=>Q none H
def qnW (t:TE):TO:=fun σ H Q=>t σ H fun x H1=>∃ i,x=.int i∧Q (some i) H1
section
variable {X : Cx} {e : Expr} {te : TE} {lo hi : Option Expr} {tl th : TO} {pos p2 : Pos}
theorem po_none:PO X none qlr:=by
  intro pins s σ H Q I h
  rw [evalPart_none]
  exact wpAny_pure ⟨none,H,I,.none,h⟩
theorem qlE (h:PE X e te):PO X (some e) (qnW te):=by
  intro pins s σ H Q I hw
  rw [evalPart_some]
  refine thn (h pins s σ H _ I hw) fun u s1 hq0=>?_
  obtain ⟨x,H1,I1,r1,q1⟩:=hq0
  obtain ⟨i,rfl,q⟩:=q1
  obtain ⟨t,rfl⟩:=r1
  exact ⟨some i,H1,I1,.int i t,q⟩
def SlR (X:Cx) (r:V→Option Int→Option Int→Hp→VK→Prop):Prop :=
  ∀ (pins:List (Addr × Obj)) (s:Shared) (σ:St) (H:Hp) (x:V) (v vl vu:Value) (lo hi:Option Int) (sl:Addr) (Q:VK),Inv X pins σ H s→RelV x v→s.heap.IsSliceOf sl vl vu .none→IsPart vl lo→IsPart vu hi→r x lo hi H Q →
    ∃ T id,typeLookup (.type T) "__getitem__"=pure (some (.builtin id))∧s.TypeIs v T∧wpAny (model X.prog X.w) X.A (getItem v (.ref sl)) (EP X pins σ Q) X.xe s
theorem SlR.or {r r':V→Option Int→Option Int→Hp→VK→Prop} (h:SlR X r) (h':SlR X r'):SlR X (fun x lo hi H Q=>r x lo hi H Q∨r' x lo hi H Q):=by
  intro pins s σ H x v vl vu lo hi sl Q I rx hs pl pu q
  rcases q with q | q
  · exact h pins s σ H x v vl vu lo hi sl Q I rx hs pl pu q
  · exact h' pins s σ H x v vl vu lo hi sl Q I rx hs pl pu q
def tSl (r:V→Option Int→Option Int→Hp→VK→Prop) (te:TE) (tl th:TO):TE:=fun σ H Q=>te σ H fun x H1=>tl σ H1 fun l H2=>th σ H2 fun u H3=>r x l u H3 Q
theorem qkc {r:V→Option Int→Option Int→Hp→VK→Prop} (hr:SlR X r) (he:PE X e te) (hl:PO X lo tl) (hu:PO X hi th):PE X (.Subscript e (.Slice lo hi none p2) pos) (tSl r te tl th):=by
  intro pins s σ H Q I h
  refine Subscript_ (thn (he pins s σ H _ I h) fun v s1 ⟨x,H1,I1,r1,q1⟩=>?_)
  refine wpAny_Slice (thn (hl pins s1 σ H1 _ I1 q1) fun vl s2 ⟨l,H2,I2,pl,q2⟩=>thn (hu pins s2 σ H2 _ I2 q2) fun vu s3 ⟨u,H3,I3,pu,q3⟩=>?_)
  rw [evalPart_none]
  refine wpAny_pure ?_
  have I4:Inv X pins σ H3 { s3 with heap:=s3.heap.push { cls:=.type "slice",data:=.fields #[vl,vu,.none] } }:=I3.kept (t':=s3.toks) fun b ob q=>Heap.get?_push_of_some _ q
  obtain ⟨T,id,hT,ht,hg⟩:=hr pins { s3 with heap:=s3.heap.push { cls:=.type "slice",data:=.fields #[vl,vu,.none] } } σ H3 x v vl vu l u s3.heap.objs.size Q I4 r1 (Heap.IsSliceOf.new ..) pl pu q3
  show wpAny (model X.prog X.w) X.A (subscriptTail e (.Slice lo hi none p2) v (.ref s3.heap.objs.size)) (EP X pins σ Q) X.xe { s3 with heap:=s3.heap.push { cls:=.type "slice",data:=.fields #[vl,vu,.none] } }
  exact tail_any (ops:=[.ref s3.heap.objs.size,v]) ht hT hg (by with_unfolding_all rfl)
def qkm (xs:List V) (lo hi:Option Int):List V:=(xs.drop (HT.sIx xs.length 0 lo)).take (HT.sIx xs.length xs.length hi - HT.sIx xs.length 0 lo)
theorem qex (xs:List V) (lo hi:Option Int):(qkm xs lo hi).length≤xs.length:=by
  unfold qkm
  rw [List.length_take,List.length_drop]
  omega
def qoh (K:PySem.W.Frag):V→Option Int→Option Int→Hp→VK→Prop:=fun x lo hi H Q=>∃ a xs,x=.ref a∧SqT K H a xs ∧
  ¬ (HT.sIx xs.length 0 lo=0∧HT.sIx xs.length xs.length hi=xs.length)∧∀ p,H p=none→Q (.ref p) (upd H p (.tup (qkm xs lo hi)))
theorem sl_tup:SlR X (qoh X.K):=by
  intro pins s σ H x v vl vu lo hi sl Q I rx hs pl pu h
  obtain ⟨a,xs,rfl,hx,hw,q⟩:=h
  cases rx
  obtain ⟨its,r,ht,hz⟩:=I.tuple hx
  have hlen:its.toArray.size=xs.length:=by rw [List.size_toArray];exact r.length.symm
  refine ⟨"tuple",_,PyProof.Rows.slot_tuple_getitem.lookup,ht.typeIs,?_⟩
  refine HT.getItem_tuple_cut ht hs pl pu (by rw [hlen];exact hw) ?_ (by rw [hlen];exact hz)
  rw [hlen]
  refine ⟨.ref s.heap.objs.size,_,I.laid (t':=s.toks) (o:=.tup (qkm xs lo hi)) (fun b ob q=>Heap.get?_push_of_some _ q) (Nat.le_refl _) ?_,rfl,q _ (I.hok.fresh (Nat.le_refl _))⟩
  exact ⟨Nat.le_trans (qex xs lo hi) hz,_,(r.drop (HT.sIx xs.length 0 lo)).take (HT.sIx xs.length xs.length hi - HT.sIx xs.length 0 lo),IsTup.new _ _⟩
def qni (K:PySem.W.Frag):R2:=fun x y H Q=>∃ a b xs ys,x=.ref a∧y=.ref b∧SqT K H a xs∧SqT K H b ys∧xs≠[]∧xs.length+ys.length≤sizeLine ∧
  (ys=[]→Q (.ref a) H)∧(ys≠[]→∀ p,H p=none→Q (.ref p) (upd H p (.tup (xs++ys))))
theorem Vals.nil_iff {xs:List V} {us:List Value} (r:Vals xs us):us=[]↔xs=[]:=by
  cases r with
  | nil=>simp
  | cons _ _=>simp
theorem qlC:OpR X (binaryOp .Add) (qni X.K):=by
  intro pins s σ H x y v u Q I rx ry h
  obtain ⟨a,b,xs,ys,rfl,rfl,ha,hb,hx,hz,q1,q2⟩:=h
  cases rx
  cases ry
  obtain ⟨its,r1,p1,_⟩:=I.tuple ha
  obtain ⟨its2,r2,p2,_⟩:=I.tuple hb
  refine HT.cat_tup p1 p2 (fun z=>hx (r1.nil_iff.mp z)) (fun z=>⟨.ref a,H,I,rfl,q1 (r2.nil_iff.mp z)⟩) (fun z=>?_) (by rw [← r1.length,← r2.length];exact hz)
  refine ⟨.ref s.heap.objs.size,_,I.laid (t':=s.toks) (o:=.tup (xs++ys)) (fun b ob q=>Heap.get?_push_of_some _ q) (Nat.le_refl _) ?_,rfl,q2 (fun w=>z (r2.nil_iff.mpr w)) _ (I.hok.fresh (Nat.le_refl _))⟩
  exact ⟨by rw [List.length_append];exact hz,_,r1.append r2,IsTup.new _ _⟩
end
def ixN (n:Nat) (i:Int):Option Nat:=if 0≤i then (if i<n then some i.toNat else none) else if -(n:Int)≤i then some (i+n).toNat else none
def atI {α:Type} (xs:List α) (i:Int):Option α:=(ixN xs.length i).bind fun j=>xs[j]?
theorem qix {n:Nat} {i:Int} {j:Nat} (h:ixN n i=some j):seqIndex? i n=some j∧j<n∧-(n:Int)≤i∧i<n:=by
  unfold ixN at h
  by_cases h0:0≤i
  · rw [if_pos h0] at h
    by_cases h1:i<n
    · rw [if_pos h1] at h
      have e:i.toNat=j:=Option.some.inj h
      exact ⟨by rw [seqIndex_of h0 h1,e],by omega,by omega,h1⟩
    · rw [if_neg h1] at h;cases h
  · rw [if_neg h0] at h
    by_cases h1:-(n:Int)≤i
    · rw [if_pos h1] at h
      have e:(i+n).toNat=j:=Option.some.inj h
      exact ⟨by rw [seqIndex_neg (by omega) h1,e],by omega,h1,by omega⟩
    · rw [if_neg h1] at h;cases h
theorem qgI {α:Type} {xs:List α} {i:Int} {v:α} (h:atI xs i=some v):∃ j,seqIndex? i xs.length=some j∧xs[j]?=some v∧j<xs.length∧-(xs.length:Int)≤i∧i<xs.length:=by
  unfold atI at h
  cases e:ixN xs.length i with
  | none=>rw [e] at h;cases h
  | some j =>
    rw [e] at h
    obtain ⟨h1,h2,h3,h4⟩:=qix e
    exact ⟨j,h1,h,h2,h3,h4⟩
theorem qlF {α:Type} {xs:List α} {j:Nat} {v:α} (h:xs[j]?=some v):atI xs (j:Int)=some v:=by
  have hj:j<xs.length:=(List.getElem?_eq_some_iff.mp h).1
  have e:ixN xs.length (j:Int)=some j:=by
    unfold ixN
    rw [if_pos (by omega),if_pos (by omega)];simp
  unfold atI;rw [e];exact h
def qh2 (b:Expr):Prop:=∀ o i,subscripted b false o i=operate [o,i] (getItem o i)
def IxR (X:Cx) (r:R2):Prop :=
  ∀ (value slice:Expr) (pins:List (Addr × Obj)) (s:Shared) (σ:St) (H:Hp) (x y:V) (v u:Value) (Q:VK),Inv X pins σ H s→RelV x v→RelV y u→r x y H Q →
    subscripted slice false v u=operate [v,u] (getItem v u)→wpAny (model X.prog X.w) X.A (subscriptTail value slice v u) (EP X pins σ Q) X.xe s
def MtR (X:Cx) (id:String) (r:V→List V→Hp→VK→Prop):Prop :=
  ∀ (pins:List (Addr × Obj)) (s:Shared) (σ:St) (H:Hp) (x:V) (xs:List V) (v:Value) (us:List Value) (Q:VK),Inv X pins σ H s→RelV x v→Vals xs us→r x xs H Q →
    wpAny (model X.prog X.w) X.A (call (.builtin id) (v::us)) (EP X pins σ Q) X.xe s
section
variable {X : Cx} {a b : Expr} {ta tb : TE} {pos : Pos}
theorem IxR.or {r r':R2} (h:IxR X r) (h':IxR X r'):IxR X (fun x y H Q=>r x y H Q∨r' x y H Q):=by
  intro value slice pins s σ H x y v u Q I rx ry q hs
  rcases q with q | q
  · exact h value slice pins s σ H x y v u Q I rx ry q hs
  · exact h' value slice pins s σ H x y v u Q I rx ry q hs
theorem qcn {r:R2} (hr:IxR X r) (ha:PE X a ta) (hb:PE X b tb) (hs:qh2 b):PE X (.Subscript a b pos) (tOp r ta tb):=by
  intro pins s σ H Q I h
  exact Subscript_ (qny ha hb I h fun v u s2 x y H2 I2 rx ry q=>hr a b pins s2 σ H2 x y v u Q I2 rx ry q (hs _ _))
def qn9 (K:PySem.W.Frag):R2:=fun x y H Q=>∃ p xs i v,x=.ref p∧y=.int i∧SqL K H p xs∧atI xs i=some v∧Q v H
def qol (K:PySem.W.Frag):R2:=fun x y H Q=>∃ p xs i v,x=.ref p∧y=.int i∧SqT K H p xs∧atI xs i=some v∧Q v H
def qoj:R2:=fun x y H Q=>∃ z i c,x=.str z∧y=.int i∧z.length≤sizeLine∧atI z.cps.toList i=some c∧Q (.str ⟨#[c]⟩) H
theorem ix_list:IxR X (qn9 X.K):=by
  intro value slice pins s σ H x y v u Q I rx ry h hs
  obtain ⟨p,xs,i,z,rfl,rfl,hq,he,q⟩:=h
  cases rx
  obtain ⟨t,rfl⟩:=ry
  obtain ⟨its,r,pl,hz⟩:=I.list hq
  obtain ⟨j,h1,h2,h3,h4,h5⟩:=qgI he
  obtain ⟨w,ew,rw'⟩:=r.get h2
  have hl:=r.length
  have hn:=qdR
  have fin:EP X pins σ Q w s:=⟨z,H,I,rw',q⟩
  by_cases h0:0≤i
  · have hj:i.toNat=j:=by
      rw [seqIndex_of h0 h5] at h1
      exact Option.some.inj h1
    exact item_listR pl.isList h0 (by omega) (by rw [hj];simpa using ew) fin hs
  · have hj:(i+(its.toArray.size:Int)).toNat=j:=by
      rw [seqIndex_neg (by omega) h4] at h1
      rw [List.size_toArray,← hl]
      exact Option.some.inj h1
    exact subscriptTail_builtinR (x:=w) pl.isList.typeIs slot_list_getitem.lookup
      (wpAny_getItem_list_neg (Q:=fun r s'=>r=w∧EP X pins σ Q r s') pl.isList (by omega) (by rw [List.size_toArray] <;> omega) (by omega) (by rw [hj];simpa using ew) ⟨rfl,fin⟩) hs
theorem ix_tup:IxR X (qol X.K):=by
  intro value slice pins s σ H x y v u Q I rx ry h hs
  obtain ⟨p,xs,i,z,rfl,rfl,hq,he,q⟩:=h
  cases rx
  obtain ⟨t,rfl⟩:=ry
  obtain ⟨its,r,pl,hz⟩:=I.tuple hq
  obtain ⟨j,h1,h2,h3,h4,h5⟩:=qgI he
  obtain ⟨w,ew,rw'⟩:=r.get h2
  have hl:=r.length
  have hn:=qdR
  have fin:EP X pins σ Q w s:=⟨z,H,I,rw',q⟩
  exact subscriptTail_builtinR (x:=w) pl.typeIs slot_tuple_getitem.lookup
    (getItem_tuple (j:=j) (Q:=fun r s'=>r=w∧EP X pins σ Q r s') pl (by omega) (by omega) (by rw [List.size_toArray,← hl];exact h1) (by simpa using ew) ⟨rfl,fin⟩) hs
theorem qkx:IxR X qoj:=by
  intro value slice pins s σ H x y v u Q I rx ry h hs
  obtain ⟨z,i,c,rfl,rfl,hz,he,q⟩:=h
  obtain ⟨t,rfl⟩:=rx
  obtain ⟨t',rfl⟩:=ry
  obtain ⟨j,h1,h2,h3,h4,h5⟩:=qgI he
  have hl:z.cps.toList.length=z.length:=by simp [Str.length]
  rw [hl] at h1 h4 h5
  have hn:=qdR
  exact tail_any (typeIs_str s z t) slot_str_getitem.lookup (getItem_str (c:=c) (by
    have e1:decide (i < -(2 ^ 63:Int))=false:=decide_eq_false (by omega)
    have e2:decide (i≥2 ^ 63)=false:=decide_eq_false (by omega)
    rw [e1,e2,Bool.or_false]) (by rw [h1];simpa using h2) ⟨.str ⟨#[c]⟩,H,I.tok _,⟨_,rfl⟩,q⟩) hs
def rIx (K:PySem.W.Frag):R2:=fun x y H Q=>qn9 K x y H Q∨qol K x y H Q∨qoj x y H Q
theorem qkL:IxR X (rIx X.K):=ix_list.or (ix_tup.or qkx)
theorem qhy (its:List Value) (n j:Nat) (u:Value):Obj.mapSeq (·.setIfInBounds j u) { cls:=.type "list",data:=.seq its.toArray n }={ cls:=.type "list",data:=.seq (its.set j u).toArray n }:=by
  simp [Obj.mapSeq]
theorem Inv.lst {pins:List (Addr × Obj)} {σ:St} {H:Hp} {s:Shared} {p:Addr} {xs:List V} (I:Inv X pins σ H s) (h:H p=some (.lst xs)) :
    ∃ (its:List Value) (n:Nat),Vals xs its∧s.heap.get? p=some { cls:=.type "list",data:=.seq its.toArray n }∧xs.length≤sizeLine:=by
  obtain ⟨z,its,n,r,e⟩:=I.hok p _ h
  exact ⟨its,n,r,e,z⟩
theorem Inv.lstUpd {pins:List (Addr × Obj)} {σ:St} {H:Hp} {s:Shared} {p:Addr} {xs ys:List V} {its its':List Value} {n n':Nat} {f:Obj→Obj} (I:Inv X pins σ H s) (h:H p=some (.lst xs))
    (ho:s.heap.get? p=some { cls:=.type "list",data:=.seq its.toArray n }) (hf:f { cls:=.type "list",data:=.seq its.toArray n }={ cls:=.type "list",data:=.seq its'.toArray n' }) (r:Vals ys its') (hz:ys.length≤sizeLine) (t:Nat) :
    Inv X pins σ (upd H p (.lst ys)) { s with heap:=s.heap.update p f,toks:=t }:=by
  have e:(s.heap.update p f).get? p=some { cls:=.type "list",data:=.seq its'.toArray n' }:=by
    rw [Heap.get?_update_self f ho (by rw [hf] <;> rfl),hf]
  refine I.write (x:=p) (e:=p) (by rw [h];trivial) (.inl rfl) (fun b u hb q=>(Heap.get?_update_other _ _ (Ne.symm hb)).trans q) ⟨_,e⟩ ?_
  exact ⟨hz,its',n',r,e⟩
def qnq:V→V→V→Hp→(Hp→Prop)→Prop:=fun o i v H Q=>∃ p xs k j,o=.ref p∧i=.int k∧H p=some (.lst xs)∧ixN xs.length k=some j∧Q (upd H p (.lst (xs.set j v)))
theorem qg3:qnO X qnq:=by
  intro pins s σ H o i v ov iv u Q I ro ri rv h
  obtain ⟨p,xs,k,j,rfl,rfl,hp,hj,q⟩:=h
  cases ro
  obtain ⟨t,rfl⟩:=ri
  obtain ⟨its,n,r,ho,hz⟩:=I.lst hp
  obtain ⟨h1,h2,h3,h4⟩:=qix hj
  have hl:=r.length
  have hn:=qdR
  have I':Inv X pins σ (upd H p (.lst (xs.set j v))) { s with heap:=s.heap.update p (Obj.mapSeq (·.setIfInBounds j u)) } :=
    I.lstUpd hp ho (qhy its n j u) (r.set rv j) (by rw [List.length_set];exact hz) s.toks
  by_cases h0:0≤k
  · have hk:k.toNat=j:=by
      rw [seqIndex_of h0 h4] at h1
      exact Option.some.inj h1
    exact PySem.W.ki_setAt ho h0 (by omega) (by rw [List.size_toArray,← hl];exact h4) (by rw [hk];exact ⟨_,I',q⟩)
  · have hk:(k+(its.toArray.size:Int)).toNat=j:=by
      rw [seqIndex_neg (by omega) h3] at h1
      rw [List.size_toArray,← hl]
      exact Option.some.inj h1
    exact PySem.W.ki_setBack ho (by omega) (by rw [List.size_toArray,← hl];exact h3) (by omega) (by rw [hk];exact ⟨_,I',q⟩)
theorem qfP (lo hi:Option Int) (n:Nat):(sliceBounds lo hi none n).1=((HT.sIx n 0 lo:Nat):Int)∧(sliceBounds lo hi none n).2.1=((HT.sIx n n hi:Nat):Int)∧(sliceBounds lo hi none n).2.2=1:=by
  refine ⟨?_,?_,rfl⟩
  · cases lo with
    | none=>simp [sliceBounds,HT.sIx]
    | some i =>
      simp only [sliceBounds,HT.sIx,Option.getD_none,show (1:Int)>0 by decide,if_true]
      by_cases h:i<0
      · simp only [h,if_true] <;> omega
      · simp only [h,if_false] <;> omega
  · cases hi with
    | none=>simp [sliceBounds,HT.sIx]
    | some i =>
      simp only [sliceBounds,HT.sIx,Option.getD_none,show (1:Int)>0 by decide,if_true]
      by_cases h:i<0
      · simp only [h,if_true] <;> omega
      · simp only [h,if_false] <;> omega
theorem qfc (its:List Value) (lo hi:Option Int):slicePick its.toArray lo hi none=((its.drop (HT.sIx its.length 0 lo)).take (HT.sIx its.length its.length hi - HT.sIx its.length 0 lo)).toArray:=by
  obtain ⟨h1,h2,h3⟩:=qfP lo hi its.toArray.size
  unfold slicePick
  rw [h1,h2,h3]
  simp only [sliceRange_one,pick_run,List.size_toArray] <;> rfl
def qn2 (K:PySem.W.Frag):V→Option Int→Option Int→Hp→VK→Prop:=fun x lo hi H Q=>∃ a xs,x=.ref a∧SqL K H a xs∧∀ p,H p=none→Q (.ref p) (upd H p (.lst (qkm xs lo hi)))
theorem sl_list:SlR X (qn2 X.K):=by
  intro pins s σ H x v vl vu lo hi sl Q I rx hs pl pu h
  obtain ⟨a,xs,rfl,hx,q⟩:=h
  cases rx
  obtain ⟨its,r,ht,hz⟩:=I.list hx
  have hlen:=r.length
  refine ⟨"list",_,slot_list_getitem.lookup,ht.isList.typeIs,?_⟩
  refine wpAny_getItem_list_slice ht.isList hs pl pu .none (by simp) ?_ (by rw [List.size_toArray] <;> omega)
  rw [qfc,← hlen]
  refine ⟨.ref s.heap.objs.size,_,I.laid (t':=s.toks) (o:=.lst (qkm xs lo hi)) (fun b ob q=>Heap.get?_push_of_some _ q) (Nat.le_refl _) ?_,rfl,q _ (I.hok.fresh (Nat.le_refl _))⟩
  exact ⟨Nat.le_trans (qex xs lo hi) hz,_,0,(r.drop (HT.sIx xs.length 0 lo)).take (HT.sIx xs.length xs.length hi - HT.sIx xs.length 0 lo),Heap.get?_push_size _ rfl⟩
theorem qaS:qcv X (.builtin "len") (fun xs H Q=>∃ p ys,xs=[.ref p]∧(SqL X.K H p ys∨SqT X.K H p ys)∧Q (.int ys.length) H):=by
  intro pins s σ H xs us Q I r h
  obtain ⟨p,ys,rfl,hq,q⟩:=h
  obtain ⟨u,rfl,rx⟩:=qgo r
  cases rx
  have hn:=qdR
  rcases hq with hq | hq
  · obtain ⟨its,r',pl,hz⟩:=I.list hq
    have hlen:=r'.length
    exact Calls.call_len_list pl.isList (by simp only [List.size_toArray] <;> omega) ⟨.int ys.length,H,I.tok _,⟨s.toks+1,by rw [List.size_toArray,hlen]⟩,q⟩
  · obtain ⟨its,r',pl,hz⟩:=I.tuple hq
    have hlen:=r'.length
    exact len_tuple pl (by simp only [List.size_toArray] <;> omega) ⟨.int ys.length,H,I.tok _,⟨s.toks+1,by rw [List.size_toArray,hlen]⟩,q⟩
theorem qf9:qcv X (.builtin "len") (fun xs H Q=>∃ z,xs=[.str z]∧z.length≤sizeLine∧Q (.int z.length) H):=by
  intro pins s σ H xs us Q I r h
  obtain ⟨z,rfl,hz,q⟩:=h
  obtain ⟨u,rfl,t,rfl⟩:=qgo r
  have hn:=qdR
  exact len_str (by omega) ⟨.int z.length,H,I.tok _,⟨_,rfl⟩,q⟩
theorem qdU:qcv X (.type "list") (fun xs H Q=>∃ p ys,xs=[.ref p]∧(SqL X.K H p ys∨SqT X.K H p ys)∧∀ l,H l=none→Q (.ref l) (upd H l (.lst ys))):=by
  intro pins s σ H xs us Q I r h
  obtain ⟨p,ys,rfl,hq,q⟩:=h
  obtain ⟨u,rfl,rx⟩:=qgo r
  cases rx
  have fin:∀ (its:List Value),Vals ys its→ys.length≤sizeLine→∀ (h':Heap) (c':Nat),(∀ b o',s.heap.get? b=some o'→h'.get? b=some o') →
      h'.get? s.heap.objs.size=some { cls:=.type "list",dict:=none,data:=.seq its.toArray c',slots:=#[] }→EP X pins σ Q (.ref s.heap.objs.size) { s with heap:=h' }:=fun its r' hz h' c' kp e =>
    ⟨.ref s.heap.objs.size,_,I.laid (t':=s.toks) kp (Nat.le_refl _) (show ObjOk X.prog X.w _ h' _ (.lst ys) from ⟨hz,its,c',r',e⟩),rfl,q _ (I.hok.fresh (Nat.le_refl _))⟩
  rcases hq with hq | hq
  · obtain ⟨its,r',pl,hz⟩:=I.list hq
    have hlen:=r'.length
    obtain ⟨o,ho,hc,n,hd⟩:=pl.isList
    exact call_list_seq p (.inl rfl) ho hc hd (fun h' c' kp e=>fin its r' hz h' c' kp e) (by simp only [List.size_toArray] <;> omega)
  · obtain ⟨its,r',pl,hz⟩:=I.tuple hq
    have hlen:=r'.length
    obtain ⟨o,ho,hc,n,hd⟩:=pl
    exact call_list_seq p (.inr rfl) ho hc hd (fun h' c' kp e=>fin its r' hz h' c' kp e) (by simp only [List.size_toArray] <;> omega)
theorem qbu:qcv X (.type "tuple") (fun xs H Q=>∃ p ys,xs=[.ref p]∧((SqL X.K H p ys∧∀ l,H l=none→Q (.ref l) (upd H l (.tup ys)))∨(SqT X.K H p ys∧Q (.ref p) H))):=by
  intro pins s σ H xs us Q I r h
  obtain ⟨p,ys,rfl,h⟩:=h
  obtain ⟨u,rfl,rx⟩:=qgo r
  cases rx
  rcases h with ⟨hq,q⟩ | ⟨hq,q⟩
  · obtain ⟨its,r',pl,hz⟩:=I.list hq
    have hlen:=r'.length
    refine call_tuple_list pl.isList (fun h' kp=>?_) (by simp only [List.size_toArray] <;> omega)
    have I1:Inv X pins σ H { s with heap:=h' }:=I.kept (t':=s.toks) kp
    have I2:Inv X pins σ (upd H h'.objs.size (.tup ys)) { s with heap:=h'.push { cls:=.type "tuple",data:=.seq its.toArray } } :=
      I1.laid (t':=s.toks) (fun b o e=>Heap.get?_push_of_some _ e) (Nat.le_refl _) (show ObjOk X.prog X.w _ _ _ (.tup ys) from ⟨hz,its,r',IsTup.new _ _⟩)
    exact ⟨.ref h'.objs.size,_,I2,rfl,q _ (I1.hok.fresh (Nat.le_refl _))⟩
  · obtain ⟨its,r',pl,hz⟩:=I.tuple hq
    exact call_tuple_same pl ⟨.ref p,H,I,rfl,q⟩
def tyV (K:PySem.W.Frag) (T:String) (x:V) (H:Hp):Prop:=match x with
  | .str _=>T="str"
  | .int _=>T="int"
  | .ref p=>(T="list"∧∃ xs,SqL K H p xs)∨(T="tuple"∧∃ o,K.lookup p=some o∧o.cls=.type "tuple"∧o.dict=none) ∨
      (T="dict"∧((∃ kvs,H p=some (.dK kvs))∨∃ kvs,H p=some (.dT kvs)))∨(T="set"∧∃ S n,H p=some (.set S n))
  | _=>False
theorem qkn {pins:List (Addr × Obj)} {σ:St} {H:Hp} {s:Shared} {T:String} {x:V} {v:Value} (I:Inv X pins σ H s) (r:RelV x v) (ty:tyV X.K T x H) :
    s.TypeIs v T∧∀ a,v=.ref a→∃ ob,s.heap.get? a=some ob∧ob.dict=none:=by
  cases x with
  | str z =>
    obtain ⟨t,rfl⟩:=r
    cases (show T="str" from ty)
    exact ⟨typeIs_str s z t,fun _ e=>nomatch e⟩
  | int i =>
    obtain ⟨t,rfl⟩:=r
    cases (show T="int" from ty)
    exact ⟨typeIs_int s i t,fun _ e=>nomatch e⟩
  | ref p =>
    cases r
    rcases ty with ⟨rfl,xs,hq⟩ | ⟨rfl,o,hk,hc,hd⟩ | ⟨rfl,hk⟩ | ⟨rfl,S,n,hk⟩
    · obtain ⟨its,_,pl,_⟩:=I.list hq
      refine ⟨pl.isList.typeIs,fun a e=>?_⟩
      cases e
      obtain ⟨o,n,e,c,hd,_⟩:=pl
      exact ⟨o,e,hd⟩
    · refine ⟨⟨o,I.kIn p o hk,hc⟩,fun a e=>?_⟩
      cases e
      exact ⟨o,I.kIn _ o hk,hd⟩
    · have z:∃ o,s.heap.get? p=some o∧o.ExactDict:=by
        rcases hk with ⟨kvs,hk⟩ | ⟨kvs,hk⟩
        · obtain ⟨_,_,_,_,o,_,_,e,ex,_⟩:=I.hok p _ hk
          exact ⟨o,e,ex⟩
        · obtain ⟨_,_,_,_,o,_,_,e,ex,_⟩:=I.hok p _ hk
          exact ⟨o,e,ex⟩
      obtain ⟨o,e,ex⟩:=z
      refine ⟨⟨o,e,ex.1⟩,fun a e2=>?_⟩
      cases e2
      exact ⟨o,e,ex.2.1⟩
    · obtain ⟨o,_,_,_,e,ex,_⟩:=I.hok p _ hk
      refine ⟨⟨o,e,ex.1⟩,fun a e2=>?_⟩
      cases e2
      exact ⟨o,e,ex.2.1⟩
  | _=>exact False.elim ty
def qoo (K:PySem.W.Frag) (T:String) (r:V→List V→Hp→VK→Prop) (to:TE):TE:=fun σ H Q=>to σ H fun x H1=>tyV K T x H1∧r x [] H1 Q
def tBM (K:PySem.W.Frag) (T:String) (r:V→List V→Hp→VK→Prop) (to:TE) (t:TA):TE:=fun σ H Q=>to σ H fun x H1=>tyV K T x H1∧t σ H1 fun xs H2=>r x xs H2 Q
variable {o e : Expr} {es : List Expr} {to : TE} {t : TA} {name : Str} {apos cpos : Pos} {T id : String} {r : V → List V → Hp → VK → Prop}
theorem qil (pa:PlainAttrs T) (slot:Slot T name id) (hty:typeOf (.builtin id)=pure (.type "method_descriptor")) (hm:MtR X id r) (ho:PE X o to)
    (hbase:attributeBase o name X.env (eval o X.env)=eval o X.env:=by rfl) (hline:(apos.endLine == cpos.line)=true:=by rfl):PE X (.Call (.Attribute o name apos) [] [] cpos) (qoo X.K T r to):=by
  intro pins s σ H Q I h
  refine wpAny_Call_method0_late hbase hline (thn (ho pins s σ H _ I h) fun v s1 hq0=>?_)
  obtain ⟨x,H1,I1,r1,ty,q1⟩:=hq0
  obtain ⟨h1,h2⟩:=qkn I1 r1 ty
  exact ⟨T,id,pa,slot,hty,h1,h2,Calls.callWith_builtin rfl (PySem.evalArgs_none (hm pins s1 σ H1 x [] v [] Q I1 r1 .nil q1))⟩
theorem qje (pa:PlainAttrs T) (slot:Slot T name id) (hty:typeOf (.builtin id)=pure (.type "method_descriptor")) (hm:MtR X id r) (ho:PE X o to) (ha:PA X (e::es) t)
    (hbase:attributeBase o name X.env (eval o X.env)=eval o X.env:=by rfl)
    (hfew:((backTo cpos (starEach (e::es) X.env)).all (fun x=>!x.1) && (backToKw cpos (keywordEach [] X.env)).all (fun x=>x.1.isSome)
      && decide ((e::es).length+([]:List Keyword).length+(if ([]:List Keyword).isEmpty then 0 else 1)<30))=true:=by rfl)
    (hline:(apos.endLine == cpos.line)=true:=by rfl) (hs:starEach (e::es) X.env=(false,eval e X.env)::starEach es X.env:=by rfl) (hplain:(backTo cpos (starEach es X.env)).any (·.1)=false:=by rfl) :
    PE X (.Call (.Attribute o name apos) (e::es) [] cpos) (tBM X.K T r to t):=by
  intro pins s σ H Q I h
  refine wpAny_Call_method_late hbase hfew hline rfl (thn (ho pins s σ H _ I h) fun v s1 hq0=>?_)
  obtain ⟨x,H1,I1,r1,ty,q1⟩:=hq0
  obtain ⟨h1,h2⟩:=qkn I1 r1 ty
  refine ⟨T,id,pa,slot,hty,h1,h2,?_⟩
  have hA:=ha cpos pins s1 σ H1 _ I1 q1
  rw [hs] at hA ⊢
  refine Calls.callWith_builtin (by show (false || (backTo cpos (starEach es X.env)).any (·.1))=false;rw [hplain] <;> rfl) (Calls.evalArgs_plain ?_)
  exact thn hA fun us s2 hq1=>by obtain ⟨vs,H2,I2,r2,q2⟩:=hq1;exact hm pins s2 σ H2 x vs v us Q I2 r1 r2 q2
end
def MtM (X:Cx) (id:String) (r:V→List V→Hp→VK→Prop):Prop :=
  ∀ (pins:List (Addr × Obj)) (s:Shared) (σ:St) (H:Hp) (x:V) (xs:List V) (v:Value) (us:List Value) (Q:VK),Inv X pins σ H s→RelV x v→Vals xs us→r x xs H Q →
    wpAny (model X.prog X.w) X.A (call (.builtin id) (v::us)) (EP X pins σ Q) X.xe s
theorem Vals.one:∀ {x:V} {us:List Value},Vals [x] us→∃ u,us=[u]∧RelV x u
  | _,_,.cons r .nil=>⟨_,rfl,r⟩
theorem Vals.zero:∀ {us:List Value},Vals [] us→us=[]
  | _,.nil=>rfl
theorem Vals.dropLast {xs:List V} {us:List Value} (h:Vals xs us):Vals xs.dropLast us.dropLast:=by
  induction h with
  | nil=>exact .nil
  | cons r t ih =>
    cases t with
    | nil=>exact .nil
    | cons q t'=>exact .cons r ih
theorem Vals.rep {xs:List V} {us:List Value} (h:Vals xs us):∀ k:Nat,Vals (List.replicate k xs).flatten (List.replicate k us).flatten
  | 0=>.nil
  | k+1=>by
    rw [List.replicate_succ,List.replicate_succ,List.flatten_cons,List.flatten_cons]
    exact Vals.append h (Vals.rep h k)
theorem qhw {α:Type} (l:List α):l.eraseIdx (l.length - 1)=l.dropLast:=by
  induction l with
  | nil=>rfl
  | cons a r ih =>
    cases r with
    | nil=>rfl
    | cons b r =>
      have e:(a::b::r).length - 1=((b::r).length - 1)+1:=by
        have h1:(a::b::r).length=r.length+2:=rfl
        have h2:(b::r).length=r.length+1:=rfl
        omega
      rw [e,List.eraseIdx_cons_succ,ih]
      all_goals rfl
theorem qet (its:List Value):∀ (k:Nat) (acc:List Value),
    List.foldl (fun x1 x2=>x1++x2) acc.toArray (List.replicate k its.toArray)=(acc++(List.replicate k its).flatten).toArray
  | 0,acc=>by simp
  | k+1,acc=>by
    have e:acc.toArray++its.toArray=(acc++its).toArray:=by simp
    have e2:(acc++its)++(List.replicate k its).flatten=acc++(List.replicate (k+1) its).flatten:=by
      rw [List.replicate_succ,List.flatten_cons,List.append_assoc]
    rw [← e2,← qet its k (acc++its),← e,List.replicate_succ,List.foldl_cons]
section
variable {X : Cx} {pins : List (Addr × Obj)} {σ : St} {H : Hp} {s : Shared} {l b : Addr} {xs ys zs : List V}
theorem Inv.lset {its its':List Value} {n:Nat} {f:Array Value→Array Value} {t':Nat} (I:Inv X pins σ H s) (hH:H l=some (.lst xs))
    (e:s.heap.get? l=some { cls:=.type "list",data:=.seq its.toArray n }) (hf:f its.toArray=its'.toArray) (hv:Vals ys its') (hz:ys.length≤sizeLine) :
    Inv X pins σ (upd H l (.lst ys)) { s with heap:=s.heap.update l (Obj.mapSeq f),toks:=t' }:=by
  have q:=PySem.IsL.update e f
  rw [hf] at q
  refine I.write (x:=l) (e:=l) (by rw [hH];exact trivial) (.inl rfl) (fun b' u hb hu=>(Heap.get?_update_other s.heap (Obj.mapSeq f) (Ne.symm hb)).trans hu) ⟨_,q⟩ ?_
  exact ⟨hz,its',_,hv,q⟩
theorem Inv.lnew {its:List Value} {t':Nat} (I:Inv X pins σ H s) (hv:Vals ys its) (hz:ys.length≤sizeLine) :
    Inv X pins σ (upd H s.heap.objs.size (.lst ys)) { s with heap:=s.heap.push { cls:=.type "list",data:=.seq its.toArray },toks:=t' } :=
  I.laid (fun _ _ q=>Heap.get?_push_of_some _ q) (Nat.le_refl _) ⟨hz,its,0,hv,Heap.get?_push_size _ rfl⟩
theorem Inv.fresh (I:Inv X pins σ H s):H s.heap.objs.size=none:=I.hok.fresh (Nat.le_refl _)
theorem Inv.lstM (I:Inv X pins σ H s) (hH:H l=some (.lst xs)):xs.length≤sizeLine∧∃ (its:List Value) (n:Nat),Vals xs its∧xs.length=its.length∧s.heap.get? l=some { cls:=.type "list",data:=.seq its.toArray n }:=by
  obtain ⟨z,its,n,r,e⟩:=I.hok l _ hH
  exact ⟨z,its,n,r,r.length,e⟩
theorem qjC {n:Nat} (h:n≤sizeLine):Builtin.List.listTooLong n=false:=by
  unfold Builtin.List.listTooLong
  exact decide_eq_false (by omega)
end
section
variable {X : Cx}
def qlz:V→List V→Hp→VK→Prop:=fun x vs H Q=>∃ l xs y,x=.ref l∧vs=[y]∧H l=some (.lst xs)∧xs.length<sizeLine∧Q .non (upd H l (.lst (xs++[y])))
theorem qcC:MtM X "list.append" qlz:=by
  intro pins s σ H x vs v us Q I rx rv h
  obtain ⟨l,xs,y,rfl,rfl,hH,hz,q⟩:=h
  cases rx
  obtain ⟨u,rfl,ru⟩:=rv.one
  obtain ⟨z,its,n,r,hl,e⟩:=I.lstM hH
  refine call_meets F.slot_list_append ⟨_,e,rfl⟩ F.entry_list_append (F.args_list_append_2 _ _) (PySem.list_append l its.toArray n u (by rw [List.size_toArray];omega)) ⟨e,?_⟩
  refine ⟨.non,_,I.lset (its':=its++[u]) hH e (by simp) (r.append (.cons ru .nil)) ?_,rfl,q⟩
  rw [List.length_append,List.length_singleton]
  omega
def qos:V→List V→Hp→VK→Prop:=fun x vs H Q=>∃ l xs y,x=.ref l∧vs=[]∧H l=some (.lst xs)∧xs[xs.length - 1]?=some y∧Q y (upd H l (.lst xs.dropLast))
theorem qjk:MtM X "list.pop" qos:=by
  intro pins s σ H x vs v us Q I rx rv h
  obtain ⟨l,xs,y,rfl,rfl,hH,hy,q⟩:=h
  cases rx
  have hus:=rv.zero
  subst hus
  obtain ⟨z,its,n,r,hl,e⟩:=I.lstM hH
  obtain ⟨u,hu,ru⟩:=r.get hy
  have hy':its.toArray[its.toArray.size - 1]?=some u:=by
    show its.toArray[its.length - 1]?=some u
    rw [← Array.getElem?_toList,← hl]
    exact hu
  refine call_meets F.slot_list_pop ⟨_,e,rfl⟩ F.entry_list_pop (F.args_list_pop_1 _) (MeetsSeq.list_pop_last l its.toArray n u hy' (by rw [List.size_toArray];omega)) ⟨e,?_⟩
  refine ⟨y,_,I.lset (its':=its.dropLast) hH e ?_ r.dropLast ?_,ru,q⟩
  · show its.toArray.eraseIdxIfInBounds (its.toArray.size - 1)=its.dropLast.toArray
    rw [List.size_toArray,List.eraseIdxIfInBounds_toArray,qhw]
  · rw [List.length_dropLast]
    omega
def qpa:R2:=fun x y H Q=>∃ l b xs zs,x=.ref l∧y=.ref b∧H l=some (.lst xs)∧H b=some (.lst zs)∧xs.length+zs.length≤sizeLine∧∀ p,H p=none→Q (.ref p) (upd H p (.lst (xs++zs)))
theorem qko:OpR X (binaryOp .Add) qpa:=by
  intro pins s σ H x y v u Q I rx ry h
  obtain ⟨l,b,xs,zs,rfl,rfl,hH,hB,hz,q⟩:=h
  cases rx
  cases ry
  obtain ⟨z,its,n,r,hl,e⟩:=I.lstM hH
  obtain ⟨z2,its2,n2,r2,hl2,e2⟩:=I.lstM hB
  refine PySem.P.add_list e e2 ?_ (by rw [List.size_toArray,List.size_toArray];omega)
  have ea:its.toArray++its2.toArray=(its++its2).toArray:=by simp
  rw [ea]
  exact ⟨.ref _,_,I.lnew (t':=s.toks) (r.append r2) (by rw [List.length_append];omega),rfl,q _ I.fresh⟩
def qop:R2:=fun x y H Q=>∃ l k xs,x=.ref l∧y=.int k∧H l=some (.lst xs)∧-(2 ^ 63)≤k∧k<2 ^ 63∧xs.length*k.toNat≤sizeLine ∧
  ∀ p,H p=none→Q (.ref p) (upd H p (.lst (List.replicate k.toNat xs).flatten))
theorem qgu {α:Type} (xs:List α) (k:Nat):(List.replicate k xs).flatten.length=k*xs.length:=by
  induction k with
  | zero=>simp
  | succ k ih=>rw [List.replicate_succ,List.flatten_cons,List.length_append,ih,Nat.succ_mul,Nat.add_comm]
theorem qkD:OpR X (binaryOp .Mult) qop:=by
  intro pins s σ H x y v u Q I rx ry h
  obtain ⟨l,k,xs,rfl,rfl,hH,h1,h2,hz,q⟩:=h
  cases rx
  obtain ⟨t,rfl⟩:=ry
  obtain ⟨z,its,n,r,hl,e⟩:=I.lstM hH
  have hlen:its.toArray.size*k.toNat≤sizeLine:=by rw [List.size_toArray,← hl];exact hz
  have hcap:¬ its.toArray.size*k.toNat>(2 ^ 63 - 1) / 8:=by
    have:(sizeLine:Nat)≤(2 ^ 63 - 1) / 8:=by decide
    omega
  have hfit:¬ (!Builtin.List.listFitsIndex k)=true:=by
    rw [fitsIndex_both h1 h2]
    exact Bool.false_ne_true
  have hlong:¬ Builtin.List.listTooLong (its.toArray.size*k.toNat)=true:=by
    rw [qjC hlen]
    exact Bool.false_ne_true
  have hnew:List.foldl (fun x1 x2=>x1++x2) #[] (List.replicate (if its.toArray.isEmpty=true then 0 else k.toNat) its.toArray)=(List.replicate k.toNat its).flatten.toArray:=by
    have f0:∀ m:Nat,List.foldl (fun x1 x2=>x1++x2) #[] (List.replicate m its.toArray)=(List.replicate m its).flatten.toArray:=fun m=>by
      have:=qet its m []
      rw [List.nil_append] at this
      exact this
    rw [f0]
    cases its with
    | nil=>simp
    | cons a r'=>rw [if_neg (by simp)]
  refine wpAny_binaryOp_repeat_ref (T:="list") (U:="int") (by decide) ⟨_,e,rfl⟩ (fun s'=>typeIs_int s' k t) noFill_list_mul F.fills_int_mul F.slot_int_rmul repeat_list F.slot_int_index.lookup
    (call_meets F.slot_int_rmul (typeIs_int s k t) F.entry_int_rmul (F.args_int_rmul_2 _ _) (int___rmul___int_list k t l its.toArray n)
      ⟨e,rfl,⟨_,e,rfl⟩,call_meets F.slot_list_mul ⟨_,e,rfl⟩ F.entry_list_mul (F.args_list_mul_2 _ _) (AutoListH.list___mul___list_int_3 l its.toArray n k t hfit hcap hlong) ⟨e,?_⟩⟩)
  rw [hnew]
  exact ⟨.ref _,_,I.lnew (t':=s.toks) (r.rep k.toNat) (by rw [qgu,Nat.mul_comm];exact hz),rfl,q _ I.fresh⟩
end
section
variable {prog : Program} {w : World} {A : Around} {E : Value → Shared → Prop} {s : Shared}
end
section
variable {X : Cx}
end
end L2
namespace Att
open PySem PySem.W PySem.Calls PyProof.Rows
theorem qd7 {P:Params} {h:Heap}:∀ (ns:List Int) (vs:List Value),WellAll P h vs (ns.map WData.int)→IntsAre vs ns:=by
  intro ns
  induction ns with
  | nil =>
    intro vs w
    rw [List.map_nil] at w
    cases w
    exact .nil
  | cons n ns ih =>
    intro vs w
    rw [List.map_cons] at w
    cases w with
    | cons a b =>
      cases a
      exact .cons _ _ (ih _ b)
theorem qi6 {l:OpenLaw} {n:Nat} (hn:l.most=some n) {P:Params} {h:Heap} {args:List WData} {vals:List Value}
    (hpre:l.row.toRowW.claim.pre args=true) (hwl:WellAll P h vals args) :
    ∃ a vs ns,vals=[Value.ref a]∧args=[WData.list (ns.map WData.int)]∧h.get? a=some { cls:=.type "list",data:=.seq vs.toArray }∧IntsAre vs ns∧ns.length≤n:=by
  have hsh:WShape.hasAll [] args [.list .int]=true:=(pre_splitW hpre).1
  have hc:l.pre.holds [] { args:=args }=true:=(pre_splitW hpre).2
  obtain ⟨d,r,rfl,h1,h2⟩:=hasAllW_cons hsh
  obtain rfl:=hasAllW_nil h2
  obtain ⟨xs,rfl,h3⟩:=hasW_list h1
  obtain ⟨ns,rfl⟩:=items_int h3
  have hlen:ns.length≤n:=by
    unfold OpenLaw.pre at hc
    have h4:(WTm.not (.lt (.lit (.int (n:Int))) (.len (.arg 0)))).holds [] { args:=[.list (ns.map .int)] }=true:=by
      have h4:=(holds_andW hc).1
      rw [hn] at h4
      exact h4
    have h5:=condW_of h4 (w_not (w_lt w_lit (w_len_list (w_arg rfl))))
    rw [List.length_map] at h5
    refine Nat.le_of_not_lt fun q=>?_
    have q':(n:Int)<((ns.length:Nat):Int):=by omega
    first
      | (rw [decide_eq_true q'] at h5;exact absurd h5 (by decide))
      | (simp at h5;omega)
  cases hwl with
  | cons w1 w2 =>
    cases w2
    cases w1 with
    | list ho hall=>exact ⟨_,_,ns,rfl,rfl,ho,qd7 ns _ hall,hlen⟩
theorem qiG (l:OpenLaw) (args:List WData):l.row.toRowW.claim.post args (.bool true) args=true :=
  postW_of (r:=l.row.toRowW) (X:=(true == true))
    (show WShape.has [] (.bool true) .bool=true by first | rfl | decide | simp [WShape.has,WShape.arms,WShape.armsAll])
    (show (WTm.eq .res (.lit (.bool true))).value [] { args:=args,res:=some (.bool true),after:=args }=some (.bool (true == true)) from w_eq_bool (w_res rfl) w_lit) rfl
theorem attach_call {l:OpenLaw} {n:Nat} {q:Program} {loose:List Str} {XP:(Str→Option Value)→Heap→Prop} {YP:World→Heap→Prop} {d:DefRec}
    (hn:l.most=some n) (hdf:d.params.defaults=[])
    (call:∀ (w:World) (s₀ s₁:Shared) (mg mb:Str→Option Value) (fa:Addr) (o:Obj) (pm cd doc:Value) (a:Addr) (vs:List Value) (ns:List Int),
      Ground q loose [] XP w s₀ mg mb s₁.heap→YP w s₁.heap →
      s₁.heap.get? fa=some o→o.data=.func (docDef d.name d.params d.body d.scope pm cd doc)→s₁.heap.CodeRec cd d.name→mg d.name=some (.ref fa) →
      s₁.heap.get? a=some { cls:=.type "list",data:=.seq vs.toArray }→IntsAre vs ns→ns.length≤n→s₁.gens=#[] →
      codeAny (model l.prog w) callerA (.call (.ref fa) ⟨[.ref a],[]⟩) (fun r s'=>r=.ok (.ret (.bool true))∧OldK s₁.heap s'.heap∧s'.os=s₁.os∧AllBare s'.gens) s₁) :
    WalkO q loose XP YP l.row.toRowW d [] (fun f vs=>PySem.call f vs):=by
  intro w s₀ s₁ mg mb G Y fa o pm cd doc dV kV ho hd hcd hD hmg hg args vals as hpre hlay hrd hwl hlo
  obtain rfl:dV=.none:=Dflts.none hD hdf
  obtain rfl:kV=.none:=Dflts.noKw hD
  obtain ⟨a,vs,ns,rfl,rfl,hobj,hints,hlen⟩:=qi6 hn hpre hwl
  refine enter_call (codeAny_mono (call w s₀ s₁ mg mb fa o pm cd doc a vs ns G Y ho (fd_plain hd) hcd hmg hobj hints hlen hg) fun r s' hq=>?_)
  obtain ⟨rfl,h2,h3,h4⟩:=hq
  exact ⟨.inl ⟨.bool true,.bool true,[],rfl,fun _=>rfl,.bool true,qiG l _,fun _=>⟨List.Pairwise.nil,fun _ hm=>(nomatch hm)⟩⟩,h2,h3,h4⟩
section
variable {prog : Program} {w : World} {A : Around} {E : Value → Shared → Prop} {s : Shared} {K : Frag}
end
end Att
namespace L2
open PySem PySem.Spec PyProof.Rows
theorem qf4:∀ {vs:List Value} {ns:List Int},IntsAre vs ns→Vals (ns.map V.int) vs
  | _,_,.nil=>.nil
  | _,_,.cons n t h=>.cons ⟨t,rfl⟩ (qf4 h)
def qnP (H:Hp):Prop:=∀ b,H b=none∨∃ o xs,H b=some (.frz o (.lst xs))
theorem qj8 {P:Program} {w:World} {K:PySem.W.Frag} {mg mb:Str→Option Value} {CX:CXT} {k:Nat} {fa a:Addr} {fd:FuncData} {x:Str} {sp:Sp} {s₁:Shared} {vs:List Value} {ns:List Int}
    (KX:K.In s₁.heap) (hns:s₁.heap.Ns mainGlobals mg) (hb:s₁.heap.Ns builtinsNs mb) (hbb:∀ x:Str,x≠"__name__"→mb x=bootBuiltins x) (hlim:s₁.heap.NoLimit)
    (hbm:∃ bm ob,mg "__builtins__"=some (.ref bm)∧bm≠builtinsNs∧s₁.heap.get? bm=some ob∧ob.cls=.type "module"∧ob.dict=some builtinsNs∧ob.data=.plain) (hg:s₁.gens=#[])
    (ha:s₁.heap.get? a=some { cls:=.type "list",data:=.seq vs.toArray }) (hi:IntsAre vs ns) (hl:ns.length≤sizeLine) (hr:Room k callerA)
    (F:∀ base:Heap,K.In base→base.Ns mainGlobals mg→FnOk P w K mg base CX k fa fd [x] sp) (hbind:∀ (s:Shared) (u:Value),BindsTo s fd ⟨[u],[]⟩ [(x,u)])
    (hsp:∀ H:Hp,qnP H→SqL K H a (ns.map V.int)→sp [.ref a] H (fun v _=>v=.bl true) fun _ _ _=>False)
    (hCX:∀ H e s',CX [] H s₁ (fun _ _ _=>False) e s'→False) :
    codeAny (model P w) callerA (.call (.ref fa) ⟨[.ref a],[]⟩) (fun r s'=>r=.ok (.ret (.bool true))∧OldK s₁.heap s'.heap∧s'.os=s₁.os∧AllBare s'.gens) s₁:=by
  have rv:=qf4 hi
  have lenV:=hi.length
  have core:∀ H:Hp,qnP H→SqL K H a (ns.map V.int)→HOk P w H s₁.heap→(∀ b,H b≠none→b=a)→(H a≠none→K.lookup a=none) →
      codeAny (model P w) callerA (.call (.ref fa) ⟨[.ref a],[]⟩) (fun r s'=>r=.ok (.ret (.bool true))∧OldK s₁.heap s'.heap∧s'.os=s₁.os∧AllBare s'.gens) s₁:=by
    intro H hO hS hok hA hK
    have base_of:∀ {b:Addr} {o:Obj},s₁.heap.get? b=some o→H b=none→(qki s₁.heap H).get? b=some o:=fun e n=>qjy e n
    have noA:∀ {b:Addr} {o:Obj} {es:Array DictEntry} {ep:Nat},s₁.heap.get? b=some o→o.data=.dict es ep→H b=none:=fun {b o es ep} e d=>by
      cases q:H b with
      | none=>rfl
      | some u =>
        have e':b=a:=hA b (by rw [q];simp)
        subst e'
        rw [ha] at e;cases e
        have d':Data.seq vs.toArray _=Data.dict es ep:=d
        cases d'
    have nsK:∀ {b:Addr} {m:Str→Option Value},s₁.heap.Ns b m→(qki s₁.heap H).Ns b m:=fun {b m} hq0=>by obtain ⟨o,es,ep,e,d,r⟩:=hq0;exact ⟨o,es,ep,base_of e (noA e d),d,r⟩
    have hKb:K.In (qki s₁.heap H):=fun b o e=>base_of (KX b o e) (by
      cases q:H b with
      | none=>rfl
      | some u =>
        have e':b=a:=hA b (by rw [q];simp)
        subst e'
        rw [hK (by rw [q];simp)] at e;cases e)
    have hM:Mod K mg (qki s₁.heap H):=⟨hKb,nsK hns,⟨mb,nsK hb,hbb⟩,let ⟨mc,h1,h2⟩:=hlim;⟨mc,nsK h1,h2⟩,let ⟨bm,ob,b1,b2,b3,b4,b5,b6⟩:=hbm;⟨bm,ob,b1,b2,base_of b3 (by
      cases q:H bm with
      | none=>rfl
      | some u =>
        have e':bm=a:=hA bm (by rw [q];simp)
        rw [e',ha] at b3;cases b3;injection b4 with z;exact absurd z (by decide)),b4,b5,b6⟩⟩
    have e0:Env0 P w K mg (qki s₁.heap H) callerA [] s₁ H:=⟨rfl,hM,fun b o e=>qlu e,Nat.le_of_eq (qji _ _),trivial,fun b hb=>absurd (show b∈([]:List Addr) from hb) (by simp),hok,.of_eq hg⟩
    refine codeAny_mono ((F _ hKb (nsK hns)).run callerA [] s₁ H ⟨[.ref a],[]⟩ [.ref a] [.ref a] _ _ hr e0 (hbind s₁ (.ref a)) (.cons rfl .nil) (hsp H hO hS)) fun r s' h=>?_
    cases r with
    | error e=>exact (hCX H e s' h).elim
    | ok fl =>
      cases fl with
      | next=>exact False.elim h
      | brk=>exact False.elim h
      | cont=>exact False.elim h
      | ret u =>
        obtain ⟨v,H',os,bare,un,hok',r',q⟩:=h
        have q':v=.bl true:=q
        subst q'
        obtain rfl:u=Value.bool true:=r'
        refine ⟨rfl,OldK.of_keep fun b o e=>?_,os,bare⟩
        cases q:H b with
        | none=>exact un.keep b o e q (by intro z;exact absurd (show b∈([]:List Addr) from z) (by simp)) (by simp)
        | some u =>
          rcases hO b with z | ⟨ob,xs,z⟩
          · rw [q] at z;cases z
          · have z2:=un.frzs b ob _ z
            obtain ⟨e1,_⟩:=hok b _ z
            obtain ⟨e2,_⟩:=hok' b _ z2
            rw [e] at e1;cases e1
            exact e2
  cases hk:K.lookup a with
  | some o =>
    have e:=KX a o hk
    rw [ha] at e
    cases e
    refine core (fun _=>none) (fun _=>.inl rfl) (.inr ⟨_,vs.toArray,_,hk,rfl,rfl,rfl,by rw [List.size_toArray,lenV];exact hl,by simpa using rv⟩) (fun b u z=>by have z':(none:Option HO)=some u:=z;cases z') (fun b z=>absurd rfl z) fun z=>absurd rfl z
  | none =>
    refine core (fun b=>if b=a then some (.frz { cls:=.type "list",data:=.seq vs.toArray } (.lst (ns.map V.int))) else none) (fun b=>?_) (.inl (.inr ⟨{ cls:=.type "list",data:=.seq vs.toArray },if_pos rfl⟩)) (fun b u z=>?_) (fun b z=>?_) fun _=>hk
    · by_cases hb:b=a
      · exact .inr ⟨_,_,if_pos hb⟩
      · exact .inl (if_neg hb)
    · by_cases hb:b=a
      · have z':=(if_pos hb).symm.trans z
        cases z'
        subst hb
        exact ⟨ha,by rw [List.length_map];exact hl,vs,_,rv,ha⟩
      · have z':=(if_neg hb).symm.trans z
        cases z'
    · by_cases hb:b=a
      · exact hb
      · exact absurd (if_neg hb) z
theorem walk_of {l:PySem.W.OpenLaw} {n k:Nat} {q:Program} {loose:List Str} {XP:(Str→Option Value)→Heap→Prop} {YP:World→Heap→Prop} {d:DefRec} {K:Params→PySem.W.Frag} {CX:World→CXT} {sp:World→Sp} {x:Str}
    (hn:l.most=some n) (hn2:n≤sizeLine) (hdf:d.params.defaults=[]) (hr:Room k callerA)
    (hY:∀ (w:World) (h:Heap),YP w h→(K w.params).In h)
    (F:∀ (w:World) (mg:Str→Option Value) (fa:Addr) (h:Heap),(K w.params).In h→h.Ns mainGlobals mg→mg d.name=some (.ref fa) →
      ∃ fd:FuncData,(∀ (s:Shared) (u:Value),BindsTo s fd ⟨[u],[]⟩ [(x,u)]) ∧
        ∀ base:Heap,(K w.params).In base→base.Ns mainGlobals mg→FnOk l.prog w (K w.params) mg base (CX w) k fa fd [x] (sp w))
    (hsp:∀ (w:World) (H:Hp) (a:Addr) (ns:List Int),ns.length≤n→qnP H→SqL (K w.params) H a (ns.map V.int)→sp w [.ref a] H (fun v _=>v=.bl true) fun _ _ _=>False)
    (hCX:∀ (w:World) (H:Hp) (s:Shared) (e:Value) (s':Shared),CX w [] H s (fun _ _ _=>False) e s'→False) :
    PySem.W.WalkO q loose XP YP l.row.toRowW d [] (fun f vs=>PySem.call f vs):=by
  refine Att.attach_call hn hdf fun w s₀ s₁ mg mb fa o pm cd doc a vs ns G Y ho hd hcd hmg hobj hints hlen hg=>?_
  have KX:=hY w _ Y
  obtain ⟨fd,hb,hF⟩:=F w mg fa _ KX G.T.g hmg
  exact qj8 KX G.T.g G.T.b G.T.builtins G.T.nolimit G.T.bmain hg hobj hints (Nat.le_trans hlen hn2) hr hF hb (fun H hO hS=>hsp w H a ns hlen hO hS) fun H e s'=>hCX w H s₁ e s'
end L2
/- THE LAST THEOREM (shape;LID,My.* are yours):
   My.Adr: a structure of the addresses that your layer names (classes,functions);My.Txt K t: a structure (Prop) of the equations over K;
   My.txt_mk:{K} {implicit addresses ..} (e1:nsIn K mainGlobals "law"=some (some (.ref f))) (e2:K.lookup f=some ⟨oc,od,.func (fnOf "law" "law" params body scope dV kV doc pm an cdv ct),sl⟩) (e3:codeIn K cdv "law"=true) ..:∃ t,My.Txt K t
set_option maxRecDepth 100000 in
set_option maxHeartbeats 0 in
theorem PySem.Challenge.cw_LID_holds : PySem.Challenge.rw_LID.Holds := by
  w_on;o_law;k_head;(case hw=>w_witness2)
  k_fill
  refine L2.walk_of (l:=PySem.Challenge.rw_LID) (n:=63) (k:=40) (x:="script") (CX:=fun w=>..) (sp:=fun _=>My.sp_law) rfl (by decide) rfl ⟨rfl,by decide,by decide⟩ (fun w h Y=>PySem.W.kIn_of Y) ?F ?S ?C
  case F =>
    intro w mg fa h KX G hmg
    have T:∃ t,My.Txt (L2.KOf KX) t:=by
      dsimp only [L2.KOf]                          -- K must stand as «<heap const> w.params» for k_is
      refine' My.txt_mk ?e1 ?e2 ?e3 ..
      (case e1=>PySem.W.k_is)                    -- in the order: a name -> its address -> its object -> its parts
      (case e2=>PySem.W.k_is)
      ..
    obtain ⟨t,T⟩:=T
    have e0:=hmg.symm.trans (PySem.W.mg_of KX G T.law)
    cases e0                                       -- fa is the law's own address
    exact ⟨_,fun s u=>.of_eq rfl,fun base kb nb=>My.law_fn T kb nb⟩     -- if «.of_eq rfl» comes too early: refine' ⟨_,?b,fun base kb nb=>My.law_fn T kb nb⟩;exact fun s u=>.of_eq rfl
  case S=>exact fun w H a ns hl hO hS=>..
  case C=>exact ..
(the tactic k_is has no namespace: write k_is) -/
namespace L2
open PySem PySem.Spec PyProof.Rows
def qe4 (s:Stmt) (j:Nat):Stmt:=match s with
  | .ClassDef _ _ _ body _ _ _ _ _ _ _=>body.getD j (.Pass ⟨0,0,0,0⟩)
  | _=>.Pass ⟨0,0,0,0⟩
def qcc (s:Stmt):Arguments:=match s with
  | .FunctionDef _ a _ _ _ _ _ _ _ _=>a
  | _=>{ posonlyargs:=[],args:=[],vararg:=none,kwonlyargs:=[],kw_defaults:=[],kwarg:=none,defaults:=[] }
def qbS (s:Stmt):List Stmt:=match s with
  | .FunctionDef _ _ b _ _ _ _ _ _ _=>b
  | _=>[]
def qah (s:Stmt):Scope:=match s with
  | .FunctionDef _ _ _ _ _ _ sc _ _ _=>sc
  | _=>{ kind:=.function,names:=[],isGenerator:=false,isCoroutine:=false }
abbrev CX0:CXT:=fun _ _ _ _ _ _=>False
abbrev E0:XK:=fun _ _ _=>False
theorem qdL {X:Cx}:qdS CX0 X E0:=fun _ _ _ _ _ _ _ h=>h.elim
structure Fun (K:PySem.W.Frag) (x qual:Str) (st:Stmt) (f:Addr) (fd:FuncData):Prop where
  ex:∃ (oc:Value) (od:Option Addr) (kV doc pm:Value) (an:Option Addr) (cdv ct:Value) (osl:Array (Option Value)),
    fd=PySem.W.fnOf x qual (qcc st) (qbS st) (qah st) .none kV doc pm an cdv ct∧K.lookup f=some ⟨oc,od,.func fd,osl⟩∧PySem.W.codeIn K cdv qual=true
  kp:PySem.W.keepIn K (.ref f)=true
section
variable {P : Program} {w : World} {K : PySem.W.Frag} {mg : Str → Option Value} {base : Heap}
theorem Fun.ok {x qual:Str} {st:Stmt} {f:Addr} {fd:FuncData} {N ps:List Str} {k:Nat} {sp:Sp} (F:Fun K x qual st f fd) (S:FnScope N ps (qah st)) (len:∀ vs H Q E,sp vs H Q E→vs.length=ps.length)
    (hbody:∀ (cdv:Value) (A:Around) (outer:List Env) (s:Shared) (H:Hp) (vs:List V) (Q:VK) (E:XK),Room k (A.deeper (envOfC qual (qah st) s.heap.objs.size f cdv))→sp vs H Q E →
      ∃ t,PSs (qkW CX0 P w K mg base N qual (qah st) f cdv A outer s H E).nox (qbS st) t∧t { nx:=fun _ H'=>Q .non H',rt:=Q } (qen N vs) H):FnOk P w K mg base CX0 (k+1) f fd ps sp:=by
  obtain ⟨oc,od,kV,doc,pm,an,cdv,ct,osl,rfl,lk,hcd⟩:=F.ex
  refine qnh lk hcd S len fun A outer s H vs Q E hr hsp=>?_
  obtain ⟨t,h,q⟩:=hbody cdv A outer s H vs Q E hr hsp
  exact ⟨t,h.nox,q⟩
theorem Fun.binds {x qual:Str} {st:Stmt} {f:Addr} {fd:FuncData} {ps:List Str} (F:Fun K x qual st f fd)
    (h:∀ (kV doc pm:Value) (an:Option Addr) (cdv ct:Value) (us:List Value),us.length=ps.length→bindArgs (PySem.W.fnOf x qual (qcc st) (qbS st) (qah st) .none kV doc pm an cdv ct) ⟨us,[]⟩=pure (ps.zip us)):Binds K fd ps []:=by
  obtain ⟨oc,od,kV,doc,pm,an,cdv,ct,osl,rfl,lk,hcd⟩:=F.ex
  exact .all (h kV doc pm an cdv ct)
theorem qfI {x qual:Str} {st:Stmt} {f:Addr} {oc:Value} {od an:Option Addr} {osl:Array (Option Value)} {kV doc pm cdv ct:Value} (l:K.lookup f=some ⟨oc,od,.func (PySem.W.fnOf x qual (qcc st) (qbS st) (qah st) .none kV doc pm an cdv ct),osl⟩)
    (c:PySem.W.codeIn K cdv qual=true) (k:PySem.W.keepIn K (.ref f)=true):Fun K x qual st f (PySem.W.fnOf x qual (qcc st) (qbS st) (qah st) .none kV doc pm an cdv ct):=⟨⟨oc,od,kV,doc,pm,an,cdv,ct,osl,rfl,l,c⟩,k⟩
end
theorem qap {n:Nat} (h:n≤1000):n<sizeLine:=Nat.lt_of_le_of_lt h (by decide)
section
variable {X : Cx}
theorem pv (i:Nat) {x:Str} {pos:Pos} (hN:X.N[i]?=some x:=by rfl) (hv:Vis X.env.scope x:=by first | exact Or.inl rfl | exact Or.inr (Or.inl rfl) | exact Or.inr (Or.inr rfl)) (hd:(x == ("__debug__":Str))=false:=by decide)
    (hcd:(x == ("__classdict__":Str))=false:=by decide):PE X (.Name x pos) (qn1 i):=qlU hN hv hd hcd
end
theorem qiy {A B:Prop} (h:B):if false=true then A else B:=by
  rw [if_neg Bool.false_ne_true]
  exact h
theorem qgk {A B:Prop} (h:A):if true=true then A else B:=by
  rw [if_pos rfl]
  exact h
theorem qgD {c A B:Prop} [Decidable c] (h1:c→A) (h2:¬ c→B):if c then A else B:=by
  by_cases h:c
  · rw [if_pos h]
    exact h1 h
  · rw [if_neg h]
    exact h2 h
def Same (H H':Hp):Prop:=∀ b o,H b=some o→H' b=some o
theorem Same.refl (H:Hp):Same H H:=fun _ _ h=>h
theorem Same.trans {H H1 H2:Hp} (a:Same H H1) (b:Same H1 H2):Same H H2:=fun c o h=>b c o (a c o h)
theorem Same.free {H H':Hp} (e:Same H H') {l:Addr} (h:H' l=Option.none):H l=Option.none:=by
  cases q:H l with
  | none=>rfl
  | some o =>
    rw [e l o q] at h
    cases h
theorem Same.seq {K:PySem.W.Frag} {H H':Hp} {a:Addr} {xs:List V} (e:Same H H') (h:SqL K H a xs):SqL K H' a xs:=by
  rcases h with (h | ⟨o,h⟩) | h
  · exact .inl (.inl (e _ _ h))
  · exact .inl (.inr ⟨o,e _ _ h⟩)
  · exact .inr h
section
variable {κ : Type} [DecidableEq κ]
end
section
variable {P : Program} {w : World} {H : Hp} {h : Heap} {a : Addr}
end
section
variable {X : Cx} {pins : List (Addr × Obj)} {σ : St} {H : Hp} {s : Shared} {a : Addr} {y v : V} {u r : Value} {o : Option V} {A : Around} {E : Value → Shared → Prop}
end
section
variable {X : Cx} {pins : List (Addr × Obj)} {σ : St} {H : Hp} {s : Shared} {a : Addr} {kvs : List (Key × V)} {k : Key} {u : Value} {A : Around} {E : Value → Shared → Prop}
end
section
variable {X : Cx} {o i e value : Expr} {pos pos' tpos : Pos} {td ty tv : TE}
end
section
variable {X : Cx} {pos : Pos}
end
end L2
set_option maxHeartbeats 4000000
namespace L2
open PySem PySem.Spec PyProof.Rows
theorem qhr {env:Env} (names:List (Str × NameKind)) (hf:∀ x∈names,x.2=.free→∃ c,env.cells.lookup x.1=some c):∀ acc:List (Str × Addr),
    ∃ cl:List (Str × Addr),(forIn names acc (fun (x:Str × NameKind) cs=>if (x.2 == .free)=true then do let a ← cellOf env x.1;pure (ForInStep.yield ((x.1,a)::cs)) else pure (ForInStep.yield cs)):Sem (List (Str × Addr)))=pure cl ∧
      (∀ p∈cl,p∈acc∨env.cells.lookup p.1=some p.2)∧(∀ p∈acc,p∈cl)∧∀ x,(x,NameKind.free)∈names→∃ c,(x,c)∈cl:=by
  induction names with
  | nil=>intro acc;exact ⟨acc,rfl,fun p hp=>.inl hp,fun _ hp=>hp,fun x hx=>by simp at hx⟩
  | cons n r ih =>
    intro acc
    obtain ⟨n,k⟩:=n
    have hr:∀ x∈r,x.2=.free→∃ c,env.cells.lookup x.1=some c:=fun x hx=>hf x (List.mem_cons_of_mem _ hx)
    by_cases hk:k=.free
    · subst hk
      obtain ⟨c,hc⟩:=hf (n,.free) List.mem_cons_self rfl
      obtain ⟨cl,e,h1,h2,h3⟩:=ih hr ((n,c)::acc)
      refine ⟨cl,?_,fun p hp=>?_,fun p hp=>h2 p (List.mem_cons_of_mem _ hp),fun x hx=>?_⟩
      · rw [List.forIn_cons,← e]
        have q:cellOf env n=pure c:=by unfold cellOf;rw [hc]
        simp [q]
      · rcases h1 p hp with z | z
        · rcases List.mem_cons.mp z with rfl | z
          · exact .inr hc
          · exact .inl z
        · exact .inr z
      · rcases List.mem_cons.mp hx with z | z
        · cases z;exact ⟨c,h2 _ List.mem_cons_self⟩
        · exact h3 x z
    · obtain ⟨cl,e,h1,h2,h3⟩:=ih hr acc
      refine ⟨cl,?_,h1,h2,fun x hx=>?_⟩
      · rw [List.forIn_cons,← e]
        have q:(k == NameKind.free)=false:=by simpa using hk
        simp [q]
      · rcases List.mem_cons.mp hx with z | z
        · cases z;exact absurd rfl hk
        · exact h3 x z
theorem qfh {cl:List (Str × Addr)} {cells:List (Str × Addr)} (h:∀ p∈cl,cells.lookup p.1=some p.2):∀ x c,cl.lookup x=some c→cells.lookup x=some c:=fun x c e=>h (x,c) (PySem.mem_of_lookup e)
theorem qhu {cl:List (Str × Addr)} {x:Str} {c:Addr}:(x,c)∈cl→∃ c',cl.lookup x=some c':=by
  induction cl with
  | nil=>intro h;simp at h
  | cons p r ih =>
    intro h
    rw [List.lookup_cons]
    cases e:x == p.1 with
    | true=>exact ⟨_,rfl⟩
    | false =>
      rcases List.mem_cons.mp h with z | z
      · subst z;simp at e
      · exact ih z
theorem qdz {scope:Scope} {env:Env} (hf:∀ x∈scope.names,x.2=.free→∃ c,env.cells.lookup x.1=some c) :
    ∃ cl,closureFor scope env=pure cl∧(∀ x c,cl.lookup x=some c→env.cells.lookup x=some c)∧∀ x,(x,NameKind.free)∈scope.names→∃ c,cl.lookup x=some c:=by
  obtain ⟨cl,e,h1,_,h3⟩:=qhr (env:=env) scope.names hf []
  refine ⟨cl,?_,qfh fun p hp=>(h1 p hp).elim (fun z=>by simp at z) id,fun x hx=>?_⟩
  · unfold closureFor
    simp only
    rw [← e]
    simp
  · obtain ⟨c,hc⟩:=h3 x hx
    exact qhu hc
theorem qde {env:Env}:∀ {names:List (Str × NameKind)} {x:Str} {k:NameKind},
    (names.map fun (n,k)=>if (k == NameKind.free && env.scope.kind == .function && env.kindOf n == some .cell) then (n,NameKind.cell) else (n,k)).lookup x=some k→(k=.cell∨k=.free)→(x,NameKind.free)∈names∨(x,NameKind.cell)∈names
  | [],_,_,h,_=>by simp at h
  | (n,k)::r,x,kk,h,hk=>by
    have ih:=@qde env r x kk
    have h:List.lookup x ((if (k == NameKind.free && env.scope.kind == .function && env.kindOf n == some .cell)=true then (n,NameKind.cell) else (n,k))::_)=_:=h
    by_cases hb:(k == NameKind.free && env.scope.kind == .function && env.kindOf n == some .cell)=true
    · rw [if_pos hb] at h
      have kf:k=.free:=by
        simp only [Bool.and_eq_true,beq_iff_eq] at hb
        exact hb.1.1
      rw [List.lookup_cons] at h
      cases e:x == n with
      | true =>
        have:x=n:=by simpa using e
        subst this;subst kf
        exact .inl List.mem_cons_self
      | false =>
        simp only [e] at h
        exact (ih h hk).imp (List.mem_cons_of_mem _) (List.mem_cons_of_mem _)
    · rw [if_neg hb] at h
      rw [List.lookup_cons] at h
      cases e:x == n with
      | true =>
        have kk':k=kk:=by simpa [e] using h
        have:x=n:=by simpa using e
        subst this
        subst kk'
        rcases hk with rfl | rfl
        · exact .inr List.mem_cons_self
        · exact .inl List.mem_cons_self
      | false =>
        simp only [e] at h
        exact (ih h hk).imp (List.mem_cons_of_mem _) (List.mem_cons_of_mem _)
def qbf (X:Cx) (scope:Scope) (N':List Str) (cl:List (Str × Addr)) (C:Addr) (s0:Shared) (H0:Hp) (fp:List Addr):Cx where
  prog:=X.prog
  w:=X.w
  K:=X.K
  mg:=X.mg
  base:=X.base
  A:=X.A
  N:=N'
  s₀:=s0
  H₀:=H0
  env:=compEnvC scope cl C X.env
  outer:=X.stack
  stack:=X.stack
  ex:=fp
  fn:=fun x=>scope.names.lookup x == some .cell
  calm:=X.calm
  pn:=[]
  xe:=fun _ _=>False
def qdM (cap:List (Option Nat)) (σ:St):St:=cap.map fun o=>o.bind fun i=>(σ[i]?).join
structure CompScope (N:List Str) (sc scope:Scope) (N':List Str) (cap:List (Option Nat)):Prop where
  kind:scope.kind=.function
  cel:∀ x∈scope.names,x.2=.cell→scope.names.lookup x.1=some .cell
  names:∀ x∈scope.names,x.2=.local→scope.names.lookup x.1=some .local
  free:∀ x∈scope.names,x.2=.free→sc.names.lookup x.1=some .cell
  fst:∀ x∈scope.names,x.2=.free→scope.names.lookup x.1=some .free
  nd:N'.Nodup
  len:cap.length=N'.length
  at_:∀ p∈cap.zip N',∀ i,p.1=some i→N[i]?=some p.2∧(p.2,NameKind.free)∈scope.names
def qlS (X:Cx) (ifs:List Expr) (t:TT):Prop :=
  ∀ (pins:List (Addr × Obj)) (s:Shared) (σ:St) (H:Hp) (Q:Bool→Hp→Prop),Inv X pins σ H s→t σ H Q →
    wpAny (model X.prog X.w) X.A (forIn ifs true fun c r=>if r=true then do let ok ← isTrue c X.env (eval c X.env);pure (ForInStep.yield ok) else pure (ForInStep.yield r)) (TP X pins σ Q) X.xe s
def qoO:TT:=fun _ H Q=>Q true H
theorem qc4 {X:Cx}:qlS X [] qoO:=fun _ _ _ H _ I h=>wpAny_tests_nil ⟨H,I,h⟩
theorem qj6 {X:Cx} {c:Expr} {t:TT} (h:PT X c t):qlS X [c] t:=fun pins s σ H Q I hw=>wpAny_tests_one (h pins s σ H Q I hw)
def qgm (wi:TI) (cap:List (Option Nat)) (g:TG) (tc:TT) (te:TE):TE:=fun σ H Q=>wi σ H fun J H1=>∀ D,H1 D=none→∃ W:Nat→Nat→St→Hp→Prop,(∃ m,W 0 m (qdM cap σ) (upd H1 D (.lst []))) ∧
  ∀ i m σ' H',W i m σ' H'→(J.stop i H'∧Q (.ref D) H')∨(J.go i H'∧∃ N:St→Hp→Prop,(∀ σ2 H2,N σ2 H2→∃ m',m'<m∧W (i+1) m' σ2 H2) ∧
    ∀ x H2,J.yld i H' x H2→g x σ' H2 fun σ3 H3=>tc σ3 H3 fun b H4=>if b=true then te σ3 H4 fun y H5=>∃ ys,H5 D=some (.lst ys)∧ys.length<sizeLine∧N σ3 (upd H5 D (.lst (ys++[y]))) else N σ3 H4)
theorem qgw {prog:Program} {w:World} {A:Around} {R:Result→Shared→Prop} {s:Shared} {elt target iter:Expr} {ifs:List Expr} {scope:Scope} {pos:Pos} {it acc:Value} {env:Env} (I:Nat→Shared→Prop)
    (turn:∀ n s,I n s→wpAny (model prog w) A (pyNext it) (fun r s₁=>match r with
      | none=>R (.ok .next) s₁
      | some v=>wpAny (model prog w) A (letOwnedTupleGo target it v) (fun _ s₁'=>wpAny (model prog w) A (assign target env v) (fun _ s₂ =>
          wpAny (model prog w) A (forIn ifs true fun c r=>if r=true then do let ok ← isTrue c env (eval c env);pure (ForInStep.yield ok) else pure (ForInStep.yield r)) (fun ok s₃ =>
            if ok=true then wpAny (model prog w) A (eval elt env) (fun x s₄ =>
              wpAny (model prog w) A (call (.builtin "list.append") [acc,x]) (fun _ s₅=>∃ m,m<n∧I m s₅) (fun _ _=>False) s₄) (fun _ _=>False) s₃
            else ∃ m,m<n∧I m s₃) (fun _ _=>False) s₂) (fun _ _=>False) s₁') (fun _ _=>False) s₁) (fun _ _=>False) s)
    (n:Nat) (h:I n s):codeAny (model prog w) A (.compLoop (.ListComp elt [⟨target,iter,ifs,0⟩] scope pos) 0 it acc env) R s:=by
  refine codeAny_loop rfl I (fun n s hI=>?_) n h
  show wpAny _ A ((compTurn (.ListComp elt [⟨target,iter,ifs,0⟩] scope pos) 0 it acc env).onRaise (fun x=>do noteFrame x env;theTreesLotGoes x)) _ _ s
  refine wpAny_noted ?_
  rw [compTurn_list]
  refine wpAny_bind (wpAny_standAt (wpAny_bind (wpAny_mono (turn n s hI) (fun r s₁ h₁=>?_) fun _ _ h'=>h'.elim)))
  cases r with
  | none=>exact wpAny_pure h₁
  | some v =>
    refine wpAny_bind (wpAny_mono h₁ (fun _ s₁' h₁'=>?_) fun _ _ h'=>h'.elim)
    refine wpAny_bind (wpAny_mono h₁' (fun _ s₂ h₂=>wpAny_bind (wpAny_mono h₂ (fun ok s₃ h₃=>?_) fun _ _ h'=>h'.elim)) fun _ _ h'=>h'.elim)
    cases ok with
    | false=>exact wpAny_pure ⟨rfl,h₃⟩
    | true =>
      exact wpAny_bind (wpAny_bind (wpAny_mono h₃ (fun x s₄ h₄=>wpAny_bind (wpAny_mono h₄ (fun _ s₅ h₅=>wpAny_pure (wpAny_pure ⟨rfl,h₅⟩)) fun _ _ h'=>h'.elim)) fun _ _ h'=>h'.elim))
section
variable {X : Cx} {elt tg iter : Expr} {ifs : List Expr} {scope : Scope} {pos : Pos} {N' : List Str} {cap : List (Option Nat)} {wi : TI} {g : TG} {tc : TT} {te : TE}
theorem qbI:∀ (names:List (Str × NameKind)) (n:Nat) (acc:List (Str × Addr)),cellsFrom n names acc=cellsFrom n names []++acc
  | [],_,_=>rfl
  | (x,k)::r,n,acc=>by
    unfold cellsFrom
    split
    · rw [qbI r (n+1) ((x,n)::acc),qbI r (n+1) [(x,n)],List.append_assoc];rfl
    · exact qbI r n acc
theorem qcH:∀ (names:List (Str × NameKind)) (n:Nat) {x:Str} {c:Addr},(x,c)∈cellsFrom n names []→(x,NameKind.cell)∈names
  | [],_,_,_,h=>by simp [cellsFrom] at h
  | (y,k)::r,n,x,c,h=>by
    unfold cellsFrom at h
    split at h
    · rename_i hk
      rw [qbI] at h
      rcases List.mem_append.mp h with h | h
      · exact List.mem_cons_of_mem _ (qcH r _ h)
      · have e:=List.mem_singleton.mp h
        cases e
        have:k=.cell:=by simpa using hk
        subst this
        exact List.mem_cons_self
    · exact List.mem_cons_of_mem _ (qcH r _ h)
theorem qjY {M:Model} {A:Around} {E:Value→Shared→Prop} {s:Shared} {globals:Addr} {cl:List (Str × Addr)} {qual:Str} {outer:Env} {Q:Env→Shared→Prop}
    (hQ:∀ h',h'.Ns s.heap.objs.size (fun _=>none)→(∀ b o,s.heap.get? b=some o→h'.get? b=some o)→CellsOk h' (s.heap.objs.size+1) (cellsFrom (s.heap.objs.size+1) scope.names []) →
      Q { scope:=scope,locals:=s.heap.objs.size,globals:=globals,cells:=cellsFrom (s.heap.objs.size+1) scope.names []++cl,qual:=qual,func:=none,code:=outer.code,frame:=outer.frame,builtins:=outer.builtins } { s with heap:=h' }) :
    wpAny M A (newFunctionEnv scope globals cl [] qual none .none (some outer)) Q E s:=by
  simp only [newFunctionEnv,Option.isSome_some,if_true]
  refine wpAny_bind (wpAny_alloc ?_)
  refine wpAny_bind (wpAny_layCells _ (fun name kind cells=>by cases hkc:kind == NameKind.cell <;> simp [hkc]) _ _ _ _ ?_)
  have ok:=cellsFrom_ok scope.names (s.heap.push { cls:=.type "dict",data:=.dict #[] }) (s.heap.objs.size+1) [] ⟨fun _ _ hm=>(nomatch hm),List.Pairwise.nil⟩ (by rw [Heap.size_push];exact Nat.le_refl _)
  rw [Heap.size_push] at ok
  rw [show ({ s with heap:=s.heap.push { cls:=.type "dict",data:=.dict #[] } }:Shared).heap.objs.size=s.heap.objs.size+1 from Heap.size_push ..,qbI]
  refine wpAny_bind ?_
  rw [List.forIn_nil]
  exact wpAny_pure (wpAny_pure (hQ _ ((Heap.Ns.new s.heap (.type "dict")).keeps (pushCells_keeps _ _)) (fun b o e=>pushCells_keeps _ _ b o (Heap.get?_push_of_some _ e)) ok))
theorem qjR {pins:List (Addr × Obj)} {σ:St} {H:Hp} {s s4:Shared} {cl nw:List (Str × Addr)} {C:Addr} {fp:List Addr} {m:Str→Option Value} (S:CompScope X.N X.env.scope scope N' cap) (I:Inv X pins σ H s)
    (hcl:∀ x c,cl.lookup x=some c→X.env.cells.lookup x=some c) (hfr:∀ x,(x,NameKind.free)∈scope.names→∃ c,cl.lookup x=some c) (hC:s.heap.objs.size≤C) (hos:s4.os=s.os) (hg:s4.gens=s.gens)
    (hk:∀ b o,s.heap.get? b=some o→s4.heap.get? b=some o) (hn:s4.heap.Ns C m) (hfp:∀ b∈fp,qe0 X pins H b) (hfz:∀ b∈fp,b<s.heap.objs.size) (hw:CellsOk s4.heap (C+1) nw) (hwm:∀ x c,(x,c)∈nw→(x,NameKind.cell)∈scope.names) (hwl:∀ x,(x,NameKind.cell)∈scope.names→∃ c,nw.lookup x=some c) :
    Inv (qbf X scope N' (nw++cl) C s H fp) [] (qdM cap σ) H s4:=by
  have hlk:∀ x c,(nw++cl).lookup x=some c→((x,c)∈nw∧C<c)∨(nw.lookup x=none∧X.env.cells.lookup x=some c):=fun x c h=>by
    rw [List.lookup_append] at h
    cases e:nw.lookup x with
    | none=>rw [e] at h;exact .inr ⟨rfl,hcl x c (by simpa using h)⟩
    | some c' =>
      rw [e] at h
      have:c'=c:=by simpa using h
      subst this
      exact .inl ⟨PySem.mem_of_lookup e,(hw.empty _ _ (PySem.mem_of_lookup e)).2⟩
  have hold:∀ x c,X.env.cells.lookup x=some c→c<s.heap.objs.size:=fun x c h=>by obtain ⟨v,q⟩:=I.cell x c h;exact q.lt
  have hfr':∀ x,(x,NameKind.free)∈scope.names→∃ c,(nw++cl).lookup x=some c∧X.env.cells.lookup x=some c:=fun x hx=>by
    obtain ⟨c,hc⟩:=hfr x hx
    refine ⟨c,?_,hcl x c hc⟩
    rw [List.lookup_append]
    cases e:nw.lookup x with
    | none=>simpa using hc
    | some c' =>
      have a1:=S.cel _ (hwm x c' (PySem.mem_of_lookup e)) rfl
      have a2:=S.fst _ hx rfl
      have a1:scope.names.lookup x=some .cell:=a1
      have a2:scope.names.lookup x=some .free:=a2
      rw [a1] at a2;cases a2
  refine ⟨⟨I.ok.mod,S.kind,I.ok.glob,I.ok.blt,hC,fun x y c h1 h2=>?_,fun x hx=>?_,fun x c hx h=>?_,I.ok.hd,I.ok.frames,.inl rfl,
      fun b hb=>⟨Nat.ne_of_lt (Nat.lt_of_lt_of_le (hfz b hb) hC),fun x c e=>?_⟩,I.bs,Nat.le_trans I.ok.bsz I.sz,fun b o e hb=>?_,fun b hb hf=>?_,I.stack,I.stkFree⟩,
    hos,by rw [hg];exact I.bare,Un.kept hk,⟨m,hn,fun i x v h1 h2 h3=>?_⟩,fun x c e=>?_,I.hok.fresh hC,fun x c e=>?_,fun p hp=>absurd (show p∈([]:List (Addr × Obj)) from hp) (by simp),I.hok.kept hk,?_⟩
  · rcases hlk x c h1 with ⟨a1,a2⟩ | ⟨_,a2⟩ <;> rcases hlk y c h2 with ⟨b1,b2⟩ | ⟨_,b2⟩
    · exact name_of_addr hw.apart a1 b1
    · exact absurd (hold y c b2) (Nat.not_lt.mpr (Nat.le_trans hC (Nat.le_of_lt a2)))
    · exact absurd (hold x c a2) (Nat.not_lt.mpr (Nat.le_trans hC (Nat.le_of_lt b2)))
    · exact I.ok.inj x y c a2 b2
  · have q:(x,NameKind.free)∈scope.names∨(x,NameKind.cell)∈scope.names:=by
      rcases hx with hx | hx
      · exact qde hx (.inl rfl)
      · exact qde hx (.inr rfl)
    rcases q with q | q
    · obtain ⟨c,h,_⟩:=hfr' x q
      exact ⟨c,h⟩
    · obtain ⟨c,h⟩:=hwl x q
      exact ⟨c,by show (nw++cl).lookup x=_;rw [List.lookup_append,h];rfl⟩
  · have hx:(scope.names.lookup x == some .cell)=true:=hx
    have hx:scope.names.lookup x=some .cell:=by simpa using hx
    obtain ⟨c',h'⟩:=hwl x (PySem.mem_of_lookup hx)
    rcases hlk x c h with ⟨_,a2⟩ | ⟨a1,_⟩
    · exact Nat.le_trans hC (Nat.le_of_lt a2)
    · rw [h'] at a1;cases a1
  · rcases hlk x c e with ⟨_,a2⟩ | ⟨_,a2⟩
    · exact fun z=>absurd (hfz b hb) (Nat.not_lt.mpr (Nat.le_trans hC (by rw [← z];exact Nat.le_of_lt a2)))
    · exact (hfp b hb).2.2.2.2.1 x c a2
  · rcases (hfp b hb).2.2.2.1 with z | z
    · exact I.ok.noex b o e z
    · exact absurd (Nat.lt_of_lt_of_le (Heap.lt_size e) (Nat.le_trans I.ok.bsz z)) (Nat.lt_irrefl _)
  · rcases List.mem_cons.mp (I.stkSub b hf) with z | z
    · exact (hfp b hb).2.1 z
    · exact (hfp b hb).2.2.1 z
  · have h2:(cap.map fun o=>o.bind fun i=>(σ[i]?).join)[i]?=some (some v):=h2
    rw [List.getElem?_map] at h2
    cases ec:cap[i]? with
    | none=>rw [ec] at h2;cases h2
    | some o =>
      rw [ec] at h2
      have h2:(o.bind fun i=>(σ[i]?).join)=some v:=by simpa using h2
      cases o with
      | none=>cases h2
      | some j =>
        have h2:(σ[j]?).join=some v:=h2
        have hj:σ[j]?=some (some v):=by
          cases ej:σ[j]? with
          | none=>rw [ej] at h2;cases h2
          | some y=>rw [ej] at h2;exact congrArg some h2
        have hz:(cap.zip N')[i]?=some (some j,x):=by rw [List.getElem?_zip_eq_some];exact ⟨ec,h1⟩
        obtain ⟨q1,q2⟩:=S.at_ _ (List.mem_of_getElem? hz) j rfl
        obtain ⟨mx,hnx,hl⟩:=I.loc
        have kc:=S.free _ q2 rfl
        obtain ⟨u,r,lk⟩:=hl j x v q1 hj (.inr (.inl kc))
        refine ⟨u,r,?_⟩
        rcases lk with ⟨k1,_⟩ | ⟨_,c,e,z⟩
        · have:X.env.scope.names.lookup x=some .local:=k1
          rw [kc] at this;cases this
        · obtain ⟨c',hc',hd'⟩:=hfr' x q2
          rw [e] at hd';cases hd'
          have kx:(compEnvC scope (nw++cl) C X.env).kindOf x=some .cell∨(compEnvC scope (nw++cl) C X.env).kindOf x=some .free∨(compEnvC scope (nw++cl) C X.env).kindOf x=some .local:=by
            rcases h3 with z | z | z
            · exact .inr (.inr z)
            · exact .inl z
            · exact .inr (.inl z)
          rcases kx with kx | kx | kx
          · exact .inr ⟨.inl kx,c,hc',let ⟨o,ho,hd⟩:=z;⟨o,hk c o ho,hd⟩⟩
          · exact .inr ⟨.inr kx,c,hc',let ⟨o,ho,hd⟩:=z;⟨o,hk c o ho,hd⟩⟩
          · exfalso
            have kl:(relabel scope X.env).names.lookup x=some .local:=kx
            have ml:=PySem.mem_of_lookup kl
            obtain ⟨⟨n,k⟩,hm,e2⟩:=List.mem_map.mp ml
            have e2:(if (k == NameKind.free && X.env.scope.kind == .function && X.env.kindOf n == some .cell)=true then (n,NameKind.cell) else (n,k))=(x,NameKind.local):=e2
            split at e2
            · cases e2
            · cases e2
              have a1:=S.names _ hm rfl
              have a3:scope.names.lookup x=some .free:=S.fst _ q2 rfl
              have a1:scope.names.lookup x=some .local:=a1
              rw [a3] at a1;cases a1
  · rcases hlk x c e with ⟨a1,_⟩ | ⟨_,a2⟩
    · exact ⟨none,(hw.empty x c a1).1⟩
    · obtain ⟨v,o,ho,hd⟩:=I.cell x c a2
      exact ⟨v,o,hk c o ho,hd⟩
  · rcases hlk x c e with ⟨_,a2⟩ | ⟨_,a2⟩
    · exact I.hok.fresh (Nat.le_trans hC (Nat.le_of_lt a2))
    · exact I.freeC x c a2
  · show (qdM cap σ).length=N'.length
    unfold qdM
    rw [List.length_map,S.len]
theorem qeR {pins:List (Addr × Obj)} {σ:St} {H2:Hp} {s2:Shared} {it:Addr} {fp:List Addr} {tn:Nat→Heap→Prop} {J:It} {cl:List (Str × Addr)} {RR:Value→Addr→Result→Shared→Prop} {E:Value→Shared→Prop} (hcalm:X.calm=true) (S:CompScope X.N X.env.scope scope N' cap)
    (hg:∀ (cl:List (Str × Addr)) (C:Addr) (s0:Shared) (H0:Hp),PG (qbf X scope N' cl C s0 H0 fp) tg g) (ht:∀ (cl:List (Str × Addr)) (C:Addr) (s0:Shared) (H0:Hp),qlS (qbf X scope N' cl C s0 H0 fp) ifs tc) (he:∀ (cl:List (Str × Addr)) (C:Addr) (s0:Shared) (H0:Hp),PE (qbf X scope N' cl C s0 H0 fp) elt te)
    (I2:Inv X pins σ H2 s2) (T:Turn X.prog X.w X.K tg J fp it tn) (st2:tn 0 s2.heap) (f2:∀ b∈fp,qe0 X pins H2 b)
    (hcl:∀ x c,cl.lookup x=some c→X.env.cells.lookup x=some c) (hfr:∀ x,(x,NameKind.free)∈scope.names→∃ c,cl.lookup x=some c)
    {P:V→Hp→Prop}
    (w:∀ D,H2 D=none→∃ W:Nat→Nat→St→Hp→Prop,(∃ m,W 0 m (qdM cap σ) (upd H2 D (.lst []))) ∧
      ∀ i m σ' H',W i m σ' H'→(J.stop i H'∧P (.ref D) H')∨(J.go i H'∧∃ N:St→Hp→Prop,(∀ σ2 H2,N σ2 H2→∃ m',m'<m∧W (i+1) m' σ2 H2) ∧
        ∀ x H2,J.yld i H' x H2→g x σ' H2 fun σ3 H3=>tc σ3 H3 fun b H4=>if b=true then te σ3 H4 fun y H5=>∃ ys,H5 D=some (.lst ys)∧ys.length<sizeLine∧N σ3 (upd H5 D (.lst (ys++[y]))) else N σ3 H4))
    (hRR:∀ D C H' s' m',X.env.locals≠C→X.s₀.heap.objs.size≤C→(∀ x c,X.env.cells.lookup x=some c→c≠C)→(∀ p∈X.pn++pins,p.1≠C)→H' C=none→s'.heap.Ns C m'→Inv X pins σ H' s'→P (.ref D) H'→RR (.ref D) C (.ok .next) s') :
    wpAny (model X.prog X.w) X.A (newList []) (fun acc s₃=>wpAny (model X.prog X.w) X.A (newFunctionEnv scope X.env.globals cl [] X.env.qual none .none (some X.env)) (fun cenv s₄ =>
      codeAny (model X.prog X.w) X.A (.compStart (.ListComp elt [⟨tg,iter,ifs,0⟩] scope pos) 0 (.ref it) acc { cenv with scope:=relabel scope X.env }) (RR acc cenv.locals) s₄) E s₃) E s2:=by
  refine wpAny_newObj_type ?_ (by show 0≤sizeLine;decide)
  have I3:Inv X pins σ (upd H2 s2.heap.objs.size (.lst [])) { s2 with heap:=s2.heap.push { cls:=.type "list",data:=.seq ([]:List Value).toArray } }:=I2.lnew (t':=s2.toks) .nil (by show 0≤sizeLine;decide)
  have k3:∀ b o,s2.heap.get? b=some o→(s2.heap.push { cls:=.type "list",data:=.seq ([]:List Value).toArray }).get? b=some o:=fun b o e=>Heap.get?_push_of_some _ e
  have z3:(s2.heap.push { cls:=.type "list",data:=.seq ([]:List Value).toArray }).objs.size=s2.heap.objs.size+1:=Heap.size_push ..
  have hD0:H2 s2.heap.objs.size=none:=I2.fresh
  generalize hs3:({ s2 with heap:=s2.heap.push { cls:=.type "list",data:=.seq ([]:List Value).toArray } }:Shared)=s3 at I3 ⊢
  have eh3:s3.heap=s2.heap.push { cls:=.type "list",data:=.seq ([]:List Value).toArray }:=by rw [← hs3]
  have eo3:s3.os=s2.os:=by rw [← hs3]
  generalize hDD:s2.heap.objs.size=D at I3 hD0 z3 ⊢
  rw [← eh3] at k3 z3
  have live:∀ b∈fp,∃ o,s2.heap.get? b=some o∧∀ v,o.data≠.cell v:=fun b hb=>T.obj 0 _ st2 b hb
  have ltD:∀ b∈fp,b<D:=fun b hb=>by obtain ⟨o,e,_⟩:=live b hb;rw [← hDD];exact Heap.lt_size e
  have f3:∀ b∈fp,qe0 X pins (upd H2 D (.lst [])) b:=fun b hb=>⟨by rw [qaA (Nat.ne_of_lt (ltD b hb))];exact (f2 b hb).1,(f2 b hb).2⟩
  refine qjY fun h4 hn4 k4 ok4=>?_
  generalize hnw:cellsFrom (s3.heap.objs.size+1) scope.names []=nw at ok4 ⊢
  have st4:tn 0 h4:=T.keep 0 _ _ st2 fun b _ o e=>k4 b o (k3 b o e)
  have I4:Inv (qbf X scope N' (nw++cl) s3.heap.objs.size s3 (upd H2 D (.lst [])) fp) [] (qdM cap σ) (upd H2 D (.lst [])) { s3 with heap:=h4 } :=
    qjR S I3 hcl hfr (Nat.le_refl _) rfl rfl k4 hn4 f3 (fun b hb=>by rw [z3];exact Nat.lt_succ_of_lt (ltD b hb)) ok4 (fun x c h=>qcH _ _ (hnw ▸ h)) fun x h=>hnw ▸ qfa (S.cel _ h rfl)
  obtain ⟨W,⟨m0,w0⟩,turn⟩:=w D hD0
  have fpY:∀ {H':Hp},(∀ b∈fp,H' b=none)→∀ b∈fp,qe0 (qbf X scope N' (nw++cl) s3.heap.objs.size s3 (upd H2 D (.lst [])) fp) [] H' b:=fun hn b hb =>
    ⟨hn b hb,Nat.ne_of_lt (by show b<s3.heap.objs.size;rw [z3];exact Nat.lt_succ_of_lt (ltD b hb)),fun hf=>I4.ok.exfs b hb hf,.inl hb,fun x c e=>(I4.ok.exf b hb).2 x c e,fun p hp=>absurd (show p∈([]:List (Addr × Obj)) from hp) (by simp)⟩
  have loop:∀ s₃:Shared,s₃={ s3 with heap:=h4 } →
      codeAny (model X.prog X.w) X.A (.compLoop (.ListComp elt [⟨tg,iter,ifs,0⟩] scope pos) 0 (.ref it) (.ref D) (compEnvC scope (nw++cl) s3.heap.objs.size X.env)) (RR (.ref D) s3.heap.objs.size) s₃:=by
    rintro s₃ rfl
    refine qgw (fun n s'=>∃ i σ' H',Inv (qbf X scope N' (nw++cl) s3.heap.objs.size s3 (upd H2 D (.lst [])) fp) [] σ' H' s'∧tn i s'.heap∧(∀ b∈fp,H' b=none)∧W i n σ' H') ?_ m0
      ⟨0,qdM cap σ,upd H2 D (.lst []),I4,st4,fun b hb=>(f3 b hb).1,w0⟩
    rintro n s5 ⟨i,σ5,H5,I5,st5,fr5,w5⟩
    rcases turn i n σ5 H5 w5 with ⟨stop,qn⟩ | ⟨go,N,hN,step⟩
    · refine thn (T.done (qbf X scope N' (nw++cl) s3.heap.objs.size s3 (upd H2 D (.lst [])) fp) rfl rfl rfl hcalm i [] s5 σ5 H5 _ I5 (fpY fr5) st5 stop) fun r s6 hq0=>?_
      obtain ⟨hr,I6⟩:=hq0
      subst hr
      obtain ⟨m6,hn6,_⟩:=I6.loc
      have un:Un (frs X.stack) fp (upd H2 D (.lst [])) H5 s3.heap s6.heap:=I6.base
      refine hRR D s3.heap.objs.size H5 s6 m6 (Nat.ne_of_lt I3.lt) I3.sz (fun x c e=>?_) (fun p hp=>?_) I6.free hn6 ?_ qn
      · obtain ⟨v,q⟩:=I3.cell x c e
        exact Nat.ne_of_lt q.lt
      · exact Nat.ne_of_lt (Heap.lt_size (I3.pin p hp).1)
      · exact I3.call' I6.os un I6.hok I6.bare fun b hb=>⟨(f3 b hb).2.2.2.1,(f3 b hb).2.1,(f3 b hb).2.2.2.2.1,(f3 b hb).2.2.2.2.2⟩
    · refine thn (T.item (qbf X scope N' (nw++cl) s3.heap.objs.size s3 (upd H2 D (.lst [])) fp) rfl rfl rfl hcalm i [] s5 σ5 H5 (fun _ _=>False) I5 (fpY fr5) st5 go) fun r s6 hq1=>?_
      obtain ⟨u,hr,h6⟩:=hq1
      subst hr
      refine thn h6 fun _ s7 hq2=>?_
      obtain ⟨x,H7,I7,r7,y7,st7,fr7⟩:=hq2
      have I7':=I7.pinned (fpY fr7) (T.obj _ _ st7)
      refine thn (hg _ _ _ _ _ s7 σ5 H7 x u _ I7' r7 (step x H7 y7)) fun _ s8 hq3=>?_
      obtain ⟨σ8,H8,I8,q8⟩:=hq3
      refine thn (ht _ _ _ _ _ s8 σ8 H8 _ I8 q8) fun b s9 hq4=>?_
      obtain ⟨H9,I9,q9⟩:=hq4
      have again:∀ {σ9:St} {H9:Hp} {s9:Shared},Inv (qbf X scope N' (nw++cl) s3.heap.objs.size s3 (upd H2 D (.lst [])) fp) ([]++qf7 fp s7.heap) σ9 H9 s9→N σ9 H9→∃ m,m<n∧∃ i σ' H',Inv (qbf X scope N' (nw++cl) s3.heap.objs.size s3 (upd H2 D (.lst [])) fp) [] σ' H' s9∧tn i s9.heap∧(∀ b∈fp,H' b=none)∧W i m σ' H':=fun {σ9 H9 s9} I9 n9=>by
        obtain ⟨m',hm,w9⟩:=hN σ9 H9 n9
        refine ⟨m',hm,i+1,σ9,H9,I9.unpinned,T.keep _ _ _ st7 fun b hb o e=>(I9.pin (b,o) (List.mem_append_right _ (List.mem_append_right _ (qc6 hb e)))).1,fun b hb=>?_,w9⟩
        obtain ⟨o,e,d⟩:=T.obj _ _ st7 b hb
        exact (I9.pin (b,o) (List.mem_append_right _ (List.mem_append_right _ (qc6 hb e)))).2.1
      cases b with
      | false =>
        rw [if_neg (by decide)] at q9 ⊢
        exact again I9 q9
      | true =>
        rw [if_pos rfl] at q9 ⊢
        refine thn (he _ _ _ _ _ s9 σ8 H9 _ I9 q9) fun yv s10 hq5=>?_
        obtain ⟨y,H10,I10,r10,ys,hD10,hz10,q10⟩:=hq5
        refine thn (qcC _ s10 σ8 H10 (.ref D) [y] (.ref D) [yv] (fun _ H'=>N σ8 H') I10 rfl (.cons r10 .nil) ⟨D,ys,y,rfl,rfl,hD10,hz10,q10⟩) fun _ s11 hq6=>?_
        obtain ⟨_,H11,I11,_,q11⟩:=hq6
        exact again I11 q11
  exact codeAny_compStart_list (loop _ rfl) (T.self _ 0 _ _ _ st4 (loop _ rfl))
theorem qdP (hcalm:X.calm=true) (S:CompScope X.N X.env.scope scope N' cap) (hi:PI X tg iter wi)
    (hg:∀ (cl:List (Str × Addr)) (fp:List Addr) (C:Addr) (s0:Shared) (H0:Hp),PG (qbf X scope N' cl C s0 H0 fp) tg g) (ht:∀ (cl:List (Str × Addr)) (fp:List Addr) (C:Addr) (s0:Shared) (H0:Hp),qlS (qbf X scope N' cl C s0 H0 fp) ifs tc)
    (he:∀ (cl:List (Str × Addr)) (fp:List Addr) (C:Addr) (s0:Shared) (H0:Hp),PE (qbf X scope N' cl C s0 H0 fp) elt te) (hs:∀ x,foldedSetIterable iter X.env x=pure x:=by intro _;rfl) :
    PE X (.ListComp elt [⟨tg,iter,ifs,0⟩] scope pos) (qgm wi cap g tc te):=by
  intro pins s σ H Q I h
  obtain ⟨cl,ecl,hcl,hfr⟩:=qdz (scope:=scope) (env:=X.env) fun x hx hf=>I.ok.has x.1 (.inl (S.free x hx hf))
  rw [eval_ListComp]
  refine wpAny_comprehension_free (use:=none) rfl hs ecl S.kind S.names (thn (hi pins s σ H _ I h) fun v s1 h1=>thn h1 fun itv s2 h2=>?_)
  obtain ⟨it,fp,tn,J,H2,e,I2,T,st2,f2,w⟩:=h2
  subst e
  refine qeR (RR:=fun acc C=>compPost (model X.prog X.w) X.A X.xe none (EP X pins σ Q) acc C) hcalm S (fun cl=>hg cl fp) (fun cl=>ht cl fp) (fun cl=>he cl fp) I2 T st2 f2 hcl hfr (P:=Q) w ?_
  intro D C H' s' m' hL hz hcc hpp hC hn I' q
  refine ⟨m',hn,fun h' hs'=>⟨.ref D,H',I'.turned (t':=s'.toks) (fun b o hb e=>(hs'.2 b hb).trans e) hC (Ne.symm hL) (.inr hz) hcc hpp,rfl,q⟩⟩
theorem qgK {i:Nat} {y:Str} {py spos:Pos} (hcalm:X.calm=true) (hN:X.N.Nodup) (hy:X.N[i]?=some y) (hx:Loc X.env.scope y) (S:CompScope X.N X.env.scope scope N' cap) (hi:PI X tg iter wi)
    (hg:∀ (cl:List (Str × Addr)) (fp:List Addr) (C:Addr) (s0:Shared) (H0:Hp),PG (qbf X scope N' cl C s0 H0 fp) tg g) (ht:∀ (cl:List (Str × Addr)) (fp:List Addr) (C:Addr) (s0:Shared) (H0:Hp),qlS (qbf X scope N' cl C s0 H0 fp) ifs tc)
    (he:∀ (cl:List (Str × Addr)) (fp:List Addr) (C:Addr) (s0:Shared) (H0:Hp),PE (qbf X scope N' cl C s0 H0 fp) elt te) (hsw:swapsWith (.ListComp elt [⟨tg,iter,ifs,0⟩] scope pos) (some (.Name y py)) spos.line X.env=pure true:=by rfl)
    (hs:∀ x,foldedSetIterable iter X.env x=pure x:=by intro _;rfl) (hf:X.fn y=true∨X.env.scope.names.lookup y=some .local:=by first | exact .inl rfl | exact .inr rfl | assumption) :
    PS X (.Assign [.Name y py] (.ListComp elt [⟨tg,iter,ifs,0⟩] scope pos) spos) (qmm (qgm wi cap g tc te) (qhE i)):=by
  intro pins s σ H D I h
  obtain ⟨cl,ecl,hcl,hfr⟩:=qdz (scope:=scope) (env:=X.env) fun x hx hf=>I.ok.has x.1 (.inl (S.free x hx hf))
  rw [exec_Assign_Name_used _ _ _ _ hsw]
  refine wpAny_bind (wpAny_standAt (wpAny_bind ?_))
  show wpAny _ X.A (do let _ ← comprehension (.ListComp elt [⟨tg,iter,ifs,0⟩] scope pos) scope X.env _ (newList []) false (eval iter X.env) (some (assign (.Name y py) X.env))) _ _ s
  refine wpAny_bind (wpAny_mono (wpAny_comprehension_free (use:=some (assign (.Name y py) X.env)) (Q:=fun _ s'=>SP X pins D .next s') rfl hs ecl S.kind S.names
    (thn (hi pins s σ H _ I h) fun v s1 h1=>thn h1 fun itv s2 h2=>?_)) (fun _ s' hq=>wpAny_pure (wpAny_pure hq)) fun _ _ e=>e)
  obtain ⟨it,fp,tn,J,H2,e,I2,T,st2,f2,w⟩:=h2
  subst e
  refine qeR (RR:=fun acc C=>compPost (model X.prog X.w) X.A X.xe (some (assign (.Name y py) X.env)) (fun _ s'=>SP X pins D .next s') acc C) hcalm S (fun cl=>hg cl fp) (fun cl=>ht cl fp) (fun cl=>he cl fp) I2 T st2 f2 hcl hfr (P:=fun v H'=>D.nx (σ.set i (some v)) H') w ?_
  intro Dd C H' s' m' hL hz hcc hpp hC hn I' q
  show wpAny _ X.A (assign (.Name y py) X.env (.ref Dd)) _ _ s'
  refine wpAny_assign_Name (qf5 (v:=.ref Dd) I' hN hy hx rfl (fun s'' I'' hsb=>?_) hf)
  obtain ⟨a,sb,ha⟩:=hsb
  have hCa:C≠a:=by
    rcases ha with z | z
    · rw [z];exact Ne.symm hL
    · exact Ne.symm (hcc y a z)
  refine ⟨m',hn.sameBut sb hCa,fun h' hs'=>?_⟩
  exact ⟨_,H',I''.turned (t':=s''.toks) (fun b o hb e=>(hs'.2 b hb).trans e) hC (Ne.symm hL) (.inr hz) hcc hpp,q⟩
end
open AutoSeq1 (wpAny_loadPart')
theorem Inv.turnedL {X:Cx} {pins:List (Addr × Obj)} {σ:St} {H:Hp} {s:Shared} {h':Heap} {ch:List Addr} {t':Nat} (I:Inv X pins σ H s) (k:∀ b o,b∉ch→s.heap.get? b=some o→h'.get? b=some o) (hf:∀ b∈ch,qe0 X pins H b) :
    Inv X pins σ H { s with heap:=h',toks:=t' }:=by
  have nit:∀ b u,H b=some u→b∉ch:=fun b u e z=>by rw [(hf b z).1] at e;cases e
  refine I.step (g':=s.gens) (d':=s.drawn) (ch:=ch) (fun b hb=>⟨(hf b hb).2.2.2.1,(hf b hb).2.1,(hf b hb).2.2.2.2.1,(hf b hb).2.2.2.2.2⟩) (fun b o _ _ hc e _=>k b o hc e) (fun b o _ _ hc e _=>⟨o.slots,k b o hc e⟩) (fun _ _ _ _ n=>n)
    (fun b o hc e=>⟨o,k b o hc e⟩) (fun _ _ e=>e) (fun _ _ _ e=>e) (fun b ps e=>e) (fun m hm=>?_) (fun b u e=>?_) I.bare
  · obtain ⟨o,es,ep,ho,r⟩:=hm
    exact ⟨o,es,ep,k _ o (fun z=>(hf _ z).2.1 rfl) ho,r⟩
  · refine (I.hok b u e).stay (fun c v hc q=>k c v ?_ q) (fun _ q=>q) (fun _ _ q=>q) fun _ _ _ q=>q
    rcases hc with z | z
    · rw [z];exact nit b u e
    · exact nit c _ z
def SqI (b:Bool) (h:Heap) (it a:Addr) (i:Nat):Prop:=match b with | true=>h.IsListIter it a i | false=>h.IsTupleIter it a i
def SqO (b:Bool) (h:Heap) (a:Addr) (its:Array Value):Prop:=match b with | true=>h.IsList a its | false=>h.IsTuple a its
def SqB (K:PySem.W.Frag) (b:Bool) (H:Hp) (a:Addr) (xs:List V):Prop:=match b with | true=>SqL K H a xs | false=>SqT K H a xs
def qck (b:Bool) (a:Addr):Obj:=match b with
  | true=>{ cls:=.type "list_iterator",data:=.fields #[.ref a,.int 0 0] }
  | false=>{ cls:=.type "tuple_iterator",data:=.fields #[.ref a,.int 0 0] }
theorem SqI.at {b:Bool} {h h':Heap} {it a:Addr} {i:Nat} (x:SqI b h it a i) (k:∀ o,h.get? it=some o→h'.get? it=some o):SqI b h' it a i:=by
  cases b <;> (obtain ⟨o,e,r⟩:=x;exact ⟨o,k o e,r⟩)
theorem SqO.at {b:Bool} {h h':Heap} {a:Addr} {its:Array Value} (x:SqO b h a its) (k:∀ o,h.get? a=some o→h'.get? a=some o):SqO b h' a its:=by
  cases b <;> (obtain ⟨o,e,r⟩:=x;exact ⟨o,k o e,r⟩)
theorem SqI.obj {b:Bool} {h:Heap} {it a:Addr} {i:Nat} (x:SqI b h it a i):∃ o,h.get? it=some o∧∀ v,o.data≠.cell v:=by
  cases b <;> (obtain ⟨o,e,_,d⟩:=x;exact ⟨o,e,fun v z=>by rw [d] at z;cases z⟩)
theorem SqI.lt {b:Bool} {h:Heap} {it a:Addr} {i:Nat} (x:SqI b h it a i):it<h.objs.size:=by obtain ⟨o,e,_⟩:=x.obj;exact Heap.lt_size e
theorem SqO.lt {b:Bool} {h:Heap} {a:Addr} {its:Array Value} (x:SqO b h a its):a<h.objs.size:=by
  cases b <;> (obtain ⟨o,e,_⟩:=x;exact Heap.lt_size e)
theorem Inv.sqb {X:Cx} {pins:List (Addr × Obj)} {σ:St} {H:Hp} {s:Shared} {b:Bool} {a:Addr} {xs:List V} (I:Inv X pins σ H s) (h:SqB X.K b H a xs):∃ its:List Value,Vals xs its∧SqO b s.heap a its.toArray∧xs.length≤sizeLine:=by
  cases b with
  | true=>obtain ⟨its,rv,p,hz⟩:=I.list h;exact ⟨its,rv,p.isList,hz⟩
  | false=>obtain ⟨its,rv,p,hz⟩:=I.tuple h;exact ⟨its,rv,p,hz⟩
theorem Inv.sqb_inj {X:Cx} {pins:List (Addr × Obj)} {σ:St} {H:Hp} {s:Shared} {b:Bool} {a:Addr} {xs ys:List V} (I:Inv X pins σ H s) (h:SqB X.K b H a xs) (h':SqB X.K b H a ys):xs=ys:=by
  cases b with
  | true=>exact I.list_inj h h'
  | false=>exact I.tuple_inj h h'
theorem SqB.same {K:PySem.W.Frag} {b:Bool} {H H':Hp} {a:Addr} {xs:List V} (e:Same H H') (h:SqB K b H a xs):SqB K b H' a xs:=by
  cases b with
  | true=>exact e.seq h
  | false =>
    rcases h with (h | ⟨o,h⟩) | h
    · exact .inl (.inl (e _ _ h))
    · exact .inl (.inr ⟨o,e _ _ h⟩)
    · exact .inr h
section
variable {prog : Program} {w : World} {A : Around} {E : Value → Shared → Prop} {s : Shared}
theorem qec {b:Bool} {a:Addr} {its:Array Value} {Q:Value→Shared→Prop} (h:SqO b s.heap a its) (q:Q (.ref s.heap.objs.size) { s with heap:=s.heap.push (qck b a) }):wpAny (model prog w) A (pyIter (.ref a)) Q E s:=by
  cases b with
  | true=>exact wpAny_pyIter_list h q
  | false=>exact wpAny_pyIter_tuple h q
theorem qc5 {b:Bool} {h:Heap} {it a:Addr} (e:h.get? it=some (qck b a)):SqI b h it a 0:=by
  cases b <;> exact ⟨_,e,rfl,rfl⟩
theorem qe6 {b:Bool} {it a:Addr} {i:Nat} {its:Array Value} {x:Value} {Q:Value→Shared→Prop} (hit:SqI b s.heap it a i) (hl:SqO b s.heap a its) (hx:its[i]?=some x)
    (hQ:∀ h',SqI b h' it a (i+1)→Heap.SameBut it s.heap h'→Q x { s with heap:=h' }):wpAny (model prog w) A (Builtin.SmallTypes.nextOf (.ref it)) Q E s:=by
  cases b with
  | true=>exact wpAny_nextOf_list_item hit hl hx hQ
  | false =>
    have hit:s.heap.IsTupleIter it a i:=hit
    obtain ⟨o,ho,hc,hd⟩:=id hit
    obtain ⟨ol,hol,_,nl,hdl⟩:=hl
    unfold Builtin.SmallTypes.nextOf
    refine wpAny_bind (wpAny_callSpecial?_slot (name:=Str.ofString "__next__") hit.typeIs F.slot_tuple_iterator_next (wpAny_call_entry F.slot_tuple_iterator_next hit.typeIs F.entry_tuple_iterator_next ?_ (F.args_tuple_iterator_next_1 _)))
    show wpAny _ _ (field (.ref it) 0 >>= _) _ _ s
    refine wpAny_bind (wpAny_field ho hd (x:=.ref a) rfl ?_)
    show wpAny _ _ (if (Value.ref a == Value.none)=true then _ else _) _ _ s
    rw [if_neg (show ¬ ((Value.ref a == Value.none)=true) from Bool.false_ne_true)]
    show wpAny _ _ (field (.ref it) 1 >>= _) _ _ s
    refine wpAny_bind (wpAny_field ho hd (x:=.int i 0) rfl ?_)
    show wpAny _ _ (seqItems? (.ref a) >>= _) _ _ s
    refine wpAny_bind (wpAny_seqItems hol hdl ?_)
    simp only [Int.toNat_natCast,hx]
    refine wpAny_bind (wpAny_setField ho hd (by simp) (wpAny_pure ⟨x,rfl,wpAny_pure (hQ _ ?_ (Heap.SameBut.update ..))⟩))
    exact ⟨_,Heap.get?_update_self _ ho (Obj.isFreed_of_fields (Obj.data_mapFields hd _)),(Obj.cls_mapFields ..).trans hc,by rw [Obj.data_mapFields hd];simp [rawInt]⟩
theorem qgV {b:Bool} {it a:Addr} {i:Nat} {its:Array Value} {Q:Value→Shared→Prop} (hh:A.handled=none) (hit:SqI b s.heap it a i) (hl:SqO b s.heap a its) (hx:its[i]?=none)
    (hE:∀ h' e,Heap.ExtBut it s.heap h'→(∃ o,h'.get? e=some o∧o.cls=.type "StopIteration")→E (.ref e) { s with heap:=h' }):wpAny (model prog w) A (Builtin.SmallTypes.nextOf (.ref it)) Q E s:=by
  cases b with
  | true=>exact wpAny_nextOf_list_end hh hit hl hx hE
  | false =>
    have hit:s.heap.IsTupleIter it a i:=hit
    obtain ⟨o,ho,hc,hd⟩:=id hit
    obtain ⟨ol,hol,_,nl,hdl⟩:=hl
    unfold Builtin.SmallTypes.nextOf
    refine wpAny_bind (wpAny_callSpecial?_slot (name:=Str.ofString "__next__") hit.typeIs F.slot_tuple_iterator_next (wpAny_call_entry F.slot_tuple_iterator_next hit.typeIs F.entry_tuple_iterator_next ?_ (F.args_tuple_iterator_next_1 _)))
    show wpAny _ _ (field (.ref it) 0 >>= _) _ _ s
    refine wpAny_bind (wpAny_field ho hd (x:=.ref a) rfl ?_)
    show wpAny _ _ (if (Value.ref a == Value.none)=true then _ else _) _ _ s
    rw [if_neg (show ¬ ((Value.ref a == Value.none)=true) from Bool.false_ne_true)]
    show wpAny _ _ (field (.ref it) 1 >>= _) _ _ s
    refine wpAny_bind (wpAny_field ho hd (x:=.int i 0) rfl ?_)
    show wpAny _ _ (seqItems? (.ref a) >>= _) _ _ s
    refine wpAny_bind (wpAny_seqItems hol hdl ?_)
    simp only [Int.toNat_natCast,hx]
    refine wpAny_bind (wpAny_rule (wpAny_bind (wpAny_setField ho hd (by simp) ?_)))
    show wpAny _ _ (newExc (.type "StopIteration") [] >>= _) _ _ _
    refine wpAny_bind ?_
    simp only [newExc,newTuple]
    refine wpAny_bind (wpAny_newObj_type ?_ (by size_fits))
    refine wpAny_bind (m:=firstArgMember _ _) (wpAny_of_eq (a:=Value.none) (by first | rfl | (simp only [firstArgMember];rfl)) ?_)
    refine wpAny_newObj_type ?_ (by size_fits)
    simp only [raiseNew]
    refine wpAny_bind (wpAny_handled ?_)
    first | rw [show A.in1.handled=none from hh] | rw [hh]
    refine wpAny_bind (wpAny_pure (wpAny_throw ?_))
    exact hE _ _ (((Heap.SameBut.update ..).extBut.push _).push _) ⟨_,Heap.get?_push_size _ rfl,rfl⟩
theorem qjJ (hh:A.handled=none) (b:Bool) (it a:Addr) (hne:a≠it) (its:Array Value):Draws prog w A it [it,a] its.size (fun i v=>its[i]?=some v) (fun i h=>SqI b h it a i∧SqO b h a its) where
  live:=fun _ _ st=>let ⟨o,e,_⟩:=st.1.obj;⟨o,e⟩
  frame:=fun _ _ _ st k=>⟨st.1.at fun o e=>k it (by simp) o e,st.2.at fun o e=>k a (by simp) o e⟩
  item:=fun i s Q E hi st hQ=>qe6 st.1 st.2 (x:=its[i]) (by simp [hi]) fun h' q sb=>hQ _ h' s.toks (by simp [hi]) ⟨q,st.2.at fun o e=>(sb.2 a hne).trans e⟩ sb
  done:=fun s Q E st hE=>qgV hh st.1 st.2 (by simp) hE
theorem qi0 (l:Addr) (items:Array Value) (n:Nat) (dct:Option Addr) (sl:Array (Option Value)) :
    Meets (Builtin.«enumerate.__new__» ⟨[.type "enumerate",.ref l],[]⟩) (fun _ R s=>s.heap.get? l=some { cls:=.type "tuple",dict:=dct,data:=.seq items n,slots:=sl } ∧
      R (.ok (.ret (.ref (s.heap.push (qck false l)).objs.size)))
        { s with heap:=(s.heap.push (qck false l)).push { cls:=.type "enumerate",data:=.fields #[.none,.bool false,.ref s.heap.objs.size,rawInt 0,.none,.none] } }) :=
  .of_wp fun prog w A R s h=>by
    obtain ⟨hp,g,d,tk,os⟩:=s;obtain ⟨hl,h⟩:=h
    have hsub:=sub_enumerate
    have hL:Heap.IsTuple (Shared.heap ⟨hp,g,d,tk,os⟩) l items:=⟨_,hl,rfl,n,rfl⟩
    wp_walk using wpAny_loadPart' hl
    refine wpAny_stack_any fun st=>wpAny_pure ?_
    split
    · rename_i c _ _ _ _ _
      cases (c == Value.type "enumerate")
      · (wp_walk using wpAny_loadPart' hl,wpAny_pyIter_tuple hL);exact ⟨_,rfl,h⟩
      · (wp_walk using wpAny_loadPart' hl,wpAny_pyIter_tuple hL);exact ⟨_,rfl,h⟩
    · (wp_walk using wpAny_loadPart' hl,wpAny_pyIter_tuple hL);exact ⟨_,rfl,h⟩
theorem qfw {b:Bool} {l:Addr} {items:Array Value} {Q:Value→Shared→Prop} (hL:SqO b s.heap l items)
    (h:∀ h',IsEnum h' (s.heap.objs.size+1) s.heap.objs.size 0 .none→SqI b h' s.heap.objs.size l 0→h'.objs.size=s.heap.objs.size+2→(∀ b o,s.heap.get? b=some o→h'.get? b=some o)→Q (.ref (s.heap.objs.size+1)) { s with heap:=h' }) :
    wpAny (model prog w) A (call (.type "enumerate") [.ref l]) Q E s:=by
  cases b with
  | true=>exact call_enumerate_list hL h
  | false =>
    obtain ⟨⟨c,dct,dt,sl⟩,hl,hc,n,hd⟩:=hL
    replace hc:c=.type "tuple":=hc
    replace hd:dt=.seq items n:=hd
    subst hc hd
    refine callType_new F.called_enumerate (by decide) (F.typeCall_enumerate_1 _) (F.newCall_enumerate_1 _) (fun obj=>F.args_object_init_2 obj _) F.entry_enumerate_new (qi0 l items n dct sl) ⟨hl,?_⟩
    have hz:(s.heap.push (qck false l)).objs.size=s.heap.objs.size+1:=Heap.size_push ..
    show _∧_
    rw [hz]
    have he:=Heap.get?_push_size (s.heap.push (qck false l)) (o:={ cls:=.type "enumerate",data:=.fields #[.none,.bool false,.ref s.heap.objs.size,rawInt 0,.none,.none] }) rfl
    rw [hz] at he
    have hi:(s.heap.push (qck false l)).get? s.heap.objs.size=some (qck false l):=Heap.get?_push_size _ rfl
    exact ⟨⟨_,he,rfl⟩,h _ he (qc5 (Heap.get?_push_of_some _ hi)) (by rw [Heap.size_push,hz]) fun b o x=>Heap.get?_push_of_some _ (Heap.get?_push_of_some _ x)⟩
theorem qkg {b:Bool} {e it a:Addr} {i:Nat} {j:Int} {its:Array Value} {old:Value} {Q:Option Value→Shared→Prop} (hh:A.handled=none) (he:IsEnum s.heap e it j old) (hit:SqI b s.heap it a i) (hl:SqO b s.heap a its) (hx:its[i]?=none)
    (hQ:∀ h',Heap.ExtBut it s.heap h'→Q none { s with heap:=h' }):wpAny (model prog w) A (pyNext (.ref e)) Q E s:=by
  have hT:s.TypeIs (.ref e) "enumerate":=⟨_,he,rfl⟩
  unfold pyNext
  refine wpAny_bind (wpAny_attempt (wpAny_callSpecial?_slot (name:=Str.ofString "__next__") hT F.slot_enumerate_next (wpAny_call_entry F.slot_enumerate_next hT F.entry_enumerate_next ?_ (F.args_enumerate_next_1 _))))
  show wpAny _ _ (field (.ref e) 2 >>= _) _ _ _
  refine wpAny_bind (wpAny_field he rfl (x:=.ref it) rfl (wpAny_bind (qgV hh hit hl hx fun h' x he' hx'=>?_)))
  obtain ⟨o,ho,hc⟩:=hx'
  exact wpAny_bind (wpAny_isInstance (T:="StopIteration") (b:=true) ⟨o,ho,hc⟩ isSubtype_stop (wpAny_pure (hQ _ he')))
end
def Ite (K:PySem.W.Frag) (b:Bool) (a:Addr):It :=
  ⟨fun i H=>∃ xs x,SqB K b H a xs∧xs[i]?=some x,fun i H x H'=>∃ t y,H t=none∧x=.ref t∧H'=upd H t (.tup [.int i,y])∧∀ xs,SqB K b H a xs→xs[i]?=some y,fun i H=>∃ xs,SqB K b H a xs∧xs.length≤i⟩
theorem qfQ {P:Program} {w:World} {K:PySem.W.Frag} {es:List Expr} {k:Nat} {pos:Pos} (b:Bool) (a e it:Addr) (hei:e≠it):Turn P w K (.Tuple es k pos) (Ite K b a) [e,it] e (fun i h=>(∃ old,IsEnum h e it i old)∧SqI b h it a i) where
  mem:=by simp
  obj:=fun i h st c hc=>by
    obtain ⟨⟨old,he⟩,hs⟩:=st
    rcases List.mem_cons.mp hc with rfl | hc
    · exact ⟨_,he,fun v z=>by have z':Data.fields _=Data.cell v:=z;cases z'⟩
    · rw [List.mem_singleton.mp hc];exact hs.obj
  keep:=fun i h h' st k=>by
    obtain ⟨⟨old,he⟩,hs⟩:=st
    exact ⟨⟨old,k e (by simp) _ he⟩,hs.at fun o q=>k it (by simp) o q⟩
  item:=by
    intro X hP hw hK hc i pins s σ H E I hf st hg
    subst hP hw hK
    obtain ⟨xs,x,hq,hx⟩:=hg
    obtain ⟨⟨old,he⟩,hs⟩:=st
    obtain ⟨its,rv,p,hz⟩:=I.sqb hq
    obtain ⟨u,hu,ru⟩:=rv.get hx
    have hne:a≠it:=fun z=>by
      subst z
      have h1:=p;have h2:=hs
      cases b <;> (obtain ⟨o1,e1,c1,_⟩:=h1;obtain ⟨o2,e2,c2,_⟩:=h2;rw [e1] at e2;cases e2;rw [c1] at c2;exact absurd c2 (by simp))
    have hne2:a≠e:=fun z=>by
      subst z
      have h1:=p
      cases b <;> (obtain ⟨o1,e1,c1,_⟩:=h1;rw [he] at e1;cases e1;exact absurd c1 (by simp))
    have hil:i<its.toArray.size:=by
      have:i<its.length:=(List.getElem?_eq_some_iff.mp hu).1
      simpa using this
    have hh:X.A.in1.handled=none:=I.ok.hd hc
    refine wpAny_pyNext_enum_itemD (qjJ hh b it a hne its.toArray) he ⟨hs,p⟩ hil hei (by simp [hei,Ne.symm hne2]) fun y h' tk hP' ho hst hT hsz hk=>?_
    have hy:y=u:=by
      have:its.toArray[i]?=some u:=by simpa using hu
      rw [this] at hP';exact (Option.some.inj hP').symm
    subst hy
    refine ⟨.ref s.heap.objs.size,rfl,wpAny_letOwnedTupleGo_enum ho fun h2 he2 hs2=>?_⟩
    have zn:H s.heap.objs.size=none:=I.fresh
    have I1:Inv X pins σ (upd H s.heap.objs.size (.tup [.int i,x])) { s with heap:=s.heap.push { cls:=.type "tuple",data:=.seq #[.int i tk,y] },toks:=tk } :=
      I.laid (fun c o q=>Heap.get?_push_of_some _ q) (Nat.le_refl _) ⟨by show 2≤sizeLine;decide,[.int i tk,y],.cons ⟨tk,rfl⟩ (.cons ru .nil),_,Heap.get?_push_size _ rfl,rfl,0,rfl⟩
    have lts:∀ c∈[e,it],c<s.heap.objs.size:=fun c hc=>by
      rcases List.mem_cons.mp hc with rfl | hc
      · exact Heap.lt_size he
      · rw [List.mem_singleton.mp hc];exact hs.lt
    have f1:∀ c∈[e,it],qe0 X pins (upd H s.heap.objs.size (.tup [.int i,x])) c:=fun c hc=>⟨by rw [qaA (Nat.ne_of_lt (lts c hc))];exact (hf c hc).1,(hf c hc).2⟩
    have I2:=I1.turnedL (h':=h2) (ch:=[e,it]) (t':=tk+1) (fun c o hc q=>?_) f1
    · refine ⟨.ref s.heap.objs.size,_,I2,rfl,⟨s.heap.objs.size,x,zn,rfl,rfl,fun ys hy=>by rw [I.sqb_inj hy hq];exact hx⟩,⟨⟨_,by simpa using he2⟩,hst.1.at fun o q=>(hs2.2 it (Ne.symm hei)).trans q⟩,fun c hc=>(f1 c hc).1⟩
    · have hce:c≠e:=fun z=>hc (by simp [z])
      have hci:c≠it:=fun z=>hc (by simp [z])
      refine (hs2.2 c hce).trans ?_
      rcases Heap.get?_push_cases q with ⟨z,z'⟩ | q'
      · subst z;subst z';exact hT
      · exact hk c o hce hci q'
  done:=by
    intro X hP hw hK hc i pins s σ H E I hf st hg
    subst hP hw hK
    obtain ⟨xs,hq,hx⟩:=hg
    obtain ⟨⟨old,he⟩,hs⟩:=st
    obtain ⟨its,rv,p,hz⟩:=I.sqb hq
    have hl:=rv.length
    refine qkg (I.ok.hd hc) he hs p (by simp;omega) fun h' eb=>⟨rfl,?_⟩
    exact I.turnedL (ch:=[e,it]) (t':=s.toks) (fun c o hc q=>eb c o (fun z=>hc (by simp [z])) q) hf
  self:=fun _ _ _ _ _ st h=>by obtain ⟨⟨old,he⟩,_⟩:=st;exact wpAny_pyIter_enum he h
end L2
namespace L2
open PySem PySem.Spec PyProof.Rows
open AutoSeq1 (wpAny_loadPart')
section
variable {X : Cx}
def qnF (K:PySem.W.Frag) (b:Bool) (ta:TA):TI:=fun σ H R=>ta σ H fun vs H1=>∃ a xs,vs=[.ref a]∧SqB K b H1 a xs∧R (Ite K b a) H1
theorem qlP (b:Bool) {a:Expr} {ta:TA} {p pos tp:Pos} {es:List Expr} {k:Nat} (hg:Gl X "enumerate") (hm:X.mg "enumerate"=none) (ha:PA X [a] ta) (hs:starEach [a] X.env=[(false,eval a X.env)]:=by rfl) :
    PI X (.Tuple es k tp) (.Call (.Name "enumerate" p) [a] [] pos) (qnF X.K b ta):=by
  intro pins s σ H R I h
  refine Call_ (qdy I hg hm boot_enumerate (PyProof.Rows.callWith_type1 (thn (ha pos pins s σ H _ I h) fun us s1 hq0=>?_) hs rfl))
  obtain ⟨vs,H1,I1,r1,q1⟩:=hq0
  obtain ⟨l,xs,e,hq,q⟩:=q1
  subst e
  cases r1 with
  | cons r rr =>
    cases rr
    cases r
    obtain ⟨its,rv,p,hz⟩:=I1.sqb hq
    refine qfw p fun h' he hi hsz hk=>wpAny_pyIter_enum he ?_
    have I2:Inv X pins σ H1 { s1 with heap:=h' }:=I1.kept (t':=s1.toks) hk
    have fr:∀ c,s1.heap.objs.size≤c→qe0 X pins H1 c:=fun c hc=>I1.fpOk hc (I1.hok.fresh hc)
    exact ⟨s1.heap.objs.size+1,[s1.heap.objs.size+1,s1.heap.objs.size],_,_,H1,rfl,I2,qfQ b l _ _ (Nat.succ_ne_self _),⟨⟨_,he⟩,hi⟩,fun c hc=>by
      rcases List.mem_cons.mp hc with rfl | hc
      · exact fr _ (Nat.le_succ _)
      · rw [List.mem_singleton.mp hc];exact fr _ (Nat.le_refl _),q⟩
end
structure ZAp (z TI TO i1 i2:Addr):Prop where
  a1:TI≠z
  a2:TO≠z
  a3:i1≠z
  a4:i2≠z
  a5:TI≠TO
  a6:TI≠i1
  a7:TI≠i2
  a8:TO≠i1
  a9:TO≠i2
  a0:i1≠i2
theorem SqI.but {b:Bool} {h h':Heap} {it a c:Addr} {i:Nat} (x:SqI b h it a i) (s:Heap.SameBut c h h') (n:it≠c):SqI b h' it a i:=x.at fun o e=>(s.2 it n).trans e
theorem SqO.but {b:Bool} {h h':Heap} {a c:Addr} {its:Array Value} (x:SqO b h a its) (s:Heap.SameBut c h h') (n:a≠c):SqO b h' a its:=x.at fun o e=>(s.2 a n).trans e
theorem SqO.ne {b:Bool} {h:Heap} {a c:Addr} {its:Array Value} {o:Obj} (x:SqO b h a its) (e:h.get? c=some o) (n1:o.cls≠.type "list") (n2:o.cls≠.type "tuple"):a≠c:=fun z=>by
  subst z
  cases b <;> (obtain ⟨o',e',c',_⟩:=x;rw [e] at e';cases e')
  · exact n2 c'
  · exact n1 c'
theorem SqO.ne_it {b b':Bool} {h:Heap} {a it l:Addr} {its:Array Value} {i:Nat} (x:SqO b h a its) (y:SqI b' h it l i):a≠it:=by
  cases b' <;> (obtain ⟨o,e,c,_⟩:=y;exact x.ne e (by rw [c];simp) (by rw [c];simp))
section
variable {prog : Program} {w : World} {A : Around} {E : Value → Shared → Prop} {s : Shared}
theorem qkh {b1 b2:Bool} {z TI TO i1 i2 l1 l2:Addr} {k1 k2:Nat} {xs ys:Array Value} {x y a b:Value} {Q:Value→Shared→Prop} (D:ZAp z TI TO i1 i2)
    (hz:IsZip s.heap z TI TO .none) (hTI:IsPair s.heap TI (.ref i1) (.ref i2)) (hTO:IsPair s.heap TO a b) (n1:l1≠TO) (n2:l2≠TO)
    (h1:SqI b1 s.heap i1 l1 k1) (h2:SqI b2 s.heap i2 l2 k2) (hl1:SqO b1 s.heap l1 xs) (hl2:SqO b2 s.heap l2 ys) (hx:xs[k1]?=some x) (hy:ys[k2]?=some y)
    (hQ:∀ h',IsZip h' z TI TO (rawInt s.heap.objs.size)→IsPair h' TO x y→SqI b1 h' i1 l1 (k1+1)→SqI b2 h' i2 l2 (k2+1)→IsPair h' s.heap.objs.size x y→h'.objs.size=s.heap.objs.size+1 →
      (∀ c o,c∉[z,TO,i1,i2]→s.heap.get? c=some o→h'.get? c=some o)→Q (.ref s.heap.objs.size) { s with heap:=h' }) :
    wpAny (model prog w) A (Builtin.«zip.__next__» ⟨[.ref z],[]⟩) (fun fin s'=>∃ v,fin=.done (.ret v)∧Q v s') E s:=by
  have l1z:l1≠z:=hl1.ne hz (by simp) (by simp)
  have l2z:l2≠z:=hl2.ne hz (by simp) (by simp)
  have l2i1:l2≠i1:=hl2.ne_it h1
  show wpAny _ _ (field (.ref z) 2 >>= _) _ _ _
  refine wpAny_bind (wpAny_field hz rfl (x:=.bool false) rfl ?_)
  show wpAny _ _ (field (.ref z) 3 >>= _) _ _ _
  refine wpAny_bind (wpAny_field hz rfl (x:=.ref TI) rfl (wpAny_bind (wpAny_seqItems hTI rfl ?_)))
  show wpAny _ _ (Builtin.SmallTypes.ownedTupleIsFree (.ref z) >>= _) _ _ _
  refine wpAny_bind ?_
  unfold Builtin.SmallTypes.ownedTupleIsFree
  refine wpAny_bind (wpAny_field hz rfl (x:=.none) rfl (wpAny_pure ?_))
  simp only [if_true]
  refine wpAny_bind (wpAny_rule (wpAny_bind (wpAny_field hz rfl (x:=.ref TO) rfl (wpAny_bind (wpAny_setField_rec hz (by simp) fun g1 z1 s1=>?_)))))
  replace z1:IsZip g1 z TI TO .ellipsis:=z1
  refine wpAny_bind ?_
  simp only [List.zipIdx_cons,List.zipIdx_nil,List.forIn_cons,List.forIn_nil]
  refine wpAny_bind (wpAny_bind (wpAny_onRaise ?_))
  show wpAny _ _ (Builtin.SmallTypes.nextOf (.ref i1) >>= _) _ _ _
  refine wpAny_bind (qe6 (h1.but s1 D.a3) (hl1.but s1 l1z) hx fun g2 p2 s2=>wpAny_pure ?_)
  have t2:IsPair g2 TO a b:=s2.extBut _ _ D.a8 (s1.extBut _ _ D.a2 hTO)
  refine wpAny_bind (wpAny_seqItems t2 rfl (wpAny_bind (wpAny_updateSeq_pair t2 fun g3 t3 s3=>wpAny_bind (wpAny_letGo (wpAny_pure ?_)))))
  replace t3:IsPair g3 TO x b:=t3
  refine wpAny_bind (wpAny_bind (wpAny_onRaise ?_))
  show wpAny _ _ (Builtin.SmallTypes.nextOf (.ref i2) >>= _) _ _ _
  refine wpAny_bind (qe6 (((h2.but s1 D.a4).but s2 D.a0.symm).but s3 D.a9.symm) (((hl2.but s1 l2z).but s2 l2i1).but s3 n2) hy fun g4 p4 s4=>wpAny_pure ?_)
  have t4:IsPair g4 TO x b:=s4.extBut _ _ D.a9 t3
  refine wpAny_bind (wpAny_seqItems t4 rfl (wpAny_bind (wpAny_updateSeq_pair t4 fun g5 t5 s5=>wpAny_bind (wpAny_letGo (wpAny_pure (wpAny_pure ?_))))))
  replace t5:IsPair g5 TO x y:=t5
  refine wpAny_bind (wpAny_seqItems t5 rfl (wpAny_bind (wpAny_newTuple ?_)))
  have sz:g5.objs.size=s.heap.objs.size:=by rw [s5.1,s4.1,s3.1,s2.1,s1.1]
  have z5:IsZip g5 z TI TO .ellipsis:=s5.extBut _ _ D.a2.symm (s4.extBut _ _ D.a4.symm (s3.extBut _ _ D.a2.symm (s2.extBut _ _ D.a3.symm z1)))
  have k5:∀ c o,c∉[z,TO,i1,i2]→s.heap.get? c=some o→g5.get? c=some o:=fun c o hc e=>by
    have c1:c≠z:=fun q=>hc (by simp [q])
    have c2:c≠TO:=fun q=>hc (by simp [q])
    have c3:c≠i1:=fun q=>hc (by simp [q])
    have c4:c≠i2:=fun q=>hc (by simp [q])
    exact s5.extBut _ _ c2 (s4.extBut _ _ c4 (s3.extBut _ _ c2 (s2.extBut _ _ c3 (s1.extBut _ _ c1 e))))
  have q1:SqI b1 g5 i1 l1 (k1+1):=((p2.but s3 D.a8.symm).but s4 D.a0).but s5 D.a8.symm
  have q2:SqI b2 g5 i2 l2 (k2+1):=p4.but s5 D.a9.symm
  show wpAny _ _ (Builtin.SmallTypes.ownedTupleHandOut (.ref z) (.ref g5.objs.size) >>= _) _ _ _
  refine wpAny_bind ?_
  unfold Builtin.SmallTypes.ownedTupleHandOut
  have z6:IsZip (g5.push { cls:=.type "tuple",data:=.seq #[x,y] }) z TI TO .ellipsis:=Heap.get?_push_of_some _ z5
  refine wpAny_bind (wpAny_setField_rec z6 (by simp) fun g7 z7 s7=>?_)
  replace z7:IsZip g7 z TI TO (rawInt g5.objs.size):=z7
  refine wpAny_setField_rec z7 (by simp) fun g8 z8 s8=>?_
  replace z8:IsZip g8 z TI TO (rawInt g5.objs.size):=z8
  have up:∀ c o,c≠z→g5.get? c=some o→g8.get? c=some o:=fun c o c1 e=>s8.extBut _ _ c1 (s7.extBut _ _ c1 (Heap.get?_push_of_some _ e))
  have zl:g5.objs.size≠z:=Nat.ne_of_gt (Heap.lt_size z5)
  have t8:IsPair g8 g5.objs.size x y:=s8.extBut _ _ zl (s7.extBut _ _ zl (Heap.get?_push_size _ rfl))
  have e8:g8.objs.size=g5.objs.size+1:=by rw [s8.1,s7.1,Heap.size_push]
  rw [sz] at z8 t8 e8
  refine wpAny_pure ⟨_,rfl,?_⟩
  show Q (.ref g5.objs.size) _
  rw [sz]
  exact hQ g8 z8 (up _ _ D.a2 t5) (q1.at fun o e=>up _ o D.a3 e) (q2.at fun o e=>up _ o D.a4 e) t8 e8 fun c o hc e=>up c o (fun q=>hc (by simp [q])) (k5 c o hc e)
theorem qk0 {b1 b2:Bool} {z TI TO i1 i2 l1 l2:Addr} {k1 k2:Nat} {xs ys:Array Value} {a b:Value} {Q:Fin→Shared→Prop} (hh:A.handled=none) (D:ZAp z TI TO i1 i2)
    (hz:IsZip s.heap z TI TO .none) (hTI:IsPair s.heap TI (.ref i1) (.ref i2)) (hTO:IsPair s.heap TO a b) (n1:l1≠TO) (n2:l2≠TO)
    (h1:SqI b1 s.heap i1 l1 k1) (h2:SqI b2 s.heap i2 l2 k2) (hl1:SqO b1 s.heap l1 xs) (hl2:SqO b2 s.heap l2 ys) (hend:xs[k1]?=none∨ys[k2]?=none)
    (hE:∀ h' e,(∀ c o,c∉[z,TO,i1,i2]→s.heap.get? c=some o→h'.get? c=some o)→(∃ o,h'.get? e=some o∧o.cls=.type "StopIteration")→E (.ref e) { s with heap:=h' }) :
    wpAny (model prog w) A (Builtin.«zip.__next__» ⟨[.ref z],[]⟩) Q E s:=by
  have l1z:l1≠z:=hl1.ne hz (by simp) (by simp)
  have l2z:l2≠z:=hl2.ne hz (by simp) (by simp)
  have l2i1:l2≠i1:=hl2.ne_it h1
  show wpAny _ _ (field (.ref z) 2 >>= _) _ _ _
  refine wpAny_bind (wpAny_field hz rfl (x:=.bool false) rfl ?_)
  show wpAny _ _ (field (.ref z) 3 >>= _) _ _ _
  refine wpAny_bind (wpAny_field hz rfl (x:=.ref TI) rfl (wpAny_bind (wpAny_seqItems hTI rfl ?_)))
  show wpAny _ _ (Builtin.SmallTypes.ownedTupleIsFree (.ref z) >>= _) _ _ _
  refine wpAny_bind ?_
  unfold Builtin.SmallTypes.ownedTupleIsFree
  refine wpAny_bind (wpAny_field hz rfl (x:=.none) rfl (wpAny_pure ?_))
  simp only [if_true]
  refine wpAny_bind (wpAny_rule (wpAny_bind (wpAny_field hz rfl (x:=.ref TO) rfl (wpAny_bind (wpAny_setField_rec hz (by simp) fun g1 z1 s1=>?_)))))
  replace z1:IsZip g1 z TI TO .ellipsis:=z1
  refine wpAny_bind ?_
  simp only [List.zipIdx_cons,List.zipIdx_nil,List.forIn_cons,List.forIn_nil]
  refine wpAny_bind (wpAny_bind (wpAny_onRaise ?_))
  show wpAny _ _ (Builtin.SmallTypes.nextOf (.ref i1) >>= _) _ _ _
  cases hx:xs[k1]? with
  | none =>
    refine wpAny_bind (qgV hh (h1.but s1 D.a3) (hl1.but s1 l1z) hx fun g2 e s2 he=>?_)
    obtain ⟨oe,hoe,hce⟩:=he
    have z2:IsZip g2 z TI TO .ellipsis:=s2 _ _ D.a3.symm z1
    have ez:e≠z:=fun q=>by subst q;rw [z2] at hoe;cases hoe;simp at hce
    refine wpAny_setField_rec z2 (by simp) fun g3 _ s3=>hE g3 e (fun c o hc q=>?_) ⟨oe,s3.extBut _ _ ez hoe,hce⟩
    have c1:c≠z:=fun q=>hc (by simp [q])
    exact s3.extBut _ _ c1 (s2 _ _ (fun q=>hc (by simp [q])) (s1.extBut _ _ c1 q))
  | some x =>
    have hy:ys[k2]?=none:=by
      rcases hend with h | h
      · rw [hx] at h;cases h
      · exact h
    refine wpAny_bind (qe6 (h1.but s1 D.a3) (hl1.but s1 l1z) hx fun g2 p2 s2=>wpAny_pure ?_)
    have t2:IsPair g2 TO a b:=s2.extBut _ _ D.a8 (s1.extBut _ _ D.a2 hTO)
    refine wpAny_bind (wpAny_seqItems t2 rfl (wpAny_bind (wpAny_updateSeq_pair t2 fun g3 t3 s3=>wpAny_bind (wpAny_letGo (wpAny_pure ?_)))))
    refine wpAny_bind (wpAny_bind (wpAny_onRaise ?_))
    show wpAny _ _ (Builtin.SmallTypes.nextOf (.ref i2) >>= _) _ _ _
    refine wpAny_bind (qgV hh (((h2.but s1 D.a4).but s2 D.a0.symm).but s3 D.a9.symm) (((hl2.but s1 l2z).but s2 l2i1).but s3 n2) hy fun g4 e s4 he=>?_)
    obtain ⟨oe,hoe,hce⟩:=he
    have z4:IsZip g4 z TI TO .ellipsis:=s4 _ _ D.a4.symm (s3.extBut _ _ D.a2.symm (s2.extBut _ _ D.a3.symm z1))
    have ez:e≠z:=fun q=>by subst q;rw [z4] at hoe;cases hoe;simp at hce
    refine wpAny_setField_rec z4 (by simp) fun g5 _ s5=>hE g5 e (fun c o hc q=>?_) ⟨oe,s5.extBut _ _ ez hoe,hce⟩
    have c1:c≠z:=fun q=>hc (by simp [q])
    exact s5.extBut _ _ c1 (s4 _ _ (fun q=>hc (by simp [q])) (s3.extBut _ _ (fun q=>hc (by simp [q])) (s2.extBut _ _ (fun q=>hc (by simp [q])) (s1.extBut _ _ c1 q))))
theorem qkV (b1 b2:Bool) (l1 l2:Addr) (xs ys:Array Value) :
    Meets (Builtin.«zip.__new__» ⟨[.type "zip",.ref l1,.ref l2],[]⟩) (fun _ R s=>SqO b1 s.heap l1 xs∧SqO b2 s.heap l2 ys ∧
      R (.ok (.ret (.ref (s.heap.objs.size+4)))) { s with heap:=((((s.heap.push (qck b1 l1)).push (qck b2 l2)).push { cls:=.type "tuple",data:=.seq #[.ref s.heap.objs.size,.ref (s.heap.objs.size+1)] }).push { cls:=.type "tuple",data:=.seq #[.none,.none] }).push { cls:=.type "zip",data:=.fields #[.none,.bool false,.bool false,.ref (s.heap.objs.size+2),.ref (s.heap.objs.size+3)] } }) :=
  .of_wp fun prog w A R s h=>by
    obtain ⟨hp,g,d,tk,os⟩:=s;obtain ⟨hl1,hl2,h⟩:=h
    have hsub:=sub_zip
    have hL1:SqO b1 (Shared.heap ⟨hp,g,d,tk,os⟩) l1 xs:=hl1
    have hL2:SqO b2 (Shared.heap ⟨hp.push (qck b1 l1),g,d,tk,os⟩) l2 ys:=SqO.at hl2 fun o e=>Heap.get?_push_of_some _ e
    wp_walk using qec hL1,qec hL2
    have e1:(hp.push (qck b1 l1)).objs.size=hp.objs.size+1:=Heap.size_push ..
    have e2:((hp.push (qck b1 l1)).push (qck b2 l2)).objs.size=hp.objs.size+2:=by rw [Heap.size_push,e1]
    refine ⟨_,rfl,?_⟩
    simp only [Heap.size_push]
    exact h
theorem qhe {b1 b2:Bool} {l1 l2:Addr} {xs ys:Array Value} {Q:Value→Shared→Prop} (hl1:SqO b1 s.heap l1 xs) (hl2:SqO b2 s.heap l2 ys)
    (h:∀ h',IsZip h' (s.heap.objs.size+4) (s.heap.objs.size+2) (s.heap.objs.size+3) .none→IsPair h' (s.heap.objs.size+2) (.ref s.heap.objs.size) (.ref (s.heap.objs.size+1))→IsPair h' (s.heap.objs.size+3) .none .none →
      SqI b1 h' s.heap.objs.size l1 0→SqI b2 h' (s.heap.objs.size+1) l2 0→(∀ c o,s.heap.get? c=some o→h'.get? c=some o)→Q (.ref (s.heap.objs.size+4)) { s with heap:=h' }) :
    wpAny (model prog w) A (call (.type "zip") [.ref l1,.ref l2]) Q E s:=by
  refine callType_new F.called_zip (by decide) (F.typeCall_zip_2 _ _) (F.newCall_zip_2 _ _) (fun obj=>F.args_object_init_3 obj _ _) F.entry_zip_new (qkV b1 b2 l1 l2 xs ys) ⟨hl1,hl2,?_⟩
  have f1:(qck b1 l1).isFreed=false:=by cases b1 <;> rfl
  have f2:(qck b2 l2).isFreed=false:=by cases b2 <;> rfl
  have z1:(s.heap.push (qck b1 l1)).objs.size=s.heap.objs.size+1:=Heap.size_push ..
  have z2:((s.heap.push (qck b1 l1)).push (qck b2 l2)).objs.size=s.heap.objs.size+2:=by rw [Heap.size_push,z1]
  generalize hg2:(s.heap.push (qck b1 l1)).push (qck b2 l2)=g2 at z2 ⊢
  have e0:g2.get? s.heap.objs.size=some (qck b1 l1):=by rw [← hg2];exact Heap.get?_push_of_some _ (Heap.get?_push_size _ f1)
  have e1:g2.get? (s.heap.objs.size+1)=some (qck b2 l2):=by rw [← hg2,← z1];exact Heap.get?_push_size _ f2
  have k2:∀ c o,s.heap.get? c=some o→g2.get? c=some o:=fun c o q=>by rw [← hg2];exact Heap.get?_push_of_some _ (Heap.get?_push_of_some _ q)
  generalize hg3:g2.push { cls:=.type "tuple",data:=.seq #[.ref s.heap.objs.size,.ref (s.heap.objs.size+1)] }=g3
  have z3:g3.objs.size=s.heap.objs.size+3:=by rw [← hg3,Heap.size_push,z2]
  have e2:IsPair g3 (s.heap.objs.size+2) (.ref s.heap.objs.size) (.ref (s.heap.objs.size+1)):=by rw [← hg3,← z2];exact Heap.get?_push_size _ rfl
  have k3:∀ c o,g2.get? c=some o→g3.get? c=some o:=fun c o q=>by rw [← hg3];exact Heap.get?_push_of_some _ q
  generalize hg4:g3.push { cls:=.type "tuple",data:=.seq #[.none,.none] }=g4
  have z4:g4.objs.size=s.heap.objs.size+4:=by rw [← hg4,Heap.size_push,z3]
  have e3:IsPair g4 (s.heap.objs.size+3) .none .none:=by rw [← hg4,← z3];exact Heap.get?_push_size _ rfl
  have k4:∀ c o,g3.get? c=some o→g4.get? c=some o:=fun c o q=>by rw [← hg4];exact Heap.get?_push_of_some _ q
  generalize hg5:g4.push { cls:=.type "zip",data:=.fields #[.none,.bool false,.bool false,.ref (s.heap.objs.size+2),.ref (s.heap.objs.size+3)] }=g5
  have e4:IsZip g5 (s.heap.objs.size+4) (s.heap.objs.size+2) (s.heap.objs.size+3) .none:=by rw [← hg5,← z4];exact Heap.get?_push_size _ rfl
  have k5:∀ c o,g4.get? c=some o→g5.get? c=some o:=fun c o q=>by rw [← hg5];exact Heap.get?_push_of_some _ q
  show _∧_
  exact ⟨⟨_,e4,rfl⟩,h _ e4 (k5 _ _ (k4 _ _ e2)) (k5 _ _ e3) (qc5 (k5 _ _ (k4 _ _ (k3 _ _ e0)))) (qc5 (k5 _ _ (k4 _ _ (k3 _ _ e1)))) fun c o q=>k5 _ _ (k4 _ _ (k3 _ _ (k2 _ _ q)))⟩
theorem qh3 {b1 b2:Bool} {z TI TO i1 i2 l1 l2:Addr} {k1 k2:Nat} {xs ys:Array Value} {x y a b:Value} {Q:Option Value→Shared→Prop} (D:ZAp z TI TO i1 i2)
    (hz:IsZip s.heap z TI TO .none) (hTI:IsPair s.heap TI (.ref i1) (.ref i2)) (hTO:IsPair s.heap TO a b) (n1:l1≠TO) (n2:l2≠TO)
    (h1:SqI b1 s.heap i1 l1 k1) (h2:SqI b2 s.heap i2 l2 k2) (hl1:SqO b1 s.heap l1 xs) (hl2:SqO b2 s.heap l2 ys) (hx:xs[k1]?=some x) (hy:ys[k2]?=some y)
    (hQ:∀ h',IsZip h' z TI TO (rawInt s.heap.objs.size)→IsPair h' TO x y→SqI b1 h' i1 l1 (k1+1)→SqI b2 h' i2 l2 (k2+1)→IsPair h' s.heap.objs.size x y→h'.objs.size=s.heap.objs.size+1 →
      (∀ c o,c∉[z,TO,i1,i2]→s.heap.get? c=some o→h'.get? c=some o)→Q (some (.ref s.heap.objs.size)) { s with heap:=h' }):wpAny (model prog w) A (pyNext (.ref z)) Q E s:=by
  have hT:s.TypeIs (.ref z) "zip":=⟨_,hz,rfl⟩
  unfold pyNext
  exact wpAny_bind (wpAny_attempt (wpAny_callSpecial?_slot (name:=Str.ofString "__next__") hT F.slot_zip_next (wpAny_call_entry F.slot_zip_next hT F.entry_zip_next
    (qkh D hz hTI hTO n1 n2 h1 h2 hl1 hl2 hx hy fun h' c1 c2 c3 c4 c5 c6 c7=>wpAny_pure (hQ h' c1 c2 c3 c4 c5 c6 c7)) (F.args_zip_next_1 _))))
theorem qju {b1 b2:Bool} {z TI TO i1 i2 l1 l2:Addr} {k1 k2:Nat} {xs ys:Array Value} {a b:Value} {Q:Option Value→Shared→Prop} (hh:A.handled=none) (D:ZAp z TI TO i1 i2)
    (hz:IsZip s.heap z TI TO .none) (hTI:IsPair s.heap TI (.ref i1) (.ref i2)) (hTO:IsPair s.heap TO a b) (n1:l1≠TO) (n2:l2≠TO)
    (h1:SqI b1 s.heap i1 l1 k1) (h2:SqI b2 s.heap i2 l2 k2) (hl1:SqO b1 s.heap l1 xs) (hl2:SqO b2 s.heap l2 ys) (hend:xs[k1]?=none∨ys[k2]?=none)
    (hQ:∀ h',(∀ c o,c∉[z,TO,i1,i2]→s.heap.get? c=some o→h'.get? c=some o)→Q none { s with heap:=h' }):wpAny (model prog w) A (pyNext (.ref z)) Q E s:=by
  have hT:s.TypeIs (.ref z) "zip":=⟨_,hz,rfl⟩
  unfold pyNext
  refine wpAny_bind (wpAny_attempt (wpAny_callSpecial?_slot (name:=Str.ofString "__next__") hT F.slot_zip_next (wpAny_call_entry F.slot_zip_next hT F.entry_zip_next (qk0 hh D hz hTI hTO n1 n2 h1 h2 hl1 hl2 hend fun h' e hk he=>?_) (F.args_zip_next_1 _))))
  obtain ⟨o,ho,hc⟩:=he
  exact wpAny_bind (wpAny_isInstance (T:="StopIteration") (b:=true) ⟨o,ho,hc⟩ isSubtype_stop (wpAny_pure (hQ _ hk)))
end
theorem Inv.sqb_ne {X:Cx} {pins:List (Addr × Obj)} {σ:St} {H:Hp} {s:Shared} {b:Bool} {a c:Addr} {xs:List V} (I:Inv X pins σ H s) (h:SqB X.K b H a xs) (f:qe0 X pins H c):a≠c:=fun z=>by
  subst z
  have nk:∀ o,X.K.lookup a=some o→False:=fun o e=>by
    have e':=I.mod.kin a o e
    rcases f.2.2.2.1 with q | q
    · exact I.ok.noex a o e' q
    · exact absurd (Nat.lt_of_lt_of_le (Heap.lt_size e') (Nat.le_trans I.ok.bsz q)) (Nat.lt_irrefl _)
  cases b with
  | true =>
    rcases h with (h | ⟨o,h⟩) | ⟨o,_,_,h,_⟩
    · rw [f.1] at h;cases h
    · rw [f.1] at h;cases h
    · exact nk o h
  | false =>
    rcases h with (h | ⟨o,h⟩) | ⟨o,_,_,h,_⟩
    · rw [f.1] at h;cases h
    · rw [f.1] at h;cases h
    · exact nk o h
def Itz (K:PySem.W.Frag) (b1:Bool) (a1:Addr) (b2:Bool) (a2:Addr):It :=
  ⟨fun i H=>∃ xs ys x y,SqB K b1 H a1 xs∧SqB K b2 H a2 ys∧xs[i]?=some x∧ys[i]?=some y,
   fun i H v H'=>∃ t x y,H t=none∧v=.ref t∧H'=upd H t (.tup [x,y])∧(∀ xs,SqB K b1 H a1 xs→xs[i]?=some x)∧∀ ys,SqB K b2 H a2 ys→ys[i]?=some y,
   fun i H=>∃ xs ys,SqB K b1 H a1 xs∧SqB K b2 H a2 ys∧(xs.length≤i∨ys.length≤i)⟩
theorem qhb {P:Program} {w:World} {K:PySem.W.Frag} {es:List Expr} {k:Nat} {pos:Pos} (b1 b2:Bool) (a1 a2 z TI TO i1 i2:Addr) (D:ZAp z TI TO i1 i2) :
    Turn P w K (.Tuple es k pos) (Itz K b1 a1 b2 a2) [z,TI,TO,i1,i2] z (fun i h=>IsZip h z TI TO .none∧IsPair h TI (.ref i1) (.ref i2)∧(∃ a b,IsPair h TO a b)∧SqI b1 h i1 a1 i∧SqI b2 h i2 a2 i) where
  mem:=by simp
  obj:=fun i h st c hc=>by
    obtain ⟨h1,h2,⟨a,b,h3⟩,h4,h5⟩:=st
    simp only [List.mem_cons,List.not_mem_nil,or_false] at hc
    rcases hc with rfl | rfl | rfl | rfl | rfl
    · exact ⟨_,h1,fun v q=>by have q':Data.fields _=Data.cell v:=q;cases q'⟩
    · exact ⟨_,h2,fun v q=>by have q':Data.seq _ _=Data.cell v:=q;cases q'⟩
    · exact ⟨_,h3,fun v q=>by have q':Data.seq _ _=Data.cell v:=q;cases q'⟩
    · exact h4.obj
    · exact h5.obj
  keep:=fun i h h' st k=>by
    obtain ⟨h1,h2,⟨a,b,h3⟩,h4,h5⟩:=st
    exact ⟨k z (by simp) _ h1,k TI (by simp) _ h2,⟨a,b,k TO (by simp) _ h3⟩,h4.at fun o q=>k i1 (by simp) o q,h5.at fun o q=>k i2 (by simp) o q⟩
  item:=by
    intro X hP hw hK hc i pins s σ H E I hf st hg
    subst hP hw hK
    obtain ⟨xs,ys,x,y,hq1,hq2,hx,hy⟩:=hg
    obtain ⟨h1,h2,⟨a,b,h3⟩,h4,h5⟩:=st
    obtain ⟨its1,rv1,p1,_⟩:=I.sqb hq1
    obtain ⟨its2,rv2,p2,_⟩:=I.sqb hq2
    obtain ⟨u,hu,ru⟩:=rv1.get hx
    obtain ⟨v,hv,rv⟩:=rv2.get hy
    refine qh3 D h1 h2 h3 (I.sqb_ne hq1 (hf TO (by simp))) (I.sqb_ne hq2 (hf TO (by simp))) h4 h5 p1 p2 (x:=u) (y:=v) (by simpa using hu) (by simpa using hv) fun h' z1 z2 z3 z4 z5 z6 hk=>?_
    refine ⟨.ref s.heap.objs.size,rfl,wpAny_letOwnedTupleGo_zip z1 fun g2 zz hs2=>?_⟩
    have zn:H s.heap.objs.size=none:=I.fresh
    have I1:Inv X pins σ (upd H s.heap.objs.size (.tup [x,y])) { s with heap:=s.heap.push { cls:=.type "tuple",data:=.seq #[u,v] },toks:=s.toks } :=
      I.laid (fun c o q=>Heap.get?_push_of_some _ q) (Nat.le_refl _) ⟨by show 2≤sizeLine;decide,[u,v],.cons ru (.cons rv .nil),_,Heap.get?_push_size _ rfl,rfl,0,rfl⟩
    have lts:∀ c∈[z,TI,TO,i1,i2],c<s.heap.objs.size:=fun c hc=>by
      simp only [List.mem_cons,List.not_mem_nil,or_false] at hc
      rcases hc with rfl | rfl | rfl | rfl | rfl
      · exact Heap.lt_size h1
      · exact Heap.lt_size h2
      · exact Heap.lt_size h3
      · exact h4.lt
      · exact h5.lt
    have f1:∀ c∈[z,TI,TO,i1,i2],qe0 X pins (upd H s.heap.objs.size (.tup [x,y])) c:=fun c hc=>⟨by rw [qaA (Nat.ne_of_lt (lts c hc))];exact (hf c hc).1,(hf c hc).2⟩
    have I2:=I1.turnedL (h':=g2) (ch:=[z,TI,TO,i1,i2]) (t':=s.toks) (fun c o hc q=>?_) f1
    · refine ⟨.ref s.heap.objs.size,_,I2,rfl,⟨s.heap.objs.size,x,y,zn,rfl,rfl,fun xs' hy'=>by rw [I.sqb_inj hy' hq1];exact hx,fun ys' hy'=>by rw [I.sqb_inj hy' hq2];exact hy⟩,
        ⟨zz,hs2.extBut _ _ D.a1 (hk TI _ (by simp [D.a1,D.a5,D.a6,D.a7]) h2),⟨_,_,hs2.extBut _ _ D.a2 z2⟩,z3.but hs2 D.a3,z4.but hs2 D.a4⟩,fun c hc=>(f1 c hc).1⟩
    · have hcz:c≠z:=fun e=>hc (by simp [e])
      refine (hs2.2 c hcz).trans ?_
      rcases Heap.get?_push_cases q with ⟨e,e'⟩ | q'
      · subst e;subst e';exact z5
      · exact hk c o (fun e=>hc (by
          simp only [List.mem_cons,List.not_mem_nil,or_false] at e ⊢
          rcases e with e | e | e | e
          · exact .inl e
          · exact .inr (.inr (.inl e))
          · exact .inr (.inr (.inr (.inl e)))
          · exact .inr (.inr (.inr (.inr e))))) q'
  done:=by
    intro X hP hw hK hc i pins s σ H E I hf st hg
    subst hP hw hK
    obtain ⟨xs,ys,hq1,hq2,hend⟩:=hg
    obtain ⟨h1,h2,⟨a,b,h3⟩,h4,h5⟩:=st
    obtain ⟨its1,rv1,p1,_⟩:=I.sqb hq1
    obtain ⟨its2,rv2,p2,_⟩:=I.sqb hq2
    have l1:=rv1.length
    have l2:=rv2.length
    have he:its1.toArray[i]?=none∨its2.toArray[i]?=none:=by
      rcases hend with q | q
      · exact .inl (by simp;omega)
      · exact .inr (by simp;omega)
    refine qju (I.ok.hd hc) D h1 h2 h3 (I.sqb_ne hq1 (hf TO (by simp))) (I.sqb_ne hq2 (hf TO (by simp))) h4 h5 p1 p2 he fun h' hk=>⟨rfl,?_⟩
    refine I.turnedL (ch:=[z,TI,TO,i1,i2]) (t':=s.toks) (fun c o hc q=>hk c o (fun e=>hc ?_) q) hf
    simp only [List.mem_cons,List.not_mem_nil,or_false] at e ⊢
    rcases e with e | e | e | e
    · exact .inl e
    · exact .inr (.inr (.inl e))
    · exact .inr (.inr (.inr (.inl e)))
    · exact .inr (.inr (.inr (.inr e)))
  self:=fun _ _ _ _ _ st h=>wpAny_pyIter_zip st.1 h
theorem zap (n:Nat):ZAp (n+4) (n+2) (n+3) n (n+1) :=
  ⟨(by omega:n+2≠n+4),(by omega:n+3≠n+4),(by omega:n≠n+4),(by omega:n+1≠n+4),(by omega:n+2≠n+3),(by omega:n+2≠n),(by omega:n+2≠n+1),(by omega:n+3≠n),(by omega:n+3≠n+1),(by omega:n≠n+1)⟩
section
variable {X : Cx}
def qoR (K:PySem.W.Frag) (b1 b2:Bool) (ta:TA):TI:=fun σ H R=>ta σ H fun vs H1=>∃ a1 a2 xs ys,vs=[.ref a1,.ref a2]∧SqB K b1 H1 a1 xs∧SqB K b2 H1 a2 ys∧R (Itz K b1 a1 b2 a2) H1
theorem qmt (b1 b2:Bool) {a b:Expr} {ta:TA} {p pos tp:Pos} {es:List Expr} {k:Nat} (hg:Gl X "zip") (hm:X.mg "zip"=none) (ha:PA X [a,b] ta) (hs:starEach [a,b] X.env=[(false,eval a X.env),(false,eval b X.env)]:=by rfl) (hs2:starEach [b] X.env=[(false,eval b X.env)]:=by rfl) :
    PI X (.Tuple es k tp) (.Call (.Name "zip" p) [a,b] [] pos) (qoR X.K b1 b2 ta):=by
  intro pins s σ H R I h
  refine Call_ (qdy I hg hm boot_zip (PyProof.Rows.callWith_type1 (thn (ha pos pins s σ H _ I h) fun us s1 ⟨vs,H1,I1,r1,q1⟩=>?_) (by rw [hs,hs2]) (by rw [hs2];rfl)))
  obtain ⟨l1,l2,xs,ys,e,hq1,hq2,q⟩:=q1
  subst e
  cases r1 with
  | cons r rr =>
    cases rr with
    | cons r' rr =>
      cases rr
      cases r
      cases r'
      obtain ⟨its1,rv1,p1,_⟩:=I1.sqb hq1
      obtain ⟨its2,rv2,p2,_⟩:=I1.sqb hq2
      refine qhe p1 p2 fun h' z1 z2 z3 z4 z5 hk=>wpAny_pyIter_zip z1 ?_
      have I2:Inv X pins σ H1 { s1 with heap:=h' }:=I1.kept (t':=s1.toks) hk
      have fr:∀ c,s1.heap.objs.size≤c→qe0 X pins H1 c:=fun c hc=>I1.fpOk hc (I1.hok.fresh hc)
      generalize s1.heap.objs.size=n at *
      refine ⟨n+4,[n+4,n+2,n+3,n,n+1],_,_,H1,rfl,I2,qhb b1 b2 l1 l2 (n+4) (n+2) (n+3) n (n+1) (zap n),⟨z1,z2,⟨_,_,z3⟩,z4,z5⟩,fun c hc=>fr c ?_,q⟩
      simp only [List.mem_cons,List.not_mem_nil,or_false] at hc
      rcases hc with rfl | rfl | rfl | rfl | rfl
      · exact Nat.le_add_right _ _
      · exact Nat.le_add_right _ _
      · exact Nat.le_add_right _ _
      · exact Nat.le_refl _
      · exact Nat.le_add_right _ _
end
end L2
namespace L2
open PySem PySem.Spec PyProof.Rows
section
variable {X : Cx}
theorem qgy:OpR X (binaryOp .Mult) (rI IntMulOk fun i j=>.int (i*j)):=opI fun _ _ _ _ _ _ _ hc q=>mul_int q hc
def CDivB (i j:Int):Prop:=0<j∧j.natAbs.log2<9000
theorem qe3:OpR X (binaryOp .FloorDiv) (rI CDivB fun i j=>.int (i / j)):=opI fun i j _ _ _ _ _ hc q=>by
  have h1:(0:Int)<j:=hc.1
  exact floordiv_int (by omega) (by rw [Int.fdiv_eq_ediv_of_nonneg i (by omega)];exact q) (.inl (PyProof.noPylong_of_log2 hc.2))
end
theorem qeV {n k:Nat} (hk:0<k) (h:n<2 ^ k):n.log2<k:=by
  rcases Nat.eq_zero_or_pos n with z | z
  · subst z;simpa using hk
  · exact (Nat.log2_lt (Nat.ne_of_gt z)).mpr h
theorem CDivB.of {i j:Int} (h0:0<j) (h:j<2 ^ 9000):CDivB i j:=⟨h0,qeV (by decide) (by
  have e:(j.natAbs:Int)=j:=Int.natAbs_of_nonneg (Int.le_of_lt h0)
  have:(j.natAbs:Int)<((2 ^ 9000:Nat):Int):=by rw [e];exact_mod_cast h
  exact_mod_cast this)⟩
theorem qeH {a:Int} {k:Nat} (hk:0<k) (h:a.natAbs<2 ^ k):Builtin.Int.intBits a≤k:=by
  unfold Builtin.Int.intBits
  split
  · exact Nat.zero_le _
  · exact qeV hk h
theorem qdr {a b:Int} {m n:Nat} (hm:0<m) (hn:0<n) (ha:a.natAbs<2 ^ m) (hb:b.natAbs<2 ^ n) (h:m+n≤134217728):IntMulOk a b:=PyProof.Rows.mulOk_of_bits (qeH hm ha) (qeH hn hb) h
theorem qa5 {a b:Int} (h1:-(2 ^ 64)<a) (h2:a<2 ^ 64):IntMulOk a b:=.of_left (intBits_le_64 h1 h2)
theorem qcu {a b:Int} (h1:-(2 ^ 64)<b) (h2:b<2 ^ 64):IntMulOk a b:=.of_right (intBits_le_64 h1 h2)
section
variable {prog : Program} {w : World} {A : Around} {E : Value → Shared → Prop} {s : Shared}
theorem qf0 {it t:Addr} {items:Array Value} (hne:t≠it):∀ (n i:Nat) (s:Shared) (Q:List Value→Shared→Prop),s.heap.IsListIter it t i→s.heap.IsList t items→i+n≤items.size →
    (∀ h',h'.IsListIter it t (i+n)→Heap.SameBut it s.heap h'→Q ((items.toList.drop i).take n) { s with heap:=h' })→wpAny (model prog w) A (draw (.ref it) n) Q E s
  | 0,i,s,Q,hit,_,_,hQ=>by
    show wpAny _ _ (pure []) Q E s
    exact wpAny_pure (by simpa using hQ s.heap hit (Heap.SameBut.refl ..))
  | n+1,i,s,Q,hit,ht,hle,hQ=>by
    have hlt:i<items.size:=by omega
    show wpAny _ _ (pyNext (.ref it) >>= _) Q E s
    refine wpAny_bind (wpAny_pyNext_list_item hit ht (x:=items[i]) (by simp [hlt]) fun g1 hit1 s1=>?_)
    refine wpAny_bind (wpAny_holding (qf0 hne n (i+1) _ _ hit1 (ht.extBut s1.extBut hne) (by omega) fun g2 hit2 s2=>wpAny_pure ?_))
    have hd:items.toList.drop i=items[i]::items.toList.drop (i+1):=by simp [List.drop_eq_getElem_cons,hlt]
    have:=hQ g2 (by rw [show i+(n+1)=i+1+n by omega];exact hit2) (s1.trans s2)
    rw [hd,List.take_succ_cons] at this
    exact this
theorem qd2 {t:Addr} {items:Array Value} {Q:List Value→Shared→Prop} (hh:A.handled=none) (ht:s.heap.IsList t items)
    (hQ:∀ h',Heap.ExtBut s.heap.objs.size s.heap h'→Q items.toList { s with heap:=h' }):wpAny (model prog w) A (unpackItems (.ref t) items.size none) Q E s:=by
  have hlt:t≠s.heap.objs.size:=by obtain ⟨o,ho,_⟩:=ht;exact Nat.ne_of_lt (Heap.lt_size ho)
  unfold unpackItems
  refine wpAny_bind ?_
  unfold notIterableAtAll
  refine wpAny_bind (wpAny_specialOf ht.typeIs slot_list_iter.lookup (wpAny_pure ?_))
  simp only [Bool.false_eq_true,if_false]
  refine wpAny_bind (wpAny_holding (wpAny_pyIter_list ht (wpAny_bind (wpAny_holding (qf0 hlt items.size 0 _ _ ⟨_,Heap.get?_push_size _ rfl,rfl,rfl⟩ (ht.push _) (by omega) fun g1 hit1 s1=>?_)))))
  have hall:List.take items.size (List.drop 0 items.toList)=items.toList:=by
    rw [List.drop_zero];exact List.take_of_length_le (by simp)
  rw [hall,if_neg (by simp)]
  have ht1:g1.IsList t items:=(ht.push _).extBut s1.extBut hlt
  refine wpAny_bind (wpAny_holding (wpAny_pyNext_list_end hh hit1 ht1 (by simp) fun g2 e2=>?_))
  simp only [Option.isSome_none,Bool.false_eq_true,if_false]
  exact wpAny_pure (hQ g2 fun b o hb e=>e2 b o hb (s1.extBut b o hb (Heap.get?_push_of_some _ e)))
end
section
variable {X : Cx} {pos : Pos}
def qn4 (K:PySem.W.Frag) (n:Nat) (t:TGs):TG:=fun v σ H Q=>∃ a xs,v=.ref a∧SqL K H a xs∧xs.length=n∧t xs σ H Q
theorem ql4 {es:List Expr} {k:Nat} {t:TGs} {n:Nat} (hc:X.calm=true) (h:PGs X es t)
    (hn:(assignEach es X.env).length=n:=by rfl) (hst:(assignEach es X.env).findIdx? (·.1)=none:=by rfl):PG X (.Tuple es k pos) (qn4 X.K n t):=by
  intro pins s σ H v u Q I r hw
  obtain ⟨a,xs,e1,hq,hl,hw⟩:=hw
  subst e1
  cases r
  obtain ⟨its,rv,ht,hz⟩:=I.list hq
  rw [assign_Tuple]
  refine wpAny_bind (wpAny_standAt ?_)
  unfold unpack
  have e0:(assignEach es X.env).length=its.toArray.size:=by simp [hn,← hl,rv.length]
  rw [e0,hst]
  refine wpAny_bind (wpAny_holding (qd2 (I.ok.hd hc) ht.isList fun h' hx=>?_))
  have I1:Inv X pins σ H { s with heap:=h' }:=I.kept (t':=s.toks) fun b o e=>hx b o (Nat.ne_of_lt (Heap.lt_size e)) e
  exact h pins _ σ H xs _ Q I1 (by simpa using rv) hw
end
inductive IsiV (K:PySem.W.Frag) (H:Hp):V→String→Bool→Prop where
  | int_int (i):IsiV K H (.int i) "int" true
  | int_bool (i):IsiV K H (.int i) "bool" false
  | int_tuple (i):IsiV K H (.int i) "tuple" false
  | int_str (i):IsiV K H (.int i) "str" false
  | bl_int (b):IsiV K H (.bl b) "int" true
  | bl_bool (b):IsiV K H (.bl b) "bool" true
  | bl_tuple (b):IsiV K H (.bl b) "tuple" false
  | str_str (x):IsiV K H (.str x) "str" true
  | str_tuple (x):IsiV K H (.str x) "tuple" false
  | tup_tuple {a xs}:SqT K H a xs→IsiV K H (.ref a) "tuple" true
  | tup_int {a xs}:SqT K H a xs→IsiV K H (.ref a) "int" false
  | lst_tuple {a xs}:SqL K H a xs→IsiV K H (.ref a) "tuple" false
  | lst_list {a xs}:SqL K H a xs→IsiV K H (.ref a) "list" true
def qn8 (K:PySem.W.Frag):List V→Hp→VK→Prop:=fun vs H Q=>∃ x T b,vs=[x,.ty T]∧IsiV K H x T b∧Q (.bl b) H
theorem qoD {x y:V} {us:List Value} (r:Vals [x,y] us):∃ u v,us=[u,v]∧RelV x u∧RelV y v:=by
  cases r with
  | cons r rr =>
    cases rr with
    | cons r' rr=>cases rr;exact ⟨_,_,rfl,r,r'⟩
theorem qke {X:Cx}:qcv X (.builtin "isinstance") (qn8 X.K):=by
  intro pins s σ H xs us Q I r h
  obtain ⟨x,T,b,rfl,hi,q⟩:=h
  obtain ⟨u,v,rfl,ru,rv⟩:=qoD r
  have rv:v=.type T:=rv
  subst rv
  have fin:∀ (c:Bool) (t:Nat),Q (.bl c) H→EP X pins σ Q (.bool c) { s with toks:=t }:=fun c t q=>⟨.bl c,H,I.tok t,rfl,q⟩
  cases hi with
  | int_int i=>obtain ⟨t,rfl⟩:=ru;exact IsiPair.int_int (fin _ s.toks q)
  | int_bool i=>obtain ⟨t,rfl⟩:=ru;exact IsiPair.int_bool (fin _ _ q)
  | int_tuple i=>obtain ⟨t,rfl⟩:=ru;exact IsiPair.int_tuple (fin _ _ q)
  | int_str i=>obtain ⟨t,rfl⟩:=ru;exact IsiPair.int_str (fin _ _ q)
  | bl_int b=>cases ru;exact IsiPair.bool_int (fin _ s.toks q)
  | bl_bool b=>cases ru;exact IsiPair.bool_bool (fin _ s.toks q)
  | bl_tuple b=>cases ru;exact IsiPair.bool_tuple (fin _ _ q)
  | str_str x=>obtain ⟨t,rfl⟩:=ru;exact IsiPair.str_str (fin _ s.toks q)
  | str_tuple x=>obtain ⟨t,rfl⟩:=ru;exact IsiPair.str_tuple (fin _ _ q)
  | tup_tuple h =>
    cases ru
    obtain ⟨its,_,p,_⟩:=I.tuple h
    exact call_isinstance (isinstance_true (Tx:="tuple") F.isi_meta_tuple F.sub_tuple_tuple) ⟨p.typeIs,fin _ s.toks q⟩
  | tup_int h =>
    cases ru
    obtain ⟨its,_,⟨o,e,c,_⟩,_⟩:=I.tuple h
    exact call_isinstance (isinstance_false_tuple (by decide +kernel) F.isi_meta_int F.sub_tuple_int) ⟨⟨o,e,c⟩,fin _ _ q⟩
  | lst_tuple h =>
    cases ru
    obtain ⟨its,_,p,_⟩:=I.list h
    obtain ⟨o,e,c,_⟩:=p.isList
    exact call_isinstance (isinstance_false_list (by decide +kernel) F.isi_meta_tuple F.sub_list_tuple) ⟨⟨o,e,c⟩,fin _ _ q⟩
  | lst_list h =>
    cases ru
    obtain ⟨its,_,p,_⟩:=I.list h
    exact call_isinstance (isinstance_true (Tx:="list") F.isi_meta_list F.sub_list_list) ⟨p.isList.typeIs,fin _ s.toks q⟩
theorem qfs {prog:Program} {w:World} {A:Around} (hh:A.handled=none) (b:Bool) (it a:Addr) (hne:a≠it) (its:Array Value):Walks prog w A it [it,a] [it] its.size (fun i v=>its[i]?=some v) (fun i h=>SqI b h it a i∧SqO b h a its) where
  sub:=fun c hc=>by rw [List.mem_singleton.mp hc];simp
  frame:=fun _ _ _ st k=>⟨st.1.at fun o e=>k it (by simp) o e,st.2.at fun o e=>k a (by simp) o e⟩
  item:=fun i s Q E hi st hQ=>by
    cases b with
    | true=>exact wpAny_pyNext_list_item st.1 st.2 (x:=its[i]) (by simp [hi]) fun h' q sb=>hQ _ h' s.toks (by simp [hi]) ⟨q,SqO.at (b:=true) st.2 fun o e=>(sb.2 a hne).trans e⟩ fun c o hc e=>(sb.2 c fun z=>hc (by simp [z])).trans e
    | false=>exact wpAny_pyNext_tuple_item st.1 st.2 (x:=its[i]) (by simp [hi]) fun h' q sb=>hQ _ h' s.toks (by simp [hi]) ⟨q,SqO.at (b:=false) st.2 fun o e=>(sb.2 a hne).trans e⟩ fun c o hc e=>(sb.2 c fun z=>hc (by simp [z])).trans e
  done:=fun s Q E st hQ=>by
    cases b with
    | true=>exact wpAny_pyNext_list_end hh st.1 st.2 (by simp) fun h' eb=>hQ h' s.toks fun c o hc e=>eb c o (fun z=>hc (by simp [z])) e
    | false=>exact wpAny_pyNext_tuple_end hh st.1 st.2 (by simp) fun h' eb=>hQ h' s.toks fun c o hc e=>eb c o (fun z=>hc (by simp [z])) e
  self:=fun i s Q E st hQ=>by
    cases b with
    | true=>exact wpAny_pyIter_listiter st.1 hQ
    | false=>exact wpAny_pyIter_tupleiter st.1 hQ
theorem qnJ {x:V} {us:List Value} (r:Vals [x] us):∃ u,us=[u]∧RelV x u:=by
  cases r with
  | cons r rr=>cases rr;exact ⟨_,rfl,r⟩
theorem qee (val:Nat→Int) (ns:List Int) (h:∀ i n,ns[i]?=some n→val i=n):∀ k,k≤ns.length→preSum val k=(ns.take k).sum
  | 0,_=>by simp [preSum]
  | k+1,hk=>by
    have hlt:k<ns.length:=hk
    have e:=h k ns[k] (by simp [hlt])
    rw [preSum,qee val ns h k (Nat.le_of_lt hlt),e,List.take_succ_eq_append_getElem hlt,List.sum_append]
    simp
def qor (K:PySem.W.Frag) (b:Bool):List V→Hp→VK→Prop:=fun vs H Q=>∃ (a:Addr) (ns:List Int),vs=[.ref a]∧SqB K b H a (ns.map V.int)∧Q (.int ns.sum) H
theorem qjG (b:Bool) {X:Cx} (hc:X.calm=true):qcv X (.builtin "sum") (qor X.K b):=by
  intro pins s σ H xs us Q I r h
  obtain ⟨a,ns,rfl,hq,q⟩:=h
  obtain ⟨u,rfl,ru⟩:=qnJ r
  cases ru
  obtain ⟨its,rv,p,hz⟩:=I.sqb hq
  refine call_sum_walkAnyS (qec p ?_)
  have hne:a≠s.heap.objs.size:=Nat.ne_of_lt p.lt
  have W:=qfs (prog:=X.prog) (w:=X.w) (A:=X.A.in1) (I.ok.hd hc) b s.heap.objs.size a hne its.toArray
  have hv:∀ (i:Nat) (v:Value),its.toArray[i]?=some v→∃ t,v=.int (ns.getD i 0) t:=fun i v e=>by
    have e':its[i]?=some v:=by simpa using e
    have hi:i<ns.length:=by
      have:=(List.getElem?_eq_some_iff.mp e').1
      have:=rv.length
      rw [List.length_map] at this
      omega
    obtain ⟨v',h1,h2⟩:=rv.get (i:=i) (x:=V.int (ns.getD i 0)) (by simp [hi])
    rw [e'] at h1;cases h1
    exact h2
  have ln:its.toArray.size=ns.length:=by have:=rv.length;rw [List.length_map] at this;simp [this]
  refine ⟨s.heap.objs.size,[s.heap.objs.size,a],[s.heap.objs.size],_,its.toArray.size,_,_,fun i=>ns.getD i 0,rfl,W.toS,⟨qc5 (Heap.get?_push_size _ (by cases b <;> rfl)),p.at fun o e=>Heap.get?_push_of_some _ e⟩,fun c hcm=>?_,hv,fun s' t' hm=>?_⟩
  · rw [Heap.size_push]
    rcases List.mem_cons.mp hcm with rfl | hcm
    · exact Nat.lt_succ_self _
    · rw [List.mem_singleton.mp hcm];exact Nat.lt_succ_of_lt p.lt
  · obtain ⟨hh,hg,hd,ho,_⟩:=hm
    obtain ⟨h',g',d',tk',os'⟩:=s'
    have e1:g'=s.gens:=hg
    have e2:d'=s.drawn:=hd
    have e3:os'=s.os:=ho
    subst e1 e2 e3
    refine ⟨.int ns.sum,H,I.kept (h':=h') (t':=tk') fun c o e=>hh c o (fun z=>?_) (Heap.get?_push_of_some _ e),⟨t',?_⟩,q⟩
    · rw [List.mem_singleton.mp z] at e
      exact absurd (Heap.lt_size e) (Nat.lt_irrefl _)
    · rw [ln,qee (fun i=>ns.getD i 0) ns (fun i n e=>by
        show ns.getD i 0=n
        rw [List.getD_eq_getElem?_getD,e];rfl) ns.length (Nat.le_refl _),List.take_length]
def qna (K:PySem.W.Frag) (b:Bool) (f:List Bool→Bool):List V→Hp→VK→Prop:=fun vs H Q=>∃ (a:Addr) (bs:List Bool),vs=[.ref a]∧SqB K b H a (bs.map V.bl)∧Q (.bl (f bs)) H
theorem qeo {prog:Program} {w:World} {A:Around} {its:Array Value} {bs:List Bool} (rv:Vals (bs.map V.bl) its.toList):TruthOf prog w A (fun i v=>its[i]?=some v) (fun i=>bs.getD i false):=by
  intro i v s Q E e q
  have e':its.toList[i]?=some v:=by simpa using e
  have hi:i<bs.length:=by
    have:=(List.getElem?_eq_some_iff.mp e').1
    have:=rv.length
    rw [List.length_map] at this
    omega
  obtain ⟨v',h1,h2⟩:=rv.get (i:=i) (x:=V.bl (bs.getD i false)) (by simp [hi])
  rw [e'] at h1;cases h1
  have h2:v=.bool (bs.getD i false):=h2
  subst h2
  exact wpAny_truthy_bool q
theorem qjj (bs:List Bool):(List.range bs.length).all (fun i=>bs.getD i false)=bs.all id:=by
  rw [Bool.eq_iff_iff]
  simp only [List.all_eq_true,List.mem_range,id]
  constructor
  · intro h x hx
    obtain ⟨i,hi,rfl⟩:=List.mem_iff_getElem.mp hx
    have:=h i hi
    simpa [hi] using this
  · intro h i hi
    have:=h bs[i] (List.getElem_mem hi)
    simpa [hi] using this
theorem qjb (bs:List Bool):(List.range bs.length).any (fun i=>bs.getD i false)=bs.any id:=by
  rw [Bool.eq_iff_iff]
  simp only [List.any_eq_true,List.mem_range,id]
  constructor
  · rintro ⟨i,hi,h⟩
    exact ⟨bs[i],List.getElem_mem hi,by simpa [hi] using h⟩
  · rintro ⟨x,hx,h⟩
    obtain ⟨i,hi,rfl⟩:=List.mem_iff_getElem.mp hx
    exact ⟨i,hi,by simpa [hi] using h⟩
theorem qhl (b:Bool) {X:Cx} (hc:X.calm=true):qcv X (.builtin "all") (qna X.K b fun bs=>bs.all id):=by
  intro pins s σ H xs us Q I r h
  obtain ⟨a,bs,rfl,hq,q⟩:=h
  obtain ⟨u,rfl,ru⟩:=qnJ r
  cases ru
  obtain ⟨its,rv,p,hz⟩:=I.sqb hq
  have hne:a≠s.heap.objs.size:=Nat.ne_of_lt p.lt
  have ln:its.toArray.size=bs.length:=by have:=rv.length;rw [List.length_map] at this;simp [this]
  have W:=qfs (prog:=X.prog) (w:=X.w) (A:=X.A.in1) (I.ok.hd hc) b s.heap.objs.size a hne its.toArray
  refine call_all_walk (qec p ⟨s.heap.objs.size,[s.heap.objs.size,a],[s.heap.objs.size],its.toArray.size,_,_,fun i=>bs.getD i false,rfl,W,⟨qc5 (Heap.get?_push_size _ (by cases b <;> rfl)),p.at fun o e=>Heap.get?_push_of_some _ e⟩,qeo (by simpa using rv),fun h' tk hk=>?_⟩)
  rw [ln,qjj]
  refine ⟨.bl (bs.all id),H,I.kept (h':=h') (t':=tk) fun c o e=>hk c o (fun z=>?_) (Heap.get?_push_of_some _ e),rfl,q⟩
  rw [List.mem_singleton.mp z] at e
  exact absurd (Heap.lt_size e) (Nat.lt_irrefl _)
theorem qkb (b:Bool) {X:Cx} (hc:X.calm=true):qcv X (.builtin "any") (qna X.K b fun bs=>bs.any id):=by
  intro pins s σ H xs us Q I r h
  obtain ⟨a,bs,rfl,hq,q⟩:=h
  obtain ⟨u,rfl,ru⟩:=qnJ r
  cases ru
  obtain ⟨its,rv,p,hz⟩:=I.sqb hq
  have hne:a≠s.heap.objs.size:=Nat.ne_of_lt p.lt
  have ln:its.toArray.size=bs.length:=by have:=rv.length;rw [List.length_map] at this;simp [this]
  have W:=qfs (prog:=X.prog) (w:=X.w) (A:=X.A.in1) (I.ok.hd hc) b s.heap.objs.size a hne its.toArray
  refine call_any_walk (qec p ⟨s.heap.objs.size,[s.heap.objs.size,a],[s.heap.objs.size],its.toArray.size,_,_,fun i=>bs.getD i false,rfl,W,⟨qc5 (Heap.get?_push_size _ (by cases b <;> rfl)),p.at fun o e=>Heap.get?_push_of_some _ e⟩,qeo (by simpa using rv),fun h' tk hk=>?_⟩)
  rw [ln,qjb]
  refine ⟨.bl (bs.any id),H,I.kept (h':=h') (t':=tk) fun c o e=>hk c o (fun z=>?_) (Heap.get?_push_of_some _ e),rfl,q⟩
  rw [List.mem_singleton.mp z] at e
  exact absurd (Heap.lt_size e) (Nat.lt_irrefl _)
def qaY (N:List Str) (sc scope:Scope) (N':List Str) (cap:List (Option Nat)):Bool :=
  decide (scope.kind=.function) && scope.names.all (fun x=>decide (x.2=.cell→scope.names.lookup x.1=some .cell)) && scope.names.all (fun x=>decide (x.2=.local→scope.names.lookup x.1=some .local)) &&
    scope.names.all (fun x=>decide (x.2=.free→sc.names.lookup x.1=some .cell∧scope.names.lookup x.1=some .free)) && decide N'.Nodup && decide (cap.length=N'.length) &&
    (cap.zip N').all fun p=>match p.1 with | none=>true | some i=>decide (N[i]?=some p.2∧(p.2,NameKind.free)∈scope.names)
theorem CompScope.ok {N:List Str} {sc scope:Scope} {N':List Str} {cap:List (Option Nat)} (h:qaY N sc scope N' cap=true):CompScope N sc scope N' cap:=by
  unfold qaY at h
  simp only [Bool.and_eq_true,decide_eq_true_eq,List.all_eq_true] at h
  obtain ⟨⟨⟨⟨⟨⟨h1,h2⟩,h3⟩,h4⟩,h5⟩,h6⟩,h7⟩:=h
  refine ⟨h1,h2,h3,fun x hx hf=>(h4 x hx hf).1,fun x hx hf=>(h4 x hx hf).2,h5,h6,fun p hp i hi=>?_⟩
  have:=h7 p hp
  rw [hi] at this
  simpa using this
def qn7 (t u:TS):TS:=fun D σ H=>∃ R:St→Hp→Prop,t { D with nx:=R } σ H∧∀ σ' H',R σ' H'→u D σ' H'
theorem qb1 {X:Cx} {st:Stmt} {rest:List Stmt} {t u:TS} (h1:PS X st t) (h2:PSs X rest u):PSs X (st::rest) (qn7 t u):=by
  intro pins s σ H D I h
  obtain ⟨R,h,hr⟩:=h
  refine wpAny_execs_cons (thn (h1 pins s σ H _ I h) fun f s1 q=>?_)
  cases f with
  | next=>obtain ⟨σ1,H1,I1,q⟩:=q;exact h2 pins s1 σ1 H1 D I1 (hr _ _ q)
  | brk=>exact q
  | cont=>exact q
  | ret u=>exact q
abbrev qgH (J:It) (B:V→St→Hp→(St→Hp→Prop)→Prop) (End:St→Hp→Prop) (σ:St) (H:Hp):Prop :=
  ∃ W:Nat→Nat→St→Hp→Prop,(∃ m,W 0 m σ H)∧∀ i m σ H,W i m σ H→(J.stop i H∧End σ H)∨(J.go i H∧∃ N:St→Hp→Prop,(∀ σ' H',N σ' H'→∃ m',m'<m∧W (i+1) m' σ' H')∧∀ x H',J.yld i H x H'→B x σ H' N)
section
variable {K : PySem.W.Frag} {B : V → St → Hp → (St → Hp → Prop) → Prop} {End : St → Hp → Prop} {σ : St} {H : Hp}
theorem qey {b:Bool} {J:It} {xs:List V} (n:Nat) (Pv:Nat→St→Hp→Prop) (h0:Pv 0 σ H)
    (go:∀ i σ H,i<n→Pv i σ H→J.go i H∧∀ x H',J.yld i H x H'→B x σ H' (Pv (i+1))) (stop:∀ σ H,Pv n σ H→J.stop n H∧End σ H):qgH J B End σ H:=by
  refine ⟨fun i m σ H=>m=n - i∧i≤n∧Pv i σ H,⟨n,by simp,Nat.zero_le _,h0⟩,?_⟩
  rintro i m σ H ⟨rfl,hi,p⟩
  by_cases hlt:i<n
  · obtain ⟨g,y⟩:=go i σ H hlt p
    exact .inr ⟨g,Pv (i+1),fun σ' H' p'=>⟨n - (i+1),by omega,rfl,hlt,p'⟩,y⟩
  · have e:i=n:=by omega
    subst e
    exact .inl (stop σ H p)
theorem qmQ {a:Addr} {xs:List V} (Pv:Nat→St→Hp→Prop) (h0:Pv 0 σ H) (hl:∀ i σ H,i≤xs.length→Pv i σ H→SqT K H a xs) (hs:∀ i x σ H,xs[i]?=some x→Pv i σ H→B x σ H (Pv (i+1))) (hd:∀ σ H,Pv xs.length σ H→End σ H):qgH (Itt K a) B End σ H :=
  qey (b:=true) (xs:=xs) xs.length Pv h0 (fun i σ H hi p=>⟨⟨xs,xs[i],hl i σ H (Nat.le_of_lt hi) p,by simp [hi]⟩,fun x H' y=>by
    obtain ⟨e,y⟩:=y
    subst e
    exact hs i x σ _ (y xs (hl i σ _ (Nat.le_of_lt hi) p)) p⟩) fun σ H p=>⟨⟨xs,hl _ σ H (Nat.le_refl _) p,Nat.le_refl _⟩,hd σ H p⟩
theorem qlI {b:Bool} {a:Addr} {xs:List V} (Pv:Nat→St→Hp→Prop) (h0:Pv 0 σ H) (hl:∀ i σ H,i≤xs.length→Pv i σ H→SqB K b H a xs)
    (hs:∀ i x t σ H,xs[i]?=some x→Pv i σ H→H t=none→B (.ref t) σ (upd H t (.tup [.int i,x])) (Pv (i+1))) (hd:∀ σ H,Pv xs.length σ H→End σ H):qgH (Ite K b a) B End σ H :=
  qey (b:=true) (xs:=xs) xs.length Pv h0 (fun i σ H hi p=>⟨⟨xs,xs[i],hl i σ H (Nat.le_of_lt hi) p,by simp [hi]⟩,fun x H' y=>by
    obtain ⟨t,v,hn,e,e',y⟩:=y
    subst e e'
    exact hs i v t σ _ (y xs (hl i σ _ (Nat.le_of_lt hi) p)) p hn⟩) fun σ H p=>⟨⟨xs,hl _ σ H (Nat.le_refl _) p,Nat.le_refl _⟩,hd σ H p⟩
end
theorem qaz {H:Hp} {p:Addr} (h:H p=none) (o:HO):Same H (upd H p o):=fun b u q=>by rw [qaA (qaE q h)];exact q
theorem qfp {H H':Hp} {p:Addr} (s:Same H H') (h:H p=none) (o:HO):Same H (upd H' p o):=fun b u q=>by rw [qaA (qaE q h)];exact s b u q
theorem Same.sqt {K:PySem.W.Frag} {H H':Hp} {a:Addr} {xs:List V} (e:Same H H') (h:SqT K H a xs):SqT K H' a xs:=SqB.same (b:=false) e h
theorem qaR {n:Nat} (h:n≤1000):n≤sizeLine:=Nat.le_of_lt (qap h)
theorem dI {i j:Int} (h:(decide (V.int i=V.int j))=true):i=j:=by simpa using h
theorem dI' {i j:Int} (h:¬ (decide (V.int i=V.int j))=true):i≠j:=by simpa using h
theorem nI {i j:Int} (h:(!decide (V.int i=V.int j))=true):i≠j:=by simpa using h
theorem nI' {i j:Int} (h:¬ (!decide (V.int i=V.int j))=true):i=j:=by simpa using h
theorem dP {p:Prop} [Decidable p] (h:decide p=true):p:=of_decide_eq_true h
theorem dP' {p:Prop} [Decidable p] (h:¬ decide p=true):¬ p:=fun c=>h (decide_eq_true c)
theorem qgi {α:Type} {xs:List α} {i:Nat} {x:α} (h:xs[i]?=some x):xs.take (i+1)=xs.take i++[x]:=by
  obtain ⟨hi,e⟩:=List.getElem?_eq_some_iff.mp h
  rw [List.take_succ_eq_append_getElem hi,e]
theorem ql7 {α:Type} {f:α→V} {ns:List α} {i:Nat} {x:V} (h:(ns.map f)[i]?=some x):∃ k,x=f k∧ns[i]?=some k:=by
  rw [List.getElem?_map] at h
  cases e:ns[i]? with
  | none=>rw [e] at h;cases h
  | some k=>rw [e] at h;cases h;exact ⟨k,rfl,rfl⟩
theorem qgM {ns:List Int} {i:Nat} {x:V} (h:(ns.map V.int)[i]?=some x):∃ k,x=.int k∧ns[i]?=some k:=ql7 h
theorem qbe {α:Type} {xs:List α} {i:Nat} {x:α} (h:xs[i]?=some x):i<xs.length:=(List.getElem?_eq_some_iff.mp h).1
theorem qgX {α:Type} {xs:List α} {i:Nat} {x:α} {k:Int} (h:xs[i]?=some x) (e:k=(i:Int)):atI xs k=some x:=by
  subst e
  exact qlF h
def dot (es ns:List Int):Int:=(List.zipWith (·*·) es ns).sum
def qb7 {α:Type} (xs:List α) (lo hi:Option Int):List α:=(xs.drop (HT.sIx xs.length 0 lo)).take (HT.sIx xs.length xs.length hi - HT.sIx xs.length 0 lo)
theorem qe8 {α:Type} {xs:List α} {lo hi:Option Int} {x:α} (h:x∈qb7 xs lo hi):x∈xs:=List.mem_of_mem_drop (List.mem_of_mem_take h)
theorem qiW {α:Type} (xs:List α) (lo hi:Option Int):(qb7 xs lo hi).length≤xs.length:=by
  unfold qb7
  rw [List.length_take,List.length_drop]
  omega
inductive EqT (K:PySem.W.Frag) (H:Hp):Nat→V→V→Prop where
  | int {d:Nat} (i:Int):EqT K H d (.int i) (.int i)
  | bl {d:Nat} (b:Bool):EqT K H d (.bl b) (.bl b)
  | str {d:Nat} (x:Str):EqT K H d (.str x) (.str x)
  | non {d:Nat}:EqT K H d .non .non
  | sq {d:Nat} (q:Bool) {a b:Addr} {xs ys:List V}:SqB K q H a xs→SqB K q H b ys→xs.length=ys.length→(∀ (i:Nat) (x y:V),xs[i]?=some x→ys[i]?=some y→EqT K H d x y)→EqT K H (d+1) (.ref a) (.ref b)
theorem Vals.get' {xs:List V} {us:List Value} (r:Vals xs us) {j:Nat} (h:j<us.length):∃ x,xs[j]?=some x∧RelV x us[j]:=by
  have hl:=Vals.length r
  have hj:j<xs.length:=by omega
  obtain ⟨u,hu,ru⟩:=Vals.get (i:=j) (x:=xs[j]) r (by simp [hj])
  refine ⟨xs[j],by simp [hj],?_⟩
  rw [List.getElem?_eq_getElem h] at hu
  cases hu
  exact ru
section
variable {prog : Program} {w : World} {A : Around} {E : Value → Shared → Prop} {s : Shared}
theorem qlN {t b:Addr} {vs ws:List Value} {Q:Value→Shared→Prop} (ht:IsTup s.heap t vs.toArray) (hb:IsTup s.heap b ws.toArray) (hv:vs=[]) (h:Q (.ref b) s):wpAny (model prog w) A (binaryOp .Add (.ref t) (.ref b)) Q E s:=by
  obtain ⟨⟨cls,dd,data,sl⟩,ho,hc,n,hd⟩:=id ht
  obtain ⟨⟨cls2,dd2,data2,sl2⟩,ho2,hc2,n2,hd2⟩:=id hb
  simp only at hc hd hc2 hd2
  subst hc hd hc2 hd2
  exact concat_meets ⟨_,ho,rfl⟩ ⟨_,ho2,rfl⟩ noFill_tuple_add seq_tuple_add PySem.F.slot_tuple_add PySem.F.entry_tuple_add (PySem.F.args_tuple_add_2 _ _) (tuple_addW0 t b vs.toArray ws.toArray n n2 dd dd2 sl sl2 (by simp [hv])) ⟨ho,ho2,h⟩
end
def qmd (K:PySem.W.Frag):R2:=fun x y H Q=>∃ a b xs ys,x=.ref a∧y=.ref b∧SqT K H a xs∧SqT K H b ys∧xs.length+ys.length≤sizeLine∧∀ p H',Same H H'→SqT K H' p (xs++ys)→Q (.ref p) H'
theorem qlq {X:Cx}:OpR X (binaryOp .Add) (qmd X.K):=by
  intro pins s σ H x y v u Q I rx ry h
  obtain ⟨a,b,xs,ys,rfl,rfl,ha,hb,hz,q⟩:=h
  by_cases hx:xs=[]
  · subst hx
    cases rx
    cases ry
    obtain ⟨its,r1,p1,_⟩:=I.tuple ha
    obtain ⟨its2,r2,p2,_⟩:=I.tuple hb
    exact qlN p1 p2 (r1.nil_iff.mpr rfl) ⟨.ref b,H,I,rfl,q b H (Same.refl H) hb⟩
  · refine qlC pins s σ H _ _ v u Q I rx ry ⟨a,b,xs,ys,rfl,rfl,ha,hb,hx,hz,fun e=>?_,fun _ p hp=>q p _ (qaz hp _) (SqT.of qan)⟩
    subst e
    exact q a H (Same.refl H) (by rw [List.append_nil];exact ha)
theorem dot_le {A B:Nat}:∀ {es ns:List Int},(∀ x∈es,x.natAbs≤A)→(∀ y∈ns,y.natAbs≤B)→(dot es ns).natAbs≤es.length*(A*B)
  | [],_,_,_=>by simp [dot]
  | _::_,[],_,_=>by simp [dot]
  | x::es,y::ns,hx,hy=>by
    have ih:=dot_le (es:=es) (ns:=ns) (fun z hz=>hx z (List.mem_cons_of_mem _ hz)) (fun z hz=>hy z (List.mem_cons_of_mem _ hz))
    have e:dot (x::es) (y::ns)=x*y+dot es ns:=by simp [dot]
    have h1:(x*y).natAbs≤A*B:=by
      rw [Int.natAbs_mul]
      exact Nat.mul_le_mul (hx x List.mem_cons_self) (hy y List.mem_cons_self)
    have h2:=Int.natAbs_add_le (x*y) (dot es ns)
    rw [e,List.length_cons,Nat.add_mul]
    omega
theorem qcG {t u:TS} {D:Ends} {σ:St} {H:Hp} (h:t { D with nx:=fun σ' H'=>σ'=σ∧H'=H } σ H) (h2:u D σ H):qn7 t u D σ H:=⟨_,h,fun σ' H' q=>by
  obtain ⟨e,s⟩:=q
  subst e s
  exact h2⟩
theorem qja {g:Int} (hg:g≠0):∀ {es ns:List Int},(∀ x∈es,g∣x)→dot es ns=g*dot (es.map (· / g)) ns
  | [],_,_=>by simp [dot]
  | _::_,[],_=>by simp [dot]
  | x::es,y::ns,h=>by
    have ih:=qja hg (es:=es) (ns:=ns) fun z hz=>h z (List.mem_cons_of_mem _ hz)
    have e:∀ (x y:Int) (es ns:List Int),dot (x::es) (y::ns)=x*y+dot es ns:=fun x y es ns=>by simp [dot]
    obtain ⟨k,hk⟩:=h x List.mem_cons_self
    subst hk
    rw [List.map_cons,e,e,ih,Int.mul_ediv_cancel_left _ hg,Int.mul_add,Int.mul_assoc]
theorem qlD {b g m:Int} (hg:0<g):-(-b / g)≤m↔b≤g*m:=by
  have:=Int.le_ediv_iff_mul_le (a:=-m) (b:=-b) hg
  rw [Int.neg_mul,Int.mul_comm m g] at this
  omega
def TSame (K:PySem.W.Frag) (H H':Hp):Prop:=∀ b xs,SqT K H b xs→SqT K H' b xs
theorem TSame.trans {K:PySem.W.Frag} {H H1 H2:Hp} (a:TSame K H H1) (b:TSame K H1 H2):TSame K H H2:=fun c o h=>b c o (a c o h)
theorem Same.ts {K:PySem.W.Frag} {H H':Hp} (s:Same H H'):TSame K H H':=fun b xs h=>s.sqt h
theorem TSame.lst {K:PySem.W.Frag} {H:Hp} {D:Addr} {ys zs:List V} (h:H D=some (.lst ys)):TSame K H (upd H D (.lst zs)):=by
  rintro b xs ((q | ⟨o,q⟩) | q)
  · have:b≠D:=fun e=>by subst e;rw [h] at q;cases q
    exact .inl (.inl (by rw [qaA this];exact q))
  · have:b≠D:=fun e=>by subst e;rw [h] at q;cases q
    exact .inl (.inr ⟨o,by rw [qaA this];exact q⟩)
  · exact .inr q
structure Steady (J:It) (H:Hp) (n:Nat) (El:Nat→V→Hp→Prop):Prop where
  go:∀ i H',Same H H'→i<n→J.go i H'
  yl:∀ i H' x H2,Same H H'→i<n→J.yld i H' x H2→El i x H2∧Same H' H2
  stop:∀ H',Same H H'→J.stop n H'
theorem qhp {K:PySem.W.Frag} {H:Hp} {a:Addr} {xs:List V} (h:SqT K H a xs):Steady (Itt K a) H xs.length (fun i x _=>xs[i]?=some x) :=
  ⟨fun i H' s hi=>⟨xs,xs[i],s.sqt h,by simp [hi]⟩,fun i H' x H2 s hi y=>by
    obtain ⟨e,y⟩:=y
    subst e
    exact ⟨y xs (s.sqt h),Same.refl _⟩,fun H' s=>⟨xs,s.sqt h,Nat.le_refl _⟩⟩
theorem qhA {K:PySem.W.Frag} {H:Hp} {b1 b2:Bool} {a1 a2:Addr} {xs ys:List V} (h1:SqB K b1 H a1 xs) (h2:SqB K b2 H a2 ys) :
    Steady (Itz K b1 a1 b2 a2) H (min xs.length ys.length) (fun i v H2=>∃ t x y,v=.ref t∧H2 t=some (.tup [x,y])∧xs[i]?=some x∧ys[i]?=some y) :=
  ⟨fun i H' s hi=>by
    have i1:i<xs.length:=by omega
    have i2:i<ys.length:=by omega
    exact ⟨xs,ys,xs[i],ys[i],SqB.same s h1,SqB.same s h2,by simp [i1],by simp [i2]⟩,fun i H' x H2 s hi y=>by
    obtain ⟨t,u,v,hn,e,e',y1,y2⟩:=y
    subst e e'
    exact ⟨⟨t,u,v,rfl,qan,y1 xs (SqB.same s h1),y2 ys (SqB.same s h2)⟩,qaz hn _⟩,fun H' s=>⟨xs,ys,SqB.same s h1,SqB.same s h2,by omega⟩⟩
abbrev qnc (D:Addr) (N:St→Hp→Prop) (y:V) (σ:St) (H:Hp):Prop:=∃ ys,H D=some (.lst ys)∧ys.length<sizeLine∧N σ (upd H D (.lst (ys++[y])))
section
variable {J : It} {B : V → St → Hp → (St → Hp → Prop) → Prop} {End : St → Hp → Prop} {σ : St} {H : Hp} {D : Addr} {n : Nat} {El : Nat → V → Hp → Prop}
theorem qjX (K:PySem.W.Frag) (S:Steady J H n El) (hD:H D=none) (hn:n≤1000) (Sh:St→Prop) (h0:Sh σ) (Pr:Nat→V→Hp→Prop) (mono:∀ i y H1 H2,TSame K H1 H2→Pr i y H1→Pr i y H2)
    (hb:∀ i x σ H' N,i<n→El i x H'→Sh σ→Same H H'→(∀ y σ3 H5,Sh σ3→Same H' H5→Pr i y H5→qnc D N y σ3 H5)→B x σ H' N)
    (hd:∀ σ H' vs,Sh σ→Same H H'→H' D=some (.lst vs)→vs.length=n→(∀ i y,vs[i]?=some y→Pr i y H')→End σ H'):qgH J B End σ (upd H D (.lst [])):=by
  refine qey (b:=true) (xs:=[]) n (fun i σ H'=>∃ vs,Sh σ∧Same H H'∧H' D=some (.lst vs)∧vs.length=i∧∀ j y,vs[j]?=some y→Pr j y H') ⟨[],h0,qaz hD _,qan,rfl,fun j y h=>by simp at h⟩ ?_ ?_
  · rintro i σ H' hi ⟨vs,hsh,s,hv,hl,hp⟩
    refine ⟨S.go i H' s hi,fun x H2 y=>?_⟩
    obtain ⟨he,s2⟩:=S.yl i H' x H2 s hi y
    refine hb i x σ H2 _ hi he hsh (s.trans s2) fun y σ3 H5 hs3 s5 hy=>?_
    have hv5:=s5 _ _ (s2 _ _ hv)
    refine ⟨vs,hv5,qap (by omega),vs++[y],hs3,qfp ((s.trans s2).trans s5) hD _,qan,by rw [List.length_append,hl];rfl,fun j z hj=>?_⟩
    rcases Nat.lt_or_ge j vs.length with h | h
    · rw [List.getElem?_append_left h] at hj
      exact mono j z _ _ (((s2.trans s5).ts).trans (TSame.lst hv5)) (hp j z hj)
    · rw [List.getElem?_append_right h] at hj
      have hj0:j - vs.length=0:=by
        rcases Nat.eq_zero_or_pos (j - vs.length) with h | h
        · exact h
        · rw [List.getElem?_eq_none (by simp only [List.length_cons,List.length_nil];omega)] at hj;cases hj
      rw [hj0] at hj
      cases hj
      have:j=i:=by omega
      subst this
      exact mono _ _ _ _ (TSame.lst hv5) hy
  · rintro σ H' ⟨vs,hsh,s,hv,hl,hp⟩
    exact ⟨S.stop H' s,hd σ H' vs hsh s hv hl hp⟩
theorem qhg (K:PySem.W.Frag) (S:Steady J H n El) (hD:H D=none) (hn:n≤1000) (Sh:St→Prop) (h0:Sh σ) (ws:List V) (hw:ws.length=n)
    (hb:∀ i x σ H' N,i<n→El i x H'→Sh σ→Same H H'→(∀ y σ3 H5,Sh σ3→Same H' H5→ws[i]?=some y→qnc D N y σ3 H5)→B x σ H' N)
    (hd:∀ σ H',Sh σ→Same H H'→H' D=some (.lst ws)→End σ H'):qgH J B End σ (upd H D (.lst [])):=by
  refine qjX K S hD hn Sh h0 (fun i y _=>ws[i]?=some y) (fun _ _ _ _ _ h=>h) hb fun σ H' vs hs s hv hl hp=>hd σ H' hs s ?_
  have:vs=ws:=by
    refine List.ext_getElem? fun i=>?_
    rcases Nat.lt_or_ge i vs.length with h | h
    · have e:vs[i]?=some vs[i]:=by simp [h]
      rw [e,hp i _ e]
    · rw [List.getElem?_eq_none h,List.getElem?_eq_none (by omega)]
  rw [← this]
  exact hv
end
section
variable {K : PySem.W.Frag} {B : V → St → Hp → (St → Hp → Prop) → Prop} {End : St → Hp → Prop} {σ : St} {H : Hp} {D a : Addr}
theorem qhq {α:Type} {f:α→V} {xs:List α} {i:Nat} {x:α} (h:xs[i]?=some x):(xs.map f)[i]?=some (f x):=by rw [List.getElem?_map,h];rfl
theorem qdx {xs:List Int} (h:SqT K H a (xs.map V.int)) (hD:H D=none) (hn:xs.length≤1000) (Sh:St→Prop) (h0:Sh σ) (g:Int→V)
    (hb:∀ x σ H' N,x∈xs→Sh σ→Same H H'→(∀ σ3 H5,Sh σ3→Same H' H5→qnc D N (g x) σ3 H5)→B (.int x) σ H' N)
    (hd:∀ σ H',Sh σ→Same H H'→H' D=some (.lst (xs.map g))→End σ H'):qgH (Itt K a) B End σ (upd H D (.lst [])):=by
  have S:=qhp h
  rw [List.length_map] at S
  refine qhg K S hD hn Sh h0 (xs.map g) (List.length_map _) (fun i x σ H' N hi he hs s k=>?_) hd
  obtain ⟨y,rfl,hy⟩:=qgM he
  exact hb y σ H' N (List.mem_of_getElem? hy) hs s fun σ3 H5 h3 s5=>k _ σ3 H5 h3 s5 (qhq hy)
theorem qjI {b1 b2:Bool} {a1 a2:Addr} {xs ys:List Int} (h1:SqB K b1 H a1 (xs.map V.int)) (h2:SqB K b2 H a2 (ys.map V.int)) (hD:H D=none) (hn:xs.length≤1000) (Sh:St→Prop) (h0:Sh σ) (g:Int→Int→V)
    (hb:∀ t x y σ H' N,H' t=some (.tup [.int x,.int y])→x∈xs→y∈ys→Sh σ→Same H H'→(∀ σ3 H5,Sh σ3→Same H' H5→qnc D N (g x y) σ3 H5)→B (.ref t) σ H' N)
    (hd:∀ σ H',Sh σ→Same H H'→H' D=some (.lst (List.zipWith g xs ys))→End σ H'):qgH (Itz K b1 a1 b2 a2) B End σ (upd H D (.lst [])):=by
  have S:=qhA h1 h2
  rw [List.length_map,List.length_map] at S
  refine qhg K S hD (by omega) Sh h0 (List.zipWith g xs ys) (by rw [List.length_zipWith]) (fun i v σ H' N hi he hs s k=>?_) hd
  obtain ⟨t,x,y,rfl,ht,hx,hy⟩:=he
  obtain ⟨x,rfl,hx1⟩:=qgM hx
  obtain ⟨y,rfl,hy1⟩:=qgM hy
  refine hb t x y σ H' N ht (List.mem_of_getElem? hx1) (List.mem_of_getElem? hy1) hs s fun σ3 H5 h3 s5=>k _ σ3 H5 h3 s5 ?_
  rw [List.getElem?_zipWith,hx1,hy1]
theorem ql9 (f:Int→Int→Int) (xs ys:List Int):List.zipWith (fun x y=>V.int (f x y)) xs ys=(List.zipWith f xs ys).map V.int:=by rw [List.map_zipWith]
end
def Al2 {α:Type} (R:V→α→Prop) (vs:List V) (rs:List α):Prop:=vs.length=rs.length∧∀ (i:Nat) (v:V),vs[i]?=some v→∃ r,rs[i]?=some r∧R v r
section
variable {α : Type} {R R' : V → α → Prop} {vs ws : List V} {rs ss : List α}
theorem Al2.nil:Al2 R [] []:=⟨rfl,fun i v h=>by simp at h⟩
theorem Al2.imp (h:Al2 R vs rs) (f:∀ v r,R v r→R' v r):Al2 R' vs rs:=⟨h.1,fun i v hv=>let ⟨r,e,q⟩:=h.2 i v hv;⟨r,e,f v r q⟩⟩
theorem Al2.append (h:Al2 R vs rs) (h':Al2 R ws ss):Al2 R (vs++ws) (rs++ss):=by
  refine ⟨by rw [List.length_append,List.length_append,h.1,h'.1],fun i v hv=>?_⟩
  rcases Nat.lt_or_ge i vs.length with c | c
  · rw [List.getElem?_append_left c] at hv
    obtain ⟨r,e,q⟩:=h.2 i v hv
    exact ⟨r,by rw [List.getElem?_append_left (by rw [← h.1];exact c)];exact e,q⟩
  · rw [List.getElem?_append_right c] at hv
    obtain ⟨r,e,q⟩:=h'.2 _ v hv
    exact ⟨r,by rw [List.getElem?_append_right (by rw [← h.1];exact c),← h.1];exact e,q⟩
theorem Al2.one {v:V} {r:α} (h:R v r):Al2 R [v] [r]:=⟨rfl,fun i x hx=>by
  cases i with
  | zero=>cases hx;exact ⟨r,rfl,h⟩
  | succ i=>simp at hx⟩
theorem Al2.snoc {v:V} {r:α} (h:Al2 R vs rs) (q:R v r):Al2 R (vs++[v]) (rs++[r]):=h.append (.one q)
theorem Al2.at (h:Al2 R vs rs) {i:Nat} {r:α} (e:rs[i]?=some r):∃ v,vs[i]?=some v∧R v r:=by
  have hi:=qbe e
  have hv:i<vs.length:=by rw [h.1];exact hi
  obtain ⟨r',e',q⟩:=h.2 i vs[i] (by simp [hv])
  rw [e] at e'
  cases e'
  exact ⟨_,by simp [hv],q⟩
end
def IsR (K:PySem.W.Frag) (H:Hp) (v:V) (r:List Int × Int):Prop:=∃ x t,v=.ref x∧SqT K H x [.ref t,.int r.2]∧SqT K H t (r.1.map V.int)
theorem IsR.ts {K:PySem.W.Frag} {H H':Hp} {v:V} {r:List Int × Int} (s:TSame K H H') (h:IsR K H v r):IsR K H' v r:=by
  obtain ⟨x,t,e,h1,h2⟩:=h
  exact ⟨x,t,e,s _ _ h1,s _ _ h2⟩
abbrev Rows (K:PySem.W.Frag) (H:Hp) (vs:List V) (rs:List (List Int × Int)):Prop:=Al2 (IsR K H) vs rs
theorem Al2.ts {K:PySem.W.Frag} {H H':Hp} {vs:List V} {rs:List (List Int × Int)} (h:Rows K H vs rs) (s:TSame K H H'):Rows K H' vs rs:=h.imp fun _ _ q=>q.ts s
theorem qkR (k:Nat) (z:Int):(List.replicate k [V.int z]).flatten=(List.replicate k z).map V.int:=by
  induction k with
  | zero=>rfl
  | succ k ih=>rw [List.replicate_succ,List.flatten_cons,ih];rfl
abbrev Row:=List Int × Int
def IsP (K:PySem.W.Frag) (H:Hp) (v:V) (s:Int × Int):Prop:=∃ x,v=.ref x∧SqT K H x [.int s.1,.int s.2]
theorem IsP.ts {K:PySem.W.Frag} {H H':Hp} {v:V} {s:Int × Int} (t:TSame K H H') (h:IsP K H v s):IsP K H' v s:=by
  obtain ⟨x,e,h1⟩:=h
  exact ⟨x,e,t _ _ h1⟩
abbrev Shs (K:PySem.W.Frag) (H:Hp) (vs:List V) (ss:List (Int × Int)):Prop:=Al2 (IsP K H) vs ss
theorem Al2.pts {K:PySem.W.Frag} {H H':Hp} {vs:List V} {ss:List (Int × Int)} (h:Shs K H vs ss) (s:TSame K H H'):Shs K H' vs ss:=h.imp fun _ _ q=>q.ts s
def qbQ (rs:List Row) (k:Int):Row:=rs.getD k.toNat ([],0)
theorem qd4 {rs:List Row} {k:Int} (h0:0≤k) (h1:k<rs.length):rs[k.toNat]?=some (qbQ rs k):=by
  have h:k.toNat<rs.length:=by omega
  unfold qbQ
  rw [List.getD_eq_getElem?_getD,List.getElem?_eq_getElem h]
  rfl
theorem qbJ {rs:List Row} {k:Int} (h0:0≤k) (h1:k<rs.length):qbQ rs k∈rs:=List.mem_of_getElem? (qd4 h0 h1)
def okS (rs:List Row) (s:Int × Int):Prop:=(0≤s.1∧s.1<rs.length)∧0≤s.2
instance (rs:List Row) (s:Int × Int):Decidable (okS rs s):=by unfold okS;infer_instance
def qdQ (rs:List Row) (a:Row) (s:Int × Int):Row:=(List.zipWith (fun t e=>t+s.2*e) a.1 (qbQ rs s.1).1,a.2+s.2*(qbQ rs s.1).2)
def qcw (rs:List Row) (st:Option Row) (s:Int × Int):Option Row:=st.bind fun a=>if okS rs s then some (qdQ rs a s) else none
def qdH (rs:List Row) (shs:List (Int × Int)) (n:Nat):Option Row:=shs.foldl (qcw rs) (some (List.replicate n 0,0))
theorem qcX (rs:List Row):∀ shs:List (Int × Int),shs.foldl (qcw rs) none=none
  | []=>rfl
  | _::t=>qcX rs t
theorem qfK {rs:List Row} {shs:List (Int × Int)} {n i:Nat} {s:Int × Int} (h:shs[i]?=some s):qdH rs (shs.take (i+1)) n=qcw rs (qdH rs (shs.take i) n) s:=by
  unfold qdH
  rw [qgi h,List.foldl_append]
  rfl
theorem qbU {rs:List Row} {shs:List (Int × Int)} {n i:Nat} {s:Int × Int} (h:shs[i]?=some s) (hb:¬ okS rs s):qdH rs shs n=none:=by
  have e:shs=shs.take (i+1)++shs.drop (i+1):=(List.take_append_drop _ _).symm
  have:qdH rs (shs.take (i+1)) n=none:=by
    rw [qfK h]
    unfold qcw
    cases qdH rs (shs.take i) n with
    | none=>rfl
    | some a=>simp [hb]
  unfold qdH at this ⊢
  rw [e,List.foldl_append,this,qcX]
theorem qfl {rs:List Row} {shs:List (Int × Int)} {n i:Nat} {s:Int × Int} {a:Row} (h:shs[i]?=some s) (ha:qdH rs (shs.take i) n=some a) (hb:okS rs s):qdH rs (shs.take (i+1)) n=some (qdQ rs a s):=by
  rw [qfK h,ha]
  unfold qcw
  simp [hb]
theorem qff {rs:List Row} {n:Nat} (hr:∀ r∈rs,r.1.length=n) {shs:List (Int × Int)} {r:Row} (h:qdH rs shs n=some r):r.1.length=n:=by
  have key:∀ (shs:List (Int × Int)) (a:Row),a.1.length=n→∀ r,shs.foldl (qcw rs) (some a)=some r→r.1.length=n:=by
    intro shs
    induction shs with
    | nil=>intro a ha r h;cases h;exact ha
    | cons s t ih =>
      intro a ha r h
      rw [List.foldl_cons] at h
      by_cases c:okS rs s
      · have e:qcw rs (some a) s=some (qdQ rs a s):=by unfold qcw;simp [c]
        rw [e] at h
        refine ih _ ?_ r h
        unfold qdQ
        rw [List.length_zipWith,hr _ (qbJ c.1.1 c.1.2),ha]
        exact Nat.min_self n
      · have e:qcw rs (some a) s=none:=by unfold qcw;simp [c]
        rw [e,qcX] at h
        cases h
  exact key shs _ (by simp) r h
theorem qlj {rs:List Row} {n W E:Nat} {shs:List (Int × Int)} {r:Row} (h:qdH rs shs n=some r) (hr:∀ r∈rs,(∀ x∈r.1,x.natAbs≤E)∧r.2.natAbs≤E) (hw:∀ s∈shs,s.2.natAbs≤W) :
    (∀ x∈r.1,x.natAbs≤shs.length*(W*E))∧r.2.natAbs≤shs.length*(W*E):=by
  have key:∀ (shs:List (Int × Int)) (a:Row) (B:Nat),(∀ x∈a.1,x.natAbs≤B)→a.2.natAbs≤B→(∀ s∈shs,s.2.natAbs≤W)→∀ r,shs.foldl (qcw rs) (some a)=some r→(∀ x∈r.1,x.natAbs≤B+shs.length*(W*E))∧r.2.natAbs≤B+shs.length*(W*E):=by
    intro shs
    induction shs with
    | nil=>intro a B ha hb _ r h;cases h;exact ⟨fun x hx=>by have:=ha x hx;simp;omega,by simp;omega⟩
    | cons s t ih =>
      intro a B ha hb hw r h
      rw [List.foldl_cons] at h
      by_cases c:okS rs s
      · have e:qcw rs (some a) s=some (qdQ rs a s):=by unfold qcw;simp [c]
        rw [e] at h
        have hm:=hr _ (qbJ c.1.1 c.1.2)
        have hs:=hw s List.mem_cons_self
        have hmul:∀ x:Int,x.natAbs≤E→(s.2*x).natAbs≤W*E:=fun x hx=>by rw [Int.natAbs_mul];exact Nat.mul_le_mul hs hx
        have h1:∀ x∈(qdQ rs a s).1,x.natAbs≤B+W*E:=by
          intro x hx
          unfold qdQ at hx
          obtain ⟨i,hi⟩:=List.getElem?_of_mem hx
          rw [List.getElem?_zipWith] at hi
          cases h1:a.1[i]? with
          | none=>rw [h1] at hi;cases hi
          | some u =>
            cases h2:(qbQ rs s.1).1[i]? with
            | none=>rw [h1,h2] at hi;cases hi
            | some v =>
              rw [h1,h2] at hi
              cases hi
              have:=ha u (List.mem_of_getElem? h1)
              have:=hmul v (hm.1 v (List.mem_of_getElem? h2))
              have:=Int.natAbs_add_le u (s.2*v)
              omega
        have h2:(qdQ rs a s).2.natAbs≤B+W*E:=by
          have:=hmul _ hm.2
          have:=Int.natAbs_add_le a.2 (s.2*(qbQ rs s.1).2)
          unfold qdQ
          show (a.2+s.2*(qbQ rs s.1).2).natAbs≤_
          omega
        have:=ih _ (B+W*E) h1 h2 (fun x hx=>hw x (List.mem_cons_of_mem _ hx)) r h
        have e:B+(s::t).length*(W*E)=B+W*E+t.length*(W*E):=by rw [List.length_cons,Nat.add_mul];omega
        rw [e]
        exact this
      · have e:qcw rs (some a) s=none:=by unfold qcw;simp [c]
        rw [e,qcX] at h
        cases h
  have:=key shs (List.replicate n 0,0) 0 (fun x hx=>by rw [(List.mem_replicate.mp hx).2];decide) (by show (0:Int).natAbs≤0;decide) hw r h
  simpa using this
def qbo:List Row→Nat
  | []=>0
  | r::_=>r.1.length
theorem qeP {rs:List Row} {n:Nat} {shs:List (Int × Int)} (hr:∀ r∈rs,r.1.length=n) (hs:shs≠[]):qdH rs shs (qbo rs)=qdH rs shs n:=by
  cases rs with
  | cons r t=>rw [show qbo (r::t)=n from hr r List.mem_cons_self]
  | nil =>
    cases shs with
    | nil=>exact absurd rfl hs
    | cons s t =>
      have hb:¬ okS [] s:=fun c=>by have:=c.1;simp at this;omega
      rw [qbU (i:=0) (s:=s) rfl hb,qbU (i:=0) (s:=s) rfl hb]
def qcr (rs:List Row) (shs:List (Int × Int)) (d:Int) (n:Nat):Option Row :=
  if shs.length=0∨d<1 then none else (qdH rs shs n).bind fun a=>if a.1.any (fun e=>decide (e % d≠0))=true then none else some (a.1.map (· / d),-(-a.2 / d))
theorem qbF {α:Type} (xs:List α) (n:Nat):qb7 xs none (some (n:Int))=xs.take n:=by
  unfold qb7
  have e1:HT.sIx xs.length 0 none=0:=rfl
  have e2:HT.sIx xs.length xs.length (some (n:Int))=min n xs.length:=HT.sIx_nat _ _ _
  rw [e1,e2,List.drop_zero,Nat.sub_zero]
  rcases Nat.le_total n xs.length with h | h
  · rw [Nat.min_eq_left h]
  · rw [Nat.min_eq_right h,List.take_length,List.take_of_length_le h]
theorem qcp {α:Type} (xs:List α) (n:Nat):qb7 xs (some (n:Int)) none=xs.drop n:=by
  unfold qb7
  have e1:HT.sIx xs.length xs.length none=xs.length:=rfl
  have e2:HT.sIx xs.length 0 (some (n:Int))=min n xs.length:=HT.sIx_nat _ _ _
  rw [e1,e2]
  rcases Nat.le_total n xs.length with h | h
  · rw [Nat.min_eq_left h,List.take_of_length_le (by rw [List.length_drop];omega)]
  · rw [Nat.min_eq_right h,List.drop_length,List.drop_of_length_le h]
    simp
theorem qkE {α β γ:Type} {f:α→β→γ} {xs:List α} {ys:List β} {x:α} {y:β} (h:xs.length=ys.length):List.zipWith f (xs++[x]) (ys++[y])=List.zipWith f xs ys++[f x y]:=by
  rw [List.zipWith_append h]
  rfl
def qmU (K:PySem.W.Frag):V→V→Hp→VK→Prop:=fun x y H Q=>∃ p xs i j v,x=.ref p∧y=.int i∧SqL K H p xs∧i=((j:Nat):Int)∧xs[j]?=some v∧Q v H
theorem qjP {X:Cx}:qnM X (qmU X.K):=by
  intro pins s σ H o i ov iv Q I ro ri h
  obtain ⟨p,xs,i,j,v,rfl,rfl,hq,rfl,hv,q⟩:=h
  cases ro
  obtain ⟨t,rfl⟩:=ri
  obtain ⟨its,r,pl,hz⟩:=I.list hq
  obtain ⟨w,ew,rw'⟩:=r.get hv
  have hl:=r.length
  have hn:=qdR
  have hj:=qbe hv
  exact wpAny_getItem_list pl.isList (by omega) (by omega) (by rw [Int.toNat_natCast];simpa using ew) ⟨v,H,I,rw',q⟩
theorem qlh {α:Type} (xs:List α) (a b:Nat) (hb:b≤xs.length) (ha:a≤b):qb7 xs (some (a:Int)) (some (b:Int))=(xs.drop a).take (b - a):=by
  unfold qb7
  rw [HT.sIx_nat,HT.sIx_nat,Nat.min_eq_left hb,Nat.min_eq_left (Nat.le_trans ha hb)]
theorem qlM (xs:List V) (lo hi:Option Int):qkm xs lo hi=qb7 xs lo hi:=rfl
theorem qe1 {k:Nat} {zs:List Int} {z:Int} (h:z∈(List.replicate k zs).flatten):z∈zs:=by
  obtain ⟨l,hl,hz⟩:=List.mem_flatten.mp h
  rw [(List.mem_replicate.mp hl).2] at hz
  exact hz
section
variable {α : Type} {R : V → α → Prop} {vs : List V} {rs : List α}
theorem Al2.take (h:Al2 R vs rs) (k:Nat):Al2 R (vs.take k) (rs.take k):=by
  refine ⟨by rw [List.length_take,List.length_take,h.1],fun i v hv=>?_⟩
  rw [List.getElem?_take] at hv ⊢
  by_cases c:i<k
  · rw [if_pos c] at hv ⊢
    exact h.2 i v hv
  · rw [if_neg c] at hv;cases hv
end
theorem qiJ {n j:Nat} (h:j<n):ixN n (j:Int)=some j:=by
  unfold ixN
  rw [if_pos (by omega),if_pos (by omega),Int.toNat_natCast]
theorem qai {a0 a1 a2 a3} {rest:List Expr} {env:Env}:starEach (.BinOp a0 a1 a2 a3::rest) env=(false,eval (.BinOp a0 a1 a2 a3) env)::starEach rest env:=rfl
theorem qbc {a0 a1 a2} {rest:List Expr} {env:Env}:starEach (.UnaryOp a0 a1 a2::rest) env=(false,eval (.UnaryOp a0 a1 a2) env)::starEach rest env:=rfl
theorem qal {a0 a1 a2 a3} {rest:List Expr} {env:Env}:starEach (.ListComp a0 a1 a2 a3::rest) env=(false,eval (.ListComp a0 a1 a2 a3) env)::starEach rest env:=rfl
theorem qb9 {a0 a1 a2 a3} {rest:List Expr} {env:Env}:starEach (.Compare a0 a1 a2 a3::rest) env=(false,eval (.Compare a0 a1 a2 a3) env)::starEach rest env:=rfl
theorem qax {a0 a1 a2 a3} {rest:List Expr} {env:Env}:starEach (.Call a0 a1 a2 a3::rest) env=(false,eval (.Call a0 a1 a2 a3) env)::starEach rest env:=rfl
theorem qad {a0 a1 a2} {rest:List Expr} {env:Env}:starEach (.Constant a0 a1 a2::rest) env=(false,eval (.Constant a0 a1 a2) env)::starEach rest env:=rfl
theorem qa6 {a0 a1 a2} {rest:List Expr} {env:Env}:starEach (.Attribute a0 a1 a2::rest) env=(false,eval (.Attribute a0 a1 a2) env)::starEach rest env:=rfl
theorem qac {a0 a1 a2} {rest:List Expr} {env:Env}:starEach (.Subscript a0 a1 a2::rest) env=(false,eval (.Subscript a0 a1 a2) env)::starEach rest env:=rfl
theorem qaa {a0 a1} {rest:List Expr} {env:Env}:starEach (.Name a0 a1::rest) env=(false,eval (.Name a0 a1) env)::starEach rest env:=rfl
theorem qd8 {a0 a1} {rest:List Expr} {env:Env}:starEach (.List a0 a1::rest) env=(false,eval (.List a0 a1) env)::starEach rest env:=rfl
theorem qar {a0 a1 a2} {rest:List Expr} {env:Env}:starEach (.Tuple a0 a1 a2::rest) env=(false,eval (.Tuple a0 a1 a2) env)::starEach rest env:=rfl
theorem qag {pos:Pos} {env:Env}:(backTo pos (starEach [] env)).any (·.1)=false:=rfl
theorem qaf {pos:Pos} {e:Expr} {es:List Expr} {env:Env} (h:starEach (e::es) env=(false,eval e env)::starEach es env) (hr:(backTo pos (starEach es env)).any (·.1)=false):(backTo pos (starEach (e::es) env)).any (·.1)=false:=by
  rw [h]
  exact hr
theorem qb4 {pos : Pos} {e : Expr} {env : Env} (h : starEach [e] env = (false, eval e env) :: starEach [] env) : ((backTo pos (starEach [e] env)).all (fun x => !x.1) && (backToKw pos (keywordEach [] env)).all (fun x => x.1.isSome)
      && decide ([e].length+([]:List Keyword).length+(if ([]:List Keyword).isEmpty then 0 else 1)<30))=true:=by
  rw [h]
  rfl
section
variable {X : Cx} {K : PySem.W.Frag}
theorem qin (h:X.K=K):qcv X (.builtin "isinstance") (qn8 K):=h ▸ qke
theorem qiU (b:Bool) (h:X.K=K) (hc:X.calm=true):qcv X (.builtin "all") (qna K b fun bs=>bs.all id):=h ▸ qhl b hc
theorem qi9 (b:Bool) (h:X.K=K) (hc:X.calm=true):qcv X (.builtin "any") (qna K b fun bs=>bs.any id):=h ▸ qkb b hc
theorem qlB {es:List Expr} {k:Nat} {pos:Pos} {t:TGs} {n:Nat} (h:X.K=K) (hp:PG X (.Tuple es k pos) (qnd X.K n t)):PG X (.Tuple es k pos) (qnd K n t):=h ▸ hp
def qmw (K:PySem.W.Frag) (b:Bool) (f:List Bool→Bool):List V→Hp→VK→Prop:=fun vs H Q=>∃ (a:Addr) (bs:List Bool) (r:Bool),vs=[.ref a]∧SqB K b H a (bs.map V.bl)∧f bs=r∧Q (.bl r) H
theorem qiH (b:Bool) (h:X.K=K) (hc:X.calm=true):qcv X (.builtin "all") (qmw K b fun bs=>bs.all id):=by
  intro pins s σ H xs us Q I r q
  obtain ⟨a,bs,rr,e,hq,rfl,q⟩:=q
  exact qiU b h hc pins s σ H xs us Q I r ⟨a,bs,e,hq,q⟩
theorem qi4 (b:Bool) (h:X.K=K) (hc:X.calm=true):qcv X (.builtin "any") (qmw K b fun bs=>bs.any id):=by
  intro pins s σ H xs us Q I r q
  obtain ⟨a,bs,rr,e,hq,rfl,q⟩:=q
  exact qi9 b h hc pins s σ H xs us Q I r ⟨a,bs,e,hq,q⟩
end
theorem qhP (w:Int):∀ {a r sp:List Int},a.length=r.length→dot (List.zipWith (fun t e=>t+w*e) a r) sp=dot a sp+w*dot r sp
  | [],[],_,_=>by simp [dot]
  | [],_::_,_,h=>by simp at h
  | _::_,[],_,h=>by simp at h
  | _::_,_::_,[],_=>by simp [dot]
  | x::a,y::r,z::sp,h=>by
    have ih:=qhP w (a:=a) (r:=r) (sp:=sp) (by simpa using h)
    have e:∀ (x y:Int) (es ns:List Int),dot (x::es) (y::ns)=x*y+dot es ns:=fun x y es ns=>by simp [dot]
    rw [List.zipWith_cons_cons,e,e,e,ih,Int.add_mul,Int.mul_add,Int.mul_assoc]
    omega
theorem qjW (n:Nat) (sp:List Int):dot (List.replicate n 0) sp=0:=by
  induction n generalizing sp with
  | zero=>simp [dot]
  | succ n ih =>
    cases sp with
    | nil=>simp [dot]
    | cons z sp =>
      have:=ih sp
      simp only [dot,List.replicate_succ,List.zipWith_cons_cons,List.sum_cons] at this ⊢
      omega
def Met (sp:List Int) (r:Row):Prop:=r.2≤dot r.1 sp
theorem qjE {rs:List Row} {n:Nat} {shs:List (Int × Int)} {sp:List Int} {r:Row} (hr:∀ r∈rs,r.1.length=n∧Met sp r) (h:qdH rs shs n=some r):Met sp r:=by
  have key:∀ (shs:List (Int × Int)) (a:Row),a.1.length=n→Met sp a→∀ r,shs.foldl (qcw rs) (some a)=some r→Met sp r:=by
    intro shs
    induction shs with
    | nil=>intro a _ ha r h;cases h;exact ha
    | cons s t ih =>
      intro a hl ha r h
      rw [List.foldl_cons] at h
      by_cases c:okS rs s
      · have e:qcw rs (some a) s=some (qdQ rs a s):=by unfold qcw;simp [c]
        rw [e] at h
        have hm:=hr _ (qbJ c.1.1 c.1.2)
        refine ih _ ?_ ?_ r h
        · unfold qdQ
          rw [List.length_zipWith,hm.1,hl]
          exact Nat.min_self n
        · unfold Met qdQ
          show a.2+s.2*(qbQ rs s.1).2≤dot (List.zipWith (fun t e=>t+s.2*e) a.1 (qbQ rs s.1).1) sp
          rw [qhP s.2 (hl.trans hm.1.symm)]
          have h1:s.2*(qbQ rs s.1).2≤s.2*dot (qbQ rs s.1).1 sp:=Int.mul_le_mul_of_nonneg_left hm.2 c.2
          have h2:a.2≤dot a.1 sp:=ha
          omega
      · have e:qcw rs (some a) s=none:=by unfold qcw;simp [c]
        rw [e,qcX] at h
        cases h
  refine key shs _ (by simp) ?_ r h
  unfold Met
  show (0:Int)≤dot (List.replicate n 0) sp
  rw [qjW]
  exact Int.le_refl 0
theorem qjc {rs:List Row} {n:Nat} {shs:List (Int × Int)} {sp:List Int} {d:Int} {r:Row} (hr:∀ r∈rs,r.1.length=n∧Met sp r) (h:qcr rs shs d n=some r):Met sp r∧r.1.length=n:=by
  unfold qcr at h
  split at h
  · cases h
  · rename_i hc
    cases hs:qdH rs shs n with
    | none=>rw [hs] at h;cases h
    | some a =>
      rw [hs,Option.bind_some] at h
      split at h
      · cases h
      · rename_i ha
        cases h
        have hd:0<d:=by omega
        have hm:a.2≤dot a.1 sp:=qjE hr hs
        have hdv:∀ x∈a.1,d∣x:=fun x hx=>by
          refine Int.dvd_of_emod_eq_zero (Classical.byContradiction fun c=>ha ?_)
          exact List.any_eq_true.mpr ⟨x,hx,decide_eq_true c⟩
        refine ⟨?_,by rw [List.length_map];exact qff (fun r hr'=>(hr r hr').1) hs⟩
        unfold Met
        show -(-a.2 / d)≤dot (a.1.map (· / d)) sp
        rw [qlD hd,← qja (by omega) hdv]
        exact hm
def But (L:List Addr) (H H':Hp):Prop:=∀ b o,H b=some o→b∉L→H' b=some o
theorem Same.but {H H':Hp} (s:Same H H') (L:List Addr):But L H H':=fun b o h _=>s b o h
theorem But.trans {L:List Addr} {H H1 H2:Hp} (a:But L H H1) (b:But L H1 H2):But L H H2:=fun c o h n=>b c o (a c o h n) n
theorem But.put {L:List Addr} {H H1:Hp} {p:Addr} (a:But L H H1) (h:p∈L) (o:HO):But L H (upd H1 p o):=fun c u e n=>by
  have z:c≠p:=fun z=>n (by rw [z];exact h)
  rw [qaA z]
  exact a c u e n
theorem But.new {L:List Addr} {H H1:Hp} {p:Addr} (a:But L H H1) (h:H1 p=none) (o:HO):But L H (upd H1 p o):=a.trans ((qaz h o).but L)
def IsW (K:PySem.W.Frag) (H:Hp) (v:V) (s:Nat × Row):Prop:=∃ x y,v=.ref x∧SqT K H x [.int (s.1:Int),y]∧IsR K H y s.2
theorem IsW.ts {K:PySem.W.Frag} {H H':Hp} {v:V} {s:Nat × Row} (t:TSame K H H') (h:IsW K H v s):IsW K H' v s:=by
  obtain ⟨x,y,e,h1,h2⟩:=h
  exact ⟨x,y,e,t _ _ h1,h2.ts t⟩
def qeB (st wt:Addr) (br:Int):List (Str × V):=qc2 "waiting" (.ref wt) (qc2 "breadth" (.int br) (qc2 "standing" (.ref st) []))
theorem qoG:¬ (("standing":Str)="waiting"):=by decide +kernel
theorem qoU:¬ (("standing":Str)="breadth"):=by decide +kernel
theorem qoQ:¬ (("breadth":Str)="waiting"):=by decide +kernel
theorem flS (st wt:Addr) (br:Int):(qeB st wt br).lookup ("standing":Str)=some (.ref st):=by
  unfold qeB
  rw [qba,if_neg qoG,qba,if_neg qoU,qba,if_pos rfl]
theorem flB (st wt:Addr) (br:Int):(qeB st wt br).lookup ("breadth":Str)=some (.int br):=by
  unfold qeB
  rw [qba,if_neg qoQ,qba,if_pos rfl]
theorem flW (st wt:Addr) (br:Int):(qeB st wt br).lookup ("waiting":Str)=some (.ref wt):=by
  unfold qeB
  rw [qba,if_pos rfl]
theorem flN (st wt:Addr) (br:Int) {m:Str} (h1:¬ m="waiting") (h2:¬ m="breadth") (h3:¬ m="standing"):(qeB st wt br).lookup m=none:=by
  unfold qeB
  rw [qba,if_neg h1,qba,if_neg h2,qba,if_neg h3]
  rfl
structure TxtSides (K:PySem.W.Frag) (mg:Str→Option Value) (C:Addr):Prop where
  cl:Cls K C
  nS:NoAttr K C "standing"
  nB:NoAttr K C "breadth"
  nW:NoAttr K C "waiting"
  mgC:mg "Sides"=some (.ref C)
structure SidesAt (C:Addr) (H:Hp) (p st wt:Addr) (br:Int) (svs wvs:List V):Prop where
  ob:∃ dx,H p=some (.ins C dx (qeB st wt br))
  sd:H st=some (.lst svs)
  wd:H wt=some (.lst wvs)
  ne:st≠wt
theorem SidesAt.nps {C:Addr} {H:Hp} {p st wt:Addr} {br:Int} {svs wvs:List V} (S:SidesAt C H p st wt br svs wvs):p≠st∧p≠wt:=by
  obtain ⟨⟨dx,h1⟩,h2,h3,_⟩:=S
  exact ⟨qmX h1 h2 (by intro z;cases z),qmX h1 h3 (by intro z;cases z)⟩
section
variable {X : Cx} {K : PySem.W.Frag}
theorem ql5:OpR X (compareOp .Is) (fun x y H Q=>∃ a b:Bool,x=.bl a∧y=.bl b∧Q (.bl (a == b)) H):=by
  intro pins s σ H x y v u Q I rx ry h
  obtain ⟨a,b,rfl,rfl,q⟩:=h
  cases rx
  cases ry
  exact wpAny_is_plain rfl (qa2 I q (by cases a <;> cases b <;> rfl))
theorem qlb:OpR X (compareOp .IsNot) (fun x y H Q=>∃ a b:Bool,x=.bl a∧y=.bl b∧Q (.bl (!(a == b))) H):=by
  intro pins s σ H x y v u Q I rx ry h
  obtain ⟨a,b,rfl,rfl,q⟩:=h
  cases rx
  cases ry
  exact wpAny_isNot_plain rfl (qa2 I q (by cases a <;> cases b <;> rfl))
end
end L2
namespace PySem
open Sem (wp)
open Builtin
open AutoSeq1 (wpAny_loadPart')
theorem qdO:fillsNumberSlot (.type "tuple") "mul"=pure false :=
  fillsNumberSlot_seq (id:="tuple.__mul__") (r:=some (.builtin "tuple.__rmul__")) F.slot_tuple_mul.lookup (by decide +kernel) F.slot_tuple_rmul.lookup (by decide +kernel)
theorem qfm:seqRepeat? (.type "tuple")=pure (some (.builtin "tuple.__mul__")):=by
  unfold seqRepeat?
  rw [seqSlot_of (T:="tuple") (name:="__mul__") (id:="tuple.__mul__") F.slot_tuple_mul.lookup (by decide +kernel),seqSlot_of (T:="tuple") (name:="__rmul__") (id:="tuple.__rmul__") F.slot_tuple_rmul.lookup (by decide +kernel)]
  rfl
theorem qef (a:Int) (t:Tok) (l:Addr) (items:Array Value) (n:Nat) (dd:Option Addr) (sl:Array (Option Value)) :
    Meets (Builtin.«int.__rmul__» ⟨[.int a t,.ref l],[]⟩) (fun _ R s=>s.heap.get? l=some { cls:=.type "tuple",dict:=dd,data:=.seq items n,slots:=sl }∧R (.ok (.ret Value.notImplemented)) s) :=
  .of_wp fun prog w A R s h=>by obtain ⟨hp,g,d,tk,os⟩:=s;obtain ⟨hl,h⟩:=h;wp_walk;exact ⟨_,rfl,h⟩
theorem qgq (l:Addr) (items:Array Value) (n:Nat) (dd:Option Addr) (sl:Array (Option Value)) (u:Tok) :
    Meets (Builtin.«tuple.__mul__» ⟨[.ref l,.int 1 u],[]⟩) (fun _ R s=>s.heap.get? l=some { cls:=.type "tuple",dict:=dd,data:=.seq items n,slots:=sl }∧R (.ok (.ret (Value.ref l))) s) :=
  .of_wp fun prog w A R s h=>by obtain ⟨hp,g,d,tk,os⟩:=s;obtain ⟨hl,h⟩:=h;have f1:=AutoSeq1.idx_int;have f2:=AutoSeq1.sub_tuple_tuple;wp_walk using wpAny_loadPart' hl;exact ⟨_,rfl,h⟩
theorem qgl (l:Addr) (items:Array Value) (n:Nat) (dd:Option Addr) (sl:Array (Option Value)) (k:Int) (u:Tok) (hc0:¬ (decide (k < -(2 ^ 63)) || decide (k≥2 ^ 63))=true) (hc1:¬ (items.isEmpty || k == 1)=true) (hc2:(decide (k≤0) || items.isEmpty)=true) :
    Meets (Builtin.«tuple.__mul__» ⟨[.ref l,.int k u],[]⟩) (fun _ R s=>s.heap.get? l=some { cls:=.type "tuple",dict:=dd,data:=.seq items n,slots:=sl }∧R (.ok (.ret (Value.ref s.heap.objs.size))) { s with heap:=s.heap.push { cls:=Value.type "tuple",data:=Data.seq #[] },toks:=s.toks }) :=
  .of_wp fun prog w A R s h=>by obtain ⟨hp,g,d,tk,os⟩:=s;obtain ⟨hl,h⟩:=h;have f1:=AutoSeq1.idx_int;have f2:=AutoSeq1.sub_tuple_tuple;wp_walk using wpAny_loadPart' hl;refine wpAny_ite_false (decide_eq_false hc0) ?_;wp_walk using wpAny_loadPart' hl;exact ⟨_,rfl,h⟩
theorem qgF (l:Addr) (items:Array Value) (n:Nat) (dd:Option Addr) (sl:Array (Option Value)) (k:Int) (u:Tok) (hc0:¬ (decide (k < -(2 ^ 63)) || decide (k≥2 ^ 63))=true) (hc1:¬ (items.isEmpty || k == 1)=true) (hc2:¬ (decide (k≤0) || items.isEmpty)=true) (hc3:¬ (items.size*k>(2 ^ 63 - 1) / 8)) (hc4:¬ Builtin.Tuple.tupleTooMany (items.size*k)=true) (hsz:(List.foldl (fun x1 x2=>x1++x2) #[] (List.replicate k.toNat items)).size≤sizeLine) :
    Meets (Builtin.«tuple.__mul__» ⟨[.ref l,.int k u],[]⟩) (fun _ R s=>s.heap.get? l=some { cls:=.type "tuple",dict:=dd,data:=.seq items n,slots:=sl }∧R (.ok (.ret (Value.ref s.heap.objs.size))) { s with heap:=s.heap.push { cls:=Value.type "tuple",data:=Data.seq (List.foldl (fun x1 x2=>x1++x2) #[] (List.replicate k.toNat items)) },toks:=s.toks }) :=
  .of_wp fun prog w A R s h=>by obtain ⟨hp,g,d,tk,os⟩:=s;obtain ⟨hl,h⟩:=h;have f1:=AutoSeq1.idx_int;have f2:=AutoSeq1.sub_tuple_tuple;wp_walk using wpAny_loadPart' hl;refine wpAny_ite_false (decide_eq_false hc0) ?_;wp_walk using wpAny_loadPart' hl;refine wpAny_ite_false (decide_eq_false hc3) ?_;wp_walk using wpAny_loadPart' hl;exact ⟨_,rfl,h⟩
end PySem
namespace L2
open PySem PySem.Spec PyProof.Rows
def qms (K:PySem.W.Frag):R2:=fun x y H Q=>∃ (a:Addr) (k:Int) (xs:List V),x=.ref a∧y=.int k∧SqT K H a xs∧xs≠[]∧0≤k∧k≤1000∧k.toNat*xs.length≤1000∧∀ p H',Same H H'→SqT K H' p (List.replicate k.toNat xs).flatten→Q (.ref p) H'
theorem qle {X:Cx}:OpR X (binaryOp .Mult) (qms X.K):=by
  intro pins s σ H x y v u Q I rx ry h
  obtain ⟨a,k,xs,rfl,rfl,ha,hx,h0,h1,hz,q⟩:=h
  cases rx
  obtain ⟨t,rfl⟩:=ry
  obtain ⟨its,r,p1,_⟩:=I.tuple ha
  have hne:its≠[]:=fun z=>hx (r.nil_iff.mp z)
  have hl:=r.length
  have hits:its.toArray.isEmpty=false:=by cases its with | nil=>exact absurd rfl hne | cons _ _=>rfl
  obtain ⟨⟨cls,dd,data,sl⟩,ho,hc,n,hd⟩:=id p1
  simp only at hc hd
  subst hc hd
  refine wpAny_binaryOp_repeat_ref (T:="tuple") (U:="int") (by decide) ⟨_,ho,rfl⟩ (fun s'=>typeIs_int s' k t) qdO F.fills_int_mul F.slot_int_rmul qfm F.slot_int_index.lookup
    (call_meets F.slot_int_rmul (typeIs_int s k t) F.entry_int_rmul (F.args_int_rmul_2 _ _) (qef k t a its.toArray n dd sl)
      ⟨ho,rfl,⟨_,ho,rfl⟩,?_⟩)
  have hnew:List.foldl (fun x1 x2=>x1++x2) #[] (List.replicate k.toNat its.toArray)=(List.replicate k.toNat its).flatten.toArray:=by
    have:=qet its k.toNat []
    rw [List.nil_append] at this
    exact this
  have hc0:¬ (decide (k < -(2 ^ 63)) || decide (k≥2 ^ 63))=true:=by
    rw [decide_eq_false (by omega),decide_eq_false (by omega)]
    exact Bool.false_ne_true
  by_cases c1:k=1
  · subst c1
    refine call_meets F.slot_tuple_mul ⟨_,ho,rfl⟩ F.entry_tuple_mul (F.args_tuple_mul_2 _ _) (qgq a its.toArray n dd sl t) ⟨ho,?_⟩
    refine ⟨.ref a,H,I,rfl,q a H (Same.refl H) ?_⟩
    show SqT X.K H a (List.replicate 1 xs).flatten
    rw [List.replicate_one,List.flatten_cons,List.flatten_nil,List.append_nil]
    exact ha
  · have hc1:¬ (its.toArray.isEmpty || k == 1)=true:=by
      rw [hits,beq_eq_false_iff_ne.mpr c1]
      exact Bool.false_ne_true
    have lay:∀ ys:List V,∀ us:List Value,ys.length≤sizeLine→Vals ys us→EP X pins σ Q (.ref s.heap.objs.size) { s with heap:=s.heap.push { cls:=Value.type "tuple",data:=Data.seq us.toArray },toks:=s.toks }∨¬ (∀ p H',Same H H'→SqT X.K H' p ys→Q (.ref p) H'):=fun ys us hzz rr=>by
      by_cases qq:∀ p H',Same H H'→SqT X.K H' p ys→Q (.ref p) H'
      · refine .inl ⟨.ref s.heap.objs.size,_,I.laid (t':=s.toks) (o:=.tup ys) (fun b ob z=>Heap.get?_push_of_some _ z) (Nat.le_refl _) ?_,rfl,qq _ _ (qaz (I.hok.fresh (Nat.le_refl _)) _) (SqT.of qan)⟩
        exact ⟨hzz,_,rr,IsTup.new _ _⟩
      · exact .inr qq
    by_cases c0:k=0
    · subst c0
      refine call_meets F.slot_tuple_mul ⟨_,ho,rfl⟩ F.entry_tuple_mul (F.args_tuple_mul_2 _ _) (qgl a its.toArray n dd sl 0 t hc0 hc1 rfl) ⟨ho,?_⟩
      rcases lay [] [] (Nat.zero_le _) .nil with z | z
      · exact z
      · exact absurd q z
    · have hc2:¬ (decide (k≤0) || its.toArray.isEmpty)=true:=by
        rw [hits,decide_eq_false (by omega)]
        exact Bool.false_ne_true
      have hlen:its.length*k.toNat≤1000:=by rw [← hl,Nat.mul_comm];exact hz
      have hlenI:(its.toArray.size:Int)*k≤1000:=by
        rw [List.size_toArray]
        have e:k=((k.toNat:Nat):Int):=by omega
        rw [e]
        exact_mod_cast hlen
      have hs:(1000:Int)≤((sizeLine:Nat):Int):=by exact_mod_cast qaR (Nat.le_refl 1000)
      have hflat:(List.replicate k.toNat its).flatten.length≤1000:=by rw [qgu,Nat.mul_comm];exact hlen
      refine call_meets F.slot_tuple_mul ⟨_,ho,rfl⟩ F.entry_tuple_mul (F.args_tuple_mul_2 _ _) (qgF a its.toArray n dd sl k t hc0 hc1 hc2 (by omega) (by unfold Builtin.Tuple.tupleTooMany;rw [decide_eq_false (by omega)];exact Bool.false_ne_true) (by rw [hnew,List.size_toArray];exact qaR hflat)) ⟨ho,?_⟩
      rw [hnew]
      rcases lay (List.replicate k.toNat xs).flatten (List.replicate k.toNat its).flatten (by rw [qgu];exact qaR hz) (r.rep k.toNat) with z | z
      · exact z
      · exact absurd q z
inductive D where
  | int (i:Int) | bl (b:Bool) | str (x:Str) | non | tup (xs:List D) | lst (xs:List D) | fzl (xs:List D) | obj (nm:Str) (fs:List (Str × D))
inductive Rp (K:PySem.W.Frag) (H:Hp):D→V→Prop where
  | int (i:Int):Rp K H (.int i) (.int i)
  | bl (b:Bool):Rp K H (.bl b) (.bl b)
  | str (x:Str):Rp K H (.str x) (.str x)
  | non:Rp K H .non .non
  | tup {a:Addr} {vs:List V} {ds:List D}:SqT K H a vs→vs.length=ds.length→(∀ (i:Nat) (v:V) (d:D),vs[i]?=some v→ds[i]?=some d→Rp K H d v)→Rp K H (.tup ds) (.ref a)
  | lst {a:Addr} {vs:List V} {ds:List D}:H a=some (.lst vs)→vs.length=ds.length→(∀ (i:Nat) (v:V) (d:D),vs[i]?=some v→ds[i]?=some d→Rp K H d v)→Rp K H (.lst ds) (.ref a)
  | fzl {a:Addr} {vs:List V} {ds:List D}:SqL K H a vs→vs.length=ds.length→(∀ (i:Nat) (v:V) (d:D),vs[i]?=some v→ds[i]?=some d→Rp K H d v)→Rp K H (.fzl ds) (.ref a)
  | obj {a C dx:Addr} {nm:Str} {vs:List (Str × V)} {fs:List (Str × D)}:PySem.W.nsIn K mainGlobals nm=some (some (.ref C))→H a=some (.ins C dx vs)→vs.map (·.1)=fs.map (·.1)→(∀ (i:Nat) (v:Str × V) (d:Str × D),vs[i]?=some v→fs[i]?=some d→Rp K H d.2 v.2)→Rp K H (.obj nm fs) (.ref a)
def RpL (K:PySem.W.Frag) (H:Hp) (ds:List D) (vs:List V):Prop:=vs.length=ds.length∧∀ (i:Nat) (v:V) (d:D),vs[i]?=some v→ds[i]?=some d→Rp K H d v
section
variable {K : PySem.W.Frag} {H H' Φ Φ' Φ1 H1 Φ2 H2 : Hp} {d : D} {v : V} {ds es : List D} {vs ws : List V}
theorem Rp.same (s:Same H H') (h:Rp K H d v):Rp K H' d v:=by
  induction h with
  | int i=>exact .int i
  | bl b=>exact .bl b
  | str x=>exact .str x
  | non=>exact .non
  | tup h1 h2 _ ih=>exact .tup (s.sqt h1) h2 ih
  | lst h1 h2 _ ih=>exact .lst (s _ _ h1) h2 ih
  | fzl h1 h2 _ ih=>exact .fzl (s.seq h1) h2 ih
  | obj h0 h1 h2 _ ih=>exact .obj h0 (s _ _ h1) h2 ih
theorem RpL.same (s:Same H H') (h:RpL K H ds vs):RpL K H' ds vs:=⟨h.1,fun i v d hv hd=>(h.2 i v d hv hd).same s⟩
theorem RpL.nil:RpL K H [] []:=⟨rfl,fun i v d hv _=>by simp at hv⟩
theorem RpL.cons (r:Rp K H d v) (h:RpL K H ds vs):RpL K H (d::ds) (v::vs):=⟨by simp [h.1],fun i u e hu he=>by
  cases i with
  | zero=>cases hu;cases he;exact r
  | succ i=>exact h.2 i u e hu he⟩
theorem RpL.append (h:RpL K H ds vs) (h':RpL K H es ws):RpL K H (ds++es) (vs++ws):=by
  refine ⟨by rw [List.length_append,List.length_append,h.1,h'.1],fun i u e hu he=>?_⟩
  rcases Nat.lt_or_ge i vs.length with c | c
  · rw [List.getElem?_append_left c] at hu
    rw [List.getElem?_append_left (by rw [← h.1];exact c)] at he
    exact h.2 i u e hu he
  · rw [List.getElem?_append_right c] at hu
    rw [List.getElem?_append_right (by rw [← h.1];exact c),← h.1] at he
    exact h'.2 _ u e hu he
theorem RpL.one (r:Rp K H d v):RpL K H [d] [v]:=.cons r .nil
theorem RpL.take (h:RpL K H ds vs) (k:Nat):RpL K H (ds.take k) (vs.take k):=⟨by rw [List.length_take,List.length_take,h.1],fun i u e hu he=>by
  rcases Nat.lt_or_ge i k with c | c
  · rw [List.getElem?_take_of_lt c] at hu he
    exact h.2 i u e hu he
  · rw [List.getElem?_take_eq_none c] at hu
    cases hu⟩
theorem RpL.drop (h:RpL K H ds vs) (k:Nat):RpL K H (ds.drop k) (vs.drop k):=⟨by rw [List.length_drop,List.length_drop,h.1],fun i u e hu he=>by
  rw [List.getElem?_drop] at hu he
  exact h.2 _ u e hu he⟩
theorem RpL.set (h:RpL K H ds vs) (r:Rp K H d v) (k:Nat):RpL K H (ds.set k d) (vs.set k v):=⟨by rw [List.length_set,List.length_set,h.1],fun i u e hu he=>by
  by_cases c:k=i
  · subst c
    have hk:k<vs.length:=by have:=qbe hu;rwa [List.length_set] at this
    rw [List.getElem?_set_self hk] at hu
    rw [List.getElem?_set_self (by rw [← h.1];exact hk)] at he
    cases hu;cases he
    exact r
  · rw [List.getElem?_set_ne c] at hu he
    exact h.2 i u e hu he⟩
theorem RpL.dropLast (h:RpL K H ds vs):RpL K H ds.dropLast vs.dropLast:=by
  rw [List.dropLast_eq_take,List.dropLast_eq_take,h.1]
  exact h.take _
theorem RpL.rep (h:RpL K H ds vs):∀ k:Nat,RpL K H (List.replicate k ds).flatten (List.replicate k vs).flatten
  | 0=>.nil
  | k+1=>by
    rw [List.replicate_succ,List.replicate_succ,List.flatten_cons,List.flatten_cons]
    exact h.append (RpL.rep h k)
theorem RpL.at (h:RpL K H ds vs) {i:Nat} (e:ds[i]?=some d):∃ v,vs[i]?=some v∧Rp K H d v:=by
  have hi:i<vs.length:=by rw [h.1];exact qbe e
  exact ⟨vs[i],by simp [hi],h.2 i _ d (by simp [hi]) e⟩
theorem RpL.at' (h:RpL K H ds vs) {i:Nat} (e:vs[i]?=some v):∃ d,ds[i]?=some d∧Rp K H d v:=by
  have hi:i<ds.length:=by rw [← h.1];exact qbe e
  exact ⟨ds[i],by simp [hi],h.2 i v _ e (by simp [hi])⟩
theorem RpL.cut (h:RpL K H ds vs) (lo hi:Option Int):RpL K H (qb7 ds lo hi) (qkm vs lo hi):=by
  rw [qlM]
  unfold qb7
  rw [h.1]
  exact (h.drop _).take _
theorem RpL.tup {a:Addr} (h:RpL K H ds vs) (s:SqT K H a vs):Rp K H (.tup ds) (.ref a):=.tup s h.1 h.2
theorem RpL.lst {a:Addr} (h:RpL K H ds vs) (s:H a=some (.lst vs)):Rp K H (.lst ds) (.ref a):=.lst s h.1 h.2
theorem RpL.fzl {a:Addr} (h:RpL K H ds vs) (s:SqL K H a vs):Rp K H (.fzl ds) (.ref a):=.fzl s h.1 h.2
theorem RpL.ints (ns:List Int):RpL K H (ns.map D.int) (ns.map V.int):=⟨by simp,fun i v d hv hd=>by
  rw [List.getElem?_map] at hv hd
  cases e:ns[i]? with
  | none=>rw [e] at hv;cases hv
  | some k=>rw [e] at hv hd;cases hv;cases hd;exact .int k⟩
def OwK:HO→Prop | .lst _=>True | .dK _=>True | .dT _=>True | _=>False
structure Gr (Φ H Φ' H':Hp):Prop where
  f:Same Φ Φ'
  h:Same H H'
  s:Same Φ' H'
  o:∀ p (u:HO),H p=some u→Φ p=none→(k:OwK u:=by trivial)→Φ' p=none
theorem Gr.refl (s:Same Φ H):Gr Φ H Φ H:=⟨Same.refl _,Same.refl _,s,fun _ _ _ h _=>h⟩
theorem Gr.trans (a:Gr Φ H Φ1 H1) (b:Gr Φ1 H1 Φ2 H2):Gr Φ H Φ2 H2:=⟨a.f.trans b.f,a.h.trans b.h,b.s,fun p u hp hn k=>b.o p u (a.h p _ hp) (a.o p u hp hn k) k⟩
theorem Gr.join (a:Gr Φ H Φ1 H1) (b:Gr Φ1 H Φ2 H2):Gr Φ H Φ2 H2:=⟨a.f.trans b.f,b.h,b.s,fun p u hp hn k=>b.o p u hp (a.o p u hp hn k) k⟩
theorem qiQ (s:Same Φ H) {p:Addr} (o:HO):Same (upd Φ p o) (upd H p o):=fun b u e=>by
  by_cases c:b=p
  · subst c;rw [qan] at e ⊢;exact e
  · rw [qaA c] at e ⊢;exact s b u e
theorem Gr.new (s:Same Φ H) {p:Addr} (hp:H p=none) (o:HO):Gr Φ H (upd Φ p o) (upd H p o) :=
  ⟨qaz (s.free hp) o,qaz hp o,qiQ s o,fun q u hq hn _=>by rw [qaA (qaE hq hp)];exact hn⟩
theorem Gr.fresh (s:Same Φ H) {p:Addr} (hp:H p=none) (o:HO):Gr Φ H Φ (upd H p o) :=
  ⟨Same.refl _,qaz hp o,fun b u e=>qaz hp o b u (s b u e),fun _ _ _ h _=>h⟩
theorem Gr.freeze (g:Gr Φ H Φ' H') {p:Addr} {o:HO} (h0:H p=none) (hn:Φ' p=none) (hp:H' p=some o):Gr Φ H (upd Φ' p o) H' :=
  ⟨g.f.trans (qaz hn o),g.h,fun b u e=>by
    by_cases c:b=p
    · subst c;rw [qan] at e;cases e;exact hp
    · rw [qaA c] at e;exact g.s b u e,fun q u hq hqn k=>by rw [qaA (qaE hq h0)];exact g.o q u hq hqn k⟩
theorem Gr.adopt {p:Addr} {xs:List V} (s:Same Φ H) (h:Same H H') (q:SqT K H' p xs):∃ Φ',Gr Φ H Φ' H'∧SqT K Φ' p xs:=by
  rcases q with q | q
  · obtain ⟨o,ho,hr,hnl⟩:∃ o,H' p=some o∧(o=.tup xs∨∃ b,o=.frz b (.tup xs))∧¬ OwK o:=by
      rcases q with q | ⟨o,q⟩
      · exact ⟨_,q,.inl rfl,fun e=>e⟩
      · exact ⟨_,q,.inr ⟨o,rfl⟩,fun e=>e⟩
    have e1:∀ u,Φ p=some u→u=o:=fun u e=>by have:=h _ _ (s _ _ e);rw [ho] at this;cases this;rfl
    refine ⟨upd Φ p o,⟨fun b u e=>?_,h,fun b u e=>?_,fun b u e n k=>?_⟩,?_⟩
    · by_cases c:b=p
      · subst c;rw [qan,e1 u e]
      · rw [qaA c];exact e
    · by_cases c:b=p
      · subst c;rw [qan] at e;cases e;exact ho
      · rw [qaA c] at e;exact h _ _ (s _ _ e)
    · by_cases c:b=p
      · subst c
        have:=h _ _ e
        rw [ho] at this
        cases this
        exact absurd k hnl
      · rw [qaA c];exact n
    · rcases hr with rfl | ⟨b,rfl⟩
      · exact .inl (.inl qan)
      · exact .inl (.inr ⟨b,qan⟩)
  · exact ⟨Φ,⟨Same.refl _,h,fun b u e=>h _ _ (s _ _ e),fun _ _ _ n _=>n⟩,.inr q⟩
def RpQ (K:PySem.W.Frag) (Φ H:Hp) (d:D) (v:V):Prop:=Rp K Φ d v∨∃ a vs ds,d=.lst ds∧v=.ref a∧H a=some (.lst vs)∧RpL K Φ ds vs
theorem RpQ.gr (g:Gr Φ H Φ' H') (h:RpQ K Φ H d v):RpQ K Φ' H' d v:=by
  rcases h with h | ⟨a,vs,ds,e,e2,h1,h2⟩
  · exact .inl (h.same g.f)
  · exact .inr ⟨a,vs,ds,e,e2,g.h _ _ h1,h2.same g.f⟩
theorem RpQ.lst (s:Same Φ H) (h:RpQ K Φ H (.lst ds) v):∃ a vs,v=.ref a∧H a=some (.lst vs)∧RpL K Φ ds vs:=by
  rcases h with h | ⟨a,vs,ds,e,e2,h1,h2⟩
  · cases h with | lst h1 h2 h3=>exact ⟨_,_,rfl,s _ _ h1,h2,h3⟩
  · cases e;exact ⟨a,vs,e2,h1,h2⟩
theorem RpQ.fzl (s:Same Φ H) (h:RpQ K Φ H (.fzl ds) v):∃ a vs,v=.ref a∧SqL K H a vs∧RpL K Φ ds vs:=by
  rcases h with h | ⟨a,vs,ds,e,e2,h1,h2⟩
  · cases h with | fzl h1 h2 h3=>exact ⟨_,_,rfl,s.seq h1,h2,h3⟩
  · cases e
theorem RpQ.tup (s:Same Φ H) (h:RpQ K Φ H (.tup ds) v):∃ a vs,v=.ref a∧SqT K H a vs∧SqT K Φ a vs∧RpL K Φ ds vs:=by
  rcases h with h | ⟨a,vs,ds,e,e2,h1,h2⟩
  · cases h with | tup h1 h2 h3=>exact ⟨_,_,rfl,s.sqt h1,h1,h2,h3⟩
  · cases e
theorem RpQ.int {i:Int} (h:RpQ K Φ H (.int i) v):v=.int i:=by
  rcases h with h | ⟨a,vs,ds,e,_⟩
  · cases h;rfl
  · cases e
theorem RpQ.bl {i:Bool} (h:RpQ K Φ H (.bl i) v):v=.bl i:=by
  rcases h with h | ⟨a,vs,ds,e,_⟩
  · cases h;rfl
  · cases e
theorem RpQ.str {i:Str} (h:RpQ K Φ H (.str i) v):v=.str i:=by
  rcases h with h | ⟨a,vs,ds,e,_⟩
  · cases h;rfl
  · cases e
theorem RpQ.non (h:RpQ K Φ H .non v):v=.non:=by
  rcases h with h | ⟨a,vs,ds,e,_⟩
  · cases h;rfl
  · cases e
def qjh:D→Option (List D)
  | .lst ds=>some ds
  | .tup ds=>some ds
  | .fzl ds=>some ds
  | _=>none
theorem RpQ.seq (s:Same Φ H) (h:RpQ K Φ H d v) (e:qjh d=some ds):∃ a vs,v=.ref a∧(SqL K H a vs∨SqT K H a vs)∧RpL K Φ ds vs:=by
  cases d with
  | lst ds=>cases e;obtain ⟨a,vs,e,h1,h2⟩:=h.lst s;exact ⟨a,vs,e,.inl (.of h1),h2⟩
  | tup ds=>cases e;obtain ⟨a,vs,e,h1,_,h2⟩:=h.tup s;exact ⟨a,vs,e,.inr h1,h2⟩
  | fzl ds=>cases e;obtain ⟨a,vs,e,h1,h2⟩:=h.fzl s;exact ⟨a,vs,e,.inl h1,h2⟩
  | _=>cases e
theorem Rp.seq (h:Rp K Φ d v) (e:qjh d=some ds):∃ (b:Bool) (a:Addr) (vs:List V),v=.ref a∧SqB K b Φ a vs∧RpL K Φ ds vs:=by
  cases d with
  | lst ds=>cases e;cases h with | lst h1 h2 h3=>exact ⟨true,_,_,rfl,SqL.of h1,h2,h3⟩
  | tup ds=>cases e;cases h with | tup h1 h2 h3=>exact ⟨false,_,_,rfl,h1,h2,h3⟩
  | fzl ds=>cases e;cases h with | fzl h1 h2 h3=>exact ⟨true,_,_,rfl,h1,h2,h3⟩
  | _=>cases e
end
inductive Ow where | lst (xs:List D) | dct (ks:List Key) | dcT (ks:List (List Key))
inductive Sl where | v (d:D) | ob (o:Ow)
abbrev Sl.own (xs:List D):Sl:=.ob (.lst xs)
def OwR (K:PySem.W.Frag) (Φ:Hp):Ow→HO→Prop
  | .lst ds,.lst vs=>RpL K Φ ds vs
  | .dct ks,.dK kvs=>kvs.map (·.1)=ks
  | .dcT ks,.dT kvs=>kvs.map (·.1)=ks
  | _,_=>False
theorem OwR.k {K:PySem.W.Frag} {Φ:Hp} {o:Ow} {u:HO} (r:OwR K Φ o u):OwK u:=by
  cases o with
  | lst ds =>
    cases u with
    | lst vs=>exact True.intro
    | _=>exact r.elim
  | dct ks =>
    cases u with
    | dK kvs=>exact True.intro
    | _=>exact r.elim
  | dcT ks =>
    cases u with
    | dT kvs=>exact True.intro
    | _=>exact r.elim
theorem OwR.same {K:PySem.W.Frag} {Φ Φ':Hp} {o:Ow} {u:HO} (r:OwR K Φ o u) (s:Same Φ Φ'):OwR K Φ' o u:=by
  cases o with
  | lst ds =>
    cases u with
    | lst vs=>exact (show RpL K Φ ds vs from r).same s
    | _=>exact r.elim
  | dct ks =>
    cases u with
    | dK kvs=>exact r
    | _=>exact r.elim
  | dcT ks =>
    cases u with
    | dT kvs=>exact r
    | _=>exact r.elim
abbrev Rho:=List (Option Sl)
def ql3:FuncBody→Option Pos
  | .stmts b=>(match b.getLast? with
    | some (.Return (some (.Call _ _ kws _)) _)=>kws.findSome? fun k=>(match k.value with | .Lambda _ _ _ pos=>some pos | _=>none)
    | _=>none)
  | _=>none
def qk1 (K:PySem.W.Frag) (x:Str):Option (Addr × Array Value):=match PySem.W.nsIn K mainGlobals x with
  | some (some (.ref f))=>(match K.lookup f with
    | some ⟨_,_,.func fd,_⟩=>(match fd.code with
      | .ref c=>(match K.lookup c with
        | some ⟨_,_,.fields vs,_⟩=>(match (vs[11]?:Option Value),ql3 fd.body with
          | some (.ref P),some pos=>some (P,#[rawInt pos.line,rawInt pos.col,.str (fd.qualname++".<locals>."++"<lambda>") 0])
          | _,_=>none)
        | _=>none)
      | _=>none)
    | _=>none)
  | _=>none
def qhW (K:PySem.W.Frag):List (Addr × Array Value):=(["least_grown","greatest_first"]:List Str).filterMap (qk1 K)
def TabF (K:PySem.W.Frag) (Φ:Hp):Prop:=∀ t∈qhW K,Φ t.1=some (.tbl t.2)
theorem TabF.same {K:PySem.W.Frag} {Φ Φ':Hp} (h:TabF K Φ) (s:Same Φ Φ'):TabF K Φ':=fun t ht=>s _ _ (h t ht)
structure EnvD (K:PySem.W.Frag) (H0 Φ H:Hp) (σ:St) (ρ:Rho):Prop where
  fz:Same Φ H
  len:σ.length=ρ.length
  sl:∀ (i:Nat) (d:D),ρ[i]?=some (some (.v d))→∃ v,σ[i]?=some (some v)∧Rp K Φ d v
  ow:∀ (i:Nat) (o:Ow),ρ[i]?=some (some (.ob o))→∃ p u,σ[i]?=some (some (.ref p))∧H0 p=none∧Φ p=none∧H p=some u∧OwR K Φ o u
  ne:∀ (i j:Nat) (o w:Ow) (p:Addr),ρ[i]?=some (some (.ob o))→ρ[j]?=some (some (.ob w))→σ[i]?=some (some (.ref p))→σ[j]?=some (some (.ref p))→i=j
  tb:TabF K Φ
section
variable {K : PySem.W.Frag} {H0 H H' Φ Φ' Φ1 H1 Φ2 H2 : Hp} {σ : St} {ρ : Rho} {d : D} {v : V} {ds es : List D} {vs ws : List V}
theorem EnvD.owl (E:EnvD K H0 Φ H σ ρ) (i:Nat) (ds:List D) (h:ρ[i]?=some (some (.own ds))):∃ p vs,σ[i]?=some (some (.ref p))∧H0 p=none∧Φ p=none∧H p=some (.lst vs)∧RpL K Φ ds vs:=by
  obtain ⟨p,u,e,h0,hn,hp,r⟩:=E.ow i _ h
  cases u with
  | lst vs=>exact ⟨p,vs,e,h0,hn,hp,r⟩
  | _=>exact (show False from r).elim
theorem EnvD.gr (E:EnvD K H0 Φ H σ ρ) (g:Gr Φ H Φ' H'):EnvD K H0 Φ' H' σ ρ :=
  ⟨g.s,E.len,fun i d h=>let ⟨v,e,r⟩:=E.sl i d h;⟨v,e,r.same g.f⟩,
    fun i ds h=>let ⟨p,vs,e,h0,hn,hp,r⟩:=E.ow i ds h;⟨p,vs,e,h0,g.o p _ hp hn r.k,g.h _ _ hp,r.same g.f⟩,E.ne,E.tb.same g.f⟩
theorem qb3 {α:Type} {l:List α} {i j:Nat} {x y:α} (h:(l.set i x)[j]?=some y):(j=i∧i<l.length∧y=x)∨(j≠i∧l[j]?=some y):=by
  by_cases c:i=j
  · subst c
    have hi:i<l.length:=by have:=qbe h;rwa [List.length_set] at this
    rw [List.getElem?_set_self hi] at h
    cases h
    exact .inl ⟨rfl,hi,rfl⟩
  · rw [List.getElem?_set_ne c] at h
    exact .inr ⟨fun e=>c e.symm,h⟩
theorem EnvD.set (E:EnvD K H0 Φ H σ ρ) (r:Rp K Φ d v) (i:Nat):EnvD K H0 Φ H (σ.set i (some v)) (ρ.set i (some (.v d))):=by
  have nn:∀ {j:Nat} {x:Option V},j≠i→σ[j]?=some x→(σ.set i (some v))[j]?=some x:=fun c h=>by rw [List.getElem?_set_ne (Ne.symm c)];exact h
  refine ⟨E.fz,by rw [List.length_set,List.length_set,E.len],fun j e h=>?_,fun j ds h=>?_,fun j k ds es p hj hk sj sk=>?_,E.tb⟩
  · rcases qb3 h with ⟨rfl,hi,e1⟩ | ⟨c,h⟩
    · cases e1
      exact ⟨v,by rw [List.getElem?_set_self (by rw [E.len];exact hi)],r⟩
    · obtain ⟨u,hu,ru⟩:=E.sl j e h
      exact ⟨u,nn c hu,ru⟩
  · rcases qb3 h with ⟨rfl,hi,e1⟩ | ⟨c,h⟩
    · cases e1
    · obtain ⟨p,vs,e,q⟩:=E.ow j ds h
      exact ⟨p,vs,nn c e,q⟩
  · rcases qb3 hj with ⟨rfl,_,e1⟩ | ⟨cj,hj⟩
    · cases e1
    rcases qb3 hk with ⟨rfl,_,e1⟩ | ⟨ck,hk⟩
    · cases e1
    rw [List.getElem?_set_ne (Ne.symm cj)] at sj
    rw [List.getElem?_set_ne (Ne.symm ck)] at sk
    exact E.ne j k ds es p hj hk sj sk
theorem EnvD.setOb (E:EnvD K H0 Φ H σ ρ) {p:Addr} {o:Ow} {u:HO} (r:OwR K Φ o u) (h0:H0 p=none) (hn:Φ p=none) (hp:H p=some u) (hnew:∀ (j:Nat) (w:Ow),ρ[j]?=some (some (.ob w))→σ[j]?≠some (some (.ref p))) (i:Nat):EnvD K H0 Φ H (σ.set i (some (.ref p))) (ρ.set i (some (.ob o))):=by
  have nn:∀ {j:Nat} {x:Option V},j≠i→σ[j]?=some x→(σ.set i (some (.ref p)))[j]?=some x:=fun c h=>by rw [List.getElem?_set_ne (Ne.symm c)];exact h
  refine ⟨E.fz,by rw [List.length_set,List.length_set,E.len],fun j e h=>?_,fun j ds h=>?_,fun j k ds es q hj hk sj sk=>?_,E.tb⟩
  · rcases qb3 h with ⟨rfl,hi,e1⟩ | ⟨c,h⟩
    · cases e1
    · obtain ⟨u,hu,ru⟩:=E.sl j e h
      exact ⟨u,nn c hu,ru⟩
  · rcases qb3 h with ⟨rfl,hi,e1⟩ | ⟨c,h⟩
    · cases e1
      exact ⟨p,u,by rw [List.getElem?_set_self (by rw [E.len];exact hi)],h0,hn,hp,r⟩
    · obtain ⟨p,vs,e,q⟩:=E.ow j ds h
      exact ⟨p,vs,nn c e,q⟩
  · rcases qb3 hj with ⟨e1,hl,_⟩ | ⟨cj,hj'⟩
    · rcases qb3 hk with ⟨e2,_,_⟩ | ⟨ck,hk'⟩
      · rw [e1,e2]
      · rw [e1,List.getElem?_set_self (by rw [E.len];exact hl)] at sj
        cases sj
        rw [List.getElem?_set_ne (Ne.symm ck)] at sk
        exact absurd sk (hnew k _ hk')
    · rw [List.getElem?_set_ne (Ne.symm cj)] at sj
      rcases qb3 hk with ⟨e2,hl,_⟩ | ⟨ck,hk'⟩
      · rw [e2,List.getElem?_set_self (by rw [E.len];exact hl)] at sk
        cases sk
        exact absurd sj (hnew j _ hj')
      · rw [List.getElem?_set_ne (Ne.symm ck)] at sk
        exact E.ne j k _ _ q hj' hk' sj sk
theorem EnvD.putOb (E:EnvD K H0 Φ H σ ρ) {i:Nat} {p:Addr} {o o':Ow} {u:HO} (ho:ρ[i]?=some (some (.ob o))) (hs:σ[i]?=some (some (.ref p))) (r:OwR K Φ o' u):EnvD K H0 Φ (upd H p u) σ (ρ.set i (some (.ob o'))):=by
  obtain ⟨p',vs,e,h0,hn,hp,_⟩:=E.ow i _ ho
  rw [hs] at e
  cases e
  have hi:=qbe ho
  refine ⟨fun b u e=>?_,by rw [List.length_set,E.len],fun j e h=>?_,fun j fs h=>?_,fun j k fs gs q hj hk sj sk=>?_,E.tb⟩
  · rw [qaA (qaE e hn)]
    exact E.fz b u e
  · rcases qb3 h with ⟨rfl,_,e1⟩ | ⟨c,h⟩
    · cases e1
    · exact E.sl j e h
  · rcases qb3 h with ⟨rfl,_,e1⟩ | ⟨c,h⟩
    · cases e1
      exact ⟨p,u,hs,h0,hn,qan,r⟩
    · obtain ⟨q,us,e,q0,qn,qp,qr⟩:=E.ow j fs h
      refine ⟨q,us,e,q0,qn,?_,qr⟩
      rw [qaA fun z=>c (E.ne j i fs o p h ho (by rw [e,z]) hs)]
      exact qp
  · have old:∀ {j:Nat} {fs:Ow},(ρ.set i (some (.ob o')))[j]?=some (some (.ob fs))→∃ gs,ρ[j]?=some (some (.ob gs)):=fun {j fs} h=>by
      rcases qb3 h with ⟨rfl,_,_⟩ | ⟨_,h⟩
      · exact ⟨o,ho⟩
      · exact ⟨fs,h⟩
    obtain ⟨fs',hj⟩:=old hj
    obtain ⟨gs',hk⟩:=old hk
    exact E.ne j k fs' gs' q hj hk sj sk
theorem EnvD.setOwn (E:EnvD K H0 Φ H σ ρ) {p:Addr} (r:RpL K Φ ds vs) (h0:H0 p=none) (hn:Φ p=none) (hp:H p=some (.lst vs)) (hnew:∀ (j:Nat) (w:Ow),ρ[j]?=some (some (.ob w))→σ[j]?≠some (some (.ref p))) (i:Nat):EnvD K H0 Φ H (σ.set i (some (.ref p))) (ρ.set i (some (.own ds))):=E.setOb (o:=.lst ds) (u:=.lst vs) r h0 hn hp hnew i
theorem EnvD.put (E:EnvD K H0 Φ H σ ρ) {i:Nat} {p:Addr} (ho:ρ[i]?=some (some (.own ds))) (hs:σ[i]?=some (some (.ref p))) (r:RpL K Φ es ws):EnvD K H0 Φ (upd H p (.lst ws)) σ (ρ.set i (some (.own es))):=E.putOb (o':=.lst es) (u:=.lst ws) ho hs r
def frz (i:Nat) (ρ:Rho):Rho:=match ρ[i]? with | some (some (.ob (.lst ds)))=>ρ.set i (some (.v (.lst ds))) | _=>ρ
theorem EnvD.frz (E:EnvD K H0 Φ H σ ρ) (g:Gr Φ0 H0 Φ H) (i:Nat):∃ Φ',Gr Φ0 H0 Φ' H∧EnvD K H0 Φ' H σ (frz i ρ):=by
  unfold L2.frz
  split
  · next ds ho =>
    obtain ⟨p,vs,e,h0,hn,hp,r⟩:=E.owl i ds ho
    have s1:=qaz hn (.lst vs)
    refine ⟨upd Φ p (.lst vs),g.freeze h0 hn hp,fun b u e=>?_,by rw [List.length_set,E.len],fun j e2 h=>?_,fun j fs h=>?_,fun j k fs gs q hj hk sj sk=>?_,E.tb.same s1⟩
    · by_cases c:b=p
      · subst c;rw [qan] at e;cases e;exact hp
      · rw [qaA c] at e;exact E.fz b u e
    · rcases qb3 h with ⟨rfl,_,e1⟩ | ⟨c,h⟩
      · cases e1
        exact ⟨_,e,(r.same s1).lst qan⟩
      · obtain ⟨u,hu,ru⟩:=E.sl j e2 h
        exact ⟨u,hu,ru.same s1⟩
    · rcases qb3 h with ⟨rfl,_,e1⟩ | ⟨c,h⟩
      · cases e1
      · obtain ⟨q,us,e3,q0,qn,qp,qr⟩:=E.ow j fs h
        refine ⟨q,us,e3,q0,?_,qp,qr.same s1⟩
        rw [qaA fun z=>c (E.ne j i fs _ p h ho (by rw [e3,z]) e)]
        exact qn
    · rcases qb3 hj with ⟨_,_,e1⟩ | ⟨_,hj⟩
      · cases e1
      rcases qb3 hk with ⟨_,_,e1⟩ | ⟨_,hk⟩
      · cases e1
      exact E.ne j k fs gs q hj hk sj sk
  · exact ⟨Φ,g,E⟩
theorem EnvD.weak {ρ':Rho} (E:EnvD K H0 Φ H σ ρ) (hl:ρ'.length=ρ.length) (hw:∀ (i:Nat) x,ρ'[i]?=some (some x)→ρ[i]?=some (some x)):EnvD K H0 Φ H σ ρ' :=
  ⟨E.fz,by rw [E.len,hl],fun i d h=>E.sl i d (hw i _ h),fun i ds h=>E.ow i ds (hw i _ h),fun i j ds es p hi hj=>E.ne i j ds es p (hw i _ hi) (hw j _ hj),E.tb⟩
end
def NF {α:Type} (x:α) (R:α→Prop):Prop:=∃ y,x=y∧R y
theorem NF.get {α:Type} {x:α} {R:α→Prop} (h:NF x R):R x:=by
  obtain ⟨_,rfl,h⟩:=h
  exact h
abbrev TD:=Rho→(D→Prop)→Prop
abbrev TDL:=Rho→(List D→Prop)→Prop
abbrev TDB:=Rho→(Bool→Prop)→Prop
def lE (K:PySem.W.Frag) (t:TD):TE:=fun σ H Q=>∃ H0 Φ ρ R,EnvD K H0 Φ H σ ρ∧t ρ R∧∀ d Φ' H' v,R d→Gr Φ H Φ' H'→Rp K Φ' d v→Q v H'
def lQ (K:PySem.W.Frag) (t:TD):TE:=fun σ H Q=>∃ H0 Φ ρ R,EnvD K H0 Φ H σ ρ∧t ρ R∧∀ d Φ' H' v,R d→Gr Φ H Φ' H'→RpQ K Φ' H' d v→Q v H'
def lF (K:PySem.W.Frag) (t:TDL):TE:=fun σ H Q=>∃ H0 Φ ρ R,EnvD K H0 Φ H σ ρ∧t ρ R∧∀ ds Φ' H' p vs,R ds→Gr Φ H Φ' H'→H p=none→Φ' p=none→H' p=some (.lst vs)→RpL K Φ' ds vs→Q (.ref p) H'
def lA (K:PySem.W.Frag) (n:Nat) (t:TDL):TA:=fun σ H Q=>∃ H0 Φ ρ R,EnvD K H0 Φ H σ ρ∧t ρ R∧∀ ds Φ' H' vs,R ds→Gr Φ H Φ' H'→RpL K Φ' ds vs→ds.length=n→Q vs H'
def lT (K:PySem.W.Frag) (t:TDB):TT:=fun σ H Q=>∃ H0 Φ ρ R,EnvD K H0 Φ H σ ρ∧t ρ R∧∀ b Φ' H',R b→Gr Φ H Φ' H'→Q b H'
structure PD (K:PySem.W.Frag) (X:Cx) (e:Expr) (t:TD):Prop where pe:X.K=K→PE X e (lE K t)
structure PQ (K:PySem.W.Frag) (X:Cx) (e:Expr) (t:TD):Prop where pe:X.K=K→PE X e (lQ K t)
structure PF (K:PySem.W.Frag) (X:Cx) (e:Expr) (t:TDL):Prop where pe:X.K=K→PE X e (lF K t)
structure PAD (K:PySem.W.Frag) (X:Cx) (es:List Expr) (t:TDL):Prop where pa:X.K=K→PA X es (lA K es.length t)
structure PTD (K:PySem.W.Frag) (X:Cx) (e:Expr) (t:TDB):Prop where pt:X.K=K→PT X e (lT K t)
structure PWD (K:PySem.W.Frag) (X:Cx) (e:Expr) (t:TDB):Prop where pw:X.K=K→PW X e (lT K t)
theorem PE.imp {X:Cx} {e:Expr} {t t':TE} (h:PE X e t) (k:∀ σ H Q,t' σ H Q→t σ H Q):PE X e t':=fun pins s σ H Q I hw=>h pins s σ H Q I (k σ H Q hw)
theorem PT.imp {X:Cx} {e:Expr} {t t':TT} (h:PT X e t) (k:∀ σ H Q,t' σ H Q→t σ H Q):PT X e t':=fun pins s σ H Q I hw=>h pins s σ H Q I (k σ H Q hw)
theorem PW.imp {X:Cx} {e:Expr} {t t':TT} (h:PW X e t) (k:∀ σ H Q,t' σ H Q→t σ H Q):PW X e t':=fun wh pins s σ H Q I hw=>h wh pins s σ H Q I (k σ H Q hw)
theorem PA.imp {X:Cx} {e:List Expr} {t t':TA} (h:PA X e t) (k:∀ σ H Q,t' σ H Q→t σ H Q):PA X e t':=fun pos pins s σ H Q I hw=>h pos pins s σ H Q I (k σ H Q hw)
theorem PS.imp {X:Cx} {e:Stmt} {t t':TS} (h:PS X e t) (k:∀ D σ H,t' D σ H→t D σ H):PS X e t':=fun pins s σ H D I hw=>h pins s σ H D I (k D σ H hw)
theorem PSs.imp {X:Cx} {e:List Stmt} {t t':TS} (h:PSs X e t) (k:∀ D σ H,t' D σ H→t D σ H):PSs X e t':=fun pins s σ H D I hw=>h pins s σ H D I (k D σ H hw)
section
variable {K : PySem.W.Frag} {X : Cx} {e a b c : Expr} {es : List Expr} {pos : Pos} {t ta tb : TD} {tf : TDL} {tl : TDL} {tt tu : TDB}
theorem PD.q (h:PD K X e t):PQ K X e t:=⟨fun hK=>(h.pe hK).imp fun σ H Q hq0=>by obtain ⟨H0,Φ,ρ,R,E,t,k⟩:=hq0;exact ⟨H0,Φ,ρ,R,E,t,fun d Φ' H' v r g rr=>k d Φ' H' v r g (.inl rr)⟩⟩
def qm7 (t:TDL):TD:=fun ρ R=>t ρ fun ds=>R (.lst ds)
theorem PF.d (h:PF K X e tf):PD K X e (qm7 tf):=⟨fun hK=>(h.pe hK).imp fun σ H Q hq0=>by obtain ⟨H0,Φ,ρ,R,E,t,k⟩:=hq0;exact ⟨H0,Φ,ρ,_,E,t,fun ds Φ' H' p vs r g h0 hn hp rr =>
  k (.lst ds) _ H' _ r (g.freeze h0 hn hp) ((rr.same (qaz hn _)).lst qan)⟩⟩
def qoe (i:Nat):TD:=fun ρ R=>match ρ[i]? with | some (some (.v d))=>R d | _=>False
def ql0 (i:Nat):TD:=fun ρ R=>match ρ[i]? with | some (some (.v d))=>R d | some (some (.ob (.lst ds)))=>R (.lst ds) | _=>False
theorem dv (i:Nat) {x:Str} (hN:X.N[i]?=some x:=by rfl) (hv:Vis X.env.scope x:=by first | exact Or.inl rfl | exact Or.inr (Or.inl rfl) | exact Or.inr (Or.inr rfl)) (hd:(x == ("__debug__":Str))=false:=by decide)
    (hcd:(x == ("__classdict__":Str))=false:=by decide):PD K X (.Name x pos) (qoe i):=⟨fun _=>(pv i hN hv hd hcd).imp fun σ H Q hq0=>by
  obtain ⟨H0,Φ,ρ,R,E,t,k⟩:=hq0
  unfold qoe at t
  split at t
  · next d h =>
    obtain ⟨v,e,r⟩:=E.sl i d h
    exact ⟨v,e,k d Φ H v t (.refl E.fz) r⟩
  · exact t.elim⟩
theorem dvq (i:Nat) {x:Str} (hN:X.N[i]?=some x:=by rfl) (hv:Vis X.env.scope x:=by first | exact Or.inl rfl | exact Or.inr (Or.inl rfl) | exact Or.inr (Or.inr rfl)) (hd:(x == ("__debug__":Str))=false:=by decide)
    (hcd:(x == ("__classdict__":Str))=false:=by decide):PQ K X (.Name x pos) (ql0 i):=⟨fun _=>(pv i hN hv hd hcd).imp fun σ H Q hq0=>by
  obtain ⟨H0,Φ,ρ,R,E,t,k⟩:=hq0
  unfold ql0 at t
  split at t
  · next d h =>
    obtain ⟨v,e,r⟩:=E.sl i d h
    exact ⟨v,e,k d Φ H v t (.refl E.fz) (.inl r)⟩
  · next ds h =>
    obtain ⟨p,vs,e,_,_,hp,r⟩:=E.owl i ds h
    exact ⟨_,e,k _ Φ H _ t (.refl E.fz) (.inr ⟨p,vs,ds,rfl,rfl,hp,r⟩)⟩
  · exact t.elim⟩
def dC (d:D):TD:=fun _ R=>R d
theorem qj2 {v:V} {d:D} (h:PE X e (tC v)) (r:∀ Φ,Rp K Φ d v):PD K X e (dC d):=⟨fun _=>h.imp fun σ H Q hq0=>by obtain ⟨H0,Φ,ρ,R,E,t,k⟩:=hq0;exact k d Φ H v t (.refl E.fz) (r Φ)⟩
theorem qae {i j}:PD K X (.Constant (.int i) j pos) (dC (.int i)):=qj2 qaX fun _=>.int i
theorem qhH {i j}:PD K X (.Constant (.bool i) j pos) (dC (.bl i)):=qj2 qfJ fun _=>.bl i
theorem qbC {i j}:PD K X (.Constant (.str i) j pos) (dC (.str i)):=qj2 qg1 fun _=>.str i
theorem qds {j}:PD K X (.Constant .none j pos) (dC .non):=qj2 qeu fun _=>.non
abbrev RD2:=D→D→(D→Prop)→Prop
def lR2 (K:PySem.W.Frag) (r:RD2):R2:=fun x y H Q=>∃ Φ dx dy R,Same Φ H∧RpQ K Φ H dx x∧RpQ K Φ H dy y∧r dx dy R∧∀ d Φ' H' v,R d→Gr Φ H Φ' H'→Rp K Φ' d v→Q v H'
structure OpD (K:PySem.W.Frag) (X:Cx) (f:Value→Value→Sem Value) (r:RD2):Prop where o:X.K=K→OpR X f (lR2 K r)
def dOp (r:RD2) (ta tb:TD):TD:=fun ρ R=>ta ρ fun x=>tb ρ fun y=>r x y R
theorem qfq {r:RD2} {σ:St} {H:Hp} {Q:VK} (h:lE K (dOp r ta tb) σ H Q):tOp (lR2 K r) (lQ K ta) (lQ K tb) σ H Q:=by
  obtain ⟨H0,Φ,ρ,R,E,t,k⟩:=h
  exact ⟨H0,Φ,ρ,_,E,t,fun dx Φ1 H1 x t1 g1 rx=>⟨H0,Φ1,ρ,_,E.gr g1,t1,fun dy Φ2 H2 y t2 g2 ry=>⟨Φ2,dx,dy,R,g2.s,rx.gr g2,ry,t2,fun d Φ' H' v r g rr=>k d Φ' H' v r ((g1.trans g2).trans g) rr⟩⟩⟩
theorem qaw {op:Operator} {r:RD2} (ho:OpD K X (binaryOp op) r) (ha:PQ K X a ta) (hb:PQ K X b tb):PD K X (.BinOp a op b pos) (dOp r ta tb) :=
  ⟨fun hK=>(qd1 (ho.o hK) (ha.pe hK) (hb.pe hK)).imp fun _ _ _=>qfq⟩
theorem qfZ {op:CmpOp} {r:RD2} (ho:OpD K X (compareOp op) r) (ha:PQ K X a ta) (hb:PQ K X b tb) (hm:behindInMarks op b=false):PD K X (.Compare a [op] [b] pos) (dOp r ta tb) :=
  ⟨fun hK=>(qdg (ho.o hK) (ha.pe hK) (hb.pe hK) hm).imp fun _ _ _=>qfq⟩
def qlY (t:TD):TDB:=fun ρ R=>t ρ fun d=>match d with | .bl b=>R b | _=>False
theorem qiC {r:RD2} {σ:St} {H:Hp} {Q:Bool→Hp→Prop} (h:lT K (qlY (dOp r ta tb)) σ H Q):qmN (tOp (lR2 K r) (lQ K ta) (lQ K tb)) σ H Q:=by
  obtain ⟨H0,Φ,ρ,R,E,t,k⟩:=h
  refine qfq ⟨H0,Φ,ρ,_,E,t,fun d Φ' H' v r g rr=>?_⟩
  cases d with
  | bl b=>cases rr;exact ⟨b,rfl,k b Φ' H' r g⟩
  | _=>exact r.elim
theorem qaU {op:CmpOp} {r:RD2} (ho:OpD K X (compareOp op) r) (ha:PQ K X a ta) (hb:PQ K X b tb) (hm:behindInMarks op b=false):PTD K X (.Compare a [op] [b] pos) (qlY (dOp r ta tb)) :=
  ⟨fun hK=>(qbG (ho.o hK) (ha.pe hK) (hb.pe hK) hm).imp fun _ _ _=>qiC⟩
abbrev RD1:=D→(D→Prop)→Prop
def dUn (r:RD1) (ta:TD):TD:=fun ρ R=>ta ρ fun x=>r x R
def qoX:RD1:=fun x R=>match x with | .int i=>R (.int (-i)) | _=>False
theorem qdh (ha:PQ K X a ta):PD K X (.UnaryOp .USub a pos) (dUn qoX ta):=⟨fun hK=>(qik qgd (ha.pe hK)).imp fun σ H Q hq0=>by obtain ⟨H0,Φ,ρ,R,E,t,k⟩:=hq0;exact ⟨H0,Φ,ρ,_,E,t,fun dx Φ1 H1 x t1 g1 rx=>by
  cases dx with
  | int i=>exact ⟨i,rx.int,k _ Φ1 H1 _ t1 g1 (.int _)⟩
  | _=>exact t1.elim⟩⟩
def qn6:D→(Bool→Prop)→Prop:=fun d R=>match d with
  | .int i=>R (i != 0) | .bl b=>R b | .non=>R false | .str x=>x.length≤sizeLine∧R ((x.length:Int) != 0) | .lst ds=>R (!ds.isEmpty) | .tup ds=>R (!ds.isEmpty) | .fzl ds=>R (!ds.isEmpty) | .obj _ _=>False
theorem qdK {Φ:Hp} {ds:List D} {vs:List V} (h:RpL K Φ ds vs):(!ds.isEmpty)=!vs.isEmpty:=by
  have:=h.1
  cases ds <;> cases vs <;> simp_all
theorem qm5 {Φ H:Hp} {d:D} {v:V} {R:Bool→Prop} (s:Same Φ H) (h:RpQ K Φ H d v) (t:qn6 d R):∃ k,qnn K v H k∧R k:=by
  cases d with
  | int i=>rw [h.int];exact ⟨_,rfl,t⟩
  | bl i=>rw [h.bl];exact ⟨_,rfl,t⟩
  | non=>rw [h.non];exact ⟨_,rfl,t⟩
  | str i=>rw [h.str];exact ⟨_,⟨t.1,rfl⟩,t.2⟩
  | lst ds=>obtain ⟨a,vs,rfl,h1,h2⟩:=h.lst s;exact ⟨_,.inl ⟨vs,.of h1,rfl⟩,by rw [← qdK h2];exact t⟩
  | tup ds=>obtain ⟨a,vs,rfl,h1,_,h2⟩:=h.tup s;exact ⟨_,.inr (.inl ⟨vs,h1,rfl⟩),by rw [← qdK h2];exact t⟩
  | fzl ds=>obtain ⟨a,vs,rfl,h1,h2⟩:=h.fzl s;exact ⟨_,.inl ⟨vs,h1,rfl⟩,by rw [← qdK h2];exact t⟩
  | obj C fs=>exact t.elim
def qov (t:TD):TDB:=fun ρ R=>t ρ fun d=>qn6 d R
theorem qdc (ha:PQ K X a ta) (he:∀ whole,isTrue a X.env whole=(do let v ← whole;standAt a.pos;holding [v] (truthy v))):PTD K X a (qov ta) :=
  ⟨fun hK=>(qdv (ha.pe hK) he).imp fun σ H Q hq0=>by obtain ⟨H0,Φ,ρ,R,E,t,k⟩:=hq0;exact ⟨H0,Φ,ρ,_,E,t,fun d Φ1 H1 v t1 g1 rv=>by
    obtain ⟨b,h1,h2⟩:=qm5 g1.s rv t1
    rw [hK]
    exact ⟨b,h1,k b Φ1 H1 h2 g1⟩⟩⟩
def qo6 (t u:TDB):TDB:=fun ρ R=>t ρ fun c=>(c=true→u ρ R)∧(c=false→R false)
def zOr (t u:TDB):TDB:=fun ρ R=>t ρ fun c=>(c=true→R true)∧(c=false→u ρ R)
def qnY (t:TDB):TDB:=fun ρ R=>t ρ fun c=>R (!c)
theorem PWD.td (h:PWD K X e tt):PTD K X e tt:=⟨fun hK=>(h.pw hK).pt⟩
theorem qej (ha:PTD K X a tt):PWD K X (.BoolOp .And [a] pos) tt:=⟨fun hK=>qlK (ha.pt hK)⟩
theorem qjM (ha:PTD K X a tt):PWD K X (.BoolOp .Or [a] pos) tt:=⟨fun hK=>qh5 (ha.pt hK)⟩
theorem qgp (ha:PTD K X a tt) (hb:PWD K X (.BoolOp .And (b::es) pos) tu):PWD K X (.BoolOp .And (a::b::es) pos) (qo6 tt tu) :=
  ⟨fun hK=>(qmP (ha.pt hK) (hb.pw hK)).imp fun σ H Q hq0=>by obtain ⟨H0,Φ,ρ,R,E,t,k⟩:=hq0;exact ⟨H0,Φ,ρ,_,E,t,fun c Φ1 H1 r g=>by
    cases c with
    | true=>rw [if_pos rfl];exact ⟨H0,Φ1,ρ,R,E.gr g,r.1 rfl,fun b Φ' H' rb g'=>k b Φ' H' rb (g.trans g')⟩
    | false=>rw [if_neg (by decide)];exact k _ Φ1 H1 (r.2 rfl) g⟩⟩
theorem qlR (ha:PTD K X a tt) (hb:PWD K X (.BoolOp .Or (b::es) pos) tu):PWD K X (.BoolOp .Or (a::b::es) pos) (zOr tt tu) :=
  ⟨fun hK=>(qlG (ha.pt hK) (hb.pw hK)).imp fun σ H Q hq0=>by obtain ⟨H0,Φ,ρ,R,E,t,k⟩:=hq0;exact ⟨H0,Φ,ρ,_,E,t,fun c Φ1 H1 r g=>by
    cases c with
    | true=>rw [if_pos rfl];exact k _ Φ1 H1 (r.1 rfl) g
    | false=>rw [if_neg (by decide)];exact ⟨H0,Φ1,ρ,R,E.gr g,r.2 rfl,fun b Φ' H' rb g'=>k b Φ' H' rb (g.trans g')⟩⟩⟩
theorem qfR (ha:PTD K X a tt):PTD K X (.UnaryOp .Not a pos) (qnY tt) :=
  ⟨fun hK=>(qhi (ha.pt hK)).imp fun σ H Q hq0=>by obtain ⟨H0,Φ,ρ,R,E,t,k⟩:=hq0;exact ⟨H0,Φ,ρ,_,E,t,fun c Φ1 H1 r g=>k _ Φ1 H1 r g⟩⟩
def qow (t u:TD):TD:=fun ρ R=>t ρ fun c=>match c with | .bl c=>(c=true→u ρ R)∧(c=false→R (.bl false)) | _=>False
theorem qnl {op} (h:PD K X a ta):PD K X (.BoolOp op [a] pos) ta:=⟨fun hK=>qh9 (h.pe hK)⟩
theorem qnf (ha:PD K X a ta) (hb:PD K X (.BoolOp .And (b::es) pos) tb):PD K X (.BoolOp .And (a::b::es) pos) (qow ta tb) :=
  ⟨fun hK=>(qi7 (ha.pe hK) (hb.pe hK)).imp fun σ H Q hq0=>by obtain ⟨H0,Φ,ρ,R,E,t,k⟩:=hq0;exact ⟨H0,Φ,ρ,_,E,t,fun c Φ1 H1 v r g rv=>by
    cases c with
    | bl c =>
      cases rv
      refine ⟨c,rfl,?_⟩
      cases c with
      | true=>rw [if_pos rfl];exact ⟨H0,Φ1,ρ,R,E.gr g,r.1 rfl,fun b Φ' H' v rb g' rr=>k b Φ' H' v rb (g.trans g') rr⟩
      | false=>rw [if_neg (by decide)];exact k _ Φ1 H1 _ (r.2 rfl) g (.bl _)
    | _=>exact r.elim⟩⟩
def dIf (t:TDB) (u v:TD):TD:=fun ρ R=>t ρ fun c=>(c=true→u ρ R)∧(c=false→v ρ R)
theorem qoL (hc:PTD K X c tt) (ha:PD K X a ta) (hb:PD K X b tb):PD K X (.IfExp c a b pos) (dIf tt ta tb) :=
  ⟨fun hK=>(qjO (hc.pt hK) (ha.pe hK) (hb.pe hK)).imp fun σ H Q hq0=>by obtain ⟨H0,Φ,ρ,R,E,t,k⟩:=hq0;exact ⟨H0,Φ,ρ,_,E,t,fun c Φ1 H1 r g=>by
    cases c with
    | true=>rw [if_pos rfl];exact ⟨H0,Φ1,ρ,R,E.gr g,r.1 rfl,fun b Φ' H' v rb g' rr=>k b Φ' H' v rb (g.trans g') rr⟩
    | false=>rw [if_neg (by decide)];exact ⟨H0,Φ1,ρ,R,E.gr g,r.2 rfl,fun b Φ' H' v rb g' rr=>k b Φ' H' v rb (g.trans g') rr⟩⟩⟩
def qn3:TDL:=fun _ R=>R []
def qm3 (t:TD) (u:TDL):TDL:=fun ρ R=>t ρ fun d=>u ρ fun ds=>R (d::ds)
theorem qaj:PAD K X [] qn3:=⟨fun _=>pa_nil.imp fun σ H Q hq0=>by obtain ⟨H0,Φ,ρ,R,E,t,k⟩:=hq0;exact k [] Φ H [] t (.refl E.fz) .nil rfl⟩
theorem qab (ha:PD K X e t) (hr:PAD K X es tl) (hs:starEach (e::es) X.env=(false,eval e X.env)::starEach es X.env):PAD K X (e::es) (qm3 t tl) :=
  ⟨fun hK=>(qaq (ha.pe hK) (hr.pa hK) hs).imp fun σ H Q hq0=>by obtain ⟨H0,Φ,ρ,R,E,t,k⟩:=hq0;exact ⟨H0,Φ,ρ,_,E,t,fun d Φ1 H1 v r g rv=>⟨H0,Φ1,ρ,_,E.gr g,r,fun ds Φ2 H2 vs r2 g2 rl hl =>
    k _ Φ2 H2 _ r2 (g.trans g2) (.cons (rv.same g2.f) rl) (by rw [List.length_cons,List.length_cons,hl])⟩⟩⟩
def qoI (t:TDL):TD:=fun ρ R=>t ρ fun ds=>R (.tup ds)
def qo2 (t:TDL):TDL:=t
theorem qkK {n:Nat} (h:Nat.ble n 1000=true):n≤sizeLine:=Nat.le_trans (Nat.le_of_ble_eq_true h) (by decide)
theorem qaJ {x1} (h:PAD K X es tl) (hes:Nat.ble es.length 1000=true:=by rfl):PD K X (.Tuple es x1 pos) (qoI tl) :=
  ⟨fun hK=>(qeK (h.pa hK)).imp fun σ H Q hq0=>by obtain ⟨H0,Φ,ρ,R,E,t,k⟩:=hq0;exact ⟨H0,Φ,ρ,_,E,t,fun ds Φ1 H1 vs r g rl hl=>⟨by rw [rl.1,hl];exact qkK hes,fun p hp =>
    k _ _ _ _ r (g.trans (.new g.s hp _)) ((rl.same (qaz (g.s.free hp) _)).tup (.of qan))⟩⟩⟩
theorem qaQ (h:PAD K X es tl) (hes:Nat.ble es.length 1000=true:=by rfl):PF K X (.List es pos) (qo2 tl) :=
  ⟨fun hK=>(qij (h.pa hK)).imp fun σ H Q hq0=>by obtain ⟨H0,Φ,ρ,R,E,t,k⟩:=hq0;exact ⟨H0,Φ,ρ,_,E,t,fun ds Φ1 H1 vs r g rl hl=>⟨by rw [rl.1,hl];exact qkK hes,fun p hp =>
    k _ _ _ p vs r (g.trans (.fresh g.s hp _)) (g.h.free hp) (g.s.free hp) qan rl⟩⟩⟩
end
section
variable {K : PySem.W.Frag} {X : Cx} {e a b c : Expr} {es : List Expr} {pos : Pos} {t ta tb : TD} {tf : TDL} {tl : TDL} {tt tu : TDB}
def qom:RD2:=fun x y R=>match x,y with
  | .int i,.int j=>R (.int (i+j))
  | .str i,.str j=>i.length+j.length≤sizeLine∧R (.str (i++j))
  | .lst xs,.lst ys=>xs.length+ys.length≤sizeLine∧NF (xs++ys) fun zs=>R (.lst zs)
  | .tup xs,.tup ys=>xs.length+ys.length≤sizeLine∧NF (xs++ys) fun zs=>R (.tup zs)
  | _,_=>False
theorem qay:OpD K X (binaryOp .Add) qom:=⟨fun hK pins s σ H x y v u Q I rx ry hq0=>by
  obtain ⟨Φ,dx,dy,R,sm,hx,hy,h,k⟩:=hq0
  cases dx with
  | int i =>
    cases dy with
    | int j=>cases hx.int;cases hy.int;exact qgY pins s σ H _ _ v u Q I rx ry ⟨i,j,rfl,rfl,k _ Φ H _ h (.refl sm) (.int _)⟩
    | _=>exact h.elim
  | str i =>
    cases dy with
    | str j=>cases hx.str;cases hy.str;exact qhs pins s σ H _ _ v u Q I rx ry ⟨i,j,rfl,rfl,h.1,k _ Φ H _ h.2 (.refl sm) (.str _)⟩
    | _=>exact h.elim
  | lst xs =>
    cases dy with
    | lst ys =>
      obtain ⟨a,vs,rfl,h1,h2⟩:=hx.lst sm
      obtain ⟨b,ws,rfl,h3,h4⟩:=hy.lst sm
      exact qko pins s σ H _ _ v u Q I rx ry ⟨a,b,vs,ws,rfl,rfl,h1,h3,by rw [h2.1,h4.1];exact h.1,fun p hp=>k _ _ _ _ h.2.get (.new sm hp _) (((h2.append h4).same (qaz (sm.free hp) _)).lst qan)⟩
    | _=>exact h.elim
  | tup xs =>
    cases dy with
    | tup ys =>
      obtain ⟨a,vs,rfl,h1,h1',h2⟩:=hx.tup sm
      obtain ⟨b,ws,rfl,h3,h3',h4⟩:=hy.tup sm
      exact (hK ▸ qlq:OpR X (binaryOp .Add) (qmd K)) pins s σ H _ _ v u Q I rx ry ⟨a,b,vs,ws,rfl,rfl,h1,h3,by rw [h2.1,h4.1];exact h.1,fun p H' s' q=>by
        obtain ⟨Φ',g,q'⟩:=Gr.adopt sm s' q
        exact k _ Φ' H' _ h.2.get g (((h2.append h4).same g.f).tup q')⟩
    | _=>exact h.elim
  | _=>exact h.elim⟩
def zI (C:Int→Int→Prop) (g:Int→Int→D):RD2:=fun x y R=>match x,y with | .int i,.int j=>C i j∧R (g i j) | _,_=>False
def zI0 (g:Int→Int→D):RD2:=fun x y R=>match x,y with | .int i,.int j=>R (g i j) | _,_=>False
theorem qk3 {f:Value→Value→Sem Value} {C:Int→Int→Prop} {g:Int→Int→Int} (h:OpR X f (rI C fun i j=>.int (g i j))):OpD K X f (zI C fun i j=>.int (g i j)) :=
  ⟨fun hK pins s σ H x y v u Q I rx ry hq0=>by
    obtain ⟨Φ,dx,dy,R,sm,hx,hy,q,k⟩:=hq0
    cases dx with
    | int i =>
      cases dy with
      | int j=>cases hx.int;cases hy.int;exact h pins s σ H _ _ v u Q I rx ry ⟨i,j,rfl,rfl,q.1,k _ Φ H _ q.2 (.refl sm) (.int _)⟩
      | _=>exact q.elim
    | _=>exact q.elim⟩
theorem qmL {f:Value→Value→Sem Value} {g:Int→Int→Int} (h:OpR X f (rI0 fun i j=>.int (g i j))):OpD K X f (zI0 fun i j=>.int (g i j)) :=
  ⟨fun hK pins s σ H x y v u Q I rx ry hq0=>by
    obtain ⟨Φ,dx,dy,R,sm,hx,hy,q,k⟩:=hq0
    cases dx with
    | int i =>
      cases dy with
      | int j=>cases hx.int;cases hy.int;exact h pins s σ H _ _ v u Q I rx ry ⟨i,j,rfl,rfl,k _ Φ H _ q (.refl sm) (.int _)⟩
      | _=>exact q.elim
    | _=>exact q.elim⟩
theorem qhZ {f:Value→Value→Sem Value} {g:Int→Int→Bool} (h:OpR X f (rI0 fun i j=>.bl (g i j))):OpD K X f (zI0 fun i j=>.bl (g i j)) :=
  ⟨fun hK pins s σ H x y v u Q I rx ry hq0=>by
    obtain ⟨Φ,dx,dy,R,sm,hx,hy,q,k⟩:=hq0
    cases dx with
    | int i =>
      cases dy with
      | int j=>cases hx.int;cases hy.int;exact h pins s σ H _ _ v u Q I rx ry ⟨i,j,rfl,rfl,k _ Φ H _ q (.refl sm) (.bl _)⟩
      | _=>exact q.elim
    | _=>exact q.elim⟩
theorem qbN:OpD K X (binaryOp .Sub) (zI0 fun i j=>.int (i - j)):=qmL qkO
theorem qi1:OpD K X (binaryOp .FloorDiv) (zI CDivB fun i j=>.int (i / j)):=qk3 qe3
theorem qc7:OpD K X (binaryOp .Mod) (zI (fun _ j=>0<j) fun i j=>.int (i % j)):=qk3 qkv
theorem qmb:OpD K X (binaryOp .Pow) (zI qob fun i j=>.int (i ^ j.toNat)):=qk3 qml
theorem qlQ:OpD K X (compareOp .Lt) (zI0 fun i j=>.bl (decide (i<j))):=qhZ qh0
theorem qkJ:OpD K X (compareOp .Gt) (zI0 fun i j=>.bl (decide (j<i))):=qhZ qkZ
theorem qm9:OpD K X (compareOp .GtE) (zI0 fun i j=>.bl (decide (j≤i))):=qhZ ql6
def qo7:RD2:=fun x y R=>match x,y with
  | .int i,.int j=>IntMulOk i j∧R (.int (i*j))
  | .lst xs,.int k=>(-(2 ^ 63)≤k∧k<2 ^ 63∧xs.length*k.toNat≤sizeLine)∧NF (List.replicate k.toNat xs).flatten fun zs=>R (.lst zs)
  | .tup xs,.int k=>(xs≠[]∧0≤k∧k≤1000∧k.toNat*xs.length≤1000)∧NF (List.replicate k.toNat xs).flatten fun zs=>R (.tup zs)
  | _,_=>False
theorem qaN:OpD K X (binaryOp .Mult) qo7:=⟨fun hK pins s σ H x y v u Q I rx ry hq0=>by
  obtain ⟨Φ,dx,dy,R,sm,hx,hy,h,k⟩:=hq0
  cases dx with
  | int i =>
    cases dy with
    | int j=>cases hx.int;cases hy.int;exact qgy pins s σ H _ _ v u Q I rx ry ⟨i,j,rfl,rfl,h.1,k _ Φ H _ h.2 (.refl sm) (.int _)⟩
    | _=>exact h.elim
  | lst xs =>
    cases dy with
    | int j =>
      obtain ⟨a,vs,rfl,h1,h2⟩:=hx.lst sm
      cases hy.int
      exact qkD pins s σ H _ _ v u Q I rx ry ⟨a,j,vs,rfl,rfl,h1,h.1.1,h.1.2.1,by rw [h2.1];exact h.1.2.2,fun p hp=>k _ _ _ _ h.2.get (.new sm hp _) (((h2.rep _).same (qaz (sm.free hp) _)).lst qan)⟩
    | _=>exact h.elim
  | tup xs =>
    cases dy with
    | int j =>
      obtain ⟨a,vs,rfl,h1,h1',h2⟩:=hx.tup sm
      cases hy.int
      have hne:vs≠[]:=fun e=>h.1.1 (List.length_eq_zero_iff.mp (by rw [← h2.1,e];rfl))
      exact (hK ▸ qle:OpR X (binaryOp .Mult) (qms K)) pins s σ H _ _ v u Q I rx ry ⟨a,j,vs,rfl,rfl,h1,hne,h.1.2.1,h.1.2.2.1,by rw [h2.1];exact h.1.2.2.2,fun p H' s' q=>by
        obtain ⟨Φ',g,q'⟩:=Gr.adopt sm s' q
        exact k _ Φ' H' _ h.2.get g (((h2.rep _).same g.f).tup q')⟩
    | _=>exact h.elim
  | _=>exact h.elim⟩
end
def cmL (f:D→D→Option Bool):List D→List D→Option Bool
  | [],[]=>some true
  | x::xs,y::ys=>(f x y).bind fun b=>(cmL f xs ys).map (b && ·)
  | _,_=>some false
def cmB:Nat→D→D→Option Bool
  | _,.int i,.int j=>some (i == j)
  | _,.bl i,.bl j=>some (i == j)
  | _,.str i,.str j=>some (i == j)
  | _,.non,.non=>some true
  | n+1,.tup xs,.tup ys=>cmL (cmB n) xs ys
  | n+1,.lst xs,.lst ys=>if xs.length=ys.length then cmL (cmB n) xs ys else some false
  | _,_,_=>none
theorem qes {f:D→D→Option Bool}:∀ {xs ys:List D} {b:Bool},cmL f xs ys=some b→∃ g:Nat→Bool,(∀ (j:Nat) (x y:D),xs[j]?=some x→ys[j]?=some y→f x y=some (g j))∧b=((List.range (min xs.length ys.length)).all g && xs.length == ys.length)
  | [],[],b,h=>by cases h;exact ⟨fun _=>true,fun j x y hx=>by simp at hx,by simp⟩
  | [],_::_,b,h=>by cases h;exact ⟨fun _=>true,fun j x y hx=>by simp at hx,by simp⟩
  | _::_,[],b,h=>by cases h;exact ⟨fun _=>true,fun j x y _ hy=>by simp at hy,by simp⟩
  | x::xs,y::ys,b,h=>by
    unfold cmL at h
    cases e:f x y with
    | none=>rw [e] at h;cases h
    | some c =>
      cases e2:cmL f xs ys with
      | none=>rw [e,e2] at h;cases h
      | some c2 =>
        rw [e,e2] at h
        cases h
        obtain ⟨g,h1,h2⟩:=qes e2
        refine ⟨fun j=>match j with | 0=>c | j+1=>g j,fun j u v hu hv=>?_,?_⟩
        · cases j with
          | zero=>cases hu;cases hv;exact e
          | succ j=>exact h1 j u v hu hv
        · have em:min (x::xs).length (y::ys).length=min xs.length ys.length+1:=by simp only [List.length_cons];omega
          have el:((x::xs).length == (y::ys).length)=(xs.length == ys.length):=by simp
          rw [em,el,List.range_succ_eq_map,List.all_cons,List.all_map,h2,Bool.and_assoc]
          rfl
section
variable {K : PySem.W.Frag} {X : Cx} {pins : List (Addr × Obj)} {σ : St} {Φ H : Hp} {s : Shared}
theorem qlV {n:Nat} {g:Nat→Bool} (h:∀ j,j<n→g j=true):(List.range n).all g=true:=by
  rw [List.all_eq_true]
  intro j hj
  exact h j (List.mem_range.mp hj)
theorem qaI {α:Type} {xs:List α} {j:Nat} (h:j<xs.length):xs[j]?=some xs[j]:=by simp [h]
theorem qhV (hK:X.K=K) (I:Inv X pins σ H s) (sm:Same Φ H):∀ (n:Nat) {d e:D} {b:Bool} {v:V},cmB n d e=some b→Rp K Φ d v→Rp K Φ e v→b=true:=by
  intro n
  induction n with
  | zero =>
    intro d e b v h r1 r2
    cases r1 with
    | int i=>cases r2;have h':some (i == i)=some b:=h;cases h';simp
    | bl i=>cases r2;have h':some (i == i)=some b:=h;cases h';simp
    | str i=>cases r2;have h':some (i == i)=some b:=h;cases h';simp
    | non=>cases r2;cases h;rfl
    | tup _ _ _=>cases r2 <;> cases h
    | lst _ _ _=>cases r2 <;> cases h
    | fzl _ _ _=>cases r2 <;> cases h
    | obj _ _ _ _=>cases r2 <;> cases h
  | succ n ih =>
    intro d e b v h r1 r2
    cases r1 with
    | int i=>cases r2;have h':some (i == i)=some b:=h;cases h';simp
    | bl i=>cases r2;have h':some (i == i)=some b:=h;cases h';simp
    | str i=>cases r2;have h':some (i == i)=some b:=h;cases h';simp
    | non=>cases r2;cases h;rfl
    | @tup a vs xs h1 h2 h3=>cases r2 with
      | @tup _ ws ys k1 k2 k3 =>
        have hvw:vs=ws:=I.tuple_inj (hK ▸ sm.sqt h1) (hK ▸ sm.sqt k1)
        subst hvw
        obtain ⟨g,hg,hb⟩:=qes (show cmL (cmB n) xs ys=some b from h)
        rw [hb,qlV fun j hj=>?_]
        · simp;omega
        · have j0:j<vs.length:=by omega
          have j1:j<xs.length:=by omega
          have j2:j<ys.length:=by omega
          exact ih (hg j _ _ (qaI j1) (qaI j2)) (h3 j _ _ (qaI j0) (qaI j1)) (k3 j _ _ (qaI j0) (qaI j2))
      | _=>cases h
    | @lst a vs xs h1 h2 h3=>cases r2 with
      | @lst _ ws ys k1 k2 k3 =>
        have hvw:vs=ws:=by rw [h1] at k1;cases k1;rfl
        subst hvw
        have h':(if xs.length=ys.length then cmL (cmB n) xs ys else some false)=some b:=h
        rw [if_pos (by omega)] at h'
        obtain ⟨g,hg,hb⟩:=qes h'
        rw [hb,qlV fun j hj=>?_]
        · simp;omega
        · have j0:j<vs.length:=by omega
          have j1:j<xs.length:=by omega
          have j2:j<ys.length:=by omega
          exact ih (hg j _ _ (qaI j1) (qaI j2)) (h3 j _ _ (qaI j0) (qaI j1)) (k3 j _ _ (qaI j0) (qaI j2))
      | _=>cases h
    | fzl _ _ _=>cases r2 <;> cases h
    | obj _ _ _ _=>cases r2 <;> cases h
open PySem.SeqAt in
theorem qit {n:Nat} {d e:D} {b:Bool} {x y:V} (h:cmB n d e=some b) (rx:Rp K Φ d x) (ry:Rp K Φ e y) (hf:(∀ a,x≠.ref a)) {A:Around} {u v:Value} (ru:RelV x u) (rv:RelV y v):EqAt A s u v b∧RcAt A s u v b∧RcNeAt A s u v (!b):=by
  cases rx with
  | int i=>cases ry with
    | int j =>
      obtain ⟨t,rfl⟩:=ru;obtain ⟨t',rfl⟩:=rv
      have h':some (i == j)=some b:=by cases n <;> exact h
      cases h'
      exact ⟨EqAt.int_int i t j t',RcAt.int_int i t j t',RcNeAt.int_int i t j t'⟩
    | _=>cases n <;> cases h
  | bl i=>cases ry with
    | bl j =>
      cases ru;cases rv
      have h':some (i == j)=some b:=by cases n <;> exact h
      cases h'
      exact ⟨EqAt.bool_bool i j,RcAt.bool_bool i j,RcNeAt.bool_bool i j⟩
    | _=>cases n <;> cases h
  | str i=>cases ry with
    | str j =>
      obtain ⟨t,rfl⟩:=ru;obtain ⟨t',rfl⟩:=rv
      have h':some (i == j)=some b:=by cases n <;> exact h
      cases h'
      exact ⟨EqAt.str_str i t j t',RcAt.str_str i t j t',RcNeAt.str_str i t j t'⟩
    | _=>cases n <;> cases h
  | non=>cases ry with
    | non =>
      cases ru;cases rv
      have h':some true=some b:=by cases n <;> exact h
      cases h'
      exact ⟨EqAt.same _,RcAt.none_none,RcNeAt.none_none⟩
    | _=>cases n <;> cases h
  | tup _ _ _=>exact absurd rfl (hf _)
  | lst _ _ _=>exact absurd rfl (hf _)
  | fzl _ _ _=>exact absurd rfl (hf _)
  | obj _ _ _ _=>exact absurd rfl (hf _)
open PySem.SeqAt in
theorem qkG (hK:X.K=K) (I:Inv X pins σ H s) (sm:Same Φ H):∀ (n:Nat) {d e:D} {b:Bool} {x y:V},cmB n d e=some b→Rp K Φ d x→Rp K Φ e y →
    ∀ (A:Around) (u v:Value),A.units+n<cLine→RelV x u→RelV y v→EqAt A s u v b∧RcAt A s u v b∧RcNeAt A s u v (!b):=by
  intro n
  induction n with
  | zero =>
    intro d e b x y h rx ry A u v hu ru rv
    refine qit h rx ry (fun a ea=>?_) ru rv
    subst ea
    cases rx <;> cases ry <;> cases h
  | succ n ih =>
    intro d e b x y h rx ry A u v hu ru rv
    by_cases hf:∀ a,x≠.ref a
    · exact qit h rx ry hf ru rv
    have hu':A.units<cLine:=by omega
    cases rx with
    | int i=>exact absurd (fun a e=>nomatch e) hf
    | bl i=>exact absurd (fun a e=>nomatch e) hf
    | str i=>exact absurd (fun a e=>nomatch e) hf
    | non=>exact absurd (fun a e=>nomatch e) hf
    | @tup a vs xs h1 h2 h3=>cases ry with
      | @tup c ws ys k1 k2 k3 =>
        cases ru;cases rv
        obtain ⟨g,hg,hb⟩:=qes (show cmL (cmB n) xs ys=some b from h)
        obtain ⟨its,r1,p1,_⟩:=I.sqb (b:=false) (hK ▸ sm.sqt h1)
        obtain ⟨its',r2,p2,_⟩:=I.sqb (b:=false) (hK ▸ sm.sqt k1)
        have l1:=Vals.length r1
        have l2:=Vals.length r2
        have he:∀ j (j1:j<its.toArray.size) (j2:j<its'.toArray.size),EqAt A.in1 s its.toArray[j] its'.toArray[j] (g j):=by
          intro j j1 j2
          simp only [List.size_toArray] at j1 j2
          obtain ⟨x,hx,rx⟩:=Vals.get' r1 j1
          obtain ⟨y,hy,ry⟩:=Vals.get' r2 j2
          have i1:j<xs.length:=by omega
          have i2:j<ys.length:=by omega
          exact (ih (hg j _ _ (qaI i1) (qaI i2)) (h3 j x _ hx (qaI i1)) (k3 j y _ hy (qaI i2)) A.in1 _ _ (by show A.units+1+n<cLine;omega) rx ry).1
        have R:=RcAt.tuples (e:=g) p1 p2 hu' he
        have R':=RcNeAt.tuples (e:=g) p1 p2 hu' he
        have et:((List.range (min its.toArray.size its'.toArray.size)).all g && its.toArray.size == its'.toArray.size)=b:=by
          rw [hb]
          simp only [List.size_toArray]
          rw [← l1,← l2,h2,k2]
        rw [et] at R R'
        refine ⟨?_,R,R'⟩
        by_cases hab:a=c
        · subst hab
          rw [qhV hK I sm (n+1) h (.tup h1 h2 h3) (.tup k1 k2 k3)];exact EqAt.same _
        · exact EqAt.of_refs hab R
      | _=>cases h
    | @lst a vs xs h1 h2 h3=>cases ry with
      | @lst c ws ys k1 k2 k3 =>
        cases ru;cases rv
        have h':(if xs.length=ys.length then cmL (cmB n) xs ys else some false)=some b:=h
        obtain ⟨its,r1,p1,_⟩:=I.sqb (b:=true) (show SqL X.K H a vs from SqL.of (sm _ _ h1))
        obtain ⟨its',r2,p2,_⟩:=I.sqb (b:=true) (show SqL X.K H c ws from SqL.of (sm _ _ k1))
        have l1:=Vals.length r1
        have l2:=Vals.length r2
        have fin:RcAt A s (.ref a) (.ref c) b∧RcNeAt A s (.ref a) (.ref c) (!b):=by
          by_cases hl:xs.length=ys.length
          · rw [if_pos hl] at h'
            obtain ⟨g,hg,hb⟩:=qes h'
            have he:∀ j (j1:j<its.toArray.size) (j2:j<its'.toArray.size),EqAt A.in1 s its.toArray[j] its'.toArray[j] (g j):=by
              intro j j1 j2
              simp only [List.size_toArray] at j1 j2
              obtain ⟨x,hx,rx⟩:=Vals.get' r1 j1
              obtain ⟨y,hy,ry⟩:=Vals.get' r2 j2
              have i1:j<xs.length:=by omega
              have i2:j<ys.length:=by omega
              exact (ih (hg j _ _ (qaI i1) (qaI i2)) (h3 j x _ hx (qaI i1)) (k3 j y _ hy (qaI i2)) A.in1 _ _ (by show A.units+1+n<cLine;omega) rx ry).1
            have hsz:its.toArray.size=its'.toArray.size:=by simp;omega
            have R:=RcAt.lists (e:=g) p1 p2 hsz hu' he
            have R':=RcNeAt.lists (e:=g) p1 p2 hsz hu' he
            have et:(List.range its.toArray.size).all g=b:=by
              have e1:min xs.length ys.length=its.length:=by omega
              have e2:(xs.length == ys.length)=true:=by simp [hl]
              rw [hb,e1,e2,Bool.and_true,List.size_toArray]
            rw [et] at R R'
            exact ⟨R,R'⟩
          · rw [if_neg hl] at h'
            cases h'
            have hsz:(its.toArray.size != its'.toArray.size)=true:=by simp;omega
            exact ⟨RcAt.lists_lengths p1 p2 hsz hu',RcNeAt.lists_lengths p1 p2 hsz hu'⟩
        refine ⟨?_,fin.1,fin.2⟩
        by_cases hab:a=c
        · subst hab
          rw [qhV hK I sm (n+1) h (.lst h1 h2 h3) (.lst k1 k2 k3)];exact EqAt.same _
        · exact EqAt.of_refs hab fin.1
      | _=>cases h
    | fzl _ _ _=>cases ry <;> cases h
    | obj _ _ _ _=>cases ry <;> cases h
end
def zEq:RD2:=fun x y R=>match cmB 40 x y with | some b=>R (.bl b) | none=>False
def zNe:RD2:=fun x y R=>match cmB 40 x y with | some b=>R (.bl (!b)) | none=>False
section
variable {K : PySem.W.Frag} {X : Cx}
theorem RpQ.any {Φ H:Hp} {d:D} {v:V} (h:RpQ K Φ H d v) (s:Same Φ H):Rp K H d v:=by
  rcases h with h | ⟨a,vs,ds,e,e2,h1,h2⟩
  · exact h.same s
  · subst e e2;exact (h2.same s).lst h1
theorem qcD (hu:X.A.units+64<cLine):OpD K X (compareOp .Eq) zEq:=⟨fun hK pins s σ H x y u v Q I rx ry hq0=>by
  obtain ⟨Φ,dx,dy,R,sm,hx,hy,h,k⟩:=hq0
  unfold zEq at h
  split at h
  · next b hb=>exact (qkG hK I (Same.refl H) 40 hb (hx.any sm) (hy.any sm) X.A u v (by omega) rx ry).2.1 X.prog X.w _ _ ⟨.bl b,H,I,rfl,k _ Φ H _ h (.refl sm) (.bl b)⟩
  · exact h.elim⟩
theorem qof (hu:X.A.units+64<cLine):OpD K X (compareOp .NotEq) zNe:=⟨fun hK pins s σ H x y u v Q I rx ry hq0=>by
  obtain ⟨Φ,dx,dy,R,sm,hx,hy,h,k⟩:=hq0
  unfold zNe at h
  split at h
  · next b hb=>exact (qkG hK I (Same.refl H) 40 hb (hx.any sm) (hy.any sm) X.A u v (by omega) rx ry).2.2 X.prog X.w _ _ ⟨.bl (!b),H,I,rfl,k _ Φ H _ h (.refl sm) (.bl _)⟩
  · exact h.elim⟩
def qjT:D→Bool
  | .non=>true
  | _=>false
def zIs (neg:Bool):RD2:=fun x y R=>match y with | .non=>R (.bl (qjT x != neg)) | .bl b=>(match x with | .bl a=>R (.bl ((a == b) != neg)) | _=>False) | _=>False
theorem qig {Φ H:Hp} {d:D} {v:V} (h:RpQ K Φ H d v):decide (v=V.non)=qjT d:=by
  cases d with
  | int i=>rw [h.int];rfl
  | bl i=>rw [h.bl];rfl
  | str i=>rw [h.str];rfl
  | non=>rw [h.non];rfl
  | tup ds => rcases h with h | ⟨a, vs, ds, e, _⟩
              · cases h;rfl
              · cases e
  | lst ds => rcases h with h | ⟨a, vs, ds, e, e2, _⟩
              · cases h;rfl
              · rw [e2];rfl
  | fzl ds => rcases h with h | ⟨a, vs, ds, e, _⟩
              · cases h;rfl
              · cases e
  | obj C fs => rcases h with h | ⟨a, vs, ds, e, _⟩
                · cases h;rfl
                · cases e
theorem qnx:OpD K X (compareOp .Is) (zIs false):=⟨fun hK pins s σ H x y u v Q I rx ry hq0=>by
  obtain ⟨Φ,dx,dy,R,sm,hx,hy,h,k⟩:=hq0
  cases dy with
  | non =>
    cases hy.non
    refine qhU pins s σ H _ _ u v Q I rx ry ⟨rfl,?_⟩
    rw [qig hx]
    have h':R (.bl (qjT dx != false)):=h
    rw [Bool.bne_false] at h'
    exact k _ Φ H _ h' (.refl sm) (.bl _)
  | bl b =>
    cases hy.bl
    cases dx with
    | bl a =>
      cases hx.bl
      have h':R (.bl ((a == b) != false)):=h
      rw [Bool.bne_false] at h'
      exact ql5 pins s σ H _ _ u v Q I rx ry ⟨a,b,rfl,rfl,k _ Φ H _ h' (.refl sm) (.bl _)⟩
    | _=>exact h.elim
  | _=>exact h.elim⟩
theorem qi2:OpD K X (compareOp .IsNot) (zIs true):=⟨fun hK pins s σ H x y u v Q I rx ry hq0=>by
  obtain ⟨Φ,dx,dy,R,sm,hx,hy,h,k⟩:=hq0
  cases dy with
  | non =>
    cases hy.non
    refine qll pins s σ H _ _ u v Q I rx ry ⟨rfl,?_⟩
    rw [qig hx]
    have h':R (.bl (qjT dx != true)):=h
    rw [Bool.bne_true] at h'
    exact k _ Φ H _ h' (.refl sm) (.bl _)
  | bl b =>
    cases hy.bl
    cases dx with
    | bl a =>
      cases hx.bl
      have h':R (.bl ((a == b) != true)):=h
      rw [Bool.bne_true] at h'
      exact qlb pins s σ H _ _ u v Q I rx ry ⟨a,b,rfl,rfl,k _ Φ H _ h' (.refl sm) (.bl _)⟩
    | _=>exact h.elim
  | _=>exact h.elim⟩
end
end L2
namespace HT
open PySem PySem.Spec PyProof.Rows
theorem getItem_tuple_all {prog:Program} {w:World} {A:Around} {E:Value→Shared→Prop} {s:Shared} {t sl:Addr} {items:Array Value} {vl vu:Value} {lo hi:Option Int} {Q:Value→Shared→Prop} (ht:IsTup s.heap t items) (hs:s.heap.IsSliceOf sl vl vu .none) (pl:IsPart vl lo) (pu:IsPart vu hi)
    (hw:sIx items.size 0 lo=0∧sIx items.size items.size hi=items.size) (h:Q (.ref t) s):wpAny (model prog w) A (getItem (.ref t) (.ref sl)) Q E s:=by
  obtain ⟨os,hos,hcs,hds⟩:=id hs
  have hTs:s.TypeIs (.ref sl) "slice":=⟨os,hos,hcs⟩
  unfold getItem
  try with_reducible refine wpAny_holding ?_
  first | refine wpAny_bind (wpAny_pure ?_) | skip
  refine wpAny_bind (wpAny_sequenceKey ht.typeIs (by decide) ?_)
  refine wpAny_bind (wpAny_callSpecial?_slot (name:=Str.ofString "__getitem__") ht.typeIs PyProof.Rows.slot_tuple_getitem
    (wpAny_call_entry PyProof.Rows.slot_tuple_getitem ht.typeIs entry_tuple_getitem ?_ (args_tuple_getitem _ _)))
  show wpAny _ _ (Builtin.Tuple.tupleItemsOf (.ref t) >>= _) _ _ s
  refine wpAny_bind (tupleItemsOf_ ht ?_)
  refine wpAny_bind (wpAny_typeOf hTs ?_)
  rw [if_pos (by decide)]
  refine wpAny_bind (qcV hs pl pu ?_)
  have hyes:(((sIx items.size 0 lo:Nat):Int) == 0 && (1:Int) == 1 && (sIx items.size items.size hi - sIx items.size 0 lo) == items.size)=true:=by
    rw [hw.1,hw.2]
    simp
  show wpAny _ _ (if (((sIx items.size 0 lo:Nat):Int) == 0 && (1:Int) == 1 && (sIx items.size items.size hi - sIx items.size 0 lo) == items.size)=true then _ else _) _ _ s
  rw [if_pos hyes]
  refine wpAny_bind (show wpAny _ _ (typeOf (.ref t) >>= fun c=>pure (c == .type "tuple")) _ _ s from wpAny_bind (wpAny_typeOf ht.typeIs (wpAny_pure ?_)))
  rw [if_pos (by decide)]
  exact wpAny_bind (wpAny_rule (wpAny_pure ⟨_,rfl,wpAny_pure h⟩))
end HT
namespace L2
open PySem PySem.Spec PyProof.Rows
section
variable {K : PySem.W.Frag} {X : Cx} {e a b c : Expr} {es : List Expr} {pos p2 : Pos} {t ta tb : TD} {tf : TDL} {tl : TDL} {tt tu : TDB}
def zIx:RD2:=fun x y R=>match y with
  | .int i=>(match x with
    | .lst ds=>∃ d,atI ds i=some d∧R d
    | .tup ds=>∃ d,atI ds i=some d∧R d
    | .fzl ds=>∃ d,atI ds i=some d∧R d
    | .str z=>z.length≤sizeLine∧∃ c,atI z.cps.toList i=some c∧R (.str ⟨#[c]⟩)
    | _=>False)
  | _=>False
theorem qkS {Φ:Hp} {ds:List D} {vs:List V} {d:D} {i:Int} (h:RpL K Φ ds vs) (e:atI ds i=some d):∃ v,atI vs i=some v∧Rp K Φ d v:=by
  unfold atI at e ⊢
  rw [h.1]
  cases hj:ixN ds.length i with
  | none=>rw [hj] at e;cases e
  | some j =>
    rw [hj,Option.bind_some] at e
    rw [Option.bind_some]
    exact h.at e
theorem qon (hK:X.K=K):IxR X (lR2 K zIx):=by
  intro value slice pins s σ H x y v u Q I rx ry ⟨Φ,dx,dy,R,sm,hx,hy,h,k⟩ hs
  cases dy with
  | int i =>
    cases hy.int
    cases dx with
    | lst ds =>
      obtain ⟨d,h1,h2⟩:=h
      obtain ⟨a,vs,rfl,q1,q2⟩:=hx.lst sm
      obtain ⟨w,hw,rw'⟩:=qkS q2 h1
      exact ix_list value slice pins s σ H _ _ v u Q I rx ry ⟨a,vs,i,w,rfl,rfl,.of q1,hw,k _ Φ H _ h2 (.refl sm) rw'⟩ hs
    | tup ds =>
      obtain ⟨d,h1,h2⟩:=h
      obtain ⟨a,vs,rfl,q1,_,q2⟩:=hx.tup sm
      obtain ⟨w,hw,rw'⟩:=qkS q2 h1
      exact ix_tup value slice pins s σ H _ _ v u Q I rx ry ⟨a,vs,i,w,rfl,rfl,hK ▸ q1,hw,k _ Φ H _ h2 (.refl sm) rw'⟩ hs
    | fzl ds =>
      obtain ⟨d,h1,h2⟩:=h
      obtain ⟨a,vs,rfl,q1,q2⟩:=hx.fzl sm
      obtain ⟨w,hw,rw'⟩:=qkS q2 h1
      exact ix_list value slice pins s σ H _ _ v u Q I rx ry ⟨a,vs,i,w,rfl,rfl,hK ▸ q1,hw,k _ Φ H _ h2 (.refl sm) rw'⟩ hs
    | str z =>
      obtain ⟨h0,c,h1,h2⟩:=h
      cases hx.str
      exact qkx value slice pins s σ H _ _ v u Q I rx ry ⟨z,i,c,rfl,rfl,h0,h1,k _ Φ H _ h2 (.refl sm) (.str _)⟩ hs
    | _=>exact h.elim
  | _=>exact h.elim
theorem qaG (ha:PQ K X a ta) (hb:PQ K X b tb) (hs:qh2 b):PD K X (.Subscript a b pos) (dOp zIx ta tb) :=
  ⟨fun hK=>(qcn (qon hK) (ha.pe hK) (hb.pe hK) hs).imp fun _ _ _=>qfq⟩
abbrev TOD:=Rho→(Option Int→Prop)→Prop
def lO (K:PySem.W.Frag) (t:TOD):TO:=fun σ H Q=>∃ H0 Φ ρ R,EnvD K H0 Φ H σ ρ∧t ρ R∧∀ o Φ' H',R o→Gr Φ H Φ' H'→Q o H'
structure POD (K:PySem.W.Frag) (X:Cx) (e:Option Expr) (t:TOD):Prop where po:X.K=K→PO X e (lO K t)
def qn0:TOD:=fun _ R=>R none
def qnX (t:TD):TOD:=fun ρ R=>t ρ fun d=>match d with | .int i=>R (some i) | _=>False
theorem PO.imp {o:Option Expr} {t t':TO} (h:PO X o t) (k:∀ σ H Q,t' σ H Q→t σ H Q):PO X o t':=fun pins s σ H Q I hw=>h pins s σ H Q I (k σ H Q hw)
theorem qa9:POD K X none qn0:=⟨fun _=>po_none.imp fun σ H Q hq0=>by obtain ⟨H0,Φ,ρ,R,E,t,k⟩:=hq0;exact k none Φ H t (.refl E.fz)⟩
theorem qaO (h:PQ K X e t):POD K X (some e) (qnX t):=⟨fun hK=>(qlE (h.pe hK)).imp fun σ H Q hq0=>by obtain ⟨H0,Φ,ρ,R,E,t,k⟩:=hq0;exact ⟨H0,Φ,ρ,_,E,t,fun d Φ1 H1 v r g rv=>by
  cases d with
  | int i=>exact ⟨i,rv.int,k _ Φ1 H1 r g⟩
  | _=>exact r.elim⟩⟩
variable {lo hi : Option Expr} {to tp : TOD}
def qok (K:PySem.W.Frag):V→Option Int→Option Int→Hp→VK→Prop:=fun x lo hi H Q=>∃ a xs,x=.ref a∧SqT K H a xs∧(HT.sIx xs.length 0 lo=0∧HT.sIx xs.length xs.length hi=xs.length)∧Q (.ref a) H
theorem qlW:SlR X (qok X.K):=by
  intro pins s σ H x v vl vu lo hi sl Q I rx hs pl pu h
  obtain ⟨a,xs,rfl,hx,hw,q⟩:=h
  cases rx
  obtain ⟨its,r,ht,hz⟩:=I.tuple hx
  have hlen:its.toArray.size=xs.length:=by rw [List.size_toArray];exact r.length.symm
  refine ⟨"tuple",_,PyProof.Rows.slot_tuple_getitem.lookup,ht.typeIs,?_⟩
  exact HT.getItem_tuple_all ht hs pl pu (by rw [hlen];exact hw) ⟨.ref a,H,I,rfl,q⟩
theorem qlm {α:Type} {xs:List α} {l h:Option Int} (hw:HT.sIx xs.length 0 l=0∧HT.sIx xs.length xs.length h=xs.length):qb7 xs l h=xs:=by
  unfold qb7
  rw [hw.1,hw.2,List.drop_zero,Nat.sub_zero,List.take_length]
def zSl (x:D) (l h:Option Int) (R:D→Prop):Prop:=match x with
  | .lst ds=>NF (qb7 ds l h) fun zs=>R (.lst zs)
  | .fzl ds=>NF (qb7 ds l h) fun zs=>R (.lst zs)
  | .tup ds=>NF (qb7 ds l h) fun zs=>R (.tup zs)
  | _=>False
def dSl (t:TD) (to tp:TOD):TD:=fun ρ R=>t ρ fun x=>to ρ fun l=>tp ρ fun h=>zSl x l h R
theorem qcZ (ha:PQ K X a ta) (hl:POD K X lo to) (hh:POD K X hi tp):PD K X (.Subscript a (.Slice lo hi none p2) pos) (dSl ta to tp) :=
  ⟨fun hK=>(qkc (hK ▸ sl_list.or (sl_tup.or qlW):SlR X (fun x lo hi H Q=>qn2 K x lo hi H Q∨qoh K x lo hi H Q∨qok K x lo hi H Q)) (ha.pe hK) (hl.po hK) (hh.po hK)).imp fun σ H Q hq0=>by obtain ⟨H0,Φ,ρ,R,E,t,k⟩:=hq0;exact
    ⟨H0,Φ,ρ,_,E,t,fun dx Φ1 H1 x t1 g1 rx=>⟨H0,Φ1,ρ,_,E.gr g1,t1,fun l Φ2 H2 t2 g2=>⟨H0,Φ2,ρ,_,(E.gr g1).gr g2,t2,fun h Φ3 H3 t3 g3=>by
      have g:=(g1.trans g2).trans g3
      have rx3:=rx.gr (g2.trans g3)
      cases dx with
      | lst ds =>
        obtain ⟨a,vs,rfl,q1,q2⟩:=rx3.lst g.s
        exact .inl ⟨a,vs,rfl,.of q1,fun p hp=>k _ _ _ _ t3.get (g.trans (.new g.s hp _)) (((q2.cut l h).same (qaz (g.s.free hp) _)).lst qan)⟩
      | fzl ds =>
        obtain ⟨a,vs,rfl,q1,q2⟩:=rx3.fzl g.s
        exact .inl ⟨a,vs,rfl,q1,fun p hp=>k _ _ _ _ t3.get (g.trans (.new g.s hp _)) (((q2.cut l h).same (qaz (g.s.free hp) _)).lst qan)⟩
      | tup ds =>
        obtain ⟨a,vs,rfl,q1,q0,q2⟩:=rx3.tup g.s
        by_cases hw:HT.sIx vs.length 0 l=0∧HT.sIx vs.length vs.length h=vs.length
        · refine .inr (.inr ⟨a,vs,rfl,q1,hw,?_⟩)
          have e:qb7 ds l h=ds:=qlm (by rw [← q2.1];exact hw)
          have t4:=t3.get
          rw [e] at t4
          exact k _ _ _ _ t4 g (q2.tup q0)
        · exact .inr (.inl ⟨a,vs,rfl,q1,hw,fun p hp=>k _ _ _ _ t3.get (g.trans (.new g.s hp _)) (((q2.cut l h).same (qaz (g.s.free hp) _)).tup (.of qan))⟩)
      | _=>exact t3.elim⟩⟩⟩⟩
def qpg (ta tb:TD):TDL:=fun ρ R=>ta ρ fun x=>tb ρ fun y=>match x,y with | .lst xs,.lst ys=>xs.length+ys.length≤sizeLine∧NF (xs++ys) R | _,_=>False
theorem qkY (ha:PQ K X a ta) (hb:PQ K X b tb):PF K X (.BinOp a .Add b pos) (qpg ta tb) :=
  ⟨fun hK=>(qd1 qko (ha.pe hK) (hb.pe hK)).imp fun σ H Q hq0=>by obtain ⟨H0,Φ,ρ,R,E,t,k⟩:=hq0;exact ⟨H0,Φ,ρ,_,E,t,fun dx Φ1 H1 x t1 g1 rx=>⟨H0,Φ1,ρ,_,E.gr g1,t1,fun dy Φ2 H2 y t2 g2 ry=>by
    have g:=g1.trans g2
    have rx2:=rx.gr g2
    cases dx with
    | lst xs=>cases dy with
      | lst ys =>
        obtain ⟨a,vs,rfl,h1,h2⟩:=rx2.lst g.s
        obtain ⟨b,ws,rfl,h3,h4⟩:=ry.lst g.s
        exact ⟨a,b,vs,ws,rfl,rfl,h1,h3,by rw [h2.1,h4.1];exact t2.1,fun p hp=>k _ _ _ p _ t2.2.get (g.trans (.fresh g.s hp _)) (g.h.free hp) (g.s.free hp) qan (h2.append h4)⟩
      | _=>exact t2.elim
    | _=>exact t2.elim⟩⟩⟩
abbrev SpD:=List D→(D→Prop)→Prop
def lSp (K:PySem.W.Frag) (sp:SpD):Sp:=fun vs H Q _=>∃ Φ ds R,Same Φ H∧TabF K Φ∧RpL K Φ ds vs∧sp ds R∧∀ d Φ' H' v,R d→Gr Φ H Φ' H'→Rp K Φ' d v→Q v H'
def qjN (sp:SpD) (t:TDL):TD:=fun ρ R=>t ρ fun ds=>sp ds R
variable {CX : CXT} {k : Nat} {f : Addr} {fd : FuncData} {ps : List Str} {sp : SpD} {x : Str} {p : Pos} {E : XK}
theorem qmB (F:FnOk X.prog X.w X.K X.mg X.base CX k f fd ps (lSp K sp)) (hr:Room k X.A) (hg:Gl X x) (hm:X.mg x=some (.ref f)) (hk:PySem.W.keepIn X.K (.ref f)=true) (hb:Binds X.K fd ps []) (hx:qdS CX X E)
    (ha:PAD K X (e::es) tl) (he:starEach (e::es) X.env=(false,eval e X.env)::starEach es X.env) (hpl:(backTo pos (starEach es X.env)).any (·.1)=false) (hdb:(x == ("__debug__":Str))=false:=by decide) :
    PD K X (.Call (.Name x p) (e::es) [] pos) (qjN sp tl) :=
  ⟨fun hK=>(qcO F hr hg hm hk hb .nil hx (ha.pa hK) hdb he hpl).imp fun σ H Q hq0=>by obtain ⟨H0,Φ,ρ,R,E,t,k⟩:=hq0;exact ⟨H0,Φ,ρ,_,E,t,fun ds Φ1 H1 vs r g rl _=>⟨Φ1,ds,R,g.s,E.tb.same g.f,by rw [List.append_nil];exact rl,r,fun d Φ' H' v rd g' rv=>k d Φ' H' v rd (g.trans g') rv⟩⟩⟩
def qm8 (K:PySem.W.Frag) (Φ H:Hp) (ds:List D) (vs:List V):Prop:=vs.length=ds.length∧∀ (i:Nat) (v:V) (d:D),vs[i]?=some v→ds[i]?=some d→RpQ K Φ H d v
def lAQ (K:PySem.W.Frag) (t:TDL):TA:=fun σ H Q=>∃ H0 Φ ρ R,EnvD K H0 Φ H σ ρ∧t ρ R∧∀ ds Φ' H' vs,R ds→Gr Φ H Φ' H'→qm8 K Φ' H' ds vs→Q vs H'
structure PAQ (K:PySem.W.Frag) (X:Cx) (es:List Expr) (t:TDL):Prop where pa:X.K=K→PA X es (lAQ K t)
theorem qas:PAQ K X [] qn3:=⟨fun _=>pa_nil.imp fun σ H Q hq0=>by obtain ⟨H0,Φ,ρ,R,E,t,k⟩:=hq0;exact k [] Φ H [] t (.refl E.fz) ⟨rfl,fun i v d hv _=>by simp at hv⟩⟩
theorem qam (ha:PQ K X e t) (hr:PAQ K X es tl) (hs:starEach (e::es) X.env=(false,eval e X.env)::starEach es X.env):PAQ K X (e::es) (qm3 t tl) :=
  ⟨fun hK=>(qaq (ha.pe hK) (hr.pa hK) hs).imp fun σ H Q hq0=>by obtain ⟨H0,Φ,ρ,R,E,t,k⟩:=hq0;exact ⟨H0,Φ,ρ,_,E,t,fun d Φ1 H1 v r g rv=>⟨H0,Φ1,ρ,_,E.gr g,r,fun ds Φ2 H2 vs r2 g2 rl =>
    k _ Φ2 H2 _ r2 (g.trans g2) ⟨by simp [rl.1],fun i u d hu hd=>by
      cases i with
      | zero=>cases hu;cases hd;exact rv.gr g2
      | succ i=>exact rl.2 i u d hu hd⟩⟩⟩⟩
def lC (K:PySem.W.Frag) (r:SpD):List V→Hp→VK→Prop:=fun vs H Q=>∃ Φ ds R,Same Φ H∧qm8 K Φ H ds vs∧r ds R∧∀ d Φ' H' v,R d→Gr Φ H Φ' H'→Rp K Φ' d v→Q v H'
structure CallD (K:PySem.W.Frag) (X:Cx) (f:Value) (r:SpD):Prop where c:X.K=K→qcv X f (lC K r)
theorem qaF {id:String} {r:SpD} (hc:CallD K X (.builtin id) r) (hg:Gl X x) (hm:X.mg x=none) (hv:bootBuiltins x=some (.builtin id)) (ha:PAQ K X (e::es) tl)
    (he:starEach (e::es) X.env=(false,eval e X.env)::starEach es X.env) (hpl:(backTo pos (starEach es X.env)).any (·.1)=false) (hn:x≠"__name__":=by decide) (hdb:(x == ("__debug__":Str))=false:=by decide):PD K X (.Call (.Name x p) (e::es) [] pos) (qjN r tl) :=
  ⟨fun hK=>(qbt (hc.c hK) hg hm hv (ha.pa hK) hn hdb he hpl).imp fun σ H Q hq0=>by obtain ⟨H0,Φ,ρ,R,E,t,k⟩:=hq0;exact ⟨H0,Φ,ρ,_,E,t,fun ds Φ1 H1 vs r g rl=>⟨Φ1,ds,R,g.s,rl,r,fun d Φ' H' v rd g' rv=>k d Φ' H' v rd (g.trans g') rv⟩⟩⟩
theorem qaC {T:String} {r:SpD} (hc:CallD K X (.type T) r) (hg:Gl X x) (hm:X.mg x=none) (hv:bootBuiltins x=some (.type T)) (ha:PAQ K X (e::es) tl)
    (he:starEach (e::es) X.env=(false,eval e X.env)::starEach es X.env) (hpl:(backTo pos (starEach es X.env)).any (·.1)=false) (hn:x≠"__name__":=by decide) (hdb:(x == ("__debug__":Str))=false:=by decide):PD K X (.Call (.Name x p) (e::es) [] pos) (qjN r tl) :=
  ⟨fun hK=>(qcy (hc.c hK) hg hm hv (ha.pa hK) hn hdb he hpl).imp fun σ H Q hq0=>by obtain ⟨H0,Φ,ρ,R,E,t,k⟩:=hq0;exact ⟨H0,Φ,ρ,_,E,t,fun ds Φ1 H1 vs r g rl=>⟨Φ1,ds,R,g.s,rl,r,fun d Φ' H' v rd g' rv=>k d Φ' H' v rd (g.trans g') rv⟩⟩⟩
theorem qcR {Φ H:Hp} {d:D} {vs:List V} (h:qm8 K Φ H [d] vs):∃ v,vs=[v]∧RpQ K Φ H d v:=by
  obtain ⟨h1,h2⟩:=h
  match vs,h1,h2 with
  | [v],_,h2=>exact ⟨v,rfl,h2 0 v d rfl rfl⟩
theorem qkM {Φ H:Hp} {d e:D} {vs:List V} (h:qm8 K Φ H [d,e] vs):∃ v w,vs=[v,w]∧RpQ K Φ H d v∧RpQ K Φ H e w:=by
  obtain ⟨h1,h2⟩:=h
  match vs,h1,h2 with
  | [v,w],_,h2=>exact ⟨v,w,rfl,h2 0 v d rfl rfl,h2 1 w e rfl rfl⟩
def qoA:SpD:=fun ds R=>match ds with | [.lst xs]=>R (.int xs.length) | [.tup xs]=>R (.int xs.length) | [.fzl xs]=>R (.int xs.length) | [.str z]=>z.length≤sizeLine∧R (.int z.length) | _=>False
theorem qbP:CallD K X (.builtin "len") qoA:=⟨fun hK pins s σ H xs us Q I rr hq0=>by
  obtain ⟨Φ,ds,R,sm,hl,h,k⟩:=hq0
  match ds,h with
  | [.lst xs],h =>
    obtain ⟨v,rfl,r⟩:=qcR hl
    obtain ⟨a,vs,rfl,q1,q2⟩:=r.lst sm
    exact qaS pins s σ H _ us Q I rr ⟨a,vs,rfl,.inl (.of q1),by rw [q2.1];exact k _ Φ H _ h (.refl sm) (.int _)⟩
  | [.tup xs],h =>
    obtain ⟨v,rfl,r⟩:=qcR hl
    obtain ⟨a,vs,rfl,q1,_,q2⟩:=r.tup sm
    exact qaS pins s σ H _ us Q I rr ⟨a,vs,rfl,.inr (hK ▸ q1),by rw [q2.1];exact k _ Φ H _ h (.refl sm) (.int _)⟩
  | [.fzl xs],h =>
    obtain ⟨v,rfl,r⟩:=qcR hl
    obtain ⟨a,vs,rfl,q1,q2⟩:=r.fzl sm
    exact qaS pins s σ H _ us Q I rr ⟨a,vs,rfl,.inl (hK ▸ q1),by rw [q2.1];exact k _ Φ H _ h (.refl sm) (.int _)⟩
  | [.str z],h =>
    obtain ⟨v,rfl,r⟩:=qcR hl
    cases r.str
    exact qf9 pins s σ H _ us Q I rr ⟨z,rfl,h.1,k _ Φ H _ h.2 (.refl sm) (.int _)⟩⟩
def qo5:SpD:=fun ds R=>match ds with | [.int i]=>R (.int (if i<0 then -i else i)) | _=>False
theorem qno:CallD K X (.builtin "abs") qo5:=⟨fun hK pins s σ H xs us Q I rr hq0=>by
  obtain ⟨Φ,ds,R,sm,hl,h,k⟩:=hq0
  match ds,h with
  | [.int i],h =>
    obtain ⟨v,rfl,r⟩:=qcR hl
    cases r.int
    exact qkd pins s σ H _ us Q I rr ⟨i,rfl,k _ Φ H _ h (.refl sm) (.int _)⟩⟩
def qnm:SpD:=fun ds R=>match ds with | [.int i,.int j]=>R (.int (if j>i then j else i)) | _=>False
def qnA:SpD:=fun ds R=>match ds with | [.int i,.int j]=>R (.int (if j<i then j else i)) | _=>False
theorem qeO (hc:X.calm=true):CallD K X (.builtin "max") qnm:=⟨fun hK pins s σ H xs us Q I rr hq0=>by
  obtain ⟨Φ,ds,R,sm,hl,h,k⟩:=hq0
  match ds,h with
  | [.int i,.int j],h =>
    obtain ⟨v,w,rfl,r1,r2⟩:=qkM hl
    cases r1.int
    cases r2.int
    exact qiw hc pins s σ H _ us Q I rr ⟨i,j,rfl,k _ Φ H _ h (.refl sm) (.int _)⟩⟩
theorem qmZ (hc:X.calm=true):CallD K X (.builtin "min") qnA:=⟨fun hK pins s σ H xs us Q I rr hq0=>by
  obtain ⟨Φ,ds,R,sm,hl,h,k⟩:=hq0
  match ds,h with
  | [.int i,.int j],h =>
    obtain ⟨v,w,rfl,r1,r2⟩:=qkM hl
    cases r1.int
    cases r2.int
    exact qi5 hc pins s σ H _ us Q I rr ⟨i,j,rfl,k _ Φ H _ h (.refl sm) (.int _)⟩⟩
theorem qip {Φ:Hp} {ns:List Int} {vs:List V} (h:RpL K Φ (ns.map D.int) vs):vs=ns.map V.int:=by
  refine List.ext_getElem? fun i=>?_
  rw [List.getElem?_map]
  cases e:ns[i]? with
  | none =>
    have:=List.getElem?_eq_none_iff.mp e
    rw [List.getElem?_eq_none (by rw [h.1,List.length_map];exact this)]
    rfl
  | some n =>
    obtain ⟨v,hv,r⟩:=h.at (i:=i) (d:=.int n) (by rw [List.getElem?_map,e];rfl)
    cases r
    rw [hv]
    rfl
theorem qjV {Φ:Hp} {bs:List Bool} {vs:List V} (h:RpL K Φ (bs.map D.bl) vs):vs=bs.map V.bl:=by
  refine List.ext_getElem? fun i=>?_
  rw [List.getElem?_map]
  cases e:bs[i]? with
  | none =>
    have:=List.getElem?_eq_none_iff.mp e
    rw [List.getElem?_eq_none (by rw [h.1,List.length_map];exact this)]
    rfl
  | some n =>
    obtain ⟨v,hv,r⟩:=h.at (i:=i) (d:=.bl n) (by rw [List.getElem?_map,e];rfl)
    cases r
    rw [hv]
    rfl
theorem RpQ.sqb {Φ H:Hp} {d:D} {v:V} {ds:List D} (s:Same Φ H) (h:RpQ K Φ H d v) (e:qjh d=some ds):∃ (q:Bool) (a:Addr) (vs:List V),v=.ref a∧SqB K q H a vs∧RpL K Φ ds vs:=by
  obtain ⟨a,vs,e1,h1,h2⟩:=h.seq s e
  rcases h1 with h1 | h1
  · exact ⟨true,a,vs,e1,h1,h2⟩
  · exact ⟨false,a,vs,e1,h1,h2⟩
def qoH:SpD:=fun ds R=>match ds with | [d]=>∃ ns:List Int,qjh d=some (ns.map D.int)∧R (.int ns.sum) | _=>False
theorem qm6 (hc:X.calm=true):CallD K X (.builtin "sum") qoH:=⟨fun hK pins s σ H xs us Q I rr hq0=>by
  obtain ⟨Φ,ds,R,sm,hl,h,k⟩:=hq0
  match ds,h with
  | [d],⟨ns,e,h⟩ =>
    obtain ⟨v,rfl,r⟩:=qcR hl
    obtain ⟨q,a,vs,rfl,q1,q2⟩:=r.sqb sm e
    rw [qip q2] at q1
    exact qjG q hc pins s σ H _ us Q I rr ⟨a,ns,rfl,hK ▸ q1,k _ Φ H _ h (.refl sm) (.int _)⟩⟩
def qpe (f:List Bool→Bool):SpD:=fun ds R=>match ds with | [d]=>∃ bs:List Bool,qjh d=some (bs.map D.bl)∧R (.bl (f bs)) | _=>False
theorem qlX (hc:X.calm=true):CallD K X (.builtin "all") (qpe fun bs=>bs.all id):=⟨fun hK pins s σ H xs us Q I rr hq0=>by
  obtain ⟨Φ,ds,R,sm,hl,h,k⟩:=hq0
  match ds,h with
  | [d],⟨ns,e,h⟩ =>
    obtain ⟨v,rfl,r⟩:=qcR hl
    obtain ⟨q,a,vs,rfl,q1,q2⟩:=r.sqb sm e
    rw [qjV q2] at q1
    exact qhl q hc pins s σ H _ us Q I rr ⟨a,ns,rfl,hK ▸ q1,k _ Φ H _ h (.refl sm) (.bl _)⟩⟩
def qme:SpD:=fun ds R=>match ds with | [.lst xs]=>R (.tup xs) | [.tup xs]=>R (.tup xs) | [.fzl xs]=>R (.tup xs) | _=>False
theorem qaK:CallD K X (.type "tuple") qme:=⟨fun hK pins s σ H xs us Q I rr hq0=>by
  obtain ⟨Φ,ds,R,sm,hl,h,k⟩:=hq0
  match ds,h with
  | [.lst xs],h =>
    obtain ⟨v,rfl,r⟩:=qcR hl
    obtain ⟨a,vs,rfl,q1,q2⟩:=r.lst sm
    exact qbu pins s σ H _ us Q I rr ⟨a,vs,rfl,.inl ⟨.of q1,fun p hp=>k _ _ _ _ h (.new sm hp _) ((q2.same (qaz (sm.free hp) _)).tup (.of qan))⟩⟩
  | [.fzl xs],h =>
    obtain ⟨v,rfl,r⟩:=qcR hl
    obtain ⟨a,vs,rfl,q1,q2⟩:=r.fzl sm
    exact qbu pins s σ H _ us Q I rr ⟨a,vs,rfl,.inl ⟨hK ▸ q1,fun p hp=>k _ _ _ _ h (.new sm hp _) ((q2.same (qaz (sm.free hp) _)).tup (.of qan))⟩⟩
  | [.tup xs],h =>
    obtain ⟨v,rfl,r⟩:=qcR hl
    obtain ⟨a,vs,rfl,q1,q3,q2⟩:=r.tup sm
    exact qbu pins s σ H _ us Q I rr ⟨a,vs,rfl,.inr ⟨hK ▸ q1,k _ Φ H _ h (.refl sm) (q2.tup q3)⟩⟩⟩
def qnR (t:TD):TDL:=fun ρ R=>t ρ fun d=>∃ ds,qjh d=some ds∧R ds
theorem qfz (hg:Gl X "list") (hm:X.mg "list"=none) (ha:PQ K X e t) (he:starEach [e] X.env=(false,eval e X.env)::starEach [] X.env):PF K X (.Call (.Name "list" p) [e] [] pos) (qnR t) :=
  ⟨fun hK=>(qcy qdU hg hm boot_list (qaq (ha.pe hK) pa_nil he) (by decide) (by decide) he qag).imp fun σ H Q hq0=>by obtain ⟨H0,Φ,ρ,R,E,t,k⟩:=hq0;exact ⟨H0,Φ,ρ,_,E,t,fun d Φ1 H1 v r g rv=>by
    obtain ⟨ds,e1,r⟩:=r
    obtain ⟨a,vs,rfl,q1,q2⟩:=rv.seq g.s e1
    exact ⟨a,vs,rfl,hK ▸ q1,fun l hl=>k _ _ _ l _ r (g.trans (.fresh g.s hl _)) (g.h.free hl) (g.s.free hl) qan q2⟩⟩⟩
def qoY:SpD:=fun ds R=>match ds with | [.int i]=>R (.int i) | [.bl b]=>R (.int (if b then 1 else 0)) | _=>False
theorem qlL:CallD K X (.type "int") qoY:=⟨fun hK pins s σ H xs us Q I rr hq0=>by
  obtain ⟨Φ,ds,R,sm,hl,h,k⟩:=hq0
  match ds,h with
  | [.int i],h =>
    obtain ⟨v,rfl,r⟩:=qcR hl
    cases r.int
    exact qgc pins s σ H _ us Q I rr (.inl ⟨i,rfl,k _ Φ H _ h (.refl sm) (.int _)⟩)
  | [.bl b],h =>
    obtain ⟨v,rfl,r⟩:=qcR hl
    cases r.bl
    exact qgc pins s σ H _ us Q I rr (.inr ⟨b,rfl,k _ Φ H _ h (.refl sm) (.int _)⟩)⟩
def qnp (d:D) (T:String):Option Bool:=match d with
  | .int _=>if T="int" then some true else if T="bool" then some false else if T="tuple" then some false else if T="str" then some false else none
  | .bl _=>if T="int" then some true else if T="bool" then some true else if T="tuple" then some false else none
  | .str _=>if T="str" then some true else if T="tuple" then some false else none
  | .tup _=>if T="tuple" then some true else if T="int" then some false else none
  | .lst _=>if T="tuple" then some false else if T="list" then some true else none
  | _=>none
end
structure SteadyD (K:PySem.W.Frag) (J:It) (Φ:Hp) (ds:List D):Prop where
  go:∀ i H,Same Φ H→i<ds.length→J.go i H
  yl:∀ i Φ2 H x H2 d,Same Φ Φ2→Same Φ2 H→ds[i]?=some d→J.yld i H x H2→∃ Φ3,Gr Φ2 H Φ3 H2∧Rp K Φ3 d x
  stop:∀ H,Same Φ H→J.stop ds.length H
section
variable {K : PySem.W.Frag} {Φ : Hp} {ds es : List D} {vs ws : List V} {a : Addr}
theorem qfX (h:SqL K Φ a vs) (r:RpL K Φ ds vs):SteadyD K (Itl K a) Φ ds :=
  ⟨fun i H s hi=>⟨vs,vs[i]'(by rw [r.1];exact hi),s.seq h,qaI _⟩,fun i Φ2 H x H2 d s2 s hd y=>by
    obtain ⟨e,y⟩:=y
    subst e
    exact ⟨Φ2,.refl s,(r.2 i x d (y vs ((s2.trans s).seq h)) hd).same s2⟩,fun H s=>⟨vs,s.seq h,by rw [r.1];exact Nat.le_refl _⟩⟩
theorem qgB (h:SqT K Φ a vs) (r:RpL K Φ ds vs):SteadyD K (Itt K a) Φ ds :=
  ⟨fun i H s hi=>⟨vs,vs[i]'(by rw [r.1];exact hi),s.sqt h,qaI _⟩,fun i Φ2 H x H2 d s2 s hd y=>by
    obtain ⟨e,y⟩:=y
    subst e
    exact ⟨Φ2,.refl s,(r.2 i x d (y vs ((s2.trans s).sqt h)) hd).same s2⟩,fun H s=>⟨vs,s.sqt h,by rw [r.1];exact Nat.le_refl _⟩⟩
def qdd (lo:Int) (n:Nat):List D:=(List.range n).map fun i=>D.int (lo+(i:Nat))
theorem qbm (lo:Int) (n:Nat):(qdd lo n).length=n:=by unfold qdd;simp
theorem qbK {lo:Int} {n i:Nat} {d:D} (h:(qdd lo n)[i]?=some d):i<n∧d=.int (lo+(i:Nat)):=by
  have hi:i<n:=by have:=qbe h;rwa [qbm] at this
  unfold qdd at h
  rw [List.getElem?_map,List.getElem?_range hi] at h
  cases h
  exact ⟨hi,rfl⟩
theorem qdF {lo:Int} {n:Nat}:SteadyD K (Itr lo n) Φ (qdd lo n) :=
  ⟨fun i H s hi=>by rw [qbm] at hi;exact hi,fun i Φ2 H x H2 d s2 s hd y=>by
    obtain ⟨e,y⟩:=y
    subst e y
    rw [(qbK hd).2]
    exact ⟨Φ2,.refl s,.int _⟩,fun H s=>by rw [qbm];exact Nat.le_refl n⟩
def qe7 (ds:List D):List D:=ds.zipIdx.map fun p=>.tup [.int (p.2:Nat),p.1]
theorem qcY (ds:List D):(qe7 ds).length=ds.length:=by unfold qe7;simp
theorem qd6 {i:Nat} {d:D} (h:(qe7 ds)[i]?=some d):∃ e,ds[i]?=some e∧d=.tup [.int (i:Nat),e]:=by
  unfold qe7 at h
  rw [List.getElem?_map,List.getElem?_zipIdx] at h
  cases e:ds[i]? with
  | none=>rw [e] at h;cases h
  | some x=>rw [e] at h;cases h;exact ⟨x,rfl,by simp⟩
theorem Rp.pair {H:Hp} {t:Addr} {d e:D} {x y:V} (h:H t=some (.tup [x,y])) (r1:Rp K H d x) (r2:Rp K H e y):Rp K H (.tup [d,e]) (.ref t):=(RpL.cons r1 (.one r2)).tup (.of h)
theorem qge {b:Bool} (h:SqB K b Φ a vs) (r:RpL K Φ ds vs):SteadyD K (Ite K b a) Φ (qe7 ds) :=
  ⟨fun i H s hi=>by rw [qcY] at hi;exact ⟨vs,vs[i]'(by rw [r.1];exact hi),SqB.same s h,qaI _⟩,fun i Φ2 H x H2 d s2 s hd y=>by
    obtain ⟨t,v,hn,e,e',y⟩:=y
    subst e e'
    obtain ⟨e,he,rfl⟩:=qd6 hd
    have rv:=(r.2 i v e (y vs (SqB.same (s2.trans s) h)) he).same (s2.trans (qaz (s.free hn) (.tup [.int i,v])))
    exact ⟨_,.new s hn _,.pair qan (.int _) rv⟩,fun H s=>by rw [qcY];exact ⟨vs,SqB.same s h,by rw [r.1];exact Nat.le_refl _⟩⟩
def qhN (ds es:List D):List D:=List.zipWith (fun x y=>.tup [x,y]) ds es
theorem qha (ds es:List D):(qhN ds es).length=min ds.length es.length:=by unfold qhN;simp
theorem qk9 {i:Nat} {d:D} (h:(qhN ds es)[i]?=some d):∃ x y,ds[i]?=some x∧es[i]?=some y∧d=.tup [x,y]:=by
  unfold qhN at h
  rw [List.getElem?_zipWith] at h
  cases e:ds[i]? with
  | none=>rw [e] at h;cases h
  | some x =>
    cases e2:es[i]? with
    | none=>rw [e,e2] at h;cases h
    | some y=>rw [e,e2] at h;cases h;exact ⟨x,y,rfl,rfl,rfl⟩
theorem qgs {b1 b2:Bool} {a1 a2:Addr} (h1:SqB K b1 Φ a1 vs) (h2:SqB K b2 Φ a2 ws) (r1:RpL K Φ ds vs) (r2:RpL K Φ es ws):SteadyD K (Itz K b1 a1 b2 a2) Φ (qhN ds es) :=
  ⟨fun i H s hi=>by
    rw [qha] at hi
    have i1:i<vs.length:=by rw [r1.1];omega
    have i2:i<ws.length:=by rw [r2.1];omega
    exact ⟨vs,ws,vs[i],ws[i],SqB.same s h1,SqB.same s h2,qaI i1,qaI i2⟩,fun i Φ2 H x H2 d s2 s hd y=>by
    obtain ⟨t,u,v,hn,e,e',y1,y2⟩:=y
    subst e e'
    obtain ⟨p,q,hp,hq,rfl⟩:=qk9 hd
    have sn:=s2.trans (qaz (s.free hn) (.tup [u,v]))
    exact ⟨_,.new s hn _,.pair qan ((r1.2 i u p (y1 vs (SqB.same (s2.trans s) h1)) hp).same sn) ((r2.2 i v q (y2 ws (SqB.same (s2.trans s) h2)) hq).same sn)⟩,fun H s=>by
    rw [qha]
    exact ⟨vs,ws,SqB.same s h1,SqB.same s h2,by rw [r1.1,r2.1];omega⟩⟩
end
def lI (K:PySem.W.Frag) (t:TDL):TI:=fun σ H R'=>∃ H0 Φ ρ R,EnvD K H0 Φ H σ ρ∧t ρ R∧∀ ds Φ' H' J,R ds→Gr Φ H Φ' H'→SteadyD K J Φ' ds→R' J H'
structure PID (K:PySem.W.Frag) (X:Cx) (tg e:Expr) (t:TDL):Prop where pi:X.K=K→PI X tg e (lI K t)
theorem PI.imp {X:Cx} {tg e:Expr} {t t':TI} (h:PI X tg e t) (k:∀ σ H R,t' σ H R→t σ H R):PI X tg e t':=fun pins s σ H R I hw=>h pins s σ H R I (k σ H R hw)
section
variable {K : PySem.W.Frag} {X : Cx} {tg e a b : Expr} {es : List Expr} {pos p tp : Pos} {t ta tb : TD} {tl : TDL}
theorem qkj {es:List Expr} {k:Nat} {t:TGs} {n:Nat} (hK:X.K=K) (hc:X.calm=true) (h:PGs X es t) (hn:(assignEach es X.env).length=n) (hst:(assignEach es X.env).findIdx? (·.1)=none):PG X (.Tuple es k pos) (qnd K n t):=hK ▸ qgS hc h hn hst
theorem qjZ {es:List Expr} {k:Nat} {t:TGs} {n:Nat} (hK:X.K=K) (hc:X.calm=true) (h:PGs X es t) (hn:(assignEach es X.env).length=n) (hst:(assignEach es X.env).findIdx? (·.1)=none):PG X (.Tuple es k pos) (qn4 K n t):=hK ▸ ql4 hc h hn hst
def qlt (t:TDL):TDL:=fun ρ R=>t ρ fun ds=>match ds with | [.int j]=>(-(2 ^ 62)≤j∧j<2 ^ 62)∧R (qdd 0 j.toNat) | _=>False
def qk5 (t:TDL):TDL:=fun ρ R=>t ρ fun ds=>match ds with | [.int i,.int j]=>(-(2 ^ 62)≤i∧i<2 ^ 62∧-(2 ^ 62)≤j∧j<2 ^ 62)∧R (qdd i (j - i).toNat) | _=>False
theorem RpL.one_inv {Φ:Hp} {d:D} {vs:List V} (h:RpL K Φ [d] vs):∃ v,vs=[v]∧Rp K Φ d v:=by
  obtain ⟨h1,h2⟩:=h
  match vs,h1,h2 with
  | [v],_,h2=>exact ⟨v,rfl,h2 0 v d rfl rfl⟩
theorem RpL.two_inv {Φ:Hp} {d e:D} {vs:List V} (h:RpL K Φ [d,e] vs):∃ v w,vs=[v,w]∧Rp K Φ d v∧Rp K Φ e w:=by
  obtain ⟨h1,h2⟩:=h
  match vs,h1,h2 with
  | [v,w],_,h2=>exact ⟨v,w,rfl,h2 0 v d rfl rfl,h2 1 w e rfl rfl⟩
theorem qbs (hg:Gl X "range") (hm:X.mg "range"=none) (ha:PAD K X [a] tl) (hs:starEach [a] X.env=[(false,eval a X.env)]:=by rfl):PID K X tg (.Call (.Name "range" p) [a] [] pos) (qlt tl) :=
  ⟨fun hK=>(qiT hg hm (ha.pa hK) hs).imp fun σ H R' hq0=>by obtain ⟨H0,Φ,ρ,R,E,t,k⟩:=hq0;exact ⟨H0,Φ,ρ,_,E,t,fun ds Φ1 H1 vs r g rv _=>by
    match ds,r with
    | [.int j],r =>
      obtain ⟨v,rfl,r1⟩:=rv.one_inv
      cases r1
      exact ⟨j,rfl,r.1.1,r.1.2,k _ Φ1 H1 _ r.2 g qdF⟩⟩⟩
theorem qg5 (hg:Gl X "range") (hm:X.mg "range"=none) (ha:PAD K X [a,b] tl) (hs:starEach [a,b] X.env=[(false,eval a X.env),(false,eval b X.env)]:=by rfl) (hs2:starEach [b] X.env=[(false,eval b X.env)]:=by rfl):PID K X tg (.Call (.Name "range" p) [a,b] [] pos) (qk5 tl) :=
  ⟨fun hK=>(qhS hg hm (ha.pa hK) hs hs2).imp fun σ H R' hq0=>by obtain ⟨H0,Φ,ρ,R,E,t,k⟩:=hq0;exact ⟨H0,Φ,ρ,_,E,t,fun ds Φ1 H1 vs r g rv _=>by
    match ds,r with
    | [.int i,.int j],r =>
      obtain ⟨v,w,rfl,r1,r2⟩:=rv.two_inv
      cases r1
      cases r2
      exact ⟨i,j,rfl,r.1,k _ Φ1 H1 _ r.2 g qdF⟩⟩⟩
end
abbrev TGD:=D→Rho→(Rho→Prop)→Prop
abbrev qhJ:=List D→Rho→(Rho→Prop)→Prop
def lG (K:PySem.W.Frag) (g:TGD):TG:=fun v σ H Q=>∃ H0 Φ ρ d R,EnvD K H0 Φ H σ ρ∧Rp K Φ d v∧g d ρ R∧∀ ρ' σ',R ρ'→EnvD K H0 Φ H σ' ρ'→Q σ' H
def lGs (K:PySem.W.Frag) (g:qhJ):TGs:=fun vs σ H Q=>∃ H0 Φ ρ ds R,EnvD K H0 Φ H σ ρ∧RpL K Φ ds vs∧g ds ρ R∧∀ ρ' σ',R ρ'→EnvD K H0 Φ H σ' ρ'→Q σ' H
structure PGD (K:PySem.W.Frag) (X:Cx) (e:Expr) (g:TGD):Prop where pg:X.K=K→PG X e (lG K g)
structure PGDs (K:PySem.W.Frag) (X:Cx) (es:List Expr) (g:qhJ):Prop where pg:X.K=K→PGs X es (lGs K g)
theorem PG.imp {X:Cx} {e:Expr} {t t':TG} (h:PG X e t) (k:∀ v σ H Q,t' v σ H Q→t v σ H Q):PG X e t':=fun pins s σ H v u Q I r hw=>h pins s σ H v u Q I r (k v σ H Q hw)
theorem PGs.imp {X:Cx} {e:List Expr} {t t':TGs} (h:PGs X e t) (k:∀ v σ H Q,t' v σ H Q→t v σ H Q):PGs X e t':=fun pins s σ H v u Q I r hw=>h pins s σ H v u Q I r (k v σ H Q hw)
section
variable {K : PySem.W.Frag} {X : Cx} {e : Expr} {es : List Expr} {pos : Pos} {g : TGD} {gs : qhJ}
def qne (i:Nat):TGD:=fun d ρ R=>R (ρ.set i (some (.v d)))
theorem qav {i:Nat} {x:Str} (hN:X.N.Nodup) (hi:X.N[i]?=some x) (hx:Loc X.env.scope x) (hf:X.fn x=true∨X.env.scope.names.lookup x=some .local:=by first | exact .inl rfl | exact .inr rfl | assumption):PGD K X (.Name x pos) (qne i) :=
  ⟨fun _=>(qcd hN hi hx hf).imp fun v σ H Q hq0=>by obtain ⟨H0,Φ,ρ,d,R,E,r,g,k⟩:=hq0;exact k _ _ g (E.set r i)⟩
def qk2:qhJ:=fun ds ρ R=>match ds with | []=>R ρ | _=>False
def qgT (t:TGD) (u:qhJ):qhJ:=fun ds ρ R=>match ds with | d::r=>t d ρ fun ρ'=>u r ρ' R | []=>False
theorem qbw:PGDs K X [] qk2:=⟨fun _=>pgs_nil.imp fun v σ H Q hq0=>by
  obtain ⟨H0,Φ,ρ,ds,R,E,r,g,k⟩:=hq0
  cases ds with
  | nil=>exact ⟨List.length_eq_zero_iff.mp r.1,k _ _ g E⟩
  | cons=>exact g.elim⟩
theorem qaB (h1:PGD K X e g) (h2:PGDs K X es gs) (hs:(assignEach (e::es) X.env).map (·.2)=assign e X.env::(assignEach es X.env).map (·.2):=by rfl):PGDs K X (e::es) (qgT g gs) :=
  ⟨fun hK=>(qcE (h1.pg hK) (h2.pg hK) hs).imp fun vs σ H Q hq0=>by
    obtain ⟨H0,Φ,ρ,ds,R,E,r,g,k⟩:=hq0
    cases ds with
    | nil=>exact g.elim
    | cons d ds =>
      cases vs with
      | nil=>exact absurd r.1 (by simp)
      | cons v vs =>
        refine ⟨v,vs,rfl,H0,Φ,ρ,d,_,E,r.2 0 v d rfl rfl,g,fun ρ' σ' g' E'=>⟨H0,Φ,ρ',ds,R,E',⟨by have:=r.1;simpa using this,fun i u f hu hf=>r.2 (i+1) u f hu hf⟩,g',k⟩⟩⟩
end
def qgZ (cap:List (Option Nat)) (ρ:Rho):Rho:=cap.map fun o=>o.bind fun i=>(ρ[i]?).join
theorem qiL {α:Type} {o:Option (Option α)} {x:α} (h:o.join=some x):o=some (some x):=by
  cases o with
  | none=>cases h
  | some o=>cases o with
    | none=>cases h
    | some y=>cases h;rfl
theorem qeN {α:Type} {cap:List (Option Nat)} {l:List (Option α)} {i:Nat} {x:α} (h:(cap.map fun o=>o.bind fun i=>(l[i]?).join)[i]?=some (some x)):∃ j,cap[i]?=some (some j)∧l[j]?=some (some x):=by
  rw [List.getElem?_map] at h
  cases e:cap[i]? with
  | none=>rw [e] at h;cases h
  | some o =>
    rw [e] at h
    cases o with
    | none=>cases h
    | some j=>exact ⟨j,rfl,qiL (by simpa using h)⟩
theorem EnvD.cap {K:PySem.W.Frag} {H0 Φ H:Hp} {σ:St} {ρ:Rho} {cap:List (Option Nat)} (E:EnvD K H0 Φ H σ ρ) (inj:∀ i j k:Nat,cap[i]?=some (some k)→cap[j]?=some (some k)→i=j):EnvD K H0 Φ H (qdM cap σ) (qgZ cap ρ):=by
  have st:∀ {i j:Nat} {v:V},cap[i]?=some (some j)→σ[j]?=some (some v)→(qdM cap σ)[i]?=some (some v):=fun hc hs=>by
    unfold qdM
    rw [List.getElem?_map,hc]
    simp [hs]
  have ts:∀ {i j:Nat} {v:V},cap[i]?=some (some j)→(qdM cap σ)[i]?=some (some v)→σ[j]?=some (some v):=fun hc hs=>by
    obtain ⟨j',h1,h2⟩:=qeN hs
    rw [hc] at h1
    cases h1
    exact h2
  refine ⟨E.fz,by unfold qdM qgZ;simp,fun i d h=>?_,fun i ds h=>?_,fun i j ds es p hi hj si sj=>?_,E.tb⟩
  · obtain ⟨j,h1,h2⟩:=qeN h
    obtain ⟨v,e,r⟩:=E.sl j d h2
    exact ⟨v,st h1 e,r⟩
  · obtain ⟨j,h1,h2⟩:=qeN h
    obtain ⟨p,vs,e,q⟩:=E.ow j ds h2
    exact ⟨p,vs,st h1 e,q⟩
  · obtain ⟨i',h1,h2⟩:=qeN hi
    obtain ⟨j',h3,h4⟩:=qeN hj
    have:=E.ne i' j' ds es p h2 h4 (ts h1 si) (ts h3 sj)
    subst this
    exact inj i j i' h1 h3
structure GK (k:Nat) (g:TGD):Prop where p:∀ d ρ R,g d ρ R→g d ρ fun ρ1=>ρ1.length=ρ.length∧ρ1.drop k=ρ.drop k∧R ρ1
structure GKs (k:Nat) (g:qhJ):Prop where p:∀ ds ρ R,g ds ρ R→g ds ρ fun ρ1=>ρ1.length=ρ.length∧ρ1.drop k=ρ.drop k∧R ρ1
theorem qm0 {k i:Nat} (h:i<k):GK k (qne i):=⟨fun d ρ R r=>⟨by simp,by rw [List.drop_set_of_lt h],r⟩⟩
theorem qmc {k:Nat}:GKs k qk2:=⟨fun ds ρ R r=>by
  cases ds with
  | nil=>exact ⟨rfl,rfl,r⟩
  | cons=>exact r⟩
theorem qgt {t:TGD} {u:qhJ} (ht:∀ d ρ R R',(∀ x,R x→R' x)→t d ρ R→t d ρ R') (hu:∀ d ρ R R',(∀ x,R x→R' x)→u d ρ R→u d ρ R'):∀ d ρ R R',(∀ x,R x→R' x)→qgT t u d ρ R→qgT t u d ρ R':=by
  intro ds ρ R R' h r
  cases ds with
  | nil=>exact r
  | cons d ds=>exact ht d ρ _ _ (fun x hx=>hu ds x _ _ h hx) r
structure GM (k:Nat) (g:TGD):Prop where
  k:GK k g
  m:∀ d ρ R R',(∀ x,R x→R' x)→g d ρ R→g d ρ R'
structure GMs (k:Nat) (g:qhJ):Prop where
  k:GKs k g
  m:∀ d ρ R R',(∀ x,R x→R' x)→g d ρ R→g d ρ R'
theorem qa7 {k i:Nat} (h:i<k):GM k (qne i):=⟨qm0 h,fun d ρ R R' h r=>h _ r⟩
theorem qhm {k:Nat}:GMs k qk2:=⟨qmc,fun ds ρ R R' h r=>by
  cases ds with
  | nil=>exact h _ r
  | cons=>exact r⟩
theorem qc0 {k:Nat} {t:TGD} {u:qhJ} (h1:GM k t) (h2:GMs k u):GMs k (qgT t u):=⟨⟨fun ds ρ R r=>by
  cases ds with
  | nil=>exact r
  | cons d ds =>
    have r1:t d ρ fun ρ'=>u ds ρ' R:=r
    refine h1.m _ _ _ _ (fun ρ1 q=>?_) (h1.k.p d ρ _ r1)
    exact h2.m _ _ _ _ (fun ρ2 q2=>⟨q2.1.trans q.1,q2.2.1.trans q.2.1,q2.2.2⟩) (h2.k.p ds ρ1 R q.2.2)⟩,qgt h1.m h2.m⟩
def qlp:TDB:=fun _ R=>R true
structure PIfD (K:PySem.W.Frag) (X:Cx) (ifs:List Expr) (t:TDB):Prop where p:X.K=K→qlS X ifs (lT K t)
theorem qkN {K:PySem.W.Frag} {X:Cx}:PIfD K X [] qlp:=⟨fun _ pins s σ H Q I hq0=>by obtain ⟨H0,Φ,ρ,R,E,t,k⟩:=hq0;exact qc4 pins s σ H Q I (k true Φ H t (.refl E.fz))⟩
theorem qkl {K:PySem.W.Frag} {X:Cx} {c:Expr} {t:TDB} (h:PTD K X c t):PIfD K X [c] t:=⟨fun hK=>qj6 (h.pt hK)⟩
theorem EnvD.side {K:PySem.W.Frag} {H0 Φ H:Hp} {σ:St} {ρ:Rho} {p:Addr} {o u:HO} (E:EnvD K H0 Φ H σ ρ) (h0:H0 p=some u) (hn:Φ p=none):EnvD K H0 Φ (upd H p o) σ ρ :=
  ⟨fun b w e=>by rw [qaA (qaE e hn)];exact E.fz b w e,E.len,E.sl,fun i ds h=>by
    obtain ⟨q,vs,e,q0,qn,qp,qr⟩:=E.ow i ds h
    exact ⟨q,vs,e,q0,qn,by rw [qaA fun z=>by rw [z,h0] at q0;cases q0];exact qp,qr⟩,E.ne,E.tb⟩
theorem EnvD.base {K:PySem.W.Frag} {H0 Φ H:Hp} {σ:St} {ρ:Rho} {p:Addr} {u:HO} (E:EnvD K H0 Φ H σ ρ) (hp:H p=none):EnvD K (upd H0 p u) Φ H σ ρ :=
  ⟨E.fz,E.len,E.sl,fun i ds h=>by
    obtain ⟨q,vs,e,q0,qn,qp,qr⟩:=E.ow i ds h
    exact ⟨q,vs,e,by rw [qaA (qaE qp hp)];exact q0,qn,qp,qr⟩,E.ne,E.tb⟩
def qkQ (ti:TDL) (cap:List (Option Nat)) (g:TGD) (tc:TDB) (te:TD):TDL:=fun ρ R=>ti ρ fun ds=>ds.length<sizeLine∧∃ P:Nat→Option D→Prop,
  (∀ i d,ds[i]?=some d→g d (qgZ cap ρ) fun ρ1=>tc ρ1 fun b=>(b=true→te ρ1 fun y=>P i (some y))∧(b=false→P i none))∧∀ ys:List (Option D),ys.length=ds.length→(∀ i y,ys[i]?=some y→P i y)→R (ys.filterMap id)
theorem qld (ys:List (Option D)) (y:D):(ys++[some y]).filterMap id=ys.filterMap id++[y]:=by simp
theorem qjr (ys:List (Option D)):(ys++[none]).filterMap id=ys.filterMap id:=by simp
theorem qm1 (ys:List (Option D)):(ys.filterMap id).length≤ys.length:=List.length_filterMap_le _ _
theorem qgP {α:Type} {ys:List α} {y:α} {P:Nat→α→Prop} {n:Nat} (hl:ys.length=n) (h:∀ i z,ys[i]?=some z→P i z) (hy:P n y):∀ i z,(ys++[y])[i]?=some z→P i z:=by
  intro i z hz
  rcases Nat.lt_or_ge i ys.length with c | c
  · rw [List.getElem?_append_left c] at hz
    exact h i z hz
  · rw [List.getElem?_append_right c] at hz
    have h0:i - ys.length=0:=by
      rcases Nat.eq_zero_or_pos (i - ys.length) with e | e
      · exact e
      · rw [List.getElem?_eq_none (by simp only [List.length_cons,List.length_nil];omega)] at hz;cases hz
    rw [h0] at hz
    cases hz
    have:i=n:=by omega
    subst this
    exact hy
def qem (k:Nat) (cap:List (Option Nat)):Bool:=(cap.take k).all (·.isNone) && decide ((cap.filterMap id).Nodup)
theorem qis {k:Nat} {cap:List (Option Nat)} (h:qem k cap=true) {i:Nat} (hi:i<k) {o:Option Nat} (e:cap[i]?=some o):o=none:=by
  unfold qem at h
  rw [Bool.and_eq_true] at h
  have:=List.all_eq_true.mp h.1 o (List.mem_of_getElem? (i:=i) (by rw [List.getElem?_take_of_lt hi];exact e))
  cases o with
  | none=>rfl
  | some _=>cases this
theorem qim {k:Nat} {cap:List (Option Nat)} (h:qem k cap=true):∀ i j n:Nat,cap[i]?=some (some n)→cap[j]?=some (some n)→i=j:=by
  unfold qem at h
  rw [Bool.and_eq_true] at h
  have nd:=of_decide_eq_true h.2
  clear h
  induction cap with
  | nil=>intro i j n hi;simp at hi
  | cons o cap ih =>
    intro i j n hi hj
    have nd':(cap.filterMap id).Nodup:=by
      cases o with
      | none=>simpa using nd
      | some m => have e : (some m :: cap).filterMap id = m :: cap.filterMap id := rfl
                  rw [e] at nd;exact (List.nodup_cons.mp nd).2
    have one:∀ {i:Nat},o=some n→cap[i]?=some (some n)→False:=fun {i} ho hi'=>by
      subst ho
      have e:(some n::cap).filterMap id=n::cap.filterMap id:=rfl
      rw [e] at nd
      exact (List.nodup_cons.mp nd).1 (List.mem_filterMap.mpr ⟨some n,List.mem_of_getElem? hi',rfl⟩)
    cases i with
    | zero=>cases j with
      | zero=>rfl
      | succ j=>exact (one (by simpa using hi) (by simpa using hj)).elim
    | succ i=>cases j with
      | zero=>exact (one (by simpa using hj) (by simpa using hi)).elim
      | succ j=>exact congrArg Nat.succ (ih nd' i j n (by simpa using hi) (by simpa using hj))
section
variable {K : PySem.W.Frag} {X : Cx} {tg iter elt : Expr} {ifs : List Expr} {scope : Scope} {pos : Pos} {N' : List Str} {cap : List (Option Nat)} {ti : TDL} {g : TGD} {tc : TDB} {te : TD}
theorem qga {k:Nat} (hcap:qem k cap=true) (hk:GM k g) {σ:St} {H:Hp} {Q:VK} {H0 Φ:Hp} {ρ:Rho} {R W:List D→Prop} (E:EnvD K H0 Φ H σ ρ) (t:ti ρ W)
    (conv:∀ ds,W ds→ds.length<sizeLine∧∃ P:Nat→Option D→Prop,(∀ i d,ds[i]?=some d→g d (qgZ cap ρ) fun ρ1=>tc ρ1 fun b=>(b=true→te ρ1 fun y=>P i (some y))∧(b=false→P i none))∧∀ ys:List (Option D),ys.length=ds.length→(∀ i y,ys[i]?=some y→P i y)→R (ys.filterMap id))
    (kk:∀ ds Φ' H' p vs,R ds→Gr Φ H Φ' H'→H p=none→Φ' p=none→H' p=some (.lst vs)→RpL K Φ' ds vs→Q (.ref p) H'):qgm (lI K ti) cap (lG K g) (lT K tc) (lE K te) σ H Q:=by
  refine ⟨H0,Φ,ρ,W,E,t,fun ds Φ1 H1 J hW g1 S Dd hD=>?_⟩
  obtain ⟨hlen,P,hp,hr⟩:=conv ds hW
  have E1:=E.gr g1
  have hDΦ:Φ1 Dd=none:=g1.s.free hD
  have C0:EnvD K (upd H0 Dd (.lst [])) Φ1 (upd H1 Dd (.lst [])) (qdM cap σ) (qgZ cap ρ):=((E1.base (u:=.lst []) hD).side (o:=.lst []) qan hDΦ).cap (qim hcap)
  refine ⟨fun i m σ' H'=>m=ds.length - i∧i≤ds.length∧∃ (Φ':Hp) (vs:List V) (ys:List (Option D)),EnvD K (upd H0 Dd (.lst [])) Φ' H' σ' (qgZ cap ρ)∧Gr Φ1 H1 Φ' H'∧Φ' Dd=none∧H' Dd=some (.lst vs)∧RpL K Φ' (ys.filterMap id) vs∧ys.length=i∧∀ j y,ys[j]?=some y→P j y,⟨ds.length,by simp,Nat.zero_le _,Φ1,[],[],C0,.fresh g1.s hD _,hDΦ,qan,.nil,rfl,fun j y hj=>by simp at hj⟩,?_⟩
  rintro i m σ' H' ⟨rfl,hi,Φ',vs,ys,Ei,gi,hDi,hDl,hrl,hyl,hy⟩
  by_cases hlt:i<ds.length
  · refine .inr ⟨S.go i H' (gi.f.trans gi.s) hlt,fun σ2 H2=>∃ (Φ':Hp) (vs:List V) (ys:List (Option D)),EnvD K (upd H0 Dd (.lst [])) Φ' H2 σ2 (qgZ cap ρ)∧Gr Φ1 H1 Φ' H2∧Φ' Dd=none∧H2 Dd=some (.lst vs)∧RpL K Φ' (ys.filterMap id) vs∧ys.length=i+1∧∀ j y,ys[j]?=some y→P j y,fun σ2 H2 h2=>⟨ds.length - (i+1),by omega,rfl,hlt,h2⟩,fun x H2 y=>?_⟩
    obtain ⟨Φ3,g3,rx⟩:=S.yl i Φ' H' x H2 _ gi.f gi.s (qaI hlt) y
    have E3:=Ei.gr g3
    refine ⟨_,Φ3,qgZ cap ρ,_,_,E3,rx,hk.k.p _ _ _ (hp i _ (qaI hlt)),fun ρ1 σ3 hq0 E4=>?_⟩
    obtain ⟨hl1,hd1,t1⟩:=hq0
    have wk:∀ (j:Nat) x,(qgZ cap ρ)[j]?=some (some x)→ρ1[j]?=some (some x):=fun j x hj=>by
      rcases Nat.lt_or_ge j k with c | c
      · obtain ⟨n,h1,_⟩:=qeN hj
        cases qis hcap c h1
      · have e1:(qgZ cap ρ)[j]?=((qgZ cap ρ).drop k)[j - k]?:=by rw [List.getElem?_drop];congr 1;omega
        have e2:ρ1[j]?=(ρ1.drop k)[j - k]?:=by rw [List.getElem?_drop];congr 1;omega
        rw [e2,hd1,← e1]
        exact hj
    have hD3:Φ3 Dd=none:=g3.o _ _ hDl hDi
    refine ⟨_,Φ3,ρ1,_,E4,t1,fun b Φ4 H4 rb g4=>?_⟩
    have E5:=(E4.gr g4)
    have hDl4:=g4.h _ _ (g3.h _ _ hDl)
    have hD4:Φ4 Dd=none:=g4.o _ _ (g3.h _ _ hDl) hD3
    cases b with
    | false =>
      refine qiy ?_
      refine ⟨Φ4,vs,ys++[none],E5.weak hl1.symm wk,(gi.trans g3).trans g4,hD4,hDl4,?_,by rw [List.length_append,hyl];rfl,qgP hyl hy (rb.2 rfl)⟩
      rw [qjr]
      exact (hrl.same g3.f).same g4.f
    | true =>
      refine qgk ?_
      refine ⟨_,Φ4,ρ1,_,E5,rb.1 rfl,fun d Φ5 H5 v rd g5 rv=>?_⟩
      have E6:=E5.gr g5
      have hDl5:=g5.h _ _ hDl4
      have hD5:Φ5 Dd=none:=g5.o _ _ hDl4 hD4
      have gg:=((gi.trans g3).trans g4).trans g5
      refine ⟨vs,hDl5,?_,Φ5,vs++[v],ys++[some d],(E6.weak hl1.symm wk).side qan hD5,?_,hD5,qan,?_,by rw [List.length_append,hyl];rfl,qgP hyl hy rd⟩
      · have:=qm1 ys
        rw [hrl.1]
        omega
      · exact ⟨gg.f,qfp gg.h hD _,fun b u e=>by rw [qaA (qaE e hD5)];exact gg.s b u e,fun p u hp hn k=>gg.o p u hp hn k⟩
      · rw [qld]
        exact (((hrl.same g3.f).same g4.f).same g5.f).append (.one rv)
  · have e:i=ds.length:=by omega
    subst e
    exact .inl ⟨S.stop H' (gi.f.trans gi.s),kk _ Φ' H' Dd vs (hr ys hyl hy) (g1.trans gi) (g1.h.free hD) hDi hDl hrl⟩
theorem qfS {k:Nat} (hcap:qem k cap=true) (hk:GM k g) {σ:St} {H:Hp} {Q:VK} (h:lF K (qkQ ti cap g tc te) σ H Q):qgm (lI K ti) cap (lG K g) (lT K tc) (lE K te) σ H Q:=by
  obtain ⟨H0,Φ,ρ,R,E,t,kk⟩:=h
  exact qga hcap hk E t (fun ds h=>h) kk
theorem qm2 {k:Nat} (hcalm:X.calm=true) (S:CompScope X.N X.env.scope scope N' cap) (hcap:qem k cap=true) (hk:GM k g) (hi:PID K X tg iter ti)
    (hg:∀ (cl:List (Str × Addr)) (fp:List Addr) (C:Addr) (s0:Shared) (H0:Hp),PGD K (qbf X scope N' cl C s0 H0 fp) tg g) (ht:∀ (cl:List (Str × Addr)) (fp:List Addr) (C:Addr) (s0:Shared) (H0:Hp),PIfD K (qbf X scope N' cl C s0 H0 fp) ifs tc)
    (he:∀ (cl:List (Str × Addr)) (fp:List Addr) (C:Addr) (s0:Shared) (H0:Hp),PD K (qbf X scope N' cl C s0 H0 fp) elt te) (hs:∀ x,foldedSetIterable iter X.env x=pure x:=by intro _;rfl):PF K X (.ListComp elt [⟨tg,iter,ifs,0⟩] scope pos) (qkQ ti cap g tc te) :=
  ⟨fun hK=>(qdP hcalm S (hi.pi hK) (fun cl fp C s0 H0=>(hg cl fp C s0 H0).pg hK) (fun cl fp C s0 H0=>(ht cl fp C s0 H0).p hK) (fun cl fp C s0 H0=>(he cl fp C s0 H0).pe hK) hs).imp fun _ _ _=>qfS hcap hk⟩
def qhO (ti:TDL) (cap:List (Option Nat)) (g:TGD) (te:TD):TDL:=fun ρ R=>ti ρ fun ds=>ds.length<sizeLine∧∃ P:Nat→D→Prop,
  (∀ i d,ds[i]?=some d→g d (qgZ cap ρ) fun ρ1=>te ρ1 (P i))∧∀ ys:List D,ys.length=ds.length→(∀ i y,ys[i]?=some y→P i y)→R ys
def qoZ (P:Nat→D→Prop):Nat→Option D→Prop:=fun i o=>match o with | some y=>P i y | none=>False
theorem qgO {P:Nat→D→Prop}:∀ (ys:List (Option D)),(∀ (i:Nat) y,ys[i]?=some y→∃ z,y=some z)→∃ zs:List D,ys=zs.map some
  | [],_=>⟨[],rfl⟩
  | y::ys,h=>by
    obtain ⟨z,rfl⟩:=h 0 y rfl
    obtain ⟨zs,rfl⟩:=qgO (P:=P) ys fun i y hy=>h (i+1) y hy
    exact ⟨z::zs,rfl⟩
theorem qht {ds:List D} {ρ:Rho} {R:List D→Prop} (h:ds.length<sizeLine∧∃ P:Nat→D→Prop,(∀ i d,ds[i]?=some d→g d (qgZ cap ρ) fun ρ1=>te ρ1 (P i))∧∀ ys:List D,ys.length=ds.length→(∀ i y,ys[i]?=some y→P i y)→R ys) {k:Nat} (hk:GM k g) :
    ds.length<sizeLine∧∃ P:Nat→Option D→Prop,(∀ i d,ds[i]?=some d→g d (qgZ cap ρ) fun ρ1=>qlp ρ1 fun b=>(b=true→te ρ1 fun y=>P i (some y))∧(b=false→P i none))∧∀ ys:List (Option D),ys.length=ds.length→(∀ i y,ys[i]?=some y→P i y)→R (ys.filterMap id):=by
  obtain ⟨h0,P,h1,h2⟩:=h
  refine ⟨h0,qoZ P,fun i d hd=>hk.m _ _ _ _ (fun ρ1 q=>⟨fun _=>q,fun e=>by cases e⟩) (h1 i d hd),fun ys hl hy=>?_⟩
  obtain ⟨zs,rfl⟩:=qgO (P:=P) ys fun i y e=>by
    have:=hy i y e
    cases y with
    | none=>exact this.elim
    | some z=>exact ⟨z,rfl⟩
  rw [List.filterMap_map]
  have e:zs.filterMap (id ∘ some)=zs:=by simp
  rw [e]
  refine h2 zs (by simpa using hl) fun i y e=>?_
  exact hy i (some y) (by rw [List.getElem?_map,e];rfl)
theorem qeS {k:Nat} (hcap:qem k cap=true) (hk:GM k g) {σ:St} {H:Hp} {Q:VK} (h:lF K (qhO ti cap g te) σ H Q):qgm (lI K ti) cap (lG K g) (lT K qlp) (lE K te) σ H Q:=by
  obtain ⟨H0,Φ,ρ,R,E,t,kk⟩:=h
  exact qga hcap hk E t (fun ds h=>qht h hk) kk
theorem qbp {k:Nat} (hcalm:X.calm=true) (S:CompScope X.N X.env.scope scope N' cap) (hcap:qem k cap=true) (hk:GM k g) (hi:PID K X tg iter ti)
    (hg:∀ (cl:List (Str × Addr)) (fp:List Addr) (C:Addr) (s0:Shared) (H0:Hp),PGD K (qbf X scope N' cl C s0 H0 fp) tg g)
    (he:∀ (cl:List (Str × Addr)) (fp:List Addr) (C:Addr) (s0:Shared) (H0:Hp),PD K (qbf X scope N' cl C s0 H0 fp) elt te) (hs:∀ x,foldedSetIterable iter X.env x=pure x:=by intro _;rfl):PF K X (.ListComp elt [⟨tg,iter,[],0⟩] scope pos) (qhO ti cap g te) :=
  ⟨fun hK=>(qdP hcalm S (hi.pi hK) (fun cl fp C s0 H0=>(hg cl fp C s0 H0).pg hK) (fun cl fp C s0 H0=>(qkN (K:=K)).p hK) (fun cl fp C s0 H0=>(he cl fp C s0 H0).pe hK) hs).imp fun _ _ _=>qeS hcap hk⟩
end
structure EndsD where
  nx:Rho→Prop
  rt:D→Prop
  bk:Rho→Prop:=fun _=>False
  ct:Rho→Prop:=fun _=>False
abbrev TSD:=EndsD→Rho→Prop
def EnK (K:PySem.W.Frag) (Φ0 H0:Hp) (P:Rho→Prop) (Q:St→Hp→Prop):Prop:=∀ ρ' Φ' H' σ',P ρ'→Gr Φ0 H0 Φ' H'→EnvD K H0 Φ' H' σ' ρ'→Q σ' H'
structure EndOk (K:PySem.W.Frag) (Φ0 H0:Hp) (De:EndsD) (E:Ends):Prop where
  nx:EnK K Φ0 H0 De.nx E.nx
  rt:∀ d Φ' H' v,De.rt d→Gr Φ0 H0 Φ' H'→Rp K Φ' d v→E.rt v H'
  bk:EnK K Φ0 H0 De.bk E.bk
  ct:EnK K Φ0 H0 De.ct E.ct
def lS (K:PySem.W.Frag) (t:TSD):TS:=fun E σ H=>∃ Φ0 H0 Φ ρ De,Gr Φ0 H0 Φ H∧EnvD K H0 Φ H σ ρ∧t De ρ∧EndOk K Φ0 H0 De E
structure PSD (K:PySem.W.Frag) (X:Cx) (st:Stmt) (t:TSD):Prop where ps:X.K=K→PS X st (lS K t)
structure PSsD (K:PySem.W.Frag) (X:Cx) (st:List Stmt) (t:TSD):Prop where ps:X.K=K→PSs X st (lS K t)
section
variable {K : PySem.W.Frag} {X : Cx} {st : Stmt} {rest : List Stmt} {t u : TSD} {e a : Expr} {te : TD} {tf : TDL} {pos : Pos} {tt : TDB}
def qnC:TSD:=fun De ρ=>De.nx ρ
def qoS (t u:TSD):TSD:=fun De ρ=>t { De with nx:=u De } ρ
def qo4 (t u:TSD):TSD:=fun De ρ=>∃ I:Rho→Prop,t { De with nx:=I } ρ∧∀ ρ',I ρ'→u De ρ'
theorem qa0:PSsD K X [] qnC:=⟨fun _=>pss_nil.imp fun E σ H hq0=>by obtain ⟨Φ0,H0,Φ,ρ,De,g,V,t,k⟩:=hq0;exact k.nx ρ Φ H σ t g V⟩
theorem qak (h1:PSD K X st t) (h2:PSsD K X rest u):PSsD K X (st::rest) (qoS t u):=⟨fun hK=>(qa4 (h1.ps hK) (h2.ps hK)).imp fun E σ H hq0=>by obtain ⟨Φ0,H0,Φ,ρ,De,g,V,t,k⟩:=hq0;exact
  ⟨Φ0,H0,Φ,ρ,_,g,V,t,⟨fun ρ' Φ' H' σ' t' g' V'=>⟨Φ0,H0,Φ',ρ',De,g',V',t',k⟩,k.rt,k.bk,k.ct⟩⟩⟩
theorem qa3 (h1:PSD K X st t) (h2:PSsD K X rest u):PSsD K X (st::rest) (qo4 t u):=⟨fun hK=>(qa4 (h1.ps hK) (h2.ps hK)).imp fun E σ H hq0=>by obtain ⟨Φ0,H0,Φ,ρ,De,g,V,⟨I,t,c⟩,k⟩:=hq0;exact
  ⟨Φ0,H0,Φ,ρ,_,g,V,t,⟨fun ρ' Φ' H' σ' t' g' V'=>⟨Φ0,H0,Φ',ρ',De,g',V',c ρ' t',k⟩,k.rt,k.bk,k.ct⟩⟩⟩
theorem qau (h1:PSD K X st t):PSsD K X [st] t:=⟨fun hK=>qaL (h1.ps hK)⟩
def qoV (i:Nat) (t:TSD):TSD:=fun De ρ=>t De (frz i ρ)
theorem qjo (i:Nat) (h:PSsD K X rest t):PSsD K X rest (qoV i t):=⟨fun hK=>(h.ps hK).imp fun E σ H hq0=>by
  obtain ⟨Φ0,H0,Φ,ρ,De,g,V,t,k⟩:=hq0
  obtain ⟨Φ',g',V'⟩:=V.frz g i
  exact ⟨Φ0,H0,Φ',L2.frz i ρ,De,g',V',t,k⟩⟩
def qmi (i:Nat) (te:TD):TSD:=fun De ρ=>te ρ fun d=>De.nx (ρ.set i (some (.v d)))
theorem qj5 {i:Nat} {E:Ends} {σ:St} {H:Hp} (h:lS K (qmi i te) E σ H):qmm (lE K te) (qhE i) E σ H:=by
  obtain ⟨Φ0,H0,Φ,ρ,De,g,V,t,k⟩:=h
  exact ⟨H0,Φ,ρ,_,V,t,fun d Φ1 H1 v r g1 rv=>k.nx _ Φ1 H1 _ r (g.trans g1) ((V.gr g1).set rv i)⟩
theorem qaD {i:Nat} {x:Str} {pos':Pos} (hN:X.N.Nodup) (hi:X.N[i]?=some x) (hx:Loc X.env.scope x) (he:PD K X e te) (hs:swapsWith e (some (.Name x pos')) pos.line X.env=pure false:=by rfl) (hf:X.fn x=true∨X.env.scope.names.lookup x=some .local:=by first | exact .inl rfl | exact .inr rfl | assumption) :
    PSD K X (.Assign [.Name x pos'] e pos) (qmi i te):=⟨fun hK=>(qcm hN hi hx (he.pe hK) hs hf).imp fun _ _ _=>qj5⟩
def qoi (i:Nat) (tf:TDL):TSD:=fun De ρ=>tf ρ fun ds=>De.nx (ρ.set i (some (.own ds)))
theorem qjg {i:Nat} {E:Ends} {σ:St} {H:Hp} (h:lS K (qoi i tf) E σ H):lF K tf σ H fun v H'=>qhE i v σ H' E.nx:=by
  obtain ⟨Φ0,H0,Φ,ρ,De,g,V,t,k⟩:=h
  refine ⟨H0,Φ,ρ,_,V,t,fun ds Φ1 H1 p vs r g1 hp hn hl rl=>k.nx _ Φ1 H1 _ r (g.trans g1) ((V.gr g1).setOwn rl (g.h.free hp) hn hl (fun j es hj z=>?_) i)⟩
  obtain ⟨q,ws,e,_,_,hq,_⟩:=V.ow j _ hj
  rw [e] at z
  cases z
  rw [hp] at hq
  cases hq
theorem qda {i:Nat} {x:Str} {pos':Pos} (hN:X.N.Nodup) (hi:X.N[i]?=some x) (hx:Loc X.env.scope x) (he:PF K X e tf) (hs:swapsWith e (some (.Name x pos')) pos.line X.env=pure false:=by rfl) (hf:X.fn x=true∨X.env.scope.names.lookup x=some .local:=by first | exact .inl rfl | exact .inr rfl | assumption) :
    PSD K X (.Assign [.Name x pos'] e pos) (qoi i tf):=⟨fun hK=>(qcm hN hi hx (he.pe hK) hs hf).imp fun _ _ _ h=>qjg h⟩
def qot (te:TD):TSD:=fun De ρ=>te ρ De.rt
theorem qaH (he:PD K X e te):PSD K X (.Return (some e) pos) (qot te) :=
  ⟨fun hK=>(qbD (he.pe hK)).imp fun E σ H hq0=>by obtain ⟨Φ0,H0,Φ,ρ,De,g,V,t,k⟩:=hq0;exact ⟨H0,Φ,ρ,_,V,t,fun d Φ1 H1 v r g1 rv=>k.rt d Φ1 H1 v r (g.trans g1) rv⟩⟩
def sIf (c:TDB) (t u:TSD):TSD:=fun De ρ=>c ρ fun b=>(b=true→t De ρ)∧(b=false→u De ρ)
theorem qbO {c:Expr} {a b:List Stmt} (hc:PTD K X c tt) (ha:PSsD K X a t) (hb:PSsD K X b u):PSD K X (.If c a b pos) (sIf tt t u) :=
  ⟨fun hK=>(qdk (hc.pt hK) (ha.ps hK) (hb.ps hK)).imp fun E σ H hq0=>by obtain ⟨Φ0,H0,Φ,ρ,De,g,V,t,k⟩:=hq0;exact ⟨H0,Φ,ρ,_,V,t,fun c Φ1 H1 r g1=>by
    cases c with
    | true=>refine qgk ?_;exact ⟨Φ0,H0,Φ1,ρ,De,g.trans g1,V.gr g1,r.1 rfl,k⟩
    | false=>refine qiy ?_;exact ⟨Φ0,H0,Φ1,ρ,De,g.trans g1,V.gr g1,r.2 rfl,k⟩⟩⟩
def qoT (te:TD) (g:TGD):TSD:=fun De ρ=>te ρ fun d=>g d ρ De.nx
theorem qgz {tg:Expr} {gd:TGD} (he:PD K X e te) (hg:PGD K X tg gd) (hs:swapsWithSole [tg] e pos.line X.env=pure false:=by rfl) (hw:swappedStores [tg] e X.env=pure none:=by rfl)
    (h1:(assignEach [tg] X.env).map (·.2)=[assign tg X.env]:=by rfl):PSD K X (.Assign [tg] e pos) (qoT te gd) :=
  ⟨fun hK=>(qkI (he.pe hK) (hg.pg hK) hs hw h1).imp fun E σ H hq0=>by obtain ⟨Φ0,H0,Φ,ρ,De,g,V,t,k⟩:=hq0;exact ⟨H0,Φ,ρ,_,V,t,fun d Φ1 H1 v r g1 rv=>⟨H0,Φ1,ρ,d,_,V.gr g1,rv,r,fun ρ' σ' r' V'=>k.nx ρ' Φ1 H1 σ' r' (g.trans g1) V'⟩⟩⟩
def qoN (ti:TDL) (gd:TGD) (tb:TSD):TSD:=fun De ρ=>ti ρ fun ds=>∃ I:Nat→Rho→Prop,I 0 ρ∧(∀ i d ρ',ds[i]?=some d→I i ρ'→gd d ρ' fun ρ2=>tb { De with nx:=I (i+1),ct:=I (i+1),bk:=De.nx } ρ2)∧∀ ρ',I ds.length ρ'→De.nx ρ'
theorem qdW {tg iter:Expr} {body:List Stmt} {ti:TDL} {gd:TGD} {tb:TSD} (hp:PassesOwn (model X.prog X.w) X.A X.env X.xe) (hc:X.calm=true) (hi:PID K X tg iter ti) (hg:PGD K X tg gd) (hb:PSsD K X body tb)
    (hs:∀ x,foldedSetIterable iter X.env x=pure x:=by intro _;rfl):PSD K X (.For tg iter body [] pos) (qoN ti gd tb) :=
  ⟨fun hK=>(qif hp hc (hi.pi hK) (hg.pg hK) (hb.ps hK) hs).imp fun E σ H hq0=>by
    obtain ⟨Φ0,H0,Φ,ρ,De,g,V,t,k⟩:=hq0
    refine ⟨H0,Φ,ρ,_,V,t,fun ds Φ1 H1 J hq1 g1 S=>?_⟩
    obtain ⟨I,h0,hst,hend⟩:=hq1
    refine ⟨fun i m σ H'=>m=ds.length - i∧i≤ds.length∧∃ Φ' ρ',Gr Φ0 H0 Φ' H'∧Same Φ1 Φ'∧EnvD K H0 Φ' H' σ ρ'∧I i ρ',⟨ds.length,by simp,Nat.zero_le _,Φ1,ρ,g.trans g1,Same.refl _,V.gr g1,h0⟩,?_⟩
    rintro i m σ' H' ⟨rfl,hi,Φ',ρ',g',s',V',hI⟩
    by_cases hlt:i<ds.length
    · refine .inr ⟨S.go i H' (s'.trans V'.fz) hlt,fun σ2 H2=>∃ Φ' ρ',Gr Φ0 H0 Φ' H2∧Same Φ1 Φ'∧EnvD K H0 Φ' H2 σ2 ρ'∧I (i+1) ρ',fun σ2 H2 h2=>⟨ds.length - (i+1),by omega,rfl,hlt,h2⟩,fun x H2 y=>?_⟩
      obtain ⟨Φ3,g3,rx⟩:=S.yl i Φ' H' x H2 _ s' V'.fz (qaI hlt) y
      refine ⟨H0,Φ3,ρ',_,_,V'.gr g3,rx,hst i _ ρ' (qaI hlt) hI,fun ρ2 σ3 t2 V3=>?_⟩
      refine ⟨Φ3,H0,Φ3,ρ2,_,?_,V3,t2,⟨?_,?_,?_,?_⟩⟩
      · exact ⟨Same.refl _,(g'.trans g3).h,g3.s,fun p u hp hn _=>hn⟩
      · intro ρ4 Φ4 H4 σ4 t4 g4 V4
        exact ⟨Φ4,ρ4,(g'.trans g3).join g4,(s'.trans g3.f).trans g4.f,V4,t4⟩
      · intro d Φ4 H4 v r g4 rv
        exact k.rt d Φ4 H4 v r ((g'.trans g3).join g4) rv
      · intro ρ4 Φ4 H4 σ4 t4 g4 V4
        exact k.nx ρ4 Φ4 H4 σ4 t4 ((g'.trans g3).join g4) V4
      · intro ρ4 Φ4 H4 σ4 t4 g4 V4
        exact ⟨Φ4,ρ4,(g'.trans g3).join g4,(s'.trans g3.f).trans g4.f,V4,t4⟩
    · have e:i=ds.length:=by omega
      subst e
      exact .inl ⟨S.stop H' (s'.trans V'.fz),k.nx ρ' Φ' H' σ' (hend ρ' hI) g' V'⟩⟩
end
section
variable {K : PySem.W.Frag} {X : Cx} {tg iter elt e a : Expr} {ifs : List Expr} {scope : Scope} {pos py spos : Pos} {N' : List Str} {cap : List (Option Nat)} {ti : TDL} {g : TGD} {tc : TDB} {te ta tb : TD} {i : Nat} {y : Str}
theorem qdT {tf:TDL} {E:Ends} {σ:St} {H:Hp} (lift:∀ {σ:St} {H:Hp} {Q:VK},lF K tf σ H Q→qgm (lI K ti) cap (lG K g) (lT K tc) (lE K te) σ H Q) (h:lS K (qmi i (qm7 tf)) E σ H):qmm (qgm (lI K ti) cap (lG K g) (lT K tc) (lE K te)) (qhE i) E σ H:=by
  obtain ⟨Φ0,H0,Φ,ρ,De,gg,V,t,kk⟩:=h
  exact lift ⟨H0,Φ,ρ,_,V,t,fun ds Φ' H' p vs r g1 h0 hn hp rr=>kk.nx _ _ H' _ r (gg.trans (g1.freeze h0 hn hp)) ((V.gr (g1.freeze h0 hn hp)).set ((rr.same (qaz hn _)).lst qan) i)⟩
theorem qcN {k:Nat} (hcalm:X.calm=true) (hN:X.N.Nodup) (hy:X.N[i]?=some y) (hx:Loc X.env.scope y) (S:CompScope X.N X.env.scope scope N' cap) (hcap:qem k cap=true) (hk:GM k g) (hi:PID K X tg iter ti)
    (hg:∀ (cl:List (Str × Addr)) (fp:List Addr) (C:Addr) (s0:Shared) (H0:Hp),PGD K (qbf X scope N' cl C s0 H0 fp) tg g)
    (he:∀ (cl:List (Str × Addr)) (fp:List Addr) (C:Addr) (s0:Shared) (H0:Hp),PD K (qbf X scope N' cl C s0 H0 fp) elt te) (hsw:swapsWith (.ListComp elt [⟨tg,iter,[],0⟩] scope pos) (some (.Name y py)) spos.line X.env=pure true:=by rfl)
    (hs:∀ x,foldedSetIterable iter X.env x=pure x:=by intro _;rfl) (hf:X.fn y=true∨X.env.scope.names.lookup y=some .local:=by first | exact .inl rfl | exact .inr rfl | assumption) :
    PSD K X (.Assign [.Name y py] (.ListComp elt [⟨tg,iter,[],0⟩] scope pos) spos) (qmi i (qm7 (qhO ti cap g te))) :=
  ⟨fun hK=>(qgK hcalm hN hy hx S (hi.pi hK) (fun cl fp C s0 H0=>(hg cl fp C s0 H0).pg hK) (fun cl fp C s0 H0=>(qkN (K:=K)).p hK) (fun cl fp C s0 H0=>(he cl fp C s0 H0).pe hK) hsw hs hf).imp fun _ _ _ h=>qdT (fun q=>qeS hcap hk q) h⟩
theorem qmz {k:Nat} (hcalm:X.calm=true) (hN:X.N.Nodup) (hy:X.N[i]?=some y) (hx:Loc X.env.scope y) (S:CompScope X.N X.env.scope scope N' cap) (hcap:qem k cap=true) (hk:GM k g) (hi:PID K X tg iter ti)
    (hg:∀ (cl:List (Str × Addr)) (fp:List Addr) (C:Addr) (s0:Shared) (H0:Hp),PGD K (qbf X scope N' cl C s0 H0 fp) tg g) (ht:∀ (cl:List (Str × Addr)) (fp:List Addr) (C:Addr) (s0:Shared) (H0:Hp),PIfD K (qbf X scope N' cl C s0 H0 fp) ifs tc)
    (he:∀ (cl:List (Str × Addr)) (fp:List Addr) (C:Addr) (s0:Shared) (H0:Hp),PD K (qbf X scope N' cl C s0 H0 fp) elt te) (hsw:swapsWith (.ListComp elt [⟨tg,iter,ifs,0⟩] scope pos) (some (.Name y py)) spos.line X.env=pure true:=by rfl)
    (hs:∀ x,foldedSetIterable iter X.env x=pure x:=by intro _;rfl) (hf:X.fn y=true∨X.env.scope.names.lookup y=some .local:=by first | exact .inl rfl | exact .inr rfl | assumption) :
    PSD K X (.Assign [.Name y py] (.ListComp elt [⟨tg,iter,ifs,0⟩] scope pos) spos) (qmi i (qm7 (qkQ ti cap g tc te))) :=
  ⟨fun hK=>(qgK hcalm hN hy hx S (hi.pi hK) (fun cl fp C s0 H0=>(hg cl fp C s0 H0).pg hK) (fun cl fp C s0 H0=>(ht cl fp C s0 H0).p hK) (fun cl fp C s0 H0=>(he cl fp C s0 H0).pe hK) hsw hs hf).imp fun _ _ _ h=>qdT (fun q=>qfS hcap hk q) h⟩
theorem qhc {Φ0 H0 Φ H:Hp} {p:Addr} {o:HO} (g:Gr Φ0 H0 Φ H) (h0:H0 p=none) (hn:Φ p=none):Gr Φ0 H0 Φ (upd H p o) :=
  ⟨g.f,qfp g.h h0 _,fun b u e=>by rw [qaA (qaE e hn)];exact g.s b u e,fun p u hp hn k=>g.o p u hp hn k⟩
def qiE (i:Nat) (te:TD):TSD:=fun De ρ=>match ρ[i]? with | some (some (.ob (.lst ds)))=>te ρ fun d=>ds.length<sizeLine∧NF (ds++[d]) fun es=>De.nx (ρ.set i (some (.own es))) | _=>False
theorem qby {apos cpos npos:Pos} {x:Str} (i:Nat) (he:PD K X e te) (hfew:((backTo cpos (starEach [e] X.env)).all (fun x=>!x.1) && (backToKw cpos (keywordEach [] X.env)).all (fun x=>x.1.isSome) && decide (([e]:List Expr).length+([]:List Keyword).length+(if ([]:List Keyword).isEmpty then 0 else 1)<30))=true)
    (hse:starEach [e] X.env=(false,eval e X.env)::starEach [] X.env) (hN:X.N[i]?=some x:=by rfl) (hv:Vis X.env.scope x:=by first | exact Or.inl rfl | exact Or.inr (Or.inl rfl) | exact Or.inr (Or.inr rfl)) (hd:(x == ("__debug__":Str))=false:=by decide) (hcd:(x == ("__classdict__":Str))=false:=by decide)
    (hbase:attributeBase (.Name x npos) "append" X.env (eval (.Name x npos) X.env)=eval (.Name x npos) X.env:=by rfl) (hline:(apos.endLine == cpos.line)=true:=by rfl) (hs:swapsWith (.Call (.Attribute (.Name x npos) "append" apos) [e] [] cpos) none pos.line X.env=pure false:=by rfl) :
    PSD K X (.Expr (.Call (.Attribute (.Name x npos) "append" apos) [e] [] cpos) pos) (qiE i te) :=
  ⟨fun hK=>(qdi (qje PySem.F.plainAttrs_list PySem.F.slot_list_append PySem.F.type_list_append qcC (pv i hN hv hd hcd) (qaq (he.pe hK) pa_nil hse) hbase hfew hline hse qag) hs).imp fun E σ H hq0=>by
    obtain ⟨Φ0,H0,Φ,ρ,De,g,V,t,k⟩:=hq0
    unfold qiE at t
    split at t
    · next ds ho =>
      obtain ⟨p,vs,e1,h0,hn,hp,rl⟩:=V.owl i ds ho
      refine ⟨_,e1,.inl ⟨rfl,vs,SqL.of hp⟩,H0,Φ,ρ,_,V,t,fun d Φ1 H1 v r g1 rv=>?_⟩
      have hp1:=g1.h _ _ hp
      have hn1:=g1.o _ _ hp hn
      refine ⟨p,vs,v,rfl,rfl,hp1,by rw [rl.1];exact r.1,k.nx _ Φ1 _ σ r.2.get (qhc (g.trans g1) h0 hn1) ((V.gr g1).put ho e1 ((rl.same g1.f).append (.one rv)))⟩
    · exact t.elim⟩
def qoa (i j:Nat):TSD:=fun De ρ=>match ρ[i]? with | some (some (.ob (.lst ds)))=>∃ d,ds[ds.length - 1]?=some d∧NF ds.dropLast fun es=>De.nx ((ρ.set i (some (.own es))).set j (some (.v d))) | _=>False
theorem qnH {apos cpos npos py:Pos} {x y:Str} (i j:Nat) (hN2:X.N.Nodup) (hj:X.N[j]?=some y) (hy:Loc X.env.scope y) (hN:X.N[i]?=some x:=by rfl) (hv:Vis X.env.scope x:=by first | exact Or.inl rfl | exact Or.inr (Or.inl rfl) | exact Or.inr (Or.inr rfl)) (hd:(x == ("__debug__":Str))=false:=by decide) (hcd:(x == ("__classdict__":Str))=false:=by decide)
    (hbase:attributeBase (.Name x npos) "pop" X.env (eval (.Name x npos) X.env)=eval (.Name x npos) X.env:=by rfl) (hline:(apos.endLine == cpos.line)=true:=by rfl) (hs:swapsWith (.Call (.Attribute (.Name x npos) "pop" apos) [] [] cpos) (some (.Name y py)) pos.line X.env=pure false:=by rfl)
    (hf:X.fn y=true∨X.env.scope.names.lookup y=some .local:=by first | exact .inl rfl | exact .inr rfl | assumption) :
    PSD K X (.Assign [.Name y py] (.Call (.Attribute (.Name x npos) "pop" apos) [] [] cpos) pos) (qoa i j) :=
  ⟨fun hK=>(qcm hN2 hj hy (qil PySem.F.plainAttrs_list PySem.F.slot_list_pop PySem.F.type_list_pop qjk (pv i hN hv hd hcd) hbase hline) hs hf).imp fun E σ H hq0=>by
    obtain ⟨Φ0,H0,Φ,ρ,De,g,V,t,k⟩:=hq0
    unfold qoa at t
    split at t
    · next ds ho =>
      obtain ⟨d,hd,t⟩:=t
      obtain ⟨p,vs,e1,h0,hn,hp,rl⟩:=V.owl i ds ho
      obtain ⟨v,hv,rv⟩:=rl.at hd
      rw [← rl.1] at hv
      exact ⟨_,e1,.inl ⟨rfl,vs,SqL.of hp⟩,p,vs,v,rfl,rfl,hp,hv,k.nx _ Φ _ _ t.get (qhc g h0 hn) ((V.put ho e1 rl.dropLast).set rv j)⟩
    · exact t.elim⟩
def qou (i:Nat) (te tk:TD):TSD:=fun De ρ=>te ρ fun d=>match ρ[i]? with | some (some (.ob (.lst ds)))=>tk ρ fun kk=>(match kk with | .int n=>∃ j,ixN ds.length n=some j∧NF (ds.set j d) fun es=>De.nx (ρ.set i (some (.own es))) | _=>False) | _=>False
theorem qmD {b:Expr} {tk:TD} {npos spos:Pos} {x:Str} (i:Nat) (he:PD K X e te) (hk:PQ K X b tk) (hN:X.N[i]?=some x:=by rfl) (hv:Vis X.env.scope x:=by first | exact Or.inl rfl | exact Or.inr (Or.inl rfl) | exact Or.inr (Or.inr rfl)) (hd:(x == ("__debug__":Str))=false:=by decide) (hcd:(x == ("__classdict__":Str))=false:=by decide)
    (ha:∀ v,assign (.Subscript (.Name x npos) b spos) X.env v=(do
      let ov ← holding [v] (eval (.Name x npos) X.env)
      let iv ← holding [v,ov] (eval b X.env)
      standAt spos
      holding [v,ov,iv] (setItem ov iv v)
      release [v,ov,iv] []):=by intro _;rfl)
    (hs:swapsWithSole [.Subscript (.Name x npos) b spos] e pos.line X.env=pure false:=by rfl) (hw:swappedStores [.Subscript (.Name x npos) b spos] e X.env=pure none:=by rfl)
    (h1:(assignEach [.Subscript (.Name x npos) b spos] X.env).map (·.2)=[assign (.Subscript (.Name x npos) b spos) X.env]:=by rfl) :
    PSD K X (.Assign [.Subscript (.Name x npos) b spos] e pos) (qou i te tk) :=
  ⟨fun hK=>(qkI (he.pe hK) (qmv (pv i hN hv hd hcd) (hk.pe hK) qg3 ha) hs hw h1).imp fun E σ H hq0=>by obtain ⟨Φ0,H0,Φ,ρ,De,g,V,t,k⟩:=hq0;exact ⟨H0,Φ,ρ,_,V,t,fun d Φ1 H1 v r g1 rv=>by
    have V1:=V.gr g1
    split at r
    · next ds ho =>
      obtain ⟨p,vs,e1,h0,hn,hp,rl⟩:=V1.owl i ds ho
      refine ⟨_,e1,H0,Φ1,ρ,_,V1,r,fun kk Φ2 H2 w r2 g2 rw2=>?_⟩
      cases kk with
      | int n =>
        obtain ⟨j,hj,r2⟩:=r2
        exact ⟨p,vs,n,j,rfl,rw2.int,g2.h _ _ hp,by rw [rl.1];exact hj,k.nx _ Φ2 _ σ r2.get (qhc ((g.trans g1).trans g2) h0 (g2.o _ _ hp hn)) ((V1.gr g2).put ho e1 ((rl.same g2.f).set (rv.same g2.f) j))⟩
      | _=>exact r2.elim
    · exact r.elim⟩⟩
def qmV (i:Nat) (f:Int→Int→Int) (te:TD):TSD:=fun De ρ=>match ρ[i]? with | some (some (.v (.int n)))=>te ρ fun d=>(match d with | .int m=>De.nx (ρ.set i (some (.v (.int (f n m))))) | _=>False) | _=>False
theorem qmK {x:Str} {op:Operator} {f:Int→Int→Int} {pos':Pos} (i:Nat) (hop:PIp X op (ipI f)) (hN:X.N.Nodup) (hi:X.N[i]?=some x) (hx:Loc X.env.scope x) (he:PD K X e te)
    (hf:X.fn x=true∨X.env.scope.names.lookup x=some .local:=by first | exact .inl rfl | exact .inr rfl | assumption):PSD K X (.AugAssign (.Name x pos') op e pos) (qmV i f te) :=
  ⟨fun hK=>(qmg hN hi hx (he.pe hK) hop hf).imp fun E σ H hq0=>by
    obtain ⟨Φ0,H0,Φ,ρ,De,g,V,t,k⟩:=hq0
    unfold qmV at t
    split at t
    · next n ho =>
      obtain ⟨v,e1,r⟩:=V.sl i _ ho
      cases r
      refine ⟨_,e1,H0,Φ,ρ,_,V,t,fun d Φ1 H1 w r1 g1 rw1=>?_⟩
      cases d with
      | int m=>cases rw1;exact ⟨n,m,rfl,rfl,k.nx _ Φ1 H1 _ r1 (g.trans g1) ((V.gr g1).set (.int _) i)⟩
      | _=>exact r1.elim
    · exact t.elim⟩
end
def qeL (N:List Str) (ds:List D):Rho:=ds.map (fun d=>some (.v d))++List.replicate (N.length - ds.length) none
theorem qjd {K:PySem.W.Frag} {Φ H:Hp} {N:List Str} {ds:List D} {vs:List V} (sm:Same Φ H) (tb:TabF K Φ) (r:RpL K Φ ds vs):EnvD K H Φ H (qen N vs) (qeL N ds):=by
  have own:∀ {i:Nat} {x:Sl},(qeL N ds)[i]?=some (some x)→∃ d,ds[i]?=some d∧x=.v d:=fun {i x} h=>by
    unfold qeL at h
    rcases Nat.lt_or_ge i (ds.map fun d=>some (Sl.v d)).length with c | c
    · rw [List.getElem?_append_left c,List.getElem?_map] at h
      cases e:ds[i]? with
      | none=>rw [e] at h;cases h
      | some d=>rw [e] at h;cases h;exact ⟨d,rfl,rfl⟩
    · rw [List.getElem?_append_right c,List.getElem?_replicate] at h
      split at h
      · cases h
      · cases h
  refine ⟨sm,by unfold qen qeL;simp [r.1],fun i d h=>?_,fun i es h=>?_,fun i j es fs p h=>?_,tb⟩
  · obtain ⟨d',h1,h2⟩:=own h
    cases h2
    obtain ⟨v,hv,rv⟩:=r.at h1
    refine ⟨v,?_,rv⟩
    unfold qen
    rw [List.getElem?_append_left (by rw [List.length_map];exact qbe hv),List.getElem?_map,hv]
    rfl
  · obtain ⟨d',h1,h2⟩:=own h
    cases h2
  · obtain ⟨d',h1,h2⟩:=own h
    cases h2
section
variable {P : Program} {w : World} {K : PySem.W.Frag} {mg : Str → Option Value} {base : Heap}
theorem Fun.okD {x qual:Str} {st:Stmt} {f:Addr} {fd:FuncData} {N ps:List Str} {k:Nat} {sp:SpD} (F:Fun K x qual st f fd) (S:FnScope N ps (qah st)) (len:∀ ds R,sp ds R→ds.length=ps.length)
    (hbody:∀ (cdv:Value) (A:Around) (outer:List Env) (s:Shared) (H:Hp) (E:XK) (ds:List D) (R:D→Prop),Room k (A.deeper (envOfC qual (qah st) s.heap.objs.size f cdv))→sp ds R →
      ∃ t,PSsD K (qkW CX0 P w K mg base N qual (qah st) f cdv A outer s H E).nox (qbS st) t∧t { nx:=fun _=>R .non,rt:=R } (qeL N ds)):FnOk P w K mg base CX0 (k+1) f fd ps (lSp K sp):=by
  refine F.ok S (fun vs H Q E ⟨Φ,ds,R,sm,tb,rl,h,_⟩=>by rw [rl.1];exact len ds R h) (fun cdv A outer s H vs Q E hr ⟨Φ,ds,R,sm,tb,rl,h,kk⟩=>?_)
  obtain ⟨t,ht,hq⟩:=hbody cdv A outer s H E ds R hr h
  exact ⟨lS K t,ht.ps rfl,Φ,H,Φ,qeL N ds,_,.refl sm,qjd sm tb rl,hq,⟨fun ρ' Φ' H' σ' r g V=>kk .non Φ' H' .non r g .non,kk,fun _ _ _ _ h=>h.elim,fun _ _ _ _ h=>h.elim⟩⟩
theorem FnOk.toD {CX:CXT} {k:Nat} {f:Addr} {fd:FuncData} {ps:List Str} {sp:Sp} {spD:SpD} (F:FnOk P w K mg base CX k f fd ps sp) (h:∀ vs H Q E,lSp K spD vs H Q E→sp vs H Q E):FnOk P w K mg base CX k f fd ps (lSp K spD):=F.imp h
end
def Itb (K:PySem.W.Frag) (b:Bool) (a:Addr):It:=match b with | true=>Itl K a | false=>Itt K a
section
variable {K : PySem.W.Frag} {X : Cx} {tg e a b : Expr} {es : List Expr} {pos p tp : Pos} {t ta tb : TD} {tl : TDL}
theorem qmG {l:Expr} {tl:TE} (hK:X.K=K) (hl:PE X l tl):PI X tg l (fun σ H R=>tl σ H fun x H1=>∃ q a,x=.ref a∧(∃ xs,SqB K q H1 a xs)∧R (Itb K q a) H1):=by
  subst hK
  intro pins s σ H R I h
  refine thn (hl pins s σ H _ I h) fun v s1 hq0=>?_
  obtain ⟨x,H1,I1,r1,q1⟩:=hq0
  obtain ⟨bb,a,e,⟨xs,hq⟩,q⟩:=q1
  subst e
  cases r1
  have fp:∀ b∈[s1.heap.objs.size],qe0 X pins H1 b:=fun b hb=>by
    have e:b=s1.heap.objs.size:=by simpa using hb
    subst e
    exact I1.fpOk (Nat.le_refl _) (I1.hok.fresh (Nat.le_refl _))
  cases bb with
  | true =>
    obtain ⟨its,rv,p,hz⟩:=I1.list hq
    refine wpAny_pyIter_list p.isList ?_
    exact ⟨s1.heap.objs.size,[s1.heap.objs.size],_,_,H1,rfl,I1.kept (t':=s1.toks) fun b o e=>Heap.get?_push_of_some _ e,qiS a _,⟨_,Heap.get?_push_size _ rfl,rfl,rfl⟩,fp,q⟩
  | false =>
    obtain ⟨its,rv,p,hz⟩:=I1.tuple hq
    refine wpAny_pyIter_tuple (show s1.heap.IsTuple a its.toArray from p) ?_
    exact ⟨s1.heap.objs.size,[s1.heap.objs.size],_,_,H1,rfl,I1.kept (t':=s1.toks) fun b o e=>Heap.get?_push_of_some _ e,qeQ a _,⟨_,Heap.get?_push_size _ rfl,rfl,rfl⟩,fp,q⟩
theorem qgJ {Φ:Hp} {ds:List D} {vs:List V} {a:Addr} {q:Bool} (h:SqB K q Φ a vs) (r:RpL K Φ ds vs):SteadyD K (Itb K q a) Φ ds:=by
  cases q with
  | true=>exact qfX h r
  | false=>exact qgB h r
def qpb (t:TD):TDL:=fun ρ R=>t ρ fun d=>match d with | .lst ds=>R ds | .tup ds=>R ds | .fzl ds=>R ds | _=>False
theorem qk7 {d:D} {R:List D→Prop} (h:match d with | .lst ds=>R ds | .tup ds=>R ds | .fzl ds=>R ds | _=>False):∃ ds,qjh d=some ds∧R ds:=by
  cases d with
  | lst ds=>exact ⟨ds,rfl,h⟩
  | tup ds=>exact ⟨ds,rfl,h⟩
  | fzl ds=>exact ⟨ds,rfl,h⟩
  | _=>exact h.elim
theorem qc8 (h:PD K X e t):PID K X tg e (qpb t):=⟨fun hK=>(qmG hK (h.pe hK)).imp fun σ H R' hq0=>by obtain ⟨H0,Φ,ρ,R,E,t,k⟩:=hq0;exact ⟨H0,Φ,ρ,_,E,t,fun d Φ1 H1 v r g rv=>by
  obtain ⟨ds,e1,r⟩:=qk7 r
  obtain ⟨q,a,vs,rfl,h1,h2⟩:=rv.seq e1
  exact ⟨q,a,rfl,⟨vs,SqB.same g.s h1⟩,k _ Φ1 H1 _ r g (qgJ h1 h2)⟩⟩⟩
theorem qjQ {a:Expr} {ta:TA} {es:List Expr} {k:Nat} (hK:X.K=K) (hg:Gl X "enumerate") (hm:X.mg "enumerate"=none) (ha:PA X [a] ta) (hs:starEach [a] X.env=[(false,eval a X.env)]) :
    PI X (.Tuple es k tp) (.Call (.Name "enumerate" p) [a] [] pos) (fun σ H R=>ta σ H fun vs H1=>∃ b a xs,vs=[.ref a]∧SqB K b H1 a xs∧R (Ite K b a) H1):=by
  subst hK
  intro pins s σ H R I h
  refine Call_ (qdy I hg hm boot_enumerate (PyProof.Rows.callWith_type1 (thn (ha pos pins s σ H _ I h) fun us s1 hq0=>?_) hs rfl))
  obtain ⟨vs,H1,I1,r1,q1⟩:=hq0
  obtain ⟨b,l,xs,e,hq,q⟩:=q1
  subst e
  cases r1 with
  | cons r rr =>
    cases rr
    cases r
    obtain ⟨its,rv,p,hz⟩:=I1.sqb hq
    refine qfw p fun h' he hi hsz hk=>wpAny_pyIter_enum he ?_
    have I2:Inv X pins σ H1 { s1 with heap:=h' }:=I1.kept (t':=s1.toks) hk
    have fr:∀ c,s1.heap.objs.size≤c→qe0 X pins H1 c:=fun c hc=>I1.fpOk hc (I1.hok.fresh hc)
    exact ⟨s1.heap.objs.size+1,[s1.heap.objs.size+1,s1.heap.objs.size],_,_,H1,rfl,I2,qfQ b l _ _ (Nat.succ_ne_self _),⟨⟨_,he⟩,hi⟩,fun c hc=>by
      rcases List.mem_cons.mp hc with rfl | hc
      · exact fr _ (Nat.le_succ _)
      · rw [List.mem_singleton.mp hc];exact fr _ (Nat.le_refl _),q⟩
theorem qk8 {a b:Expr} {ta:TA} {es:List Expr} {k:Nat} (hK:X.K=K) (hg:Gl X "zip") (hm:X.mg "zip"=none) (ha:PA X [a,b] ta) (hs:starEach [a,b] X.env=[(false,eval a X.env),(false,eval b X.env)]) (hs2:starEach [b] X.env=[(false,eval b X.env)]) :
    PI X (.Tuple es k tp) (.Call (.Name "zip" p) [a,b] [] pos) (fun σ H R=>ta σ H fun vs H1=>∃ b1 b2 a1 a2 xs ys,vs=[.ref a1,.ref a2]∧SqB K b1 H1 a1 xs∧SqB K b2 H1 a2 ys∧R (Itz K b1 a1 b2 a2) H1):=by
  subst hK
  intro pins s σ H R I h
  refine Call_ (qdy I hg hm boot_zip (PyProof.Rows.callWith_type1 (thn (ha pos pins s σ H _ I h) fun us s1 ⟨vs,H1,I1,r1,q1⟩=>?_) (by rw [hs,hs2]) (by rw [hs2];rfl)))
  obtain ⟨b1,b2,l1,l2,xs,ys,e,hq1,hq2,q⟩:=q1
  subst e
  cases r1 with
  | cons r rr =>
    cases rr with
    | cons r' rr =>
      cases rr
      cases r
      cases r'
      obtain ⟨its1,rv1,p1,_⟩:=I1.sqb hq1
      obtain ⟨its2,rv2,p2,_⟩:=I1.sqb hq2
      refine qhe p1 p2 fun h' z1 z2 z3 z4 z5 hk=>wpAny_pyIter_zip z1 ?_
      have I2:Inv X pins σ H1 { s1 with heap:=h' }:=I1.kept (t':=s1.toks) hk
      have fr:∀ c,s1.heap.objs.size≤c→qe0 X pins H1 c:=fun c hc=>I1.fpOk hc (I1.hok.fresh hc)
      generalize s1.heap.objs.size=n at *
      refine ⟨n+4,[n+4,n+2,n+3,n,n+1],_,_,H1,rfl,I2,qhb b1 b2 l1 l2 (n+4) (n+2) (n+3) n (n+1) (zap n),⟨z1,z2,⟨_,_,z3⟩,z4,z5⟩,fun c hc=>fr c ?_,q⟩
      simp only [List.mem_cons,List.not_mem_nil,or_false] at hc
      rcases hc with rfl | rfl | rfl | rfl | rfl
      · exact Nat.le_add_right _ _
      · exact Nat.le_add_right _ _
      · exact Nat.le_add_right _ _
      · exact Nat.le_refl _
      · exact Nat.le_add_right _ _
def qmo (t:TDL):TDL:=fun ρ R=>t ρ fun ds=>match ds with | [.lst xs]=>R (qe7 xs) | [.tup xs]=>R (qe7 xs) | [.fzl xs]=>R (qe7 xs) | _=>False
theorem qgr {ets:List Expr} {ek:Nat} (hg:Gl X "enumerate") (hm:X.mg "enumerate"=none) (ha:PAD K X [a] tl) (hs:starEach [a] X.env=[(false,eval a X.env)]:=by rfl):PID K X (.Tuple ets ek tp) (.Call (.Name "enumerate" p) [a] [] pos) (qmo tl) :=
  ⟨fun hK=>(qjQ hK hg hm (ha.pa hK) hs).imp fun σ H R' hq0=>by obtain ⟨H0,Φ,ρ,R,E,t,k⟩:=hq0;exact ⟨H0,Φ,ρ,_,E,t,fun ds Φ1 H1 vs r g rv _=>by
    have fin:∀ {d:D} {xs:List D},RpL K Φ1 [d] vs→qjh d=some xs→R (qe7 xs)→∃ b a xs,vs=[.ref a]∧SqB K b H1 a xs∧R' (Ite K b a) H1:=fun {d xs} rv hx r=>by
      obtain ⟨v,rfl,r1⟩:=rv.one_inv
      obtain ⟨q,a,ws,rfl,h1,h2⟩:=r1.seq hx
      exact ⟨q,a,ws,rfl,SqB.same g.s h1,k _ Φ1 H1 _ r g (qge h1 h2)⟩
    match ds,r with
    | [.lst xs],r=>exact fin rv rfl r
    | [.tup xs],r=>exact fin rv rfl r
    | [.fzl xs],r=>exact fin rv rfl r⟩⟩
def qnT (t:TDL):TDL:=fun ρ R=>t ρ fun ds=>match ds with | [d,e]=>∃ xs ys,qjh d=some xs∧qjh e=some ys∧R (qhN xs ys) | _=>False
theorem qeG {ets:List Expr} {ek:Nat} (hg:Gl X "zip") (hm:X.mg "zip"=none) (ha:PAD K X [a,b] tl) (hs:starEach [a,b] X.env=[(false,eval a X.env),(false,eval b X.env)]:=by rfl) (hs2:starEach [b] X.env=[(false,eval b X.env)]:=by rfl):PID K X (.Tuple ets ek tp) (.Call (.Name "zip" p) [a,b] [] pos) (qnT tl) :=
  ⟨fun hK=>(qk8 hK hg hm (ha.pa hK) hs hs2).imp fun σ H R' hq0=>by obtain ⟨H0,Φ,ρ,R,E,t,k⟩:=hq0;exact ⟨H0,Φ,ρ,_,E,t,fun ds Φ1 H1 vs r g rv _=>by
    match ds,r with
    | [d,e],⟨xs,ys,hx,hy,r⟩ =>
      obtain ⟨v,w,rfl,r1,r2⟩:=rv.two_inv
      obtain ⟨q1,a1,ws,rfl,h1,h2⟩:=r1.seq hx
      obtain ⟨q2,a2,us,rfl,h3,h4⟩:=r2.seq hy
      exact ⟨q1,q2,a1,a2,ws,us,rfl,SqB.same g.s h1,SqB.same g.s h3,k _ Φ1 H1 _ r g (qgs h1 h3 h2 h4)⟩⟩⟩
variable {gs : qhJ}
def qmO (n:Nat) (t:qhJ):TGD:=fun d ρ R=>match d with | .tup ds=>ds.length=n∧t ds ρ R | .lst ds=>ds.length=n∧t ds ρ R | _=>False
theorem PG.or {tg:Expr} {t t':TG} (h:PG X tg t) (h':PG X tg t'):PG X tg (fun v σ H Q=>t v σ H Q∨t' v σ H Q):=by
  intro pins s σ H v u Q I r hw
  rcases hw with hw | hw
  · exact h pins s σ H v u Q I r hw
  · exact h' pins s σ H v u Q I r hw
theorem qcs {k n:Nat} (hc:X.calm=true) (h:PGDs K X es gs) (hn:(assignEach es X.env).length=n:=by rfl) (hst:(assignEach es X.env).findIdx? (·.1)=none:=by rfl):PGD K X (.Tuple es k pos) (qmO n gs) :=
  ⟨fun hK=>((qkj hK hc (h.pg hK) hn hst).or (qjZ hK hc (h.pg hK) hn hst)).imp fun v σ H Q hq0=>by
    obtain ⟨H0,Φ,ρ,d,R,E,r,g,k⟩:=hq0
    cases d with
    | tup ds=>cases r with | tup h1 h2 h3=>exact .inl ⟨_,_,rfl,E.fz.sqt h1,by rw [h2];exact g.1,H0,Φ,ρ,ds,R,E,⟨h2,h3⟩,g.2,k⟩
    | lst ds=>cases r with | lst h1 h2 h3=>exact .inr ⟨_,_,rfl,.of (E.fz _ _ h1),by rw [h2];exact g.1,H0,Φ,ρ,ds,R,E,⟨h2,h3⟩,g.2,k⟩
    | _=>exact g.elim⟩
theorem qg2 {k n:Nat} {t:qhJ} (h:GMs k t):GM k (qmO n t):=⟨⟨fun d ρ R r=>by
  cases d with
  | tup ds=>exact ⟨r.1,h.k.p ds ρ R r.2⟩
  | lst ds=>exact ⟨r.1,h.k.p ds ρ R r.2⟩
  | _=>exact r⟩,fun d ρ R R' hr r=>by
  cases d with
  | tup ds=>exact ⟨r.1,h.m ds ρ R R' hr r.2⟩
  | lst ds=>exact ⟨r.1,h.m ds ρ R R' hr r.2⟩
  | _=>exact r⟩
theorem qmH {Φ H:Hp} {d:D} {v:V} {T:String} {r:Bool} (s:Same Φ H) (h:RpQ K Φ H d v) (e:qnp d T=some r):IsiV K H v T r:=by
  have sp:∀ {c:Prop} [Decidable c] {x:Bool} {y:Option Bool},(if c then some x else y)=some r→(c∧x=r)∨y=some r:=fun {c _ x y} h=>by
    by_cases hc:c
    · rw [if_pos hc] at h;cases h;exact .inl ⟨hc,rfl⟩
    · rw [if_neg hc] at h;exact .inr h
  cases d with
  | int i =>
    cases h.int
    rcases sp e with ⟨rfl,rfl⟩ | e
    · exact .int_int _
    rcases sp e with ⟨rfl,rfl⟩ | e
    · exact .int_bool _
    rcases sp e with ⟨rfl,rfl⟩ | e
    · exact .int_tuple _
    rcases sp e with ⟨rfl,rfl⟩ | e
    · exact .int_str _
    cases e
  | bl i =>
    cases h.bl
    rcases sp e with ⟨rfl,rfl⟩ | e
    · exact .bl_int _
    rcases sp e with ⟨rfl,rfl⟩ | e
    · exact .bl_bool _
    rcases sp e with ⟨rfl,rfl⟩ | e
    · exact .bl_tuple _
    cases e
  | str i =>
    cases h.str
    rcases sp e with ⟨rfl,rfl⟩ | e
    · exact .str_str _
    rcases sp e with ⟨rfl,rfl⟩ | e
    · exact .str_tuple _
    cases e
  | non=>cases e
  | tup ds =>
    obtain ⟨a,vs,rfl,h1,_,h2⟩:=h.tup s
    rcases sp e with ⟨rfl,rfl⟩ | e
    · exact .tup_tuple h1
    rcases sp e with ⟨rfl,rfl⟩ | e
    · exact .tup_int h1
    cases e
  | lst ds =>
    obtain ⟨a,vs,rfl,h1,h2⟩:=h.lst s
    rcases sp e with ⟨rfl,rfl⟩ | e
    · exact .lst_tuple (.of h1)
    rcases sp e with ⟨rfl,rfl⟩ | e
    · exact .lst_list (.of h1)
    cases e
  | fzl ds=>cases e
  | obj C fs=>cases e
def qoE (T:String) (t:TD):TD:=fun ρ R=>t ρ fun d=>∃ r,qnp d T=some r∧R (.bl r)
theorem qmJ {T:String} {tx:Str} {p2:Pos} (hg:Gl X "isinstance") (hm:X.mg "isinstance"=none) (ha:PQ K X a t) (hT:PE X (.Name tx p2) (tC (.ty T)))
    (he:starEach [a,.Name tx p2] X.env=(false,eval a X.env)::starEach [.Name tx p2] X.env) (he2:starEach [.Name tx p2] X.env=(false,eval (.Name tx p2) X.env)::starEach [] X.env):PD K X (.Call (.Name "isinstance" p) [a,.Name tx p2] [] pos) (qoE T t) :=
  ⟨fun hK=>(qbt (qin hK) hg hm boot_isinstance (qaq (ha.pe hK) (qaq hT pa_nil he2) he) (by decide) (by decide) he (qaf he2 qag)).imp fun σ H Q hq0=>by obtain ⟨H0,Φ,ρ,R,E,t,k⟩:=hq0;exact ⟨H0,Φ,ρ,_,E,t,fun d Φ1 H1 v r g rv=>by
    obtain ⟨rr,hr,r⟩:=r
    exact ⟨v,T,rr,rfl,qmH g.s rv hr,k _ Φ1 H1 _ r g (.bl _)⟩⟩⟩
theorem qkp (b:Bool):qnp (.bl b) "bool"=some true:=rfl
end
theorem qcl {α:Type} {f:α→D} {ns:List α} {i:Nat} {x:D} (h:(ns.map f)[i]?=some x):∃ k,x=f k∧ns[i]?=some k:=by
  rw [List.getElem?_map] at h
  cases e:ns[i]? with
  | none=>rw [e] at h;cases h
  | some k=>rw [e] at h;cases h;exact ⟨k,rfl,rfl⟩
theorem qj1 {ns:List Int} {i:Nat} {x:D} (h:(ns.map D.int)[i]?=some x):∃ k,x=.int k∧ns[i]?=some k:=qcl h
theorem qbv {α:Type} {f:α→D} {ns:List α} {i:Nat} {n:α} {k:Int} (h:ns[i]?=some n) (e:k=(i:Int)):atI (ns.map f) k=some (f n):=qgX (by rw [List.getElem?_map,h];rfl) e
theorem qlJ {ns:List Int} {k:Int} (h0:0≤k) (h:k<(ns.length:Int)):∃ v:Int,atI (ns.map D.int) k=some (.int v):=by
  have hk:k.toNat<ns.length:=by omega
  exact ⟨_,qbv (qaI hk) (by omega)⟩
def qkw:SpD:=fun ds R=>∃ ns:List Int,ds=[.fzl (ns.map D.int)]∧ns.length≤63∧R (.bl true)
def ql2 (K:PySem.W.Frag):Sp:=fun vs H Q _=>∃ (a:Addr) (ns:List Int),vs=[.ref a]∧SqL K H a (ns.map V.int)∧ns.length≤63∧TabF K H∧∀ H',Q (.bl true) H'
theorem qjF {K:PySem.W.Frag}:∀ vs H Q E,ql2 K vs H Q E→lSp K qkw vs H Q E:=by
  rintro vs H Q E ⟨a,ns,rfl,hS,hl,tb,q⟩
  refine ⟨H,[.fzl (ns.map D.int)],fun d=>d=.bl true,Same.refl _,tb,.one ((RpL.ints ns).fzl hS),⟨ns,rfl,hl,rfl⟩,fun d Φ' H' v r g rv=>?_⟩
  subst r
  cases rv
  exact q _
def qa1 (r:Row):D:=.tup [.tup (r.1.map D.int),.int r.2]
def prD (s:Int × Int):D:=.tup [.int s.1,.int s.2]
section
variable {K : PySem.W.Frag} {H H' Φ : Hp} {v : V} {vs : List V}
theorem qjm {ns:List Int} {a:V} (h:Rp K H (.tup (ns.map D.int)) a):∃ x,a=.ref x∧SqT K H x (ns.map V.int):=by
  cases h with | tup h1 h2 h3=>exact ⟨_,rfl,by rw [← qip ⟨h2,h3⟩];exact h1⟩
theorem qmq {r:Row} (h:Rp K H (qa1 r) v):IsR K H v r:=by
  cases h with | tup h1 h2 h3 =>
    obtain ⟨u,w,rfl,r1,r2⟩:=RpL.two_inv (K:=K) ⟨h2,h3⟩
    obtain ⟨x,rfl,hx⟩:=qjm r1
    cases r2
    exact ⟨_,x,rfl,h1,hx⟩
theorem qnz {s:Int × Int} (h:Rp K H (prD s) v):IsP K H v s:=by
  cases h with | tup h1 h2 h3 =>
    obtain ⟨u,w,rfl,r1,r2⟩:=RpL.two_inv (K:=K) ⟨h2,h3⟩
    cases r1
    cases r2
    exact ⟨_,rfl,h1⟩
theorem RpL.al {α:Type} {f:α→D} {R:V→α→Prop} {xs:List α} (h:RpL K H (xs.map f) vs) (hr:∀ v x,Rp K H (f x) v→R v x):Al2 R vs xs:=⟨by rw [h.1,List.length_map],fun i v hv=>by
  obtain ⟨d,hd,r⟩:=h.at' hv
  obtain ⟨x,rfl,hx⟩:=qcl hd
  exact ⟨x,hx,hr v x r⟩⟩
theorem RpL.rows {rs:List Row} (h:RpL K H (rs.map qa1) vs):Rows K H vs rs:=h.al fun _ _=>qmq
theorem RpL.prs {ss:List (Int × Int)} (h:RpL K H (ss.map prD) vs):Shs K H vs ss:=h.al fun _ _=>qnz
theorem Gr.keep (s:Same Φ H) (h:Same H H'):Gr Φ H Φ H':=⟨Same.refl _,h,s.trans h,fun _ _ _ n _=>n⟩
end
theorem qaM {α β:Type} (f:α→β) (xs:List α) (lo hi:Option Int):qb7 (xs.map f) lo hi=(qb7 xs lo hi).map f:=by
  unfold qb7
  rw [List.length_map,List.map_take,List.map_drop]
theorem qgv (k:Nat) (zs:List Int):(List.replicate k (zs.map D.int)).flatten=((List.replicate k zs).flatten).map D.int:=by
  induction k with
  | zero=>rfl
  | succ k ih=>rw [List.replicate_succ,List.flatten_cons,ih,List.replicate_succ,List.flatten_cons,List.map_append]
theorem qbh (k:Nat) (z:Int):(List.replicate k [D.int z]).flatten=(List.replicate k z).map D.int:=by
  induction k with
  | zero=>rfl
  | succ k ih=>rw [List.replicate_succ,List.flatten_cons,ih];rfl
section
variable {g : TGD} {te : TD} {ρ : Rho} {R : List D → Prop}
theorem qj4 {ds:List D} (ws:List D) (hw:ws.length=ds.length) (hlen:ds.length<sizeLine) (Q:Nat→D→Prop) (hQ:∀ i y,Q i y→ws[i]?=some y) (hb:∀ i d,ds[i]?=some d→g d ρ fun ρ1=>te ρ1 (Q i)) (k:R ws) :
    ds.length<sizeLine∧∃ P:Nat→D→Prop,(∀ i d,ds[i]?=some d→g d ρ fun ρ1=>te ρ1 (P i))∧∀ ys:List D,ys.length=ds.length→(∀ i y,ys[i]?=some y→P i y)→R ys:=by
  refine ⟨hlen,Q,hb,fun ys hl hy=>?_⟩
  have:ys=ws:=by
    refine List.ext_getElem? fun i=>?_
    rcases Nat.lt_or_ge i ys.length with c | c
    · rw [qaI c,hQ i _ (hy i _ (qaI c))]
    · rw [List.getElem?_eq_none c,List.getElem?_eq_none (by omega)]
  rw [this]
  exact k
theorem qcj {α:Type} {f:α→D} {xs:List α} (h:α→D) (hlen:xs.length<sizeLine) (hb:∀ x∈xs,g (f x) ρ fun ρ1=>te ρ1 fun y=>y=h x) (k:R (xs.map h)) :
    (xs.map f).length<sizeLine∧∃ P:Nat→D→Prop,(∀ i d,(xs.map f)[i]?=some d→g d ρ fun ρ1=>te ρ1 (P i))∧∀ ys:List D,ys.length=(xs.map f).length→(∀ i y,ys[i]?=some y→P i y)→R ys:=by
  refine qj4 (xs.map h) (by simp) (by rw [List.length_map];exact hlen) (fun i=>match xs[i]? with | some x=>fun y=>y=h x | none=>fun _=>False) (fun i y q=>?_) (fun i d hd=>?_) k
  · rw [List.getElem?_map]
    cases e:xs[i]? with
    | none=>rw [e] at q;exact q.elim
    | some x=>rw [e] at q;rw [q];rfl
  · obtain ⟨x,rfl,hx⟩:=qcl hd
    have e:(match xs[i]? with | some x=>fun y=>y=h x | none=>fun _=>False:D→Prop)=fun y=>y=h x:=by rw [hx]
    rw [e]
    exact hb x (List.mem_of_getElem? hx)
theorem qbA {lo:Int} {n:Nat} (h:Nat→D) (hlen:n<sizeLine) (hb:∀ i,i<n→g (.int (lo+(i:Nat))) ρ fun ρ1=>te ρ1 fun y=>y=h i) (k:R ((List.range n).map h)) :
    (qdd lo n).length<sizeLine∧∃ P:Nat→D→Prop,(∀ i d,(qdd lo n)[i]?=some d→g d ρ fun ρ1=>te ρ1 (P i))∧∀ ys:List D,ys.length=(qdd lo n).length→(∀ i y,ys[i]?=some y→P i y)→R ys :=
  qcj (f:=fun i:Nat=>D.int (lo+(i:Nat))) (xs:=List.range n) h (by rw [List.length_range];exact hlen) (fun x hx=>hb x (List.mem_range.mp hx)) k
theorem qgL {α β:Type} (f:α→D) (h:β→D) (xs:List α) (ys:List β):qhN (xs.map f) (ys.map h)=(List.zip xs ys).map fun p=>.tup [f p.1,h p.2]:=by
  unfold qhN
  rw [List.zipWith_map,List.map_zip_eq_zipWith]
  rfl
theorem qdt {α β:Type} {f:α→D} {h:β→D} {xs:List α} {ys:List β} (w:α→β→D) (hlen:xs.length<sizeLine) (hb:∀ x∈xs,∀ y∈ys,g (.tup [f x,h y]) ρ fun ρ1=>te ρ1 fun z=>z=w x y) (k:R (List.zipWith w xs ys)) :
    (qhN (xs.map f) (ys.map h)).length<sizeLine∧∃ P:Nat→D→Prop,(∀ i d,(qhN (xs.map f) (ys.map h))[i]?=some d→g d ρ fun ρ1=>te ρ1 (P i))∧∀ zs:List D,zs.length=(qhN (xs.map f) (ys.map h)).length→(∀ i y,zs[i]?=some y→P i y)→R zs:=by
  rw [qgL]
  refine qcj (fun p:α × β=>w p.1 p.2) ?_ (fun p hp=>hb p.1 (List.of_mem_zip hp).1 p.2 (List.of_mem_zip hp).2) ?_
  · rw [List.length_zip];omega
  · rw [List.map_zip_eq_zipWith];exact k
end
end L2
namespace L2
theorem ff {p:Prop} (h:false=true):p:=by cases h
theorem tf {p:Prop} (h:true=false):p:=by cases h
end L2
namespace L2
theorem qjl {α:Type} {xs:List α} {p:α→Bool} {b:Bool} (h:(fun bs:List Bool=>bs.all id) (xs.map p)=b):xs.all p=b:=by
  have h':(xs.map p).all id=b:=h
  rw [List.all_map] at h'
  exact h'
end L2
namespace L2
theorem qbR {α:Type} (f:α→D) (es:List α) (d:α):es.map f++[f d]=(es++[d]).map f:=by simp
theorem qdo {α:Type} (f:α→D) (es fs:List α):es.map f++fs.map f=(es++fs).map f:=by simp
end L2
namespace L2
open PySem PySem.Spec PyProof.Rows
section
variable {g : TGD} {te : TD} {ρ : Rho} {R : List D → Prop}
theorem qbX {α:Type} {f:α→D} {xs:List α} (h:α→Int) (hlen:xs.length<sizeLine) (hb:∀ x∈xs,g (f x) ρ fun ρ1=>te ρ1 fun y=>y=.int (h x)) (k:R ((xs.map h).map D.int)) :
    (xs.map f).length<sizeLine∧∃ P:Nat→D→Prop,(∀ i d,(xs.map f)[i]?=some d→g d ρ fun ρ1=>te ρ1 (P i))∧∀ ys:List D,ys.length=(xs.map f).length→(∀ i y,ys[i]?=some y→P i y)→R ys :=
  qcj (fun x=>D.int (h x)) hlen hb (by rw [List.map_map] at k;exact k)
end
theorem qg6 {α:Type} {f:α→D} {P:α→Prop}:∀ {ys:List D},(∀ (i:Nat) y,ys[i]?=some y→∃ x,P x∧y=f x)→∃ xs:List α,ys=xs.map f∧∀ x∈xs,P x
  | [],_=>⟨[],rfl,fun x hx=>absurd hx List.not_mem_nil⟩
  | y::ys,h=>by
    obtain ⟨x,hx,rfl⟩:=h 0 y rfl
    obtain ⟨xs,rfl,hxs⟩:=qg6 (ys:=ys) fun i y hy=>h (i+1) y hy
    exact ⟨x::xs,rfl,fun z hz=>by
      rcases List.mem_cons.mp hz with rfl | hz
      · exact hx
      · exact hxs z hz⟩
section
variable {K : PySem.W.Frag} {X : Cx} {pins : List (Addr × Obj)} {σ : St} {Φ H : Hp} {s : Shared}
end
section
variable {K : PySem.W.Frag} {X : Cx} {a b : Expr} {ta tb : TD} {apos cpos : Pos}
end
section
variable {K : PySem.W.Frag} {X : Cx} {e b : Expr} {te tk : TD} {pos spos npos : Pos} {x : Str}
theorem qii (h:X.K=K):qnM X (qmU K):=h ▸ qjP
def qir (i:Nat) (f:Int→Int→Int) (tk te:TD):TSD:=fun De ρ=>match ρ[i]? with
  | some (some (.ob (.lst ds)))=>tk ρ fun kk=>(match kk with
    | .int n=>∃ (j:Nat) (v:Int),n=(j:Int)∧ds[j]?=some (.int v)∧te ρ fun d=>(match d with | .int m=>NF (ds.set j (.int (f v m))) fun es=>De.nx (ρ.set i (some (.own es))) | _=>False)
    | _=>False)
  | _=>False
theorem qj0 {op:Operator} {f:Int→Int→Int} (i:Nat) (hop:PIp X op (ipI f)) (hk:PQ K X b tk) (he:PD K X e te) (hN:X.N[i]?=some x:=by rfl) (hv:Vis X.env.scope x:=by first | exact Or.inl rfl | exact Or.inr (Or.inl rfl) | exact Or.inr (Or.inr rfl)) (hd:(x == ("__debug__":Str))=false:=by decide) (hcd:(x == ("__classdict__":Str))=false:=by decide)
    (ha:∀ ov iv new,augStore b ov iv new=(do holding [new,ov,iv] (setItem ov iv new);release [new,ov,iv] [];pure .next):=by intros;rfl) :
    PSD K X (.AugAssign (.Subscript (.Name x npos) b spos) op e pos) (qir i f tk te) :=
  ⟨fun hK=>(qlv (pv i hN hv hd hcd) (hk.pe hK) (qii hK) (he.pe hK) hop qg3 ha).imp fun E σ H hq0=>by
    obtain ⟨Φ0,H0,Φ,ρ,De,g,V,t,k⟩:=hq0
    unfold qir at t
    split at t
    · next ds ho =>
      obtain ⟨p,vs,e1,h0,hn,hp,rl⟩:=V.owl i ds ho
      refine ⟨_,e1,H0,Φ,ρ,_,V,t,fun kk Φ1 H1 w r1 g1 rw1=>?_⟩
      cases kk with
      | int n =>
        obtain ⟨j,v,rfl,hj,r1⟩:=r1
        cases rw1.int
        obtain ⟨u,hu,ru⟩:=rl.at hj
        cases ru
        have hp1:=g1.h _ _ hp
        refine ⟨p,vs,_,j,_,rfl,rfl,.of hp1,rfl,hu,H0,Φ1,ρ,_,V.gr g1,r1,fun d Φ2 H2 z r2 g2 rz=>?_⟩
        cases d with
        | int m =>
          cases rz
          have hp2:=g2.h _ _ hp1
          have g12:=g1.trans g2
          exact ⟨v,m,rfl,rfl,p,vs,_,j,rfl,rfl,hp2,qiJ (qbe hu),k.nx _ Φ2 _ σ r2.get (qhc (g.trans g12) h0 (g12.o _ _ hp hn)) ((V.gr g12).put ho e1 ((rl.same g12.f).set (.int _) j))⟩
        | _=>exact r2.elim
      | _=>exact r1.elim
    · exact t.elim⟩
end
section
variable {K : PySem.W.Frag} {X : Cx} {e a st : Expr} {pos p2 : Pos} {te : TE}
end
section
variable {K : PySem.W.Frag} {X : Cx} {a st : Expr} {pos p2 : Pos} {ta : TD} {to : TOD}
end
section
variable {K : PySem.W.Frag} {Φ Φ0 Φ1 H H0 H1 : Hp} {p : Addr} {d : D} {v : V} {ds : List D} {vs : List V}
end
section
variable {K : PySem.W.Frag} {X : Cx} {e : Expr} {te : TD} {pos pos' : Pos}
end
section
variable {K : PySem.W.Frag} {X : Cx} {Φ H : Hp} {a e : Expr} {es : List Expr} {ta : TD} {tl : TDL} {C : Addr} {fl : Str} {pos p : Pos}
variable {CX : CXT} {k : Nat} {f : Addr} {fd : FuncData} {ps ns : List Str} {x : Str} {E : XK}
end
section
variable {prog : Program} {w : World} {A : Around} {E : Value → Shared → Prop} {s : Shared}
end
section
variable {K : PySem.W.Frag} {X : Cx} {a : Expr} {pos p p2 pos2 : Pos} {tl : TDL}
end
section
variable {X : Cx} {A : Around} {scope : Scope} {p : Str} {r : List Str} {cap : List (Option Nat)} {cl : List (Str × Addr)} {f c' : Addr} {qual name : Str} {cd pm ctv : Value} {pins : List (Addr × Obj)} {σ : St} {H : Hp} {s s1 : Shared} {v : V} {u : Value} {params : Arguments} {body : Expr} {te : TE} {Q : VK} {E : Value → Shared → Prop}
end
section
variable {X : Cx} {A : Around} {pins : List (Addr × Obj)} {σ : St} {H : Hp} {s : Shared} {params : Arguments} {body : Expr} {scope : Scope} {pos : Pos} {c P : Addr} {t0 : Tok} {Q : Value → Shared → Prop} {E : Value → Shared → Prop}
end
section
variable {X : Cx} {pins : List (Addr × Obj)} {σ : St} {H : Hp} {xs : List V} {l S I f : Addr} {fob : Obj} {kf : Nat → Int} {G : Hp → Prop} {R : Result → Shared → Prop} {kw : List (Str × Value)}
end
section
variable {X : Cx} {pins : List (Addr × Obj)} {σ : St} {H : Hp} {xs : List V} {l f : Addr} {fob : Obj} {kf : Nat → Int} {G : Hp → Prop} {s : Shared} {Q : Value → Shared → Prop} {E : Value → Shared → Prop}
end
section
variable {K : PySem.W.Frag} {X : Cx} {l body : Expr} {tl tb : TD} {scope : Scope} {p : Str} {r : List Str} {cap : List (Option Nat)} {params : Arguments} {np pos lp kp1 kp2 kp3 : Pos} {c P : Addr} {j : Nat}
end
section
variable {P : Program} {w : World} {K : PySem.W.Frag} {mg : Str → Option Value} {base : Heap}
end
theorem qeM {K:PySem.W.Frag} {x:Str} (a:PySem.W.nsIn K mainGlobals x=some none):qk1 K x=none:=by
  unfold qk1
  simp only [a]
end L2
namespace L2
open PySem PySem.W PyProof.Rows
section
variable {key : Nat → Int} {N : Nat} {p : Array Nat}
variable (hk : ∀ i j, i < N → j < N → key i = key j → i = j)
include hk
end
end L2
namespace L2
open PySem PySem.Spec PySem.W PyProof.Rows PySem.Calls
section
variable {prog : Program} {w : World} {A : Around} {E : Value → Shared → Prop} {s : Shared} {h₀ : Heap} {L a : Addr} {m : Str → Option Value} {news : List (Addr × Obj)} {vs : List Value}
end
end L2
namespace L2
open PySem PySem.Spec PySem.W PyProof.Rows PySem.Calls
section
variable {K : PySem.W.Frag} {X : Cx}
end
end L2
namespace L2
open PySem PySem.Spec PyProof.Rows
section
variable {X : Cx}
end
section
variable {K : PySem.W.Frag} {X : Cx} {e e2 : Expr} {te te2 : TD} {pos : Pos}
end
section
variable {K : PySem.W.Frag} {X : Cx}
end
section
variable {K : PySem.W.Frag} {X : Cx} {e ev : Expr} {te tv : TD} {pos : Pos}
end
section
variable {X : Cx}
end
section
variable {K : PySem.W.Frag} {X : Cx} {a b : Expr} {ta tb : TD} {apos cpos : Pos}
end
end L2
namespace L2
open PySem PySem.Spec PySem.W PyProof.Rows PySem.Calls
section
variable {K : PySem.W.Frag} {X : Cx}
end
end L2
namespace L2
open PySem PySem.Spec PyProof.Rows
section
variable {K : PySem.W.Frag} {X : Cx} {e ev : Expr} {te tv : TD} {tk : TDK} {pos p : Pos}
end
section
variable {K : PySem.W.Frag} {X : Cx} {a : Expr} {pos p p2 pos2 : Pos} {tl : TDL}
end
section
variable {K : PySem.W.Frag} {X : Cx} {e : Expr} {es : List Expr} {pos p : Pos} {tl : TDL} {te : TD} {tf : TDL} {sp : SpD} {CX : CXT} {k : Nat} {f : Addr} {fd : FuncData} {ps : List Str} {x : Str} {E : XK}
end
theorem qhX {K:PySem.W.Frag} (h:PySem.W.nsIn K mainGlobals "least_grown"=some none∧PySem.W.nsIn K mainGlobals "greatest_first"=some none):qhW K=[]:=by
  unfold qhW
  rw [List.filterMap_cons,qeM h.1,List.filterMap_cons,qeM h.2]
  rfl
structure Cl (P:Program) (w:World) (K:PySem.W.Frag) (mg:Str→Option Value) (base:Heap) (n:Nat) (x:Str) (ps:List Str) (z:SpD):Prop where
  ex:∃ (f:Addr) (fd:FuncData),FnOk P w K mg base CX0 n f fd ps (lSp K z)∧Binds K fd ps []∧PySem.W.keepIn K (.ref f)=true∧mg x=some (.ref f)
section
variable {P : Program} {w : World} {K : PySem.W.Frag} {mg : Str → Option Value} {base : Heap} {n m : Nat} {x : Str} {ps : List Str} {z : SpD} {X : Cx} {e : Expr} {es : List Expr} {pos p : Pos} {tl : TDL} {st : Stmt} {f : Addr} {fd : FuncData} {h : Heap}
theorem Cl.mono (C:Cl P w K mg base n x ps z) (k:n≤m):Cl P w K mg base m x ps z:=by
  obtain ⟨f,fd,F,r⟩:=C.ex
  exact ⟨f,fd,F.mono k,r⟩
theorem Cl.of (F:Fun K x x st f fd) (b:Binds K fd ps []) (m:mg x=some (.ref f)) (H:FnOk P w K mg base CX0 n f fd ps (lSp K z)):Cl P w K mg base n x ps z:=⟨f,fd,H,b,F.kp,m⟩
theorem qat (C:Cl X.prog X.w K X.mg X.base n x ps z) (hr:Room n X.A) (hg:Gl X x)
    (ha:PAD K X (e::es) tl) (he:starEach (e::es) X.env=(false,eval e X.env)::starEach es X.env) (hpl:(backTo pos (starEach es X.env)).any (·.1)=false) (hdb:(x == ("__debug__":Str))=false:=by decide) :
    PD K X (.Call (.Name x p) (e::es) [] pos) (qjN z tl):=⟨fun hK=>by
  subst hK
  obtain ⟨f,fd,F,b,k,m⟩:=C.ex
  exact (qmB F hr hg m k b qdL ha he hpl hdb).pe rfl⟩
def dE (P:Params) (x:Str) (n:Nat) (v:Value):DictEntry:=⟨PyData.keyHash P x,.str x n,v⟩
def cO (n:Str) (a:Nat) (q:Str) (b c:Nat) (l m:Int) (k:Int) (r:Nat) (g:Int) (t:Nat) (x y:Value) (z:Nat) (i:Int) (d:Nat):Obj:=⟨.type "code",none,.fields #[.str n a,.str q b,.str "/claim/cut.py" c,.int l 0,.int m 0,.int 0 0,.int 0 0,.int k 0,.ref r,.bool true,.int g 0,.ref t,.none,x,y,.ref z,.int i 0,.int l 0,.str "/claim/cut.py" d],#[]⟩
def fO (s:Stmt) (n q m:Str) (i c:Nat):Obj:=⟨.type "function",none,.func (PySem.W.fnOf n q (qcc s) (qbS s) (qah s) .none .none .none (.str m i) none (.ref c) .none),#[]⟩
def Has (K:PySem.W.Frag) (s:Stmt) (x:Str):Prop:=∃ f m i c,PySem.W.nsIn K mainGlobals x=some (some (.ref f))∧K.lookup f=some (fO s x x m i c)∧PySem.W.codeIn K (.ref c) x=true
theorem Has.of {s:Stmt} {m:Str} {i c:Nat} (a:PySem.W.nsIn K mainGlobals x=some (some (.ref f))) (l:K.lookup f=some (fO s x x m i c)) (k:PySem.W.codeIn K (.ref c) x=true):Has K s x:=⟨f,m,i,c,a,l,k⟩
theorem Has.fn (a:Has K st x) (X:K.In h) (G:h.Ns mainGlobals mg):∃ f fd,Fun K x x st f fd∧mg x=some (.ref f)∧∃ m i c,fd=PySem.W.fnOf x x (qcc st) (qbS st) (qah st) .none .none .none (.str m i) none (.ref c) .none:=by
  obtain ⟨f,m,i,c,a,l,k⟩:=a
  exact ⟨f,_,qfI l k (by unfold PySem.W.keepIn;simp only [l];rfl),PySem.W.mg_of X G a,m,i,c,rfl⟩
theorem Fun.cl (F:Fun K x x st f fd) (m:mg x=some (.ref f)) (H:FnOk P w K mg base CX0 n f fd ps (lSp K z))
    (b:∀ (kV doc pm:Value) (an:Option Addr) (cdv ct:Value) (us:List Value),us.length=ps.length→bindArgs (PySem.W.fnOf x x (qcc st) (qbS st) (qah st) .none kV doc pm an cdv ct) ⟨us,[]⟩=pure (ps.zip us)):Cl P w K mg base n x ps z:=.of F (F.binds b) m H
end
section
variable {K : PySem.W.Frag} {X : Cx} {n : Nat} {x : Str} {ps : List Str} {z : SpD} {e : Expr} {es : List Expr} {pos p : Pos} {tl : TDL}
end
end L2
namespace Kx
open PySem L2
section
variable {P : Program} {w : World} {K : PySem.W.Frag} {mg : Str → Option Value} {base : Heap}
def top (i:Nat):Stmt:=PySem.Challenge.pw_cutyard_k23_whole_verdicts_exclude.main.body.getD i (.Pass ⟨0,0,0,0⟩)
abbrev qnb:Stmt:=top 4
theorem qnI:FnScope ["top","bottom"] ["top","bottom"] (qah qnb):=⟨rfl,rfl,rfl,by decide +kernel,rfl,by decide +kernel,by decide +kernel⟩
abbrev qfF:Stmt:=top 6
theorem qk4:FnScope ["n","place"] ["n","place"] (qah qfF):=⟨rfl,rfl,rfl,by decide +kernel,rfl,by decide +kernel,by decide +kernel⟩
abbrev qfj:Stmt:=top 7
theorem qjw:FnScope ["rows"] ["rows"] (qah qfj):=⟨rfl,rfl,rfl,by decide +kernel,rfl,by decide +kernel,by decide +kernel⟩
abbrev qfy:Stmt:=top 8
theorem qk6:FnScope ["entries","spot"] ["entries","spot"] (qah qfy):=⟨rfl,rfl,rfl,by decide +kernel,rfl,by decide +kernel,by decide +kernel⟩
abbrev qeW:Stmt:=top 9
theorem qj7:FnScope ["row","spot"] ["row","spot"] (qah qeW):=⟨rfl,rfl,rfl,by decide +kernel,rfl,by decide +kernel,by decide +kernel⟩
abbrev qdA:Stmt:=top 10
theorem qiN:FnScope ["row"] ["row"] (qah qdA):=⟨rfl,rfl,rfl,by decide +kernel,rfl,by decide +kernel,by decide +kernel⟩
abbrev qc3:Stmt:=top 12
theorem sc_givens:FnScope ["plan","bounds","n","least_rows","most_rows"] ["plan"] (qah qc3):=⟨rfl,rfl,rfl,by decide +kernel,rfl,by decide +kernel,by decide +kernel⟩
abbrev qfr:Stmt:=top 13
theorem qj9:FnScope ["plan","spot"] ["plan","spot"] (qah qfr):=⟨rfl,rfl,rfl,by decide +kernel,rfl,by decide +kernel,by decide +kernel⟩
abbrev qd5:Stmt:=top 14
theorem qiM:FnScope ["plan","w"] ["plan","w"] (qah qd5):=⟨rfl,rfl,rfl,by decide +kernel,rfl,by decide +kernel,by decide +kernel⟩
abbrev qbL:Stmt:=top 16
theorem qd0:FnScope ["rows","number"] ["rows","number"] (qah qbL):=⟨rfl,rfl,rfl,by decide +kernel,rfl,by decide +kernel,by decide +kernel⟩
abbrev qbW:Stmt:=top 17
theorem sc_shares_sum:FnScope ["rows","shares","n","entries","bound","number","weight","row"] ["rows","shares","n"] (qah qbW):=⟨rfl,rfl,rfl,by decide +kernel,rfl,by decide +kernel,by decide +kernel⟩
abbrev qca:Stmt:=top 18
theorem sc_line_row:FnScope ["rows","shares","divisor","summed"] ["rows","shares","divisor"] (qah qca):=⟨rfl,rfl,rfl,by decide +kernel,rfl,by decide +kernel,by decide +kernel⟩
abbrev qcA:Stmt:=top 19
theorem sc_can_shut:FnScope ["rows","number","row"] ["rows","number"] (qah qcA):=⟨rfl,rfl,rfl,by decide +kernel,rfl,by decide +kernel,by decide +kernel⟩
abbrev qgR:Stmt:=top 21
theorem sc_bars:FnScope ["rows","paper","sides","place","line","right"] ["rows","paper"] (qah qgR):=⟨rfl,rfl,rfl,by decide +kernel,rfl,by decide +kernel,by decide +kernel⟩
abbrev qdw:Stmt:=top 22
theorem qiV:FnScope ["rows","goal","ray"] ["rows","goal","ray"] (qah qdw):=⟨rfl,rfl,rfl,by decide +kernel,rfl,by decide +kernel,by decide +kernel⟩
abbrev qch:Stmt:=top 23
theorem qfH:FnScope ["rows","goal","spot"] ["rows","goal","spot"] (qah qch):=⟨rfl,rfl,rfl,by decide +kernel,rfl,by decide +kernel,by decide +kernel⟩
abbrev qfe:Stmt:=top 24
theorem sc_holds:FnScope ["plan","told","rows","goal"] ["plan","told"] (qah qfe):=⟨rfl,rfl,rfl,by decide +kernel,rfl,by decide +kernel,by decide +kernel⟩
abbrev qcF:Stmt:=top 26
theorem qfW:FnScope ["_law_script","_law_k"] ["_law_script","_law_k"] (qah qcF):=⟨rfl,rfl,rfl,by decide +kernel,rfl,by decide +kernel,by decide +kernel⟩
abbrev qco:Stmt:=top 27
theorem sc__law_draws:FnScope ["_law_cell_here","_law_salt","_law_sizes","_law_row","_law_rest","_law_k","_law_size","_law_mixed"] ["_law_cell_here","_law_salt","_law_sizes"] (qah qco):=⟨rfl,rfl,rfl,by decide +kernel,rfl,by decide +kernel,by decide +kernel⟩
abbrev qbE:Stmt:=top 28
theorem sc__law_total:FnScope ["_law_rows_here","_law_shares","_law_n","_law_total_here","_law_number","_law_weight","_law_row"] ["_law_rows_here","_law_shares","_law_n"] (qah qbE):=⟨rfl,rfl,rfl,by decide +kernel,rfl,by decide +kernel,by decide +kernel⟩
abbrev qci:Stmt:=top 29
theorem sc__law_rows:FnScope ["_law_cell_here","_law_salt","_law_n","_law_many","_law_big","_law_numbers","_law_rows_here","_law_k","_law_part"] ["_law_cell_here","_law_salt","_law_n","_law_many","_law_big"] (qah qci):=⟨rfl,rfl,rfl,by decide +kernel,rfl,by decide +kernel,by decide +kernel⟩
abbrev qcb:Stmt:=top 30
theorem qfL:FnScope ["_law_entries","_law_spot"] ["_law_entries","_law_spot"] (qah qcb):=⟨rfl,rfl,rfl,by decide +kernel,rfl,by decide +kernel,by decide +kernel⟩
abbrev qce:Stmt:=top 31
theorem qfu:FnScope ["_law_n","_law_at","_law_number"] ["_law_n","_law_at","_law_number"] (qah qce):=⟨rfl,rfl,rfl,by decide +kernel,rfl,by decide +kernel,by decide +kernel⟩
abbrev qbr:Stmt:=top 32
theorem sc__law_givens:FnScope ["_law_plan","_law_n","_law_rows_here"] ["_law_plan"] (qah qbr):=⟨rfl,rfl,rfl,by decide +kernel,rfl,by decide +kernel,by decide +kernel⟩
abbrev qb5:Stmt:=top 33
theorem sc__law_bounds:FnScope ["_law_cell_here","_law_n","_law_numbers","_law_bounds_here","_law_k","_law_most"] ["_law_cell_here","_law_n"] (qah qb5):=⟨rfl,rfl,rfl,by decide +kernel,rfl,by decide +kernel,by decide +kernel⟩
abbrev qcg:Stmt:=top 34
theorem sc__law_tree:FnScope ["_law_cell_here","_law_height","_law_n","_law_shares","_law_numbers","_law_lines","_law_heights","_law_choices","_law_k","_law_now","_law_entries"] ["_law_cell_here","_law_height","_law_n","_law_shares"] (qah qcg):=⟨rfl,rfl,rfl,by decide +kernel,rfl,by decide +kernel,by decide +kernel⟩
abbrev qaV:Stmt:=top 35
theorem sc__law_none_built:FnScope ["_law_cells","_law_n","_law_many","_law_big","_law_bounds_here","_law_rows_here","_law_standing","_law_numbers","_law_shares","_law_total_here","_law_paper","_law_goal"] ["_law_cells","_law_n","_law_many","_law_big"] (qah qaV):=⟨rfl,rfl,rfl,by decide +kernel,rfl,by decide +kernel,by decide +kernel⟩
abbrev qbT:Stmt:=top 36
theorem sc__law_spot_in:FnScope ["_law_cell_here","_law_bounds_here","_law_numbers","_law_spot","_law_number","_law_least","_law_most"] ["_law_cell_here","_law_bounds_here"] (qah qbT):=⟨rfl,rfl,rfl,by decide +kernel,rfl,by decide +kernel,by decide +kernel⟩
abbrev qbg:Stmt:=top 37
theorem sc__law_best_built:FnScope ["_law_cells","_law_n","_law_many","_law_big","_law_bounds_here","_law_spot","_law_rows_here","_law_slacks","_law_k","_law_entries","_law_bound","_law_standing","_law_weights","_law_shares","_law_row","_law_total_here","_law_paper","_law_goal"] ["_law_cells","_law_n","_law_many","_law_big"] (qah qbg):=⟨rfl,rfl,rfl,by decide +kernel,rfl,by decide +kernel,by decide +kernel⟩
abbrev qaP:Stmt:=top 38
theorem sc__law_endless_built:FnScope ["_law_cells","_law_n","_law_many","_law_big","_law_bounds_here","_law_spot","_law_numbers","_law_ray","_law_sides","_law_entries","_law_bound","_law_rows_here","_law_slack"] ["_law_cells","_law_n","_law_many","_law_big"] (qah qaP):=⟨rfl,rfl,rfl,by decide +kernel,rfl,by decide +kernel,by decide +kernel⟩
abbrev qbd:Stmt:=top 39
theorem sc__law_free_line:FnScope ["_law_cell_here","_law_n","_law_numbers","_law_shares","_law_size"] ["_law_cell_here","_law_n"] (qah qbd):=⟨rfl,rfl,rfl,by decide +kernel,rfl,by decide +kernel,by decide +kernel⟩
abbrev qbB:Stmt:=top 40
theorem sc__law_wild:FnScope ["_law_cells","_law_n","_law_many","_law_big","_law_numbers","_law_bounds_here","_law_k","_law_most","_law_drawn","_law_spot","_law_ray","_law_paper"] ["_law_cells","_law_n","_law_many","_law_big"] (qah qbB):=⟨rfl,rfl,rfl,by decide +kernel,rfl,by decide +kernel,by decide +kernel⟩
abbrev qcI:Stmt:=top 41
theorem qfA:FnScope ["_law_kind","_law_wild_here","_law_cells","_law_n","_law_many","_law_big"] ["_law_kind","_law_wild_here","_law_cells","_law_n","_law_many","_law_big"] (qah qcI):=⟨rfl,rfl,rfl,by decide +kernel,rfl,by decide +kernel,by decide +kernel⟩
abbrev qcK:Stmt:=top 42
theorem sc__law_told:FnScope ["_law_kind","_law_parts","_law_spot","_law_ray","_law_paper"] ["_law_kind","_law_parts"] (qah qcK):=⟨rfl,rfl,rfl,by decide +kernel,rfl,by decide +kernel,by decide +kernel⟩
abbrev qcJ:Stmt:=top 43
theorem sc__law_bent:FnScope ["_law_line","_law_way","_law_at","_law_step","_law_entries","_law_shares","_law_number","_law_weight"] ["_law_line","_law_way","_law_at","_law_step"] (qah qcJ):=⟨rfl,rfl,rfl,by decide +kernel,rfl,by decide +kernel,by decide +kernel⟩
abbrev qb6:Stmt:=top 44
theorem sc__law_spoilt:FnScope ["_law_cell_here","_law_paper","_law_fresh","_law_numbers","_law_at","_law_behind","_law_step","_law_bent_here"] ["_law_cell_here","_law_paper","_law_fresh"] (qah qb6):=⟨rfl,rfl,rfl,by decide +kernel,rfl,by decide +kernel,by decide +kernel⟩
abbrev qbz:Stmt:=top 45
theorem sc__law_bent_spot:FnScope ["_law_spot","_law_way","_law_at","_law_step"] ["_law_spot","_law_way","_law_at","_law_step"] (qah qbz):=⟨rfl,rfl,rfl,by decide +kernel,rfl,by decide +kernel,by decide +kernel⟩
abbrev qbx:Stmt:=top 46
theorem sc__law_bent_plan:FnScope ["_law_plan","_law_spoil","_law_at","_law_step","_law_bounds_here","_law_rows_here","_law_goal","_law_entries","_law_bound","_law_least","_law_most"] ["_law_plan","_law_spoil","_law_at","_law_step"] (qah qbx):=⟨rfl,rfl,rfl,by decide +kernel,rfl,by decide +kernel,by decide +kernel⟩
abbrev qbq:Stmt:=top 47
theorem sc__law_bent_parts:FnScope ["_law_parts","_law_spoil","_law_bends","_law_cell_here","_law_n","_law_spot","_law_ray","_law_paper"] ["_law_parts","_law_spoil","_law_bends","_law_cell_here","_law_n"] (qah qbq):=⟨rfl,rfl,rfl,by decide +kernel,rfl,by decide +kernel,by decide +kernel⟩
abbrev qbH:Stmt:=top 48
theorem sc__law_second:FnScope ["_law_script","_law_parts","_law_shape","_law_big","_law_n","_law_cells","_law_step"] ["_law_script","_law_parts","_law_shape","_law_big"] (qah qbH):=⟨rfl,rfl,rfl,by decide +kernel,rfl,by decide +kernel,by decide +kernel⟩
abbrev qiv:Stmt:=top 49
theorem sc_law:FnScope ["_law_script","_law_shape","_law_kind","_law_other","_law_big","_law_cells","_law_plan","_law_parts","_law_second_here","_law_here","_law_there"] ["_law_script"] (qah qiv):=⟨rfl,rfl,rfl,by decide +kernel,rfl,by decide +kernel,by decide +kernel⟩
abbrev qaW:Stmt:=qe4 (top 20) 0
theorem qdC:FnScope ["self","rows"] ["self","rows"] (qah qaW):=⟨rfl,rfl,rfl,by decide +kernel,rfl,by decide +kernel,by decide +kernel⟩
abbrev qbn:Stmt:=qe4 (top 20) 1
theorem sc_Sides__cut:FnScope ["self","shares","divisor","row"] ["self","shares","divisor"] (qah qbn):=⟨rfl,rfl,rfl,by decide +kernel,rfl,by decide +kernel,by decide +kernel⟩
abbrev qaZ:Stmt:=qe4 (top 20) 2
theorem qdV:FnScope ["self","entries","k"] ["self","entries","k"] (qah qaZ):=⟨rfl,rfl,rfl,by decide +kernel,rfl,by decide +kernel,by decide +kernel⟩
abbrev qa8:Stmt:=qe4 (top 20) 3
theorem sc_Sides__resume:FnScope ["self","side"] ["self"] (qah qa8):=⟨rfl,rfl,rfl,by decide +kernel,rfl,by decide +kernel,by decide +kernel⟩
def qmY (K:PySem.W.Frag):Sp:=fun vs H Q _=>∃ (t b:Int),vs=[.int t,.int b]∧1≤b∧b<2 ^ 9000∧Q (.int (-(-t / b))) H
theorem qnt {n:Nat} {f:Addr} {fd:FuncData} (F:Fun K "up" "up" qnb f fd) :FnOk P w K mg base CX0 (n+1) f fd ["top","bottom"] (qmY K):=by
  refine F.ok qnI (fun vs H Q E h=>?_) (fun cdv A outer s H vs Q E hr h=>?_)
  · obtain ⟨t,b,rfl,_⟩:=h;rfl
  obtain ⟨t,b,rfl,h1,hb,q⟩:=h
  refine ⟨_,(qb1 (qdk (qbG qh0 (pv 1) qaX (qao _)) (qaL qkf) pss_nil)
      (qaL (qbD (qik qgd (qd1 qe3 (qik qgd (pv 0)) (pv 1)))))),?_⟩
  refine qcG ⟨_,rfl,_,_,rfl,rfl,_,rfl,qgD (fun c=>absurd (dP c) (by omega)) (fun c=>⟨rfl,rfl⟩)⟩ ?_
  exact ⟨_,rfl,_,rfl,_,rfl,_,_,rfl,rfl,CDivB.of (by omega) hb,_,rfl,q⟩
theorem qkq {K:PySem.W.Frag} {b:Bool} {H:Hp} {R:Addr} {xs:List V} {i:Int} {v:V} {Q:VK} (h:SqB K b H R xs) (e:atI xs i=some v) (q:Q v H):rIx K (.ref R) (.int i) H Q:=by
  cases b with
  | false=>exact .inr (.inl ⟨R,xs,i,v,rfl,rfl,h,e,q⟩)
  | true=>exact .inl ⟨R,xs,i,v,rfl,rfl,h,e,q⟩
theorem _root_.L2.SqB.or {K:PySem.W.Frag} {b:Bool} {H:Hp} {R:Addr} {xs:List V} (h:SqB K b H R xs):SqL K H R xs∨SqT K H R xs:=by
  cases b with
  | false=>exact .inr h
  | true=>exact .inl h
def qfn (K:PySem.W.Frag):Sp:=fun vs H Q _=>∃ (b:Bool) (R:Addr) (rvs:List V) (rs:List Row),vs=[.ref R]∧SqB K b H R rvs∧Rows K H rvs rs∧Q (.int (qbo rs:Int)) H
theorem qjD {n:Nat} {f:Addr} {fd:FuncData} (F:Fun K "width" "width" qfj f fd) (z_len:mg "len"=none):FnOk P w K mg base CX0 (n+1) f fd ["rows"] (qfn K):=by
  refine F.ok qjw (fun vs H Q E h=>?_) (fun cdv A outer s H vs Q E hr h=>?_)
  · obtain ⟨b,R,rvs,rs,rfl,_⟩:=h;rfl
  obtain ⟨b,R,rvs,rs,rfl,hR,hrs,q⟩:=h
  refine ⟨_,(qb1 (qdk (qbG qf8 (qbt qaS rfl z_len PySem.boot_len (qaq (pv 0) pa_nil qaa) (he:=qaa) (hpl:=qag)) qaX (qao _)) (qaL (qbD qaX)) pss_nil)
      (qaL (qbD (qbt qaS rfl z_len PySem.boot_len (qaq (qcn ix_tup (qcn qkL (pv 0) qaX (fun _ _=>rfl)) qaX (fun _ _=>rfl)) pa_nil qac) (he:=qac) (hpl:=qag))))),?_⟩
  have hl:=hrs.1
  cases rs with
  | nil =>
    refine ⟨fun _ _=>False,⟨_,rfl,R,_,rfl,hR.or,rfl,_,rfl,?_⟩,fun _ _ h=>h.elim⟩
    have e:decide (V.int (rvs.length:Int)=V.int 0)=true:=decide_eq_true (by rw [hl];rfl)
    rw [e]
    exact qgk q
  | cons r t =>
    refine qcG ⟨_,rfl,R,_,rfl,hR.or,rfl,_,rfl,qgD (fun c=>?_) (fun c=>⟨rfl,rfl⟩)⟩ ?_
    · have:=dI c
      rw [List.length_cons] at hl
      omega
    · obtain ⟨v,hv,x,y,rfl,hx,hy⟩:=hrs.at (i:=0) (r:=r) rfl
      refine ⟨_,rfl,qkq hR (qgX hv rfl) ⟨x,_,_,_,rfl,rfl,hx,rfl,y,_,rfl,.inr hy,?_⟩⟩
      rw [List.length_map]
      exact q
def qb0 (K:PySem.W.Frag):Sp:=fun vs H Q _=>∃ (R:Addr) (rvs:List V) (k:Int),vs=[.ref R,.int k]∧(SqL K H R rvs∨SqT K H R rvs)∧Q (.bl (decide (0≤k) && decide (k<(rvs.length:Int)))) H
theorem qd3 {n:Nat} {f:Addr} {fd:FuncData} (F:Fun K "is_row_number" "is_row_number" qbL f fd) (z_len:mg "len"=none):FnOk P w K mg base CX0 (n+1) f fd ["rows","number"] (qb0 K):=by
  refine F.ok qd0 (fun vs H Q E h=>?_) (fun cdv A outer s H vs Q E hr h=>?_)
  · obtain ⟨R,rvs,k,rfl,_⟩:=h;rfl
  obtain ⟨R,rvs,k,rfl,hR,q⟩:=h
  refine ⟨_,(qaL (qbD (qi7 (qdg ql6 (pv 1) qaX (qao _)) (qh9 (qdg qh0 (pv 1) (qbt qaS rfl z_len PySem.boot_len (qaq (pv 0) pa_nil qaa) (he:=qaa) (hpl:=qag)) (qao _)))))),?_⟩
  refine ⟨_,rfl,_,_,rfl,rfl,_,rfl,qgD (fun c=>⟨_,rfl,_,rfl,R,_,rfl,hR,_,_,rfl,rfl,?_⟩) (fun c=>?_)⟩
  · rw [c] at q
    exact q
  · rw [Bool.eq_false_iff.mpr c] at q
    exact q
abbrev Fit (rs:List Row) (shs:List (Int × Int)):Prop:=(∀ r∈rs,(∀ x∈r.1,x.natAbs<2 ^ 60000)∧r.2.natAbs<2 ^ 60000)∧∀ s∈shs,s.2.natAbs<2 ^ 60000
def qdq (K:PySem.W.Frag):Sp:=fun vs H Q _=>∃ (b:Bool) (R S:Addr) (rvs svs:List V) (rs:List Row) (shs:List (Int × Int)) (n:Nat),vs=[.ref R,.ref S,.int (n:Int)]∧SqB K b H R rvs∧Rows K H rvs rs∧SqT K H S svs∧Shs K H svs shs∧n≤1000∧Fit rs shs ∧
  (qdH rs shs n=none→∀ H',Same H H'→Q .non H')∧(∀ r,qdH rs shs n=some r→∀ v H',Same H H'→IsR K H' v r→Q v H')
theorem qfg {n:Nat} {f:Addr} {fd:FuncData} (F:Fun K "shares_sum" "shares_sum" qbW f fd) {f_is_row_number:Addr} {d_is_row_number:FuncData} (G_is_row_number:FnOk P w K mg base CX0 n f_is_row_number d_is_row_number ["rows","number"] (qb0 K)) (b_is_row_number:Binds K d_is_row_number ["rows","number"] []) (k_is_row_number:PySem.W.keepIn K (.ref f_is_row_number)=true) (m_is_row_number:mg "is_row_number"=some (.ref f_is_row_number)) (z_tuple:mg "tuple"=none) (z_zip:mg "zip"=none):FnOk P w K mg base CX0 (n+1) f fd ["rows","shares","n"] (qdq K):=by
  refine F.ok sc_shares_sum (fun vs H Q E h=>?_) (fun cdv A outer s H vs Q E hr h=>?_)
  · obtain ⟨b,R,S,rvs,svs,rs,shs,n,rfl,_⟩:=h;rfl
  obtain ⟨b,R,S,rvs,svs,rs,shs,n,rfl,hR,hrs,hS,hsh,hn,⟨hfr,hfs⟩,q0,q1⟩:=h
  have hRl:=hrs.1
  refine ⟨_,(qa4 (qcm (i:=3) sc_shares_sum.nd rfl (Or.inl rfl) (qd1 qkD (qij (qaq qaX pa_nil qad)) (pv 2)))
      (qa4 (qcm (i:=4) sc_shares_sum.nd rfl (Or.inl rfl) qaX)
      (qa4 (qif PassesOwn.never rfl (qfY (pv 1)) (qgS rfl (qcE (qcd (i:=5) sc_shares_sum.nd rfl (Or.inl rfl)) (qcE (qcd (i:=6) sc_shares_sum.nd rfl (Or.inr rfl)) pgs_nil))) (qb1 (qdk (PW.pt (qlG (qhi (qdv (qcO G_is_row_number hr rfl m_is_row_number k_is_row_number b_is_row_number .nil qdL (qaq (pv 0) (qaq (pv 5) pa_nil qaa) qaa) (he:=qaa) (hpl:=(qaf qaa qag))) (fun _=>rfl))) (qh5 (qbG qh0 (pv 6) qaX (qao _))))) (qaL (qbD qeu)) pss_nil)
      (qa4 (qcm (i:=7) sc_shares_sum.nd rfl (Or.inl rfl) (qcn qkL (pv 0) (pv 5) (fun _ _=>rfl)))
      (qa4 (qgK (i:=3) (N':=["total","entry","weight"]) (cap:=[none,none,some 6]) rfl sc_shares_sum.nd rfl (Or.inl rfl) (.ok (show qaY ["rows","shares","n","entries","bound","number","weight","row"] (qah qbW) _ ["total","entry","weight"] [none,none,some 6]=true by decide +kernel)) (qmt true false rfl z_zip (qaq (pv 3) (qaq (qcn ix_tup (pv 7) qaX (fun _ _=>rfl)) pa_nil qac) qaa)) (fun _ _ _ _ _=>(qlB (K:=K) (n:=2) rfl (qgS rfl (qcE (qcd (i:=0) (show List.Nodup (["total","entry","weight"]:List Str) by decide +kernel) rfl (Or.inl rfl)) (qcE (qcd (i:=1) (show List.Nodup (["total","entry","weight"]:List Str) by decide +kernel) rfl (Or.inl rfl)) pgs_nil))))) (fun _ _ _ _ _=>qc4) (fun _ _ _ _ _=>(qd1 qgY (pv 0) (qd1 qgy (pv 2) (pv 1)))))
      (qaL (qcm (i:=4) sc_shares_sum.nd rfl (Or.inl rfl) (qd1 qgY (pv 4) (qd1 qgy (pv 6) (qcn ix_tup (pv 7) qaX (fun _ _=>rfl))))))))))
      (qaL (qbD (qeK (qaq (qcy qbu rfl z_tuple PyProof.Rows.boot_tuple (qaq (pv 3) pa_nil qaa) (he:=qaa) (hpl:=qag)) (qaq (pv 4) pa_nil qaa) qax))))))),?_⟩
  refine ⟨(by show 1≤sizeLine;decide),fun l1 hl1=>⟨_,rfl,l1,_,_,rfl,rfl,qan,by omega,by omega,(by rw [show [V.int 0].length=1 from rfl];exact qaR (by omega)),fun l2 hl2=>?_⟩⟩
  have e2:upd (upd H l1 (.lst [.int 0])) l2 (.lst (List.replicate (Int.toNat (n:Int)) [V.int 0]).flatten) l2=some (.lst ((List.replicate n 0).map V.int)):=by rw [qan,qkR,Int.toNat_natCast]
  have s2:=(qaz hl1 (.lst [.int 0])).trans (qaz hl2 (.lst (List.replicate (Int.toNat (n:Int)) [V.int 0]).flatten))
  generalize upd (upd H l1 (.lst [.int 0])) l2 _=H2 at e2 s2 ⊢
  refine ⟨_,rfl,S,rfl,⟨_,s2.sqt hS⟩,?_⟩
  refine qmQ (xs:=svs) (fun i σ H'=>∃ (a:Row) (e:Addr) (u5 u6 u7:Option V),σ=[some (.ref R),some (.ref S),some (.int (n:Int)),some (.ref e),some (.int a.2),u5,u6,u7]∧Same H H'∧H' e=some (.lst (a.1.map V.int))∧a.1.length≤1000∧qdH rs (shs.take i) n=some a) ⟨(List.replicate n 0,0),l2,_,_,_,rfl,s2,e2,by rw [List.length_replicate];exact hn,rfl⟩ ?_ ?_ ?_
  · rintro i σ H' _ ⟨a,e,u5,u6,u7,rfl,g,_⟩
    exact g.sqt hS
  · rintro i x σ H' hx ⟨a,e,u5,u6,u7,rfl,g,he,hal,hsum⟩
    obtain ⟨⟨k,w⟩,hs,x,rfl,hx'⟩:=hsh.2 i x hx
    have hw:=hfs _ (List.mem_of_getElem? hs)
    refine ⟨x,_,rfl,g.sqt hx',rfl,_,_,rfl,_,_,rfl,rfl,?_⟩
    refine ⟨fun σ' H2=>H2=H'∧okS rs (k,w)∧σ'=[some (.ref R),some (.ref S),some (.int (n:Int)),some (.ref e),some (.int a.2),some (.int k),some (.int w),u7],?_,?_⟩
    · refine ⟨_,rfl,_,rfl,R,rvs,k,rfl,(SqB.same g hR).or,_,rfl,qgD (fun c=>?_) (fun c=>?_)⟩
      · refine qgk (q0 (qbU hs fun ok=>?_) H' g)
        have h1:=ok.1
        rw [decide_eq_true h1.1,decide_eq_true (by rw [hRl];exact h1.2)] at c
        exact absurd c (by decide)
      · refine ⟨_,rfl,_,_,rfl,rfl,_,rfl,qgD (fun c2=>?_) (fun c2=>?_)⟩
        · refine q0 (qbU hs fun ok=>?_) H' g
          have:=ok.2
          have:=dP c2
          simp only at *
          omega
        · have c3:(decide (0≤k) && decide (k<(rvs.length:Int)))=true:=by
            cases hb:(decide (0≤k) && decide (k<(rvs.length:Int))) with
            | true=>rfl
            | false=>rw [hb] at c;exact absurd rfl c
          rw [Bool.and_eq_true] at c3
          have k1:=dP c3.1
          have k2:=dP c3.2
          rw [hRl] at k2
          have k3:=dP' c2
          exact ⟨rfl,⟨⟨k1,k2⟩,by show 0≤w;omega⟩,rfl⟩
    rintro σ' H2 ⟨rfl,ok,rfl⟩
    have k0:0≤k:=ok.1.1
    have k1:k<rs.length:=ok.1.2
    obtain ⟨v,hv,y,z,rfl,hy,hz⟩:=hrs.at (qd4 k0 k1)
    have hrow:=hfr _ (qbJ k0 k1)
    refine ⟨_,rfl,_,rfl,qkq (SqB.same g hR) (qgX hv (by omega)) ?_⟩
    refine ⟨_,rfl,_,rfl,y,_,_,_,rfl,rfl,g.sqt hy,rfl,e,z,_,_,rfl,SqL.of he,g.sqt hz,fun D hD=>?_⟩
    refine qjI (b1:=true) (b2:=false) (xs:=a.1) (ys:=(qbQ rs k).1) (SqL.of he) (g.sqt hz) hD hal (fun σ=>∃ u0 u1:Option V,σ=[u0,u1,some (.int w)]) ⟨_,_,rfl⟩ (fun t e=>V.int (t+w*e)) ?_ ?_
    · rintro t x y σ H' N ht hx hy ⟨u0,u1,rfl⟩ g k
      exact ⟨t,_,rfl,SqT.of ht,rfl,_,_,rfl,_,_,rfl,rfl,_,rfl,_,rfl,_,rfl,_,_,rfl,rfl,qdr (by decide) (by decide) hw (hrow.1 y hy) (by decide),_,_,rfl,rfl,k _ _ ⟨_,_,rfl⟩ (Same.refl _)⟩
    rintro σ H3 _ g3 hd3
    have g4:=g.trans g3
    refine ⟨_,rfl,_,rfl,_,rfl,y,_,_,_,rfl,rfl,g4.sqt hy,rfl,_,_,rfl,rfl,qdr (by decide) (by decide) hw hrow.2 (by decide),_,_,rfl,rfl,?_⟩
    refine ⟨qdQ rs a (k,w),D,_,_,_,rfl,g4,?_,?_,qfl hs hsum ok⟩
    · rw [hd3]
      unfold qdQ
      rw [ql9 fun t e=>t+w*e]
    · unfold qdQ
      rw [List.length_zipWith]
      exact Nat.le_trans (Nat.min_le_left _ _) hal
  · rintro σ H' ⟨a,e,u5,u6,u7,rfl,g,he,hal,hsum⟩
    rw [hsh.1,List.take_length] at hsum
    refine ⟨_,rfl,e,_,rfl,.inl ⟨SqL.of he,fun t ht=>⟨_,rfl,(by show 2≤sizeLine;decide),fun r hr2=>?_⟩⟩⟩
    exact q1 a hsum _ _ (g.trans ((qaz ht _).trans (qaz hr2 _))) ⟨r,t,rfl,SqT.of qan,SqT.of (qaz hr2 _ _ _ qan)⟩
theorem any_map (f:Int→Bool) (xs:List Int):xs.map (fun x=>V.bl (f x))=(xs.map f).map V.bl:=by rw [List.map_map];rfl
theorem qmI (f:Int→Bool) (xs:List Int):(xs.map f).any id=xs.any f:=by rw [List.any_map];rfl
def qeq (K:PySem.W.Frag):Sp:=fun vs H Q _=>∃ (b:Bool) (R S:Addr) (rvs svs:List V) (rs:List Row) (shs:List (Int × Int)) (d:Int) (n:Nat),vs=[.ref R,.ref S,.int d]∧SqB K b H R rvs∧Rows K H rvs rs∧SqT K H S svs∧Shs K H svs shs∧n≤1000∧Fit rs shs∧(∀ r∈rs,r.1.length=n)∧d<2 ^ 9000 ∧
  (qcr rs shs d n=none→∀ H',Same H H'→Q .non H')∧(∀ r,qcr rs shs d n=some r→∀ v H',Same H H'→IsR K H' v r→Q v H')
theorem qgC {n:Nat} {f:Addr} {fd:FuncData} (F:Fun K "line_row" "line_row" qca f fd) {f_shares_sum:Addr} {d_shares_sum:FuncData} (G_shares_sum:FnOk P w K mg base CX0 n f_shares_sum d_shares_sum ["rows","shares","n"] (qdq K)) (b_shares_sum:Binds K d_shares_sum ["rows","shares","n"] []) (k_shares_sum:PySem.W.keepIn K (.ref f_shares_sum)=true) (m_shares_sum:mg "shares_sum"=some (.ref f_shares_sum)) {f_width:Addr} {d_width:FuncData} (G_width:FnOk P w K mg base CX0 n f_width d_width ["rows"] (qfn K)) (b_width:Binds K d_width ["rows"] []) (k_width:PySem.W.keepIn K (.ref f_width)=true) (m_width:mg "width"=some (.ref f_width)) {f_up:Addr} {d_up:FuncData} (G_up:FnOk P w K mg base CX0 n f_up d_up ["top","bottom"] (qmY K)) (b_up:Binds K d_up ["top","bottom"] []) (k_up:PySem.W.keepIn K (.ref f_up)=true) (m_up:mg "up"=some (.ref f_up)) (z_any:mg "any"=none) (z_tuple:mg "tuple"=none) (z_len:mg "len"=none):FnOk P w K mg base CX0 (n+1) f fd ["rows","shares","divisor"] (qeq K):=by
  refine F.ok sc_line_row (fun vs H Q E h=>?_) (fun cdv A outer s H vs Q E hr h=>?_)
  · obtain ⟨b,R,S,rvs,svs,rs,shs,d,n,rfl,_⟩:=h;rfl
  obtain ⟨b,R,S,rvs,svs,rs,shs,d,n,rfl,hR,hrs,hS,hsh,hn,hfit,hlen,hd9,q0,q1⟩:=h
  have hSl:=hsh.1
  refine ⟨_,(qb1 (qdk (PW.pt (qlG (qbG qf8 (qbt qaS rfl z_len PySem.boot_len (qaq (pv 1) pa_nil qaa) (he:=qaa) (hpl:=qag)) qaX (qao _)) (qh5 (qbG qh0 (pv 2) qaX (qao _))))) (qaL (qbD qeu)) pss_nil)
      (qa4 (qcm (i:=3) sc_line_row.nd rfl (Or.inl rfl) (qcO G_shares_sum hr rfl m_shares_sum k_shares_sum b_shares_sum .nil qdL (qaq (pv 0) (qaq (pv 1) (qaq (qcO G_width hr rfl m_width k_width b_width .nil qdL (qaq (pv 0) pa_nil qaa) (he:=qaa) (hpl:=qag)) pa_nil qax) qaa) qaa) (he:=qaa) (hpl:=(qaf qaa (qaf qax qag)))))
      (qb1 (qdk (qbG qhU (pv 3) qeu (qao _)) (qaL (qbD qeu)) pss_nil)
      (qb1 (qdk (qdv (qbt (qi4 (K:=K) true rfl rfl) rfl z_any PyProof.Rows.boot_any (qaq (qdP (N':=["entry","divisor"]) (cap:=[none,some 2]) rfl (.ok (show qaY ["rows","shares","divisor","summed"] (qah qca) _ ["entry","divisor"] [none,some 2]=true by decide +kernel)) (qfY (qcn ix_tup (pv 3) qaX (fun _ _=>rfl))) (fun _ _ _ _ _=>(qcd (i:=0) (show List.Nodup (["entry","divisor"]:List Str) by decide +kernel) rfl (Or.inl rfl))) (fun _ _ _ _ _=>qc4) (fun _ _ _ _ _=>(qdg qmM (qd1 qkv (pv 0) (pv 1)) qaX (qao _)))) pa_nil qal) (he:=qal) (hpl:=qag)) (fun _=>rfl)) (qaL (qbD qeu)) pss_nil)
      (qaL (qbD (qeK (qaq (qcy qbu rfl z_tuple PyProof.Rows.boot_tuple (qaq (qdP (N':=["entry","divisor"]) (cap:=[none,some 2]) rfl (.ok (show qaY ["rows","shares","divisor","summed"] (qah qca) _ ["entry","divisor"] [none,some 2]=true by decide +kernel)) (qfY (qcn ix_tup (pv 3) qaX (fun _ _=>rfl))) (fun _ _ _ _ _=>(qcd (i:=0) (show List.Nodup (["entry","divisor"]:List Str) by decide +kernel) rfl (Or.inl rfl))) (fun _ _ _ _ _=>qc4) (fun _ _ _ _ _=>(qd1 qe3 (pv 0) (pv 1)))) pa_nil qal) (he:=qal) (hpl:=qag)) (qaq (qcO G_up hr rfl m_up k_up b_up .nil qdL (qaq (qcn ix_tup (pv 3) qaX (fun _ _=>rfl)) (qaq (pv 2) pa_nil qaa) qac) (he:=qac) (hpl:=(qaf qaa qag))) pa_nil qax) qax)))))))),?_⟩
  refine ⟨fun σ' H'=>H'=H∧¬ (shs.length=0∨d<1)∧σ'=[some (.ref R),some (.ref S),some (.int d),none],?_,?_⟩
  · refine ⟨_,rfl,S,_,rfl,.inr hS,rfl,_,rfl,qgD (fun c=>?_) (fun c=>?_)⟩
    · refine qgk (q0 ?_ H (Same.refl H))
      have:=dI c
      unfold qcr
      rw [if_pos (.inl (by omega))]
    · refine ⟨_,rfl,_,_,rfl,rfl,_,rfl,qgD (fun c2=>?_) (fun c2=>⟨rfl,fun h=>?_,rfl⟩)⟩
      · refine q0 ?_ H (Same.refl H)
        unfold qcr
        rw [if_pos (.inr (dP c2))]
      · have h1:=dI' c
        have h2:=dP' c2
        omega
  rintro σ' H' ⟨rfl,hc,rfl⟩
  have hs0:shs≠[]:=fun e=>hc (.inl (by rw [e];rfl))
  have hd1:1≤d:=by omega
  have hL:qcr rs shs d n=(qdH rs shs n).bind fun a=>if a.1.any (fun e=>decide (e % d≠0))=true then none else some (a.1.map (· / d),-(-a.2 / d)):=by
    unfold qcr
    rw [if_neg hc]
  have hwid:qbo rs≤1000:=by
    cases rs with
    | nil=>exact Nat.zero_le _
    | cons r t=>show r.1.length≤1000;rw [hlen r List.mem_cons_self];exact hn
  refine ⟨_,rfl,_,rfl,_,rfl,b,R,rvs,rs,rfl,hR,hrs,b,R,S,rvs,svs,rs,shs,qbo rs,rfl,hR,hrs,hS,hsh,hwid,hfit,fun e H2 g=>?_,fun a ha v H2 g hv=>?_⟩
  · rw [qeP hlen hs0] at e
    refine ⟨fun _ _=>False,⟨_,rfl,rfl,_,rfl,qgk (q0 ?_ H2 g)⟩,fun _ _ h=>h.elim⟩
    rw [hL,e]
    rfl
  rw [qeP hlen hs0] at ha
  rw [ha,Option.bind_some] at hL
  have hal:=qff hlen ha
  obtain ⟨p,t,rfl,hp,ht⟩:=hv
  refine qcG ⟨_,rfl,rfl,_,rfl,qgD (fun c=>absurd (dP c) (fun e=>nomatch e)) (fun c=>⟨rfl,rfl⟩)⟩ ?_
  refine ⟨fun σ' H'=>Same H2 H'∧a.1.any (fun e=>decide (e % d≠0))≠true∧σ'=[some (.ref R),some (.ref S),some (.int d),some (.ref p)],?_,?_⟩
  · refine ⟨_,rfl,p,_,_,_,rfl,rfl,hp,rfl,t,rfl,⟨_,ht⟩,fun D hD=>?_⟩
    refine qdx ht hD (by omega) (fun σ=>∃ u0:Option V,σ=[u0,some (.int d)]) ⟨_,rfl⟩ (fun x=>V.bl (decide (x % d≠0))) ?_ ?_
    · rintro x σ H' N hx ⟨u0,rfl⟩ g k
      refine ⟨_,rfl,_,rfl,_,_,rfl,rfl,by omega,rfl,?_⟩
      have e:(!decide (V.int (x % d)=V.int 0))=decide (x % d≠0):=by
        by_cases c:x % d=0
        · rw [c];rfl
        · rw [decide_eq_true c,decide_eq_false (fun e=>c (by injection e))];rfl
      rw [e]
      exact k _ _ ⟨_,rfl⟩ (Same.refl _)
    · rintro σ H' _ g hd
      rw [any_map fun x=>decide (x % d≠0)] at hd
      refine ⟨D,_,_,rfl,SqL.of hd,qmI _ _,_,rfl,qgD (fun c=>?_) (fun c=>⟨g,c,rfl⟩)⟩
      refine q0 ?_ H' (Same.trans ‹_› g)
      rw [hL,if_pos c]
  rintro σ' H3 ⟨g3,hany,rfl⟩
  rw [if_neg hany] at hL
  refine ⟨_,rfl,p,_,_,_,rfl,rfl,g3.sqt hp,rfl,t,rfl,⟨_,g3.sqt ht⟩,fun D hD=>?_⟩
  refine qdx (g3.sqt ht) hD (by omega) (fun σ=>∃ u0:Option V,σ=[u0,some (.int d)]) ⟨_,rfl⟩ (fun x=>V.int (x / d)) ?_ ?_
  · rintro x σ H' N hx ⟨u0,rfl⟩ g k
    exact ⟨_,rfl,_,rfl,_,_,rfl,rfl,CDivB.of (by omega) hd9,k _ _ ⟨_,rfl⟩ (Same.refl _)⟩
  · rintro σ H4 _ g4 hd4
    refine ⟨D,_,rfl,.inl ⟨SqL.of hd4,fun t4 ht4=>?_⟩⟩
    have g5:=(g3.trans g4).trans (qaz ht4 (.tup (a.1.map fun x=>V.int (x / d))))
    refine ⟨_,rfl,p,_,_,_,rfl,rfl,g5.sqt hp,rfl,_,rfl,_,_,rfl,hd1,hd9,(by show 2≤sizeLine;decide),fun r hr2=>?_⟩
    refine q1 _ hL _ _ ((g.trans g5).trans (qaz hr2 _)) ⟨r,t4,rfl,SqT.of qan,SqT.of (qaz hr2 _ _ _ ?_)⟩
    rw [qan,List.map_map]
    rfl
def qdb (rs:List Row) (k:Int):Bool:=decide (0≤k) && decide (k<(rs.length:Int)) && decide (0<(qbQ rs k).2) && (qbQ rs k).1.all (fun x=>decide (x=0))
def qeh (K:PySem.W.Frag):Sp:=fun vs H Q _=>∃ (R:Addr) (rvs:List V) (rs:List Row) (k:Int),vs=[.ref R,.int k]∧SqL K H R rvs∧Rows K H rvs rs∧(∀ r∈rs,r.1.length≤1000)∧∀ H',Same H H'→Q (.bl (qdb rs k)) H'
theorem qgG {n:Nat} {f:Addr} {fd:FuncData} (F:Fun K "can_shut" "can_shut" qcA f fd) {f_is_row_number:Addr} {d_is_row_number:FuncData} (G_is_row_number:FnOk P w K mg base CX0 n f_is_row_number d_is_row_number ["rows","number"] (qb0 K)) (b_is_row_number:Binds K d_is_row_number ["rows","number"] []) (k_is_row_number:PySem.W.keepIn K (.ref f_is_row_number)=true) (m_is_row_number:mg "is_row_number"=some (.ref f_is_row_number)) (z_all:mg "all"=none):FnOk P w K mg base CX0 (n+1) f fd ["rows","number"] (qeh K):=by
  refine F.ok sc_can_shut (fun vs H Q E h=>?_) (fun cdv A outer s H vs Q E hr h=>?_)
  · obtain ⟨R,rvs,rs,k,rfl,_⟩:=h;rfl
  obtain ⟨R,rvs,rs,k,rfl,hR,hrs,hz,q⟩:=h
  have hl:=hrs.1
  refine ⟨_,(qb1 (qdk (qhi (qdv (qcO G_is_row_number hr rfl m_is_row_number k_is_row_number b_is_row_number .nil qdL (qaq (pv 0) (qaq (pv 1) pa_nil qaa) qaa) (he:=qaa) (hpl:=(qaf qaa qag))) (fun _=>rfl))) (qaL (qbD qfJ)) pss_nil)
      (qa4 (qcm (i:=2) sc_can_shut.nd rfl (Or.inl rfl) (qcn ix_list (pv 0) (pv 1) (fun _ _=>rfl)))
      (qaL (qbD (qi7 (qdg qkZ (qcn ix_tup (pv 2) qaX (fun _ _=>rfl)) qaX (qao _)) (qh9 (qbt (qiH (K:=K) true rfl rfl) rfl z_all PyProof.Rows.boot_all (qaq (qdP (N':=["entry"]) (cap:=[none]) rfl (.ok (show qaY ["rows","number","row"] (qah qcA) _ ["entry"] [none]=true by decide +kernel)) (qfY (qcn ix_tup (pv 2) qaX (fun _ _=>rfl))) (fun _ _ _ _ _=>(qcd (i:=0) (show List.Nodup (["entry"]:List Str) by decide +kernel) rfl (Or.inl rfl))) (fun _ _ _ _ _=>qc4) (fun _ _ _ _ _=>(qdg qf8 (pv 0) qaX (qao _)))) pa_nil qal) (he:=qal) (hpl:=qag)))))))),?_⟩
  refine ⟨fun σ' H'=>H'=H∧(0≤k∧k<(rs.length:Int))∧σ'=[some (.ref R),some (.int k),none],?_,?_⟩
  · refine ⟨_,rfl,_,rfl,R,rvs,k,rfl,.inl hR,_,rfl,qgD (fun c=>?_) (fun c=>?_)⟩
    · have e:qdb rs k=false:=by
        unfold qdb
        rw [hl] at c
        cases hb:(decide (0≤k) && decide (k<(rs.length:Int))) with
        | true=>rw [hb] at c;exact absurd c (by decide)
        | false=>rfl
      have q':=q H (Same.refl H)
      rw [e] at q'
      exact q'
    · have c3:(decide (0≤k) && decide (k<(rvs.length:Int)))=true:=by
        cases hb:(decide (0≤k) && decide (k<(rvs.length:Int))) with
        | true=>rfl
        | false=>rw [hb] at c;exact absurd rfl c
      rw [Bool.and_eq_true,hl] at c3
      exact ⟨rfl,⟨dP c3.1,dP c3.2⟩,rfl⟩
  rintro σ' H' ⟨rfl,⟨k0,k1⟩,rfl⟩
  have hmem:=qbJ k0 k1
  have hrz:=hz _ hmem
  obtain ⟨v,hv,y,z,rfl,hy,hzz⟩:=hrs.at (qd4 k0 k1)
  have e0:qdb rs k=(decide (0<(qbQ rs k).2) && (qbQ rs k).1.all (fun x=>decide (x=0))):=by
    unfold qdb
    rw [decide_eq_true k0,decide_eq_true k1]
    rfl
  refine ⟨_,rfl,_,rfl,R,rvs,_,_,rfl,rfl,hR,qgX hv (by omega),?_⟩
  refine ⟨_,rfl,y,_,_,_,rfl,rfl,hy,rfl,_,_,rfl,rfl,_,rfl,qgD (fun c=>?_) (fun c=>?_)⟩
  · rw [c,Bool.true_and] at e0
    refine ⟨_,rfl,y,_,_,_,rfl,rfl,hy,rfl,z,rfl,⟨_,hzz⟩,fun D hD=>?_⟩
    refine qdx hzz hD hrz (fun σ=>∃ u0:Option V,σ=[u0]) ⟨_,rfl⟩ (fun x=>V.bl (decide (x=0))) ?_ ?_
    · rintro x σ H' N hx ⟨u0,rfl⟩ g k
      refine ⟨_,rfl,rfl,?_⟩
      have e:decide (V.int x=V.int 0)=decide (x=0):=by
        by_cases c:x=0
        · rw [c];rfl
        · rw [decide_eq_false c,decide_eq_false (fun e=>c (by injection e))]
      rw [e]
      exact k _ _ ⟨_,rfl⟩ (Same.refl _)
    · rintro σ H2 _ g hd
      rw [any_map fun x=>decide (x=0)] at hd
      refine ⟨D,_,_,rfl,SqL.of hd,?_,q H2 g⟩
      rw [e0]
      show (List.map (fun x=>decide (x=0)) (qbQ rs k).1).all id=_
      rw [List.all_map]
      rfl
  · rw [Bool.eq_false_iff.mpr c,Bool.false_and] at e0
    have q':=q H' (Same.refl H')
    rw [e0] at q'
    exact q'
def qcq (K:PySem.W.Frag) (C:Addr):Sp:=fun vs H Q _=>∃ (p dx R:Addr) (rvs:List V) (rs:List Row),vs=[.ref p,.ref R]∧H p=some (.ins C dx [])∧SqT K H R rvs∧Rows K H rvs rs ∧
  ∀ st wt H',H st=none→H wt=none→But [p] H H'→TSame K H H'→SidesAt C H' p st wt (qbo rs:Int) rvs []→Q .non H'
theorem qdE {n:Nat} {f:Addr} {fd:FuncData} (F:Fun K "__init__" "Sides.__init__" qaW f fd) {C_Sides:Addr} (T_Sides:TxtSides K mg C_Sides) {f_width:Addr} {d_width:FuncData} (G_width:FnOk P w K mg base CX0 n f_width d_width ["rows"] (qfn K)) (b_width:Binds K d_width ["rows"] []) (k_width:PySem.W.keepIn K (.ref f_width)=true) (m_width:mg "width"=some (.ref f_width)) (z_list:mg "list"=none):FnOk P w K mg base CX0 (n+1) f fd ["self","rows"] (qcq K C_Sides):=by
  refine F.ok qdC (fun vs H Q E h=>?_) (fun cdv A outer s H vs Q E hr h=>?_)
  · obtain ⟨p,dx,R,rvs,rs,rfl,_⟩:=h;rfl
  obtain ⟨p,dx,R,rvs,rs,rfl,hp,hR,hrs,q⟩:=h
  refine ⟨_,(qa4 (qi8 (pv 0) (qcy qdU rfl z_list PyProof.Rows.boot_list (qaq (pv 1) pa_nil qaa) (he:=qaa) (hpl:=qag)) rfl)
      (qa4 (qi8 (pv 0) (qcO G_width hr rfl m_width k_width b_width .nil qdL (qaq (pv 1) pa_nil qaa) (he:=qaa) (hpl:=qag)) rfl)
      (qaL (qi8 (pv 0) (qij pa_nil) rfl)))),?_⟩
  refine ⟨_,rfl,R,_,rfl,.inr hR,fun st hst=>?_⟩
  have nps:p≠st:=qaE hp hst
  have s1:=qaz hst (.lst rvs)
  have e1:upd H st (.lst rvs) st=some (.lst rvs):=qan
  generalize upd H st _=H1 at s1 e1 ⊢
  refine ⟨_,rfl,p,C_Sides,dx,[],rfl,s1 _ _ hp,T_Sides.cl,T_Sides.nS,(by show 0<1000;decide),?_⟩
  have t2:TSame K H1 (upd H1 p (.ins C_Sides dx (qc2 "standing" (.ref st) []))):=by
    rintro b xs ((z | ⟨o,z⟩) | z)
    · have:b≠p:=fun e=>by subst e;rw [s1 _ _ hp] at z;cases z
      exact .inl (.inl (by rw [qaA this];exact z))
    · have:b≠p:=fun e=>by subst e;rw [s1 _ _ hp] at z;cases z
      exact .inl (.inr ⟨o,by rw [qaA this];exact z⟩)
    · exact .inr z
  have b2:But [p] H (upd H1 p (.ins C_Sides dx (qc2 "standing" (.ref st) []))):=(s1.but _).put (by simp) _
  have p2:upd H1 p (.ins C_Sides dx (qc2 "standing" (.ref st) [])) p=some (.ins C_Sides dx (qc2 "standing" (.ref st) [])):=qan
  have e2:upd H1 p (.ins C_Sides dx (qc2 "standing" (.ref st) [])) st=some (.lst rvs):=(qaA (Ne.symm nps)).trans e1
  have ts2:=(s1.ts (K:=K)).trans t2
  generalize upd H1 p _=H2 at t2 b2 p2 e2 ts2 ⊢
  refine ⟨_,rfl,false,R,rvs,rs,rfl,ts2 _ _ hR,hrs.ts ts2,?_⟩
  refine ⟨_,rfl,p,C_Sides,dx,_,rfl,p2,T_Sides.cl,T_Sides.nB,(by show 1<1000;decide),?_⟩
  have t3:TSame K H2 (upd H2 p (.ins C_Sides dx (qc2 "breadth" (.int (qbo rs:Int)) (qc2 "standing" (.ref st) [])))):=by
    rintro b xs ((z | ⟨o,z⟩) | z)
    · have:b≠p:=fun e=>by subst e;rw [p2] at z;cases z
      exact .inl (.inl (by rw [qaA this];exact z))
    · have:b≠p:=fun e=>by subst e;rw [p2] at z;cases z
      exact .inl (.inr ⟨o,by rw [qaA this];exact z⟩)
    · exact .inr z
  have b3:=b2.put (p:=p) (by simp) (.ins C_Sides dx (qc2 "breadth" (.int (qbo rs:Int)) (qc2 "standing" (.ref st) [])))
  have p3:upd H2 p (.ins C_Sides dx (qc2 "breadth" (.int (qbo rs:Int)) (qc2 "standing" (.ref st) []))) p=some (.ins C_Sides dx (qc2 "breadth" (.int (qbo rs:Int)) (qc2 "standing" (.ref st) []))):=qan
  have e3:upd H2 p (.ins C_Sides dx (qc2 "breadth" (.int (qbo rs:Int)) (qc2 "standing" (.ref st) []))) st=some (.lst rvs):=(qaA (Ne.symm nps)).trans e2
  have ts3:=ts2.trans t3
  generalize upd H2 p _=H3 at t3 b3 p3 e3 ts3 ⊢
  refine ⟨(by show 0≤sizeLine;decide),fun wt hwt=>?_⟩
  have s4:=qaz hwt (.lst [])
  have e4:upd H3 wt (.lst []) wt=some (.lst []):=qan
  have npw:p≠wt:=qaE p3 hwt
  have nsw:st≠wt:=qaE e3 hwt
  have b4:=b3.new hwt (.lst [])
  generalize upd H3 wt _=H4 at s4 e4 b4 ⊢
  have p4:=s4 _ _ p3
  refine ⟨_,rfl,p,C_Sides,dx,_,rfl,p4,T_Sides.cl,T_Sides.nW,(by show 2<1000;decide),?_⟩
  have hwH:H wt=none:=by
    cases z:H wt with
    | none=>rfl
    | some o=>rw [b3 wt o z (by simp;exact Ne.symm npw)] at hwt;cases hwt
  refine q st wt _ hst hwH (b4.put (by simp) _) ?_ ⟨⟨dx,qan⟩,(qaA (Ne.symm nps)).trans (s4 _ _ e3),(qaA (Ne.symm npw)).trans e4,nsw⟩
  refine (ts3.trans s4.ts).trans ?_
  rintro b xs ((z | ⟨o,z⟩) | z)
  · have:b≠p:=fun e=>by subst e;rw [p4] at z;cases z
    exact .inl (.inl (by rw [qaA this];exact z))
  · have:b≠p:=fun e=>by subst e;rw [p4] at z;cases z
    exact .inl (.inr ⟨o,by rw [qaA this];exact z⟩)
  · exact .inr z
def qcS (K:PySem.W.Frag) (C:Addr):Sp:=fun vs H Q _=>∃ (p st wt a:Addr) (br k:Int) (svs wvs:List V) (es:List Int),vs=[.ref p,.ref a,.int k]∧SidesAt C H p st wt br svs wvs∧SqT K H a (es.map V.int)∧es.length≤1000∧svs.length<1000000∧wvs.length<1000000 ∧
  ((es.length:Int)≠br→Q (.bl false) H) ∧
  ((es.length:Int)=br→∀ v u H',But [st,wt] H H'→TSame K H H'→SidesAt C H' p st wt br (svs++[v]) (wvs++[u])→IsR K H' v (es.map (- ·),-k)→IsW K H' u (svs.length,(es,k+1))→Q (.bl true) H')
theorem qjS {n:Nat} (h:n<1000000):n<sizeLine:=Nat.lt_of_lt_of_le h (by decide +kernel)
theorem qdX {n:Nat} {f:Addr} {fd:FuncData} (F:Fun K "choose" "Sides.choose" qaZ f fd) {C_Sides:Addr} (T_Sides:TxtSides K mg C_Sides) (z_len:mg "len"=none) (z_tuple:mg "tuple"=none):FnOk P w K mg base CX0 (n+1) f fd ["self","entries","k"] (qcS K C_Sides):=by
  refine F.ok qdV (fun vs H Q E h=>?_) (fun cdv A outer s H vs Q E hr h=>?_)
  · obtain ⟨p,st,wt,a,br,k,svs,wvs,es,rfl,_⟩:=h;rfl
  obtain ⟨p,st,wt,a,br,k,svs,wvs,es,rfl,S,ha,hz,hsz,hwz,q0,q1⟩:=h
  obtain ⟨nps,npw⟩:=S.nps
  obtain ⟨⟨dx,hp⟩,hs,hw,nsw⟩:=id S
  refine ⟨_,(qb1 (qdk (qbG qmM (qbt qaS rfl z_len PySem.boot_len (qaq (pv 1) pa_nil qaa) (he:=qaa) (hpl:=qag)) (qcP (pv 0) rfl) (qao _)) (qaL (qbD qfJ)) pss_nil)
      (qa4 (qdi (qje PySem.F.plainAttrs_list PySem.F.slot_list_append PySem.F.type_list_append qcC (qcP (pv 0) rfl) (qaq (qeK (qaq (qbt qaS rfl z_len PySem.boot_len (qaq (qcP (pv 0) rfl) pa_nil qa6) (he:=qa6) (hpl:=qag)) (qaq (qeK (qaq (pv 1) (qaq (qd1 qgY (pv 2) qaX) pa_nil qai) qaa)) pa_nil qar) qax)) pa_nil qar) (hfew:=qb4 qar) (hs:=qar) (hplain:=qag)))
      (qa4 (qdi (qje PySem.F.plainAttrs_list PySem.F.slot_list_append PySem.F.type_list_append qcC (qcP (pv 0) rfl) (qaq (qeK (qaq (qcy qbu rfl z_tuple PyProof.Rows.boot_tuple (qaq (qdP (N':=["entry"]) (cap:=[none]) rfl (.ok (show qaY ["self","entries","k"] (qah qaZ) _ ["entry"] [none]=true by decide +kernel)) (qfY (pv 1)) (fun _ _ _ _ _=>(qcd (i:=0) (show List.Nodup (["entry"]:List Str) by decide +kernel) rfl (Or.inl rfl))) (fun _ _ _ _ _=>qc4) (fun _ _ _ _ _=>(qik qgd (pv 0)))) pa_nil qal) (he:=qal) (hpl:=qag)) (qaq (qik qgd (pv 2)) pa_nil qbc) qax)) pa_nil qar) (hfew:=qb4 qar) (hs:=qar) (hplain:=qag)))
      (qaL (qbD qfJ))))),?_⟩
  refine ⟨fun σ' H'=>H'=H∧(es.length:Int)=br∧σ'=[some (.ref p),some (.ref a),some (.int k)],?_,?_⟩
  · refine ⟨_,rfl,a,_,rfl,.inr ha,_,rfl,p,C_Sides,dx,_,_,rfl,hp,T_Sides.cl,T_Sides.nB,flB _ _ _,rfl,_,rfl,qgD (fun c=>?_) (fun c=>?_)⟩
    · have:=nI c
      rw [List.length_map] at this
      exact q0 this
    · have:=nI' c
      rw [List.length_map] at this
      exact ⟨rfl,this,rfl⟩
  rintro σ' H' ⟨rfl,hbr,rfl⟩
  refine ⟨_,rfl,p,C_Sides,dx,_,_,rfl,hp,T_Sides.cl,T_Sides.nW,flW _ _ _,.inl ⟨rfl,_,SqL.of hw⟩,_,rfl,p,C_Sides,dx,_,_,rfl,hp,T_Sides.cl,T_Sides.nS,flS _ _ _,st,_,rfl,.inl (SqL.of hs),_,rfl,_,rfl,_,_,rfl,rfl,(by show 2≤sizeLine;decide),fun t1 ht1=>?_⟩
  have s1:=qaz ht1 (.tup [.ref a,.int (k+1)])
  have e1:upd H' t1 (.tup [.ref a,.int (k+1)]) t1=some (.tup [.ref a,.int (k+1)]):=qan
  generalize upd H' t1 _=H1 at s1 e1 ⊢
  refine ⟨(by show 2≤sizeLine;decide),fun t2 ht2=>?_⟩
  have s2:=s1.trans (qaz ht2 (.tup [.int (svs.length:Int),.ref t1]))
  have e1':=qaz ht2 (.tup [.int (svs.length:Int),.ref t1]) _ _ e1
  have e2:upd H1 t2 (.tup [.int (svs.length:Int),.ref t1]) t2=some (.tup [.int (svs.length:Int),.ref t1]):=qan
  generalize upd H1 t2 _=H2 at s2 e1' e2 ⊢
  refine ⟨wt,_,_,rfl,rfl,s2 _ _ hw,qjS hwz,?_⟩
  have b3:=(s2.but [st,wt]).put (p:=wt) (by simp) (.lst (wvs++[.ref t2]))
  have ts3:=(s2.ts (K:=K)).trans (TSame.lst (zs:=wvs++[.ref t2]) (s2 _ _ hw))
  have w3:upd H2 wt (.lst (wvs++[.ref t2])) wt=some (.lst (wvs++[.ref t2])):=qan
  have p3:upd H2 wt (.lst (wvs++[.ref t2])) p=_:=(qaA npw).trans (s2 _ _ hp)
  have h3:upd H2 wt (.lst (wvs++[.ref t2])) st=_:=(qaA nsw).trans (s2 _ _ hs)
  have i3:IsW K (upd H2 wt (.lst (wvs++[.ref t2]))) (.ref t2) (svs.length,(es,k+1)):=by
    have tl:=TSame.lst (K:=K) (zs:=wvs++[.ref t2]) (s2 _ _ hw)
    exact ⟨t2,.ref t1,rfl,tl _ _ (SqT.of e2),t1,a,rfl,tl _ _ (SqT.of e1'),ts3 _ _ ha⟩
  generalize upd H2 wt _=H3 at b3 ts3 w3 p3 h3 i3 ⊢
  refine ⟨_,rfl,p,C_Sides,dx,_,_,rfl,p3,T_Sides.cl,T_Sides.nS,flS _ _ _,.inl ⟨rfl,_,SqL.of h3⟩,_,rfl,a,rfl,⟨_,ts3 _ _ ha⟩,fun D hD=>?_⟩
  refine qdx (ts3 _ _ ha) hD hz (fun σ=>∃ u0:Option V,σ=[u0]) ⟨_,rfl⟩ (fun x=>V.int (-x)) ?_ ?_
  · rintro x σ H' N hx ⟨u0,rfl⟩ g k
    exact ⟨_,rfl,_,rfl,k _ _ ⟨_,rfl⟩ (Same.refl _)⟩
  rintro σ H4 _ g4 hd4
  refine ⟨D,_,rfl,.inl ⟨SqL.of hd4,fun t5 ht5=>?_⟩⟩
  have s5:=g4.trans (qaz ht5 (.tup (es.map fun x=>V.int (-x))))
  have e5:upd H4 t5 (.tup (es.map fun x=>V.int (-x))) t5=some (.tup ((es.map (- ·)).map V.int)):=by rw [qan,List.map_map];rfl
  generalize upd H4 t5 _=H5 at s5 e5 ⊢
  refine ⟨_,rfl,_,rfl,(by show 2≤sizeLine;decide),fun r hr2=>?_⟩
  have s6:=s5.trans (qaz hr2 (.tup [.ref t5,.int (-k)]))
  have e5':=qaz hr2 (.tup [.ref t5,.int (-k)]) _ _ e5
  have e6:upd H5 r (.tup [.ref t5,.int (-k)]) r=some (.tup [.ref t5,.int (-k)]):=qan
  generalize upd H5 r _=H6 at s6 e5' e6 ⊢
  have h6:=s6 _ _ h3
  refine ⟨st,_,_,rfl,rfl,h6,qjS hsz,?_⟩
  have tl:=TSame.lst (K:=K) (zs:=svs++[.ref r]) h6
  have ts7:=(s6.ts (K:=K)).trans tl
  exact q1 hbr (.ref r) (.ref t2) _ ((b3.trans (s6.but _)).put (by simp) _) (ts3.trans ts7) ⟨⟨dx,(qaA nps).trans (s6 _ _ p3)⟩,qan,(qaA (Ne.symm nsw)).trans (s6 _ _ w3),nsw⟩ ⟨r,t5,rfl,tl _ _ (SqT.of e6),tl _ _ (SqT.of e5')⟩ (i3.ts ts7)
def qcU (K:PySem.W.Frag) (C:Addr):Sp:=fun vs H Q _=>∃ (p st wt:Addr) (br:Int) (svs wvs:List V) (u:V) (h:Nat) (r:Row),vs=[.ref p]∧SidesAt C H p st wt br svs (wvs++[u])∧IsW K H u (h,r)∧svs.length<1000000 ∧
  ∀ v H',But [st,wt] H H'→TSame K H H'→SidesAt C H' p st wt br (svs.take h++[v]) wvs→IsR K H' v r→Q .non H'
theorem qdZ {n:Nat} {f:Addr} {fd:FuncData} (F:Fun K "resume" "Sides.resume" qa8 f fd) {C_Sides:Addr} (T_Sides:TxtSides K mg C_Sides) (z_len:mg "len"=none):FnOk P w K mg base CX0 (n+1) f fd ["self"] (qcU K C_Sides):=by
  refine F.ok sc_Sides__resume (fun vs H Q E h=>?_) (fun cdv A outer s H vs Q E hr h=>?_)
  · obtain ⟨p,st,wt,br,svs,wvs,u,h,r,rfl,_⟩:=h;rfl
  obtain ⟨p,st,wt,br,svs,wvs,u,h,r,rfl,S,⟨x,y,rfl,hx,hy⟩,hsz,q⟩:=h
  obtain ⟨nps,npw⟩:=S.nps
  obtain ⟨⟨dx,hp⟩,hs,hw,nsw⟩:=id S
  refine ⟨_,(qa4 (qcm (i:=1) sc_Sides__resume.nd rfl (Or.inl rfl) (qil PySem.F.plainAttrs_list PySem.F.slot_list_pop PySem.F.type_list_pop qjk (qcP (pv 0) rfl)))
      (qa4 (qjA PassesOwn.never (qbG qkZ (qbt qaS rfl z_len PySem.boot_len (qaq (qcP (pv 0) rfl) pa_nil qa6) (he:=qa6) (hpl:=qag)) (qcn ix_tup (pv 1) qaX (fun _ _=>rfl)) (qao _)) (qaL (qdi (qil PySem.F.plainAttrs_list PySem.F.slot_list_pop PySem.F.type_list_pop qjk (qcP (pv 0) rfl)))))
      (qaL (qdi (qje PySem.F.plainAttrs_list PySem.F.slot_list_append PySem.F.type_list_append qcC (qcP (pv 0) rfl) (qaq (qcn ix_tup (pv 1) qaX (fun _ _=>rfl)) pa_nil qac) (hfew:=qb4 qac) (hs:=qac) (hplain:=qag)))))),?_⟩
  refine ⟨_,rfl,p,C_Sides,dx,_,_,rfl,hp,T_Sides.cl,T_Sides.nW,flW _ _ _,.inl ⟨rfl,_,SqL.of hw⟩,wt,_,_,rfl,rfl,hw,(by rw [List.length_append,show ([V.ref x]:List V).length=1 from rfl,Nat.add_sub_cancel,List.getElem?_append_right (Nat.le_refl _),Nat.sub_self];rfl),?_⟩
  rw [List.dropLast_concat]
  have b1:But [st,wt] H (upd H wt (.lst wvs)):=((Same.refl H).but _).put (by simp) _
  have ts1:TSame K H (upd H wt (.lst wvs)):=TSame.lst hw
  have w1:upd H wt (.lst wvs) wt=some (.lst wvs):=qan
  have p1:upd H wt (.lst wvs) p=_:=(qaA npw).trans hp
  have h1:upd H wt (.lst wvs) st=_:=(qaA nsw).trans hs
  generalize upd H wt (.lst wvs)=H1 at b1 ts1 w1 p1 h1 ⊢
  refine qjH (fun σ H'=>∃ m:Nat,(h≤m∨m=svs.length)∧m≤svs.length∧σ=[some (.ref p),some (.ref x)]∧But [st,wt] H H'∧TSame K H H'∧H' wt=some (.lst wvs)∧H' p=some (.ins C_Sides dx (qeB st wt br))∧H' st=some (.lst (svs.take m))) (fun _ H'=>match H' st with | some (.lst l)=>l.length | _=>0) ?_ ?_ ?_
  · exact ⟨svs.length,.inr rfl,Nat.le_refl _,rfl,b1,ts1,w1,p1,by rw [List.take_length];exact h1⟩
  · rintro σ H' ⟨m,hm0,hm1,rfl,b2,ts2,w2,p2,h2⟩
    have hl:(svs.take m).length=m:=by rw [List.length_take];omega
    refine ⟨_,rfl,p,C_Sides,dx,_,_,rfl,p2,T_Sides.cl,T_Sides.nS,flS _ _ _,st,_,rfl,.inl (SqL.of h2),_,rfl,x,_,_,_,rfl,rfl,ts2 _ _ hx,rfl,_,_,rfl,rfl,_,rfl,qgD (fun c=>?_) (fun c=>?_)⟩
    · have c':=dP c
      rw [hl] at c'
      have hm:h<m:=by simp only at c';omega
      obtain ⟨v,hv⟩:∃ v,(svs.take m)[(svs.take m).length - 1]?=some v:=⟨(svs.take m)[(svs.take m).length - 1],by rw [List.getElem?_eq_getElem (by omega)]⟩
      refine ⟨_,rfl,p,C_Sides,dx,_,_,rfl,p2,T_Sides.cl,T_Sides.nS,flS _ _ _,.inl ⟨rfl,_,SqL.of h2⟩,st,_,_,rfl,rfl,h2,hv,⟨m - 1,.inl (by omega),by omega,rfl,b2.put (by simp) _,ts2.trans (TSame.lst h2),(qaA (Ne.symm nsw)).trans w2,(qaA nps).trans p2,?_⟩,?_⟩
      · rw [qan,List.dropLast_eq_take,hl,List.take_take,Nat.min_eq_left (by omega)]
      · show (match upd H' st (.lst (svs.take m).dropLast) st with | some (.lst l)=>l.length | _=>0)<(match H' st with | some (.lst l)=>l.length | _=>0)
        rw [qan,h2]
        show (svs.take m).dropLast.length<(svs.take m).length
        rw [List.length_dropLast]
        omega
    · have c':=dP' c
      rw [hl] at c'
      have hm:svs.take m=svs.take h:=by
        simp only at c'
        rcases hm0 with hm | hm
        · rw [show m=h by omega]
        · rw [hm,List.take_length,List.take_of_length_le (by omega)]
      rw [hm] at h2
      have hlh:(svs.take h).length≤svs.length:=by rw [List.length_take];omega
      refine ⟨_,rfl,p,C_Sides,dx,_,_,rfl,p2,T_Sides.cl,T_Sides.nS,flS _ _ _,.inl ⟨rfl,_,SqL.of h2⟩,_,rfl,x,_,_,_,rfl,rfl,ts2 _ _ hx,rfl,st,_,_,rfl,rfl,h2,qjS (by omega),?_⟩
      have tl:=TSame.lst (K:=K) (zs:=svs.take h++[y]) h2
      exact q y _ (b2.put (by simp) _) (ts2.trans tl) ⟨⟨dx,(qaA nps).trans p2⟩,qan,(qaA (Ne.symm nsw)).trans w2,nsw⟩ (hy.ts (ts2.trans tl))
  · intro σ H' Q1 Q2 hq h
    obtain ⟨v,e1,p',C',dx',fs',v',a1,a2,a3,a4,a5,b1,b2,b3,b4,v3,e3,p4,xs4,i4,v4,c1,c2,c3,c4,i5,j5,d1,d2,k5,d3,h⟩:=h
    exact ⟨v,e1,p',C',dx',fs',v',a1,a2,a3,a4,a5,b1,b2,b3,b4,v3,e3,p4,xs4,i4,v4,c1,c2,c3,c4,i5,j5,d1,d2,k5,d3,hq _ _ h⟩
def qdG (K:PySem.W.Frag) (C:Addr):Sp:=fun vs H Q _=>∃ (p st wt S:Addr) (br d:Int) (svs wvs hvs:List V) (sr:List Row) (shs:List (Int × Int)) (n:Nat),vs=[.ref p,.ref S,.int d]∧SidesAt C H p st wt br svs wvs∧Rows K H svs sr∧SqT K H S hvs∧Shs K H hvs shs∧n≤1000∧Fit sr shs∧(∀ r∈sr,r.1.length=n)∧d<2 ^ 9000∧svs.length<1000000 ∧
  (qcr sr shs d n=none→∀ H',Same H H'→Q (.bl false) H') ∧
  (∀ r,qcr sr shs d n=some r→∀ v H',But [st,wt] H H'→TSame K H H'→SidesAt C H' p st wt br (svs++[v]) wvs→IsR K H' v r→Q (.bl true) H')
theorem qeZ {n:Nat} {f:Addr} {fd:FuncData} (F:Fun K "cut" "Sides.cut" qbn f fd) {C_Sides:Addr} (T_Sides:TxtSides K mg C_Sides) {f_line_row:Addr} {d_line_row:FuncData} (G_line_row:FnOk P w K mg base CX0 n f_line_row d_line_row ["rows","shares","divisor"] (qeq K)) (b_line_row:Binds K d_line_row ["rows","shares","divisor"] []) (k_line_row:PySem.W.keepIn K (.ref f_line_row)=true) (m_line_row:mg "line_row"=some (.ref f_line_row)):FnOk P w K mg base CX0 (n+1) f fd ["self","shares","divisor"] (qdG K C_Sides):=by
  refine F.ok sc_Sides__cut (fun vs H Q E h=>?_) (fun cdv A outer s H vs Q E hr h=>?_)
  · obtain ⟨p,st,wt,S,br,d,svs,wvs,hvs,sr,shs,n,rfl,_⟩:=h;rfl
  obtain ⟨p,st,wt,S,br,d,svs,wvs,hvs,sr,shs,n,rfl,SA,hsr,hS,hsh,hn,hfit,hlen,hd9,hsz,q0,q1⟩:=h
  obtain ⟨nps,npw⟩:=SA.nps
  obtain ⟨⟨dx,hp⟩,hs,hw,nsw⟩:=id SA
  refine ⟨_,(qa4 (qcm (i:=3) sc_Sides__cut.nd rfl (Or.inl rfl) (qcO G_line_row hr rfl m_line_row k_line_row b_line_row .nil qdL (qaq (qcP (pv 0) rfl) (qaq (pv 1) (qaq (pv 2) pa_nil qaa) qaa) qa6) (he:=qa6) (hpl:=(qaf qaa (qaf qaa qag)))))
      (qb1 (qdk (qbG qhU (pv 3) qeu (qao _)) (qaL (qbD qfJ)) pss_nil)
      (qa4 (qdi (qje PySem.F.plainAttrs_list PySem.F.slot_list_append PySem.F.type_list_append qcC (qcP (pv 0) rfl) (qaq (pv 3) pa_nil qaa) (hfew:=qb4 qaa) (hs:=qaa) (hplain:=qag)))
      (qaL (qbD qfJ))))),?_⟩
  refine ⟨_,rfl,p,C_Sides,dx,_,_,rfl,hp,T_Sides.cl,T_Sides.nS,flS _ _ _,_,rfl,_,rfl,true,st,S,svs,hvs,sr,shs,d,n,rfl,SqL.of hs,hsr,hS,hsh,hn,hfit,hlen,hd9,fun e H1 g1=>?_,fun r e v H1 g1 hv=>?_⟩
  · exact ⟨fun _ _=>False,⟨_,rfl,rfl,_,rfl,qgk (q0 e H1 g1)⟩,fun _ _ h=>h.elim⟩
  · obtain ⟨x,t,rfl,hx,ht⟩:=hv
    refine qcG ⟨_,rfl,rfl,_,rfl,qgD (fun c=>absurd (dP c) (fun e=>nomatch e)) (fun c=>⟨rfl,rfl⟩)⟩ ?_
    have hs1:=g1 _ _ hs
    refine ⟨_,rfl,p,C_Sides,dx,_,_,rfl,g1 _ _ hp,T_Sides.cl,T_Sides.nS,flS _ _ _,.inl ⟨rfl,_,SqL.of hs1⟩,_,rfl,st,_,_,rfl,rfl,hs1,qjS hsz,?_⟩
    have tl:=TSame.lst (K:=K) (zs:=svs++[.ref x]) hs1
    exact q1 r e (.ref x) _ ((g1.but _).put (by simp) _) ((g1.ts).trans tl) ⟨⟨dx,(qaA nps).trans (g1 _ _ hp)⟩,qan,(qaA (Ne.symm nsw)).trans (g1 _ _ hw),nsw⟩ ⟨x,t,rfl,tl _ _ hx,tl _ _ ht⟩
inductive Ln where
  | ct (shs:List (Int × Int)) (d:Int)
  | ch (es:List Int) (k:Int)
  | sh (n:Int)
def IsL (K:PySem.W.Frag) (H:Hp) (v:V):Ln→Prop
  | .ct shs d=>∃ x a hvs,v=.ref x∧SqT K H x [.str "cut",.ref a,.int d]∧SqT K H a hvs∧Shs K H hvs shs
  | .ch es k=>∃ x a,v=.ref x∧SqT K H x [.str "choice",.ref a,.int k]∧SqT K H a (es.map V.int)
  | .sh n=>∃ x,v=.ref x∧SqT K H x [.str "shut",.int n]
theorem IsL.ts {K:PySem.W.Frag} {H H':Hp} {v:V} {l:Ln} (t:TSame K H H') (h:IsL K H v l):IsL K H' v l:=by
  cases l with
  | ct shs d=>obtain ⟨x,a,hvs,e,h1,h2,h3⟩:=h;exact ⟨x,a,hvs,e,t _ _ h1,t _ _ h2,h3.pts t⟩
  | ch es k=>obtain ⟨x,a,e,h1,h2⟩:=h;exact ⟨x,a,e,t _ _ h1,t _ _ h2⟩
  | sh n=>obtain ⟨x,e,h1⟩:=h;exact ⟨x,e,t _ _ h1⟩
def qbj (br:Int):List Row→List (Nat × Row)→List Ln→Bool
  | _,_,[]=>false
  | st,wt,.ct shs d::t=>(match qcr st shs d br.toNat with | none=>false | some r=>qbj br (st++[r]) wt t)
  | st,wt,.ch es k::t=>if (es.length:Int)=br then qbj br (st++[(es.map (- ·),-k)]) (wt++[(st.length,(es,k+1))]) t else false
  | st,wt,.sh n::t=>if qdb st n=true then (match wt.getLast? with | none=>t.isEmpty | some s=>qbj br (st.take s.1++[s.2]) wt.dropLast t) else false
def qhx (br:Int):List Row→List (Nat × Row)→List Ln→Prop
  | _,_,[]=>True
  | st,wt,.ct shs d::t=>Fit st shs∧d<2 ^ 9000∧∀ r,qcr st shs d br.toNat=some r→qhx br (st++[r]) wt t
  | st,wt,.ch es k::t=>es.length≤1000∧((es.length:Int)=br→qhx br (st++[(es.map (- ·),-k)]) (wt++[(st.length,(es,k+1))]) t)
  | st,wt,.sh n::t=>qdb st n=true→(match wt.getLast? with | none=>True | some s=>qhx br (st.take s.1++[s.2]) wt.dropLast t)
theorem qf2 {rs:List Row} {n:Nat} {shs:List (Int × Int)} {d:Int} {r:Row} (hr:∀ r∈rs,r.1.length=n) (h:qcr rs shs d n=some r):r.1.length=n:=by
  unfold qcr at h
  split at h
  · cases h
  · cases hs:qdH rs shs n with
    | none=>rw [hs] at h;cases h
    | some a =>
      rw [hs,Option.bind_some] at h
      split at h
      · cases h
      · cases h
        rw [List.length_map]
        exact qff hr hs
theorem qkX {br:Int} {st:List Row} {wt:List (Nat × Row)} {n:Int} {t:List Ln} {s:Nat × Row} (h:qhx br st (wt++[s]) (.sh n::t)) (c:qdb st n=true):qhx br (st.take s.1++[s.2]) wt t:=by
  have z:=h c
  simp only [List.getLast?_concat,List.dropLast_concat] at z
  exact z
theorem qhY:decide (V.str "cut"=V.str "cut")=true:=by decide +kernel
theorem qlA:decide (V.str "cut"=V.str "shut")=false:=by decide +kernel
theorem qiR:decide (V.str "choice"=V.str "cut")=false:=by decide +kernel
theorem qlO:decide (V.str "shut"=V.str "cut")=false:=by decide +kernel
theorem qlg:decide (V.str "shut"=V.str "choice")=false:=by decide +kernel
theorem qln:decide (V.str "choice"=V.str "shut")=false:=by decide +kernel
theorem qkT:decide (V.str "shut"=V.str "shut")=true:=by decide +kernel
theorem qih:decide (V.str "choice"=V.str "choice")=true:=by decide +kernel
theorem qic {α:Type} {xs:List α} {i:Nat} {x:α} (h:xs[i]?=some x):xs.drop i=x::xs.drop (i+1):=by
  obtain ⟨hi,e⟩:=List.getElem?_eq_some_iff.mp h
  rw [List.drop_eq_getElem_cons hi,e]
def qjf (K:PySem.W.Frag):Sp:=fun vs H Q _=>∃ (R S:Addr) (rvs pvs:List V) (rs:List Row) (ls:List Ln),vs=[.ref R,.ref S]∧SqT K H R rvs∧Rows K H rvs rs∧SqT K H S pvs∧Al2 (IsL K H) pvs ls∧(∀ r∈rs,r.1.length=qbo rs)∧qbo rs≤1000∧qhx (qbo rs:Int) rs [] ls∧rs.length+ls.length<900000∧∀ H',Same H H'→Q (.bl (qbj (qbo rs:Int) rs [] ls)) H'
theorem qlc {n:Nat} {f:Addr} {fd:FuncData} (F:Fun K "bars" "bars" qgR f fd) {C_Sides:Addr} (T_Sides:TxtSides K mg C_Sides) {f_can_shut:Addr} {d_can_shut:FuncData} (G_can_shut:FnOk P w K mg base CX0 (n+1) f_can_shut d_can_shut ["rows","number"] (qeh K)) (b_can_shut:Binds K d_can_shut ["rows","number"] []) (k_can_shut:PySem.W.keepIn K (.ref f_can_shut)=true) (m_can_shut:mg "can_shut"=some (.ref f_can_shut)) {f_Sides____init__:Addr} {d_Sides____init__:FuncData} (G_Sides____init__:FnOk P w K mg base CX0 n f_Sides____init__ d_Sides____init__ ["self","rows"] (qcq K C_Sides)) (b_Sides____init__:Binds K d_Sides____init__ ["self","rows"] []) (M_Sides:Mk K C_Sides f_Sides____init__) {f_Sides__cut:Addr} {d_Sides__cut:FuncData} (G_Sides__cut:FnOk P w K mg base CX0 (n+1) f_Sides__cut d_Sides__cut ["self","shares","divisor"] (qdG K C_Sides)) (b_Sides__cut:Binds K d_Sides__cut ["self","shares","divisor"] []) (mt_Sides__cut:Meth K C_Sides "cut" f_Sides__cut) {f_Sides__resume:Addr} {d_Sides__resume:FuncData} (G_Sides__resume:FnOk P w K mg base CX0 (n+1) f_Sides__resume d_Sides__resume ["self"] (qcU K C_Sides)) (b_Sides__resume:Binds K d_Sides__resume ["self"] []) (mt_Sides__resume:Meth K C_Sides "resume" f_Sides__resume) {f_Sides__choose:Addr} {d_Sides__choose:FuncData} (G_Sides__choose:FnOk P w K mg base CX0 (n+1) f_Sides__choose d_Sides__choose ["self","entries","k"] (qcS K C_Sides)) (b_Sides__choose:Binds K d_Sides__choose ["self","entries","k"] []) (mt_Sides__choose:Meth K C_Sides "choose" f_Sides__choose) (z_enumerate:mg "enumerate"=none) (z_len:mg "len"=none):FnOk P w K mg base CX0 (n+2) f fd ["rows","paper"] (qjf K):=by
  refine F.ok sc_bars (fun vs H Q E h=>?_) (fun cdv A outer s H vs Q E hr h=>?_)
  · obtain ⟨R,S,rvs,pvs,rs,ls,rfl,_⟩:=h;rfl
  obtain ⟨R,S,rvs,pvs,rs,ls,rfl,hR,hrs,hS,hls,hrz,hwz,hsafe,hsz,q⟩:=h
  have hpl:=hls.1
  refine ⟨_,(qa4 (qcm (i:=2) sc_bars.nd rfl (Or.inl rfl) (qls M_Sides G_Sides____init__ hr rfl T_Sides.mgC b_Sides____init__ .nil qdL (qaq (pv 0) pa_nil qaa) (he:=qaa) (hpl:=qag)))
      (qa4 (qif PassesOwn.never rfl (qlP false rfl z_enumerate (qaq (pv 1) pa_nil qaa)) (qgS rfl (qcE (qcd (i:=3) sc_bars.nd rfl (Or.inl rfl)) (qcE (qcd (i:=4) sc_bars.nd rfl (Or.inl rfl)) pgs_nil))) (qb1 (qdk (qbG qf8 (qcn ix_tup (pv 4) qaX (fun _ _=>rfl)) qg1 (qao _)) (qaL (qcm (i:=5) sc_bars.nd rfl (Or.inl rfl) (qiZ (pv 2) T_Sides.cl mt_Sides__cut G_Sides__cut hr b_Sides__cut .nil qdL (qaq (qcn ix_tup (pv 4) qaX (fun _ _=>rfl)) (qaq (qcn ix_tup (pv 4) qaX (fun _ _=>rfl)) pa_nil qac) qac)))) (qaL (qdk (qbG qf8 (qcn ix_tup (pv 4) qaX (fun _ _=>rfl)) qg1 (qao _)) (qaL (qcm (i:=5) sc_bars.nd rfl (Or.inl rfl) (qiZ (pv 2) T_Sides.cl mt_Sides__choose G_Sides__choose hr b_Sides__choose .nil qdL (qaq (qcn ix_tup (pv 4) qaX (fun _ _=>rfl)) (qaq (qcn ix_tup (pv 4) qaX (fun _ _=>rfl)) pa_nil qac) qac)))) (qaL (qcm (i:=5) sc_bars.nd rfl (Or.inl rfl) (qcO G_can_shut hr rfl m_can_shut k_can_shut b_can_shut .nil qdL (qaq (qcP (pv 2) rfl) (qaq (qcn ix_tup (pv 4) qaX (fun _ _=>rfl)) pa_nil qac) qa6) (he:=qa6) (hpl:=(qaf qac qag))))))))
      (qb1 (qdk (qhi (qdv (pv 5) (fun _=>rfl))) (qaL (qbD qfJ)) pss_nil)
      (qaL (qdk (qbG qf8 (qcn ix_tup (pv 4) qaX (fun _ _=>rfl)) qg1 (qao _)) (qb1 (qdk (qbG qf8 (qbt qaS rfl z_len PySem.boot_len (qaq (qcP (pv 2) rfl) pa_nil qa6) (he:=qa6) (hpl:=qag)) qaX (qao _)) (qaL (qbD (qdg qf8 (pv 3) (qd1 qkO (qbt qaS rfl z_len PySem.boot_len (qaq (pv 1) pa_nil qaa) (he:=qaa) (hpl:=qag)) qaX) (qao _)))) pss_nil)
      (qaL (qdi (qjK (pv 2) T_Sides.cl mt_Sides__resume G_Sides__resume hr b_Sides__resume .nil qdL)))) pss_nil)))))
      (qaL (qbD qfJ)))),?_⟩
  refine ⟨_,rfl,fun p dx hp hdx hne=>?_⟩
  have s0:Same H (upd (upd H dx (.own p)) p (.ins C_Sides dx [])):=fun b o h=>by
    rw [qaA (qaE h hp),qaA (qaE h hdx)]
    exact h
  refine ⟨p,dx,R,rvs,rs,rfl,qan,s0.sqt hR,hrs.ts s0.ts,fun st wt H1 hst hwt b1 t1 S1=>⟨rfl,?_⟩⟩
  have hstH:H st=none:=s0.free hst
  have hwtH:H wt=none:=s0.free hwt
  have g1:Same H H1:=fun b o h=>b1 b o (s0 b o h) (by simp;exact qaE h hp)
  have toS:∀ {Ha Hb:Hp},Same H Ha→But [st,wt] Ha Hb→Same H Hb:=fun ga b c o h=>b c o (ga c o h) (by
    simp
    exact ⟨qaE h hstH,qaE h hwtH⟩)
  have hr1:=hrs.ts (g1.ts (K:=K))
  generalize hwn:qbo rs=wn at *
  generalize hbr:(wn:Int)=br at *
  have hbn:br.toNat=wn:=by omega
  refine ⟨_,rfl,S,_,rfl,g1.sqt hS,?_⟩
  refine qlI (b:=false) (xs:=pvs) (fun i σ H'=>∃ (svs wvs:List V) (sr:List Row) (wr:List (Nat × Row)) (u3 u4 u5:Option V),σ=[some (.ref R),some (.ref S),some (.ref p),u3,u4,u5]∧Same H H'∧SidesAt C_Sides H' p st wt br svs wvs∧Rows K H' svs sr∧Al2 (IsW K H') wvs wr∧(∀ r∈sr,r.1.length=wn)∧(∀ s∈wr,s.2.1.length=wn)∧sr.length≤rs.length+i∧wr.length≤i∧i≤ls.length∧qbj br rs [] ls=qbj br sr wr (ls.drop i)∧qhx br sr wr (ls.drop i)) ⟨rvs,[],rs,[],_,_,_,rfl,g1,S1,hr1,.nil,hrz,fun s hs=>absurd hs List.not_mem_nil,Nat.le_refl _,Nat.le_refl _,Nat.zero_le _,rfl,hsafe⟩ ?_ ?_ ?_
  · rintro i σ H' _ ⟨svs,wvs,sr,wr,u3,u4,u5,rfl,g,_⟩
    exact g.sqt hS
  · rintro i x t σ H' hx ⟨svs,wvs,sr,wr,u3,u4,u5,rfl,g,SA,hsr,hwr,hsz1,hwz1,hl1,hl2,hi0,hb,hsf⟩ ht
    have hi:i<pvs.length:=qbe hx
    obtain ⟨l,hl,hil⟩:=hls.2 i x hx
    rw [qic hl] at hb hsf
    have gt:=qaz ht (.tup [.int i,x])
    have g2:=g.trans gt
    obtain ⟨nps,npw⟩:=SA.nps
    have SA2:SidesAt C_Sides (upd H' t (.tup [.int i,x])) p st wt br svs wvs:=by
      obtain ⟨⟨dx,h1⟩,h2,h3,h4⟩:=SA
      exact ⟨⟨dx,gt _ _ h1⟩,gt _ _ h2,gt _ _ h3,h4⟩
    have hsr2:=hsr.ts (gt.ts (K:=K))
    have hwr2:Al2 (IsW K (upd H' t (.tup [.int i,x]))) wvs wr:=hwr.imp fun v s h=>h.ts gt.ts
    have hil2:=hil.ts (g2.ts (K:=K))
    refine ⟨t,_,rfl,SqT.of qan,rfl,_,_,rfl,_,_,rfl,rfl,?_⟩
    generalize upd H' t (.tup [.int i,x])=H2 at g2 SA2 hsr2 hwr2 hil2 ⊢
    have lsv:=hsr2.1
    have lwv:=hwr2.1
    cases l with
    | ct shs d =>
      obtain ⟨x,a,hvs,rfl,hx2,ha2,hsh2⟩:=hil2
      obtain ⟨hfit,hd9,hsf'⟩:Fit sr shs∧d<2 ^ 9000∧∀ r,qcr sr shs d br.toNat=some r→qhx br (sr++[r]) wr (ls.drop (i+1)):=hsf
      obtain ⟨⟨dx',hp2⟩,hst2,hwt2,hne2⟩:=id SA2
      have hb0:qbj br rs [] ls=(match qcr sr shs d br.toNat with | none=>false | some r=>qbj br (sr++[r]) wr (ls.drop (i+1))):=hb
      cases hL:qcr sr shs d br.toNat with
      | none =>
        have hb':qbj br rs [] ls=false:=by rw [hb0,hL]
        refine ⟨fun σ' H3=>Same H2 H3∧σ'=[some (.ref R),some (.ref S),some (.ref p),some (.int (i:Int)),some (.ref x),some (.bl false)],?_,?_⟩
        · refine ⟨_,rfl,x,_,_,_,rfl,rfl,hx2,rfl,rfl,_,rfl,?_⟩
          rw [qhY]
          refine qgk ⟨_,rfl,p,dx',_,rfl,hp2,flN _ _ _ (by decide +kernel) (by decide +kernel) (by decide +kernel),_,rfl,x,_,_,_,rfl,rfl,hx2,rfl,_,rfl,x,_,_,_,rfl,rfl,hx2,rfl,?_⟩
          exact ⟨p,st,wt,a,br,d,svs,wvs,hvs,sr,shs,wn,rfl,SA2,hsr2,ha2,hsh2,hwz,hfit,hsz1,hd9,by omega,fun _ H3 g3=>⟨g3,rfl⟩,fun r e=>by rw [← hbn,hL] at e;cases e⟩
        rintro σ' H3 ⟨g3,rfl⟩
        have q':=q _ (g2.trans g3)
        rw [hb'] at q'
        exact ⟨fun _ _=>False,⟨_,rfl,false,rfl,qgk q'⟩,fun _ _ h=>h.elim⟩
      | some r =>
        have hb':qbj br rs [] ls=qbj br (sr++[r]) wr (ls.drop (i+1)):=by rw [hb0,hL]
        have hrl:r.1.length=wn:=by rw [hbn] at hL;exact qf2 hsz1 hL
        refine ⟨fun σ' H3=>∃ v,But [st,wt] H2 H3∧TSame K H2 H3∧SidesAt C_Sides H3 p st wt br (svs++[v]) wvs∧IsR K H3 v r∧σ'=[some (.ref R),some (.ref S),some (.ref p),some (.int (i:Int)),some (.ref x),some (.bl true)],?_,?_⟩
        · refine ⟨_,rfl,x,_,_,_,rfl,rfl,hx2,rfl,rfl,_,rfl,?_⟩
          rw [qhY]
          refine qgk ⟨_,rfl,p,dx',_,rfl,hp2,flN _ _ _ (by decide +kernel) (by decide +kernel) (by decide +kernel),_,rfl,x,_,_,_,rfl,rfl,hx2,rfl,_,rfl,x,_,_,_,rfl,rfl,hx2,rfl,?_⟩
          refine ⟨p,st,wt,a,br,d,svs,wvs,hvs,sr,shs,wn,rfl,SA2,hsr2,ha2,hsh2,hwz,hfit,hsz1,hd9,by omega,fun e=>?_,fun r' e v H3 b3 t3 S3 r3=>?_⟩
          · rw [← hbn,hL] at e;cases e
          · rw [← hbn,hL] at e
            cases e
            exact ⟨v,b3,t3,S3,r3,rfl⟩
        rintro σ' H3 ⟨v,b3,t3,S3,r3,rfl⟩
        refine qcG ⟨_,rfl,true,rfl,qiy ⟨rfl,rfl⟩⟩ ?_
        refine ⟨_,rfl,x,_,_,_,rfl,rfl,t3 _ _ hx2,rfl,rfl,_,rfl,?_⟩
        rw [qlA]
        refine qiy ⟨svs++[v],wvs,sr++[r],wr,_,_,_,rfl,toS g2 b3,S3,(hsr2.ts t3).snoc r3,hwr2.imp fun v s h=>h.ts t3,fun r2 hr2=>?_,hwz1,?_,by omega,by omega,hb',hsf' r hL⟩
        · rcases List.mem_append.mp hr2 with h | h
          · exact hsz1 r2 h
          · rw [List.mem_singleton.mp h];exact hrl
        · rw [List.length_append];simp only [List.length_cons,List.length_nil];omega
    | ch es k =>
      obtain ⟨x,a,rfl,hx2,ha2⟩:=hil2
      obtain ⟨hes,hsf'⟩:es.length≤1000∧((es.length:Int)=br→qhx br (sr++[(es.map (- ·),-k)]) (wr++[(sr.length,(es,k+1))]) (ls.drop (i+1))):=hsf
      obtain ⟨⟨dx',hp2⟩,hst2,hwt2,hne2⟩:=id SA2
      by_cases c:(es.length:Int)=br
      · have hb':qbj br rs [] ls=qbj br (sr++[(es.map (- ·),-k)]) (wr++[(sr.length,(es,k+1))]) (ls.drop (i+1)):=by
          rw [hb]
          show (if (es.length:Int)=br then _ else _)=_
          rw [if_pos c]
        refine ⟨fun σ' H3=>∃ v u,But [st,wt] H2 H3∧TSame K H2 H3∧SidesAt C_Sides H3 p st wt br (svs++[v]) (wvs++[u])∧IsR K H3 v (es.map (- ·),-k)∧IsW K H3 u (svs.length,(es,k+1))∧σ'=[some (.ref R),some (.ref S),some (.ref p),some (.int (i:Int)),some (.ref x),some (.bl true)],?_,?_⟩
        · refine ⟨_,rfl,x,_,_,_,rfl,rfl,hx2,rfl,rfl,_,rfl,?_⟩
          rw [qiR]
          refine qiy ⟨_,rfl,x,_,_,_,rfl,rfl,hx2,rfl,rfl,_,rfl,?_⟩
          rw [qih]
          refine qgk ⟨_,rfl,p,dx',_,rfl,hp2,flN _ _ _ (by decide +kernel) (by decide +kernel) (by decide +kernel),_,rfl,x,_,_,_,rfl,rfl,hx2,rfl,_,rfl,x,_,_,_,rfl,rfl,hx2,rfl,?_⟩
          exact ⟨p,st,wt,a,br,k,svs,wvs,es,rfl,SA2,ha2,hes,by omega,by omega,fun nc=>absurd c nc,fun _ v u H3 b3 t3 S3 r3 w3=>⟨v,u,b3,t3,S3,r3,w3,rfl⟩⟩
        rintro σ' H3 ⟨v,u,b3,t3,S3,r3,w3,rfl⟩
        refine qcG ⟨_,rfl,true,rfl,qiy ⟨rfl,rfl⟩⟩ ?_
        refine ⟨_,rfl,x,_,_,_,rfl,rfl,t3 _ _ hx2,rfl,rfl,_,rfl,?_⟩
        rw [qln]
        refine qiy ⟨svs++[v],wvs++[u],sr++[(es.map (- ·),-k)],wr++[(sr.length,(es,k+1))],_,_,_,rfl,toS g2 b3,S3,(hsr2.ts t3).snoc r3,?_,fun r hr=>?_,fun s hs=>?_,?_,?_,by omega,hb',hsf' c⟩
        · rw [lsv] at w3
          exact (hwr2.imp fun v s h=>h.ts t3).snoc w3
        · rcases List.mem_append.mp hr with h | h
          · exact hsz1 r h
          · rw [List.mem_singleton.mp h];show (es.map (- ·)).length=wn;rw [List.length_map];omega
        · rcases List.mem_append.mp hs with h | h
          · exact hwz1 s h
          · rw [List.mem_singleton.mp h];show es.length=wn;omega
        · rw [List.length_append];simp only [List.length_cons,List.length_nil];omega
        · rw [List.length_append];simp only [List.length_cons,List.length_nil];omega
      · have hb':qbj br rs [] ls=false:=by
          rw [hb]
          show (if (es.length:Int)=br then _ else _)=_
          rw [if_neg c]
        refine ⟨fun σ' H3=>H3=H2∧σ'=[some (.ref R),some (.ref S),some (.ref p),some (.int (i:Int)),some (.ref x),some (.bl false)],?_,?_⟩
        · refine ⟨_,rfl,x,_,_,_,rfl,rfl,hx2,rfl,rfl,_,rfl,?_⟩
          rw [qiR]
          refine qiy ⟨_,rfl,x,_,_,_,rfl,rfl,hx2,rfl,rfl,_,rfl,?_⟩
          rw [qih]
          refine qgk ⟨_,rfl,p,dx',_,rfl,hp2,flN _ _ _ (by decide +kernel) (by decide +kernel) (by decide +kernel),_,rfl,x,_,_,_,rfl,rfl,hx2,rfl,_,rfl,x,_,_,_,rfl,rfl,hx2,rfl,?_⟩
          exact ⟨p,st,wt,a,br,k,svs,wvs,es,rfl,SA2,ha2,hes,by omega,by omega,fun _=>⟨rfl,rfl⟩,fun cc=>absurd cc c⟩
        rintro σ' H3 ⟨rfl,rfl⟩
        have q':=q _ g2
        rw [hb'] at q'
        exact ⟨fun _ _=>False,⟨_,rfl,false,rfl,qgk q'⟩,fun _ _ h=>h.elim⟩
    | sh n =>
      obtain ⟨x,rfl,hx2⟩:=hil2
      obtain ⟨⟨dx',hp2⟩,hst2,hwt2,hne2⟩:=id SA2
      refine ⟨fun σ' H3=>Same H2 H3∧σ'=[some (.ref R),some (.ref S),some (.ref p),some (.int (i:Int)),some (.ref x),some (.bl (qdb sr n))],?_,?_⟩
      · refine ⟨_,rfl,x,_,_,_,rfl,rfl,hx2,rfl,rfl,_,rfl,?_⟩
        rw [qlO]
        refine qiy ⟨_,rfl,x,_,_,_,rfl,rfl,hx2,rfl,rfl,_,rfl,?_⟩
        rw [qlg]
        refine qiy ⟨_,rfl,p,C_Sides,dx',_,_,rfl,hp2,T_Sides.cl,T_Sides.nS,flS _ _ _,_,rfl,x,_,_,_,rfl,rfl,hx2,rfl,st,svs,sr,n,rfl,SqL.of hst2,hsr2,(fun r hr=>by rw [hsz1 r hr];exact hwz),fun H3 g3=>⟨g3,rfl⟩⟩
      rintro σ' H3 ⟨g3,rfl⟩
      have gg:=g2.trans g3
      by_cases c:qdb sr n=true
      · rw [c]
        refine qcG ⟨_,rfl,true,rfl,qiy ⟨rfl,rfl⟩⟩ ?_
        refine ⟨_,rfl,x,_,_,_,rfl,rfl,g3.sqt hx2,rfl,rfl,_,rfl,?_⟩
        rw [qkT]
        refine qgk ?_
        have hw3:=g3 _ _ hwt2
        have hs3:=g3 _ _ hst2
        have hp3:=g3 _ _ hp2
        have hb2:qbj br rs [] ls=(match wr.getLast? with | none=>(ls.drop (i+1)).isEmpty | some s=>qbj br (sr.take s.1++[s.2]) wr.dropLast (ls.drop (i+1))):=by
          rw [hb]
          show (if qdb sr n=true then _ else _)=_
          rw [if_pos c]
        rcases List.eq_nil_or_concat wr with e | ⟨wr',s,e⟩
        · subst e
          have hwv:wvs=[]:=List.length_eq_zero_iff.mp lwv
          subst hwv
          refine ⟨fun _ _=>False,⟨_,rfl,p,C_Sides,dx',_,_,rfl,hp3,T_Sides.cl,T_Sides.nW,flW _ _ _,wt,_,rfl,.inl (SqL.of hw3),rfl,_,rfl,qgk ?_⟩,fun _ _ h=>h.elim⟩
          refine ⟨_,rfl,_,rfl,S,_,rfl,.inr (gg.sqt hS),_,_,rfl,rfl,rfl,?_⟩
          have q':=q _ gg
          have e:qbj br rs [] ls=decide (V.int (i:Int)=V.int ((pvs.length:Int) - 1)):=by
            rw [hb2]
            show (ls.drop (i+1)).isEmpty=_
            rw [hpl] at hi
            by_cases d:i+1=ls.length
            · rw [d,List.drop_length,decide_eq_true (by rw [hpl];congr 1;omega)]
              rfl
            · rw [decide_eq_false (fun z=>d (by injection z;omega))]
              cases hd:ls.drop (i+1) with
              | nil=>rw [List.drop_eq_nil_iff] at hd;omega
              | cons _ _=>rfl
          rw [e] at q'
          exact q'
        · subst e
          rw [List.concat_eq_append] at hb2 hwr2 lwv hwz1 hl2
          rcases List.eq_nil_or_concat wvs with e | ⟨wv',u,e⟩
          · subst e
            rw [List.length_append] at lwv
            simp at lwv
          subst e
          rw [List.concat_eq_append] at hwr2 lwv hw3 hwt2 SA2
          have hlen:wv'.length=wr'.length:=by
            rw [List.length_append,List.length_append] at lwv
            simpa using lwv
          have hu:IsW K H2 u s:=by
            obtain ⟨v,hv,hq⟩:=hwr2.at (i:=wr'.length) (r:=s) (by rw [List.getElem?_append_right (Nat.le_refl _),Nat.sub_self];rfl)
            rw [← hlen,List.getElem?_append_right (Nat.le_refl _),Nat.sub_self] at hv
            cases hv
            exact hq
          have hwr':Al2 (IsW K H2) wv' wr':=by
            have:=hwr2.take wr'.length
            rw [List.take_left,← hlen,List.take_left] at this
            exact this
          have SA3:SidesAt C_Sides H3 p st wt br svs (wv'++[u]):=⟨⟨dx',hp3⟩,hs3,hw3,hne2⟩
          have hsf3:qhx br (sr.take s.1++[s.2]) wr' (ls.drop (i+1)):=by
            rw [List.concat_eq_append] at hsf
            exact qkX hsf c
          have hb3:qbj br rs [] ls=qbj br (sr.take s.1++[s.2]) wr' (ls.drop (i+1)):=by
            rw [hb2,List.getLast?_concat,List.dropLast_concat]
          refine ⟨fun σ' H4=>H4=H3∧σ'=[some (.ref R),some (.ref S),some (.ref p),some (.int (i:Int)),some (.ref x),some (.bl true)],?_,?_⟩
          · refine ⟨_,rfl,p,C_Sides,dx',_,_,rfl,hp3,T_Sides.cl,T_Sides.nW,flW _ _ _,wt,_,rfl,.inl (SqL.of hw3),rfl,_,rfl,qgD (fun z=>?_) (fun z=>⟨rfl,rfl⟩)⟩
            have:=dI z
            rw [List.length_append] at this
            simp at this
            omega
          rintro σ' H4 ⟨rfl,rfl⟩
          refine ⟨_,rfl,p,dx',_,rfl,hp3,flN _ _ _ (by decide +kernel) (by decide +kernel) (by decide +kernel),p,st,wt,br,svs,wv',u,s.1,s.2,rfl,SA3,hu.ts g3.ts,by omega,fun v H5 b5 t5 S5 r5=>?_⟩
          have t35:=(g3.ts (K:=K)).trans t5
          refine ⟨svs.take s.1++[v],wv',sr.take s.1++[s.2],wr',_,_,_,rfl,toS gg b5,S5,((hsr2.ts t35).take s.1).snoc r5,hwr'.imp fun v s h=>h.ts t35,fun r hr=>?_,fun z hz=>hwz1 z (List.mem_append_left _ hz),?_,?_,by omega,hb3,hsf3⟩
          · rcases List.mem_append.mp hr with h | h
            · exact hsz1 r (List.mem_of_mem_take h)
            · rw [List.mem_singleton.mp h];exact hwz1 s (by simp)
          · rw [List.length_append,List.length_take];simp only [List.length_cons,List.length_nil];omega
          · rw [List.length_append] at hl2;simp only [List.length_cons,List.length_nil] at hl2;omega
      · have hb':qbj br rs [] ls=false:=by
          rw [hb]
          show (if qdb sr n=true then _ else _)=_
          rw [if_neg c]
        rw [Bool.eq_false_iff.mpr c]
        have q':=q _ gg
        rw [hb'] at q'
        exact ⟨fun _ _=>False,⟨_,rfl,false,rfl,qgk q'⟩,fun _ _ h=>h.elim⟩
  · rintro σ H' ⟨svs,wvs,sr,wr,u3,u4,u5,rfl,g,SA,hsr,hwr,hsz1,hwz1,hl1,hl2,hi0,hb,hsf⟩
    have q':=q H' g
    rw [hb,hpl,List.drop_length] at q'
    exact q'
def lnD:Ln→D
  | .ct shs d=>.tup [.str "cut",.tup (shs.map prD),.int d]
  | .ch es k=>.tup [.str "choice",.tup (es.map D.int),.int k]
  | .sh n=>.tup [.str "shut",.int n]
theorem qfC {K:PySem.W.Frag} {Φ:Hp} {d e f:D} {vs:List V} (h:RpL K Φ [d,e,f] vs):∃ u v w,vs=[u,v,w]∧Rp K Φ d u∧Rp K Φ e v∧Rp K Φ f w:=by
  obtain ⟨h1,h2⟩:=h
  match vs,h1,h2 with
  | [u,v,w],_,h2=>exact ⟨u,v,w,rfl,h2 0 u d rfl rfl,h2 1 v e rfl rfl,h2 2 w f rfl rfl⟩
theorem qnk {K:PySem.W.Frag} {H:Hp} {v:V} {l:Ln} (h:Rp K H (lnD l) v):IsL K H v l:=by
  cases l with
  | ct shs d =>
    cases h with | tup h1 h2 h3 =>
      obtain ⟨a,b,c,rfl,r1,r2,r3⟩:=qfC (K:=K) ⟨h2,h3⟩
      cases r1
      cases r3
      cases r2 with | tup k1 k2 k3=>exact ⟨_,_,_,rfl,h1,k1,RpL.prs ⟨k2,k3⟩⟩
  | ch es k =>
    cases h with | tup h1 h2 h3 =>
      obtain ⟨a,b,c,rfl,r1,r2,r3⟩:=qfC (K:=K) ⟨h2,h3⟩
      cases r1
      cases r3
      obtain ⟨x,rfl,hx⟩:=qjm r2
      exact ⟨_,x,rfl,h1,hx⟩
  | sh n =>
    cases h with | tup h1 h2 h3 =>
      obtain ⟨a,b,rfl,r1,r2⟩:=RpL.two_inv (K:=K) ⟨h2,h3⟩
      cases r1
      cases r2
      exact ⟨_,rfl,h1⟩
def qio:SpD:=fun ds R=>∃ (rs:List Row) (ls:List Ln),ds=[.tup (rs.map qa1),.tup (ls.map lnD)]∧(∀ r∈rs,r.1.length=qbo rs)∧qbo rs≤1000∧qhx (qbo rs:Int) rs [] ls∧rs.length+ls.length<900000∧R (.bl (qbj (qbo rs:Int) rs [] ls))
theorem qid {K:PySem.W.Frag}:∀ vs H Q E,lSp K qio vs H Q E→qjf K vs H Q E:=by
  rintro vs H Q E ⟨Φ,ds,R,sm,_,rl,⟨rs,ls,rfl,h1,h2,h3,h4,h5⟩,k⟩
  obtain ⟨u,v,rfl,r1,r2⟩:=RpL.two_inv rl
  cases r1 with | tup a1 a2 a3=>cases r2 with | tup b1 b2 b3 =>
    exact ⟨_,_,_,_,rs,ls,rfl,sm.sqt a1,(RpL.rows ⟨a2,a3⟩).ts sm.ts,sm.sqt b1,(RpL.al (R:=IsL K Φ) ⟨b2,b3⟩ fun _ _=>qnk).imp fun _ _ q=>q.ts sm.ts,h1,h2,h3,h4,fun H' s=>k _ Φ H' _ h5 (.keep sm s) (.bl _)⟩
def qnN:Ln→Prop
  | .ct shs d=>shs.length≤500∧(∀ s∈shs,s.2.natAbs≤2 ^ 40)∧d<2 ^ 9000
  | .ch es k=>es.length≤1000∧(∀ e∈es,e.natAbs≤2 ^ 40)∧k.natAbs≤2 ^ 40
  | .sh _=>True
def RowB (b:Nat) (r:Row):Prop:=(∀ x∈r.1,x.natAbs≤2 ^ b)∧r.2.natAbs≤2 ^ b
theorem RowB.mono {b c:Nat} {r:Row} (h:RowB b r) (hc:b≤c):RowB c r:=⟨fun x hx=>Nat.le_trans (h.1 x hx) (Nat.pow_le_pow_right (by decide) hc),Nat.le_trans h.2 (Nat.pow_le_pow_right (by decide) hc)⟩
theorem qjU (b:Nat):500*(2 ^ 40*2 ^ b)≤2 ^ (b+50):=by
  rw [Nat.pow_add,Nat.mul_comm (2 ^ b)]
  have:500*(2 ^ 40*2 ^ b)=500*2 ^ 40*2 ^ b:=by rw [Nat.mul_assoc]
  rw [this]
  exact Nat.mul_le_mul_right _ (by decide)
theorem qhn (a d:Int):(-(-a / d)).natAbs≤a.natAbs:=by
  have:=Int.natAbs_ediv_le_natAbs (-a) d
  rw [Int.natAbs_neg] at this ⊢
  exact this
theorem qmS {rs:List Row} {shs:List (Int × Int)} {d:Int} {n b:Nat} {r:Row} (hr:∀ r∈rs,RowB b r) (hs:shs.length≤500) (hw:∀ s∈shs,s.2.natAbs≤2 ^ 40) (h:qcr rs shs d n=some r):RowB (b+50) r:=by
  unfold qcr at h
  split at h
  · cases h
  · cases e:qdH rs shs n with
    | none=>rw [e] at h;cases h
    | some a =>
      rw [e,Option.bind_some] at h
      split at h
      · cases h
      · cases h
        obtain ⟨h1,h2⟩:=qlj e (E:=2 ^ b) (W:=2 ^ 40) hr hw
        have hb:shs.length*(2 ^ 40*2 ^ b)≤2 ^ (b+50):=Nat.le_trans (Nat.mul_le_mul_right _ hs) (qjU b)
        refine ⟨fun x hx=>?_,?_⟩
        · obtain ⟨y,hy,rfl⟩:=List.mem_map.mp hx
          exact Nat.le_trans (Int.natAbs_ediv_le_natAbs y d) (Nat.le_trans (h1 y hy) hb)
        · exact Nat.le_trans (qhn _ _) (Nat.le_trans h2 hb)
theorem qiz {b:Nat} (h:b<60000) {x:Nat} (hx:x≤2 ^ b):x<2 ^ 60000:=Nat.lt_of_le_of_lt hx (Nat.pow_lt_pow_right (by decide) h)
theorem qnE (b:Nat):2 ^ 40≤2 ^ (b+50):=Nat.pow_le_pow_right (by decide) (by omega)
theorem qf1 {α:Type} {xs:List α} {x:α} (h:x∈xs.dropLast):x∈xs:=by
  rw [List.dropLast_eq_take] at h
  exact List.mem_of_mem_take h
theorem qlf {br:Int}:∀ (ls:List Ln) (st:List Row) (wt:List (Nat × Row)) (b:Nat),(∀ l∈ls,qnN l)→(∀ r∈st,RowB b r)→(∀ s∈wt,RowB b s.2)→b+50*ls.length<60000→qhx br st wt ls:=by
  intro ls
  induction ls with
  | nil=>intros;trivial
  | cons l t ih =>
    intro st wt b hl hs hw hb
    have hl0:=hl l List.mem_cons_self
    have hlt:∀ l∈t,qnN l:=fun x hx=>hl x (List.mem_cons_of_mem _ hx)
    have hb':b+50+50*t.length<60000:=by rw [List.length_cons] at hb;omega
    have hs':∀ r∈st,RowB (b+50) r:=fun r hr=>(hs r hr).mono (by omega)
    have hw':∀ s∈wt,RowB (b+50) s.2:=fun s h=>(hw s h).mono (by omega)
    cases l with
    | ct shs d =>
      obtain ⟨h1,h2,h3⟩:=hl0
      refine ⟨⟨fun r hr=>⟨fun x hx=>qiz (by omega) ((hs r hr).1 x hx),qiz (by omega) (hs r hr).2⟩,fun s hs=>qiz (b:=40) (by decide) (h2 s hs)⟩,h3,fun r hr=>ih _ _ (b+50) hlt (fun x hx=>?_) hw' hb'⟩
      rcases List.mem_append.mp hx with h | h
      · exact hs' x h
      · rw [List.mem_singleton.mp h];exact qmS hs h1 h2 hr
    | ch es k =>
      obtain ⟨h1,h2,h3⟩:=hl0
      have p:=qnE b
      refine ⟨h1,fun _=>ih _ _ (b+50) hlt (fun x hx=>?_) (fun x hx=>?_) hb'⟩
      · rcases List.mem_append.mp hx with h | h
        · exact hs' x h
        · rw [List.mem_singleton.mp h]
          refine ⟨fun y hy=>?_,?_⟩
          · obtain ⟨z,hz,rfl⟩:=List.mem_map.mp hy
            rw [Int.natAbs_neg]
            exact Nat.le_trans (h2 z hz) p
          · show (-k).natAbs≤_
            rw [Int.natAbs_neg]
            exact Nat.le_trans h3 p
      · rcases List.mem_append.mp hx with h | h
        · exact hw' x h
        · rw [List.mem_singleton.mp h]
          refine ⟨fun y hy=>Nat.le_trans (h2 y hy) p,?_⟩
          show (k+1).natAbs≤_
          have q:2 ^ 40+1≤2 ^ (b+50):=Nat.le_trans (by decide:2 ^ 40+1≤2 ^ 50) (Nat.pow_le_pow_right (by decide) (by omega))
          omega
    | sh n =>
      intro c
      cases e:wt.getLast? with
      | none=>trivial
      | some s =>
        have hm:=List.mem_of_getLast? e
        refine ih _ _ (b+50) hlt (fun x hx=>?_) (fun x hx=>hw' x (qf1 hx)) hb'
        rcases List.mem_append.mp hx with h | h
        · exact hs' x (List.mem_of_mem_take h)
        · rw [List.mem_singleton.mp h];exact hw' s hm
theorem z04:((("choice":Str)) == (("choice":Str)))=true:=by decide +kernel
theorem z06:((("cut":Str)) == (("shut":Str)))=false:=by decide +kernel
theorem z07:((("choice":Str)) == (("shut":Str)))=false:=by decide +kernel
theorem z08:((("shut":Str)) == (("shut":Str)))=true:=by decide +kernel
theorem z09:((("cut":Str)) == (("choice":Str)))=false:=by decide +kernel
def qdf:SpD:=fun ds R=>∃ (ns:List Int) (k:Int),ds=[.fzl (ns.map D.int),.int k]∧ns.length≤63∧0≤k∧∀ i:Int,R (.int i)
theorem qgh {n:Nat} {f:Addr} {fd:FuncData} (F:Fun K "_law_cell" "_law_cell" qcF f fd) (z_len:mg "len"=none):FnOk P w K mg base CX0 (n+1) f fd ["_law_script","_law_k"] (lSp K qdf):=by
  refine F.okD qfW (fun ds R h=>?_) (fun cdv A outer s H E ds R hr h=>?_)
  · obtain ⟨ns,k,rfl,_⟩:=h;rfl
  obtain ⟨ns,k,rfl,hz,h0,q⟩:=h
  refine ⟨_,(qa3 (qbO (qfR (qdc (dvq 0) (fun _=>rfl))) (qau (qaH (qaw qay (PD.q (qaw qaN (PD.q qae) (dvq 1))) (PD.q qae)))) qa0)
      (qau (qaH (qaw qay (PD.q (qaG (dvq 0) (PD.q (qaw qc7 (dvq 1) (PD.q (qaF qbP rfl z_len PySem.boot_len (qam (dvq 0) qas qaa) qaa qag)))) (fun _ _=>rfl))) (PD.q (qaw qaN (PD.q qae) (PD.q (qaw qi1 (dvq 1) (PD.q (qaF qbP rfl z_len PySem.boot_len (qam (dvq 0) qas qaa) qaa qag)))))))))),?_⟩
  refine ⟨fun ρ=>ns≠[]∧ρ=[some (.v (.fzl (ns.map D.int))),some (.v (.int k))],⟨fun h=>⟨qa5 (by decide) (by decide),q _⟩,fun h=>⟨fun e=>?_,rfl⟩⟩,?_⟩
  · subst e;cases h
  rintro ρ ⟨hne,rfl⟩
  have hp:(0:Int)<((ns.map D.int).length:Int):=by
    have:=List.length_pos_iff.mpr hne
    rw [List.length_map];omega
  have hl:(ns.map D.int).length≤63:=by rw [List.length_map];exact hz
  obtain ⟨v,hv⟩:=qlJ (ns:=ns) (k:=k % ((ns.map D.int).length:Int)) (Int.emod_nonneg _ (by omega)) (by have:=Int.emod_lt_of_pos k hp;rw [List.length_map] at this ⊢;exact this)
  exact ⟨hp, _, hv, CDivB.of hp (by have h9 : (1000 : Int) < 2 ^ 9000 := by decide +kernel
                                    omega),qa5 (by decide) (by decide),q _⟩
abbrev Dr (d z:Int):Prop:=0≤d∧d<z
abbrev Drawn (ds zs:List Int):Prop:=Paired Dr ds zs
theorem Drawn.take {zs:List Int} {i:Nat} {z:Int} {ds:List Int} (h:Drawn ds (zs.take i)) (hz:zs[i]?=some z) {d:Int} (h0:0≤d) (h1:d<z):Drawn (ds++[d]) (zs.take (i+1)):=by
  rw [qgi hz]
  exact Paired.snoc h ⟨h0,h1⟩
theorem Drawn.len {ds zs:List Int} (h:Drawn ds zs):ds.length=zs.length:=Paired.length h
def qaT:SpD:=fun ds R=>∃ (c s:Int) (zs:List Int),ds=[.int c,.int s,.lst (zs.map D.int)]∧zs.length≤1000∧0≤s∧s<2 ^ 20∧(∀ z∈zs,0<z∧z<2 ^ 9000)∧∀ es:List Int,Drawn es zs→R (.lst (es.map D.int))
theorem qeX {n:Nat} {f:Addr} {fd:FuncData} (F:Fun K "_law_draws" "_law_draws" qco f fd) (z_max:mg "max"=none) (z_enumerate:mg "enumerate"=none) (z_abs:mg "abs"=none):FnOk P w K mg base CX0 (n+1) f fd ["_law_cell_here","_law_salt","_law_sizes"] (lSp K qaT):=by
  refine F.okD sc__law_draws (fun ds R h=>?_) (fun cdv A outer s H E ds R hr h=>?_)
  · obtain ⟨c,s0,zs,rfl,_⟩:=h;rfl
  obtain ⟨c,s0,zs,rfl,hz,hs0,hs1,hzs,q⟩:=h
  refine ⟨_,(qak (qda (i:=3) sc__law_draws.nd rfl (Or.inl rfl) (qaQ qaj))
      (qak (qaD (i:=4) sc__law_draws.nd rfl (Or.inl rfl) (qaF (qeO rfl) rfl z_max PyProof.Rows.boot_max (qam (PD.q qae) (qam (PD.q (qaw qbN (PD.q (qaF qno rfl z_abs PyProof.Rows.boot_abs (qam (dvq 0) qas qaa) qaa qag)) (PD.q (qaw qmb (PD.q qae) (PD.q qae))))) qas qai) qad) qad (qaf qai qag)))
      (qak (qdW PassesOwn.never rfl (qgr rfl z_enumerate (qab (dv 2) qaj qaa)) (qcs (n:=2) rfl (qaB (qav (i:=5) sc__law_draws.nd rfl (Or.inl rfl)) (qaB (qav (i:=6) sc__law_draws.nd rfl (Or.inl rfl)) qbw))) (qau (qbO (qaU qkJ (dvq 4) (PD.q qae) (qao _)) (qak (qby 3 (qaw qc7 (PD.q (qaw qbN (dvq 4) (PD.q qae))) (dvq 6)) (qb4 qai) qai)
      (qau (qaD (i:=4) sc__law_draws.nd rfl (Or.inl rfl) (qaw qi1 (PD.q (qaw qbN (dvq 4) (PD.q qae))) (dvq 6))))) (qak (qaD (i:=7) sc__law_draws.nd rfl (Or.inl rfl) (qaw qay (PD.q (qaw qay (PD.q (qaw qaN (PD.q (qaw qc7 (dvq 0) (PD.q qae))) (PD.q qae))) (PD.q (qaw qaN (dvq 1) (PD.q qae))))) (PD.q qae)))
      (qak (qaD (i:=7) sc__law_draws.nd rfl (Or.inl rfl) (qaw qay (dvq 7) (PD.q (qaw qaN (dvq 5) (PD.q (qaw qay (PD.q (qaw qaN (dvq 5) (PD.q qae))) (PD.q qae)))))))
      (qak (qaD (i:=7) sc__law_draws.nd rfl (Or.inl rfl) (qaw qay (PD.q (qaw qc7 (PD.q (qaw qaN (dvq 7) (PD.q qae))) (PD.q qae))) (PD.q (qaw qaN (dvq 5) (dvq 1)))))
      (qak (qaD (i:=7) sc__law_draws.nd rfl (Or.inl rfl) (qaw qc7 (PD.q (qaw qaN (dvq 7) (PD.q qae))) (PD.q qae)))
      (qa3 (qbO (qaU qkJ (dvq 6) (PD.q qae) (qao _)) (qau (qaD (i:=7) sc__law_draws.nd rfl (Or.inl rfl) (qaw qaN (PD.q (qaw qaN (PD.q (qaw qaN (dvq 7) (dvq 7))) (dvq 7))) (dvq 7)))) qa0)
      (qau (qby 3 (qaw qc7 (dvq 7) (dvq 6)) (qb4 qai) qai))))))))))
      (qjo 3 (qau (qaH (dv 3))))))),?_⟩
  refine ⟨⟨by decide,by decide,by decide⟩,fun i ρ=>∃ (r:Int) (es:List Int) (u5 u6 u7:Option Sl),ρ=[some (.v (.int c)),some (.v (.int s0)),some (.v (.lst (zs.map D.int))),some (.own (es.map D.int)),some (.v (.int r)),u5,u6,u7]∧Drawn es (zs.take i),⟨_,[],_,_,_,rfl,.nil⟩,?_,?_⟩
  · rintro i d ρ hd ⟨r,es,u5,u6,u7,rfl,hD⟩
    obtain ⟨e,he,rfl⟩:=qd6 hd
    obtain ⟨z,rfl,hzi⟩:=qj1 he
    have hzm:=hzs z (List.mem_of_getElem? hzi)
    have hi:i<zs.length:=qbe hzi
    have ll:(es.map D.int).length<sizeLine:=by
      have:=hD.len
      rw [List.length_take] at this
      rw [List.length_map]
      exact qap (by omega)
    refine ⟨rfl,⟨fun h=>?_,fun h=>?_⟩⟩
    · exact ⟨hzm.1,ll,_,qbR _ _ _,CDivB.of hzm.1 hzm.2,_,es++[(r - 1) % z],_,_,_,rfl,hD.take hzi (Int.emod_nonneg _ (by omega)) (Int.emod_lt_of_pos _ hzm.1)⟩
    · refine ⟨(by decide:(0:Int)<1000003),qcu (by decide) (by decide),qcu (by decide) (by decide),qcu (by decide) (by decide),qa5 (by omega) (by omega),qcu (by decide) (by decide),(by decide:(0:Int)<2147483647),qa5 (by omega) (by omega),qcu (by decide) (by decide),(by decide:(0:Int)<1000000007),?_⟩
      refine ⟨fun ρ=>∃ m:Int,ρ=[some (.v (.int c)),some (.v (.int s0)),some (.v (.lst (zs.map D.int))),some (.own (es.map D.int)),some (.v (.int r)),some (.v (.int i)),some (.v (.int z)),some (.v (.int m))],⟨fun h2=>?_,fun h2=>⟨_,rfl⟩⟩,?_⟩
      · have m0:=Int.emod_nonneg ((((c % 1000003*7919+s0*15485863+5+(i:Int)*((i:Int)*104729+611953))*48271 % 2147483647+(i:Int)*s0))*69621) (b:=1000000007) (by decide)
        have m1:=Int.emod_lt_of_pos ((((c % 1000003*7919+s0*15485863+5+(i:Int)*((i:Int)*104729+611953))*48271 % 2147483647+(i:Int)*s0))*69621) (b:=1000000007) (by decide)
        exact ⟨qcu (by omega) (by omega),qcu (by omega) (by omega),qcu (by omega) (by omega),_,rfl⟩
      · rintro ρ ⟨m,rfl⟩
        exact ⟨hzm.1,ll,_,qbR _ _ _,_,es++[m % z],_,_,_,rfl,hD.take hzi (Int.emod_nonneg _ (by omega)) (Int.emod_lt_of_pos _ hzm.1)⟩
  · rintro ρ ⟨r,es,u5,u6,u7,rfl,hD⟩
    rw [qcY,List.length_map,List.take_length] at hD
    exact q es hD
theorem qmu {ds:List Int} {z1 z2 z3 z4 z5:Int} (h:Drawn ds [z1,z2,z3,z4,z5]):∃ x1 x2 x3 x4 x5:Int,ds=[x1,x2,x3,x4,x5]∧Dr x1 z1∧Dr x2 z2∧Dr x3 z3∧Dr x4 z4∧Dr x5 z5:=by
  cases h with | cons h1 t1 =>
  cases t1 with | cons h2 t2 =>
  cases t2 with | cons h3 t3 =>
  cases t3 with | cons h4 t4 =>
  cases t4 with | cons h5 t5 =>
  cases t5
  exact ⟨_,_,_,_,_,rfl,h1,h2,h3,h4,h5⟩
theorem qmT {ds:List Int} {z1 z2 z3 z4 z5 z6 z7 z8:Int} (h:Drawn ds [z1,z2,z3,z4,z5,z6,z7,z8]):∃ x1 x2 x3 x4 x5 x6 x7 x8:Int,ds=[x1,x2,x3,x4,x5,x6,x7,x8]∧Dr x1 z1∧Dr x2 z2∧Dr x3 z3∧Dr x4 z4∧Dr x5 z5∧Dr x6 z6∧Dr x7 z7∧Dr x8 z8:=by
  cases h with | cons h1 t1 =>
  cases t1 with | cons h2 t2 =>
  cases t2 with | cons h3 t3 =>
  cases t3 with | cons h4 t4 =>
  cases t4 with | cons h5 t5 =>
  cases t5 with | cons h6 t6 =>
  cases t6 with | cons h7 t7 =>
  cases t7 with | cons h8 t8 =>
  cases t8
  exact ⟨_,_,_,_,_,_,_,_,rfl,h1,h2,h3,h4,h5,h6,h7,h8⟩
theorem Drawn.at {ds zs:List Int} (h:Drawn ds zs):∀ {i:Nat} {z:Int},zs[i]?=some z→∃ d,ds[i]?=some d∧0≤d∧d<z:=by
  induction h with
  | nil=>intro i z hz;simp at hz
  | cons h1 t ih =>
    intro i z hz
    cases i with
    | zero=>cases hz;exact ⟨_,rfl,h1⟩
    | succ i=>exact ih hz
theorem Drawn.mem {ds zs:List Int} (h:Drawn ds zs):∀ d∈ds,∃ z∈zs,0≤d∧d<z:=by
  induction h with
  | nil=>intro d hd;exact absurd hd List.not_mem_nil
  | cons h1 t ih =>
    intro d hd
    rcases List.mem_cons.mp hd with rfl | hd
    · exact ⟨_,List.mem_cons_self,h1⟩
    · obtain ⟨z,hz,q⟩:=ih d hd
      exact ⟨z,List.mem_cons_of_mem _ hz,q⟩
theorem qhj {rs:List Row} {k:Int} (h0:0≤k) (h1:k<rs.length):atI (rs.map qa1) k=some (qa1 (qbQ rs k)):=qbv (qd4 h0 h1) (by omega)
def asT:D→D
  | .lst l=>.tup l
  | d=>d
theorem qgx {d:D} {l:List D} (h:asT d=.tup l):d=.tup l∨d=.lst l:=by
  cases d with
  | tup m=>exact .inl h
  | lst m=>refine .inr ?_;cases h;rfl
  | _=>cases h
def qc1:SpD:=fun ds R=>∃ (rs:List Row) (shs:List (Int × Int)) (n:Nat) (d:D),ds=[.lst (rs.map qa1),d,.int (n:Int)]∧asT d=.tup (shs.map prD)∧n≤500∧Fit rs shs∧(∀ r∈rs,r.1.length=n) ∧
  (qdH rs shs n=none→R .non)∧∀ r,qdH rs shs n=some r→R (.lst ((r.1++[r.2]).map D.int))
theorem qhQ (n:Nat):List.replicate (n+1) (0:Int)=List.replicate n 0++[0]:=by rw [List.replicate_succ']
theorem qfi {n:Nat} {f:Addr} {fd:FuncData} (F:Fun K "_law_total" "_law_total" qbE f fd) (z_list:mg "list"=none) (z_len:mg "len"=none) (z_zip:mg "zip"=none):FnOk P w K mg base CX0 (n+1) f fd ["_law_rows_here","_law_shares","_law_n"] (lSp K qc1):=by
  refine F.okD sc__law_total (fun ds R h=>?_) (fun cdv A outer s H E ds R hr h=>?_)
  · obtain ⟨rs,shs,n,d,rfl,_⟩:=h
    rfl
  obtain ⟨rs,shs,n,dd,rfl,hdd,hn,⟨hfr,hfs⟩,hlen,q0,q1⟩:=h
  rcases qgx hdd with rfl | rfl
  · refine ⟨_,(qak (qaD (i:=3) sc__law_total.nd rfl (Or.inl rfl) (qaw qaN (PD.q (PF.d (qaQ (qab qae qaj qad)))) (PD.q (qaw qay (dvq 2) (PD.q qae)))))
      (qak (qdW PassesOwn.never rfl (qc8 (dv 1)) (qcs (n:=2) rfl (qaB (qav (i:=4) sc__law_total.nd rfl (Or.inl rfl)) (qaB (qav (i:=5) sc__law_total.nd rfl (Or.inr rfl)) qbw))) (qa3 (qbO (PWD.td (qlR (qaU qlQ (dvq 4) (PD.q qae) (qao _)) (qlR (qaU qm9 (dvq 4) (PD.q (qaF qbP rfl z_len PySem.boot_len (qam (dvq 0) qas qaa) qaa qag)) (qao _)) (qjM (qaU qlQ (dvq 5) (PD.q qae) (qao _)))))) (qau (qaH qds)) qa0)
      (qak (qaD (i:=6) sc__law_total.nd rfl (Or.inl rfl) (qaw qay (PD.q (PF.d (qfz rfl z_list (PD.q (qaG (PD.q (qaG (dvq 0) (dvq 4) (fun _ _=>rfl))) (PD.q qae) (fun _ _=>rfl))) qac))) (PD.q (PF.d (qaQ (qab (qaG (PD.q (qaG (dvq 0) (dvq 4) (fun _ _=>rfl))) (PD.q qae) (fun _ _=>rfl)) qaj qac))))))
      (qau (qcN (i:=3) (k:=2) (N':=["_law_one","_law_more","_law_weight"]) (cap:=[none,none,some 5]) rfl sc__law_total.nd rfl (Or.inl rfl) (.ok (show qaY ["_law_rows_here","_law_shares","_law_n","_law_total_here","_law_number","_law_weight","_law_row"] (qah qbE) _ ["_law_one","_law_more","_law_weight"] [none,none,some 5]=true by decide +kernel)) (by decide +kernel) (qg2 (n:=2) (qc0 (qa7 (by decide)) (qc0 (qa7 (by decide)) qhm))) (qeG rfl z_zip (qab (dv 3) (qab (dv 6) qaj qaa) qaa)) (fun _ _ _ _ _=>(qcs (n:=2) rfl (qaB (qav (i:=0) (show List.Nodup (["_law_one","_law_more","_law_weight"]:List Str) by decide +kernel) rfl (Or.inl rfl)) (qaB (qav (i:=1) (show List.Nodup (["_law_one","_law_more","_law_weight"]:List Str) by decide +kernel) rfl (Or.inl rfl)) qbw)))) (fun _ _ _ _ _=>(qaw qay (dvq 0) (PD.q (qaw qaN (dvq 2) (dvq 1))))))))))
      (qau (qaH (dv 3))))),?_⟩
    refine ⟨⟨by omega,by omega,?_⟩,((List.replicate n (0:Int),(0:Int)).1++[(List.replicate n (0:Int),(0:Int)).2]).map D.int,?_,fun i ρ=>∃ (a:Row) (u4 u5 u6:Option Sl),ρ=[some (.v (.lst (rs.map qa1))),some (.v (.tup (shs.map prD))),some (.v (.int n)),some (.v (.lst ((a.1++[a.2]).map D.int))),u4,u5,u6]∧a.1.length=n∧qdH rs (shs.take i) n=some a,⟨(List.replicate n 0,0),_,_,_,rfl,List.length_replicate,rfl⟩,?_,?_⟩
    · rw [show [D.int 0].length=1 from rfl];exact qaR (by omega)
    · rw [qbh,show Int.toNat ((n:Int)+1)=n+1 by omega,qhQ]
    · rintro i d ρ hd ⟨a,u4,u5,u6,rfl,hal,hsum⟩
      obtain ⟨⟨k,w⟩,rfl,hs⟩:=qcl hd
      have hw:=hfs _ (List.mem_of_getElem? hs)
      refine ⟨rfl,fun ρ=>okS rs (k,w)∧ρ=[some (.v (.lst (rs.map qa1))),some (.v (.tup (shs.map prD))),some (.v (.int n)),some (.v (.lst ((a.1++[a.2]).map D.int))),some (.v (.int k)),some (.v (.int w)),u6],?_,?_⟩
      · refine ⟨fun h=>⟨fun _=>q0 (qbU hs fun ok=>?_),fun h=>tf h⟩,fun h=>⟨fun h2=>⟨fun _=>q0 (qbU hs fun ok=>?_),fun h=>tf h⟩,fun h2=>⟨fun h3=>q0 (qbU hs fun ok=>?_),fun h3=>⟨?_,rfl⟩⟩⟩⟩
        · have h1:=ok.1.1
          have h2:=dP h
          simp only at *
          omega
        · have h1:=ok.1.2
          have h3:=dP h2
          rw [List.length_map] at h3
          simp only at *
          omega
        · have h1:=ok.2
          have h4:=dP h3
          simp only at *
          omega
        · have h1:=of_decide_eq_false h
          have h4:=of_decide_eq_false h2
          have h5:=of_decide_eq_false h3
          rw [List.length_map] at h4
          exact ⟨⟨by show 0≤k;omega,by show k<rs.length;omega⟩,by show 0≤w;omega⟩
      rintro ρ ⟨ok,rfl⟩
      have k0:0≤k:=ok.1.1
      have k1:k<rs.length:=ok.1.2
      have hmem:=qbJ k0 k1
      have hrow:=hfr _ hmem
      have hrl:=hlen _ hmem
      refine ⟨_,qhj k0 k1,_,rfl,_,rfl,_,qhj k0 k1,_,rfl,?_,_,qbR _ _ _,_,_,rfl,rfl,?_⟩
      · show ((qbQ rs k).1.map D.int).length+1≤sizeLine
        rw [List.length_map,hrl];exact qaR (by omega)
      refine qdt (fun t e=>D.int (t+w*e)) ?_ (fun t ht e he=>⟨rfl,qdr (m:=60000) (n:=60000) (by decide) (by decide) hw ?_ (by decide),rfl⟩) ?_
      · rw [List.length_append,hal];exact qap (by simp;omega)
      · rcases List.mem_append.mp he with h | h
        · exact hrow.1 e h
        · rw [List.mem_singleton.mp h];exact hrow.2
      · have e4:List.zipWith (fun t e=>D.int (t+w*e)) (a.1++[a.2]) ((qbQ rs k).1++[(qbQ rs k).2])=((qdQ rs a (k,w)).1++[(qdQ rs a (k,w)).2]).map D.int:=by
          rw [qkE (hal.trans hrl.symm),List.map_append]
          unfold qdQ
          simp [List.map_zipWith]
        rw [e4]
        refine ⟨qdQ rs a (k,w),_,_,_,rfl,?_,qfl hs hsum ok⟩
        unfold qdQ
        rw [List.length_zipWith,hal,hrl]
        exact Nat.min_self n
    · rintro ρ ⟨a,u4,u5,u6,rfl,hal,hsum⟩
      rw [List.length_map,List.take_length] at hsum
      exact q1 a hsum
  · refine ⟨_,(qak (qaD (i:=3) sc__law_total.nd rfl (Or.inl rfl) (qaw qaN (PD.q (PF.d (qaQ (qab qae qaj qad)))) (PD.q (qaw qay (dvq 2) (PD.q qae)))))
      (qak (qdW PassesOwn.never rfl (qc8 (dv 1)) (qcs (n:=2) rfl (qaB (qav (i:=4) sc__law_total.nd rfl (Or.inl rfl)) (qaB (qav (i:=5) sc__law_total.nd rfl (Or.inr rfl)) qbw))) (qa3 (qbO (PWD.td (qlR (qaU qlQ (dvq 4) (PD.q qae) (qao _)) (qlR (qaU qm9 (dvq 4) (PD.q (qaF qbP rfl z_len PySem.boot_len (qam (dvq 0) qas qaa) qaa qag)) (qao _)) (qjM (qaU qlQ (dvq 5) (PD.q qae) (qao _)))))) (qau (qaH qds)) qa0)
      (qak (qaD (i:=6) sc__law_total.nd rfl (Or.inl rfl) (qaw qay (PD.q (PF.d (qfz rfl z_list (PD.q (qaG (PD.q (qaG (dvq 0) (dvq 4) (fun _ _=>rfl))) (PD.q qae) (fun _ _=>rfl))) qac))) (PD.q (PF.d (qaQ (qab (qaG (PD.q (qaG (dvq 0) (dvq 4) (fun _ _=>rfl))) (PD.q qae) (fun _ _=>rfl)) qaj qac))))))
      (qau (qcN (i:=3) (k:=2) (N':=["_law_one","_law_more","_law_weight"]) (cap:=[none,none,some 5]) rfl sc__law_total.nd rfl (Or.inl rfl) (.ok (show qaY ["_law_rows_here","_law_shares","_law_n","_law_total_here","_law_number","_law_weight","_law_row"] (qah qbE) _ ["_law_one","_law_more","_law_weight"] [none,none,some 5]=true by decide +kernel)) (by decide +kernel) (qg2 (n:=2) (qc0 (qa7 (by decide)) (qc0 (qa7 (by decide)) qhm))) (qeG rfl z_zip (qab (dv 3) (qab (dv 6) qaj qaa) qaa)) (fun _ _ _ _ _=>(qcs (n:=2) rfl (qaB (qav (i:=0) (show List.Nodup (["_law_one","_law_more","_law_weight"]:List Str) by decide +kernel) rfl (Or.inl rfl)) (qaB (qav (i:=1) (show List.Nodup (["_law_one","_law_more","_law_weight"]:List Str) by decide +kernel) rfl (Or.inl rfl)) qbw)))) (fun _ _ _ _ _=>(qaw qay (dvq 0) (PD.q (qaw qaN (dvq 2) (dvq 1))))))))))
      (qau (qaH (dv 3))))),?_⟩
    refine ⟨⟨by omega,by omega,?_⟩,((List.replicate n (0:Int),(0:Int)).1++[(List.replicate n (0:Int),(0:Int)).2]).map D.int,?_,fun i ρ=>∃ (a:Row) (u4 u5 u6:Option Sl),ρ=[some (.v (.lst (rs.map qa1))),some (.v (.lst (shs.map prD))),some (.v (.int n)),some (.v (.lst ((a.1++[a.2]).map D.int))),u4,u5,u6]∧a.1.length=n∧qdH rs (shs.take i) n=some a,⟨(List.replicate n 0,0),_,_,_,rfl,List.length_replicate,rfl⟩,?_,?_⟩
    · rw [show [D.int 0].length=1 from rfl];exact qaR (by omega)
    · rw [qbh,show Int.toNat ((n:Int)+1)=n+1 by omega,qhQ]
    · rintro i d ρ hd ⟨a,u4,u5,u6,rfl,hal,hsum⟩
      obtain ⟨⟨k,w⟩,rfl,hs⟩:=qcl hd
      have hw:=hfs _ (List.mem_of_getElem? hs)
      refine ⟨rfl,fun ρ=>okS rs (k,w)∧ρ=[some (.v (.lst (rs.map qa1))),some (.v (.lst (shs.map prD))),some (.v (.int n)),some (.v (.lst ((a.1++[a.2]).map D.int))),some (.v (.int k)),some (.v (.int w)),u6],?_,?_⟩
      · refine ⟨fun h=>⟨fun _=>q0 (qbU hs fun ok=>?_),fun h=>tf h⟩,fun h=>⟨fun h2=>⟨fun _=>q0 (qbU hs fun ok=>?_),fun h=>tf h⟩,fun h2=>⟨fun h3=>q0 (qbU hs fun ok=>?_),fun h3=>⟨?_,rfl⟩⟩⟩⟩
        · have h1:=ok.1.1
          have h2:=dP h
          simp only at *
          omega
        · have h1:=ok.1.2
          have h3:=dP h2
          rw [List.length_map] at h3
          simp only at *
          omega
        · have h1:=ok.2
          have h4:=dP h3
          simp only at *
          omega
        · have h1:=of_decide_eq_false h
          have h4:=of_decide_eq_false h2
          have h5:=of_decide_eq_false h3
          rw [List.length_map] at h4
          exact ⟨⟨by show 0≤k;omega,by show k<rs.length;omega⟩,by show 0≤w;omega⟩
      rintro ρ ⟨ok,rfl⟩
      have k0:0≤k:=ok.1.1
      have k1:k<rs.length:=ok.1.2
      have hmem:=qbJ k0 k1
      have hrow:=hfr _ hmem
      have hrl:=hlen _ hmem
      refine ⟨_,qhj k0 k1,_,rfl,_,rfl,_,qhj k0 k1,_,rfl,?_,_,qbR _ _ _,_,_,rfl,rfl,?_⟩
      · show ((qbQ rs k).1.map D.int).length+1≤sizeLine
        rw [List.length_map,hrl];exact qaR (by omega)
      refine qdt (fun t e=>D.int (t+w*e)) ?_ (fun t ht e he=>⟨rfl,qdr (m:=60000) (n:=60000) (by decide) (by decide) hw ?_ (by decide),rfl⟩) ?_
      · rw [List.length_append,hal];exact qap (by simp;omega)
      · rcases List.mem_append.mp he with h | h
        · exact hrow.1 e h
        · rw [List.mem_singleton.mp h];exact hrow.2
      · have e4:List.zipWith (fun t e=>D.int (t+w*e)) (a.1++[a.2]) ((qbQ rs k).1++[(qbQ rs k).2])=((qdQ rs a (k,w)).1++[(qdQ rs a (k,w)).2]).map D.int:=by
          rw [qkE (hal.trans hrl.symm),List.map_append]
          unfold qdQ
          simp [List.map_zipWith]
        rw [e4]
        refine ⟨qdQ rs a (k,w),_,_,_,rfl,?_,qfl hs hsum ok⟩
        unfold qdQ
        rw [List.length_zipWith,hal,hrl]
        exact Nat.min_self n
    · rintro ρ ⟨a,u4,u5,u6,rfl,hal,hsum⟩
      rw [List.length_map,List.take_length] at hsum
      exact q1 a hsum
def LnB (b:Nat):Ln→Prop
  | .ct shs d=>shs.length≤100∧(∀ s∈shs,s.2.natAbs≤b)∧d.natAbs≤b
  | .ch es k=>es.length≤40∧(∀ e∈es,e.natAbs≤b)∧k.natAbs≤b
  | .sh _=>True
def LnOk2 (b:Nat):Ln→Prop
  | .ct shs d=>shs.length≤101∧(∀ s∈shs,s.2.natAbs≤b)∧d.natAbs≤b
  | .ch es k=>es.length≤41∧(∀ e∈es,e.natAbs≤b)∧k.natAbs≤b
  | .sh _=>True
theorem LnB.ok2 {b c:Nat} {l:Ln} (h:LnB b l) (hb:b≤c):LnOk2 c l:=by
  cases l with
  | ct shs d=>exact ⟨by have:=h.1;omega,fun s hs=>Nat.le_trans (h.2.1 s hs) hb,Nat.le_trans h.2.2 hb⟩
  | ch es k=>exact ⟨by have:=h.1;omega,fun s hs=>Nat.le_trans (h.2.1 s hs) hb,Nat.le_trans h.2.2 hb⟩
  | sh n=>trivial
theorem LnOk2.ok {b:Nat} {l:Ln} (h:LnOk2 b l) (hb:b≤2 ^ 40):qnN l:=by
  cases l with
  | ct shs d=>exact ⟨Nat.le_trans h.1 (by decide),fun s hs=>Nat.le_trans (h.2.1 s hs) hb,by
      have h1:=h.2.2
      have h9:(2:Int) ^ 40<2 ^ 9000:=by decide +kernel
      have:d≤2 ^ 40:=by omega
      omega⟩
  | ch es k=>exact ⟨by have:=h.1;omega,fun s hs=>Nat.le_trans (h.2.1 s hs) hb,Nat.le_trans h.2.2 hb⟩
  | sh n=>trivial
def RowN (n b:Nat) (r:Row):Prop:=r.1.length=n∧RowB b r
theorem qgA {α:Type} {xs:List α} {lo hi:Int} {a b:Nat} (ea:lo=(a:Int)) (eb:hi=(b:Int)) (hb:b≤xs.length) (ha:a≤b):(qb7 xs (some lo) (some hi)).length=b - a∧∀ x∈qb7 xs (some lo) (some hi),x∈xs:=by
  subst ea eb
  refine ⟨?_,fun x hx=>qe8 hx⟩
  rw [qlh xs a b hb ha,List.length_take,List.length_drop]
  omega
theorem qbV {ds zs:List Int} (h:Drawn ds zs) {b:Int} (hz:∀ z∈zs,z≤b):∀ d∈ds,0≤d∧d<b:=fun d hd=>by
  obtain ⟨z,hz',q⟩:=h.mem d hd
  have:=hz z hz'
  omega
def qcf:SpD:=fun ds R=>∃ (c s big:Int) (n many:Nat),ds=[.int c,.int s,.int (n:Int),.int (many:Int),.int big]∧0≤s∧s<2 ^ 20∧n≤8∧many≤10∧0<big∧big≤2 ^ 39 ∧
  ∀ rs:List Row,rs.length=many→(∀ r∈rs,RowN n 40 r)→R (.lst (rs.map qa1))
theorem qf3 {n:Nat} {f:Addr} {fd:FuncData} (F:Fun K "_law_rows" "_law_rows" qci f fd) (Q__law_draws:Cl P w K mg base n "_law_draws" ["_law_cell_here","_law_salt","_law_sizes"] qaT) (z_range:mg "range"=none) (z_tuple:mg "tuple"=none):FnOk P w K mg base CX0 (n+1) f fd ["_law_cell_here","_law_salt","_law_n","_law_many","_law_big"] (lSp K qcf):=by
  refine F.okD sc__law_rows (fun ds R h=>?_) (fun cdv A outer s H E ds R hr h=>?_)
  · obtain ⟨c,s0,big,n,many,rfl,_⟩:=h;rfl
  obtain ⟨c,s0,big,n,many,rfl,hs0,hs1,hn,hm,hb0,hb1,q⟩:=h
  refine ⟨_,(qak (qaD (i:=5) sc__law_rows.nd rfl (Or.inl rfl) (qat Q__law_draws hr rfl (qab (dv 0) (qab (dv 1) (qab (qaw qaN (PD.q (PF.d (qaQ (qab (qaw qay (PD.q (qaw qaN (PD.q qae) (dvq 4))) (PD.q qae)) qaj qai)))) (PD.q (qaw qaN (PD.q (qaw qay (dvq 2) (PD.q qae))) (dvq 3)))) qaj qai) qaa) qaa) qaa (qaf qaa (qaf qai qag))))
      (qak (qda (i:=6) sc__law_rows.nd rfl (Or.inl rfl) (qaQ qaj))
      (qak (qdW PassesOwn.never rfl (qbs rfl z_range (qab (dv 3) qaj qaa)) (qav (i:=7) sc__law_rows.nd rfl (Or.inl rfl)) (qak (qaD (i:=8) sc__law_rows.nd rfl (Or.inl rfl) (qcZ (dvq 5) (qaO (PD.q (qaw qaN (dvq 7) (PD.q (qaw qay (dvq 2) (PD.q qae)))))) (qaO (PD.q (qaw qaN (PD.q (qaw qay (dvq 7) (PD.q qae))) (PD.q (qaw qay (dvq 2) (PD.q qae))))))))
      (qau (qby 6 (qaJ (qab (qaC qaK rfl z_tuple PyProof.Rows.boot_tuple (qam (PD.q (PF.d (qbp (k:=1) (N':=["_law_one","_law_big"]) (cap:=[none,some 4]) rfl (.ok (show qaY ["_law_cell_here","_law_salt","_law_n","_law_many","_law_big","_law_numbers","_law_rows_here","_law_k","_law_part"] (qah qci) _ ["_law_one","_law_big"] [none,some 4]=true by decide +kernel)) (by decide +kernel) (qa7 (by decide)) (qc8 (qcZ (dvq 8) qa9 (qaO (dvq 2)))) (fun _ _ _ _ _=>(qav (i:=0) (show List.Nodup (["_law_one","_law_big"]:List Str) by decide +kernel) rfl (Or.inl rfl))) (fun _ _ _ _ _=>(qaw qbN (dvq 0) (dvq 1)))))) qas qal) qal qag) (qab (qaw qbN (PD.q (qaG (dvq 8) (dvq 2) (fun _ _=>rfl))) (dvq 4)) qaj qai) qax)) (qb4 qar) qar))))
      (qjo 6 (qau (qaH (dv 6))))))),?_⟩
  have hnm:(n+1)*many≤90:=Nat.le_trans (Nat.mul_le_mul (show n+1≤9 by omega) hm) (by decide)
  have hnmI:((n:Int)+1)*(many:Int)=(((n+1)*many:Nat):Int):=by push_cast;rfl
  refine ⟨qa5 (by decide) (by decide),qa5 (by omega) (by omega),⟨by omega,by omega,?_⟩,(List.replicate ((n+1)*many) (2*big+1)).map D.int,?_,c,s0,List.replicate ((n+1)*many) (2*big+1),rfl,by rw [List.length_replicate];omega,hs0,hs1,fun z hz=>?_,fun es hD=>?_⟩
  · rw [show [D.int (2*big+1)].length=1 from rfl];exact qaR (by omega)
  · rw [qbh,hnmI,Int.toNat_natCast]
  · rw [(List.mem_replicate.mp hz).2]
    have:(2:Int)*2 ^ 39+1<2 ^ 9000:=by decide +kernel
    omega
  have hdl:es.length=(n+1)*many:=by rw [hD.len,List.length_replicate]
  have hdb:=qbV hD (b:=2*big+1) fun z hz=>by rw [(List.mem_replicate.mp hz).2];exact Int.le_refl _
  refine ⟨⟨by omega,by omega⟩,fun i ρ=>∃ (rs:List Row) (u7 u8:Option Sl),ρ=[some (.v (.int c)),some (.v (.int s0)),some (.v (.int n)),some (.v (.int many)),some (.v (.int big)),some (.v (.lst (es.map D.int))),some (.own (rs.map qa1)),u7,u8]∧rs.length=i∧∀ r∈rs,RowN n 40 r,⟨[],_,_,rfl,rfl,fun r hr=>absurd hr List.not_mem_nil⟩,?_,?_⟩
  · rintro i d ρ hd ⟨rs,u7,u8,rfl,hrl,hr⟩
    obtain ⟨hi,rfl⟩:=qbK hd
    have hi':i<many:=by omega
    have hle:(i+1)*(n+1)≤es.length:=by rw [hdl,Nat.mul_comm (n+1)];exact Nat.mul_le_mul_right _ hi'
    have hsb:i*(n+1)≤(i+1)*(n+1):=Nat.mul_le_mul_right _ (Nat.le_succ i)
    have e1:(0+(i:Int))*((n:Int)+1)=((i*(n+1):Nat):Int):=by rw [Int.zero_add];push_cast;rfl
    have e2:(0+(i:Int)+1)*((n:Int)+1)=(((i+1)*(n+1):Nat):Int):=by rw [Int.zero_add];push_cast;rfl
    obtain ⟨pl,pm⟩:=qgA (xs:=es) e1 e2 hle hsb
    have ecut:=qaM D.int es (some ((0+(i:Int))*((n:Int)+1))) (some ((0+(i:Int)+1)*((n:Int)+1)))
    generalize qb7 es (some ((0+(i:Int))*((n:Int)+1))) (some ((0+(i:Int)+1)*((n:Int)+1)))=ps at pl pm ecut
    have hpl:ps.length=n+1:=by rw [pl,← Nat.sub_mul];simp
    refine ⟨qa5 (by omega) (by omega),qa5 (by omega) (by omega),_,ecut,_,(qaM D.int ps none (some (n:Int))).trans (by rw [qbF]),?_⟩
    refine qcj (fun x=>D.int (x - big)) (qap (by rw [List.length_take];omega)) (fun x hx=>rfl) ?_
    have hpn:n<ps.length:=by omega
    have eR:D.tup [.tup ((ps.take n).map fun x=>D.int (x - big)),.int (ps[n] - big)]=qa1 ((ps.take n).map fun x=>x - big,ps[n] - big):=by unfold qa1;rw [List.map_map];rfl
    refine ⟨_,qbv (qaI hpn) rfl,?_,_,(congrArg (fun z=>rs.map qa1++[z]) eR).trans (qbR _ _ _),rs++[((ps.take n).map fun x=>x - big,ps[n] - big)],_,_,rfl,by rw [List.length_append,hrl];rfl,fun r hr'=>?_⟩
    · rw [List.length_map,hrl];exact qap (by omega)
    · rcases List.mem_append.mp hr' with h | h
      · exact hr r h
      · rw [List.mem_singleton.mp h]
        refine ⟨by rw [List.length_map,List.length_take];omega,fun y hy=>?_,?_⟩
        · obtain ⟨u,hu,rfl⟩:=List.mem_map.mp hy
          have:=hdb u (pm u (List.mem_of_mem_take hu))
          omega
        · have:=hdb _ (pm _ (List.getElem_mem hpn))
          show (ps[n] - big).natAbs≤_
          omega
  · rintro ρ ⟨rs,u7,u8,rfl,hrl,hr⟩
    rw [qbm] at hrl
    exact q rs (by omega) hr
theorem qnu {es:List Int} {b:Int} (hb:∀ d∈es,0≤d∧d<b) {k:Int} {i:Nat} (e:k=(i:Int)) (hi:i<es.length):∃ v:Int,atI (es.map D.int) k=some (.int v)∧es[i]?=some v∧0≤v∧v<b :=
  ⟨es[i],qbv (qaI hi) e,qaI hi,hb _ (List.getElem_mem hi)⟩
def qnV:List Int:=[3,4]++List.replicate 3 14++List.replicate 3 5++[5]++List.replicate 4 7++[9,14,6]
def qbY:SpD:=fun ds R=>∃ (c:Int) (n:Nat),ds=[.int c,.int (n:Int)]∧n≤8∧∀ l:Ln,LnB 1000 l→R (lnD l)
theorem qdJ {n:Nat} {f:Addr} {fd:FuncData} (F:Fun K "_law_free_line" "_law_free_line" qbd f fd) (Q__law_draws:Cl P w K mg base n "_law_draws" ["_law_cell_here","_law_salt","_law_sizes"] qaT) (z_tuple:mg "tuple"=none) (z_max:mg "max"=none) (z_range:mg "range"=none):FnOk P w K mg base CX0 (n+1) f fd ["_law_cell_here","_law_n"] (lSp K qbY):=by
  refine F.okD sc__law_free_line (fun ds R h=>?_) (fun cdv A outer s H E ds R hr h=>?_)
  · obtain ⟨c,n,rfl,_⟩:=h;rfl
  obtain ⟨c,n,rfl,hn,q⟩:=h
  refine ⟨_,(qak (qaD (i:=2) sc__law_free_line.nd rfl (Or.inr rfl) (qat Q__law_draws hr rfl (qab (dv 0) (qab qae (qab (qaw qay (PD.q (qaw qay (PD.q (qaw qay (PD.q (qaw qay (PD.q (qaw qay (PD.q (PF.d (qaQ (qab qae (qab qae qaj qad) qad)))) (PD.q (qaw qaN (PD.q (PF.d (qaQ (qab qae qaj qad)))) (PD.q qae))))) (PD.q (qaw qaN (PD.q (PF.d (qaQ (qab qae qaj qad)))) (PD.q qae))))) (PD.q (PF.d (qaQ (qab qae qaj qad)))))) (PD.q (qaw qaN (PD.q (PF.d (qaQ (qab qae qaj qad)))) (PD.q qae))))) (PD.q (PF.d (qaQ (qab qae (qab qae (qab qae qaj qad) qad) qad))))) qaj qai) qad) qaa) qaa (qaf qad (qaf qai qag))))
      (qa3 (qbO (qaU (qcD hr.units) (PD.q (qaG (dvq 2) (PD.q qae) (fun _ _=>rfl))) (PD.q qae) (qao _)) (qak (qcN (i:=3) (k:=1) (N':=["_law_k","_law_numbers"]) (cap:=[none,some 2]) rfl sc__law_free_line.nd rfl (Or.inl rfl) (.ok (show qaY ["_law_cell_here","_law_n","_law_numbers","_law_shares","_law_size"] (qah qbd) _ ["_law_k","_law_numbers"] [none,some 2]=true by decide +kernel)) (by decide +kernel) (qa7 (by decide)) (qbs rfl z_range (qab (qaG (dvq 2) (PD.q qae) (fun _ _=>rfl)) qaj qac)) (fun _ _ _ _ _=>(qav (i:=0) (show List.Nodup (["_law_k","_law_numbers"]:List Str) by decide +kernel) rfl (Or.inl rfl))) (fun _ _ _ _ _=>(qaJ (qab (qaw qbN (PD.q (qaG (dvq 1) (PD.q (qaw qay (PD.q qae) (dvq 0))) (fun _ _=>rfl))) (PD.q qae)) (qab (qaw qbN (PD.q (qaG (dvq 1) (PD.q (qaw qay (PD.q qae) (dvq 0))) (fun _ _=>rfl))) (PD.q qae)) qaj qai) qai))))
      (qau (qaH (qaJ (qab qbC (qab (qaC qaK rfl z_tuple PyProof.Rows.boot_tuple (qam (dvq 3) qas qaa) qaa qag) (qab (qaG (dvq 2) (PD.q qae) (fun _ _=>rfl)) qaj qac) qax) qad))))) qa0)
      (qa3 (qbO (qaU (qcD hr.units) (PD.q (qaG (dvq 2) (PD.q qae) (fun _ _=>rfl))) (PD.q qae) (qao _)) (qak (qaD (i:=4) sc__law_free_line.nd rfl (Or.inl rfl) (dv 1))
      (qa3 (qbO (qaU (qcD hr.units) (PD.q (qaG (dvq 2) (PD.q qae) (fun _ _=>rfl))) (PD.q qae) (qao _)) (qau (qaD (i:=4) sc__law_free_line.nd rfl (Or.inl rfl) (qaw qay (dvq 1) (PD.q qae)))) qa0)
      (qa3 (qbO (qaU (qcD hr.units) (PD.q (qaG (dvq 2) (PD.q qae) (fun _ _=>rfl))) (PD.q qae) (qao _)) (qau (qaD (i:=4) sc__law_free_line.nd rfl (Or.inl rfl) (qaF (qeO rfl) rfl z_max PyProof.Rows.boot_max (qam (PD.q qae) (qam (PD.q (qaw qbN (dvq 1) (PD.q qae))) qas qai) qad) qad (qaf qai qag)))) qa0)
      (qau (qaH (qaJ (qab qbC (qab (qaC qaK rfl z_tuple PyProof.Rows.boot_tuple (qam (PD.q (PF.d (qbp (k:=1) (N':=["_law_one"]) (cap:=[none]) rfl (.ok (show qaY ["_law_cell_here","_law_n","_law_numbers","_law_shares","_law_size"] (qah qbd) _ ["_law_one"] [none]=true by decide +kernel)) (by decide +kernel) (qa7 (by decide)) (qc8 (qcZ (dvq 2) (qaO (PD.q qae)) (qaO (PD.q (qaw qay (PD.q qae) (dvq 4)))))) (fun _ _ _ _ _=>(qav (i:=0) (show List.Nodup (["_law_one"]:List Str) by decide +kernel) rfl (Or.inl rfl))) (fun _ _ _ _ _=>(qaw qbN (dvq 0) (PD.q qae)))))) qas qal) qal qag) (qab (qaw qbN (PD.q (qaG (dvq 2) (PD.q qae) (fun _ _=>rfl))) (PD.q qae)) qaj qai) qax) qad))))))) qa0)
      (qau (qaH (qaJ (qab qbC (qab (qaw qbN (PD.q (qaG (dvq 2) (PD.q qae) (fun _ _=>rfl))) (PD.q qae)) qaj qai) qad))))))),?_⟩
  have sz1:∀ {a:Nat},a≤100→a≤sizeLine:=fun h=>qaR (by omega)
  refine ⟨⟨by decide,by decide,sz1 (by decide)⟩,_,qbh 3 14,sz1 (by decide),_,qdo D.int [3,4] _,⟨by decide,by decide,sz1 (by decide)⟩,_,qbh 3 5,sz1 (by decide),_,qdo _ _ _,sz1 (by decide),_,qdo D.int _ [5],⟨by decide,by decide,sz1 (by decide)⟩,_,qbh 4 7,sz1 (by decide),_,qdo _ _ _,sz1 (by decide),_,qdo D.int _ [9,14,6],c,9,qnV,rfl,by decide,by decide,by decide,?_,fun es hD=>?_⟩
  · intro z hz
    have h9:(1000:Int)<2 ^ 9000:=by decide +kernel
    have:0<z∧z≤14:=by
      revert z
      decide
    omega
  have hel:es.length=16:=hD.len
  have heb:=qbV hD (b:=14) (by decide)
  have H:∀ (k:Int) (i:Nat),k=(i:Int)→i<16→∃ v:Int,atI (es.map D.int) k=some (.int v)∧es[i]?=some v∧0≤v∧v<14:=fun k i e hi=>qnu heb e (by omega)
  obtain ⟨x0,a0,_,_,_⟩:=H 0 0 rfl (by decide)
  obtain ⟨x1,hx1,b1,c1⟩:=hD.at (i:=1) (z:=4) rfl
  have a1:atI (es.map D.int) 1=some (.int x1):=qbv hx1 rfl
  obtain ⟨x8,a8,_,b8,c8⟩:=H 8 8 rfl (by decide)
  obtain ⟨x18,a18,_,b18,c18⟩:=H 13 13 rfl (by decide)
  obtain ⟨x19,a19,_,b19,c19⟩:=H 14 14 rfl (by decide)
  obtain ⟨x20,a20,_,b20,c20⟩:=H 15 15 rfl (by decide)
  refine ⟨fun ρ=>ρ=[some (.v (.int c)),some (.v (.int n)),some (.v (.lst (es.map D.int))),none,none],⟨_,a0,fun h=>⟨_,a1,⟨by omega,by omega⟩,?_⟩,fun h=>rfl⟩,?_⟩
  · let f:Nat→Int × Int:=fun i=>(es.getD (2+i) 0 - 1,es.getD (5+i) 0 - 1)
    have gd:∀ {j:Nat},j<16→es[j]?=some (es.getD j 0):=fun {j} hj=>by
      have hj':j<es.length:=by omega
      rw [List.getD_eq_getElem?_getD,qaI hj']
      rfl
    refine qbA (fun i=>prD (f i)) (qap (by omega)) (fun i hi=>?_) ?_
    · have hi3:i<3:=by omega
      exact ⟨_,qbv (gd (j:=2+i) (by omega)) (by push_cast;omega),_,qbv (gd (j:=5+i) (by omega)) (by push_cast;omega),rfl⟩
    · refine ⟨_,a8,?_⟩
      have e:D.tup [.str "cut",.tup ((List.range x1.toNat).map fun i=>prD (f i)),.int x8]=lnD (.ct ((List.range x1.toNat).map f) x8):=by
        show _=D.tup [.str "cut",.tup (((List.range x1.toNat).map f).map prD),.int x8]
        rw [List.map_map];rfl
      have z:=q (.ct ((List.range x1.toNat).map f) x8) ⟨by rw [List.length_map,List.length_range];omega,fun s hs=>?_,by omega⟩
      · rw [← e] at z
        exact z
      obtain ⟨i,hi,rfl⟩:=List.mem_map.mp hs
      have hi3:i<3:=by have:=List.mem_range.mp hi;omega
      have:=heb _ (List.mem_of_getElem? (gd (j:=5+i) (by omega)))
      show (es.getD (5+i) 0 - 1).natAbs≤1000
      omega
  rintro ρ rfl
  refine ⟨fun ρ=>ρ=[some (.v (.int c)),some (.v (.int n)),some (.v (.lst (es.map D.int))),none,none],⟨_,a0,fun h=>?_,fun h=>rfl⟩,?_⟩
  · refine ⟨fun ρ=>∃ sz:Int,ρ=[some (.v (.int c)),some (.v (.int n)),some (.v (.lst (es.map D.int))),none,some (.v (.int sz))],⟨_,a20,fun _=>⟨_,rfl⟩,fun _=>⟨_,rfl⟩⟩,?_⟩
    rintro ρ ⟨sz,rfl⟩
    refine ⟨fun ρ=>∃ sz:Int,ρ=[some (.v (.int c)),some (.v (.int n)),some (.v (.lst (es.map D.int))),none,some (.v (.int sz))],⟨_,a20,fun _=>⟨_,rfl⟩,fun _=>⟨_,rfl⟩⟩,?_⟩
    rintro ρ ⟨sz,rfl⟩
    refine ⟨_,qaM _ _ _ _,?_⟩
    have hcl:=qiW es (some 9) (some (9+sz))
    have hcs:∀ x∈qb7 es (some 9) (some (9+sz)),x∈es:=fun x hx=>qe8 hx
    generalize qb7 es (some 9) (some (9+sz))=ps at hcl hcs ⊢
    refine qcj (fun x=>D.int (x - 3)) (qap (by omega)) (fun x hx=>rfl) ?_
    refine ⟨_,a18,?_⟩
    have e:D.tup [.str "choice",.tup (ps.map fun x=>D.int (x - 3)),.int (x18 - 4)]=lnD (.ch (ps.map fun x=>x - 3) (x18 - 4)):=by
      show _=D.tup [.str "choice",.tup ((ps.map fun x=>x - 3).map D.int),.int (x18 - 4)]
      rw [List.map_map];rfl
    have z:=q (.ch (ps.map fun x=>x - 3) (x18 - 4)) ⟨by rw [List.length_map];omega,fun y hy=>?_,by omega⟩
    · rw [← e] at z
      exact z
    obtain ⟨u,hu,rfl⟩:=List.mem_map.mp hy
    have:=heb u (hcs u hu)
    omega
  rintro ρ rfl
  exact ⟨_,a19,q (.sh (x19 - 1)) trivial⟩
def LnE:Ln→Prop:=fun _=>True
theorem qe5 {α:Type} {xs:List α} {i:Nat} {a x:α} (h:x∈xs.set i a):x∈xs∨x=a:=List.mem_or_eq_of_mem_set h
theorem qe2 {α:Type} (f:α→D) (xs:List α) (j:Nat) (a:α):(xs.map f).set j (f a)=(xs.set j a).map f:=by rw [List.map_set]
def qku (b:Nat):Ln→Ln→Prop
  | .ct shs _,.ct shs' d'=>shs'.length≤shs.length∧(∀ s∈shs',s.2.natAbs≤b+1000)∧d'.natAbs≤b+1000
  | .ch es _,.ch es' k'=>es'.length≤es.length+1∧(∀ e∈es',e.natAbs≤b+1000)∧k'.natAbs≤b+1000
  | .sh _,.sh _=>True
  | _,_=>False
def qep:SpD:=fun ds R=>∃ (l:Ln) (way at_ step:Int) (b:Nat),ds=[lnD l,.int way,.int at_,.int step]∧0≤at_∧step.natAbs≤1000∧LnB b l∧LnE l∧∀ l':Ln,qku b l l'→R (lnD l')
theorem qfD {n:Nat} {f:Addr} {fd:FuncData} (F:Fun K "_law_bent" "_law_bent" qcJ f fd) (z_list:mg "list"=none) (z_tuple:mg "tuple"=none) (z_len:mg "len"=none) (z_int:mg "int"=none):FnOk P w K mg base CX0 (n+1) f fd ["_law_line","_law_way","_law_at","_law_step"] (lSp K qep):=by
  refine F.okD sc__law_bent (fun ds R h=>?_) (fun cdv A outer s H E ds R hr h=>?_)
  · obtain ⟨l,way,at_,step,b,rfl,_⟩:=h;rfl
  obtain ⟨l,way,at_,step,b,rfl,hat,hst,hlb,hle,q⟩:=h
  refine ⟨_,(qa3 (qbO (qaU (qcD hr.units) (PD.q (qaG (dvq 0) (PD.q qae) (fun _ _=>rfl))) (PD.q qbC) (qao _)) (qau (qaH (qaJ (qab qbC (qab (qaG (PD.q (PF.d (qaQ (qab (qaw qay (PD.q (qaG (dvq 0) (PD.q qae) (fun _ _=>rfl))) (dvq 3)) (qab (qdh (PD.q qae)) qaj qbc) qai)))) (PD.q (qaC qlL rfl z_int PyProof.Rows.boot_int (qam (PD.q (qfZ (qcD hr.units) (dvq 1) (PD.q qae) (qao _))) qas qb9) qb9 qag)) (fun _ _=>rfl)) qaj qac) qad)))) qa0)
      (qa3 (qbO (qaU (qcD hr.units) (PD.q (qaG (dvq 0) (PD.q qae) (fun _ _=>rfl))) (PD.q qbC) (qao _)) (qak (qda (i:=4) sc__law_bent.nd rfl (Or.inl rfl) (qfz rfl z_list (PD.q (qaG (dvq 0) (PD.q qae) (fun _ _=>rfl))) qac))
      (qa3 (qbO (qaU (qcD hr.units) (dvq 1) (PD.q qae) (qao _)) (qau (qaH (qaJ (qab qbC (qab (qaG (dvq 0) (PD.q qae) (fun _ _=>rfl)) (qab (qaw qay (PD.q (qaG (dvq 0) (PD.q qae) (fun _ _=>rfl))) (dvq 3)) qaj qai) qac) qad)))) qa0)
      (qa3 (qbO (PWD.td (qgp (qaU (qcD hr.units) (dvq 1) (PD.q qae) (qao _)) (qej (qdc (dvq 4) (fun _=>rfl))))) (qak (qj0 4 qkF (PD.q (qaw qc7 (dvq 2) (PD.q (qaF qbP rfl z_len PySem.boot_len (qam (dvq 4) qas qaa) qaa qag)))) (dv 3))
      (qau (qaH (qaJ (qab qbC (qab (qaC qaK rfl z_tuple PyProof.Rows.boot_tuple (qam (dvq 4) qas qaa) qaa qag) (qab (qaG (dvq 0) (PD.q qae) (fun _ _=>rfl)) qaj qac) qax) qad))))) qa0)
      (qa3 (qbO (qaU (qcD hr.units) (dvq 1) (PD.q qae) (qao _)) (qau (qaH (qaJ (qab qbC (qab (qaw qay (PD.q (qaG (dvq 0) (PD.q qae) (fun _ _=>rfl))) (PD.q (qaJ (qab qae qaj qad)))) (qab (qaG (dvq 0) (PD.q qae) (fun _ _=>rfl)) qaj qac) qai) qad)))) qa0)
      (qau (qaH (qaJ (qab qbC (qab (qcZ (PD.q (qaG (dvq 0) (PD.q qae) (fun _ _=>rfl))) (qaO (PD.q qae)) qa9) (qab (qaG (dvq 0) (PD.q qae) (fun _ _=>rfl)) qaj qac) qac) qad)))))))) qa0)
      (qak (qda (i:=5) sc__law_bent.nd rfl (Or.inl rfl) (qfz rfl z_list (PD.q (qaG (dvq 0) (PD.q qae) (fun _ _=>rfl))) qac))
      (qa3 (qbO (qfR (qdc (dvq 5) (fun _=>rfl))) (qau (qaH (dv 0))) qa0)
      (qak (qgz (qaG (dvq 5) (PD.q (qaw qc7 (dvq 2) (PD.q (qaF qbP rfl z_len PySem.boot_len (qam (dvq 5) qas qaa) qaa qag)))) (fun _ _=>rfl)) (qcs (n:=2) rfl (qaB (qav (i:=6) sc__law_bent.nd rfl (Or.inl rfl)) (qaB (qav (i:=7) sc__law_bent.nd rfl (Or.inl rfl)) qbw))))
      (qak (qmD 5 (qaJ (qab (qaw qay (dvq 6) (dvq 3)) (qab (dv 7) qaj qaa) qai)) (PD.q (qaw qc7 (dvq 2) (PD.q (qaF qbP rfl z_len PySem.boot_len (qam (dvq 5) qas qaa) qaa qag)))))
      (qa3 (qbO (qaU (qcD hr.units) (dvq 1) (PD.q qae) (qao _)) (qau (qmD 5 (qaJ (qab (dv 6) (qab (qaw qay (dvq 7) (dvq 3)) qaj qai) qaa)) (PD.q (qaw qc7 (dvq 2) (PD.q (qaF qbP rfl z_len PySem.boot_len (qam (dvq 5) qas qaa) qaa qag)))))) qa0)
      (qa3 (qbO (qaU (qcD hr.units) (dvq 1) (PD.q qae) (qao _)) (qau (qaH (qaJ (qab qbC (qab (qaG (dvq 0) (PD.q qae) (fun _ _=>rfl)) (qab (qaw qay (PD.q (qaG (dvq 0) (PD.q qae) (fun _ _=>rfl))) (dvq 3)) qaj qai) qac) qad)))) qa0)
      (qa3 (qbO (qaU (qcD hr.units) (dvq 1) (PD.q qae) (qao _)) (qau (qda (i:=5) sc__law_bent.nd rfl (Or.inl rfl) (qkY (PD.q (qcZ (dvq 5) qa9 (qaO (PD.q (qaw qc7 (dvq 2) (PD.q (qaF qbP rfl z_len PySem.boot_len (qam (dvq 5) qas qaa) qaa qag))))))) (PD.q (qcZ (dvq 5) (qaO (PD.q (qaw qay (PD.q (qaw qc7 (dvq 2) (PD.q (qaF qbP rfl z_len PySem.boot_len (qam (dvq 5) qas qaa) qaa qag)))) (PD.q qae)))) qa9))))) qa0)
      (qau (qaH (qaJ (qab qbC (qab (qaC qaK rfl z_tuple PyProof.Rows.boot_tuple (qam (dvq 5) qas qaa) qaa qag) (qab (qaG (dvq 0) (PD.q qae) (fun _ _=>rfl)) qaj qac) qax) qad))))))))))))),?_⟩
  cases l with
  | sh m =>
    refine ⟨fun _=>False,⟨_,rfl,fun _=>⟨_,rfl,?_⟩,fun h=>tf (z08.symm.trans h)⟩,fun _ h=>h.elim⟩
    by_cases h3:(way == 3)=true
    · exact ⟨.int (-1),by rw [if_pos h3];rfl,q (.sh (-1)) trivial⟩
    · exact ⟨.int (m+step),by rw [if_neg h3];rfl,q (.sh (m+step)) trivial⟩
  | ch es k =>
    obtain ⟨h1,h2,h3⟩:=hlb
    refine ⟨fun ρ=>ρ=[some (.v (lnD (.ch es k))),some (.v (.int way)),some (.v (.int at_)),some (.v (.int step)),none,none,none,none],⟨_,rfl,fun h=>tf (h.symm.trans z07),fun _=>rfl⟩,?_⟩
    rintro ρ rfl
    refine ⟨fun _=>False,⟨_,rfl,fun _=>⟨_,rfl,_,rfl,?_⟩,fun h=>tf (z04.symm.trans h)⟩,fun _ h=>h.elim⟩
    refine ⟨fun ρ=>ρ=[some (.v (lnD (.ch es k))),some (.v (.int way)),some (.v (.int at_)),some (.v (.int step)),some (.own (es.map D.int)),none,none,none],⟨fun _=>⟨_,rfl,_,rfl,q (.ch es (k+step)) ⟨by omega,fun e he=>by have:=h2 e he;omega,by omega⟩⟩,fun _=>rfl⟩,?_⟩
    rintro ρ rfl
    refine ⟨fun ρ=>ρ=[some (.v (lnD (.ch es k))),some (.v (.int way)),some (.v (.int at_)),some (.v (.int step)),some (.own (es.map D.int)),none,none,none],?_,?_⟩
    · by_cases c0:es=[]
      · subst c0
        exact ⟨fun _=>⟨fun h=>(by cases h),fun _=>rfl⟩,fun _=>⟨fun h=>ff h,fun _=>rfl⟩⟩
      · have hpos:0<es.length:=List.length_pos_iff.mpr c0
        have hp:(0:Int)<((es.map D.int).length:Int):=by rw [List.length_map];omega
        have m0:=Int.emod_nonneg at_ (b:=((es.map D.int).length:Int)) (by omega)
        have m1:=Int.emod_lt_of_pos at_ hp
        have mc:at_ % ((es.map D.int).length:Int)=(((at_ % ((es.map D.int).length:Int)).toNat:Nat):Int):=by omega
        have ml:(at_ % ((es.map D.int).length:Int)).toNat<es.length:=by rw [List.length_map] at m1 m0 ⊢;omega
        have go:∃ (j:Nat) (v:Int),at_ % ((es.map D.int).length:Int)=(j:Int)∧(es.map D.int)[j]?=some (.int v)∧v∈es:=⟨_,_,mc,(List.getElem?_map ..).trans (by rw [qaI ml];rfl),List.getElem_mem ml⟩
        obtain ⟨j,v,e1,e2,e3⟩:=go
        refine ⟨fun _=>⟨fun _=>⟨hp,j,v,e1,e2,_,qe2 D.int es j (v+step),_,rfl,?_⟩,fun _=>rfl⟩,fun _=>⟨fun h=>ff h,fun _=>rfl⟩⟩
        refine q (.ch (es.set j (v+step)) k) ⟨by rw [List.length_set];omega,fun e he=>?_,by omega⟩
        rcases qe5 he with h | h
        · have:=h2 e h;omega
        · have:=h2 v e3;omega
    rintro ρ rfl
    refine ⟨fun ρ=>ρ=[some (.v (lnD (.ch es k))),some (.v (.int way)),some (.v (.int at_)),some (.v (.int step)),some (.own (es.map D.int)),none,none,none],⟨fun _=>⟨_,rfl,?_,_,qbR D.int es 0,_,rfl,?_⟩,fun _=>rfl⟩,?_⟩
    · show (es.map D.int).length+1≤sizeLine
      rw [List.length_map];exact qaR (by omega)
    · refine q (.ch (es++[0]) k) ⟨by rw [List.length_append];simp,fun e he=>?_,by omega⟩
      rcases List.mem_append.mp he with h | h
      · have:=h2 e h;omega
      · rw [List.mem_singleton.mp h];omega
    rintro ρ rfl
    exact ⟨_,rfl,_,qaM D.int es (some 1) none,_,rfl,q (.ch (qb7 es (some 1) none) k) ⟨by have:=qiW es (some 1) none;omega,fun e he=>by have:=h2 e (qe8 he);omega,by omega⟩⟩
  | ct shs d =>
    obtain ⟨h1,h2,h3⟩:=hlb
    refine ⟨fun ρ=>ρ=[some (.v (lnD (.ct shs d))),some (.v (.int way)),some (.v (.int at_)),some (.v (.int step)),none,none,none,none],⟨_,rfl,fun h=>tf (h.symm.trans z06),fun _=>rfl⟩,?_⟩
    rintro ρ rfl
    refine ⟨fun ρ=>ρ=[some (.v (lnD (.ct shs d))),some (.v (.int way)),some (.v (.int at_)),some (.v (.int step)),none,none,none,none],⟨_,rfl,fun h=>tf (h.symm.trans z09),fun _=>rfl⟩,?_⟩
    rintro ρ rfl
    refine ⟨_,rfl,_,rfl,fun ρ=>shs≠[]∧ρ=[some (.v (lnD (.ct shs d))),some (.v (.int way)),some (.v (.int at_)),some (.v (.int step)),none,some (.own (shs.map prD)),none,none],⟨fun h=>?_,fun h=>⟨fun e=>(by subst e;cases h),rfl⟩⟩,?_⟩
    · cases shs with
      | nil=>exact q (.ct [] d) ⟨Nat.le_refl _,fun s hs=>absurd hs List.not_mem_nil,by omega⟩
      | cons=>cases h
    rintro ρ ⟨hle',rfl⟩
    have hpos:0<shs.length:=List.length_pos_iff.mpr hle'
    have hpl:∀ {xs:List (Int × Int)},xs.length=shs.length→(0:Int)<((xs.map prD).length:Int):=fun e=>by rw [List.length_map];omega
    have hix:∀ {xs:List (Int × Int)},xs.length=shs.length→∃ j:Nat,at_ % ((xs.map prD).length:Int)=(j:Int)∧j<xs.length:=fun {xs} e=>by
      have m0:=Int.emod_nonneg at_ (b:=((xs.map prD).length:Int)) (by have:=hpl e;omega)
      have m1:=Int.emod_lt_of_pos at_ (hpl e)
      exact ⟨(at_ % ((xs.map prD).length:Int)).toNat,by omega,by rw [List.length_map] at m0 m1 ⊢;omega⟩
    obtain ⟨j,ej,hj⟩:=hix (xs:=shs) rfl
    have hat1:atI (shs.map prD) (at_ % ((shs.map prD).length:Int))=some (prD shs[j]):=qbv (qaI hj) ej
    have hm:=List.getElem_mem hj
    generalize shs[j]=s at hat1 hm
    have ixn:∀ {xs:List (Int × Int)},xs.length=shs.length→ixN (xs.map prD).length (at_ % ((xs.map prD).length:Int))=some j:=fun {xs} e=>by
      have e2:(xs.map prD).length=(shs.map prD).length:=by rw [List.length_map,List.length_map,e]
      rw [e2,ej]
      exact qiJ (by rw [List.length_map];exact hj)
    refine ⟨hpl rfl,_,hat1,rfl,hpl rfl,j,ixn rfl,_,qe2 prD shs j (s.1+step,s.2),?_⟩
    have hb2:=h2 s hm
    refine ⟨fun ρ=>∃ xs:List (Int × Int),xs.length=shs.length∧(∀ s∈xs,s.2.natAbs≤b+1000)∧ρ=[some (.v (lnD (.ct shs d))),some (.v (.int way)),some (.v (.int at_)),some (.v (.int step)),none,some (.own (xs.map prD)),some (.v (.int s.1)),some (.v (.int s.2))],⟨fun _=>?_,fun _=>⟨shs.set j (s.1+step,s.2),by rw [List.length_set],fun x hx=>?_,rfl⟩⟩,?_⟩
    · refine ⟨hpl (List.length_set ..),j,ixn (List.length_set ..),_,qe2 prD _ j (s.1,s.2+step),(shs.set j (s.1+step,s.2)).set j (s.1,s.2+step),by rw [List.length_set,List.length_set],fun x hx=>?_,rfl⟩
      rcases qe5 hx with h | h
      · rcases qe5 h with h | h
        · have:=h2 x h;omega
        · rw [h];show s.2.natAbs≤_;omega
      · rw [h];show (s.2+step).natAbs≤_;omega
    · rcases qe5 hx with h | h
      · have:=h2 x h;omega
      · rw [h];show s.2.natAbs≤_;omega
    rintro ρ ⟨xs,hxl,hxb,rfl⟩
    refine ⟨fun ρ=>ρ=[some (.v (lnD (.ct shs d))),some (.v (.int way)),some (.v (.int at_)),some (.v (.int step)),none,some (.own (xs.map prD)),some (.v (.int s.1)),some (.v (.int s.2))],⟨fun _=>⟨_,rfl,_,rfl,q (.ct shs (d+step)) ⟨Nat.le_refl _,fun x hx=>by have:=h2 x hx;omega,by omega⟩⟩,fun _=>rfl⟩,?_⟩
    rintro ρ rfl
    refine ⟨fun ρ=>∃ ys:List (Int × Int),ys.length≤shs.length∧(∀ s∈ys,s.2.natAbs≤b+1000)∧ρ=[some (.v (lnD (.ct shs d))),some (.v (.int way)),some (.v (.int at_)),some (.v (.int step)),none,some (.own (ys.map prD)),some (.v (.int s.1)),some (.v (.int s.2))],⟨fun _=>?_,fun _=>⟨xs,by omega,hxb,rfl⟩⟩,?_⟩
    · obtain ⟨i2,ei,hi2⟩:=hix hxl
      have c1:qb7 (xs.map prD) none (some (at_ % ((xs.map prD).length:Int)))=(xs.take i2).map prD:=by rw [qaM,ei,qbF]
      have c2:qb7 (xs.map prD) (some (at_ % ((xs.map prD).length:Int)+1)) none=(xs.drop (i2+1)).map prD:=by
        rw [qaM,ei,show ((i2:Int)+1)=((i2+1:Nat):Int) by push_cast;rfl,qcp]
      refine ⟨hpl hxl,_,c1,hpl hxl,_,c2,?_,_,qdo _ _ _,xs.take i2++xs.drop (i2+1),?_,fun x hx=>?_,rfl⟩
      · rw [List.length_map,List.length_map,List.length_take,List.length_drop];exact qaR (by omega)
      · rw [List.length_append,List.length_take,List.length_drop];omega
      · rcases List.mem_append.mp hx with h | h
        · exact hxb x (List.mem_of_mem_take h)
        · exact hxb x (List.mem_of_mem_drop h)
    rintro ρ ⟨ys,hyl,hyb,rfl⟩
    exact ⟨_,rfl,q (.ct ys d) ⟨hyl,hyb,by omega⟩⟩
theorem qfv {α:Type} (f:α→D) {xs:List α} {a:Int} (h:0≤a):qb7 (xs.map f) none (some a)=(xs.take a.toNat).map f:=by
  have e:a=((a.toNat:Nat):Int):=by omega
  rw [qaM]
  conv=>lhs;rw [e]
  rw [qbF]
theorem qeg {α:Type} (f:α→D) {xs:List α} {a:Int} (h:0≤a):qb7 (xs.map f) (some a) none=(xs.drop a.toNat).map f:=by
  have e:a=((a.toNat:Nat):Int):=by omega
  rw [qaM]
  conv=>lhs;rw [e]
  rw [qcp]
theorem ql1 {b:Nat} {l l':Ln} (h:LnB b l) (q:qku b l l'):LnOk2 (b+1000) l':=by
  cases l with
  | ct shs d=>cases l' with
    | ct shs' d'=>exact ⟨by have:=h.1;have:=q.1;omega,q.2.1,q.2.2⟩
    | _=>exact q.elim
  | ch es k=>cases l' with
    | ch es' k'=>exact ⟨by have:=h.1;have:=q.1;omega,q.2.1,q.2.2⟩
    | _=>exact q.elim
  | sh n=>cases l' with
    | sh _=>trivial
    | _=>exact q.elim
def qdn:SpD:=fun ds R=>∃ (c:Int) (ls:List Ln) (fr:Ln) (b:Nat),ds=[.int c,.lst (ls.map lnD),lnD fr]∧ls≠[]∧ls.length≤100∧(∀ l∈ls,LnB b l∧LnE l)∧LnB 1000 fr∧∀ ls':List Ln,ls'.length≤101→(∀ l∈ls',LnOk2 (b+1000) l)→R (.lst (ls'.map lnD))
theorem qeA {n:Nat} {f:Addr} {fd:FuncData} (F:Fun K "_law_spoilt" "_law_spoilt" qb6 f fd) (Q__law_draws:Cl P w K mg base n "_law_draws" ["_law_cell_here","_law_salt","_law_sizes"] qaT) (Q__law_bent:Cl P w K mg base n "_law_bent" ["_law_line","_law_way","_law_at","_law_step"] qep) (z_len:mg "len"=none):FnOk P w K mg base CX0 (n+1) f fd ["_law_cell_here","_law_paper","_law_fresh"] (lSp K qdn):=by
  refine F.okD sc__law_spoilt (fun ds R h=>?_) (fun cdv A outer s H E ds R hr h=>?_)
  · obtain ⟨c,ls,fr,b,rfl,_⟩:=h;rfl
  obtain ⟨c,ls,fr,b,rfl,hne,hll,hlb,hfr,q⟩:=h
  refine ⟨_,(qak (qaD (i:=3) sc__law_spoilt.nd rfl (Or.inl rfl) (qat Q__law_draws hr rfl (qab (dv 0) (qab qae (qab (PF.d (qaQ (qab qae (qab (qaF qbP rfl z_len PySem.boot_len (qam (dvq 1) qas qaa) qaa qag) (qab qae (qab qae (qab qae qaj qad) qad) qad) qax) qad))) qaj qd8) qad) qaa) qaa (qaf qad (qaf qd8 qag))))
      (qak (qaD (i:=4) sc__law_spoilt.nd rfl (Or.inl rfl) (qaG (dvq 3) (PD.q qae) (fun _ _=>rfl)))
      (qa3 (qbO (qaU (qcD hr.units) (PD.q (qaG (dvq 3) (PD.q qae) (fun _ _=>rfl))) (PD.q qae) (qao _)) (qau (qaH (qaw qay (PD.q (qcZ (dvq 1) qa9 (qaO (dvq 4)))) (PD.q (qcZ (dvq 1) (qaO (PD.q (qaw qay (dvq 4) (PD.q qae)))) qa9))))) qa0)
      (qa3 (qbO (qaU (qcD hr.units) (PD.q (qaG (dvq 3) (PD.q qae) (fun _ _=>rfl))) (PD.q qae) (qao _)) (qau (qaH (qaw qay (PD.q (qaw qay (PD.q (qcZ (dvq 1) qa9 (qaO (dvq 4)))) (PD.q (PF.d (qaQ (qab (qaG (dvq 1) (dvq 4) (fun _ _=>rfl)) qaj qac)))))) (PD.q (qcZ (dvq 1) (qaO (dvq 4)) qa9))))) qa0)
      (qa3 (qbO (qaU (qcD hr.units) (PD.q (qaG (dvq 3) (PD.q qae) (fun _ _=>rfl))) (PD.q qae) (qao _)) (qak (qaD (i:=5) sc__law_spoilt.nd rfl (Or.inl rfl) (qcZ (dvq 1) (qaO (PD.q (qaw qay (dvq 4) (PD.q qae)))) qa9))
      (qau (qaH (qaw qay (PD.q (qaw qay (PD.q (qaw qay (PD.q (qcZ (dvq 1) qa9 (qaO (dvq 4)))) (PD.q (qcZ (dvq 5) qa9 (qaO (PD.q qae)))))) (PD.q (PF.d (qaQ (qab (qaG (dvq 1) (dvq 4) (fun _ _=>rfl)) qaj qac)))))) (PD.q (qcZ (dvq 5) (qaO (PD.q qae)) qa9)))))) qa0)
      (qa3 (qbO (qaU (qcD hr.units) (PD.q (qaG (dvq 3) (PD.q qae) (fun _ _=>rfl))) (PD.q qae) (qao _)) (qau (qaH (qaw qay (PD.q (qaw qay (PD.q (qcZ (dvq 1) qa9 (qaO (dvq 4)))) (PD.q (PF.d (qaQ (qab (dv 2) qaj qaa)))))) (PD.q (qcZ (dvq 1) (qaO (dvq 4)) qa9))))) qa0)
      (qa3 (qbO (qaU qkJ (PD.q (qaG (dvq 3) (PD.q qae) (fun _ _=>rfl))) (PD.q qae) (qao _)) (qak (qaD (i:=6) sc__law_spoilt.nd rfl (Or.inl rfl) (qaG (PD.q (PF.d (qaQ (qab (qdh (PD.q qae)) (qab qae (qab (qaw qbN (PD.q (qdh (PD.q qae))) (dvq 4)) (qab qae (qab (qdh (PD.q qae)) (qab qae qaj qad) qbc) qad) qai) qad) qbc)))) (PD.q (qaG (dvq 3) (PD.q qae) (fun _ _=>rfl))) (fun _ _=>rfl)))
      (qak (qaD (i:=7) sc__law_spoilt.nd rfl (Or.inl rfl) (qat Q__law_bent hr rfl (qab (qaG (dvq 1) (dvq 4) (fun _ _=>rfl)) (qab (qaG (dvq 3) (PD.q qae) (fun _ _=>rfl)) (qab (qaG (dvq 3) (PD.q qae) (fun _ _=>rfl)) (qab (dv 6) qaj qaa) qac) qac) qac) qac (qaf qac (qaf qac (qaf qaa qag)))))
      (qau (qaH (qaw qay (PD.q (qaw qay (PD.q (qcZ (dvq 1) qa9 (qaO (dvq 4)))) (PD.q (PF.d (qaQ (qab (dv 7) qaj qaa)))))) (PD.q (qcZ (dvq 1) (qaO (PD.q (qaw qay (dvq 4) (PD.q qae)))) qa9))))))) qa0)
      (qau (qaH (dv 1)))))))))),?_⟩
  have hpos:0<ls.length:=List.length_pos_iff.mpr hne
  have hlI:(((ls.map lnD).length:Nat):Int)=(ls.length:Int):=by rw [List.length_map]
  refine ⟨c,10,[8,(((ls.map lnD).length:Nat):Int),4,6,6],rfl,by simp,by decide,by decide,fun z hz=>?_,fun es hD=>?_⟩
  · have h9:(1000:Int)<2 ^ 9000:=by decide +kernel
    simp only [List.mem_cons,List.not_mem_nil,or_false] at hz
    rcases hz with rfl | rfl | rfl | rfl | rfl <;> omega
  obtain ⟨x0,x1,x2,x3,x4,rfl,d0,d1,d2,d3,d4⟩:=qmu hD
  have d1':0≤x1∧x1<ls.length:=by obtain ⟨u,v⟩:=d1;omega
  have hx:x1.toNat<ls.length:=by omega
  have hat:atI (ls.map lnD) x1=some (lnD ls[x1.toNat]):=qbv (qaI hx) (by omega)
  have hm:=List.getElem_mem hx
  have hB:=hlb _ hm
  generalize ls[x1.toNat]=l0 at hat hm hB
  have cT:qb7 (ls.map lnD) none (some x1)=(ls.take x1.toNat).map lnD:=qfv lnD d1'.1
  have cD:qb7 (ls.map lnD) (some x1) none=(ls.drop x1.toNat).map lnD:=qeg lnD d1'.1
  have cD1:qb7 (ls.map lnD) (some (x1+1)) none=(ls.drop (x1+1).toNat).map lnD:=qeg lnD (by omega)
  have okl:∀ l∈ls,LnOk2 (b+1000) l:=fun l hl=>(hlb l hl).1.ok2 (by omega)
  have tl:(ls.take x1.toNat).length≤100:=by rw [List.length_take];omega
  have dl:(ls.drop x1.toNat).length≤100:=by rw [List.length_drop];omega
  have dl1:(ls.drop (x1+1).toNat).length≤100:=by rw [List.length_drop];omega
  have td:(List.take (Int.toNat 1) (ls.drop (x1+1).toNat)).length≤100:=by rw [List.length_take];omega
  have dd:(List.drop (Int.toNat 1) (ls.drop (x1+1).toNat)).length≤100:=by rw [List.length_drop];omega
  have sm3:∀ {a b:Nat},a≤202→b≤202→a+b≤sizeLine:=fun h1 h2=>qaR (by omega)
  refine ⟨_,rfl,fun ρ=>ρ=[some (.v (.int c)),some (.v (.lst (ls.map lnD))),some (.v (lnD fr)),some (.v (.lst ([x0,x1,x2,x3,x4].map D.int))),some (.v (.int x1)),none,none,none],⟨_,rfl,fun _=>⟨_,cT,_,cD1,?_,_,qdo _ _ _,?_⟩,fun _=>rfl⟩,?_⟩
  · rw [List.length_map,List.length_map];exact sm3 (by omega) (by omega)
  · refine q (ls.take x1.toNat++ls.drop (x1+1).toNat) (by rw [List.length_append,List.length_take,List.length_drop];omega) fun l hl=>?_
    rcases List.mem_append.mp hl with h | h
    · exact okl l (List.mem_of_mem_take h)
    · exact okl l (List.mem_of_mem_drop h)
  rintro ρ rfl
  refine ⟨fun ρ=>ρ=[some (.v (.int c)),some (.v (.lst (ls.map lnD))),some (.v (lnD fr)),some (.v (.lst ([x0,x1,x2,x3,x4].map D.int))),some (.v (.int x1)),none,none,none],⟨_,rfl,fun _=>⟨_,cT,_,hat,?_,_,qbR _ _ _,_,cD,?_,_,qdo _ _ _,?_⟩,fun _=>rfl⟩,?_⟩
  · show (List.map lnD (ls.take x1.toNat)).length+1≤_
    rw [List.length_map];exact sm3 (by omega) (by omega)
  · rw [List.length_map,List.length_map,List.length_append];exact sm3 (by simp;omega) (by omega)
  · refine q (ls.take x1.toNat++[l0]++ls.drop x1.toNat) (by rw [List.length_append,List.length_append,List.length_take,List.length_drop];simp;omega) fun l hl=>?_
    rcases List.mem_append.mp hl with h | h
    · rcases List.mem_append.mp h with h | h
      · exact okl l (List.mem_of_mem_take h)
      · rw [List.mem_singleton.mp h];exact okl l0 hm
    · exact okl l (List.mem_of_mem_drop h)
  rintro ρ rfl
  refine ⟨fun ρ=>ρ=[some (.v (.int c)),some (.v (.lst (ls.map lnD))),some (.v (lnD fr)),some (.v (.lst ([x0,x1,x2,x3,x4].map D.int))),some (.v (.int x1)),none,none,none],⟨_,rfl,fun _=>⟨_,cD1,_,cT,_,qfv lnD (a:=1) (by decide),?_,_,qdo _ _ _,_,hat,?_,_,qbR _ _ _,_,qeg lnD (a:=1) (by decide),?_,_,qdo _ _ _,?_⟩,fun _=>rfl⟩,?_⟩
  · rw [List.length_map,List.length_map];exact sm3 (by omega) (by omega)
  · show (List.map lnD _).length+1≤_
    rw [List.length_map,List.length_append];exact sm3 (by omega) (by omega)
  · rw [List.length_map,List.length_map,List.length_append,List.length_append];exact sm3 (by simp only [List.length_cons,List.length_nil];omega) (by omega)
  · refine q _ ?_ fun l hl=>?_
    · rw [List.length_append,List.length_append,List.length_append,List.length_take (l:=List.drop _ _),List.length_drop (l:=List.drop _ _),List.length_drop,List.length_take];simp;omega
    · rcases List.mem_append.mp hl with h | h
      · rcases List.mem_append.mp h with h | h
        · rcases List.mem_append.mp h with h | h
          · exact okl l (List.mem_of_mem_take h)
          · exact okl l (List.mem_of_mem_drop (List.mem_of_mem_take h))
        · rw [List.mem_singleton.mp h];exact okl l0 hm
      · exact okl l (List.mem_of_mem_drop (List.mem_of_mem_drop h))
  rintro ρ rfl
  refine ⟨fun ρ=>ρ=[some (.v (.int c)),some (.v (.lst (ls.map lnD))),some (.v (lnD fr)),some (.v (.lst ([x0,x1,x2,x3,x4].map D.int))),some (.v (.int x1)),none,none,none],⟨_,rfl,fun _=>⟨_,cT,?_,_,qbR _ _ _,_,cD,?_,_,qdo _ _ _,?_⟩,fun _=>rfl⟩,?_⟩
  · show (List.map lnD (ls.take x1.toNat)).length+1≤_
    rw [List.length_map];exact sm3 (by omega) (by omega)
  · rw [List.length_map,List.length_map,List.length_append];exact sm3 (by simp;omega) (by omega)
  · refine q (ls.take x1.toNat++[fr]++ls.drop x1.toNat) (by rw [List.length_append,List.length_append,List.length_take,List.length_drop];simp;omega) fun l hl=>?_
    rcases List.mem_append.mp hl with h | h
    · rcases List.mem_append.mp h with h | h
      · exact okl l (List.mem_of_mem_take h)
      · rw [List.mem_singleton.mp h];exact hfr.ok2 (by omega)
    · exact okl l (List.mem_of_mem_drop h)
  rintro ρ rfl
  refine ⟨fun ρ=>ρ=[some (.v (.int c)),some (.v (.lst (ls.map lnD))),some (.v (lnD fr)),some (.v (.lst ([x0,x1,x2,x3,x4].map D.int))),some (.v (.int x1)),none,none,none],⟨_,rfl,fun _=>?_,fun _=>rfl⟩,?_⟩
  · have hk:x4=0∨x4=1∨x4=2∨x4=3∨x4=4∨x4=5:=by obtain ⟨u,v⟩:=d4;omega
    have hst:∃ st:Int,atI [D.int (-1),.int 1,.int (-1 - x1),.int 2,.int (-2),.int 1] x4=some (.int st)∧st.natAbs≤1000:=by
      rcases hk with rfl | rfl | rfl | rfl | rfl | rfl
      · exact ⟨-1,rfl,by decide⟩
      · exact ⟨1,rfl,by decide⟩
      · exact ⟨-1 - x1,rfl,by omega⟩
      · exact ⟨2,rfl,by decide⟩
      · exact ⟨-2,rfl,by decide⟩
      · exact ⟨1,rfl,by decide⟩
    obtain ⟨st,hs1,hs2⟩:=hst
    refine ⟨_,rfl,_,hs1,_,hat,_,rfl,_,rfl,l0,x2,x3,st,b,rfl,d3.1,hs2,hB.1,hB.2,fun l' hl'=>?_⟩
    have hb':=ql1 hB.1 hl'
    refine ⟨_,cT,?_,_,qbR _ _ _,_,cD1,?_,_,qdo _ _ _,?_⟩
    · show (List.map lnD (ls.take x1.toNat)).length+1≤_
      rw [List.length_map];exact sm3 (by omega) (by omega)
    · rw [List.length_map,List.length_map,List.length_append];exact sm3 (by simp;omega) (by omega)
    · refine q (ls.take x1.toNat++[l']++ls.drop (x1+1).toNat) (by rw [List.length_append,List.length_append,List.length_take,List.length_drop];simp;omega) fun l hl=>?_
      rcases List.mem_append.mp hl with h | h
      · rcases List.mem_append.mp h with h | h
        · exact okl l (List.mem_of_mem_take h)
        · rw [List.mem_singleton.mp h];exact hb'
      · exact okl l (List.mem_of_mem_drop h)
  rintro ρ rfl
  exact q ls (by omega) okl
abbrev qeU (x:Int):Prop:=x.natAbs<2 ^ 60000
theorem qky {a b:Int} (ha:qeU a) (hb:qeU b):IntMulOk a b:=qdr (m:=60000) (n:=60000) (by decide) (by decide) ha hb (by decide)
theorem toB {R:D→Prop} {a b:Bool} (q:R (.bl a)) (e:b=a):R (.bl b):=e ▸ q
theorem qdY {x:Int} {m:Nat} (h:x.natAbs≤2 ^ m) (hm:m<60000):qeU x:=Nat.lt_of_le_of_lt h (Nat.pow_lt_pow_right (by decide) hm)
theorem qbk {α:Type} {xs:List α} {i:Nat} {d:α} (h:i<xs.length):xs.getD i d∈xs:=by
  rw [List.getD_eq_getElem?_getD,qaI h]
  exact List.getElem_mem h
theorem qbZ {α:Type} {xs:List α} {i:Nat} {d:α} (h:i<xs.length):xs[i]?=some (xs.getD i d):=by
  rw [List.getD_eq_getElem?_getD,qaI h]
  rfl
abbrev S70 (xs:List Int):Prop:=∀ x∈xs,x.natAbs≤2 ^ 70
def qg9:SpD:=fun ds R=>∃ (xs ys:List Int),ds=[.tup (xs.map D.int),.tup (ys.map D.int)]∧xs.length≤1000∧(∀ x∈xs,qeU x)∧(∀ y∈ys,qeU y)∧R (.int (dot xs ys))
theorem qlk {n:Nat} {f:Addr} {fd:FuncData} (F:Fun K "left" "left" qfy f fd) (z_sum:mg "sum"=none) (z_zip:mg "zip"=none):FnOk P w K mg base CX0 (n+1) f fd ["entries","spot"] (lSp K qg9):=by
  refine F.okD qk6 (fun ds R h=>?_) (fun cdv A outer s H E ds R hr h=>?_)
  · obtain ⟨xs,ys,rfl,_⟩:=h;rfl
  obtain ⟨xs,ys,rfl,hl,hx,hy,q⟩:=h
  refine ⟨_,(qau (qaH (qaF (qm6 rfl) rfl z_sum PyProof.Rows.boot_sum (qam (PD.q (PF.d (qbp (k:=2) (N':=["entry","number"]) (cap:=[none,none]) rfl (.ok (show qaY ["entries","spot"] (qah qfy) _ ["entry","number"] [none,none]=true by decide +kernel)) (by decide +kernel) (qg2 (n:=2) (qc0 (qa7 (by decide)) (qc0 (qa7 (by decide)) qhm))) (qeG rfl z_zip (qab (dv 0) (qab (dv 1) qaj qaa) qaa)) (fun _ _ _ _ _=>(qcs (n:=2) rfl (qaB (qav (i:=0) (show List.Nodup (["entry","number"]:List Str) by decide +kernel) rfl (Or.inl rfl)) (qaB (qav (i:=1) (show List.Nodup (["entry","number"]:List Str) by decide +kernel) rfl (Or.inl rfl)) qbw)))) (fun _ _ _ _ _=>(qaw qaN (dvq 0) (dvq 1)))))) qas qal) qal qag))),?_⟩
  refine ⟨_,_,rfl,rfl,?_⟩
  refine qdt (fun x y=>D.int (x*y)) (qap hl) (fun x hx' y hy'=>⟨rfl,qky (hx x hx') (hy y hy'),rfl⟩) ?_
  exact ⟨List.zipWith (fun x y=>x*y) xs ys,by rw [List.map_zipWith];rfl,q⟩
def qcL:SpD:=fun ds R=>∃ (xs ys:List Int),ds=[.tup (xs.map D.int),.tup (ys.map D.int)]∧xs.length≤1000∧(∀ x∈xs,qeU x)∧(∀ y∈ys,qeU y)∧R (.int (dot xs ys))
theorem qfT {n:Nat} {f:Addr} {fd:FuncData} (F:Fun K "_law_left" "_law_left" qcb f fd) (z_sum:mg "sum"=none) (z_zip:mg "zip"=none):FnOk P w K mg base CX0 (n+1) f fd ["_law_entries","_law_spot"] (lSp K qcL):=by
  refine F.okD qfL (fun ds R h=>?_) (fun cdv A outer s H E ds R hr h=>?_)
  · obtain ⟨xs,ys,rfl,_⟩:=h;rfl
  obtain ⟨xs,ys,rfl,hl,hx,hy,q⟩:=h
  refine ⟨_,(qau (qaH (qaF (qm6 rfl) rfl z_sum PyProof.Rows.boot_sum (qam (PD.q (PF.d (qbp (k:=2) (N':=["_law_one","_law_other"]) (cap:=[none,none]) rfl (.ok (show qaY ["_law_entries","_law_spot"] (qah qcb) _ ["_law_one","_law_other"] [none,none]=true by decide +kernel)) (by decide +kernel) (qg2 (n:=2) (qc0 (qa7 (by decide)) (qc0 (qa7 (by decide)) qhm))) (qeG rfl z_zip (qab (dv 0) (qab (dv 1) qaj qaa) qaa)) (fun _ _ _ _ _=>(qcs (n:=2) rfl (qaB (qav (i:=0) (show List.Nodup (["_law_one","_law_other"]:List Str) by decide +kernel) rfl (Or.inl rfl)) (qaB (qav (i:=1) (show List.Nodup (["_law_one","_law_other"]:List Str) by decide +kernel) rfl (Or.inl rfl)) qbw)))) (fun _ _ _ _ _=>(qaw qaN (dvq 0) (dvq 1)))))) qas qal) qal qag))),?_⟩
  refine ⟨_,_,rfl,rfl,?_⟩
  refine qdt (fun x y=>D.int (x*y)) (qap hl) (fun x hx' y hy'=>⟨rfl,qky (hx x hx') (hy y hy'),rfl⟩) ?_
  exact ⟨List.zipWith (fun x y=>x*y) xs ys,by rw [List.map_zipWith];rfl,q⟩
def qiB:SpD:=fun ds R=>∃ (r:Row) (sp:List Int),ds=[qa1 r,.tup (sp.map D.int)]∧r.1.length≤1000∧(∀ x∈r.1,qeU x)∧(∀ y∈sp,qeU y)∧R (.bl (decide (r.2≤dot r.1 sp)))
theorem qjL {n:Nat} {f:Addr} {fd:FuncData} (F:Fun K "meets" "meets" qeW f fd) (Q_left:Cl P w K mg base n "left" ["entries","spot"] qg9):FnOk P w K mg base CX0 (n+1) f fd ["row","spot"] (lSp K qiB):=by
  refine F.okD qj7 (fun ds R h=>?_) (fun cdv A outer s H E ds R hr h=>?_)
  · obtain ⟨r,sp,rfl,_⟩:=h;rfl
  obtain ⟨r,sp,rfl,hl,hx,hy,q⟩:=h
  refine ⟨_,(qau (qaH (qfZ qm9 (PD.q (qat Q_left hr rfl (qab (qaG (dvq 0) (PD.q qae) (fun _ _=>rfl)) (qab (dv 1) qaj qaa) qac) qac (qaf qaa qag))) (PD.q (qaG (dvq 0) (PD.q qae) (fun _ _=>rfl))) (qao _)))),?_⟩
  exact ⟨_,rfl,r.1,sp,rfl,hl,hx,hy,_,rfl,q⟩
def unL (n k:Nat):List Int:=(List.range n).map fun o=>if o=k then 1 else 0
def qkC:SpD:=fun ds R=>∃ n k:Nat,ds=[.int (n:Int),.int (k:Int)]∧n≤1000∧R (.tup ((unL n k).map D.int))
theorem qla {n:Nat} {f:Addr} {fd:FuncData} (F:Fun K "unit" "unit" qfF f fd) (z_tuple:mg "tuple"=none) (z_range:mg "range"=none):FnOk P w K mg base CX0 (n+1) f fd ["n","place"] (lSp K qkC):=by
  refine F.okD qk4 (fun ds R h=>?_) (fun cdv A outer s H E ds R hr h=>?_)
  · obtain ⟨m,k,rfl,_⟩:=h;rfl
  obtain ⟨m,k,rfl,hm,q⟩:=h
  refine ⟨_,(qau (qaH (qaC qaK rfl z_tuple PyProof.Rows.boot_tuple (qam (PD.q (PF.d (qbp (k:=1) (N':=["other","place"]) (cap:=[none,some 1]) rfl (.ok (show qaY ["n","place"] (qah qfF) _ ["other","place"] [none,some 1]=true by decide +kernel)) (by decide +kernel) (qa7 (by decide)) (qbs rfl z_range (qab (dv 0) qaj qaa)) (fun _ _ _ _ _=>(qav (i:=0) (show List.Nodup (["other","place"]:List Str) by decide +kernel) rfl (Or.inl rfl))) (fun _ _ _ _ _=>(qoL (qaU (qcD hr.units) (dvq 0) (dvq 1) (qao _)) qae qae))))) qas qal) qal qag))),?_⟩
  refine ⟨⟨by omega,by omega⟩,?_⟩
  refine qbA (fun o=>D.int (if o=k then 1 else 0)) (qap (by omega)) (fun i hi=>?_) ?_
  · by_cases c:i=k
    · subst c
      refine ⟨fun _=>by rw [if_pos rfl];rfl,fun h=>?_⟩
      have:((0+(i:Int)) == (i:Int))=false:=h
      rw [Int.zero_add] at this
      simp at this
    · refine ⟨fun h=>?_,fun _=>by rw [if_neg c];rfl⟩
      have:((0+(i:Int)) == (k:Int))=true:=h
      have:=eq_of_beq this
      omega
  have e:(List.range ((m:Int)).toNat).map (fun o=>D.int (if o=k then 1 else 0))=(unL m k).map D.int:=by
    unfold unL
    rw [List.map_map,Int.toNat_natCast]
    rfl
  rw [e]
  exact q
def trR (r:Row):Row:=(r.1.map (- ·),-r.2)
def qgU:SpD:=fun ds R=>∃ r:Row,ds=[qa1 r]∧r.1.length≤1000∧R (qa1 (trR r))
theorem qh4 {n:Nat} {f:Addr} {fd:FuncData} (F:Fun K "turned" "turned" qdA f fd) (z_tuple:mg "tuple"=none):FnOk P w K mg base CX0 (n+1) f fd ["row"] (lSp K qgU):=by
  refine F.okD qiN (fun ds R h=>?_) (fun cdv A outer s H E ds R hr h=>?_)
  · obtain ⟨r,rfl,_⟩:=h;rfl
  obtain ⟨r,rfl,hl,q⟩:=h
  refine ⟨_,(qau (qaH (qaJ (qab (qaC qaK rfl z_tuple PyProof.Rows.boot_tuple (qam (PD.q (PF.d (qbp (k:=1) (N':=["entry"]) (cap:=[none]) rfl (.ok (show qaY ["row"] (qah qdA) _ ["entry"] [none]=true by decide +kernel)) (by decide +kernel) (qa7 (by decide)) (qc8 (qaG (dvq 0) (PD.q qae) (fun _ _=>rfl))) (fun _ _ _ _ _=>(qav (i:=0) (show List.Nodup (["entry"]:List Str) by decide +kernel) rfl (Or.inl rfl))) (fun _ _ _ _ _=>(qdh (dvq 0)))))) qas qal) qal qag) (qab (qdh (PD.q (qaG (dvq 0) (PD.q qae) (fun _ _=>rfl)))) qaj qbc) qax)))),?_⟩
  refine ⟨_,rfl,?_⟩
  refine qbX (f:=D.int) (fun x=>-x) (qap hl) (fun x _=>rfl) ?_
  exact ⟨_,rfl,q⟩
abbrev Bd:=Int × Option Int
def oI:Option Int→D
  | none=>.non
  | some m=>.int m
def bdD (b:Bd):D:=.tup [.int b.1,oI b.2]
def bAt (bs:List Bd) (k:Nat):Bd:=bs.getD k (0,none)
def leR (bs:List Bd) (k:Nat):Row:=(unL bs.length k,(bAt bs k).1)
def moR (bs:List Bd) (k:Nat):Row:=trR (unL bs.length k,((bAt bs k).2.getD 0))
def qez (bs:List Bd) (k:Nat):Bool:=(bAt bs k).2.isSome
def qbb (bs:List Bd) (rs:List Row):List Row:=(List.range bs.length).map (leR bs)++((List.range bs.length).filter (qez bs)).map (moR bs)++rs
def qc9 (bs:List Bd) (rs:List Row) (gs:List Int):D:=.tup [.tup (bs.map bdD),.tup (rs.map qa1),.tup (gs.map D.int)]
structure PlOk (n:Nat) (bs:List Bd) (rs:List Row) (gs:List Int):Prop where
  n8:n≤8
  bl:bs.length=n
  bb:∀ b∈bs,b.1.natAbs≤2 ^ 60∧∀ m,b.2=some m→m.natAbs≤2 ^ 60
  rl:rs.length≤30
  rr:∀ r∈rs,RowN n 70 r
  gl:gs.length=n
  gb:S70 gs
def qkU (c:Nat→Bool) (h:Nat→D) (i:Nat):Option D→Prop
  | some y=>y=h i∧c i=true
  | none=>c i=false
theorem qeT {c:Nat→Bool} {h:Nat→D} {n:Nat} {ys:List (Option D)} (hyl:ys.length=n) (hy:∀ i y,ys[i]?=some y→qkU c h i y):ys.filterMap id=((List.range n).filter c).map h:=by
  have e:ys=(List.range n).map fun i=>if c i then some (h i) else none:=by
    refine List.ext_getElem? fun i=>?_
    rw [List.getElem?_map]
    by_cases hi:i<n
    · rw [List.getElem?_range hi,qaI (show i<ys.length by omega)]
      have q:=hy i _ (qaI (show i<ys.length by omega))
      cases e:ys[i]'(by omega) with
      | none =>
        rw [e] at q
        have q':c i=false:=q
        show some none=some (if c i=true then _ else _)
        rw [q']
        rfl
      | some y =>
        rw [e] at q
        have q':y=h i∧c i=true:=q
        show some (some y)=some (if c i=true then _ else _)
        rw [q'.2,q'.1]
        rfl
    · rw [List.getElem?_eq_none (by omega),List.getElem?_eq_none (by rw [List.length_range];omega)]
      rfl
  have key:∀ l:List Nat,(l.map fun i=>if c i then some (h i) else none).filterMap id=(l.filter c).map h:=by
    intro l
    induction l with
    | nil=>rfl
    | cons x l ih =>
      rw [List.map_cons]
      cases e:c x with
      | true=>rw [if_pos rfl,List.filterMap_cons_some (f:=id) (a:=some (h x)) (b:=h x) rfl,List.filter_cons_of_pos e,List.map_cons,ih]
      | false=>rw [if_neg (by decide),List.filterMap_cons_none (f:=id) (a:=none) rfl,List.filter_cons_of_neg (by rw [e];decide),ih]
  rw [e,key]
theorem qfO {bs:List Bd} {k:Nat} {i:Int} (h:k<bs.length) (e:i=(k:Int)):atI (bs.map bdD) i=some (bdD (bAt bs k)):=qbv (i:=k) (qbZ h) e
theorem qel (n k:Nat):(unL n k).length=n:=by unfold unL;rw [List.length_map,List.length_range]
def qg0:SpD:=fun ds R=>∃ (bs:List Bd) (rs:List Row) (g:D),ds=[.tup [.tup (bs.map bdD),.tup (rs.map qa1),g]]∧bs.length≤8∧rs.length≤30∧R (.tup ((qbb bs rs).map qa1))
theorem qjn {n:Nat} {f:Addr} {fd:FuncData} (F:Fun K "givens" "givens" qc3 f fd) (Q_turned:Cl P w K mg base n "turned" ["row"] qgU) (Q_unit:Cl P w K mg base n "unit" ["n","place"] qkC) (z_len:mg "len"=none) (z_range:mg "range"=none) (z_tuple:mg "tuple"=none):FnOk P w K mg base CX0 (n+1) f fd ["plan"] (lSp K qg0):=by
  refine F.okD sc_givens (fun ds R h=>?_) (fun cdv A outer s H E ds R hr h=>?_)
  · obtain ⟨bs,rs,g,rfl,_⟩:=h;rfl
  obtain ⟨bs,rs,g,rfl,hb,hrl,q⟩:=h
  refine ⟨_,(qak (qaD (i:=1) sc_givens.nd rfl (Or.inr rfl) (qaG (dvq 0) (PD.q qae) (fun _ _=>rfl)))
      (qak (qaD (i:=2) sc_givens.nd rfl (Or.inr rfl) (qaF qbP rfl z_len PySem.boot_len (qam (dvq 1) qas qaa) qaa qag))
      (qak (qcN (i:=3) (k:=1) (N':=["place","n","bounds"]) (cap:=[none,some 2,some 1]) rfl sc_givens.nd rfl (Or.inl rfl) (.ok (show qaY ["plan","bounds","n","least_rows","most_rows"] (qah qc3) _ ["place","n","bounds"] [none,some 2,some 1]=true by decide +kernel)) (by decide +kernel) (qa7 (by decide)) (qbs rfl z_range (qab (dv 2) qaj qaa)) (fun _ _ _ _ _=>(qav (i:=0) (show List.Nodup (["place","n","bounds"]:List Str) by decide +kernel) rfl (Or.inl rfl))) (fun _ _ _ _ _=>(qaJ (qab (qat Q_unit hr rfl (qab (dv 1) (qab (dv 0) qaj qaa) qaa) qaa (qaf qaa qag)) (qab (qaG (PD.q (qaG (dvq 2) (dvq 0) (fun _ _=>rfl))) (PD.q qae) (fun _ _=>rfl)) qaj qac) qax))))
      (qak (qmz (i:=4) (k:=1) (N':=["place","n","bounds"]) (cap:=[none,some 2,some 1]) rfl sc_givens.nd rfl (Or.inl rfl) (.ok (show qaY ["plan","bounds","n","least_rows","most_rows"] (qah qc3) _ ["place","n","bounds"] [none,some 2,some 1]=true by decide +kernel)) (by decide +kernel) (qa7 (by decide)) (qbs rfl z_range (qab (dv 2) qaj qaa)) (fun _ _ _ _ _=>(qav (i:=0) (show List.Nodup (["place","n","bounds"]:List Str) by decide +kernel) rfl (Or.inl rfl))) (fun _ _ _ _ _=>(qkl (qaU qi2 (PD.q (qaG (PD.q (qaG (dvq 2) (dvq 0) (fun _ _=>rfl))) (PD.q qae) (fun _ _=>rfl))) (PD.q qds) (qao _)))) (fun _ _ _ _ _=>(qat Q_turned hr rfl (qab (qaJ (qab (qat Q_unit hr rfl (qab (dv 1) (qab (dv 0) qaj qaa) qaa) qaa (qaf qaa qag)) (qab (qaG (PD.q (qaG (dvq 2) (dvq 0) (fun _ _=>rfl))) (PD.q qae) (fun _ _=>rfl)) qaj qac) qax)) qaj qar) qar qag)))
      (qau (qaH (qaw qay (PD.q (qaw qay (PD.q (qaC qaK rfl z_tuple PyProof.Rows.boot_tuple (qam (dvq 3) qas qaa) qaa qag)) (PD.q (qaC qaK rfl z_tuple PyProof.Rows.boot_tuple (qam (dvq 4) qas qaa) qaa qag)))) (PD.q (qaG (dvq 0) (PD.q qae) (fun _ _=>rfl)))))))))),?_⟩
  have hL:((bs.map bdD).length:Int)=(bs.length:Int):=by rw [List.length_map]
  have hT:(((bs.map bdD).length:Nat):Int).toNat=bs.length:=by omega
  refine ⟨_,rfl,⟨by omega,by omega⟩,?_⟩
  refine qbA (fun k=>qa1 (leR bs k)) (qap (by omega)) (fun k hk=>⟨bs.length,k,by rw [hL,Int.zero_add],by omega,_,qfO (by omega) (Int.zero_add _),_,rfl,rfl⟩) ?_
  refine ⟨⟨by omega,by omega⟩,by rw [qbm];exact qap (by omega),qkU (qez bs) (fun k=>qa1 (moR bs k)),fun k d hd=>?_,fun ys hyl hy=>?_⟩
  · obtain ⟨hk,rfl⟩:=qbK hd
    have hk':k<bs.length:=by omega
    refine ⟨_,qfO hk' (Int.zero_add _),_,rfl,?_⟩
    cases hm:(bAt bs k).2 with
    | none =>
      refine ⟨fun h=>(by cases h),fun _=>?_⟩
      show qez bs k=false
      unfold qez
      rw [hm]
      rfl
    | some m =>
      have e:moR bs k=trR (unL bs.length k,m):=by unfold moR;rw [hm];rfl
      refine ⟨fun _=>?_,fun h=>(by cases h)⟩
      refine ⟨bs.length,k,by rw [hL,Int.zero_add],by omega,_,qfO hk' (Int.zero_add _),_,(congrArg (fun z=>atI [D.int (bAt bs k).1,oI z] 1) hm).trans rfl,(unL bs.length k,m),rfl,by rw [qel];omega,?_⟩
      refine ⟨congrArg qa1 e.symm,?_⟩
      unfold qez
      rw [hm]
      rfl
  rw [qbm] at hyl
  rw [qeT hyl hy,hT]
  have e1:(List.range bs.length).map (fun k=>qa1 (leR bs k))=((List.range bs.length).map (leR bs)).map qa1:=by rw [List.map_map];rfl
  have e2:((List.range bs.length).filter (qez bs)).map (fun k=>qa1 (moR bs k))=(((List.range bs.length).filter (qez bs)).map (moR bs)).map qa1:=by rw [List.map_map];rfl
  have fl:((List.range bs.length).filter (qez bs)).length≤bs.length:=by
    have:=List.length_filter_le (qez bs) (List.range bs.length)
    rwa [List.length_range] at this
  rw [e1,e2]
  refine ⟨?_,_,qdo qa1 _ _,_,rfl,?_,_,qdo qa1 _ _,q⟩
  · rw [List.length_map,List.length_map,List.length_map,List.length_map,List.length_range];exact qaR (by omega)
  · rw [List.length_map,List.length_map,List.length_append,List.length_map,List.length_map,List.length_range];exact qaR (by omega)
def qhR:SpD:=fun ds R=>∃ (b r:D) (gs sp:List Int),ds=[.tup [b,r,.tup (gs.map D.int)],.tup (sp.map D.int)]∧gs.length≤1000∧(∀ x∈gs,qeU x)∧(∀ y∈sp,qeU y)∧R (.int (dot gs sp))
theorem qjx {n:Nat} {f:Addr} {fd:FuncData} (F:Fun K "worth" "worth" qfr f fd) (Q_left:Cl P w K mg base n "left" ["entries","spot"] qg9):FnOk P w K mg base CX0 (n+1) f fd ["plan","spot"] (lSp K qhR):=by
  refine F.okD qj9 (fun ds R h=>?_) (fun cdv A outer s H E ds R hr h=>?_)
  · obtain ⟨b,r,gs,sp,rfl,_⟩:=h;rfl
  obtain ⟨b,r,gs,sp,rfl,hl,hx,hy,q⟩:=h
  refine ⟨_,(qau (qaH (qat Q_left hr rfl (qab (qaG (dvq 0) (PD.q qae) (fun _ _=>rfl)) (qab (dv 1) qaj qaa) qac) qac (qaf qaa qag)))),?_⟩
  exact ⟨_,rfl,gs,sp,rfl,hl,hx,hy,q⟩
def qgQ:SpD:=fun ds R=>∃ (b r:D) (gs:List Int) (v:Int),ds=[.tup [b,r,.tup (gs.map D.int)],.int v]∧R (qa1 (gs,v+1))
theorem qhT {n:Nat} {f:Addr} {fd:FuncData} (F:Fun K "better" "better" qd5 f fd) :FnOk P w K mg base CX0 (n+1) f fd ["plan","w"] (lSp K qgQ):=by
  refine F.okD qiM (fun ds R h=>?_) (fun cdv A outer s H E ds R hr h=>?_)
  · obtain ⟨b,r,gs,v,rfl,_⟩:=h;rfl
  obtain ⟨b,r,gs,v,rfl,q⟩:=h
  refine ⟨_,(qau (qaH (qaJ (qab (qaG (dvq 0) (PD.q qae) (fun _ _=>rfl)) (qab (qaw qay (dvq 1) (PD.q qae)) qaj qai) qac)))),?_⟩
  exact ⟨_,rfl,q⟩
def qft (rs:List Row) (n:Nat) (sp:List Int):Bool:=decide (sp.length=n) && rs.all fun r=>decide (r.2≤dot r.1 sp)
def qjp (rs:List Row) (gs ray:List Int):Bool:=decide (ray.length=gs.length) && ((rs.all fun r=>decide (0≤dot r.1 ray)) && decide (0<dot gs ray))
abbrev RsS (rs:List Row):Prop:=rs.length≤100∧∀ r∈rs,r.1.length≤8∧∀ x∈r.1,qeU x
theorem qkH {a b:Nat} (h:(!((a:Int) == (b:Int)))=true):a≠b:=fun e=>by subst e;simp at h
theorem qkr {a b:Nat} (h:(!((a:Int) == (b:Int)))=false):a=b:=by
  have:((a:Int) == (b:Int))=true:=by simpa using h
  have:=eq_of_beq this
  omega
def qei:SpD:=fun ds R=>∃ (rs:List Row) (gs sp:List Int),ds=[.tup (rs.map qa1),.tup (gs.map D.int),.tup (sp.map D.int)]∧RsS rs∧(∀ x∈sp,qeU x)∧R (.bl (qft rs gs.length sp))
theorem qfV {n:Nat} {f:Addr} {fd:FuncData} (F:Fun K "is_answer" "is_answer" qch f fd) (Q_meets:Cl P w K mg base n "meets" ["row","spot"] qiB) (z_all:mg "all"=none) (z_len:mg "len"=none):FnOk P w K mg base CX0 (n+1) f fd ["rows","goal","spot"] (lSp K qei):=by
  refine F.okD qfH (fun ds R h=>?_) (fun cdv A outer s H E ds R hr h=>?_)
  · obtain ⟨rs,gs,sp,rfl,_⟩:=h;rfl
  obtain ⟨rs,gs,sp,rfl,hrs,hs,q⟩:=h
  refine ⟨_,(qa3 (qbO (qaU (qof hr.units) (PD.q (qaF qbP rfl z_len PySem.boot_len (qam (dvq 2) qas qaa) qaa qag)) (PD.q (qaF qbP rfl z_len PySem.boot_len (qam (dvq 1) qas qaa) qaa qag)) (qao _)) (qau (qaH qhH)) qa0)
      (qau (qaH (qaF (qlX rfl) rfl z_all PyProof.Rows.boot_all (qam (PD.q (PF.d (qbp (k:=1) (N':=["row","spot"]) (cap:=[none,some 2]) rfl (.ok (show qaY ["rows","goal","spot"] (qah qch) _ ["row","spot"] [none,some 2]=true by decide +kernel)) (by decide +kernel) (qa7 (by decide)) (qc8 (dv 0)) (fun _ _ _ _ _=>(qav (i:=0) (show List.Nodup (["row","spot"]:List Str) by decide +kernel) rfl (Or.inl rfl))) (fun _ _ _ _ _=>(qat Q_meets hr rfl (qab (dv 0) (qab (dv 1) qaj qaa) qaa) qaa (qaf qaa qag)))))) qas qal) qal qag)))),?_⟩
  refine ⟨fun ρ=>sp.length=gs.length∧ρ=[some (.v (.tup (rs.map qa1))),some (.v (.tup (gs.map D.int))),some (.v (.tup (sp.map D.int)))],⟨fun h=>toB q ?_,fun h=>⟨?_,rfl⟩⟩,?_⟩
  · have h':=qkH h
    rw [List.length_map,List.length_map] at h'
    unfold qft
    rw [decide_eq_false h']
    rfl
  · have h':=qkr h
    rw [List.length_map,List.length_map] at h'
    exact h'
  rintro ρ ⟨hl,rfl⟩
  refine qcj (f:=qa1) (fun r=>D.bl (decide (r.2≤dot r.1 sp))) (qap (by have:=hrs.1;omega)) (fun r hr'=>⟨r,sp,rfl,by have:=(hrs.2 r hr').1;omega,(hrs.2 r hr').2,hs,rfl⟩) ?_
  refine ⟨rs.map fun r=>decide (r.2≤dot r.1 sp),by rw [List.map_map];rfl,toB q ?_⟩
  unfold qft
  rw [decide_eq_true hl,Bool.true_and]
  exact (qjl rfl).symm
def qhf:SpD:=fun ds R=>∃ (rs:List Row) (gs ray:List Int),ds=[.tup (rs.map qa1),.tup (gs.map D.int),.tup (ray.map D.int)]∧RsS rs∧gs.length≤1000∧(∀ x∈gs,qeU x)∧(∀ x∈ray,qeU x)∧R (.bl (qjp rs gs ray))
theorem qib {n:Nat} {f:Addr} {fd:FuncData} (F:Fun K "is_ray" "is_ray" qdw f fd) (Q_left:Cl P w K mg base n "left" ["entries","spot"] qg9) (z_len:mg "len"=none) (z_all:mg "all"=none):FnOk P w K mg base CX0 (n+1) f fd ["rows","goal","ray"] (lSp K qhf):=by
  refine F.okD qiV (fun ds R h=>?_) (fun cdv A outer s H E ds R hr h=>?_)
  · obtain ⟨rs,gs,ray,rfl,_⟩:=h;rfl
  obtain ⟨rs,gs,ray,rfl,hrs,hgl,hg,hy,q⟩:=h
  refine ⟨_,(qa3 (qbO (qaU (qof hr.units) (PD.q (qaF qbP rfl z_len PySem.boot_len (qam (dvq 2) qas qaa) qaa qag)) (PD.q (qaF qbP rfl z_len PySem.boot_len (qam (dvq 1) qas qaa) qaa qag)) (qao _)) (qau (qaH qhH)) qa0)
      (qau (qaH (qnf (qaF (qlX rfl) rfl z_all PyProof.Rows.boot_all (qam (PD.q (PF.d (qbp (k:=1) (N':=["row","ray"]) (cap:=[none,some 2]) rfl (.ok (show qaY ["rows","goal","ray"] (qah qdw) _ ["row","ray"] [none,some 2]=true by decide +kernel)) (by decide +kernel) (qa7 (by decide)) (qc8 (dv 0)) (fun _ _ _ _ _=>(qav (i:=0) (show List.Nodup (["row","ray"]:List Str) by decide +kernel) rfl (Or.inl rfl))) (fun _ _ _ _ _=>(qfZ qm9 (PD.q (qat Q_left hr rfl (qab (qaG (dvq 0) (PD.q qae) (fun _ _=>rfl)) (qab (dv 1) qaj qaa) qac) qac (qaf qaa qag))) (PD.q qae) (qao _)))))) qas qal) qal qag) (qnl (qfZ qkJ (PD.q (qat Q_left hr rfl (qab (dv 1) (qab (dv 2) qaj qaa) qaa) qaa (qaf qaa qag))) (PD.q qae) (qao _))))))),?_⟩
  refine ⟨fun ρ=>ray.length=gs.length∧ρ=[some (.v (.tup (rs.map qa1))),some (.v (.tup (gs.map D.int))),some (.v (.tup (ray.map D.int)))],⟨fun h=>toB q ?_,fun h=>⟨?_,rfl⟩⟩,?_⟩
  · have h':=qkH h
    rw [List.length_map,List.length_map] at h'
    unfold qjp
    rw [decide_eq_false h']
    rfl
  · have h':=qkr h
    rw [List.length_map,List.length_map] at h'
    exact h'
  rintro ρ ⟨hl,rfl⟩
  have e1:qjp rs gs ray=((rs.all fun r=>decide (0≤dot r.1 ray)) && decide (0<dot gs ray)):=by unfold qjp;rw [decide_eq_true hl,Bool.true_and]
  refine qcj (f:=qa1) (fun r=>D.bl (decide (0≤dot r.1 ray))) (qap (by have:=hrs.1;omega)) (fun r hr'=>⟨_,rfl,r.1,ray,rfl,by have:=(hrs.2 r hr').1;omega,(hrs.2 r hr').2,hy,rfl⟩) ?_
  refine ⟨rs.map fun r=>decide (0≤dot r.1 ray),by rw [List.map_map];rfl,fun h=>⟨gs,ray,rfl,hgl,hg,hy,toB q ?_⟩,fun h=>toB q ?_⟩
  · rw [e1,qjl h,Bool.true_and]
  · rw [e1,qjl h,Bool.false_and]
theorem qgW {rs:List Row} {n:Nat} (h:∀ r∈rs,r.1.length=n) (h0:rs=[]→n=0):qbo rs=n:=by
  cases rs with
  | nil=>exact (h0 rfl).symm
  | cons r t=>exact h r List.mem_cons_self
theorem qkA {n k:Nat}:∀ x∈unL n k,x.natAbs≤1:=fun x hx=>by
  obtain ⟨o,_,rfl⟩:=List.mem_map.mp (show x∈List.map _ _ from hx)
  split <;> decide
theorem RowN.up {n b c:Nat} {r:Row} (h:RowN n b r) (hc:b≤c):RowN n c r:=⟨h.1,h.2.mono hc⟩
theorem qea {n:Nat} {bs:List Bd} {rs:List Row} {gs:List Int} (h:PlOk n bs rs gs):(∀ r∈qbb bs rs,RowN n 70 r)∧(qbb bs rs).length≤46∧(qbb bs rs=[]→n=0):=by
  have bl:=h.bl
  have n8:=h.n8
  have bm:∀ k,k<n→bAt bs k∈bs:=fun k hk=>qbk (by omega)
  have u1:∀ k x,x∈unL n k→x.natAbs≤2 ^ 70:=fun k x hx=>Nat.le_trans (qkA x hx) (by decide)
  refine ⟨fun r hr=>?_,?_,fun e=>?_⟩
  · unfold qbb at hr
    rcases List.mem_append.mp hr with hr | hr
    · rcases List.mem_append.mp hr with hr | hr
      · obtain ⟨k,hk,rfl⟩:=List.mem_map.mp hr
        have hk':=List.mem_range.mp hk
        unfold leR
        rw [bl] at hk' ⊢
        exact ⟨qel n k,u1 k,Nat.le_trans (h.bb _ (bm k hk')).1 (by decide)⟩
      · obtain ⟨k,hk,rfl⟩:=List.mem_map.mp hr
        obtain ⟨hk1,hk2⟩:=List.mem_filter.mp hk
        have hk':=List.mem_range.mp hk1
        unfold qez at hk2
        unfold moR trR
        rw [bl] at hk' ⊢
        cases hm:(bAt bs k).2 with
        | none=>rw [hm] at hk2;cases hk2
        | some m =>
          refine ⟨by rw [List.length_map];exact qel n k,fun x hx=>?_,?_⟩
          · obtain ⟨y,hy,rfl⟩:=List.mem_map.mp hx
            rw [Int.natAbs_neg]
            exact u1 k y hy
          · show (-((some m).getD 0)).natAbs≤_
            rw [Int.natAbs_neg]
            exact Nat.le_trans ((h.bb _ (bm k hk')).2 m hm) (by decide)
    · exact h.rr r hr
  · unfold qbb
    have:=List.length_filter_le (qez bs) (List.range bs.length)
    rw [List.length_range] at this
    rw [List.length_append,List.length_append,List.length_map,List.length_map,List.length_range]
    have:=h.rl
    omega
  · have:=congrArg List.length e
    unfold qbb at this
    rw [List.length_append,List.length_append,List.length_map,List.length_range] at this
    simp only [List.length_nil] at this
    omega
structure SpOk (sp:List Int):Prop where
  len:sp.length≤20
  b:S70 sp
structure LsOk (ls:List Ln):Prop where
  len:ls.length≤110
  b:∀ l∈ls,LnOk2 (2 ^ 36) l
theorem qns {n:Nat} {xs ys:List Int} (hn:xs.length≤20) (hx:S70 xs) (hy:S70 ys):(dot xs ys).natAbs≤2 ^ 146:=by
  have:=L2.dot_le hx hy
  have h1:xs.length*(2 ^ 70*2 ^ 70)≤20*(2 ^ 70*2 ^ 70):=Nat.mul_le_mul_right _ hn
  have h2:20*(2 ^ 70*2 ^ 70)≤2 ^ 146:=by decide
  omega
def btR (gs sp:List Int):Row:=(gs,dot gs sp+1)
theorem qmj {n:Nat} {bs:List Bd} {rs:List Row} {gs sp:List Int} (h:PlOk n bs rs gs) (hs:SpOk sp):(∀ r∈qbb bs rs++[btR gs sp],RowN n 150 r)∧(qbb bs rs++[btR gs sp]).length≤47:=by
  obtain ⟨a,b,_⟩:=qea h
  have gl:=h.gl
  have n8:=h.n8
  refine ⟨fun r hr=>?_,by rw [List.length_append];show _+1≤47;omega⟩
  rcases List.mem_append.mp hr with hr | hr
  · exact (a r hr).up (by decide)
  · rw [List.mem_singleton.mp hr]
    refine ⟨gl,fun x hx=>Nat.le_trans (h.gb x hx) (by decide),?_⟩
    have:=qns (n:=n) (by omega) h.gb hs.b
    show (dot gs sp+1).natAbs≤2 ^ 150
    have e:2 ^ 146+1≤2 ^ 150:=by decide
    omega
theorem qkk {br:Int} {ls:List Ln} {st:List Row} {n:Nat} (hl:LsOk ls) (hr:∀ r∈st,RowN n 150 r):qhx br st [] ls:=by
  have:=hl.len
  exact qlf ls st [] 150 (fun l hl'=>(hl.b l hl').ok (by decide)) (fun r h=>(hr r h).2) (fun s hs=>absurd hs List.not_mem_nil) (by omega)
def qhF (k:Int) (sp ray:List Int) (ls:List Ln):D:=if k=0 then .tup [.str "none",.tup (ls.map lnD)] else if k=1 then .tup [.str "endless",.tup (sp.map D.int),.tup (ray.map D.int)] else .tup [.str "best",.tup (sp.map D.int),.tup (ls.map lnD)]
def qka (k:Int) (n:Nat) (bs:List Bd) (rs:List Row) (gs sp ray:List Int) (ls:List Ln):Bool :=
  if k=0 then qbj (n:Int) (qbb bs rs) [] ls else if k=1 then qft (qbb bs rs) n sp && qjp (qbb bs rs) gs ray else qft (qbb bs rs) n sp && qbj (n:Int) (qbb bs rs++[btR gs sp]) [] ls
def qiO:SpD:=fun ds R=>∃ (k:Int) (n:Nat) (bs:List Bd) (rs:List Row) (gs sp ray:List Int) (ls:List Ln),ds=[qc9 bs rs gs,qhF k sp ray ls]∧PlOk n bs rs gs∧SpOk sp∧SpOk ray∧LsOk ls∧R (.bl (qka k n bs rs gs sp ray ls))
theorem qjv {n:Nat} {f:Addr} {fd:FuncData} (F:Fun K "holds" "holds" qfe f fd) (Q_givens:Cl P w K mg base n "givens" ["plan"] qg0) (Q_bars:Cl P w K mg base n "bars" ["rows","paper"] qio) (Q_is_answer:Cl P w K mg base n "is_answer" ["rows","goal","spot"] qei) (Q_is_ray:Cl P w K mg base n "is_ray" ["rows","goal","ray"] qhf) (Q_better:Cl P w K mg base n "better" ["plan","w"] qgQ) (Q_worth:Cl P w K mg base n "worth" ["plan","spot"] qhR):FnOk P w K mg base CX0 (n+1) f fd ["plan","told"] (lSp K qiO):=by
  refine F.okD sc_holds (fun ds R h=>?_) (fun cdv A outer s H E ds R hr h=>?_)
  · obtain ⟨k,n,bs,rs,gs,sp,ray,ls,rfl,_⟩:=h;rfl
  obtain ⟨k,n,bs,rs,gs,sp,ray,ls,rfl,hp,hs,hy,hl,q⟩:=h
  refine ⟨_,(qak (qaD (i:=2) sc_holds.nd rfl (Or.inl rfl) (qat Q_givens hr rfl (qab (dv 0) qaj qaa) qaa qag))
      (qak (qaD (i:=3) sc_holds.nd rfl (Or.inl rfl) (qaG (dvq 0) (PD.q qae) (fun _ _=>rfl)))
      (qa3 (qbO (qaU (qcD hr.units) (PD.q (qaG (dvq 1) (PD.q qae) (fun _ _=>rfl))) (PD.q qbC) (qao _)) (qau (qaH (qat Q_bars hr rfl (qab (dv 2) (qab (qaG (dvq 1) (PD.q qae) (fun _ _=>rfl)) qaj qac) qaa) qaa (qaf qac qag)))) qa0)
      (qa3 (qbO (qfR (qdc (PD.q (qat Q_is_answer hr rfl (qab (dv 2) (qab (dv 3) (qab (qaG (dvq 1) (PD.q qae) (fun _ _=>rfl)) qaj qac) qaa) qaa) qaa (qaf qaa (qaf qac qag)))) (fun _=>rfl))) (qau (qaH qhH)) qa0)
      (qa3 (qbO (qaU (qcD hr.units) (PD.q (qaG (dvq 1) (PD.q qae) (fun _ _=>rfl))) (PD.q qbC) (qao _)) (qau (qaH (qat Q_is_ray hr rfl (qab (dv 2) (qab (dv 3) (qab (qaG (dvq 1) (PD.q qae) (fun _ _=>rfl)) qaj qac) qaa) qaa) qaa (qaf qaa (qaf qac qag))))) qa0)
      (qau (qaH (qat Q_bars hr rfl (qab (qaw qay (dvq 2) (PD.q (qaJ (qab (qat Q_better hr rfl (qab (dv 0) (qab (qat Q_worth hr rfl (qab (dv 0) (qab (qaG (dvq 1) (PD.q qae) (fun _ _=>rfl)) qaj qac) qaa) qaa (qaf qac qag)) qaj qax) qaa) qaa (qaf qax qag)) qaj qax)))) (qab (qaG (dvq 1) (PD.q qae) (fun _ _=>rfl)) qaj qac) qai) qai (qaf qac qag))))))))),?_⟩
  obtain ⟨g1,g2,g3⟩:=qea hp
  have bl:=hp.bl
  have n8:=hp.n8
  have gl:=hp.gl
  have rl:=hp.rl
  have ll:=hl.len
  have hw:qbo (qbb bs rs)=n:=qgW (fun r h=>(g1 r h).1) g3
  have hRS:RsS (qbb bs rs):=⟨by omega,fun r hr'=>⟨by rw [(g1 r hr').1];exact n8,fun x hx=>qdY ((g1 r hr').2.1 x hx) (by decide)⟩⟩
  have hsb:∀ x∈sp,qeU x:=fun x hx=>qdY (hs.b x hx) (by decide)
  have hyb:∀ x∈ray,qeU x:=fun x hx=>qdY (hy.b x hx) (by decide)
  have hgb:∀ x∈gs,qeU x:=fun x hx=>qdY (hp.gb x hx) (by decide)
  have hb:∀ (R':D→Prop),R' (.bl (qbj (n:Int) (qbb bs rs) [] ls))→qio [.tup ((qbb bs rs).map qa1),.tup (ls.map lnD)] R':=fun R' h=>⟨qbb bs rs,ls,rfl,fun r hr'=>by rw [hw];exact (g1 r hr').1,by omega,qkk hl fun r hr'=>(g1 r hr').up (by decide),by omega,by rw [hw];exact h⟩
  by_cases k0:k=0
  · have et:qhF k sp ray ls=.tup [.str "none",.tup (ls.map lnD)]:=if_pos k0
    have eh:qka k n bs rs gs sp ray ls=qbj (n:Int) (qbb bs rs) [] ls:=if_pos k0
    rw [et]
    rw [eh] at q
    refine ⟨bs,rs,_,rfl,by omega,rl,_,rfl,fun _=>False,⟨_,rfl,fun _=>⟨_,rfl,hb _ q⟩,fun h=>(by cases h)⟩,fun _ h=>h.elim⟩
  by_cases k1:k=1
  · have et:qhF k sp ray ls=.tup [.str "endless",.tup (sp.map D.int),.tup (ray.map D.int)]:=(if_neg k0).trans (if_pos k1)
    have eh:qka k n bs rs gs sp ray ls=(qft (qbb bs rs) n sp && qjp (qbb bs rs) gs ray):=(if_neg k0).trans (if_pos k1)
    rw [et]
    rw [eh] at q
    refine ⟨bs,rs,_,rfl,by omega,rl,_,rfl,fun ρ=>ρ=[some (.v (qc9 bs rs gs)),some (.v (.tup [.str "endless",.tup (sp.map D.int),.tup (ray.map D.int)])),some (.v (.tup ((qbb bs rs).map qa1))),some (.v (.tup (gs.map D.int)))],⟨_,rfl,fun h=>(by cases h),fun _=>rfl⟩,?_⟩
    rintro ρ rfl
    refine ⟨fun ρ=>qft (qbb bs rs) n sp=true∧ρ=[some (.v (qc9 bs rs gs)),some (.v (.tup [.str "endless",.tup (sp.map D.int),.tup (ray.map D.int)])),some (.v (.tup ((qbb bs rs).map qa1))),some (.v (.tup (gs.map D.int)))],⟨_,rfl,qbb bs rs,gs,sp,rfl,hRS,hsb,?_⟩,?_⟩
    · rw [gl]
      refine ⟨fun h=>?_,fun h=>⟨by simpa using h,rfl⟩⟩
      have h':qft (qbb bs rs) n sp=false:=by simpa using h
      rw [h',Bool.false_and] at q
      exact q
    rintro ρ ⟨ha,rfl⟩
    refine ⟨fun _=>False,⟨_,rfl,fun _=>⟨_,rfl,qbb bs rs,gs,ray,rfl,hRS,by omega,hgb,hyb,?_⟩,fun h=>(by cases h)⟩,fun _ h=>h.elim⟩
    rw [ha,Bool.true_and] at q
    exact q
  · have et:qhF k sp ray ls=.tup [.str "best",.tup (sp.map D.int),.tup (ls.map lnD)]:=(if_neg k0).trans (if_neg k1)
    have eh:qka k n bs rs gs sp ray ls=(qft (qbb bs rs) n sp && qbj (n:Int) (qbb bs rs++[btR gs sp]) [] ls):=(if_neg k0).trans (if_neg k1)
    rw [et]
    rw [eh] at q
    obtain ⟨b1,b2⟩:=qmj hp hs
    have hw2:qbo (qbb bs rs++[btR gs sp])=n:=qgW (fun r h=>(b1 r h).1) fun e=>by have:=congrArg List.length e;simp at this
    refine ⟨bs,rs,_,rfl,by omega,rl,_,rfl,fun ρ=>ρ=[some (.v (qc9 bs rs gs)),some (.v (.tup [.str "best",.tup (sp.map D.int),.tup (ls.map lnD)])),some (.v (.tup ((qbb bs rs).map qa1))),some (.v (.tup (gs.map D.int)))],⟨_,rfl,fun h=>(by cases h),fun _=>rfl⟩,?_⟩
    rintro ρ rfl
    refine ⟨fun ρ=>qft (qbb bs rs) n sp=true∧ρ=[some (.v (qc9 bs rs gs)),some (.v (.tup [.str "best",.tup (sp.map D.int),.tup (ls.map lnD)])),some (.v (.tup ((qbb bs rs).map qa1))),some (.v (.tup (gs.map D.int)))],⟨_,rfl,qbb bs rs,gs,sp,rfl,hRS,hsb,?_⟩,?_⟩
    · rw [gl]
      refine ⟨fun h=>?_,fun h=>⟨by simpa using h,rfl⟩⟩
      have h':qft (qbb bs rs) n sp=false:=by simpa using h
      rw [h',Bool.false_and] at q
      exact q
    rintro ρ ⟨ha,rfl⟩
    rw [ha,Bool.true_and] at q
    refine ⟨fun ρ=>ρ=[some (.v (qc9 bs rs gs)),some (.v (.tup [.str "best",.tup (sp.map D.int),.tup (ls.map lnD)])),some (.v (.tup ((qbb bs rs).map qa1))),some (.v (.tup (gs.map D.int)))],⟨_,rfl,fun h=>(by cases h),fun _=>rfl⟩,?_⟩
    rintro ρ rfl
    refine ⟨_,rfl,_,_,gs,sp,rfl,by omega,hgb,hsb,_,_,gs,_,rfl,?_,_,qbR qa1 (qbb bs rs) (btR gs sp),_,rfl,qbb bs rs++[btR gs sp],ls,rfl,fun r hr'=>by rw [hw2];exact (b1 r hr').1,by omega,qkk hl b1,by omega,by rw [hw2];exact q⟩
    rw [List.length_map];exact qaR (by show (qbb bs rs).length+1≤1000;omega)
def unN (n k:Nat) (c:Int):List Int:=(List.range n).map fun o=>c*(if o=k then 1 else 0)
def qek:SpD:=fun ds R=>∃ (n k:Nat) (c:Int),ds=[.int (n:Int),.int (k:Int),.int c]∧n≤500∧c.natAbs≤1∧R (.tup ((unN n k c).map D.int))
theorem qfx {n:Nat} {f:Addr} {fd:FuncData} (F:Fun K "_law_unit" "_law_unit" qce f fd) (z_tuple:mg "tuple"=none) (z_int:mg "int"=none) (z_range:mg "range"=none):FnOk P w K mg base CX0 (n+1) f fd ["_law_n","_law_at","_law_number"] (lSp K qek):=by
  refine F.okD qfu (fun ds R h=>?_) (fun cdv A outer s H E ds R hr h=>?_)
  · obtain ⟨n,k,c,rfl,_⟩:=h;rfl
  obtain ⟨n,k,c,rfl,hn,hc,q⟩:=h
  refine ⟨_,(qau (qaH (qaC qaK rfl z_tuple PyProof.Rows.boot_tuple (qam (PD.q (PF.d (qbp (k:=1) (N':=["_law_k","_law_number","_law_at"]) (cap:=[none,some 2,some 1]) rfl (.ok (show qaY ["_law_n","_law_at","_law_number"] (qah qce) _ ["_law_k","_law_number","_law_at"] [none,some 2,some 1]=true by decide +kernel)) (by decide +kernel) (qa7 (by decide)) (qbs rfl z_range (qab (dv 0) qaj qaa)) (fun _ _ _ _ _=>(qav (i:=0) (show List.Nodup (["_law_k","_law_number","_law_at"]:List Str) by decide +kernel) rfl (Or.inl rfl))) (fun _ _ _ _ _=>(qaw qaN (dvq 1) (PD.q (qaC qlL rfl z_int PyProof.Rows.boot_int (qam (PD.q (qfZ (qcD hr.units) (dvq 0) (dvq 2) (qao _))) qas qb9) qb9 qag))))))) qas qal) qal qag))),?_⟩
  refine ⟨⟨by omega,by omega⟩,?_⟩
  refine qbA (fun i=>D.int (c*(if i=k then 1 else 0))) (qap (by omega)) (fun i hi=>?_) ?_
  · refine ⟨qa5 (by omega) (by omega),?_⟩
    by_cases e:i=k
    · subst e
      show D.int (c*(if ((0:Int)+(i:Int) == (i:Int))=true then 1 else 0))=_
      rw [Int.zero_add,beq_self_eq_true,if_pos rfl,if_pos rfl]
    · show D.int (c*(if ((0:Int)+(i:Int) == (k:Int))=true then 1 else 0))=_
      rw [if_neg e,if_neg (by rw [Int.zero_add];intro h;have:=eq_of_beq h;omega)]
  · have e:(List.range (n:Int).toNat).map (fun i=>D.int (c*if i=k then 1 else 0))=(unN n k c).map D.int:=by
      unfold unN
      rw [List.map_map,Int.toNat_natCast]
      rfl
    rw [e]
    exact q
theorem qie (n k:Nat):unN n k 1=unL n k:=by
  unfold unN unL
  exact List.map_congr_left fun o _=>by rw [Int.one_mul]
theorem qlw (n k:Nat):unN n k (-1)=(unL n k).map (- ·):=by
  rw [← qie]
  unfold unN
  rw [List.map_map]
  exact List.map_congr_left fun o _=>by show -1*_ = -(1*_);omega
def qcM:SpD:=fun ds R=>∃ (bs:List Bd) (rs:List Row) (d g:D),ds=[.tup [.tup (bs.map bdD),d,g]]∧asT d=.tup (rs.map qa1)∧bs.length≤8∧rs.length≤30∧R (.lst ((qbb bs rs).map qa1))
theorem qeD {n:Nat} {f:Addr} {fd:FuncData} (F:Fun K "_law_givens" "_law_givens" qbr f fd) (Q__law_unit:Cl P w K mg base n "_law_unit" ["_law_n","_law_at","_law_number"] qek) (z_len:mg "len"=none) (z_list:mg "list"=none) (z_range:mg "range"=none):FnOk P w K mg base CX0 (n+1) f fd ["_law_plan"] (lSp K qcM):=by
  refine F.okD sc__law_givens (fun ds R h=>?_) (fun cdv A outer s H E ds R hr h=>?_)
  · obtain ⟨bs,rs,d,g,rfl,_⟩:=h;rfl
  obtain ⟨bs,rs,d,g,rfl,hd,hb,hrl,q⟩:=h
  refine ⟨_,(qak (qaD (i:=1) sc__law_givens.nd rfl (Or.inr rfl) (qaF qbP rfl z_len PySem.boot_len (qam (PD.q (qaG (dvq 0) (PD.q qae) (fun _ _=>rfl))) qas qac) qac qag))
      (qak (qcN (i:=2) (k:=1) (N':=["_law_k","_law_n","_law_plan"]) (cap:=[none,some 1,some 0]) rfl sc__law_givens.nd rfl (Or.inl rfl) (.ok (show qaY ["_law_plan","_law_n","_law_rows_here"] (qah qbr) _ ["_law_k","_law_n","_law_plan"] [none,some 1,some 0]=true by decide +kernel)) (by decide +kernel) (qa7 (by decide)) (qbs rfl z_range (qab (dv 1) qaj qaa)) (fun _ _ _ _ _=>(qav (i:=0) (show List.Nodup (["_law_k","_law_n","_law_plan"]:List Str) by decide +kernel) rfl (Or.inl rfl))) (fun _ _ _ _ _=>(qaJ (qab (qat Q__law_unit hr rfl (qab (dv 1) (qab (dv 0) (qab qae qaj qad) qaa) qaa) qaa (qaf qaa (qaf qad qag))) (qab (qaG (PD.q (qaG (PD.q (qaG (dvq 2) (PD.q qae) (fun _ _=>rfl))) (dvq 0) (fun _ _=>rfl))) (PD.q qae) (fun _ _=>rfl)) qaj qac) qax))))
      (qak (qaD (i:=2) sc__law_givens.nd rfl (Or.inl rfl) (qaw qay (dvq 2) (PD.q (PF.d (qm2 (k:=1) (N':=["_law_k","_law_n","_law_plan"]) (cap:=[none,some 1,some 0]) rfl (.ok (show qaY ["_law_plan","_law_n","_law_rows_here"] (qah qbr) _ ["_law_k","_law_n","_law_plan"] [none,some 1,some 0]=true by decide +kernel)) (by decide +kernel) (qa7 (by decide)) (qbs rfl z_range (qab (dv 1) qaj qaa)) (fun _ _ _ _ _=>(qav (i:=0) (show List.Nodup (["_law_k","_law_n","_law_plan"]:List Str) by decide +kernel) rfl (Or.inl rfl))) (fun _ _ _ _ _=>(qkl (qaU qi2 (PD.q (qaG (PD.q (qaG (PD.q (qaG (dvq 2) (PD.q qae) (fun _ _=>rfl))) (dvq 0) (fun _ _=>rfl))) (PD.q qae) (fun _ _=>rfl))) (PD.q qds) (qao _)))) (fun _ _ _ _ _=>(qaJ (qab (qat Q__law_unit hr rfl (qab (dv 1) (qab (dv 0) (qab (qdh (PD.q qae)) qaj qbc) qaa) qaa) qaa (qaf qaa (qaf qbc qag))) (qab (qdh (PD.q (qaG (PD.q (qaG (PD.q (qaG (dvq 2) (PD.q qae) (fun _ _=>rfl))) (dvq 0) (fun _ _=>rfl))) (PD.q qae) (fun _ _=>rfl)))) qaj qbc) qax))))))))
      (qau (qaH (qaw qay (dvq 2) (PD.q (PF.d (qfz rfl z_list (PD.q (qaG (dvq 0) (PD.q qae) (fun _ _=>rfl))) qac))))))))),?_⟩
  have hL:((bs.map bdD).length:Int)=(bs.length:Int):=by rw [List.length_map]
  have hT:(((bs.map bdD).length:Nat):Int).toNat=bs.length:=by omega
  have e1:(List.range bs.length).map (fun k=>qa1 (leR bs k))=((List.range bs.length).map (leR bs)).map qa1:=by rw [List.map_map];rfl
  have e2:((List.range bs.length).filter (qez bs)).map (fun k=>qa1 (moR bs k))=(((List.range bs.length).filter (qez bs)).map (moR bs)).map qa1:=by rw [List.map_map];rfl
  have fl:((List.range bs.length).filter (qez bs)).length≤bs.length:=by
    have:=List.length_filter_le (qez bs) (List.range bs.length)
    rwa [List.length_range] at this
  have fin:∀ d':D,asT d'=.tup (rs.map qa1)→∃ zs,qjh d'=some zs∧zs=rs.map qa1:=fun d' h=>by
    rcases qgx h with rfl | rfl <;> exact ⟨_,rfl,rfl⟩
  refine ⟨_,rfl,⟨by omega,by omega⟩,?_⟩
  refine qbA (fun k=>qa1 (leR bs k)) (qap (by omega)) (fun k hk=>⟨bs.length,k,1,by rw [hL,Int.zero_add],by omega,by decide,_,rfl,_,qfO (by omega) (Int.zero_add _),_,rfl,by rw [qie];rfl⟩) ?_
  rw [hT,e1]
  refine ⟨⟨by omega,by omega⟩,by rw [qbm];exact qap (by omega),qkU (qez bs) (fun k=>qa1 (moR bs k)),fun k d hd=>?_,fun ys hyl hy=>?_⟩
  · obtain ⟨hk,rfl⟩:=qbK hd
    have hk':k<bs.length:=by omega
    refine ⟨_,rfl,_,qfO hk' (Int.zero_add _),_,rfl,?_⟩
    cases hm:(bAt bs k).2 with
    | none =>
      refine ⟨fun h=>(by cases h),fun _=>?_⟩
      show qez bs k=false
      unfold qez
      rw [hm]
      rfl
    | some m =>
      have e:moR bs k=trR (unL bs.length k,m):=by unfold moR;rw [hm];rfl
      refine ⟨fun _=>?_,fun h=>(by cases h)⟩
      refine ⟨bs.length,k,-1,by rw [hL,Int.zero_add],by omega,by decide,_,rfl,_,qfO hk' (Int.zero_add _),_,(congrArg (fun z=>atI [D.int (bAt bs k).1,oI z] 1) hm).trans rfl,?_⟩
      refine ⟨?_,?_⟩
      · rw [qlw];exact congrArg qa1 e.symm
      · unfold qez
        rw [hm]
        rfl
  rw [qbm] at hyl
  rw [qeT hyl hy,hT,e2]
  rcases qgx hd with rfl | rfl
  · refine ⟨?_,_,qdo qa1 _ _,_,rfl,_,rfl,?_,_,qdo qa1 _ _,q⟩
    · rw [List.length_map,List.length_map,List.length_map,List.length_map,List.length_range];exact qaR (by omega)
    · rw [List.length_map,List.length_map,List.length_append,List.length_map,List.length_map,List.length_range];exact qaR (by omega)
  · refine ⟨?_,_,qdo qa1 _ _,_,rfl,_,rfl,?_,_,qdo qa1 _ _,q⟩
    · rw [List.length_map,List.length_map,List.length_map,List.length_map,List.length_range];exact qaR (by omega)
    · rw [List.length_map,List.length_map,List.length_append,List.length_map,List.length_map,List.length_range];exact qaR (by omega)
def qlT (n:Nat) (bs:List Bd):Prop:=bs.length=n∧∀ b∈bs,b.1.natAbs≤20∧∀ m,b.2=some m→m.natAbs≤20
def qb8:SpD:=fun ds R=>∃ (c:Int) (n:Nat),ds=[.int c,.int (n:Int)]∧n≤8∧∀ bs:List Bd,qlT n bs→R (.tup (bs.map bdD))
theorem qeE {n:Nat} {f:Addr} {fd:FuncData} (F:Fun K "_law_bounds" "_law_bounds" qb5 f fd) (Q__law_draws:Cl P w K mg base n "_law_draws" ["_law_cell_here","_law_salt","_law_sizes"] qaT) (z_range:mg "range"=none) (z_tuple:mg "tuple"=none):FnOk P w K mg base CX0 (n+1) f fd ["_law_cell_here","_law_n"] (lSp K qb8):=by
  refine F.okD sc__law_bounds (fun ds R h=>?_) (fun cdv A outer s H E ds R hr h=>?_)
  · obtain ⟨c,n,rfl,_⟩:=h;rfl
  obtain ⟨c,n,rfl,hn,q⟩:=h
  refine ⟨_,(qak (qaD (i:=2) sc__law_bounds.nd rfl (Or.inl rfl) (qat Q__law_draws hr rfl (qab (dv 0) (qab qae (qab (qaw qaN (PD.q (PF.d (qaQ (qab qae (qab qae qaj qad) qad)))) (dvq 1)) qaj qai) qad) qaa) qaa (qaf qad (qaf qai qag))))
      (qak (qda (i:=3) sc__law_bounds.nd rfl (Or.inl rfl) (qaQ qaj))
      (qak (qdW PassesOwn.never rfl (qbs rfl z_range (qab (dv 1) qaj qaa)) (qav (i:=4) sc__law_bounds.nd rfl (Or.inl rfl)) (qak (qaD (i:=5) sc__law_bounds.nd rfl (Or.inl rfl) qds)
      (qa3 (qbO (qaU qkJ (PD.q (qaG (dvq 2) (PD.q (qaw qay (PD.q (qaw qaN (PD.q qae) (dvq 4))) (PD.q qae))) (fun _ _=>rfl))) (PD.q qae) (qao _)) (qau (qaD (i:=5) sc__law_bounds.nd rfl (Or.inl rfl) (qaw qbN (PD.q (qaw qay (PD.q (qaw qbN (PD.q (qaG (dvq 2) (PD.q (qaw qaN (PD.q qae) (dvq 4))) (fun _ _=>rfl))) (PD.q qae))) (PD.q (qaG (dvq 2) (PD.q (qaw qay (PD.q (qaw qaN (PD.q qae) (dvq 4))) (PD.q qae))) (fun _ _=>rfl))))) (PD.q qae)))) qa0)
      (qau (qby 3 (qaJ (qab (qaw qbN (PD.q (qaG (dvq 2) (PD.q (qaw qaN (PD.q qae) (dvq 4))) (fun _ _=>rfl))) (PD.q qae)) (qab (dv 5) qaj qaa) qai)) (qb4 qar) qar)))))
      (qau (qaH (qaC qaK rfl z_tuple PyProof.Rows.boot_tuple (qam (dvq 3) qas qaa) qaa qag)))))),?_⟩
  have hzl:((List.replicate (n:Int).toNat [(7:Int),7]).flatten).length=2*n:=by simp;omega
  refine ⟨⟨by omega,by omega,qaR (by show 2*(n:Int).toNat≤1000;omega)⟩,_,qgv (n:Int).toNat [7,7],c,28,_,rfl,by rw [hzl];omega,by decide,by decide,fun z hz=>?_,fun es hD=>?_⟩
  · have h9:(9:Int)<2 ^ 9000:=by decide +kernel
    have:=qe1 hz
    simp at this
    omega
  have hel:es.length=2*n:=by rw [hD.len,hzl]
  have heb:∀ d∈es,0≤d∧d<7:=qbV hD fun z hz=>by
    have:=qe1 hz
    simp at this
    omega
  have hat:∀ o:Nat,o<2*n→∀ k:Int,k=(o:Int)→atI (es.map D.int) k=some (.int (es.getD o 0)):=fun o ho k e=>qbv (i:=o) (qbZ (by omega)) e
  have hbd:∀ o:Nat,o<2*n→0≤es.getD o 0∧es.getD o 0<7:=fun o ho=>heb _ (qbk (by omega))
  refine ⟨⟨by omega,by omega⟩,fun i ρ=>∃ (bs:List Bd) (u4 u5:Option Sl),ρ=[some (.v (.int c)),some (.v (.int n)),some (.v (.lst (es.map D.int))),some (.own (bs.map bdD)),u4,u5]∧qlT i bs,⟨[],_,_,rfl,rfl,fun b hb=>absurd hb List.not_mem_nil⟩,?_,?_⟩
  · rintro i d ρ hd ⟨bs,u4,u5,rfl,hB⟩
    obtain ⟨hi,rfl⟩:=qbK hd
    have hi':i<n:=by omega
    have b1:=hbd (2*i) (by omega)
    have b2:=hbd (2*i+1) (by omega)
    refine ⟨fun ρ=>∃ m:Option Int,(∀ x,m=some x→x.natAbs≤20)∧ρ=[some (.v (.int c)),some (.v (.int n)),some (.v (.lst (es.map D.int))),some (.own (bs.map bdD)),some (.v (.int (0+(i:Int)))),some (.v (oI m))],⟨qa5 (by decide) (by decide),_,hat (2*i+1) (by omega) _ (by omega),fun h=>⟨qa5 (by decide) (by decide),_,hat (2*i) (by omega) _ (by omega),qa5 (by decide) (by decide),_,hat (2*i+1) (by omega) _ (by omega),some (es.getD (2*i) 0 - 3+es.getD (2*i+1) 0 - 2),fun x hx=>?_,rfl⟩,fun h=>⟨none,fun x hx=>(by cases hx),rfl⟩⟩,?_⟩
    · cases hx
      omega
    rintro ρ ⟨m,hm,rfl⟩
    refine ⟨qa5 (by decide) (by decide),_,hat (2*i) (by omega) _ (by omega),?_,_,qbR bdD bs (es.getD (2*i) 0 - 3,m),bs++[(es.getD (2*i) 0 - 3,m)],_,_,rfl,by rw [List.length_append,hB.1];rfl,fun b hb=>?_⟩
    · rw [List.length_map,hB.1];exact qap (by omega)
    · rcases List.mem_append.mp hb with h | h
      · exact hB.2 b h
      · rw [List.mem_singleton.mp h]
        exact ⟨by show (es.getD (2*i) 0 - 3).natAbs≤20;omega,hm⟩
  · rintro ρ ⟨bs,u4,u5,rfl,hB⟩
    rw [qbm,Int.toNat_natCast] at hB
    exact q bs hB
def qct:SpD:=fun ds R=>∃ (c:Int) (bs:List Bd),ds=[.int c,.tup (bs.map bdD)]∧bs.length≤8∧(∀ b∈bs,b.1.natAbs≤20∧∀ m,b.2=some m→m.natAbs≤20)∧∀ sp:List Int,sp.length=bs.length→(∀ x∈sp,x.natAbs≤100)→R (.tup (sp.map D.int))
theorem qd9 {n:Nat} {f:Addr} {fd:FuncData} (F:Fun K "_law_spot_in" "_law_spot_in" qbT f fd) (Q__law_draws:Cl P w K mg base n "_law_draws" ["_law_cell_here","_law_salt","_law_sizes"] qaT) (z_zip:mg "zip"=none) (z_tuple:mg "tuple"=none) (z_len:mg "len"=none) (z_min:mg "min"=none) (z_max:mg "max"=none):FnOk P w K mg base CX0 (n+1) f fd ["_law_cell_here","_law_bounds_here"] (lSp K qct):=by
  refine F.okD sc__law_spot_in (fun ds R h=>?_) (fun cdv A outer s H E ds R hr h=>?_)
  · obtain ⟨c,bs,rfl,_⟩:=h;rfl
  obtain ⟨c,bs,rfl,hb,hbb,q⟩:=h
  refine ⟨_,(qak (qaD (i:=2) sc__law_spot_in.nd rfl (Or.inl rfl) (qat Q__law_draws hr rfl (qab (dv 0) (qab qae (qab (qaw qaN (PD.q (PF.d (qaQ (qab qae qaj qad)))) (PD.q (qaF qbP rfl z_len PySem.boot_len (qam (dvq 1) qas qaa) qaa qag))) qaj qai) qad) qaa) qaa (qaf qad (qaf qai qag))))
      (qak (qda (i:=3) sc__law_spot_in.nd rfl (Or.inl rfl) (qaQ qaj))
      (qak (qdW PassesOwn.never rfl (qeG rfl z_zip (qab (dv 2) (qab (dv 1) qaj qaa) qaa)) (qcs (n:=2) rfl (qaB (qav (i:=4) sc__law_spot_in.nd rfl (Or.inl rfl)) (qaB (qcs (n:=2) rfl (qaB (qav (i:=5) sc__law_spot_in.nd rfl (Or.inl rfl)) (qaB (qav (i:=6) sc__law_spot_in.nd rfl (Or.inl rfl)) qbw))) qbw))) (qau (qbO (qaU qnx (dvq 6) (PD.q qds) (qao _)) (qau (qby 3 (qaw qay (dvq 5) (PD.q (qaF (qeO rfl) rfl z_max PyProof.Rows.boot_max (qam (PD.q qae) (qam (PD.q (qaw qbN (dvq 4) (PD.q qae))) qas qai) qad) qad (qaf qai qag)))) (qb4 qai) qai)) (qau (qby 3 (qaF (qmZ rfl) rfl z_min PyProof.Rows.boot_min (qam (dvq 6) (qam (PD.q (qaw qay (dvq 5) (dvq 4))) qas qai) qaa) qaa (qaf qai qag)) (qb4 qax) qax)))))
      (qau (qaH (qaC qaK rfl z_tuple PyProof.Rows.boot_tuple (qam (dvq 3) qas qaa) qaa qag)))))),?_⟩
  have hL:((bs.map bdD).length:Int)=(bs.length:Int):=by rw [List.length_map]
  refine ⟨⟨by omega,by omega,qaR (by show 1*(((bs.map bdD).length:Nat):Int).toNat≤1000;omega)⟩,(List.replicate bs.length (6:Int)).map D.int,by rw [qbh,hL,Int.toNat_natCast],c,32,List.replicate bs.length (6:Int),rfl,by rw [List.length_replicate];omega,by decide,by decide,fun z hz=>?_,fun es hD=>?_⟩
  · rw [(List.mem_replicate.mp hz).2]
    exact ⟨by decide,by decide +kernel⟩
  have hel:es.length=bs.length:=by rw [hD.len,List.length_replicate]
  have heb:=qbV hD (b:=6) fun z hz=>by rw [(List.mem_replicate.mp hz).2];exact Int.le_refl _
  refine ⟨_,_,rfl,rfl,?_⟩
  rw [qgL]
  refine ⟨fun i ρ=>∃ (sp:List Int) (u4 u5 u6:Option Sl),ρ=[some (.v (.int c)),some (.v (.tup (bs.map bdD))),some (.v (.lst (es.map D.int))),some (.own (sp.map D.int)),u4,u5,u6]∧sp.length=i∧∀ x∈sp,x.natAbs≤100,⟨[],_,_,_,rfl,rfl,fun x hx=>absurd hx List.not_mem_nil⟩,?_,?_⟩
  · rintro i d ρ hd ⟨sp,u4,u5,u6,rfl,hsl,hsb⟩
    obtain ⟨⟨x,b⟩,rfl,hx⟩:=qcl hd
    obtain ⟨m1,m2⟩:=List.of_mem_zip (List.mem_of_getElem? hx)
    have hi:i<(List.zip es bs).length:=qbe hx
    rw [List.length_zip] at hi
    have hx6:=heb x m1
    have hb6:=hbb b m2
    have hsz:(sp.map D.int).length<sizeLine:=by rw [List.length_map];exact qap (by omega)
    have add:∀ v:Int,v.natAbs≤100→(sp++[v]).length=i+1∧∀ x∈sp++[v],x.natAbs≤100:=fun v hv=>⟨by rw [List.length_append,hsl];rfl,fun y hy=>by
      rcases List.mem_append.mp hy with h | h
      · exact hsb y h
      · rw [List.mem_singleton.mp h];exact hv⟩
    obtain ⟨b1,b2⟩:=b
    cases b2 with
    | none =>
      refine ⟨rfl,rfl,fun _=>⟨hsz,_,qbR D.int sp _,sp++[_],_,_,_,rfl,add _ ?_⟩,fun h=>(by cases h)⟩
      show (b1+(if x - 2>0 then x - 2 else 0)).natAbs≤100
      have:=hb6.1
      split <;> (simp only at this;omega)
    | some m =>
      refine ⟨rfl,rfl,fun h=>(by cases h),fun _=>⟨hsz,_,qbR D.int sp _,sp++[_],_,_,_,rfl,add _ ?_⟩⟩
      show (if b1+x<m then b1+x else m).natAbs≤100
      have:=hb6.1
      have h2:=hb6.2 m rfl
      split <;> (simp only at this;omega)
  · rintro ρ ⟨sp,u4,u5,u6,rfl,hsl,hsb⟩
    rw [List.length_map,List.length_zip,hel,Nat.min_self] at hsl
    exact q sp hsl hsb
def qdj:SpD:=fun ds R=>∃ (c ht:Int) (n:Nat) (shs:List (Int × Int)),ds=[.int c,.int ht,.int (n:Int),.lst (shs.map prD)]∧n≤8∧shs.length≤100∧(∀ s∈shs,s.2.natAbs≤1000)∧∀ ls:List Ln,ls.length≤14→(∀ l∈ls,LnB 1000 l)→R (.lst (ls.map lnD))
def qmA (n:Nat):List Int:=List.replicate 7 5++List.replicate (3*n) 7++List.replicate 3 11
theorem qgN (n:Nat):(qmA n).length=10+3*n:=by unfold qmA;simp;omega
theorem qkt {n:Nat}:∀ z∈qmA n,0<z∧z≤11:=fun z hz=>by
  unfold qmA at hz
  rcases List.mem_append.mp hz with h | h
  · rcases List.mem_append.mp h with h | h <;> rw [(List.mem_replicate.mp h).2] <;> decide
  · rw [(List.mem_replicate.mp h).2];decide
theorem qfM {n:Nat} {f:Addr} {fd:FuncData} (F:Fun K "_law_tree" "_law_tree" qcg f fd) (Q__law_draws:Cl P w K mg base n "_law_draws" ["_law_cell_here","_law_salt","_law_sizes"] qaT) (z_range:mg "range"=none) (z_tuple:mg "tuple"=none):FnOk P w K mg base CX0 (n+1) f fd ["_law_cell_here","_law_height","_law_n","_law_shares"] (lSp K qdj):=by
  refine F.okD sc__law_tree (fun ds R h=>?_) (fun cdv A outer s H E ds R hr h=>?_)
  · obtain ⟨c,ht,n,shs,rfl,_⟩:=h;rfl
  obtain ⟨c,ht,n,shs,rfl,hn,hsl,hsb,q⟩:=h
  refine ⟨_,(qak (qaD (i:=4) sc__law_tree.nd rfl (Or.inl rfl) (qat Q__law_draws hr rfl (qab (dv 0) (qab qae (qab (qaw qay (PD.q (qaw qay (PD.q (qaw qaN (PD.q (PF.d (qaQ (qab qae qaj qad)))) (PD.q qae))) (PD.q (qaw qaN (PD.q (PF.d (qaQ (qab qae qaj qad)))) (PD.q (qaw qaN (PD.q qae) (dvq 2))))))) (PD.q (qaw qaN (PD.q (PF.d (qaQ (qab qae qaj qad)))) (PD.q qae)))) qaj qai) qad) qaa) qaa (qaf qad (qaf qai qag))))
      (qak (qda (i:=5) sc__law_tree.nd rfl (Or.inl rfl) (qaQ qaj))
      (qak (qda (i:=6) sc__law_tree.nd rfl (Or.inl rfl) (qaQ (qab (dv 1) qaj qaa)))
      (qak (qaD (i:=7) sc__law_tree.nd rfl (Or.inl rfl) qae)
      (qak (qdW PassesOwn.never rfl (qbs rfl z_range (qab qae qaj qad)) (qav (i:=8) sc__law_tree.nd rfl (Or.inl rfl)) (qau (qbO (qdc (dvq 6) (fun _=>rfl)) (qak (qnH 6 9 sc__law_tree.nd rfl (Or.inl rfl))
      (qau (qbO (PWD.td (qgp (qaU qkJ (PD.q (qaG (dvq 4) (dvq 8) (fun _ _=>rfl))) (PD.q qae) (qao _)) (qej (qaU qlQ (dvq 7) (PD.q qae) (qao _))))) (qak (qaD (i:=10) sc__law_tree.nd rfl (Or.inl rfl) (qaC qaK rfl z_tuple PyProof.Rows.boot_tuple (qam (PD.q (PF.d (qbp (k:=1) (N':=["_law_one"]) (cap:=[none]) rfl (.ok (show qaY ["_law_cell_here","_law_height","_law_n","_law_shares","_law_numbers","_law_lines","_law_heights","_law_choices","_law_k","_law_now","_law_entries"] (qah qcg) _ ["_law_one"] [none]=true by decide +kernel)) (by decide +kernel) (qa7 (by decide)) (qc8 (qcZ (dvq 4) (qaO (PD.q (qaw qay (PD.q qae) (PD.q (qaw qaN (dvq 7) (dvq 2)))))) (qaO (PD.q (qaw qay (PD.q qae) (PD.q (qaw qaN (PD.q (qaw qay (dvq 7) (PD.q qae))) (dvq 2)))))))) (fun _ _ _ _ _=>(qav (i:=0) (show List.Nodup (["_law_one"]:List Str) by decide +kernel) rfl (Or.inl rfl))) (fun _ _ _ _ _=>(qaw qbN (dvq 0) (PD.q qae)))))) qas qal) qal qag))
      (qak (qby 5 (qaJ (qab qbC (qab (dv 10) (qab (qaw qbN (PD.q (qaG (dvq 4) (PD.q (qaw qay (PD.q (qaw qay (PD.q qae) (PD.q (qaw qaN (PD.q qae) (dvq 2))))) (dvq 7))) (fun _ _=>rfl))) (PD.q qae)) qaj qai) qaa) qad)) (qb4 qar) qar)
      (qak (qmK 7 qkF sc__law_tree.nd rfl (Or.inl rfl) qae)
      (qau (qda (i:=6) sc__law_tree.nd rfl (Or.inl rfl) (qkY (dvq 6) (PD.q (PF.d (qaQ (qab (qaw qay (dvq 9) (PD.q qae)) (qab (qaw qay (dvq 9) (PD.q qae)) qaj qai) qai)))))))))) (qau (qda (i:=5) sc__law_tree.nd rfl (Or.inl rfl) (qkY (dvq 5) (PD.q (PF.d (qaQ (qab (qaJ (qab qbC (qab (qaC qaK rfl z_tuple PyProof.Rows.boot_tuple (qam (dvq 3) qas qaa) qaa qag) (qab qae qaj qad) qax) qad)) (qab (qaJ (qab qbC (qab (dv 9) qaj qaa) qad)) qaj qar) qar)))))))))) qa0)))
      (qjo 5 (qau (qaH (dv 5))))))))),?_⟩
  have e3:(3:Int)*(n:Int)=((3*n:Nat):Int):=by push_cast;rfl
  refine ⟨⟨by decide,by decide,qaR (by decide)⟩,_,qbh 7 5,qa5 (by decide) (by decide),⟨by omega,by omega,qaR (by show 1*(3*(n:Int)).toNat≤1000;omega)⟩,(List.replicate (3*n) (7:Int)).map D.int,by rw [qbh,e3,Int.toNat_natCast],?_,_,qdo D.int _ _,⟨by decide,by decide,qaR (by decide)⟩,_,qbh 3 11,?_,_,qdo D.int _ _,c,27,qmA n,rfl,by rw [qgN];omega,by decide,by decide,fun z hz=>?_,fun es hD=>?_⟩
  · rw [List.length_map,List.length_map,List.length_replicate,List.length_replicate];exact qaR (by show 7+3*n≤1000;omega)
  · rw [List.length_map,List.length_map,List.length_append,List.length_replicate,List.length_replicate,List.length_replicate];exact qaR (by show 7+3*n+3≤1000;omega)
  · have h9:(1000:Int)<2 ^ 9000:=by decide +kernel
    have:=qkt z hz
    omega
  have hel:es.length=10+3*n:=by rw [hD.len,qgN]
  have heb:=qbV hD (b:=11) fun z hz=>(qkt z hz).2
  have hat:∀ o:Nat,o<10+3*n→∀ k:Int,k=(o:Int)→atI (es.map D.int) k=some (.int (es.getD o 0)):=fun o ho k e=>qbv (i:=o) (qbZ (by omega)) e
  refine ⟨⟨by decide,by decide⟩,fun i ρ=>∃ (ls:List Ln) (hs:List Int) (ch:Nat) (u8 u9 u10:Option Sl),ρ=[some (.v (.int c)),some (.v (.int ht)),some (.v (.int n)),some (.v (.lst (shs.map prD))),some (.v (.lst (es.map D.int))),some (.own (ls.map lnD)),some (.own (hs.map D.int)),some (.v (.int ch)),u8,u9,u10]∧ls.length≤2*i∧(∀ l∈ls,LnB 1000 l)∧ch≤3∧hs.length≤1+i,⟨[],[ht],0,_,_,_,rfl,Nat.zero_le _,fun l hl=>absurd hl List.not_mem_nil,by decide,Nat.le_refl 1⟩,?_,?_⟩
  · rintro i d ρ hd ⟨ls,hs,ch,u8,u9,u10,rfl,hll,hlb,hch,hhl⟩
    obtain ⟨hi,rfl⟩:=qbK hd
    have hi':i<7:=by simpa using hi
    refine ⟨fun hne=>?_,fun _=>⟨ls,hs,ch,_,_,_,rfl,by omega,hlb,hch,by omega⟩⟩
    have hhs:hs≠[]:=fun e=>by subst e;cases hne
    have hpos:hs.length - 1<hs.length:=by have:=List.length_pos_iff.mpr hhs;omega
    have edl:(hs.map D.int).dropLast=hs.dropLast.map D.int:=by rw [List.map_dropLast]
    have hdl:hs.dropLast.length≤i:=by rw [List.length_dropLast];omega
    refine ⟨_,by rw [List.length_map];exact (List.getElem?_map ..).trans (by rw [qaI hpos];rfl),_,edl,_,hat i (by omega) _ (Int.zero_add _),?_⟩
    generalize hs[hs.length - 1]=now
    have cut:∀ v8:Option Sl,(ls.map lnD).length+2≤sizeLine∧True:=fun _=>⟨by rw [List.length_map];exact qaR (by omega),trivial⟩
    have cutB:LnB 1000 (.ct shs 1):=⟨hsl,hsb,by decide⟩
    have leaf:∀ l∈ls++[Ln.ct shs 1,Ln.sh now],LnB 1000 l:=fun l hl=>by
      rcases List.mem_append.mp hl with h | h
      · exact hlb l h
      · rcases List.mem_cons.mp h with rfl | h
        · exact cutB
        · rw [List.mem_singleton.mp h];trivial
    have ell:(ls++[Ln.ct shs 1,Ln.sh now]).length≤2*(i+1):=by rw [List.length_append];show ls.length+2≤_;omega
    have eL:ls.map lnD++[.tup [.str "cut",.tup (shs.map prD),.int 1],.tup [.str "shut",.int now]]=(ls++[Ln.ct shs 1,Ln.sh now]).map lnD:=by rw [List.map_append];rfl
    have hsz:(ls.map lnD).length+[D.tup [.str "cut",.tup (shs.map prD),.int 1],.tup [.str "shut",.int now]].length≤sizeLine:=by rw [List.length_map];exact qaR (by show ls.length+2≤1000;omega)
    refine ⟨fun h1=>⟨fun h2=>?_,fun h2=>⟨hsz,_,eL,_,hs.dropLast,ch,_,_,_,rfl,ell,leaf,hch,by omega⟩⟩,fun h1=>⟨fun h=>ff h,fun _=>⟨hsz,_,eL,_,hs.dropLast,ch,_,_,_,rfl,ell,leaf,hch,by omega⟩⟩⟩
    have hc:ch<3:=by have:=dP h2;omega
    have hcn:ch*n≤2*n:=Nat.mul_le_mul_right n (by omega)
    have e1:7+(ch:Int)*(n:Int)=((7+ch*n:Nat):Int):=by push_cast;rfl
    have e2:7+((ch:Int)+1)*(n:Int)=((7+ch*n+n:Nat):Int):=by rw [Int.add_mul];push_cast;omega
    obtain ⟨pl,pm⟩:=qgA (xs:=es) e1 e2 (by omega) (by omega)
    have ecut:=qaM D.int es (some (7+(ch:Int)*(n:Int))) (some (7+((ch:Int)+1)*(n:Int)))
    generalize qb7 es (some (7+(ch:Int)*(n:Int))) (some (7+((ch:Int)+1)*(n:Int)))=ps at pl pm ecut
    have hpl:ps.length=n:=by omega
    refine ⟨qcu (by omega) (by omega),qcu (by omega) (by omega),_,ecut,?_⟩
    refine qbX (f:=D.int) (fun x=>x - 3) (qap (by omega)) (fun x _=>rfl) ?_
    have hk:(7:Int)+3*(n:Int)+(ch:Int)=((7+3*n+ch:Nat):Int):=by push_cast;rfl
    have hkb:=heb _ (qbk (xs:=es) (d:=0) (i:=7+3*n+ch) (by omega))
    have chB:LnB 1000 (.ch (ps.map fun x=>x - 3) (es.getD (7+3*n+ch) 0 - 5)):=⟨by rw [List.length_map];omega,fun x hx=>by
      obtain ⟨y,hy,rfl⟩:=List.mem_map.mp hx
      have:=heb y (pm y hy)
      omega,by omega⟩
    refine ⟨qa5 (by decide) (by decide),_,hat (7+3*n+ch) (by omega) _ hk,?_,_,qbR lnD ls (.ch (ps.map fun x=>x - 3) (es.getD (7+3*n+ch) 0 - 5)),?_,_,qdo D.int hs.dropLast [now+1,now+1],ls++[.ch (ps.map fun x=>x - 3) (es.getD (7+3*n+ch) 0 - 5)],hs.dropLast++[now+1,now+1],ch+1,_,_,_,rfl,by rw [List.length_append];show ls.length+1≤_;omega,fun l hl=>?_,by omega,by rw [List.length_append];show hs.dropLast.length+2≤_;omega⟩
    · rw [List.length_map];exact qap (by omega)
    · rw [List.length_map];exact qaR (by show hs.dropLast.length+2≤1000;omega)
    · rcases List.mem_append.mp hl with h | h
      · exact hlb l h
      · rw [List.mem_singleton.mp h];exact chB
  · rintro ρ ⟨ls,hs,ch,u8,u9,u10,rfl,hll,hlb,hch,hhl⟩
    exact q ls hll hlb
def qbM (sp ray:List Int) (ls:List Ln):D:=.tup [.tup (sp.map D.int),.tup (ray.map D.int),.lst (ls.map lnD)]
def qmx (n:Nat) (R:D→Prop):Prop:=∀ (bs:List Bd) (rs:List Row) (gs sp ray:List Int) (ls:List Ln),qlT n bs→rs.length≤11→(∀ r∈rs,RowN n 69 r)→gs.length=n→(∀ x∈gs,x.natAbs≤2 ^ 69)→sp.length=n→(∀ x∈sp,x.natAbs≤1000)→ray.length=n→(∀ x∈ray,x.natAbs≤1000)→ls.length≤14→(∀ l∈ls,LnB 1000 l)→R (.tup [qc9 bs rs gs,qbM sp ray ls])
def qgf (n many:Nat) (big:Int):Prop:=n≤8∧many≤4∧0<big∧big≤2 ^ 31
theorem qh8 {n b:Nat} {bs:List Bd} {rs:List Row} (hb:5≤b) (hB:qlT n bs) (hr:∀ r∈rs,RowN n b r) (hl:rs.length≤11) (n8:n≤8):(∀ r∈qbb bs rs,RowN n b r)∧(qbb bs rs).length≤27:=by
  have bl:=hB.1
  have bm:∀ k,k<n→bAt bs k∈bs:=fun k hk=>qbk (by omega)
  have b20:20≤2 ^ b:=Nat.le_trans (show 20≤2 ^ 5 by decide) (Nat.pow_le_pow_right (by decide) hb)
  have u1:∀ k x,x∈unL n k→x.natAbs≤2 ^ b:=fun k x hx=>Nat.le_trans (qkA x hx) (by omega)
  refine ⟨fun r hr'=>?_,?_⟩
  · unfold qbb at hr'
    rcases List.mem_append.mp hr' with hr' | hr'
    · rcases List.mem_append.mp hr' with hr' | hr'
      · obtain ⟨k,hk,rfl⟩:=List.mem_map.mp hr'
        have hk':=List.mem_range.mp hk
        unfold leR
        rw [bl] at hk' ⊢
        exact ⟨qel n k,u1 k,Nat.le_trans (hB.2 _ (bm k hk')).1 b20⟩
      · obtain ⟨k,hk,rfl⟩:=List.mem_map.mp hr'
        obtain ⟨hk1,hk2⟩:=List.mem_filter.mp hk
        have hk':=List.mem_range.mp hk1
        unfold qez at hk2
        unfold moR trR
        rw [bl] at hk' ⊢
        cases hm:(bAt bs k).2 with
        | none=>rw [hm] at hk2;cases hk2
        | some m =>
          refine ⟨by rw [List.length_map];exact qel n k,fun x hx=>?_,?_⟩
          · obtain ⟨y,hy,rfl⟩:=List.mem_map.mp hx
            rw [Int.natAbs_neg]
            exact u1 k y hy
          · show (-((some m).getD 0)).natAbs≤_
            rw [Int.natAbs_neg]
            exact Nat.le_trans ((hB.2 _ (bm k hk')).2 m hm) b20
    · exact hr r hr'
  · unfold qbb
    have:=List.length_filter_le (qez bs) (List.range bs.length)
    rw [List.length_range] at this
    rw [List.length_append,List.length_append,List.length_map,List.length_map,List.length_range]
    omega
theorem qiP {rs:List Row} {shs:List (Int × Int)} {n b:Nat} (hr:∀ r∈rs,RowN n b r) (hs:∀ s∈shs,okS rs s∧s.2.natAbs≤1000):∀ i,i≤shs.length→∃ a,qdH rs (shs.take i) n=some a∧a.1.length=n∧(∀ x∈a.1,x.natAbs≤i*(2 ^ b*2 ^ 10))∧a.2.natAbs≤i*(2 ^ b*2 ^ 10)
  | 0,_=>⟨(List.replicate n 0,0),rfl,List.length_replicate,fun x hx=>by rw [(List.mem_replicate.mp hx).2];exact Nat.zero_le _,Nat.zero_le _⟩
  | i+1,hi=>by
    obtain ⟨a,h1,h2,h3,h4⟩:=qiP hr hs i (by omega)
    have hs0:=qaI (show i<shs.length by omega)
    obtain ⟨ok,w⟩:=hs _ (List.mem_of_getElem? hs0)
    generalize shs[i]=s at hs0 ok w
    have hm:=qbJ ok.1.1 ok.1.2
    obtain ⟨r1,r2,r3⟩:=hr _ hm
    have pw:∀ e:Int,e.natAbs≤2 ^ b→(s.2*e).natAbs≤2 ^ b*2 ^ 10:=fun e he=>by
      rw [Int.natAbs_mul]
      exact Nat.le_trans (Nat.mul_le_mul w he) (by rw [Nat.mul_comm];exact Nat.mul_le_mul_left _ (by decide))
    refine ⟨_,qfl hs0 h1 ok,by unfold qdQ;rw [List.length_zipWith,h2,r1,Nat.min_self],fun x hx=>?_,?_⟩
    · obtain ⟨k,hk⟩:=List.getElem?_of_mem (show x∈List.zipWith _ _ _ from hx)
      rw [List.getElem?_zipWith] at hk
      cases e1:a.1[k]? with
      | none=>rw [e1] at hk;simp at hk
      | some u =>
        cases e2:(qbQ rs s.1).1[k]? with
        | none=>rw [e1,e2] at hk;simp at hk
        | some v =>
          rw [e1,e2] at hk
          have e:u+s.2*v=x:=by simpa using hk
          have a1:=h3 u (List.mem_of_getElem? e1)
          have a2:=pw v (r2 v (List.mem_of_getElem? e2))
          rw [Nat.add_mul,Nat.one_mul]
          omega
    · have a2:=pw _ r3
      show (a.2+s.2*(qbQ rs s.1).2).natAbs≤_
      rw [Nat.add_mul,Nat.one_mul]
      omega
theorem qhd {cs:List Int} (h:cs.length=6):∃ c0 c1 c2 c3 c4 c5,cs=[c0,c1,c2,c3,c4,c5]:=by
  match cs,h with
  | [c0,c1,c2,c3,c4,c5],_=>exact ⟨c0,c1,c2,c3,c4,c5,rfl⟩
theorem qma {rs:List Row} {shs:List (Int × Int)} {n b:Nat} (hb:b<60000) (hr:∀ r∈rs,RowN n b r) (hs:∀ s∈shs,s.2.natAbs≤1000):Fit rs shs:=by
  have p:∀ x:Nat,x≤2 ^ b→x<2 ^ 60000:=fun x h=>Nat.lt_of_le_of_lt h (Nat.pow_lt_pow_right (by decide) hb)
  exact ⟨fun r hr'=>⟨fun x hx=>p _ ((hr r hr').2.1 x hx),p _ (hr r hr').2.2⟩,fun s hs'=>Nat.lt_of_le_of_lt (hs s hs') (Nat.lt_of_lt_of_le (show 1000<2 ^ 10 by decide) (Nat.pow_le_pow_right (by decide) (by decide)))⟩
def qcB:SpD:=fun ds R=>∃ (cs:List Int) (n many:Nat) (big:Int),ds=[.lst (cs.map D.int),.int (n:Int),.int (many:Int),.int big]∧cs.length=6∧qgf n many big∧qmx n R
theorem qdB {n:Nat} {f:Addr} {fd:FuncData} (F:Fun K "_law_none_built" "_law_none_built" qaV f fd) (Q__law_bounds:Cl P w K mg base n "_law_bounds" ["_law_cell_here","_law_n"] qb8) (Q__law_rows:Cl P w K mg base n "_law_rows" ["_law_cell_here","_law_salt","_law_n","_law_many","_law_big"] qcf) (Q__law_givens:Cl P w K mg base n "_law_givens" ["_law_plan"] qcM) (Q__law_draws:Cl P w K mg base n "_law_draws" ["_law_cell_here","_law_salt","_law_sizes"] qaT) (Q__law_total:Cl P w K mg base n "_law_total" ["_law_rows_here","_law_shares","_law_n"] qc1) (Q__law_tree:Cl P w K mg base n "_law_tree" ["_law_cell_here","_law_height","_law_n","_law_shares"] qdj) (z_tuple:mg "tuple"=none) (z_len:mg "len"=none) (z_range:mg "range"=none) (z_max:mg "max"=none):FnOk P w K mg base CX0 (n+1) f fd ["_law_cells","_law_n","_law_many","_law_big"] (lSp K qcB):=by
  refine F.okD sc__law_none_built (fun ds R h=>?_) (fun cdv A outer s H E ds R hr h=>?_)
  · obtain ⟨cs,n,many,big,rfl,_⟩:=h;rfl
  obtain ⟨cs,n,many,big,rfl,hc,hA,q⟩:=h
  refine ⟨_,(qak (qaD (i:=4) sc__law_none_built.nd rfl (Or.inl rfl) (qat Q__law_bounds hr rfl (qab (qaG (dvq 0) (PD.q qae) (fun _ _=>rfl)) (qab (dv 1) qaj qaa) qac) qac (qaf qaa qag)))
      (qak (qaD (i:=5) sc__law_none_built.nd rfl (Or.inl rfl) (qat Q__law_rows hr rfl (qab (qaG (dvq 0) (PD.q qae) (fun _ _=>rfl)) (qab qae (qab (dv 1) (qab (dv 2) (qab (dv 3) qaj qaa) qaa) qaa) qad) qac) qac (qaf qad (qaf qaa (qaf qaa (qaf qaa qag))))))
      (qak (qaD (i:=6) sc__law_none_built.nd rfl (Or.inl rfl) (qat Q__law_givens hr rfl (qab (qaJ (qab (dv 4) (qab (dv 5) (qab (qaJ qaj) qaj qar) qaa) qaa)) qaj qar) qar qag))
      (qak (qaD (i:=7) sc__law_none_built.nd rfl (Or.inr rfl) (qat Q__law_draws hr rfl (qab (qaG (dvq 0) (PD.q qae) (fun _ _=>rfl)) (qab qae (qab (qaw qay (PD.q (qaw qaN (PD.q (PF.d (qaQ (qab (qaF (qeO rfl) rfl z_max PyProof.Rows.boot_max (qam (PD.q qae) (qam (PD.q (qaF qbP rfl z_len PySem.boot_len (qam (dvq 6) qas qaa) qaa qag)) qas qax) qad) qad (qaf qax qag)) (qab qae qaj qad) qax)))) (PD.q qae))) (PD.q (PF.d (qaQ (qab qae (qab qae qaj qad) qad))))) qaj qai) qad) qac) qac (qaf qad (qaf qai qag))))
      (qak (qaD (i:=8) sc__law_none_built.nd rfl (Or.inl rfl) (PF.d (qaQ qaj)))
      (qa3 (qbO (qdc (dvq 6) (fun _=>rfl)) (qau (qcN (i:=8) (k:=1) (N':=["_law_k","_law_numbers"]) (cap:=[none,some 7]) rfl sc__law_none_built.nd rfl (Or.inl rfl) (.ok (show qaY ["_law_cells","_law_n","_law_many","_law_big","_law_bounds_here","_law_rows_here","_law_standing","_law_numbers","_law_shares","_law_total_here","_law_paper","_law_goal"] (qah qaV) _ ["_law_k","_law_numbers"] [none,some 7]=true by decide +kernel)) (by decide +kernel) (qa7 (by decide)) (qbs rfl z_range (qab (qaG (dvq 7) (PD.q qae) (fun _ _=>rfl)) qaj qac)) (fun _ _ _ _ _=>(qav (i:=0) (show List.Nodup (["_law_k","_law_numbers"]:List Str) by decide +kernel) rfl (Or.inl rfl))) (fun _ _ _ _ _=>(qaJ (qab (qaG (dvq 1) (PD.q (qaw qaN (PD.q qae) (dvq 0))) (fun _ _=>rfl)) (qab (qaG (dvq 1) (PD.q (qaw qay (PD.q (qaw qaN (PD.q qae) (dvq 0))) (PD.q qae))) (fun _ _=>rfl)) qaj qac) qac))))) qa0)
      (qak (qaD (i:=9) sc__law_none_built.nd rfl (Or.inl rfl) (qat Q__law_total hr rfl (qab (dv 6) (qab (dv 8) (qab (dv 1) qaj qaa) qaa) qaa) qaa (qaf qaa (qaf qaa qag))))
      (qak (qaD (i:=5) sc__law_none_built.nd rfl (Or.inl rfl) (qaw qay (dvq 5) (PD.q (PF.d (qaQ (qab (qaJ (qab (qaC qaK rfl z_tuple PyProof.Rows.boot_tuple (qam (PD.q (PF.d (qbp (k:=1) (N':=["_law_one"]) (cap:=[none]) rfl (.ok (show qaY ["_law_cells","_law_n","_law_many","_law_big","_law_bounds_here","_law_rows_here","_law_standing","_law_numbers","_law_shares","_law_total_here","_law_paper","_law_goal"] (qah qaV) _ ["_law_one"] [none]=true by decide +kernel)) (by decide +kernel) (qa7 (by decide)) (qc8 (qcZ (dvq 9) qa9 (qaO (dvq 1)))) (fun _ _ _ _ _=>(qav (i:=0) (show List.Nodup (["_law_one"]:List Str) by decide +kernel) rfl (Or.inl rfl))) (fun _ _ _ _ _=>(qdh (dvq 0)))))) qas qal) qal qag) (qab (qaw qbN (PD.q (qaw qay (PD.q qae) (PD.q (qaG (dvq 7) (PD.q qae) (fun _ _=>rfl))))) (PD.q (qaG (dvq 9) (dvq 1) (fun _ _=>rfl)))) qaj qai) qax)) qaj qar))))))
      (qak (qaD (i:=10) sc__law_none_built.nd rfl (Or.inl rfl) (qat Q__law_tree hr rfl (qab (qaG (dvq 0) (PD.q qae) (fun _ _=>rfl)) (qab (qaw qay (PD.q (qaF qbP rfl z_len PySem.boot_len (qam (dvq 6) qas qaa) qaa qag)) (PD.q qae)) (qab (dv 1) (qab (qaw qay (dvq 8) (PD.q (PF.d (qaQ (qab (qaJ (qab (qaF qbP rfl z_len PySem.boot_len (qam (dvq 6) qas qaa) qaa qag) (qab qae qaj qad) qax)) qaj qar))))) qaj qai) qaa) qai) qac) qac (qaf qai (qaf qaa (qaf qai qag)))))
      (qak (qaD (i:=11) sc__law_none_built.nd rfl (Or.inl rfl) (qaC qaK rfl z_tuple PyProof.Rows.boot_tuple (qam (PD.q (PF.d (qbp (k:=1) (N':=["_law_one"]) (cap:=[none]) rfl (.ok (show qaY ["_law_cells","_law_n","_law_many","_law_big","_law_bounds_here","_law_rows_here","_law_standing","_law_numbers","_law_shares","_law_total_here","_law_paper","_law_goal"] (qah qaV) _ ["_law_one"] [none]=true by decide +kernel)) (by decide +kernel) (qa7 (by decide)) (qc8 (qat Q__law_draws hr rfl (qab (qaG (dvq 0) (PD.q qae) (fun _ _=>rfl)) (qab qae (qab (qaw qaN (PD.q (PF.d (qaQ (qab qae qaj qad)))) (dvq 1)) qaj qai) qad) qac) qac (qaf qad (qaf qai qag)))) (fun _ _ _ _ _=>(qav (i:=0) (show List.Nodup (["_law_one"]:List Str) by decide +kernel) rfl (Or.inl rfl))) (fun _ _ _ _ _=>(qaw qbN (dvq 0) (PD.q qae)))))) qas qal) qal qag))
      (qau (qaH (qaJ (qab (qaJ (qab (dv 4) (qab (qaC qaK rfl z_tuple PyProof.Rows.boot_tuple (qam (dvq 5) qas qaa) qaa qag) (qab (dv 11) qaj qaa) qax) qaa)) (qab (qaJ (qab (qaC qaK rfl z_tuple PyProof.Rows.boot_tuple (qam (PD.q (qaw qaN (PD.q (PF.d (qaQ (qab qae qaj qad)))) (dvq 1))) qas qai) qai qag) (qab (qaC qaK rfl z_tuple PyProof.Rows.boot_tuple (qam (PD.q (qaw qaN (PD.q (PF.d (qaQ (qab qae qaj qad)))) (dvq 1))) qas qai) qai qag) (qab (dv 10) qaj qaa) qax) qax)) qaj qar) qar)))))))))))))),?_⟩
  obtain ⟨hn,hm,hb0,hb1⟩:=hA
  obtain ⟨c0,c1,c2,c3,c4,c5,rfl⟩:=qhd hc
  have h9:(1000:Int)<2 ^ 9000:=by decide +kernel
  refine ⟨_,rfl,c0,n,rfl,hn,fun bs hB=>⟨_,rfl,c1,29,big,n,many,rfl,by decide,by decide,hn,by omega,hb0,by omega,fun rs hrl hrs=>?_⟩⟩
  obtain ⟨gv1,gv2⟩:=qh8 (by decide) hB hrs (by omega) hn
  refine ⟨bs,rs,_,_,rfl,rfl,by rw [hB.1];exact hn,by omega,?_⟩
  have hGl:(((qbb bs rs).map qa1).length:Int)=((qbb bs rs).length:Int):=by rw [List.length_map]
  have hmx:(if (((qbb bs rs).map qa1).length:Int)>1 then (((qbb bs rs).map qa1).length:Int) else 1)=if ((qbb bs rs).length:Int)>1 then ((qbb bs rs).length:Int) else 1:=by rw [hGl]
  have mx0:0<(if (((qbb bs rs).map qa1).length:Int)>1 then (((qbb bs rs).map qa1).length:Int) else 1)∧(if (((qbb bs rs).map qa1).length:Int)>1 then (((qbb bs rs).map qa1).length:Int) else 1)≤30:=by rw [hmx];split <;> omega
  refine ⟨_,rfl,⟨by decide,by decide,qaR (by show 2*3≤1000;decide)⟩,_,qgv 3 [(if (((qbb bs rs).map qa1).length:Int)>1 then (((qbb bs rs).map qa1).length:Int) else 1),5],qaR (by show 6+2≤1000;decide),_,qdo D.int _ [4,3],c2,30,[(if (((qbb bs rs).map qa1).length:Int)>1 then (((qbb bs rs).map qa1).length:Int) else 1),5,(if (((qbb bs rs).map qa1).length:Int)>1 then (((qbb bs rs).map qa1).length:Int) else 1),5,(if (((qbb bs rs).map qa1).length:Int)>1 then (((qbb bs rs).map qa1).length:Int) else 1),5,4,3],rfl,show 8≤1000 by decide,by decide,by decide,fun z hz=>?_,fun es hD=>?_⟩
  · simp only [List.mem_cons,List.not_mem_nil,or_false] at hz
    rcases hz with rfl | rfl | rfl | rfl | rfl | rfl | rfl | rfl <;> omega
  obtain ⟨y0,y1,y2,y3,y4,y5,y6,y7,rfl,e0,e1,e2,e3,e4,e5,e6,e7⟩:=qmT hD
  have e1:0≤y1∧y1<5:=e1
  have e3:0≤y3∧y3<5:=e3
  have e5:0≤y5∧y5<5:=e5
  have e6:0≤y6∧y6<4:=e6
  have e7:0≤y7∧y7<3:=e7
  rw [hmx] at e0 e2 e4
  refine ⟨fun ρ=>∃ shs:List (Int × Int),shs.length≤3∧(∀ s∈shs,okS (qbb bs rs) s∧s.2.natAbs≤1000)∧ρ=[some (.v (.lst ([c0,c1,c2,c3,c4,c5].map D.int))),some (.v (.int n)),some (.v (.int many)),some (.v (.int big)),some (.v (.tup (bs.map bdD))),some (.v (.lst (rs.map qa1))),some (.v (.lst ((qbb bs rs).map qa1))),some (.v (.lst (([y0,y1,y2,y3,y4,y5,y6,y7]:List Int).map D.int))),some (.v (.lst (shs.map prD))),none,none,none],⟨fun h=>?_,fun h=>⟨[],by decide,fun s hs=>absurd hs List.not_mem_nil,rfl⟩⟩,?_⟩
  · have hne:0<(qbb bs rs).length:=by
      rcases Nat.eq_zero_or_pos (qbb bs rs).length with c | c
      · rw [List.length_eq_zero_iff.mp c] at h
        cases h
      · exact c
    refine ⟨_,rfl,⟨by omega,by omega⟩,?_⟩
    have hat:∀ k:Nat,k<3→∃ u v:Int,atI (([y0,y1,y2,y3,y4,y5,y6,y7]:List Int).map D.int) (2*(0+(k:Int)))=some (.int u)∧atI (([y0,y1,y2,y3,y4,y5,y6,y7]:List Int).map D.int) (2*(0+(k:Int))+1)=some (.int v)∧okS (qbb bs rs) (u,v)∧v.natAbs≤1000∧(u,v)=([(y0,y1),(y2,y3),(y4,y5)]:List (Int × Int)).getD k (0,0):=fun k hk=>by
      have:k=0∨k=1∨k=2:=by omega
      rcases this with rfl | rfl | rfl
      · refine ⟨y0,y1,rfl,rfl,⟨⟨e0.1,?_⟩,e1.1⟩,by omega,rfl⟩
        have:=e0.2
        show y0<((qbb bs rs).length:Int)
        split at this <;> omega
      · refine ⟨y2,y3,rfl,rfl,⟨⟨e2.1,?_⟩,e3.1⟩,by omega,rfl⟩
        have:=e2.2
        show y2<((qbb bs rs).length:Int)
        split at this <;> omega
      · refine ⟨y4,y5,rfl,rfl,⟨⟨e4.1,?_⟩,e5.1⟩,by omega,rfl⟩
        have:=e4.2
        show y4<((qbb bs rs).length:Int)
        split at this <;> omega
    refine qbA (fun k=>prD (([(y0,y1),(y2,y3),(y4,y5)]:List (Int × Int)).getD k (0,0))) (qap (by omega)) (fun k hk=>?_) ?_
    · obtain ⟨u,v,a1,a2,_,_,a3⟩:=hat k (by omega)
      exact ⟨qa5 (by decide) (by decide),_,a1,qa5 (by decide) (by decide),_,a2,by rw [← a3];rfl⟩
    refine ⟨(List.range y6.toNat).map fun k=>([(y0,y1),(y2,y3),(y4,y5)]:List (Int × Int)).getD k (0,0),by rw [List.length_map,List.length_range];omega,fun s hs=>?_,by rw [List.map_map];rfl⟩
    obtain ⟨k,hk,rfl⟩:=List.mem_map.mp hs
    have hk':=List.mem_range.mp hk
    obtain ⟨u,v,_,_,a1,a2,a3⟩:=hat k (by omega)
    rw [← a3]
    exact ⟨a1,a2⟩
  rintro ρ ⟨shs,hsl,hsh,rfl⟩
  obtain ⟨a,ha,hal,hab,hac⟩:=qiP gv1 hsh shs.length (Nat.le_refl _)
  rw [List.take_length] at ha
  have ab:∀ x:Nat,x≤shs.length*(2 ^ 40*2 ^ 10)→x≤2 ^ 60:=fun x hx=>Nat.le_trans hx (Nat.le_trans (Nat.mul_le_mul_right _ hsl) (by decide))
  refine ⟨qbb bs rs,shs,n,_,rfl,rfl,by omega,qma (by decide) gv1 fun s hs=>(hsh s hs).2,fun r hr'=>(gv1 r hr').1,fun e=>(by rw [ha] at e;cases e),fun r hr'=>?_⟩
  rw [ha] at hr'
  cases hr'
  have hcut:qb7 ((a.1++[a.2]).map D.int) none (some (n:Int))=a.1.map D.int:=by rw [qaM,qbF,← hal,List.take_left]
  have hat:atI ((a.1++[a.2]).map D.int) (n:Int)=some (.int a.2):=qbv (i:=n) (by rw [List.getElem?_append_right (by omega),hal,Nat.sub_self];rfl) rfl
  refine ⟨_,hcut,?_⟩
  refine qbX (f:=D.int) (fun x=>-x) (qap (by omega)) (fun x _=>rfl) ?_
  refine ⟨_,rfl,_,hat,?_,_,qbR qa1 rs (a.1.map (- ·),1+y7 - a.2),?_⟩
  · rw [List.length_map];exact qaR (by show rs.length+1≤1000;omega)
  have shs2:∀ s∈shs++[((((qbb bs rs).map qa1).length:Int),(1:Int))],s.2.natAbs≤1000:=fun s hs=>by
    rcases List.mem_append.mp hs with h | h
    · exact (hsh s h).2
    · rw [List.mem_singleton.mp h];show (1:Int).natAbs≤1000;decide
  refine ⟨_,rfl,?_,_,qbR prD shs (_,1),c3,_,n,_,rfl,hn,by rw [List.length_append];show shs.length+1≤100;omega,shs2,fun ls hll hlb=>?_⟩
  · rw [List.length_map];exact qaR (by show shs.length+1≤1000;omega)
  refine ⟨_,rfl,⟨by omega,by omega,qaR (by show 1*(n:Int).toNat≤1000;omega)⟩,(List.replicate n (7:Int)).map D.int,by rw [qbh,Int.toNat_natCast],c4,31,List.replicate n (7:Int),rfl,by rw [List.length_replicate];omega,by decide,by decide,fun z hz=>?_,fun gz hG=>?_⟩
  · rw [(List.mem_replicate.mp hz).2]
    exact ⟨by decide,by decide +kernel⟩
  have hgl:gz.length=n:=by rw [hG.len,List.length_replicate]
  have hgb:=qbV hG (b:=7) fun z hz=>by rw [(List.mem_replicate.mp hz).2];exact Int.le_refl _
  refine qbX (f:=D.int) (fun x=>x - 3) (qap (by omega)) (fun x _=>rfl) ?_
  have hz0:∀ x∈List.replicate n (0:Int),x.natAbs≤1000:=fun x hx=>by rw [(List.mem_replicate.mp hx).2];decide
  refine ⟨⟨by omega,by omega,qaR (by show 1*(n:Int).toNat≤1000;omega)⟩,(List.replicate n (0:Int)).map D.int,by rw [qbh,Int.toNat_natCast],⟨by omega,by omega,qaR (by show 1*(n:Int).toNat≤1000;omega)⟩,(List.replicate n (0:Int)).map D.int,by rw [qbh,Int.toNat_natCast],?_⟩
  refine q bs _ _ _ _ ls hB (by rw [List.length_append];show rs.length+1≤11;omega) (fun r hr'=>?_) (by rw [List.length_map];exact hgl) (fun x hx=>?_) List.length_replicate hz0 List.length_replicate hz0 hll hlb
  · rcases List.mem_append.mp hr' with h | h
    · exact (hrs r h).up (by decide)
    · rw [List.mem_singleton.mp h]
      refine ⟨by rw [List.length_map];exact hal,fun x hx=>?_,?_⟩
      · obtain ⟨y,hy,rfl⟩:=List.mem_map.mp hx
        rw [Int.natAbs_neg]
        exact Nat.le_trans (ab _ (hab y hy)) (by decide)
      · show (1+y7 - a.2).natAbs≤2 ^ 69
        have:=ab _ hac
        have:2 ^ 60+10≤2 ^ 69:=by decide
        omega
  · obtain ⟨y,hy,rfl⟩:=List.mem_map.mp hx
    have:=hgb y hy
    omega
theorem qlx {n:Nat} {xs ys:List Int} (hn:n≤8) (h1:xs.length=n) (hx:∀ x∈xs,x.natAbs≤2 ^ 40) (hy:∀ y∈ys,y.natAbs≤100):(dot xs ys).natAbs≤2 ^ 50:=by
  have h3:=L2.dot_le hx hy
  have h4:xs.length*(2 ^ 40*100)≤8*(2 ^ 40*100):=Nat.mul_le_mul_right _ (by omega)
  have h5:8*(2 ^ 40*100)≤2 ^ 50:=by decide
  omega
theorem qg8 {x:Int} (h:x.natAbs≤1000):qeU x:=qdY (m:=10) (Nat.le_trans h (by decide)) (by decide)
theorem qhk {n:Nat} {r:Row} {sp:List Int} {v:Int} (hn:n≤8) (h:RowN n 40 r) (hs:∀ y∈sp,y.natAbs≤100) (hv:0≤v∧v<5):RowN n 51 (r.1,dot r.1 sp - (if v - 2>0 then v - 2 else 0)):=by
  refine ⟨h.1,fun x hx=>Nat.le_trans (h.2.1 x hx) (by decide),?_⟩
  have h1:=qlx hn h.1 h.2.1 hs
  have h2:2 ^ 50+10≤2 ^ 51:=by decide
  show (dot r.1 sp - (if v - 2>0 then v - 2 else 0)).natAbs≤2 ^ 51
  split <;> omega
def qcx:SpD:=fun ds R=>∃ (cs:List Int) (n many:Nat) (big:Int),ds=[.lst (cs.map D.int),.int (n:Int),.int (many:Int),.int big]∧cs.length=6∧qgf n many big∧qmx n R
theorem qdD {n:Nat} {f:Addr} {fd:FuncData} (F:Fun K "_law_best_built" "_law_best_built" qbg f fd) (Q__law_bounds:Cl P w K mg base n "_law_bounds" ["_law_cell_here","_law_n"] qb8) (Q__law_spot_in:Cl P w K mg base n "_law_spot_in" ["_law_cell_here","_law_bounds_here"] qct) (Q__law_draws:Cl P w K mg base n "_law_draws" ["_law_cell_here","_law_salt","_law_sizes"] qaT) (Q__law_givens:Cl P w K mg base n "_law_givens" ["_law_plan"] qcM) (Q__law_total:Cl P w K mg base n "_law_total" ["_law_rows_here","_law_shares","_law_n"] qc1) (Q__law_tree:Cl P w K mg base n "_law_tree" ["_law_cell_here","_law_height","_law_n","_law_shares"] qdj) (Q__law_rows:Cl P w K mg base n "_law_rows" ["_law_cell_here","_law_salt","_law_n","_law_many","_law_big"] qcf) (Q__law_left:Cl P w K mg base n "_law_left" ["_law_entries","_law_spot"] qcL) (z_enumerate:mg "enumerate"=none) (z_tuple:mg "tuple"=none) (z_len:mg "len"=none) (z_max:mg "max"=none):FnOk P w K mg base CX0 (n+1) f fd ["_law_cells","_law_n","_law_many","_law_big"] (lSp K qcx):=by
  refine F.okD sc__law_best_built (fun ds R h=>?_) (fun cdv A outer s H E ds R hr h=>?_)
  · obtain ⟨cs,n,many,big,rfl,_⟩:=h;rfl
  obtain ⟨cs,n,many,big,rfl,hc,hA,q⟩:=h
  refine ⟨_,(qak (qaD (i:=4) sc__law_best_built.nd rfl (Or.inl rfl) (qat Q__law_bounds hr rfl (qab (qaG (dvq 0) (PD.q qae) (fun _ _=>rfl)) (qab (dv 1) qaj qaa) qac) qac (qaf qaa qag)))
      (qak (qaD (i:=5) sc__law_best_built.nd rfl (Or.inl rfl) (qat Q__law_spot_in hr rfl (qab (qaG (dvq 0) (PD.q qae) (fun _ _=>rfl)) (qab (dv 4) qaj qaa) qac) qac (qaf qaa qag)))
      (qak (qda (i:=6) sc__law_best_built.nd rfl (Or.inl rfl) (qaQ qaj))
      (qak (qaD (i:=7) sc__law_best_built.nd rfl (Or.inl rfl) (qat Q__law_draws hr rfl (qab (qaG (dvq 0) (PD.q qae) (fun _ _=>rfl)) (qab qae (qab (qaw qaN (PD.q (PF.d (qaQ (qab qae qaj qad)))) (dvq 2)) qaj qai) qad) qac) qac (qaf qad (qaf qai qag))))
      (qak (qdW PassesOwn.never rfl (qgr rfl z_enumerate (qab (qat Q__law_rows hr rfl (qab (qaG (dvq 0) (PD.q qae) (fun _ _=>rfl)) (qab qae (qab (dv 1) (qab (dv 2) (qab (dv 3) qaj qaa) qaa) qaa) qad) qac) qac (qaf qad (qaf qaa (qaf qaa (qaf qaa qag))))) qaj qax)) (qcs (n:=2) rfl (qaB (qav (i:=8) sc__law_best_built.nd rfl (Or.inl rfl)) (qaB (qcs (n:=2) rfl (qaB (qav (i:=9) sc__law_best_built.nd rfl (Or.inl rfl)) (qaB (qav (i:=10) sc__law_best_built.nd rfl (Or.inl rfl)) qbw))) qbw))) (qau (qby 6 (qaJ (qab (dv 9) (qab (qaw qbN (PD.q (qat Q__law_left hr rfl (qab (dv 9) (qab (dv 5) qaj qaa) qaa) qaa (qaf qaa qag))) (PD.q (qaF (qeO rfl) rfl z_max PyProof.Rows.boot_max (qam (PD.q qae) (qam (PD.q (qaw qbN (PD.q (qaG (dvq 7) (dvq 8) (fun _ _=>rfl))) (PD.q qae))) qas qai) qad) qad (qaf qai qag)))) qaj qai) qaa)) (qb4 qar) qar)))
      (qjo 6 (qak (qaD (i:=11) sc__law_best_built.nd rfl (Or.inl rfl) (qat Q__law_givens hr rfl (qab (qaJ (qab (dv 4) (qab (dv 6) (qab (qaJ qaj) qaj qar) qaa) qaa)) qaj qar) qar qag))
      (qak (qaD (i:=12) sc__law_best_built.nd rfl (Or.inl rfl) (qat Q__law_draws hr rfl (qab (qaG (dvq 0) (PD.q qae) (fun _ _=>rfl)) (qab qae (qab (qaw qaN (PD.q (PF.d (qaQ (qab qae qaj qad)))) (PD.q (qaF qbP rfl z_len PySem.boot_len (qam (dvq 11) qas qaa) qaa qag))) qaj qai) qad) qac) qac (qaf qad (qaf qai qag))))
      (qak (qda (i:=13) sc__law_best_built.nd rfl (Or.inl rfl) (qaQ qaj))
      (qak (qdW PassesOwn.never rfl (qgr rfl z_enumerate (qab (dv 11) qaj qaa)) (qcs (n:=2) rfl (qaB (qav (i:=8) sc__law_best_built.nd rfl (Or.inl rfl)) (qaB (qav (i:=14) sc__law_best_built.nd rfl (Or.inl rfl)) qbw))) (qau (qbO (qaU (qcD hr.units) (PD.q (qat Q__law_left hr rfl (qab (qaG (dvq 14) (PD.q qae) (fun _ _=>rfl)) (qab (dv 5) qaj qaa) qac) qac (qaf qaa qag))) (PD.q (qaG (dvq 14) (PD.q qae) (fun _ _=>rfl))) (qao _)) (qau (qby 13 (qaJ (qab (dv 8) (qab (qaG (dvq 12) (dvq 8) (fun _ _=>rfl)) qaj qac) qaa)) (qb4 qar) qar)) qa0)))
      (qjo 13 (qak (qaD (i:=15) sc__law_best_built.nd rfl (Or.inl rfl) (qat Q__law_total hr rfl (qab (dv 11) (qab (dv 13) (qab (dv 1) qaj qaa) qaa) qaa) qaa (qaf qaa (qaf qaa qag))))
      (qak (qaD (i:=16) sc__law_best_built.nd rfl (Or.inl rfl) (qat Q__law_tree hr rfl (qab (qaG (dvq 0) (PD.q qae) (fun _ _=>rfl)) (qab (qaw qay (PD.q (qaF qbP rfl z_len PySem.boot_len (qam (dvq 11) qas qaa) qaa qag)) (PD.q qae)) (qab (dv 1) (qab (qaw qay (dvq 13) (PD.q (PF.d (qaQ (qab (qaJ (qab (qaF qbP rfl z_len PySem.boot_len (qam (dvq 11) qas qaa) qaa qag) (qab qae qaj qad) qax)) qaj qar))))) qaj qai) qaa) qai) qac) qac (qaf qai (qaf qaa (qaf qai qag)))))
      (qak (qaD (i:=17) sc__law_best_built.nd rfl (Or.inl rfl) (qaC qaK rfl z_tuple PyProof.Rows.boot_tuple (qam (PD.q (PF.d (qbp (k:=1) (N':=["_law_one"]) (cap:=[none]) rfl (.ok (show qaY ["_law_cells","_law_n","_law_many","_law_big","_law_bounds_here","_law_spot","_law_rows_here","_law_slacks","_law_k","_law_entries","_law_bound","_law_standing","_law_weights","_law_shares","_law_row","_law_total_here","_law_paper","_law_goal"] (qah qbg) _ ["_law_one"] [none]=true by decide +kernel)) (by decide +kernel) (qa7 (by decide)) (qc8 (qcZ (dvq 15) qa9 (qaO (dvq 1)))) (fun _ _ _ _ _=>(qav (i:=0) (show List.Nodup (["_law_one"]:List Str) by decide +kernel) rfl (Or.inl rfl))) (fun _ _ _ _ _=>(qdh (dvq 0)))))) qas qal) qal qag))
      (qau (qaH (qaJ (qab (qaJ (qab (dv 4) (qab (qaC qaK rfl z_tuple PyProof.Rows.boot_tuple (qam (dvq 6) qas qaa) qaa qag) (qab (dv 17) qaj qaa) qax) qaa)) (qab (qaJ (qab (dv 5) (qab (qaC qaK rfl z_tuple PyProof.Rows.boot_tuple (qam (PD.q (qaw qaN (PD.q (PF.d (qaQ (qab qae qaj qad)))) (dvq 1))) qas qai) qai qag) (qab (dv 16) qaj qaa) qax) qaa)) qaj qar) qar)))))))))))))))))),?_⟩
  obtain ⟨hn,hm,hb0,hb1⟩:=hA
  obtain ⟨c0,c1,c2,c3,c4,c5,rfl⟩:=qhd hc
  have h9:(1000:Int)<2 ^ 9000:=by decide +kernel
  refine ⟨_,rfl,c0,n,rfl,hn,fun bs hB=>⟨_,rfl,c5,bs,rfl,by rw [hB.1];exact hn,hB.2,fun sp hsl hsb=>⟨_,rfl,⟨by omega,by omega,qaR (by show 1*(many:Int).toNat≤1000;omega)⟩,(List.replicate many (5:Int)).map D.int,by rw [qbh,Int.toNat_natCast],c2,33,List.replicate many (5:Int),rfl,by rw [List.length_replicate];omega,by decide,by decide,fun z hz=>?_,fun sk hS=>?_⟩⟩⟩
  · rw [(List.mem_replicate.mp hz).2]
    exact ⟨by decide,by omega⟩
  rw [hB.1] at hsl
  have hkl:sk.length=many:=by rw [hS.len,List.length_replicate]
  have hkb:=qbV hS (b:=5) fun z hz=>by rw [(List.mem_replicate.mp hz).2];exact Int.le_refl _
  refine ⟨_,rfl,c1,34,big,n,many,rfl,by decide,by decide,hn,by omega,hb0,by omega,fun rs hrl hrs=>?_⟩
  refine ⟨fun i ρ=>∃ (qs:List Row) (u8 u9 u10:Option Sl),ρ=[some (.v (.lst ([c0,c1,c2,c3,c4,c5].map D.int))),some (.v (.int n)),some (.v (.int many)),some (.v (.int big)),some (.v (.tup (bs.map bdD))),some (.v (.tup (sp.map D.int))),some (.own (qs.map qa1)),some (.v (.lst (sk.map D.int))),u8,u9,u10,none,none,none,none,none,none,none]∧qs.length=i∧∀ r∈qs,RowN n 51 r,⟨[],_,_,_,rfl,rfl,fun r h=>absurd h List.not_mem_nil⟩,?_,?_⟩
  · rintro i d ρ hd ⟨qs,u8,u9,u10,rfl,hql,hqb⟩
    obtain ⟨e,he,rfl⟩:=qd6 hd
    obtain ⟨r,rfl,hr1⟩:=qcl he
    have hr2:=hrs r (List.mem_of_getElem? hr1)
    have hi:=qbe hr1
    have hat:atI (sk.map D.int) (i:Int)=some (.int (sk.getD i 0)):=qbv (i:=i) (qbZ (by omega)) rfl
    have hv:=hkb _ (qbk (xs:=sk) (d:=0) (i:=i) (by omega))
    generalize sk.getD i 0=v at hat hv
    refine ⟨rfl,rfl,r.1,sp,rfl,by rw [hr2.1];omega,fun x hx=>qdY (hr2.2.1 x hx) (by decide),fun y hy=>qg8 (Nat.le_trans (hsb y hy) (by decide)),_,hat,?_,_,qbR qa1 qs (r.1,dot r.1 sp - (if v - 2>0 then v - 2 else 0)),qs++[_],_,_,_,rfl,by rw [List.length_append,hql];rfl,fun t ht=>?_⟩
    · rw [List.length_map];exact qap (by omega)
    · rcases List.mem_append.mp ht with h | h
      · exact hqb t h
      · rw [List.mem_singleton.mp h]
        exact qhk hn hr2 hsb hv
  rintro ρ ⟨qs,u8,u9,u10,rfl,hql,hqb⟩
  rw [qcY,List.length_map,hrl] at hql
  obtain ⟨gv1,gv2⟩:=qh8 (b:=51) (by decide) hB hqb (by omega) hn
  refine ⟨bs,qs,_,_,rfl,rfl,by rw [hB.1];exact hn,by omega,?_⟩
  generalize qbb bs qs=G at gv1 gv2
  have hGl:((G.map qa1).length:Int)=(G.length:Int):=by rw [List.length_map]
  refine ⟨_,rfl,⟨by omega,by omega,qaR (by show 1*((G.map qa1).length:Int).toNat≤1000;omega)⟩,(List.replicate G.length (4:Int)).map D.int,by rw [qbh,hGl,Int.toNat_natCast],c4,35,List.replicate G.length (4:Int),rfl,by rw [List.length_replicate];omega,by decide,by decide,fun z hz=>?_,fun ws hW=>?_⟩
  · rw [(List.mem_replicate.mp hz).2]
    exact ⟨by decide,by omega⟩
  have hwl:ws.length=G.length:=by rw [hW.len,List.length_replicate]
  have hwb:=qbV hW (b:=4) fun z hz=>by rw [(List.mem_replicate.mp hz).2];exact Int.le_refl _
  refine ⟨fun i ρ=>∃ (shs:List (Int × Int)) (u8 u14:Option Sl),ρ=[some (.v (.lst ([c0,c1,c2,c3,c4,c5].map D.int))),some (.v (.int n)),some (.v (.int many)),some (.v (.int big)),some (.v (.tup (bs.map bdD))),some (.v (.tup (sp.map D.int))),some (.v (.lst (qs.map qa1))),some (.v (.lst (sk.map D.int))),u8,u9,u10,some (.v (.lst (G.map qa1))),some (.v (.lst (ws.map D.int))),some (.own (shs.map prD)),u14,none,none,none]∧shs.length≤i∧∀ s∈shs,okS G s∧s.2.natAbs≤1000,⟨[],_,_,rfl,Nat.le_refl 0,fun s hs=>absurd hs List.not_mem_nil⟩,?_,?_⟩
  · rintro i d ρ hd ⟨shs,u8,u14,rfl,hsl2,hsh⟩
    obtain ⟨e,he,rfl⟩:=qd6 hd
    obtain ⟨r,rfl,hr1⟩:=qcl he
    have hr2:=gv1 r (List.mem_of_getElem? hr1)
    have hi:=qbe hr1
    have hat:atI (ws.map D.int) (i:Int)=some (.int (ws.getD i 0)):=qbv (i:=i) (qbZ (by omega)) rfl
    have hv:=hwb _ (qbk (xs:=ws) (d:=0) (i:=i) (by omega))
    generalize ws.getD i 0=v at hat hv
    refine ⟨rfl,_,rfl,r.1,sp,rfl,by rw [hr2.1];omega,fun x hx=>qdY (hr2.2.1 x hx) (by decide),fun y hy=>qg8 (Nat.le_trans (hsb y hy) (by decide)),_,rfl,fun _=>⟨_,hat,?_,_,qbR prD shs (_,v),shs++[_],_,_,rfl,by rw [List.length_append];exact Nat.succ_le_succ hsl2,fun t ht=>?_⟩,fun _=>⟨shs,_,_,rfl,Nat.le_succ_of_le hsl2,hsh⟩⟩
    · rw [List.length_map];exact qap (by omega)
    · rcases List.mem_append.mp ht with h | h
      · exact hsh t h
      · rw [List.mem_singleton.mp h]
        exact ⟨⟨⟨Int.natCast_nonneg _,show (i:Int)<(G.length:Int) by omega⟩,hv.1⟩,show v.natAbs≤1000 by omega⟩
  rintro ρ ⟨shs,u8,u14,rfl,hsl2,hsh⟩
  rw [qcY,List.length_map] at hsl2
  obtain ⟨a,ha,hal,hab,hac⟩:=qiP gv1 hsh shs.length (Nat.le_refl _)
  rw [List.take_length] at ha
  have ab:∀ x:Nat,x≤shs.length*(2 ^ 51*2 ^ 10)→x≤2 ^ 69:=fun x hx=>Nat.le_trans hx (Nat.le_trans (Nat.mul_le_mul_right _ (Nat.le_trans hsl2 gv2)) (by decide))
  refine ⟨G,shs,n,_,rfl,rfl,by omega,qma (by decide) gv1 fun s hs=>(hsh s hs).2,fun r hr'=>(gv1 r hr').1,fun e=>(by rw [ha] at e;cases e),fun r hr'=>?_⟩
  rw [ha] at hr'
  cases hr'
  have hcut:qb7 ((a.1++[a.2]).map D.int) none (some (n:Int))=a.1.map D.int:=by rw [qaM,qbF,← hal,List.take_left]
  have shs2:∀ s∈shs++[(((G.map qa1).length:Int),(1:Int))],s.2.natAbs≤1000:=fun s hs=>by
    rcases List.mem_append.mp hs with h | h
    · exact (hsh s h).2
    · rw [List.mem_singleton.mp h];show (1:Int).natAbs≤1000;decide
  refine ⟨_,rfl,?_,_,qbR prD shs (_,1),c3,_,n,_,rfl,hn,by rw [List.length_append];show shs.length+1≤100;omega,shs2,fun ls hll hlb=>?_⟩
  · rw [List.length_map];exact qaR (by show shs.length+1≤1000;omega)
  refine ⟨_,hcut,?_⟩
  refine qbX (f:=D.int) (fun x=>-x) (qap (by omega)) (fun x _=>rfl) ?_
  have hz0:∀ x∈List.replicate n (0:Int),x.natAbs≤1000:=fun x hx=>by rw [(List.mem_replicate.mp hx).2];decide
  refine ⟨⟨by omega,by omega,qaR (by show 1*(n:Int).toNat≤1000;omega)⟩,(List.replicate n (0:Int)).map D.int,by rw [qbh,Int.toNat_natCast],?_⟩
  refine q bs qs _ sp _ ls hB (by omega) (fun r hr'=>(hqb r hr').up (by decide)) (by rw [List.length_map];exact hal) (fun x hx=>?_) hsl (fun x hx=>Nat.le_trans (hsb x hx) (by decide)) List.length_replicate hz0 hll hlb
  obtain ⟨y,hy,rfl⟩:=List.mem_map.mp hx
  rw [Int.natAbs_neg]
  exact ab _ (hab y hy)
def qb2:SpD:=fun ds R=>∃ (cs:List Int) (n many:Nat) (big:Int),ds=[.lst (cs.map D.int),.int (n:Int),.int (many:Int),.int big]∧cs.length=6∧qgf n many big∧qmx n R
theorem qcW {n:Nat} {f:Addr} {fd:FuncData} (F:Fun K "_law_endless_built" "_law_endless_built" qaP f fd) (Q__law_bounds:Cl P w K mg base n "_law_bounds" ["_law_cell_here","_law_n"] qb8) (Q__law_spot_in:Cl P w K mg base n "_law_spot_in" ["_law_cell_here","_law_bounds_here"] qct) (Q__law_draws:Cl P w K mg base n "_law_draws" ["_law_cell_here","_law_salt","_law_sizes"] qaT) (Q__law_rows:Cl P w K mg base n "_law_rows" ["_law_cell_here","_law_salt","_law_n","_law_many","_law_big"] qcf) (Q__law_left:Cl P w K mg base n "_law_left" ["_law_entries","_law_spot"] qcL) (z_tuple:mg "tuple"=none) (z_zip:mg "zip"=none) (z_int:mg "int"=none) (z_range:mg "range"=none) (z_max:mg "max"=none):FnOk P w K mg base CX0 (n+1) f fd ["_law_cells","_law_n","_law_many","_law_big"] (lSp K qb2):=by
  refine F.okD sc__law_endless_built (fun ds R h=>?_) (fun cdv A outer s H E ds R hr h=>?_)
  · obtain ⟨cs,n,many,big,rfl,_⟩:=h;rfl
  obtain ⟨cs,n,many,big,rfl,hc,hA,q⟩:=h
  refine ⟨_,(qak (qaD (i:=4) sc__law_endless_built.nd rfl (Or.inr rfl) (qat Q__law_bounds hr rfl (qab (qaG (dvq 0) (PD.q qae) (fun _ _=>rfl)) (qab (dv 1) qaj qaa) qac) qac (qaf qaa qag)))
      (qak (qaD (i:=5) sc__law_endless_built.nd rfl (Or.inl rfl) (qat Q__law_spot_in hr rfl (qab (qaG (dvq 0) (PD.q qae) (fun _ _=>rfl)) (qab (dv 4) qaj qaa) qac) qac (qaf qaa qag)))
      (qak (qaD (i:=6) sc__law_endless_built.nd rfl (Or.inr rfl) (qat Q__law_draws hr rfl (qab (qaG (dvq 0) (PD.q qae) (fun _ _=>rfl)) (qab qae (qab (qaw qay (PD.q (qaw qaN (PD.q (PF.d (qaQ (qab qae qaj qad)))) (dvq 2))) (PD.q (qaw qaN (PD.q (PF.d (qaQ (qab qae qaj qad)))) (dvq 1)))) qaj qai) qad) qac) qac (qaf qad (qaf qai qag))))
      (qak (qaD (i:=7) sc__law_endless_built.nd rfl (Or.inl rfl) (qaC qaK rfl z_tuple PyProof.Rows.boot_tuple (qam (PD.q (PF.d (qbp (k:=1) (N':=["_law_k","_law_numbers","_law_many","_law_bounds_here"]) (cap:=[none,some 6,some 2,some 4]) rfl (.ok (show qaY ["_law_cells","_law_n","_law_many","_law_big","_law_bounds_here","_law_spot","_law_numbers","_law_ray","_law_sides","_law_entries","_law_bound","_law_rows_here","_law_slack"] (qah qaP) _ ["_law_k","_law_numbers","_law_many","_law_bounds_here"] [none,some 6,some 2,some 4]=true by decide +kernel)) (by decide +kernel) (qa7 (by decide)) (qbs rfl z_range (qab (dv 1) qaj qaa)) (fun _ _ _ _ _=>(qav (i:=0) (show List.Nodup (["_law_k","_law_numbers","_law_many","_law_bounds_here"]:List Str) by decide +kernel) rfl (Or.inl rfl))) (fun _ _ _ _ _=>(qaw qaN (PD.q (qaG (dvq 1) (PD.q (qaw qay (dvq 2) (dvq 0))) (fun _ _=>rfl))) (PD.q (qaC qlL rfl z_int PyProof.Rows.boot_int (qam (PD.q (qfZ qnx (PD.q (qaG (PD.q (qaG (dvq 3) (dvq 0) (fun _ _=>rfl))) (PD.q qae) (fun _ _=>rfl))) (PD.q qds) (qao _))) qas qb9) qb9 qag))))))) qas qal) qal qag))
      (qak (qda (i:=8) sc__law_endless_built.nd rfl (Or.inl rfl) (qaQ qaj))
      (qak (qdW PassesOwn.never rfl (qc8 (qat Q__law_rows hr rfl (qab (qaG (dvq 0) (PD.q qae) (fun _ _=>rfl)) (qab qae (qab (dv 1) (qab (qaw qay (dvq 2) (PD.q qae)) (qab (dv 3) qaj qaa) qai) qaa) qad) qac) qac (qaf qad (qaf qaa (qaf qai (qaf qaa qag)))))) (qcs (n:=2) rfl (qaB (qav (i:=9) sc__law_endless_built.nd rfl (Or.inl rfl)) (qaB (qav (i:=10) sc__law_endless_built.nd rfl (Or.inl rfl)) qbw))) (qa3 (qbO (qaU qlQ (PD.q (qat Q__law_left hr rfl (qab (dv 9) (qab (dv 7) qaj qaa) qaa) qaa (qaf qaa qag))) (PD.q qae) (qao _)) (qau (qaD (i:=9) sc__law_endless_built.nd rfl (Or.inl rfl) (qaC qaK rfl z_tuple PyProof.Rows.boot_tuple (qam (PD.q (PF.d (qbp (k:=1) (N':=["_law_one"]) (cap:=[none]) rfl (.ok (show qaY ["_law_cells","_law_n","_law_many","_law_big","_law_bounds_here","_law_spot","_law_numbers","_law_ray","_law_sides","_law_entries","_law_bound","_law_rows_here","_law_slack"] (qah qaP) _ ["_law_one"] [none]=true by decide +kernel)) (by decide +kernel) (qa7 (by decide)) (qc8 (dv 9)) (fun _ _ _ _ _=>(qav (i:=0) (show List.Nodup (["_law_one"]:List Str) by decide +kernel) rfl (Or.inl rfl))) (fun _ _ _ _ _=>(qdh (dvq 0)))))) qas qal) qal qag))) qa0)
      (qau (qby 8 (dv 9) (qb4 qaa) qaa))))
      (qak (qda (i:=11) sc__law_endless_built.nd rfl (Or.inl rfl) (qaQ qaj))
      (qak (qdW PassesOwn.never rfl (qeG rfl z_zip (qab (qcZ (dvq 8) qa9 (qaO (dvq 2))) (qab (dv 6) qaj qaa) qac)) (qcs (n:=2) rfl (qaB (qav (i:=9) sc__law_endless_built.nd rfl (Or.inl rfl)) (qaB (qav (i:=12) sc__law_endless_built.nd rfl (Or.inl rfl)) qbw))) (qau (qby 11 (qaJ (qab (dv 9) (qab (qaw qbN (PD.q (qat Q__law_left hr rfl (qab (dv 9) (qab (dv 5) qaj qaa) qaa) qaa (qaf qaa qag))) (PD.q (qaF (qeO rfl) rfl z_max PyProof.Rows.boot_max (qam (PD.q qae) (qam (PD.q (qaw qbN (dvq 12) (PD.q qae))) qas qai) qad) qad (qaf qai qag)))) qaj qai) qaa)) (qb4 qar) qar)))
      (qau (qaH (qaJ (qab (qaJ (qab (dv 4) (qab (qaC qaK rfl z_tuple PyProof.Rows.boot_tuple (qam (dvq 11) qas qaa) qaa qag) (qab (qaG (dvq 8) (dvq 2) (fun _ _=>rfl)) qaj qac) qax) qaa)) (qab (qaJ (qab (dv 5) (qab (dv 7) (qab (PF.d (qaQ qaj)) qaj qd8) qaa) qaa)) qaj qar) qar)))))))))))),?_⟩
  obtain ⟨hn,hm,hb0,hb1⟩:=hA
  obtain ⟨c0,c1,c2,c3,c4,c5,rfl⟩:=qhd hc
  have h9:(1000:Int)<2 ^ 9000:=by decide +kernel
  refine ⟨_,rfl,c0,n,rfl,hn,fun bs hB=>⟨_,rfl,c5,bs,rfl,by rw [hB.1];exact hn,hB.2,fun sp hsl hsb=>⟨_,rfl,⟨by omega,by omega,qaR (by show 1*(many:Int).toNat≤1000;omega)⟩,(List.replicate many (5:Int)).map D.int,by rw [qbh,Int.toNat_natCast],⟨by omega,by omega,qaR (by show 1*(n:Int).toNat≤1000;omega)⟩,(List.replicate n (4:Int)).map D.int,by rw [qbh,Int.toNat_natCast],?_,_,qdo D.int _ _,c2,36,List.replicate many (5:Int)++List.replicate n (4:Int),rfl,by rw [List.length_append,List.length_replicate,List.length_replicate];omega,by decide,by decide,fun z hz=>?_,fun es hD=>?_⟩⟩⟩
  · rw [List.length_map,List.length_map,List.length_replicate,List.length_replicate];exact qaR (by omega)
  · rcases List.mem_append.mp hz with h | h <;> rw [(List.mem_replicate.mp h).2]
    · exact ⟨by decide,by omega⟩
    · exact ⟨by decide,by omega⟩
  rw [hB.1] at hsl
  have hel:es.length=many+n:=by rw [hD.len,List.length_append,List.length_replicate,List.length_replicate]
  have heb:=qbV hD (b:=5) fun z hz=>by
    rcases List.mem_append.mp hz with h | h <;> rw [(List.mem_replicate.mp h).2] <;> decide
  refine ⟨⟨by omega,by omega⟩,?_⟩
  refine qbA (fun k=>.int (es.getD (many+k) 0*(if (bAt bs k).2.isNone then 1 else 0))) (qap (by omega)) (fun k hk=>?_) ?_
  · have hk':k<n:=by omega
    have hx:=heb _ (qbk (xs:=es) (d:=0) (i:=many+k) (by omega))
    refine ⟨_,qbv (i:=many+k) (qbZ (d:=0) (by omega)) (by push_cast;omega),_,qfO (k:=k) (by rw [hB.1];exact hk') (by omega),?_⟩
    generalize es.getD (many+k) 0=x at hx
    cases hm:(bAt bs k).2 with
    | none =>
      have e:bdD (bAt bs k)=.tup [.int (bAt bs k).1,.non]:=by unfold bdD;rw [hm];rfl
      rw [e]
      exact ⟨_,rfl,qa5 (by omega) (by omega),rfl⟩
    | some m =>
      have e:bdD (bAt bs k)=.tup [.int (bAt bs k).1,.int m]:=by unfold bdD;rw [hm];rfl
      rw [e]
      exact ⟨_,rfl,qa5 (by omega) (by omega),rfl⟩
  rw [show ((List.range (n:Int).toNat).map fun k=>D.int (es.getD (many+k) 0*(if (bAt bs k).2.isNone then 1 else 0)))=((List.range (n:Int).toNat).map fun k=>es.getD (many+k) 0*(if (bAt bs k).2.isNone then 1 else 0)).map D.int by rw [List.map_map];rfl]
  have ryl:((List.range (n:Int).toNat).map fun k=>es.getD (many+k) 0*(if (bAt bs k).2.isNone then 1 else 0)).length=n:=by rw [List.length_map,List.length_range,Int.toNat_natCast]
  have ryb:∀ x∈(List.range (n:Int).toNat).map fun k=>es.getD (many+k) 0*(if (bAt bs k).2.isNone then 1 else 0),x.natAbs≤100:=fun x hx=>by
    obtain ⟨k,hk,rfl⟩:=List.mem_map.mp hx
    have hk':=List.mem_range.mp hk
    have:=heb _ (qbk (xs:=es) (d:=0) (i:=many+k) (by omega))
    split <;> omega
  generalize ((List.range (n:Int).toNat).map fun k=>es.getD (many+k) 0*(if (bAt bs k).2.isNone then 1 else 0))=ry at ryl ryb
  refine ⟨_,rfl,c1,37,big,n,many+1,rfl,by decide,by decide,hn,by omega,hb0,by omega,fun rs hrl hrs=>?_⟩
  refine ⟨fun i ρ=>∃ (ss:List (List Int)) (u9 u10:Option Sl),ρ=[some (.v (.lst ([c0,c1,c2,c3,c4,c5].map D.int))),some (.v (.int n)),some (.v (.int many)),some (.v (.int big)),some (.v (.tup (bs.map bdD))),some (.v (.tup (sp.map D.int))),some (.v (.lst (es.map D.int))),some (.v (.tup (ry.map D.int))),some (.own (ss.map fun x=>.tup (x.map D.int))),u9,u10,none,none]∧ss.length=i∧∀ x∈ss,x.length=n∧∀ y∈x,y.natAbs≤2 ^ 40,⟨[],_,_,rfl,rfl,fun r h=>absurd h List.not_mem_nil⟩,?_,?_⟩
  · rintro i d ρ hd ⟨ss,u9,u10,rfl,hql,hqb⟩
    obtain ⟨r,rfl,hr1⟩:=qcl hd
    have hr2:=hrs r (List.mem_of_getElem? hr1)
    have hi:=qbe hr1
    refine ⟨rfl,fun ρ=>∃ x:List Int,(x.length=n∧∀ y∈x,y.natAbs≤2 ^ 40)∧ρ=[some (.v (.lst ([c0,c1,c2,c3,c4,c5].map D.int))),some (.v (.int n)),some (.v (.int many)),some (.v (.int big)),some (.v (.tup (bs.map bdD))),some (.v (.tup (sp.map D.int))),some (.v (.lst (es.map D.int))),some (.v (.tup (ry.map D.int))),some (.own (ss.map fun x=>.tup (x.map D.int))),some (.v (.tup (x.map D.int))),some (.v (.int r.2)),none,none],⟨r.1,ry,rfl,by rw [hr2.1];omega,fun x hx=>qdY (hr2.2.1 x hx) (by decide),fun y hy=>qg8 (Nat.le_trans (ryb y hy) (by decide)),fun _=>?_,fun _=>⟨r.1,⟨hr2.1,hr2.2.1⟩,rfl⟩⟩,?_⟩
    · refine qbX (f:=D.int) (fun x=>-x) (qap (by have:=hr2.1;omega)) (fun x _=>rfl) ⟨_,⟨by rw [List.length_map];exact hr2.1,fun y hy=>?_⟩,rfl⟩
      obtain ⟨x,hx,rfl⟩:=List.mem_map.mp hy
      rw [Int.natAbs_neg]
      exact hr2.2.1 x hx
    rintro ρ ⟨x,hx,rfl⟩
    refine ⟨?_,_,qbR (fun x:List Int=>D.tup (x.map D.int)) ss x,ss++[x],_,_,rfl,by rw [List.length_append,hql];rfl,fun t ht=>?_⟩
    · rw [List.length_map];exact qap (by omega)
    · rcases List.mem_append.mp ht with h | h
      · exact hqb t h
      · rw [List.mem_singleton.mp h];exact hx
  rintro ρ ⟨ss,u9,u10,rfl,hql,hqb⟩
  rw [List.length_map,hrl] at hql
  have ecut:qb7 (ss.map fun x=>D.tup (x.map D.int)) none (some (many:Int))=(ss.take many).map fun x=>D.tup (x.map D.int):=by rw [qaM,qbF]
  refine ⟨_,ecut,_,_,rfl,rfl,?_⟩
  rw [qgL]
  refine ⟨fun i ρ=>∃ (qs:List Row) (u9 u12:Option Sl),ρ=[some (.v (.lst ([c0,c1,c2,c3,c4,c5].map D.int))),some (.v (.int n)),some (.v (.int many)),some (.v (.int big)),some (.v (.tup (bs.map bdD))),some (.v (.tup (sp.map D.int))),some (.v (.lst (es.map D.int))),some (.v (.tup (ry.map D.int))),some (.own (ss.map fun x=>.tup (x.map D.int))),u9,u10,some (.own (qs.map qa1)),u12]∧qs.length=i∧∀ r∈qs,RowN n 51 r,⟨[],_,_,rfl,rfl,fun r h=>absurd h List.not_mem_nil⟩,?_,?_⟩
  · rintro i d ρ hd ⟨qs,u9,u12,rfl,hql2,hqb2⟩
    obtain ⟨⟨x,v⟩,rfl,hx⟩:=qcl hd
    obtain ⟨m1,m2⟩:=List.of_mem_zip (List.mem_of_getElem? hx)
    have hi:i<(List.zip (ss.take many) es).length:=qbe hx
    rw [List.length_zip,List.length_take] at hi
    have hv:=heb v m2
    have hx2:=hqb x (List.mem_of_mem_take m1)
    refine ⟨rfl,x,sp,rfl,by rw [hx2.1];omega,fun y hy=>qdY (hx2.2 y hy) (by decide),fun y hy=>qg8 (Nat.le_trans (hsb y hy) (by decide)),?_,_,qbR qa1 qs (x,dot x sp - (if v - 2>0 then v - 2 else 0)),qs++[_],_,_,rfl,by rw [List.length_append,hql2];rfl,fun t ht=>?_⟩
    · rw [List.length_map];exact qap (by omega)
    · rcases List.mem_append.mp ht with h | h
      · exact hqb2 t h
      · rw [List.mem_singleton.mp h]
        exact qhk (r:=(x,0)) hn ⟨hx2.1,hx2.2,show (0:Int).natAbs≤2 ^ 40 by decide⟩ hsb hv
  rintro ρ ⟨qs,u9,u12,rfl,hql2,hqb2⟩
  rw [List.length_map,List.length_zip,List.length_take,hel,hql] at hql2
  have hg:atI (ss.map fun x=>D.tup (x.map D.int)) (many:Int)=some (.tup ((ss.getD many []).map D.int)):=qbv (i:=many) (qbZ (d:=[]) (by omega)) rfl
  have hgb:=hqb _ (qbk (xs:=ss) (d:=[]) (i:=many) (by omega))
  refine ⟨_,hg,?_⟩
  exact q bs qs _ sp ry [] hB (by omega) (fun r hr'=>(hqb2 r hr').up (by decide)) hgb.1 (fun x hx=>Nat.le_trans (hgb.2 x hx) (by decide)) hsl (fun x hx=>Nat.le_trans (hsb x hx) (by decide)) ryl (fun x hx=>Nat.le_trans (ryb x hx) (by decide)) (by decide) (fun l hl=>absurd hl List.not_mem_nil)
def qdl:SpD:=fun ds R=>∃ (cs:List Int) (n many:Nat) (big:Int),ds=[.lst (cs.map D.int),.int (n:Int),.int (many:Int),.int big]∧cs.length=6∧qgf n many big∧qmx n R
theorem qfU {n:Nat} {f:Addr} {fd:FuncData} (F:Fun K "_law_wild" "_law_wild" qbB f fd) (Q__law_draws:Cl P w K mg base n "_law_draws" ["_law_cell_here","_law_salt","_law_sizes"] qaT) (Q__law_rows:Cl P w K mg base n "_law_rows" ["_law_cell_here","_law_salt","_law_n","_law_many","_law_big"] qcf) (Q__law_free_line:Cl P w K mg base n "_law_free_line" ["_law_cell_here","_law_n"] qbY) (z_range:mg "range"=none) (z_tuple:mg "tuple"=none):FnOk P w K mg base CX0 (n+1) f fd ["_law_cells","_law_n","_law_many","_law_big"] (lSp K qdl):=by
  refine F.okD sc__law_wild (fun ds R h=>?_) (fun cdv A outer s H E ds R hr h=>?_)
  · obtain ⟨cs,n,many,big,rfl,_⟩:=h;rfl
  obtain ⟨cs,n,many,big,rfl,hc,hA,q⟩:=h
  refine ⟨_,(qak (qaD (i:=4) sc__law_wild.nd rfl (Or.inl rfl) (qat Q__law_draws hr rfl (qab (qaG (dvq 0) (PD.q qae) (fun _ _=>rfl)) (qab qae (qab (qaw qay (PD.q (qaw qay (PD.q (qaw qaN (PD.q (PF.d (qaQ (qab qae (qab qae qaj qad) qad)))) (dvq 1))) (PD.q (qaw qaN (PD.q (PF.d (qaQ (qab qae qaj qad)))) (dvq 1))))) (PD.q (qaw qaN (PD.q (PF.d (qaQ (qab qae qaj qad)))) (dvq 1)))) qaj qai) qad) qac) qac (qaf qad (qaf qai qag))))
      (qak (qda (i:=5) sc__law_wild.nd rfl (Or.inl rfl) (qaQ qaj))
      (qak (qdW PassesOwn.never rfl (qbs rfl z_range (qab (dv 1) qaj qaa)) (qav (i:=6) sc__law_wild.nd rfl (Or.inl rfl)) (qak (qaD (i:=7) sc__law_wild.nd rfl (Or.inl rfl) (qaw qbN (PD.q (qaG (dvq 4) (PD.q (qaw qay (PD.q (qaw qaN (PD.q qae) (dvq 6))) (PD.q qae))) (fun _ _=>rfl))) (PD.q qae)))
      (qa3 (qbO (qaU qkJ (dvq 7) (PD.q qae) (qao _)) (qau (qaD (i:=7) sc__law_wild.nd rfl (Or.inl rfl) qds)) qa0)
      (qau (qby 5 (qaJ (qab (qaw qbN (PD.q (qaG (dvq 4) (PD.q (qaw qaN (PD.q qae) (dvq 6))) (fun _ _=>rfl))) (PD.q qae)) (qab (dv 7) qaj qaa) qai)) (qb4 qar) qar)))))
      (qak (qaD (i:=8) sc__law_wild.nd rfl (Or.inl rfl) (qat Q__law_rows hr rfl (qab (qaG (dvq 0) (PD.q qae) (fun _ _=>rfl)) (qab qae (qab (dv 1) (qab (qaw qay (dvq 2) (PD.q qae)) (qab (dv 3) qaj qaa) qai) qaa) qad) qac) qac (qaf qad (qaf qaa (qaf qai (qaf qaa qag))))))
      (qak (qaD (i:=9) sc__law_wild.nd rfl (Or.inl rfl) (qaC qaK rfl z_tuple PyProof.Rows.boot_tuple (qam (PD.q (PF.d (qbp (k:=1) (N':=["_law_one"]) (cap:=[none]) rfl (.ok (show qaY ["_law_cells","_law_n","_law_many","_law_big","_law_numbers","_law_bounds_here","_law_k","_law_most","_law_drawn","_law_spot","_law_ray","_law_paper"] (qah qbB) _ ["_law_one"] [none]=true by decide +kernel)) (by decide +kernel) (qa7 (by decide)) (qc8 (qcZ (dvq 4) (qaO (PD.q (qaw qaN (PD.q qae) (dvq 1)))) (qaO (PD.q (qaw qaN (PD.q qae) (dvq 1)))))) (fun _ _ _ _ _=>(qav (i:=0) (show List.Nodup (["_law_one"]:List Str) by decide +kernel) rfl (Or.inl rfl))) (fun _ _ _ _ _=>(qaw qbN (dvq 0) (PD.q qae)))))) qas qal) qal qag))
      (qak (qaD (i:=10) sc__law_wild.nd rfl (Or.inl rfl) (qaC qaK rfl z_tuple PyProof.Rows.boot_tuple (qam (PD.q (PF.d (qbp (k:=1) (N':=["_law_one"]) (cap:=[none]) rfl (.ok (show qaY ["_law_cells","_law_n","_law_many","_law_big","_law_numbers","_law_bounds_here","_law_k","_law_most","_law_drawn","_law_spot","_law_ray","_law_paper"] (qah qbB) _ ["_law_one"] [none]=true by decide +kernel)) (by decide +kernel) (qa7 (by decide)) (qc8 (qcZ (dvq 4) (qaO (PD.q (qaw qaN (PD.q qae) (dvq 1)))) qa9)) (fun _ _ _ _ _=>(qav (i:=0) (show List.Nodup (["_law_one"]:List Str) by decide +kernel) rfl (Or.inl rfl))) (fun _ _ _ _ _=>(qaw qbN (dvq 0) (PD.q qae)))))) qas qal) qal qag))
      (qak (qcN (i:=11) (k:=1) (N':=["_law_cell_here","_law_n"]) (cap:=[none,some 1]) rfl sc__law_wild.nd rfl (Or.inl rfl) (.ok (show qaY ["_law_cells","_law_n","_law_many","_law_big","_law_numbers","_law_bounds_here","_law_k","_law_most","_law_drawn","_law_spot","_law_ray","_law_paper"] (qah qbB) _ ["_law_cell_here","_law_n"] [none,some 1]=true by decide +kernel)) (by decide +kernel) (qa7 (by decide)) (qc8 (qcZ (dvq 0) (qaO (PD.q qae)) qa9)) (fun _ _ _ _ _=>(qav (i:=0) (show List.Nodup (["_law_cell_here","_law_n"]:List Str) by decide +kernel) rfl (Or.inl rfl))) (fun _ _ _ _ _=>(qat Q__law_free_line hr rfl (qab (dv 0) (qab (dv 1) qaj qaa) qaa) qaa (qaf qaa qag))))
      (qau (qaH (qaJ (qab (qaJ (qab (qaC qaK rfl z_tuple PyProof.Rows.boot_tuple (qam (dvq 5) qas qaa) qaa qag) (qab (qaC qaK rfl z_tuple PyProof.Rows.boot_tuple (qam (PD.q (qcZ (dvq 8) qa9 (qaO (dvq 2)))) qas qac) qac qag) (qab (qaG (PD.q (qaG (dvq 8) (dvq 2) (fun _ _=>rfl))) (PD.q qae) (fun _ _=>rfl)) qaj qac) qax) qax)) (qab (qaJ (qab (dv 9) (qab (dv 10) (qab (dv 11) qaj qaa) qaa) qaa)) qaj qar) qar))))))))))),?_⟩
  obtain ⟨hn,hm,hb0,hb1⟩:=hA
  obtain ⟨c0,c1,c2,c3,c4,c5,rfl⟩:=qhd hc
  have h9:(1000:Int)<2 ^ 9000:=by decide +kernel
  have hrl:(List.replicate (n:Int).toNat [(7:Int),9]).flatten.length=2*n:=by simp;omega
  have e2:(2:Int)*(n:Int)=((2*n:Nat):Int):=by push_cast;rfl
  have e3:(3:Int)*(n:Int)=((3*n:Nat):Int):=by push_cast;rfl
  refine ⟨_,rfl,⟨by omega,by omega,qaR (by show 2*(n:Int).toNat≤1000;omega)⟩,_,qgv (n:Int).toNat [7,9],⟨by omega,by omega,qaR (by show 1*(n:Int).toNat≤1000;omega)⟩,(List.replicate n (7:Int)).map D.int,by rw [qbh,Int.toNat_natCast],?_,_,qdo D.int _ _,⟨by omega,by omega,qaR (by show 1*(n:Int).toNat≤1000;omega)⟩,(List.replicate n (5:Int)).map D.int,by rw [qbh,Int.toNat_natCast],?_,_,qdo D.int _ _,c0,38,_,rfl,?_,by decide,by decide,fun z hz=>?_,fun es hD=>?_⟩
  · rw [List.length_map,List.length_map,hrl,List.length_replicate];exact qaR (by omega)
  · rw [List.length_map,List.length_map,List.length_append,hrl,List.length_replicate,List.length_replicate];exact qaR (by omega)
  · rw [List.length_append,List.length_append,hrl,List.length_replicate,List.length_replicate];omega
  · have:z=7∨z=9∨z=5:=by
      rcases List.mem_append.mp hz with h | h
      · rcases List.mem_append.mp h with h | h
        · have:=qe1 h
          simp at this
          omega
        · exact .inl (List.mem_replicate.mp h).2
      · exact .inr (.inr (List.mem_replicate.mp h).2)
    omega
  have hel:es.length=4*n:=by rw [hD.len,List.length_append,List.length_append,hrl,List.length_replicate,List.length_replicate];omega
  have heb:=qbV hD (b:=9) fun z hz=>by
    rcases List.mem_append.mp hz with h | h
    · rcases List.mem_append.mp h with h | h
      · have:=qe1 h
        simp at this
        omega
      · rw [(List.mem_replicate.mp h).2];decide
    · rw [(List.mem_replicate.mp h).2];decide
  have hat:∀ o:Nat,o<4*n→∀ k:Int,k=(o:Int)→atI (es.map D.int) k=some (.int (es.getD o 0)):=fun o ho k e=>qbv (i:=o) (qbZ (by omega)) e
  have hbd:∀ o:Nat,o<4*n→0≤es.getD o 0∧es.getD o 0<9:=fun o ho=>heb _ (qbk (by omega))
  refine ⟨⟨by omega,by omega⟩,fun i ρ=>∃ (bs:List Bd) (u6 u7:Option Sl),ρ=[some (.v (.lst ([c0,c1,c2,c3,c4,c5].map D.int))),some (.v (.int n)),some (.v (.int many)),some (.v (.int big)),some (.v (.lst (es.map D.int))),some (.own (bs.map bdD)),u6,u7,none,none,none,none]∧qlT i bs,⟨[],_,_,rfl,rfl,fun b hb=>absurd hb List.not_mem_nil⟩,?_,?_⟩
  · rintro i d ρ hd ⟨bs,u6,u7,rfl,hB⟩
    obtain ⟨hi,rfl⟩:=qbK hd
    have hi':i<n:=by omega
    have b1:=hbd (2*i) (by omega)
    have b2:=hbd (2*i+1) (by omega)
    refine ⟨qa5 (by decide) (by decide),_,hat (2*i+1) (by omega) _ (by omega),fun ρ=>∃ m:Option Int,(∀ x,m=some x→x.natAbs≤20)∧ρ=[some (.v (.lst ([c0,c1,c2,c3,c4,c5].map D.int))),some (.v (.int n)),some (.v (.int many)),some (.v (.int big)),some (.v (.lst (es.map D.int))),some (.own (bs.map bdD)),some (.v (.int (0+(i:Int)))),some (.v (oI m)),none,none,none,none],⟨fun h=>⟨none,fun x hx=>(by cases hx),rfl⟩,fun h=>⟨some _,fun x hx=>?_,rfl⟩⟩,?_⟩
    · cases hx
      omega
    rintro ρ ⟨m,hm,rfl⟩
    refine ⟨qa5 (by decide) (by decide),_,hat (2*i) (by omega) _ (by omega),?_,_,qbR bdD bs (es.getD (2*i) 0 - 3,m),bs++[(es.getD (2*i) 0 - 3,m)],_,_,rfl,by rw [List.length_append,hB.1];rfl,fun b hb=>?_⟩
    · rw [List.length_map,hB.1];exact qap (by omega)
    · rcases List.mem_append.mp hb with h | h
      · exact hB.2 b h
      · rw [List.mem_singleton.mp h]
        exact ⟨by show (es.getD (2*i) 0 - 3).natAbs≤20;omega,hm⟩
  rintro ρ ⟨bs,u6,u7,rfl,hB⟩
  rw [qbm,Int.toNat_natCast] at hB
  refine ⟨_,rfl,c1,39,big,n,many+1,rfl,by decide,by decide,hn,by omega,hb0,by omega,fun rs hrl hrs=>?_⟩
  obtain ⟨pl,pm⟩:=qgA (xs:=es) e2 e3 (by omega) (by omega)
  have ecut:=qaM D.int es (some (2*(n:Int))) (some (3*(n:Int)))
  generalize qb7 es (some (2*(n:Int))) (some (3*(n:Int)))=ps at pl pm ecut
  refine ⟨qa5 (by decide) (by decide),qa5 (by decide) (by decide),_,ecut,?_⟩
  refine qbX (f:=D.int) (fun x=>x - 3) (qap (by omega)) (fun x _=>rfl) ?_
  have ecut2:qb7 (es.map D.int) (some (3*(n:Int))) none=(es.drop (3*n)).map D.int:=by rw [qaM,e3,qcp]
  have dl:(es.drop (3*n)).length=n:=by rw [List.length_drop];omega
  refine ⟨qa5 (by decide) (by decide),_,ecut2,?_⟩
  refine qbX (f:=D.int) (fun x=>x - 1) (qap (by omega)) (fun x _=>rfl) ?_
  refine ⟨[c2,c3,c4,c5].map D.int,rfl,qap (show 4≤1000 by decide),fun _ y=>∃ l,LnB 1000 l∧y=lnD l,fun i d hd=>?_,fun ys hyl hy=>?_⟩
  · obtain ⟨c,rfl,_⟩:=qcl hd
    exact ⟨c,n,rfl,hn,fun l hl=>⟨l,hl,rfl⟩⟩
  obtain ⟨ls,rfl,hls⟩:=qg6 hy
  have hll:ls.length=4:=by rw [List.length_map] at hyl;exact hyl
  have ecut3:qb7 (rs.map qa1) none (some (many:Int))=(rs.take many).map qa1:=by rw [qaM,qbF]
  have hg:atI (rs.map qa1) (many:Int)=some (qa1 (rs.getD many ([],0))):=qbv (i:=many) (qbZ (d:=([],0)) (by omega)) rfl
  have hgb:=hrs _ (qbk (xs:=rs) (d:=([],0)) (i:=many) (by omega))
  refine ⟨_,ecut3,_,hg,_,rfl,?_⟩
  refine q bs (rs.take many) _ _ _ ls hB (by rw [List.length_take];omega) (fun r hr'=>(hrs r (List.mem_of_mem_take hr')).up (by decide)) hgb.1 (fun x hx=>Nat.le_trans (hgb.2.1 x hx) (by decide)) (by rw [List.length_map];omega) (fun x hx=>?_) (by rw [List.length_map];exact dl) (fun x hx=>?_) (by omega) hls
  · obtain ⟨y,hy,rfl⟩:=List.mem_map.mp hx
    have:=heb y (pm y hy)
    omega
  · obtain ⟨y,hy,rfl⟩:=List.mem_map.mp hx
    have:=heb y (List.mem_of_mem_drop hy)
    omega
def qev:SpD:=fun ds R=>∃ (k:Int) (wl:Bool) (cs:List Int) (n many:Nat) (big:Int),ds=[.int k,.bl wl,.lst (cs.map D.int),.int (n:Int),.int (many:Int),.int big]∧cs.length=6∧qgf n many big∧qmx n R
theorem qfB {n:Nat} {f:Addr} {fd:FuncData} (F:Fun K "_law_made" "_law_made" qcI f fd) (Q__law_best_built:Cl P w K mg base n "_law_best_built" ["_law_cells","_law_n","_law_many","_law_big"] qcx) (Q__law_wild:Cl P w K mg base n "_law_wild" ["_law_cells","_law_n","_law_many","_law_big"] qdl) (Q__law_none_built:Cl P w K mg base n "_law_none_built" ["_law_cells","_law_n","_law_many","_law_big"] qcB) (Q__law_endless_built:Cl P w K mg base n "_law_endless_built" ["_law_cells","_law_n","_law_many","_law_big"] qb2):FnOk P w K mg base CX0 (n+1) f fd ["_law_kind","_law_wild_here","_law_cells","_law_n","_law_many","_law_big"] (lSp K qev):=by
  refine F.okD qfA (fun ds R h=>?_) (fun cdv A outer s H E ds R hr h=>?_)
  · obtain ⟨k,wl,cs,n,many,big,rfl,_⟩:=h;rfl
  obtain ⟨k,wl,cs,n,many,big,rfl,hc,hA,q⟩:=h
  refine ⟨_,(qa3 (qbO (qdc (dvq 1) (fun _=>rfl)) (qau (qaH (qat Q__law_wild hr rfl (qab (dv 2) (qab (dv 3) (qab (dv 4) (qab (dv 5) qaj qaa) qaa) qaa) qaa) qaa (qaf qaa (qaf qaa (qaf qaa qag)))))) qa0)
      (qa3 (qbO (qaU (qcD hr.units) (dvq 0) (PD.q qae) (qao _)) (qau (qaH (qat Q__law_none_built hr rfl (qab (dv 2) (qab (dv 3) (qab (dv 4) (qab (dv 5) qaj qaa) qaa) qaa) qaa) qaa (qaf qaa (qaf qaa (qaf qaa qag)))))) qa0)
      (qa3 (qbO (qaU (qcD hr.units) (dvq 0) (PD.q qae) (qao _)) (qau (qaH (qat Q__law_endless_built hr rfl (qab (dv 2) (qab (dv 3) (qab (dv 4) (qab (dv 5) qaj qaa) qaa) qaa) qaa) qaa (qaf qaa (qaf qaa (qaf qaa qag)))))) qa0)
      (qau (qaH (qat Q__law_best_built hr rfl (qab (dv 2) (qab (dv 3) (qab (dv 4) (qab (dv 5) qaj qaa) qaa) qaa) qaa) qaa (qaf qaa (qaf qaa (qaf qaa qag))))))))),?_⟩
  refine ⟨fun ρ=>ρ=[some (.v (.int k)),some (.v (.bl wl)),some (.v (.lst (cs.map D.int))),some (.v (.int n)),some (.v (.int many)),some (.v (.int big))],⟨fun _=>⟨cs,n,many,big,rfl,hc,hA,q⟩,fun _=>rfl⟩,?_⟩
  rintro ρ rfl
  refine ⟨fun ρ=>ρ=[some (.v (.int k)),some (.v (.bl wl)),some (.v (.lst (cs.map D.int))),some (.v (.int n)),some (.v (.int many)),some (.v (.int big))],⟨fun _=>⟨cs,n,many,big,rfl,hc,hA,q⟩,fun _=>rfl⟩,?_⟩
  rintro ρ rfl
  refine ⟨fun ρ=>ρ=[some (.v (.int k)),some (.v (.bl wl)),some (.v (.lst (cs.map D.int))),some (.v (.int n)),some (.v (.int many)),some (.v (.int big))],⟨fun _=>⟨cs,n,many,big,rfl,hc,hA,q⟩,fun _=>rfl⟩,?_⟩
  rintro ρ rfl
  exact ⟨cs,n,many,big,rfl,hc,hA,q⟩
def qed:SpD:=fun ds R=>∃ (k:Int) (sp ray:List Int) (ls:List Ln),ds=[.int k,qbM sp ray ls]∧R (qhF k sp ray ls)
theorem qfN {n:Nat} {f:Addr} {fd:FuncData} (F:Fun K "_law_told" "_law_told" qcK f fd) (z_tuple:mg "tuple"=none):FnOk P w K mg base CX0 (n+1) f fd ["_law_kind","_law_parts"] (lSp K qed):=by
  refine F.okD sc__law_told (fun ds R h=>?_) (fun cdv A outer s H E ds R hr h=>?_)
  · obtain ⟨k,sp,ray,ls,rfl,_⟩:=h;rfl
  obtain ⟨k,sp,ray,ls,rfl,q⟩:=h
  refine ⟨_,(qak (qgz (dv 1) (qcs (n:=3) rfl (qaB (qav (i:=2) sc__law_told.nd rfl (Or.inl rfl)) (qaB (qav (i:=3) sc__law_told.nd rfl (Or.inl rfl)) (qaB (qav (i:=4) sc__law_told.nd rfl (Or.inl rfl)) qbw)))))
      (qa3 (qbO (qaU (qcD hr.units) (dvq 0) (PD.q qae) (qao _)) (qau (qaH (qaJ (qab qbC (qab (qaC qaK rfl z_tuple PyProof.Rows.boot_tuple (qam (dvq 4) qas qaa) qaa qag) qaj qax) qad)))) qa0)
      (qa3 (qbO (qaU (qcD hr.units) (dvq 0) (PD.q qae) (qao _)) (qau (qaH (qaJ (qab qbC (qab (dv 2) (qab (dv 3) qaj qaa) qaa) qad)))) qa0)
      (qau (qaH (qaJ (qab qbC (qab (dv 2) (qab (qaC qaK rfl z_tuple PyProof.Rows.boot_tuple (qam (dvq 4) qas qaa) qaa qag) qaj qax) qaa) qad))))))),?_⟩
  refine ⟨rfl,fun ρ=>k≠0∧ρ=[some (.v (.int k)),some (.v (qbM sp ray ls)),some (.v (.tup (sp.map D.int))),some (.v (.tup (ray.map D.int))),some (.v (.lst (ls.map lnD)))],⟨fun h=>?_,fun h=>⟨fun e=>(by subst e;cases h),rfl⟩⟩,?_⟩
  · have e:k=0:=by simpa using h
    subst e
    exact q
  rintro ρ ⟨k0,rfl⟩
  refine ⟨fun ρ=>k≠1∧ρ=[some (.v (.int k)),some (.v (qbM sp ray ls)),some (.v (.tup (sp.map D.int))),some (.v (.tup (ray.map D.int))),some (.v (.lst (ls.map lnD)))],⟨fun h=>?_,fun h=>⟨fun e=>(by subst e;cases h),rfl⟩⟩,?_⟩
  · have e:k=1:=by simpa using h
    subst e
    exact q
  rintro ρ ⟨k1,rfl⟩
  unfold qhF at q
  rw [if_neg k0,if_neg k1] at q
  exact q
def qnK (sp sp':List Int):Prop:=sp'.length≤sp.length+1∧∀ x∈sp',x.natAbs≤1010
theorem qe9 {α:Type} {xs:List α} {j:Nat} {x:α} (h:j<xs.length):(xs.take j++[x]++xs.drop (j+1)).length=xs.length:=by
  rw [List.length_append,List.length_append,List.length_take,List.length_drop]
  show min j xs.length+1+_=_
  omega
theorem qfb {α:Type} {xs:List α} {j:Nat} {x y:α} (h:y∈xs.take j++[x]++xs.drop (j+1)):y=x∨y∈xs:=by
  rcases List.mem_append.mp h with h | h
  · rcases List.mem_append.mp h with h | h
    · exact .inr (List.mem_of_mem_take h)
    · exact .inl (List.mem_singleton.mp h)
  · exact .inr (List.mem_of_mem_drop h)
theorem qfo {a:Int} {n:Nat} (h:0<n):∃ j:Nat,j<n∧a % (n:Int)=(j:Int):=by
  have h1:=Int.emod_nonneg a (show (n:Int)≠0 by omega)
  have h2:=Int.emod_lt_of_pos a (show (0:Int)<n by omega)
  exact ⟨(a % (n:Int)).toNat,by omega,by omega⟩
def qcT:SpD:=fun ds R=>∃ (sp:List Int) (w a st:Int),ds=[.tup (sp.map D.int),.int w,.int a,.int st]∧sp.length≤8∧(∀ x∈sp,x.natAbs≤1000)∧0≤a∧st.natAbs≤10∧∀ sp',qnK sp sp'→R (.tup (sp'.map D.int))
theorem qdN {n:Nat} {f:Addr} {fd:FuncData} (F:Fun K "_law_bent_spot" "_law_bent_spot" qbz f fd) (z_len:mg "len"=none):FnOk P w K mg base CX0 (n+1) f fd ["_law_spot","_law_way","_law_at","_law_step"] (lSp K qcT):=by
  refine F.okD sc__law_bent_spot (fun ds R h=>?_) (fun cdv A outer s H E ds R hr h=>?_)
  · obtain ⟨sp,w_,a,st,rfl,_⟩:=h;rfl
  obtain ⟨sp,w_,a,st,rfl,hl,hb,ha,hst,q⟩:=h
  refine ⟨_,(qa3 (qbO (qaU (qcD hr.units) (dvq 1) (PD.q qae) (qao _)) (qau (qaH (qaw qay (dvq 0) (PD.q (qaJ (qab qae qaj qad)))))) qa0)
      (qa3 (qbO (qaU (qcD hr.units) (dvq 1) (PD.q qae) (qao _)) (qau (qaH (qcZ (dvq 0) (qaO (PD.q qae)) qa9))) qa0)
      (qa3 (qbO (qfR (qdc (dvq 0) (fun _=>rfl))) (qau (qaH (dv 0))) qa0)
      (qak (qaD (i:=2) sc__law_bent_spot.nd rfl (Or.inl rfl) (qaw qc7 (dvq 2) (PD.q (qaF qbP rfl z_len PySem.boot_len (qam (dvq 0) qas qaa) qaa qag))))
      (qau (qaH (qaw qay (PD.q (qaw qay (PD.q (qcZ (dvq 0) qa9 (qaO (dvq 2)))) (PD.q (qaJ (qab (qaw qay (PD.q (qaG (dvq 0) (dvq 2) (fun _ _=>rfl))) (dvq 3)) qaj qai))))) (PD.q (qcZ (dvq 0) (qaO (PD.q (qaw qay (dvq 2) (PD.q qae)))) qa9))))))))),?_⟩
  have hb':∀ x∈sp,x.natAbs≤1010:=fun x hx=>Nat.le_trans (hb x hx) (by decide)
  refine ⟨fun ρ=>ρ=[some (.v (.tup (sp.map D.int))),some (.v (.int w_)),some (.v (.int a)),some (.v (.int st))],⟨fun _=>⟨?_,_,qbR D.int sp 0,q _ ⟨by rw [List.length_append];exact Nat.le_refl _,fun x hx=>?_⟩⟩,fun _=>rfl⟩,?_⟩
  · rw [List.length_map];exact qaR (by show sp.length+1≤1000;omega)
  · rcases List.mem_append.mp hx with h | h
    · exact hb' x h
    · rw [List.mem_singleton.mp h];decide
  rintro ρ rfl
  refine ⟨fun ρ=>ρ=[some (.v (.tup (sp.map D.int))),some (.v (.int w_)),some (.v (.int a)),some (.v (.int st))],⟨fun _=>⟨(sp.drop 1).map D.int,by rw [qaM,show (1:Int)=((1:Nat):Int) from rfl,qcp],q _ ⟨by rw [List.length_drop];omega,fun x hx=>hb' x (List.mem_of_mem_drop hx)⟩⟩,fun _=>rfl⟩,?_⟩
  rintro ρ rfl
  refine ⟨fun ρ=>sp≠[]∧ρ=[some (.v (.tup (sp.map D.int))),some (.v (.int w_)),some (.v (.int a)),some (.v (.int st))],⟨fun _=>q sp ⟨by omega,hb'⟩,fun h=>⟨fun e=>(by subst e;cases h),rfl⟩⟩,?_⟩
  rintro ρ ⟨hne,rfl⟩
  have hpos:=List.length_pos_iff.mpr hne
  have hL:((sp.map D.int).length:Int)=(sp.length:Int):=by rw [List.length_map]
  obtain ⟨j,hj,ej⟩:=qfo (a:=a) hpos
  rw [← hL] at ej
  have ec1:qb7 (sp.map D.int) none (some (a % ((sp.map D.int).length:Int)))=(sp.take j).map D.int:=by rw [ej,qaM,qbF]
  have ec2:qb7 (sp.map D.int) (some (a % ((sp.map D.int).length:Int)+1)) none=(sp.drop (j+1)).map D.int:=by rw [ej,show (j:Int)+1=((j+1:Nat):Int) by push_cast;rfl,qaM,qcp]
  have hx:=hb _ (qbk (xs:=sp) (d:=0) (i:=j) hj)
  refine ⟨by omega,_,ec1,_,qbv (i:=j) (qbZ (d:=0) hj) ej,?_,_,qbR D.int _ _,_,ec2,?_,_,qdo D.int _ _,q _ ⟨?_,fun x hx'=>?_⟩⟩
  · rw [List.length_map,List.length_take];exact qaR (by show min j sp.length+1≤1000;omega)
  · rw [List.length_map,List.length_map,List.length_append,List.length_take,List.length_drop];exact qaR (by show min j sp.length+1+_≤1000;omega)
  · rw [qe9 hj];omega
  · rcases qfb hx' with rfl | h
    · omega
    · exact hb' x h
def qcQ:SpD:=fun ds R=>∃ (bs:List Bd) (rs:List Row) (gs:List Int) (n:Nat) (sl a st:Int),ds=[qc9 bs rs gs,.int sl,.int a,.int st]∧n≤8∧qlT n bs∧rs.length≤11∧(∀ r∈rs,RowN n 69 r)∧gs.length=n∧(∀ x∈gs,x.natAbs≤2 ^ 69)∧st.natAbs≤10∧∀ bs' rs' gs',PlOk n bs' rs' gs'→R (qc9 bs' rs' gs')
theorem qdI {n:Nat} {f:Addr} {fd:FuncData} (F:Fun K "_law_bent_plan" "_law_bent_plan" qbx f fd) (z_len:mg "len"=none):FnOk P w K mg base CX0 (n+1) f fd ["_law_plan","_law_spoil","_law_at","_law_step"] (lSp K qcQ):=by
  refine F.okD sc__law_bent_plan (fun ds R h=>?_) (fun cdv A outer s H E ds R hr h=>?_)
  · obtain ⟨bs,rs,gs,n,sl,a,st,rfl,_⟩:=h;rfl
  obtain ⟨bs,rs,gs,n,sl,a,st,rfl,hn,hB,hrl,hrb,hgl,hgb,hst,q⟩:=h
  refine ⟨_,(qak (qgz (dv 0) (qcs (n:=3) rfl (qaB (qav (i:=4) sc__law_bent_plan.nd rfl (Or.inl rfl)) (qaB (qav (i:=5) sc__law_bent_plan.nd rfl (Or.inl rfl)) (qaB (qav (i:=6) sc__law_bent_plan.nd rfl (Or.inl rfl)) qbw)))))
      (qa3 (qbO (PWD.td (qgp (qaU (qcD hr.units) (dvq 1) (PD.q qae) (qao _)) (qej (qdc (dvq 5) (fun _=>rfl))))) (qak (qaD (i:=2) sc__law_bent_plan.nd rfl (Or.inl rfl) (qaw qc7 (dvq 2) (PD.q (qaF qbP rfl z_len PySem.boot_len (qam (dvq 5) qas qaa) qaa qag))))
      (qak (qgz (qaG (dvq 5) (dvq 2) (fun _ _=>rfl)) (qcs (n:=2) rfl (qaB (qav (i:=7) sc__law_bent_plan.nd rfl (Or.inl rfl)) (qaB (qav (i:=8) sc__law_bent_plan.nd rfl (Or.inl rfl)) qbw))))
      (qau (qaD (i:=5) sc__law_bent_plan.nd rfl (Or.inl rfl) (qaw qay (PD.q (qaw qay (PD.q (qcZ (dvq 5) qa9 (qaO (dvq 2)))) (PD.q (qaJ (qab (qaJ (qab (dv 7) (qab (qaw qay (dvq 8) (dvq 3)) qaj qai) qaa)) qaj qar))))) (PD.q (qcZ (dvq 5) (qaO (PD.q (qaw qay (dvq 2) (PD.q qae)))) qa9))))))) qa0)
      (qa3 (qbO (PWD.td (qgp (qaU (qcD hr.units) (dvq 1) (PD.q qae) (qao _)) (qej (qdc (dvq 6) (fun _=>rfl))))) (qak (qaD (i:=2) sc__law_bent_plan.nd rfl (Or.inl rfl) (qaw qc7 (dvq 2) (PD.q (qaF qbP rfl z_len PySem.boot_len (qam (dvq 6) qas qaa) qaa qag))))
      (qau (qaD (i:=6) sc__law_bent_plan.nd rfl (Or.inl rfl) (qaw qay (PD.q (qaw qay (PD.q (qcZ (dvq 6) qa9 (qaO (dvq 2)))) (PD.q (qaJ (qab (qaw qay (PD.q (qaG (dvq 6) (dvq 2) (fun _ _=>rfl))) (dvq 3)) qaj qai))))) (PD.q (qcZ (dvq 6) (qaO (PD.q (qaw qay (dvq 2) (PD.q qae)))) qa9)))))) qa0)
      (qa3 (qbO (PWD.td (qgp (qaU qkJ (dvq 1) (PD.q qae) (qao _)) (qej (qdc (dvq 4) (fun _=>rfl))))) (qak (qaD (i:=2) sc__law_bent_plan.nd rfl (Or.inl rfl) (qaw qc7 (dvq 2) (PD.q (qaF qbP rfl z_len PySem.boot_len (qam (dvq 4) qas qaa) qaa qag))))
      (qak (qgz (qaG (dvq 4) (dvq 2) (fun _ _=>rfl)) (qcs (n:=2) rfl (qaB (qav (i:=9) sc__law_bent_plan.nd rfl (Or.inl rfl)) (qaB (qav (i:=10) sc__law_bent_plan.nd rfl (Or.inl rfl)) qbw))))
      (qa3 (qbO (qaU (qcD hr.units) (dvq 1) (PD.q qae) (qao _)) (qau (qaD (i:=9) sc__law_bent_plan.nd rfl (Or.inl rfl) (qaw qay (dvq 9) (dvq 3)))) (qau (qbO (qaU qnx (dvq 10) (PD.q qds) (qao _)) (qau (qaD (i:=10) sc__law_bent_plan.nd rfl (Or.inl rfl) (qaw qay (dvq 9) (dvq 3)))) (qau (qaD (i:=10) sc__law_bent_plan.nd rfl (Or.inl rfl) (qaw qay (dvq 10) (dvq 3)))))))
      (qau (qaD (i:=4) sc__law_bent_plan.nd rfl (Or.inl rfl) (qaw qay (PD.q (qaw qay (PD.q (qcZ (dvq 4) qa9 (qaO (dvq 2)))) (PD.q (qaJ (qab (qaJ (qab (dv 9) (qab (dv 10) qaj qaa) qaa)) qaj qar))))) (PD.q (qcZ (dvq 4) (qaO (PD.q (qaw qay (dvq 2) (PD.q qae)))) qa9)))))))) qa0)
      (qau (qaH (qaJ (qab (dv 4) (qab (dv 5) (qab (dv 6) qaj qaa) qaa) qaa)))))))),?_⟩
  have up:∀ x:Nat,x≤2 ^ 69→x≤2 ^ 70:=fun x h=>Nat.le_trans h (by decide)
  have e69:2 ^ 69+10≤2 ^ 70:=by decide
  have hrb':∀ r∈rs,RowN n 70 r:=fun r h=>(hrb r h).up (by decide)
  refine ⟨rfl,fun ρ=>∃ (rs':List Row) (b:Int) (u7 u8:Option Sl),(rs'.length≤11∧∀ r∈rs',RowN n 70 r)∧ρ=[some (.v (qc9 bs rs gs)),some (.v (.int sl)),some (.v (.int b)),some (.v (.int st)),some (.v (.tup (bs.map bdD))),some (.v (.tup (rs'.map qa1))),some (.v (.tup (gs.map D.int))),u7,u8,none,none],⟨fun h1=>⟨fun h2=>?_,fun _=>⟨rs,a,_,_,⟨hrl,hrb'⟩,rfl⟩⟩,fun _=>⟨fun h=>ff h,fun _=>⟨rs,a,_,_,⟨hrl,hrb'⟩,rfl⟩⟩⟩,?_⟩
  · have hne:rs≠[]:=fun e=>by subst e;cases h2
    have hpos:=List.length_pos_iff.mpr hne
    have hL:((rs.map qa1).length:Int)=(rs.length:Int):=by rw [List.length_map]
    obtain ⟨j,hj,ej⟩:=qfo (a:=a) hpos
    rw [← hL] at ej
    have ec1:qb7 (rs.map qa1) none (some (a % ((rs.map qa1).length:Int)))=(rs.take j).map qa1:=by rw [ej,qaM,qbF]
    have ec2:qb7 (rs.map qa1) (some (a % ((rs.map qa1).length:Int)+1)) none=(rs.drop (j+1)).map qa1:=by rw [ej,show (j:Int)+1=((j+1:Nat):Int) by push_cast;rfl,qaM,qcp]
    obtain ⟨x1,x2,x3⟩:=hrb _ (qbk (xs:=rs) (d:=([],0)) (i:=j) hj)
    refine ⟨by omega,_,qbv (i:=j) (qbZ (d:=([],0)) hj) ej,rfl,_,ec1,?_,_,qbR qa1 _ ((rs.getD j ([],0)).1,(rs.getD j ([],0)).2+st),_,ec2,?_,_,qdo qa1 _ _,_,_,_,_,⟨?_,fun r hr'=>?_⟩,rfl⟩
    · rw [List.length_map,List.length_take];exact qaR (by show min j rs.length+1≤1000;omega)
    · rw [List.length_map,List.length_map,List.length_append,List.length_take,List.length_drop];exact qaR (by show min j rs.length+1+_≤1000;omega)
    · rw [qe9 hj];exact hrl
    · rcases qfb hr' with rfl | h
      · exact ⟨x1,fun y hy=>up _ (x2 y hy),by show ((rs.getD j ([],0)).2+st).natAbs≤2 ^ 70;omega⟩
      · exact hrb' r h
  rintro ρ ⟨rs',b,u7,u8,⟨hrl2,hrb2⟩,rfl⟩
  refine ⟨fun ρ=>∃ (gs':List Int) (b:Int),(gs'.length=n∧∀ x∈gs',x.natAbs≤2 ^ 70)∧ρ=[some (.v (qc9 bs rs gs)),some (.v (.int sl)),some (.v (.int b)),some (.v (.int st)),some (.v (.tup (bs.map bdD))),some (.v (.tup (rs'.map qa1))),some (.v (.tup (gs'.map D.int))),u7,u8,none,none],⟨fun h1=>⟨fun h2=>?_,fun _=>⟨gs,b,⟨hgl,fun x hx=>up _ (hgb x hx)⟩,rfl⟩⟩,fun _=>⟨fun h=>ff h,fun _=>⟨gs,b,⟨hgl,fun x hx=>up _ (hgb x hx)⟩,rfl⟩⟩⟩,?_⟩
  · have hne:gs≠[]:=fun e=>by subst e;cases h2
    have hpos:=List.length_pos_iff.mpr hne
    have hL:((gs.map D.int).length:Int)=(gs.length:Int):=by rw [List.length_map]
    obtain ⟨j,hj,ej⟩:=qfo (a:=b) hpos
    rw [← hL] at ej
    have ec1:qb7 (gs.map D.int) none (some (b % ((gs.map D.int).length:Int)))=(gs.take j).map D.int:=by rw [ej,qaM,qbF]
    have ec2:qb7 (gs.map D.int) (some (b % ((gs.map D.int).length:Int)+1)) none=(gs.drop (j+1)).map D.int:=by rw [ej,show (j:Int)+1=((j+1:Nat):Int) by push_cast;rfl,qaM,qcp]
    have x2:=hgb _ (qbk (xs:=gs) (d:=0) (i:=j) hj)
    refine ⟨by omega,_,ec1,_,qbv (i:=j) (qbZ (d:=0) hj) ej,?_,_,qbR D.int _ _,_,ec2,?_,_,qdo D.int _ _,_,_,⟨?_,fun x hx=>?_⟩,rfl⟩
    · rw [List.length_map,List.length_take];exact qaR (by show min j gs.length+1≤1000;omega)
    · rw [List.length_map,List.length_map,List.length_append,List.length_take,List.length_drop];exact qaR (by show min j gs.length+1+_≤1000;omega)
    · rw [qe9 hj];exact hgl
    · rcases qfb hx with rfl | h
      · omega
      · exact up _ (hgb x h)
  rintro ρ ⟨gs',b',⟨hgl2,hgb2⟩,rfl⟩
  have hbb:∀ b∈bs,b.1.natAbs≤100∧∀ m,b.2=some m→m.natAbs≤100:=fun b hb=>⟨Nat.le_trans (hB.2 b hb).1 (by decide),fun m hm=>Nat.le_trans ((hB.2 b hb).2 m hm) (by decide)⟩
  refine ⟨fun ρ=>∃ (bs':List Bd) (u2 u9 u10:Option Sl),(bs'.length=n∧∀ b∈bs',b.1.natAbs≤100∧∀ m,b.2=some m→m.natAbs≤100)∧ρ=[some (.v (qc9 bs rs gs)),some (.v (.int sl)),u2,some (.v (.int st)),some (.v (.tup (bs'.map bdD))),some (.v (.tup (rs'.map qa1))),some (.v (.tup (gs'.map D.int))),u7,u8,u9,u10],⟨fun h1=>⟨fun h2=>?_,fun _=>⟨bs,some (.v (.int b')),_,_,⟨hB.1,hbb⟩,rfl⟩⟩,fun _=>⟨fun h=>ff h,fun _=>⟨bs,some (.v (.int b')),_,_,⟨hB.1,hbb⟩,rfl⟩⟩⟩,?_⟩
  · have hne:bs≠[]:=fun e=>by subst e;cases h2
    have hpos:=List.length_pos_iff.mpr hne
    have hbl:=hB.1
    have hL:((bs.map bdD).length:Int)=(bs.length:Int):=by rw [List.length_map]
    obtain ⟨j,hj,ej⟩:=qfo (a:=b') hpos
    rw [← hL] at ej
    have ec1:qb7 (bs.map bdD) none (some (b' % ((bs.map bdD).length:Int)))=(bs.take j).map bdD:=by rw [ej,qaM,qbF]
    have ec2:qb7 (bs.map bdD) (some (b' % ((bs.map bdD).length:Int)+1)) none=(bs.drop (j+1)).map bdD:=by rw [ej,show (j:Int)+1=((j+1:Nat):Int) by push_cast;rfl,qaM,qcp]
    obtain ⟨x1,x2⟩:=hB.2 _ (qbk (xs:=bs) (d:=(0,none)) (i:=j) hj)
    have hat:=qfO (bs:=bs) hj ej
    unfold bAt at hat
    generalize bs.getD j (0,none)=b0 at x1 x2 hat
    obtain ⟨l,m⟩:=b0
    have x1:l.natAbs≤20:=x1
    refine ⟨by omega,_,hat,rfl,fun ρ=>∃ (l':Int) (m':Option Int),(l'.natAbs≤100∧∀ x,m'=some x→x.natAbs≤100)∧ρ=[some (.v (qc9 bs rs gs)),some (.v (.int sl)),some (.v (.int (b' % ((bs.map bdD).length:Int)))),some (.v (.int st)),some (.v (.tup (bs.map bdD))),some (.v (.tup (rs'.map qa1))),some (.v (.tup (gs'.map D.int))),u7,u8,some (.v (.int l')),some (.v (oI m'))],?_,?_⟩
    · cases m with
      | none =>
        exact ⟨fun _=>⟨l+st,none,⟨by omega,fun x hx=>(by cases hx)⟩,rfl⟩,fun _=>⟨fun _=>⟨l,some (l+st),⟨by omega,fun x hx=>by cases hx;omega⟩,rfl⟩,fun h=>(by cases h)⟩⟩
      | some m =>
        have x2:=x2 m rfl
        exact ⟨fun _=>⟨l+st,some m,⟨by omega,fun x hx=>by cases hx;omega⟩,rfl⟩,fun _=>⟨fun h=>(by cases h),fun _=>⟨l,some (m+st),⟨by omega,fun x hx=>by cases hx;omega⟩,rfl⟩⟩⟩
    rintro ρ ⟨l',m',hlm,rfl⟩
    refine ⟨_,ec1,?_,_,qbR bdD _ (l',m'),_,ec2,?_,_,qdo bdD _ _,_,_,_,_,⟨?_,fun b hb=>?_⟩,rfl⟩
    · rw [List.length_map,List.length_take];exact qaR (by show min j bs.length+1≤1000;omega)
    · rw [List.length_map,List.length_map,List.length_append,List.length_take,List.length_drop];exact qaR (by show min j bs.length+1+_≤1000;omega)
    · rw [qe9 hj];exact hbl
    · rcases qfb hb with rfl | h
      · exact hlm
      · exact hbb b h
  rintro ρ ⟨bs',u2,u9,u10,⟨hbl2,hbb2⟩,rfl⟩
  have p60:∀ x:Nat,x≤100→x≤2 ^ 60:=fun x h=>Nat.le_trans h (by decide)
  exact q bs' rs' gs' ⟨hn,hbl2,fun b hb=>⟨p60 _ (hbb2 b hb).1,fun m hm=>p60 _ ((hbb2 b hb).2 m hm)⟩,by omega,hrb2,hgl2,hgb2⟩
def qcz:SpD:=fun ds R=>∃ (sp ray:List Int) (ls:List Ln) (sl b0 b1 b2 c:Int) (n:Nat),ds=[qbM sp ray ls,.int sl,.tup [.int b0,.int b1,.int b2],.int c,.int (n:Int)]∧n≤8∧sp.length=n∧(∀ x∈sp,x.natAbs≤1000)∧ray.length=n∧(∀ x∈ray,x.natAbs≤1000)∧ls.length≤14∧(∀ l∈ls,LnB 1000 l)∧0≤b1∧b2.natAbs≤10∧∀ sp' ray' ls',SpOk sp'→SpOk ray'→LsOk ls'→R (qbM sp' ray' ls')
theorem qdp {n:Nat} {f:Addr} {fd:FuncData} (F:Fun K "_law_bent_parts" "_law_bent_parts" qbq f fd) (Q__law_bent_spot:Cl P w K mg base n "_law_bent_spot" ["_law_spot","_law_way","_law_at","_law_step"] qcT) (Q__law_spoilt:Cl P w K mg base n "_law_spoilt" ["_law_cell_here","_law_paper","_law_fresh"] qdn) (Q__law_free_line:Cl P w K mg base n "_law_free_line" ["_law_cell_here","_law_n"] qbY):FnOk P w K mg base CX0 (n+1) f fd ["_law_parts","_law_spoil","_law_bends","_law_cell_here","_law_n"] (lSp K qcz):=by
  refine F.okD sc__law_bent_parts (fun ds R h=>?_) (fun cdv A outer s H E ds R hr h=>?_)
  · obtain ⟨sp,ray,ls,sl,b0,b1,b2,c,n,rfl,_⟩:=h;rfl
  obtain ⟨sp,ray,ls,sl,b0,b1,b2,c,n,rfl,hn,hsl,hsb,hyl,hyb,hll,hlb,hb1,hb2,q⟩:=h
  refine ⟨_,(qak (qgz (dv 0) (qcs (n:=3) rfl (qaB (qav (i:=5) sc__law_bent_parts.nd rfl (Or.inl rfl)) (qaB (qav (i:=6) sc__law_bent_parts.nd rfl (Or.inl rfl)) (qaB (qav (i:=7) sc__law_bent_parts.nd rfl (Or.inl rfl)) qbw)))))
      (qa3 (qbO (qaU (qcD hr.units) (dvq 1) (PD.q qae) (qao _)) (qau (qaD (i:=5) sc__law_bent_parts.nd rfl (Or.inl rfl) (qat Q__law_bent_spot hr rfl (qab (dv 5) (qab (qaG (dvq 2) (PD.q qae) (fun _ _=>rfl)) (qab (qaG (dvq 2) (PD.q qae) (fun _ _=>rfl)) (qab (qaG (dvq 2) (PD.q qae) (fun _ _=>rfl)) qaj qac) qac) qac) qaa) qaa (qaf qac (qaf qac (qaf qac qag)))))) qa0)
      (qa3 (qbO (qaU (qcD hr.units) (dvq 1) (PD.q qae) (qao _)) (qau (qaD (i:=6) sc__law_bent_parts.nd rfl (Or.inl rfl) (qat Q__law_bent_spot hr rfl (qab (dv 6) (qab (qaG (dvq 2) (PD.q qae) (fun _ _=>rfl)) (qab (qaG (dvq 2) (PD.q qae) (fun _ _=>rfl)) (qab (qaG (dvq 2) (PD.q qae) (fun _ _=>rfl)) qaj qac) qac) qac) qaa) qaa (qaf qac (qaf qac (qaf qac qag)))))) qa0)
      (qa3 (qbO (PWD.td (qgp (qaU (qcD hr.units) (dvq 1) (PD.q qae) (qao _)) (qej (qdc (dvq 7) (fun _=>rfl))))) (qau (qaD (i:=7) sc__law_bent_parts.nd rfl (Or.inl rfl) (qat Q__law_spoilt hr rfl (qab (dv 3) (qab (dv 7) (qab (qat Q__law_free_line hr rfl (qab (qaw qi1 (dvq 3) (PD.q qae)) (qab (dv 4) qaj qaa) qai) qai (qaf qaa qag)) qaj qax) qaa) qaa) qaa (qaf qaa (qaf qax qag))))) qa0)
      (qau (qaH (qaJ (qab (dv 5) (qab (dv 6) (qab (dv 7) qaj qaa) qaa) qaa)))))))),?_⟩
  have p70:∀ x:Nat,x≤1010→x≤2 ^ 70:=fun x h=>Nat.le_trans h (by decide)
  have spOk:∀ xs:List Int,xs.length≤n+1→(∀ x∈xs,x.natAbs≤1010)→SpOk xs:=fun xs h1 h2=>⟨by omega,fun x hx=>p70 _ (h2 x hx)⟩
  have p10:∀ x:Nat,x≤1000→x≤1010:=fun x h=>by omega
  refine ⟨rfl,fun ρ=>∃ sp':List Int,SpOk sp'∧ρ=[some (.v (qbM sp ray ls)),some (.v (.int sl)),some (.v (.tup [.int b0,.int b1,.int b2])),some (.v (.int c)),some (.v (.int n)),some (.v (.tup (sp'.map D.int))),some (.v (.tup (ray.map D.int))),some (.v (.lst (ls.map lnD)))],⟨fun _=>⟨_,rfl,_,rfl,_,rfl,sp,b0,b1,b2,rfl,by omega,hsb,hb1,hb2,fun sp' h=>⟨sp',spOk sp' (by have:=h.1;omega) h.2,rfl⟩⟩,fun _=>⟨sp,spOk sp (by omega) fun x hx=>p10 _ (hsb x hx),rfl⟩⟩,?_⟩
  rintro ρ ⟨sp',hs',rfl⟩
  refine ⟨fun ρ=>∃ ray':List Int,SpOk ray'∧ρ=[some (.v (qbM sp ray ls)),some (.v (.int sl)),some (.v (.tup [.int b0,.int b1,.int b2])),some (.v (.int c)),some (.v (.int n)),some (.v (.tup (sp'.map D.int))),some (.v (.tup (ray'.map D.int))),some (.v (.lst (ls.map lnD)))],⟨fun _=>⟨_,rfl,_,rfl,_,rfl,ray,b0,b1,b2,rfl,by omega,hyb,hb1,hb2,fun ray' h=>⟨ray',spOk ray' (by have:=h.1;omega) h.2,rfl⟩⟩,fun _=>⟨ray,spOk ray (by omega) fun x hx=>p10 _ (hyb x hx),rfl⟩⟩,?_⟩
  rintro ρ ⟨ray',hy',rfl⟩
  have lsOk0:LsOk ls:=⟨by omega,fun l hl=>(hlb l hl).ok2 (by decide)⟩
  refine ⟨fun ρ=>∃ ls':List Ln,LsOk ls'∧ρ=[some (.v (qbM sp ray ls)),some (.v (.int sl)),some (.v (.tup [.int b0,.int b1,.int b2])),some (.v (.int c)),some (.v (.int n)),some (.v (.tup (sp'.map D.int))),some (.v (.tup (ray'.map D.int))),some (.v (.lst (ls'.map lnD)))],⟨fun h1=>⟨fun h2=>⟨CDivB.of (by decide) (by decide +kernel),_,n,rfl,hn,fun fr hfr=>⟨c,ls,fr,1000,rfl,fun e=>(by subst e;cases h2),by omega,fun l hl=>⟨hlb l hl,trivial⟩,hfr,fun ls' hl' hb'=>⟨ls',⟨by omega,fun l hl=>?_⟩,rfl⟩⟩⟩,fun _=>⟨ls,lsOk0,rfl⟩⟩,fun _=>⟨fun h=>ff h,fun _=>⟨ls,lsOk0,rfl⟩⟩⟩,?_⟩
  · have:=hb' l hl
    have p36:∀ x:Nat,x≤1000+1000→x≤2 ^ 36:=fun x h=>Nat.le_trans h (by decide)
    cases l with
    | ct shs d=>exact ⟨this.1,fun s hs=>p36 _ (this.2.1 s hs),p36 _ this.2.2⟩
    | ch es k=>exact ⟨this.1,fun s hs=>p36 _ (this.2.1 s hs),p36 _ this.2.2⟩
    | sh n=>trivial
  rintro ρ ⟨ls',hl',rfl⟩
  exact q sp' ray' ls' hs' hy' hl'
theorem qiY:∀ (es sp:List Int),dot (es.map (- ·)) sp = -dot es sp
  | [],_=>by simp [dot]
  | _::_,[]=>by simp [dot]
  | x::es,y::sp=>by
    have ih:=qiY es sp
    have e:∀ (x y:Int) (es ns:List Int),dot (x::es) (y::ns)=x*y+dot es ns:=fun x y es ns=>by simp [dot]
    rw [List.map_cons,e,e,ih,Int.neg_mul]
    omega
theorem qew:∀ (es sp:List Int),(∀ x∈es,x=0)→dot es sp=0
  | [],_,_=>by simp [dot]
  | _::_,[],_=>by simp [dot]
  | x::es,y::sp,h=>by
    have ih:=qew es sp fun z hz=>h z (List.mem_cons_of_mem _ hz)
    have e:∀ (x y:Int) (es ns:List Int),dot (x::es) (y::ns)=x*y+dot es ns:=fun x y es ns=>by simp [dot]
    rw [e,ih,h x List.mem_cons_self]
    omega
theorem qfG {st:List Row} {m:Int} {sp:List Int} (h:qdb st m=true):¬ ∀ r∈st,Met sp r:=fun hm=>by
  unfold qdb at h
  rw [Bool.and_eq_true,Bool.and_eq_true,Bool.and_eq_true] at h
  obtain ⟨⟨⟨h0,h1⟩,h2⟩,h3⟩:=h
  have k0:=dP h0
  have k1:=dP h1
  have k2:=dP h2
  have hz:∀ x∈(qbQ st m).1,x=0:=fun x hx=>dP (List.all_eq_true.mp h3 x hx)
  have:=hm _ (qbJ k0 k1)
  unfold Met at this
  rw [qew _ _ hz] at this
  omega
def qnv (sp:List Int) (st:List Row) (wt:List (Nat × Row)):Prop :=
  (∀ r∈st,Met sp r)∨∃ wt1 s wt2,wt=wt1++s::wt2∧s.1≤st.length∧(∀ r∈st.take s.1,Met sp r)∧Met sp s.2∧∀ z∈wt2,s.1≤z.1
theorem qhK {n:Nat} {sp:List Int}:∀ (ls:List Ln) (st:List Row) (wt:List (Nat × Row)),(∀ r∈st,r.1.length=n)→(∀ s∈wt,s.2.1.length=n)→qnv sp st wt→qbj (n:Int) st wt ls=false:=by
  intro ls
  induction ls with
  | nil=>intro st wt _ _ _;rfl
  | cons l t ih =>
    intro st wt hs hw hl
    cases l with
    | ct shs d =>
      show (match qcr st shs d (n:Int).toNat with | none=>false | some r=>qbj (n:Int) (st++[r]) wt t)=false
      rw [Int.toNat_natCast]
      cases hL:qcr st shs d n with
      | none=>rfl
      | some r =>
        show qbj (n:Int) (st++[r]) wt t=false
        refine ih _ _ (fun x hx=>?_) hw ?_
        · rcases List.mem_append.mp hx with h | h
          · exact hs x h
          · rw [List.mem_singleton.mp h];exact qf2 hs hL
        · rcases hl with hm | ⟨wt1,s,wt2,e,h1,h2,h3,h4⟩
          · refine .inl fun x hx=>?_
            rcases List.mem_append.mp hx with h | h
            · exact hm x h
            · rw [List.mem_singleton.mp h];exact (qjc (fun r hr=>⟨hs r hr,hm r hr⟩) hL).1
          · exact .inr ⟨wt1,s,wt2,e,by rw [List.length_append];omega,by rw [List.take_append_of_le_length h1];exact h2,h3,h4⟩
    | ch es k =>
      show (if (es.length:Int)=(n:Int) then qbj (n:Int) (st++[(es.map (- ·),-k)]) (wt++[(st.length,(es,k+1))]) t else false)=false
      by_cases c:(es.length:Int)=(n:Int)
      · rw [if_pos c]
        have ce:es.length=n:=by omega
        refine ih _ _ (fun x hx=>?_) (fun x hx=>?_) ?_
        · rcases List.mem_append.mp hx with h | h
          · exact hs x h
          · rw [List.mem_singleton.mp h];show (es.map (- ·)).length=n;rw [List.length_map];exact ce
        · rcases List.mem_append.mp hx with h | h
          · exact hw x h
          · rw [List.mem_singleton.mp h];exact ce
        · rcases hl with hm | ⟨wt1,s,wt2,e,h1,h2,h3,h4⟩
          · by_cases d:dot es sp≤k
            · refine .inl fun x hx=>?_
              rcases List.mem_append.mp hx with h | h
              · exact hm x h
              · rw [List.mem_singleton.mp h]
                show -k≤dot (es.map (- ·)) sp
                rw [qiY]
                omega
            · refine .inr ⟨wt,(st.length,(es,k+1)),[],rfl,by rw [List.length_append];show st.length≤_;omega,?_,by show k+1≤dot es sp;omega,fun z hz=>absurd hz List.not_mem_nil⟩
              show ∀ r∈(st++[(es.map (- ·),-k)]).take st.length,Met sp r
              rw [List.take_left]
              exact hm
          · subst e
            refine .inr ⟨wt1,s,wt2++[(st.length,(es,k+1))],by simp,by rw [List.length_append];omega,by rw [List.take_append_of_le_length h1];exact h2,h3,fun z hz=>?_⟩
            rcases List.mem_append.mp hz with h | h
            · exact h4 z h
            · rw [List.mem_singleton.mp h];exact h1
      · rw [if_neg c]
    | sh m =>
      show (if qdb st m=true then (match wt.getLast? with | none=>t.isEmpty | some s=>qbj (n:Int) (st.take s.1++[s.2]) wt.dropLast t) else false)=false
      by_cases c:qdb st m=true
      · rw [if_pos c]
        rcases hl with hm | ⟨wt1,s,wt2,e,h1,h2,h3,h4⟩
        · exact absurd hm (qfG c)
        · rcases List.eq_nil_or_concat wt2 with e2 | ⟨wt3,s3,e2⟩
          · subst e2
            subst e
            rw [List.getLast?_concat,List.dropLast_concat]
            show qbj (n:Int) (st.take s.1++[s.2]) wt1 t=false
            refine ih _ _ (fun x hx=>?_) (fun x hx=>hw x (List.mem_append_left _ hx)) (.inl fun x hx=>?_)
            · rcases List.mem_append.mp hx with h | h
              · exact hs x (List.mem_of_mem_take h)
              · rw [List.mem_singleton.mp h];exact hw s (by simp)
            · rcases List.mem_append.mp hx with h | h
              · exact h2 x h
              · rw [List.mem_singleton.mp h];exact h3
          · subst e2
            subst e
            rw [List.concat_eq_append] at h4 hw ⊢
            have e3:wt1++s::(wt3++[s3])=(wt1++s::wt3)++[s3]:=by simp
            have h43:=h4 s3 (by simp)
            rw [e3] at hw ⊢
            rw [List.getLast?_concat,List.dropLast_concat]
            show qbj (n:Int) (st.take s3.1++[s3.2]) (wt1++s::wt3) t=false
            have hlen:s.1≤(st.take s3.1).length:=by rw [List.length_take];omega
            refine ih _ _ (fun x hx=>?_) (fun x hx=>hw x (List.mem_append_left _ hx)) (.inr ⟨wt1,s,wt3,rfl,by rw [List.length_append];omega,?_,h3,fun z hz=>h4 z (List.mem_append_left _ hz)⟩)
            · rcases List.mem_append.mp hx with h | h
              · exact hs x (List.mem_of_mem_take h)
              · rw [List.mem_singleton.mp h];exact hw s3 (by simp)
            · rw [List.take_append_of_le_length hlen,List.take_take,Nat.min_eq_left h43]
              exact h2
      · rw [if_neg c]
theorem qhh {rs:List Row} {n:Nat} {sp:List Int} (hr:∀ r∈rs,r.1.length=n) (hm:∀ r∈rs,Met sp r) (ls:List Ln):qbj (n:Int) rs [] ls=false :=
  qhK ls rs [] hr (fun s hs=>absurd hs List.not_mem_nil) (.inl hm)
theorem qiA (c:Int):∀ {r xs ys:List Int},xs.length=r.length→ys.length=r.length→dot r (List.zipWith (fun x y=>x+c*y) xs ys)=dot r xs+c*dot r ys
  | [],xs,ys,_,_=>by simp [dot]
  | a::r,[],ys,h,_=>by cases h
  | a::r,x::xs,[],_,h=>by cases h
  | a::r,x::xs,y::ys,h1,h2=>by
    have ih:=qiA c (r:=r) (xs:=xs) (ys:=ys) (by simpa using h1) (by simpa using h2)
    have e:∀ (x y:Int) (es ns:List Int),dot (x::es) (y::ns)=x*y+dot es ns:=fun x y es ns=>by simp [dot]
    rw [List.zipWith_cons_cons,e,e,e,ih,Int.mul_add,Int.mul_add,← Int.mul_assoc,← Int.mul_assoc,Int.mul_comm a c]
    omega
theorem qdm {rs:List Row} {n:Nat} {sp:List Int} (h:qft rs n sp=true):sp.length=n∧∀ r∈rs,Met sp r:=by
  unfold qft at h
  rw [Bool.and_eq_true] at h
  exact ⟨dP h.1,fun r hr=>show r.2≤dot r.1 sp from dP (List.all_eq_true.mp h.2 r hr)⟩
theorem qfd {n:Nat} {bs:List Bd} {rs:List Row} {gs sp x:List Int} {ls:List Ln} (hp:PlOk n bs rs gs) (h:qbj (n:Int) (qbb bs rs++[btR gs sp]) [] ls=true) (hx:∀ r∈qbb bs rs,Met x r):dot gs x≤dot gs sp:=by
  rcases Int.lt_or_le (dot gs sp) (dot gs x) with c | c
  · have:=qhh (n:=n) (sp:=x) (rs:=qbb bs rs++[btR gs sp]) (fun r hr=>by
      rcases List.mem_append.mp hr with hr | hr
      · exact ((qea hp).1 r hr).1
      · rw [List.mem_singleton.mp hr];exact hp.gl) (fun r hr=>by
      rcases List.mem_append.mp hr with hr | hr
      · exact hx r hr
      · rw [List.mem_singleton.mp hr];show dot gs sp+1≤dot gs x;omega) ls
    rw [this] at h
    cases h
  · exact c
theorem qfk {n:Nat} {bs:List Bd} {rs:List Row} {gs x:List Int} {ls:List Ln} (hp:PlOk n bs rs gs) (h:qbj (n:Int) (qbb bs rs) [] ls=true) (hx:∀ r∈qbb bs rs,Met x r):False:=by
  have:=qhh (n:=n) (sp:=x) (rs:=qbb bs rs) (fun r hr=>((qea hp).1 r hr).1) hx ls
  rw [this] at h
  cases h
theorem qkP {n:Nat} {bs:List Bd} {rs:List Row} {gs sp sq ray:List Int} {ls:List Ln} (hp:PlOk n bs rs gs) (ha:qft (qbb bs rs) n sp=true) (hr:qjp (qbb bs rs) gs ray=true) (h:qbj (n:Int) (qbb bs rs++[btR gs sq]) [] ls=true):False:=by
  obtain ⟨a1,a2⟩:=qdm ha
  unfold qjp at hr
  rw [Bool.and_eq_true,Bool.and_eq_true] at hr
  obtain ⟨r1,r2,r3⟩:=hr
  have r1:=dP r1
  have r3:=dP r3
  have gl:=hp.gl
  have ht:0≤(((dot gs sq - dot gs sp).natAbs+1:Nat):Int):=by omega
  have hb:dot gs sq - dot gs sp<(((dot gs sq - dot gs sp).natAbs+1:Nat):Int):=by omega
  generalize (((dot gs sq - dot gs sp).natAbs+1:Nat):Int)=t at ht hb
  have:=qfd (x:=List.zipWith (fun x y=>x+t*y) sp ray) hp h fun r hr'=>by
    have rl:=((qea hp).1 r hr').1
    have m1:r.2≤dot r.1 sp:=a2 r hr'
    have m2:0≤dot r.1 ray:=dP (List.all_eq_true.mp r2 r hr')
    show r.2≤dot r.1 _
    rw [qiA t (by omega) (by omega)]
    have:=Int.mul_nonneg ht m2
    omega
  rw [qiA t (by omega) (by omega)] at this
  have h2:t*1≤t*dot gs ray:=Int.mul_le_mul_of_nonneg_left (by omega) ht
  omega
theorem qks {k:Int} {n:Nat} {bs:List Bd} {rs:List Row} {gs sp ray:List Int} {ls:List Ln} (hk:k=0∨k=1∨k=2) (h:qka k n bs rs gs sp ray ls=true):(k=0∧qbj (n:Int) (qbb bs rs) [] ls=true)∨(k=1∧qft (qbb bs rs) n sp=true∧qjp (qbb bs rs) gs ray=true)∨(k=2∧qft (qbb bs rs) n sp=true∧qbj (n:Int) (qbb bs rs++[btR gs sp]) [] ls=true):=by
  rcases hk with rfl | rfl | rfl
  · exact .inl ⟨rfl,h⟩
  · have h':(qft (qbb bs rs) n sp && qjp (qbb bs rs) gs ray)=true:=h
    rw [Bool.and_eq_true] at h'
    exact .inr (.inl ⟨rfl,h'⟩)
  · have h':(qft (qbb bs rs) n sp && qbj (n:Int) (qbb bs rs++[btR gs sp]) [] ls)=true:=h
    rw [Bool.and_eq_true] at h'
    exact .inr (.inr ⟨rfl,h'⟩)
theorem qoP {k k':Int} {n:Nat} {bs:List Bd} {rs:List Row} {gs sp ray sp' ray':List Int} {ls ls':List Ln} (hp:PlOk n bs rs gs) (hk:k=0∨k=1∨k=2) (hk':k'=0∨k'=1∨k'=2) (h:qka k n bs rs gs sp ray ls=true) (h':qka k' n bs rs gs sp' ray' ls'=true):k=k'∧(k=2→dot gs sp=dot gs sp'):=by
  rcases qks hk h with ⟨e,a⟩ | ⟨e,a,b⟩ | ⟨e,a,b⟩ <;> rcases qks hk' h' with ⟨e',a'⟩ | ⟨e',a',b'⟩ | ⟨e',a',b'⟩
  · exact ⟨by omega,fun c=>by omega⟩
  · exact (qfk hp a (qdm a').2).elim
  · exact (qfk hp a (qdm a').2).elim
  · exact (qfk hp a' (qdm a).2).elim
  · exact ⟨by omega,fun c=>by omega⟩
  · exact (qkP hp a b b').elim
  · exact (qfk hp a' (qdm a).2).elim
  · exact (qkP hp a' b' b).elim
  · exact ⟨by omega,fun c=>Int.le_antisymm (qfd hp b' (qdm a).2) (qfd hp b (qdm a').2)⟩
theorem qh1 {x:Int} (h:0≤x∧x<4):∃ b:Int,atI [D.int 1,D.int (-1),D.int 2,D.int (-3)] x=some (D.int b)∧b.natAbs≤3:=by
  have:x=0∨x=1∨x=2∨x=3:=by omega
  rcases this with rfl | rfl | rfl | rfl
  · exact ⟨1,rfl,by decide⟩
  · exact ⟨-1,rfl,by decide⟩
  · exact ⟨2,rfl,by decide⟩
  · exact ⟨-3,rfl,by decide⟩
def qmF (sp ray:List Int) (ls:List Ln):Prop:=SpOk sp∧SpOk ray∧LsOk ls
theorem qhM {n:Nat} {sp ray:List Int} {ls:List Ln} (hn:n≤8) (hsl:sp.length=n) (hsb:∀ x∈sp,x.natAbs≤1000) (hyl:ray.length=n) (hyb:∀ x∈ray,x.natAbs≤1000) (hll:ls.length≤14) (hlb:∀ l∈ls,LnB 1000 l):qmF sp ray ls:=by
  have p70:∀ x:Nat,x≤1000→x≤2 ^ 70:=fun x h=>Nat.le_trans h (by decide)
  exact ⟨⟨by omega,fun x hx=>p70 _ (hsb x hx)⟩,⟨by omega,fun x hx=>p70 _ (hyb x hx)⟩,⟨by omega,fun l hl=>(hlb l hl).ok2 (by decide)⟩⟩
def qdu:SpD:=fun ds R=>∃ (ns sp ray:List Int) (ls:List Ln) (n:Nat) (x0 x2 x3 x4 x5 x6 x7 x8 x9 x10 big:Int),ds=[.fzl (ns.map D.int),qbM sp ray ls,.lst (([x0,(n:Int),x2,x3,x4,x5,x6,x7,x8,x9,x10]:List Int).map D.int),.int big]∧ns.length≤63∧n≤8∧sp.length=n∧(∀ x∈sp,x.natAbs≤1000)∧ray.length=n∧(∀ x∈ray,x.natAbs≤1000)∧ls.length≤14∧(∀ l∈ls,LnB 1000 l)∧(0≤x8∧x8<4)∧0≤x7∧0<big∧big≤2 ^ 31∧∀ sp' ray' ls',qmF sp' ray' ls'→R (qbM sp' ray' ls')
theorem qeC {n:Nat} {f:Addr} {fd:FuncData} (F:Fun K "_law_second" "_law_second" qbH f fd) (Q__law_bent_parts:Cl P w K mg base n "_law_bent_parts" ["_law_parts","_law_spoil","_law_bends","_law_cell_here","_law_n"] qcz) (Q__law_cell:Cl P w K mg base n "_law_cell" ["_law_script","_law_k"] qdf) (Q__law_wild:Cl P w K mg base n "_law_wild" ["_law_cells","_law_n","_law_many","_law_big"] qdl) (z_range:mg "range"=none):FnOk P w K mg base CX0 (n+1) f fd ["_law_script","_law_parts","_law_shape","_law_big"] (lSp K qdu):=by
  refine F.okD sc__law_second (fun ds R h=>?_) (fun cdv A outer s H E ds R hr h=>?_)
  · obtain ⟨ns,sp,ray,ls,n,x0,x2,x3,x4,x5,x6,x7,x8,x9,x10,big,rfl,_⟩:=h;rfl
  obtain ⟨ns,sp,ray,ls,n,x0,x2,x3,x4,x5,x6,x7,x8,x9,x10,big,rfl,hz,hn,hsl,hsb,hyl,hyb,hll,hlb,d8,d7,hb0,hb1,q⟩:=h
  refine ⟨_,(qak (qaD (i:=4) sc__law_second.nd rfl (Or.inl rfl) (qaG (dvq 2) (PD.q qae) (fun _ _=>rfl)))
      (qa3 (qbO (qaU (qcD hr.units) (PD.q (qaG (dvq 2) (PD.q qae) (fun _ _=>rfl))) (PD.q qae) (qao _)) (qak (qcN (i:=5) (k:=1) (N':=["_law_k","_law_script"]) (cap:=[none,some 0]) rfl sc__law_second.nd rfl (Or.inl rfl) (.ok (show qaY ["_law_script","_law_parts","_law_shape","_law_big","_law_n","_law_cells","_law_step"] (qah qbH) _ ["_law_k","_law_script"] [none,some 0]=true by decide +kernel)) (by decide +kernel) (qa7 (by decide)) (qg5 rfl z_range (qab qae (qab qae qaj qad) qad)) (fun _ _ _ _ _=>(qav (i:=0) (show List.Nodup (["_law_k","_law_script"]:List Str) by decide +kernel) rfl (Or.inl rfl))) (fun _ _ _ _ _=>(qat Q__law_cell hr rfl (qab (dv 1) (qab (dv 0) qaj qaa) qaa) qaa (qaf qaa qag))))
      (qau (qaH (qaG (PD.q (qat Q__law_wild hr rfl (qab (dv 5) (qab (dv 4) (qab qae (qab (dv 3) qaj qaa) qad) qaa) qaa) qaa (qaf qaa (qaf qad (qaf qaa qag))))) (PD.q qae) (fun _ _=>rfl))))) qa0)
      (qa3 (qbO (qaU (qcD hr.units) (PD.q (qaG (dvq 2) (PD.q qae) (fun _ _=>rfl))) (PD.q qae) (qao _)) (qau (qaH (dv 1))) qa0)
      (qak (qaD (i:=6) sc__law_second.nd rfl (Or.inl rfl) (qaG (PD.q (PF.d (qaQ (qab qae (qab (qdh (PD.q qae)) (qab qae (qab (qdh (PD.q qae)) qaj qbc) qad) qbc) qad)))) (PD.q (qaG (dvq 2) (PD.q qae) (fun _ _=>rfl))) (fun _ _=>rfl)))
      (qau (qaH (qat Q__law_bent_parts hr rfl (qab (dv 1) (qab (qaw qay (PD.q qae) (PD.q (qaG (dvq 2) (PD.q qae) (fun _ _=>rfl)))) (qab (qaJ (qab (qaG (dvq 2) (PD.q qae) (fun _ _=>rfl)) (qab (qaG (dvq 2) (PD.q qae) (fun _ _=>rfl)) (qab (dv 6) qaj qaa) qac) qac)) (qab (qat Q__law_cell hr rfl (qab (dv 0) (qab qae qaj qad) qaa) qaa (qaf qad qag)) (qab (dv 4) qaj qaa) qax) qar) qai) qaa) qaa (qaf qai (qaf qar (qaf qax (qaf qaa qag))))))))))),?_⟩
  obtain ⟨st,es,hst⟩:=qh1 d8
  refine ⟨_,rfl,fun ρ=>ρ=[some (.v (.fzl (ns.map D.int))),some (.v (qbM sp ray ls)),some (.v (.lst (([x0,(n:Int),x2,x3,x4,x5,x6,x7,x8,x9,x10]:List Int).map D.int))),some (.v (.int big)),some (.v (.int n)),none,none],⟨_,rfl,fun _=>⟨⟨by decide,by decide⟩,qap (by decide),fun _ y=>∃ c:Int,True∧y=.int c,fun i d hd=>?_,fun ys hyl2 hy=>?_⟩,fun _=>rfl⟩,?_⟩
  · obtain ⟨hi,rfl⟩:=qbK hd
    exact ⟨ns,_,rfl,hz,by omega,fun c=>⟨c,trivial,rfl⟩⟩
  · obtain ⟨cs,rfl,_⟩:=qg6 hy
    have hcl:cs.length=6:=by rw [List.length_map] at hyl2;exact hyl2
    refine ⟨cs,n,0,big,rfl,hcl,⟨hn,by decide,hb0,hb1⟩,?_⟩
    intro bs rs gs sp' ray' ls' _ _ _ _ _ h1 h2 h3 h4 h5 h6
    exact ⟨_,rfl,q sp' ray' ls' (qhM hn h1 h2 h3 h4 h5 h6)⟩
  rintro ρ rfl
  refine ⟨fun ρ=>ρ=[some (.v (.fzl (ns.map D.int))),some (.v (qbM sp ray ls)),some (.v (.lst (([x0,(n:Int),x2,x3,x4,x5,x6,x7,x8,x9,x10]:List Int).map D.int))),some (.v (.int big)),some (.v (.int n)),none,none],⟨_,rfl,fun _=>q sp ray ls (qhM hn hsl hsb hyl hyb hll hlb),fun _=>rfl⟩,?_⟩
  rintro ρ rfl
  exact ⟨_,rfl,_,es,_,rfl,_,rfl,_,rfl,ns,13,rfl,hz,by decide,fun c7=>⟨sp,ray,ls,2+x9,x10,x7,st,c7,n,rfl,hn,hsl,hsb,hyl,hyb,hll,hlb,d7,by omega,fun sp' ray' ls' h1 h2 h3=>q sp' ray' ls' ⟨h1,h2,h3⟩⟩⟩
abbrev sp_law:=ql2
abbrev qnD:=qkw
theorem qbi {ds:List Int} {z:Int} {zs:List Int} (h:Drawn ds (z::zs)):∃ x t,ds=x::t∧(0≤x∧x<z)∧Drawn t zs:=by
  cases h with | cons h1 t1=>exact ⟨_,_,rfl,h1,t1⟩
theorem qia {ds:List Int} (h:Drawn ds []):ds=[]:=by cases h;rfl
theorem nt {b:Bool} (h:(!b)=false):b=true:=by cases b <;> first | rfl | cases h
theorem qmy {x:Int} (h:0≤x∧x<3):∃ b:Int,atI [D.int 3,D.int 9,D.int (10 ^ (9:Int).toNat)] x=some (D.int b)∧0<b∧b≤2 ^ 31:=by
  have:x=0∨x=1∨x=2:=by omega
  rcases this with rfl | rfl | rfl
  · exact ⟨3,rfl,by decide,by decide⟩
  · exact ⟨9,rfl,by decide,by decide⟩
  · exact ⟨10 ^ 9,rfl,by decide,by decide⟩
theorem qmr {n:Nat} {f:Addr} {fd:FuncData} (F:Fun K "law" "law" qiv f fd) (Q__law_draws:Cl P w K mg base n "_law_draws" ["_law_cell_here","_law_salt","_law_sizes"] qaT) (Q__law_made:Cl P w K mg base n "_law_made" ["_law_kind","_law_wild_here","_law_cells","_law_n","_law_many","_law_big"] qev) (Q__law_bent_plan:Cl P w K mg base n "_law_bent_plan" ["_law_plan","_law_spoil","_law_at","_law_step"] qcQ) (Q__law_second:Cl P w K mg base n "_law_second" ["_law_script","_law_parts","_law_shape","_law_big"] qdu) (Q_holds:Cl P w K mg base n "holds" ["plan","told"] qiO) (Q__law_cell:Cl P w K mg base n "_law_cell" ["_law_script","_law_k"] qdf) (Q__law_told:Cl P w K mg base n "_law_told" ["_law_kind","_law_parts"] qed) (Q__law_left:Cl P w K mg base n "_law_left" ["_law_entries","_law_spot"] qcL) (z_range:mg "range"=none) (z_isinstance:mg "isinstance"=none) (z_bool:mg "bool"=none):FnOk P w K mg base CX0 (n+1) f fd ["_law_script"] (lSp K qnD):=by
  refine F.okD sc_law (fun ds R h=>?_) (fun cdv A outer s H E ds R hr h=>?_)
  · obtain ⟨ns,rfl,_⟩:=h;rfl
  obtain ⟨ns,rfl,hz,q⟩:=h
  refine ⟨_,(qak (qaD (i:=1) sc_law.nd rfl (Or.inl rfl) (qat Q__law_draws hr rfl (qab (qat Q__law_cell hr rfl (qab (dv 0) (qab qae qaj qad) qaa) qaa (qaf qad qag)) (qab qae (qab (PF.d (qaQ (qab qae (qab qae (qab qae (qab qae (qab qae (qab qae (qab qae (qab qae (qab qae (qab qae (qab qae qaj qad) qad) qad) qad) qad) qad) qad) qad) qad) qad) qad))) qaj qd8) qad) qax) qax (qaf qad (qaf qd8 qag))))
      (qak (qaD (i:=2) sc_law.nd rfl (Or.inl rfl) (qaG (dvq 1) (PD.q qae) (fun _ _=>rfl)))
      (qak (qaD (i:=3) sc_law.nd rfl (Or.inl rfl) (qaG (dvq 1) (PD.q qae) (fun _ _=>rfl)))
      (qak (qaD (i:=4) sc_law.nd rfl (Or.inl rfl) (qaG (PD.q (PF.d (qaQ (qab qae (qab qae (qab (qaw qmb (PD.q qae) (PD.q qae)) qaj qai) qad) qad)))) (PD.q (qaG (dvq 1) (PD.q qae) (fun _ _=>rfl))) (fun _ _=>rfl)))
      (qak (qcN (i:=5) (k:=1) (N':=["_law_k","_law_script"]) (cap:=[none,some 0]) rfl sc_law.nd rfl (Or.inl rfl) (.ok (show qaY ["_law_script","_law_shape","_law_kind","_law_other","_law_big","_law_cells","_law_plan","_law_parts","_law_second_here","_law_here","_law_there"] (qah qiv) _ ["_law_k","_law_script"] [none,some 0]=true by decide +kernel)) (by decide +kernel) (qa7 (by decide)) (qg5 rfl z_range (qab qae (qab qae qaj qad) qad)) (fun _ _ _ _ _=>(qav (i:=0) (show List.Nodup (["_law_k","_law_script"]:List Str) by decide +kernel) rfl (Or.inl rfl))) (fun _ _ _ _ _=>(qat Q__law_cell hr rfl (qab (dv 1) (qab (dv 0) qaj qaa) qaa) qaa (qaf qaa qag))))
      (qak (qgz (qat Q__law_made hr rfl (qab (dv 2) (qab qhH (qab (dv 5) (qab (qaG (dvq 1) (PD.q qae) (fun _ _=>rfl)) (qab (qaG (dvq 1) (PD.q qae) (fun _ _=>rfl)) (qab (dv 4) qaj qaa) qac) qac) qaa) qad) qaa) qaa (qaf qad (qaf qaa (qaf qac (qaf qac (qaf qaa qag)))))) (qcs (n:=2) rfl (qaB (qav (i:=6) sc_law.nd rfl (Or.inl rfl)) (qaB (qav (i:=7) sc_law.nd rfl (Or.inl rfl)) qbw))))
      (qak (qaD (i:=6) sc_law.nd rfl (Or.inl rfl) (qat Q__law_bent_plan hr rfl (qab (dv 6) (qab (qaG (dvq 1) (PD.q qae) (fun _ _=>rfl)) (qab (qaG (dvq 1) (PD.q qae) (fun _ _=>rfl)) (qab (qaG (PD.q (PF.d (qaQ (qab qae (qab (qdh (PD.q qae)) (qab qae (qab (qdh (PD.q qae)) qaj qbc) qad) qbc) qad)))) (PD.q (qaG (dvq 1) (PD.q qae) (fun _ _=>rfl))) (fun _ _=>rfl)) qaj qac) qac) qac) qaa) qaa (qaf qac (qaf qac (qaf qac qag)))))
      (qak (qaD (i:=8) sc_law.nd rfl (Or.inl rfl) (qat Q__law_second hr rfl (qab (dv 0) (qab (dv 7) (qab (dv 1) (qab (dv 4) qaj qaa) qaa) qaa) qaa) qaa (qaf qaa (qaf qaa (qaf qaa qag)))))
      (qak (qaD (i:=9) sc_law.nd rfl (Or.inl rfl) (qat Q_holds hr rfl (qab (dv 6) (qab (qat Q__law_told hr rfl (qab (dv 2) (qab (dv 7) qaj qaa) qaa) qaa (qaf qaa qag)) qaj qax) qaa) qaa (qaf qax qag)))
      (qak (qaD (i:=10) sc_law.nd rfl (Or.inl rfl) (qat Q_holds hr rfl (qab (dv 6) (qab (qat Q__law_told hr rfl (qab (dv 3) (qab (dv 8) qaj qaa) qaa) qaa (qaf qaa qag)) qaj qax) qaa) qaa (qaf qax qag)))
      (qa3 (qbO (PWD.td (qlR (qfR (qdc (PD.q (qmJ rfl z_isinstance (dvq 9) (qiX (v:=.ty "bool") rfl z_bool PyProof.Rows.boot_bool rfl) qaa qaa)) (fun _=>rfl))) (qjM (qfR (qdc (PD.q (qmJ rfl z_isinstance (dvq 10) (qiX (v:=.ty "bool") rfl z_bool PyProof.Rows.boot_bool rfl) qaa qaa)) (fun _=>rfl)))))) (qau (qaH qhH)) qa0)
      (qa3 (qbO (PWD.td (qlR (qfR (qdc (dvq 9) (fun _=>rfl))) (qjM (qfR (qdc (dvq 10) (fun _=>rfl)))))) (qau (qaH qhH)) qa0)
      (qa3 (qbO (PWD.td (qgp (qaU (qcD hr.units) (dvq 2) (dvq 3) (qao _)) (qej (qaU (qcD hr.units) (dvq 2) (PD.q qae) (qao _))))) (qau (qaH (qfZ (qcD hr.units) (PD.q (qat Q__law_left hr rfl (qab (qaG (dvq 6) (PD.q qae) (fun _ _=>rfl)) (qab (qaG (dvq 7) (PD.q qae) (fun _ _=>rfl)) qaj qac) qac) qac (qaf qac qag))) (PD.q (qat Q__law_left hr rfl (qab (qaG (dvq 6) (PD.q qae) (fun _ _=>rfl)) (qab (qaG (dvq 8) (PD.q qae) (fun _ _=>rfl)) qaj qac) qac) qac (qaf qac qag))) (qao _)))) qa0)
      (qau (qaH (qfZ (qcD hr.units) (dvq 2) (dvq 3) (qao _))))))))))))))))),?_⟩
  refine ⟨ns,0,rfl,hz,by decide,fun c0=>⟨c0,1,[3,4,5,3,3,10,3,8,4,3,5],rfl,by decide,by decide,by decide,by decide +kernel,fun es hD=>?_⟩⟩
  obtain ⟨x0,t,rfl,d0,hD⟩:=qbi hD
  obtain ⟨x1,t,rfl,d1,hD⟩:=qbi hD
  obtain ⟨x2,t,rfl,d2,hD⟩:=qbi hD
  obtain ⟨x3,t,rfl,d3,hD⟩:=qbi hD
  obtain ⟨x4,t,rfl,d4,hD⟩:=qbi hD
  obtain ⟨x5,t,rfl,d5,hD⟩:=qbi hD
  obtain ⟨x6,t,rfl,d6,hD⟩:=qbi hD
  obtain ⟨x7,t,rfl,d7,hD⟩:=qbi hD
  obtain ⟨x8,t,rfl,d8,hD⟩:=qbi hD
  obtain ⟨x9,t,rfl,d9,hD⟩:=qbi hD
  obtain ⟨x10,t,rfl,d10,hD⟩:=qbi hD
  cases qia hD
  obtain ⟨many,rfl⟩:=Int.eq_ofNat_of_zero_le d2.1
  obtain ⟨n,rfl⟩:=Int.eq_ofNat_of_zero_le d1.1
  have hn:n≤8:=by omega
  obtain ⟨big,eb,hb0,hb1⟩:=qmy d3
  obtain ⟨st,es,hst⟩:=qh1 d8
  refine ⟨_,rfl,_,rfl,⟨by decide,by decide +kernel⟩,_,rfl,_,eb,⟨by decide,by decide⟩,qap (by decide),fun _ y=>∃ c:Int,True∧y=.int c,fun i d hd=>?_,fun ys hyl hy=>?_⟩
  · obtain ⟨hi,rfl⟩:=qbK hd
    exact ⟨ns,_,rfl,hz,by omega,fun c=>⟨c,trivial,rfl⟩⟩
  obtain ⟨cs,rfl,_⟩:=qg6 hy
  have hcl:cs.length=6:=by rw [List.length_map] at hyl;exact hyl
  refine ⟨_,rfl,_,rfl,x0,false,cs,n,many,big,rfl,hcl,⟨hn,by omega,hb0,hb1⟩,?_⟩
  intro bs rs gs sp ray ls hB hrl hrb hgl hgb hsl hsb hyl2 hyb hll hlb
  obtain ⟨o1,o2,o3⟩:=qhM hn hsl hsb hyl2 hyb hll hlb
  refine ⟨rfl,_,rfl,_,rfl,_,rfl,_,es,bs,rs,gs,n,x5,x7,st,rfl,hn,hB,hrl,hrb,hgl,hgb,by omega,fun bs' rs' gs' hp=>?_⟩
  refine ⟨ns,sp,ray,ls,n,x0,many,x3,x4,x5,x6,x7,x8,x9,x10,big,rfl,hz,hn,hsl,hsb,hyl2,hyb,hll,hlb,d8,d7.1,hb0,hb1,fun sp' ray' ls' hP=>?_⟩
  obtain ⟨o1',o2',o3'⟩:=hP
  refine ⟨x0,sp,ray,ls,rfl,x0,n,bs',rs',gs',sp,ray,ls,rfl,hp,o1,o2,o3,?_⟩
  refine ⟨x4,sp',ray',ls',rfl,x4,n,bs',rs',gs',sp',ray',ls',rfl,hp,o1',o2',o3',?_⟩
  have ex:=fun h h'=>qoP (k:=x0) (k':=x4) (sp:=sp) (ray:=ray) (ls:=ls) (sp':=sp') (ray':=ray') (ls':=ls') hp (by omega) (by omega) h h'
  generalize qka x0 n bs' rs' gs' sp ray ls=b1 at ex
  generalize qka x4 n bs' rs' gs' sp' ray' ls'=b2 at ex
  refine ⟨fun ρ=>ρ=[some (.v (.fzl (ns.map D.int))),some (.v (.lst (([x0,(n:Int),(many:Int),x3,x4,x5,x6,x7,x8,x9,x10]:List Int).map D.int))),some (.v (.int x0)),some (.v (.int x4)),some (.v (.int big)),some (.v (.lst (cs.map D.int))),some (.v (qc9 bs' rs' gs')),some (.v (qbM sp ray ls)),some (.v (qbM sp' ray' ls')),some (.v (.bl b1)),some (.v (.bl b2))],⟨true,qkp b1,fun h=>(by cases h),fun _=>⟨true,qkp b2,fun h=>(by cases h),fun _=>rfl⟩⟩,?_⟩
  rintro ρ rfl
  refine ⟨fun ρ=>(b1=true∧b2=true)∧ρ=[some (.v (.fzl (ns.map D.int))),some (.v (.lst (([x0,(n:Int),(many:Int),x3,x4,x5,x6,x7,x8,x9,x10]:List Int).map D.int))),some (.v (.int x0)),some (.v (.int x4)),some (.v (.int big)),some (.v (.lst (cs.map D.int))),some (.v (qc9 bs' rs' gs')),some (.v (qbM sp ray ls)),some (.v (qbM sp' ray' ls')),some (.v (.bl b1)),some (.v (.bl b2))],⟨fun h=>⟨fun _=>q,fun e=>(by cases e)⟩,fun h=>⟨fun _=>q,fun h2=>⟨⟨nt h,nt h2⟩,rfl⟩⟩⟩,?_⟩
  rintro ρ ⟨⟨e1,e2⟩,rfl⟩
  obtain ⟨ek,ew⟩:=ex e1 e2
  have eq1:(x0 == x4)=true:=by rw [ek];exact beq_self_eq_true _
  refine ⟨fun ρ=>ρ=[some (.v (.fzl (ns.map D.int))),some (.v (.lst (([x0,(n:Int),(many:Int),x3,x4,x5,x6,x7,x8,x9,x10]:List Int).map D.int))),some (.v (.int x0)),some (.v (.int x4)),some (.v (.int big)),some (.v (.lst (cs.map D.int))),some (.v (qc9 bs' rs' gs')),some (.v (qbM sp ray ls)),some (.v (qbM sp' ray' ls')),some (.v (.bl b1)),some (.v (.bl b2))],⟨fun _=>⟨fun h=>?_,fun _=>rfl⟩,fun _=>⟨fun h=>ff h,fun _=>rfl⟩⟩,?_⟩
  · have e:x0=2:=by simpa using h
    have hgb2:∀ x∈gs',qeU x:=fun x hx=>qdY (hp.gb x hx) (by decide)
    refine ⟨_,rfl,_,rfl,gs',sp,rfl,by have:=hp.gl;omega,hgb2,fun x hx=>qdY (o1.b x hx) (by decide),_,rfl,_,rfl,gs',sp',rfl,by have:=hp.gl;omega,hgb2,fun x hx=>qdY (o1'.b x hx) (by decide),?_⟩
    refine toB q ?_
    rw [ew e]
    exact beq_self_eq_true _
  rintro ρ rfl
  exact toB q eq1
end
theorem qmE {A:Type} {p:List A→Prop} (h:∀ a0,p [a0]):∀ us:List A,us.length=1→p us
  | [a0],_=>h a0
theorem qgb {A:Type} {p:List A→Prop} (h:∀ a0 a1,p [a0,a1]):∀ us:List A,us.length=2→p us
  | [a0,a1],_=>h a0 a1
theorem qjq {A:Type} {p:List A→Prop} (h:∀ a0 a1 a2,p [a0,a1,a2]):∀ us:List A,us.length=3→p us
  | [a0,a1,a2],_=>h a0 a1 a2
theorem qjz {A:Type} {p:List A→Prop} (h:∀ a0 a1 a2 a3,p [a0,a1,a2,a3]):∀ us:List A,us.length=4→p us
  | [a0,a1,a2,a3],_=>h a0 a1 a2 a3
theorem qod {A:Type} {p:List A→Prop} (h:∀ a0 a1 a2 a3 a4,p [a0,a1,a2,a3,a4]):∀ us:List A,us.length=5→p us
  | [a0,a1,a2,a3,a4],_=>h a0 a1 a2 a3 a4
theorem qpd {A:Type} {p:List A→Prop} (h:∀ a0 a1 a2 a3 a4 a5,p [a0,a1,a2,a3,a4,a5]):∀ us:List A,us.length=6→p us
  | [a0,a1,a2,a3,a4,a5],_=>h a0 a1 a2 a3 a4 a5
theorem all_mk {l:PySem.W.OpenLaw} {w:World} {K:PySem.W.Frag} {h:Heap} {mg:Str→Option Value} {fa f42 f43 f44 f45:Addr} {C_Sides:Addr} (X:K.In h) (G:h.Ns mainGlobals mg) (hfa:mg "law"=some (.ref fa))
    {od42 an42 od43 an43 od44 an44 od45 an45:Option Addr} {sl42 sl43 sl44 sl45:Array (Option Value)} {oc42 kV42 dc42 pm42 cd42 ct42 oc43 kV43 dc43 pm43 cd43 ct43 oc44 kV44 dc44 pm44 cd44 ct44 oc45 kV45 dc45 pm45 cd45 ct45:Value}
    (aC_Sides:PySem.W.nsIn K mainGlobals "Sides"=some (some (.ref C_Sides)))
    (a1:Has K qnb "up")
    (a2:Has K qfF "unit")
    (a3:Has K qfj "width")
    (a4:Has K qfy "left")
    (a5:Has K qeW "meets")
    (a6:Has K qdA "turned")
    (a7:Has K qc3 "givens")
    (a8:Has K qfr "worth")
    (a9:Has K qd5 "better")
    (a10:Has K qbL "is_row_number")
    (a11:Has K qbW "shares_sum")
    (a12:Has K qca "line_row")
    (a13:Has K qcA "can_shut")
    (a14:Has K qgR "bars")
    (a15:Has K qdw "is_ray")
    (a16:Has K qch "is_answer")
    (a17:Has K qfe "holds")
    (a18:Has K qcF "_law_cell")
    (a19:Has K qco "_law_draws")
    (a20:Has K qbE "_law_total")
    (a21:Has K qci "_law_rows")
    (a22:Has K qcb "_law_left")
    (a23:Has K qce "_law_unit")
    (a24:Has K qbr "_law_givens")
    (a25:Has K qb5 "_law_bounds")
    (a26:Has K qcg "_law_tree")
    (a27:Has K qaV "_law_none_built")
    (a28:Has K qbT "_law_spot_in")
    (a29:Has K qbg "_law_best_built")
    (a30:Has K qaP "_law_endless_built")
    (a31:Has K qbd "_law_free_line")
    (a32:Has K qbB "_law_wild")
    (a33:Has K qcI "_law_made")
    (a34:Has K qcK "_law_told")
    (a35:Has K qcJ "_law_bent")
    (a36:Has K qb6 "_law_spoilt")
    (a37:Has K qbz "_law_bent_spot")
    (a38:Has K qbx "_law_bent_plan")
    (a39:Has K qbq "_law_bent_parts")
    (a40:Has K qbH "_law_second")
    (a41:Has K qiv "law")
    (a42:PySem.W.findIn K (.ref C_Sides) "__init__"=some (some (.ref f42))) (i42:PySem.W.isFn K (.ref f42)=true) (l42:K.lookup f42=some ⟨oc42,od42,.func (PySem.W.fnOf "__init__" "Sides.__init__" (qcc qaW) (qbS qaW) (qah qaW) .none kV42 dc42 pm42 an42 cd42 ct42),sl42⟩) (c42:PySem.W.codeIn K cd42 "Sides.__init__"=true) (k42:PySem.W.keepIn K (.ref f42)=true)
    (a43:PySem.W.findIn K (.ref C_Sides) "cut"=some (some (.ref f43))) (i43:PySem.W.isFn K (.ref f43)=true) (l43:K.lookup f43=some ⟨oc43,od43,.func (PySem.W.fnOf "cut" "Sides.cut" (qcc qbn) (qbS qbn) (qah qbn) .none kV43 dc43 pm43 an43 cd43 ct43),sl43⟩) (c43:PySem.W.codeIn K cd43 "Sides.cut"=true) (k43:PySem.W.keepIn K (.ref f43)=true)
    (a44:PySem.W.findIn K (.ref C_Sides) "choose"=some (some (.ref f44))) (i44:PySem.W.isFn K (.ref f44)=true) (l44:K.lookup f44=some ⟨oc44,od44,.func (PySem.W.fnOf "choose" "Sides.choose" (qcc qaZ) (qbS qaZ) (qah qaZ) .none kV44 dc44 pm44 an44 cd44 ct44),sl44⟩) (c44:PySem.W.codeIn K cd44 "Sides.choose"=true) (k44:PySem.W.keepIn K (.ref f44)=true)
    (a45:PySem.W.findIn K (.ref C_Sides) "resume"=some (some (.ref f45))) (i45:PySem.W.isFn K (.ref f45)=true) (l45:K.lookup f45=some ⟨oc45,od45,.func (PySem.W.fnOf "resume" "Sides.resume" (qcc qa8) (qbS qa8) (qah qa8) .none kV45 dc45 pm45 an45 cd45 ct45),sl45⟩) (c45:PySem.W.codeIn K cd45 "Sides.resume"=true) (k45:PySem.W.keepIn K (.ref f45)=true)
    (pg_Sides:PySem.W.plainGet K C_Sides Str.empty=true) (hd_Sides:PySem.W.hasDictIn K C_Sides=true) (po_Sides:PySem.W.plainOver K C_Sides=true) (sa_Sides:PySem.W.findIn K (.ref C_Sides) "__setattr__"=some (some (.builtin "object.__setattr__"))) (mk_Sides:PySem.W.makesIn K C_Sides=true) (kc_Sides:PySem.W.keepIn K (.ref C_Sides)=true)
    (n_Sides_standing:PySem.W.findIn K (.ref C_Sides) "standing"=some none)
    (n_Sides_breadth:PySem.W.findIn K (.ref C_Sides) "breadth"=some none)
    (n_Sides_waiting:PySem.W.findIn K (.ref C_Sides) "waiting"=some none)
    (y_tuple:PySem.W.nsIn K mainGlobals "tuple"=some none)
    (y_range:PySem.W.nsIn K mainGlobals "range"=some none)
    (y_len:PySem.W.nsIn K mainGlobals "len"=some none)
    (y_sum:PySem.W.nsIn K mainGlobals "sum"=some none)
    (y_zip:PySem.W.nsIn K mainGlobals "zip"=some none)
    (y_any:PySem.W.nsIn K mainGlobals "any"=some none)
    (y_all:PySem.W.nsIn K mainGlobals "all"=some none)
    (y_enumerate:PySem.W.nsIn K mainGlobals "enumerate"=some none)
    (y_max:PySem.W.nsIn K mainGlobals "max"=some none)
    (y_abs:PySem.W.nsIn K mainGlobals "abs"=some none)
    (y_list:PySem.W.nsIn K mainGlobals "list"=some none)
    (y_int:PySem.W.nsIn K mainGlobals "int"=some none)
    (y_min:PySem.W.nsIn K mainGlobals "min"=some none)
    (y_isinstance:PySem.W.nsIn K mainGlobals "isinstance"=some none)
    (y_bool:PySem.W.nsIn K mainGlobals "bool"=some none) :
    ∃ fd:FuncData,(∀ (s:Shared) (v:Value),BindsTo s fd ⟨[v],[]⟩ [("_law_script",v)])∧∀ base:Heap,K.In base→base.Ns mainGlobals mg→FnOk l.prog w K mg base CX0 7 fa fd ["_law_script"] (sp_law K):=by
  obtain ⟨f1,d1,F1,m1,_⟩:=a1.fn X G
  have b1:=F1.binds (ps:=["top","bottom"]) <| fun _ _ _ _ _ _=>qgb fun _ _=>rfl
  obtain ⟨f2,d2,F2,m2,_⟩:=a2.fn X G
  obtain ⟨f3,d3,F3,m3,_⟩:=a3.fn X G
  have b3:=F3.binds (ps:=["rows"]) <| fun _ _ _ _ _ _=>qmE fun _=>rfl
  obtain ⟨f4,d4,F4,m4,_⟩:=a4.fn X G
  obtain ⟨f5,d5,F5,m5,_⟩:=a5.fn X G
  obtain ⟨f6,d6,F6,m6,_⟩:=a6.fn X G
  obtain ⟨f7,d7,F7,m7,_⟩:=a7.fn X G
  obtain ⟨f8,d8,F8,m8,_⟩:=a8.fn X G
  obtain ⟨f9,d9,F9,m9,_⟩:=a9.fn X G
  obtain ⟨f10,d10,F10,m10,_⟩:=a10.fn X G
  have b10:=F10.binds (ps:=["rows","number"]) <| fun _ _ _ _ _ _=>qgb fun _ _=>rfl
  obtain ⟨f11,d11,F11,m11,_⟩:=a11.fn X G
  have b11:=F11.binds (ps:=["rows","shares","n"]) <| fun _ _ _ _ _ _=>qjq fun _ _ _=>rfl
  obtain ⟨f12,d12,F12,m12,_⟩:=a12.fn X G
  have b12:=F12.binds (ps:=["rows","shares","divisor"]) <| fun _ _ _ _ _ _=>qjq fun _ _ _=>rfl
  obtain ⟨f13,d13,F13,m13,_⟩:=a13.fn X G
  have b13:=F13.binds (ps:=["rows","number"]) <| fun _ _ _ _ _ _=>qgb fun _ _=>rfl
  obtain ⟨f14,d14,F14,m14,_⟩:=a14.fn X G
  obtain ⟨f15,d15,F15,m15,_⟩:=a15.fn X G
  obtain ⟨f16,d16,F16,m16,_⟩:=a16.fn X G
  obtain ⟨f17,d17,F17,m17,_⟩:=a17.fn X G
  obtain ⟨f18,d18,F18,m18,_⟩:=a18.fn X G
  obtain ⟨f19,d19,F19,m19,_⟩:=a19.fn X G
  obtain ⟨f20,d20,F20,m20,_⟩:=a20.fn X G
  obtain ⟨f21,d21,F21,m21,_⟩:=a21.fn X G
  obtain ⟨f22,d22,F22,m22,_⟩:=a22.fn X G
  obtain ⟨f23,d23,F23,m23,_⟩:=a23.fn X G
  obtain ⟨f24,d24,F24,m24,_⟩:=a24.fn X G
  obtain ⟨f25,d25,F25,m25,_⟩:=a25.fn X G
  obtain ⟨f26,d26,F26,m26,_⟩:=a26.fn X G
  obtain ⟨f27,d27,F27,m27,_⟩:=a27.fn X G
  obtain ⟨f28,d28,F28,m28,_⟩:=a28.fn X G
  obtain ⟨f29,d29,F29,m29,_⟩:=a29.fn X G
  obtain ⟨f30,d30,F30,m30,_⟩:=a30.fn X G
  obtain ⟨f31,d31,F31,m31,_⟩:=a31.fn X G
  obtain ⟨f32,d32,F32,m32,_⟩:=a32.fn X G
  obtain ⟨f33,d33,F33,m33,_⟩:=a33.fn X G
  obtain ⟨f34,d34,F34,m34,_⟩:=a34.fn X G
  obtain ⟨f35,d35,F35,m35,_⟩:=a35.fn X G
  obtain ⟨f36,d36,F36,m36,_⟩:=a36.fn X G
  obtain ⟨f37,d37,F37,m37,_⟩:=a37.fn X G
  obtain ⟨f38,d38,F38,m38,_⟩:=a38.fn X G
  obtain ⟨f39,d39,F39,m39,_⟩:=a39.fn X G
  obtain ⟨f40,d40,F40,m40,_⟩:=a40.fn X G
  obtain ⟨f41,d41,F41,m41,_,_,_,e⟩:=a41.fn X G
  have F42:=qfI (st:=qaW) l42 c42 k42
  have b42:=F42.binds (ps:=["self","rows"]) <| fun _ _ _ _ _ _=>qgb fun _ _=>rfl
  have F43:=qfI (st:=qbn) l43 c43 k43
  have b43:=F43.binds (ps:=["self","shares","divisor"]) <| fun _ _ _ _ _ _=>qjq fun _ _ _=>rfl
  have F44:=qfI (st:=qaZ) l44 c44 k44
  have b44:=F44.binds (ps:=["self","entries","k"]) <| fun _ _ _ _ _ _=>qjq fun _ _ _=>rfl
  have F45:=qfI (st:=qa8) l45 c45 k45
  have b45:=F45.binds (ps:=["self"]) <| fun _ _ _ _ _ _=>qmE fun _=>rfl
  cases hfa.symm.trans m41
  refine ⟨d41,fun s v=>by rw [e];exact .of_eq rfl,fun base _ _=>?_⟩
  have z_tuple:=PySem.W.mg_none_of X G y_tuple
  have z_range:=PySem.W.mg_none_of X G y_range
  have z_len:=PySem.W.mg_none_of X G y_len
  have z_sum:=PySem.W.mg_none_of X G y_sum
  have z_zip:=PySem.W.mg_none_of X G y_zip
  have z_any:=PySem.W.mg_none_of X G y_any
  have z_all:=PySem.W.mg_none_of X G y_all
  have z_enumerate:=PySem.W.mg_none_of X G y_enumerate
  have z_max:=PySem.W.mg_none_of X G y_max
  have z_abs:=PySem.W.mg_none_of X G y_abs
  have z_list:=PySem.W.mg_none_of X G y_list
  have z_int:=PySem.W.mg_none_of X G y_int
  have z_min:=PySem.W.mg_none_of X G y_min
  have z_isinstance:=PySem.W.mg_none_of X G y_isinstance
  have z_bool:=PySem.W.mg_none_of X G y_bool
  have T_Sides:TxtSides K mg C_Sides:=⟨⟨pg_Sides,hd_Sides,po_Sides,sa_Sides⟩,n_Sides_standing,n_Sides_breadth,n_Sides_waiting,PySem.W.mg_of X G aC_Sides⟩
  have H1:=qnt (P:=l.prog) (w:=w) (mg:=mg) (base:=base) (n:=0) F1
  have H2:=qla (P:=l.prog) (w:=w) (mg:=mg) (base:=base) (n:=0) F2 z_tuple z_range
  have Q2:=F2.cl m2 H2 <| fun _ _ _ _ _ _=>qgb fun _ _=>rfl
  have H3:=qjD (P:=l.prog) (w:=w) (mg:=mg) (base:=base) (n:=0) F3 z_len
  have H4:=qlk (P:=l.prog) (w:=w) (mg:=mg) (base:=base) (n:=0) F4 z_sum z_zip
  have Q4:=F4.cl m4 H4 <| fun _ _ _ _ _ _=>qgb fun _ _=>rfl
  have H5:=qjL (n:=1) F5 (Q4.mono (by decide))
  have Q5:=F5.cl m5 H5 <| fun _ _ _ _ _ _=>qgb fun _ _=>rfl
  have H6:=qh4 (P:=l.prog) (w:=w) (mg:=mg) (base:=base) (n:=0) F6 z_tuple
  have Q6:=F6.cl m6 H6 <| fun _ _ _ _ _ _=>qmE fun _=>rfl
  have H7:=qjn (n:=1) F7 (Q6.mono (by decide)) (Q2.mono (by decide)) z_len z_range z_tuple
  have Q7:=F7.cl m7 H7 <| fun _ _ _ _ _ _=>qmE fun _=>rfl
  have H8:=qjx (n:=1) F8 (Q4.mono (by decide))
  have Q8:=F8.cl m8 H8 <| fun _ _ _ _ _ _=>qgb fun _ _=>rfl
  have H9:=qhT (P:=l.prog) (w:=w) (mg:=mg) (base:=base) (n:=0) F9
  have Q9:=F9.cl m9 H9 <| fun _ _ _ _ _ _=>qgb fun _ _=>rfl
  have H10:=qd3 (P:=l.prog) (w:=w) (mg:=mg) (base:=base) (n:=0) F10 z_len
  have H11:=qfg (P:=l.prog) (w:=w) (mg:=mg) (base:=base) (n:=1) F11 (H10.mono (by decide)) b10 F10.kp m10 z_tuple z_zip
  have H12:=qgC (P:=l.prog) (w:=w) (mg:=mg) (base:=base) (n:=2) F12 (H11.mono (by decide)) b11 F11.kp m11 (H3.mono (by decide)) b3 F3.kp m3 (H1.mono (by decide)) b1 F1.kp m1 z_any z_tuple z_len
  have H13:=qgG (P:=l.prog) (w:=w) (mg:=mg) (base:=base) (n:=1) F13 (H10.mono (by decide)) b10 F10.kp m10 z_all
  have H15:=qib (n:=1) F15 (Q4.mono (by decide)) z_len z_all
  have Q15:=F15.cl m15 H15 <| fun _ _ _ _ _ _=>qjq fun _ _ _=>rfl
  have H16:=qfV (n:=2) F16 (Q5.mono (by decide)) z_all z_len
  have Q16:=F16.cl m16 H16 <| fun _ _ _ _ _ _=>qjq fun _ _ _=>rfl
  have H18:=qgh (P:=l.prog) (w:=w) (mg:=mg) (base:=base) (n:=0) F18 z_len
  have Q18:=F18.cl m18 H18 <| fun _ _ _ _ _ _=>qgb fun _ _=>rfl
  have H19:=qeX (P:=l.prog) (w:=w) (mg:=mg) (base:=base) (n:=0) F19 z_max z_enumerate z_abs
  have Q19:=F19.cl m19 H19 <| fun _ _ _ _ _ _=>qjq fun _ _ _=>rfl
  have H20:=qfi (P:=l.prog) (w:=w) (mg:=mg) (base:=base) (n:=0) F20 z_list z_len z_zip
  have Q20:=F20.cl m20 H20 <| fun _ _ _ _ _ _=>qjq fun _ _ _=>rfl
  have H21:=qf3 (n:=1) F21 (Q19.mono (by decide)) z_range z_tuple
  have Q21:=F21.cl m21 H21 <| fun _ _ _ _ _ _=>qod fun _ _ _ _ _=>rfl
  have H22:=qfT (P:=l.prog) (w:=w) (mg:=mg) (base:=base) (n:=0) F22 z_sum z_zip
  have Q22:=F22.cl m22 H22 <| fun _ _ _ _ _ _=>qgb fun _ _=>rfl
  have H23:=qfx (P:=l.prog) (w:=w) (mg:=mg) (base:=base) (n:=0) F23 z_tuple z_int z_range
  have Q23:=F23.cl m23 H23 <| fun _ _ _ _ _ _=>qjq fun _ _ _=>rfl
  have H24:=qeD (n:=1) F24 (Q23.mono (by decide)) z_len z_list z_range
  have Q24:=F24.cl m24 H24 <| fun _ _ _ _ _ _=>qmE fun _=>rfl
  have H25:=qeE (n:=1) F25 (Q19.mono (by decide)) z_range z_tuple
  have Q25:=F25.cl m25 H25 <| fun _ _ _ _ _ _=>qgb fun _ _=>rfl
  have H26:=qfM (n:=1) F26 (Q19.mono (by decide)) z_range z_tuple
  have Q26:=F26.cl m26 H26 <| fun _ _ _ _ _ _=>qjz fun _ _ _ _=>rfl
  have H27:=qdB (n:=2) F27 (Q25.mono (by decide)) (Q21.mono (by decide)) (Q24.mono (by decide)) (Q19.mono (by decide)) (Q20.mono (by decide)) (Q26.mono (by decide)) z_tuple z_len z_range z_max
  have Q27:=F27.cl m27 H27 <| fun _ _ _ _ _ _=>qjz fun _ _ _ _=>rfl
  have H28:=qd9 (n:=1) F28 (Q19.mono (by decide)) z_zip z_tuple z_len z_min z_max
  have Q28:=F28.cl m28 H28 <| fun _ _ _ _ _ _=>qgb fun _ _=>rfl
  have H29:=qdD (n:=2) F29 (Q25.mono (by decide)) (Q28.mono (by decide)) (Q19.mono (by decide)) (Q24.mono (by decide)) (Q20.mono (by decide)) (Q26.mono (by decide)) (Q21.mono (by decide)) (Q22.mono (by decide)) z_enumerate z_tuple z_len z_max
  have Q29:=F29.cl m29 H29 <| fun _ _ _ _ _ _=>qjz fun _ _ _ _=>rfl
  have H30:=qcW (n:=2) F30 (Q25.mono (by decide)) (Q28.mono (by decide)) (Q19.mono (by decide)) (Q21.mono (by decide)) (Q22.mono (by decide)) z_tuple z_zip z_int z_range z_max
  have Q30:=F30.cl m30 H30 <| fun _ _ _ _ _ _=>qjz fun _ _ _ _=>rfl
  have H31:=qdJ (n:=1) F31 (Q19.mono (by decide)) z_tuple z_max z_range
  have Q31:=F31.cl m31 H31 <| fun _ _ _ _ _ _=>qgb fun _ _=>rfl
  have H32:=qfU (n:=2) F32 (Q19.mono (by decide)) (Q21.mono (by decide)) (Q31.mono (by decide)) z_range z_tuple
  have Q32:=F32.cl m32 H32 <| fun _ _ _ _ _ _=>qjz fun _ _ _ _=>rfl
  have H33:=qfB (n:=3) F33 (Q29.mono (by decide)) (Q32.mono (by decide)) (Q27.mono (by decide)) (Q30.mono (by decide))
  have Q33:=F33.cl m33 H33 <| fun _ _ _ _ _ _=>qpd fun _ _ _ _ _ _=>rfl
  have H34:=qfN (P:=l.prog) (w:=w) (mg:=mg) (base:=base) (n:=0) F34 z_tuple
  have Q34:=F34.cl m34 H34 <| fun _ _ _ _ _ _=>qgb fun _ _=>rfl
  have H35:=qfD (P:=l.prog) (w:=w) (mg:=mg) (base:=base) (n:=0) F35 z_list z_tuple z_len z_int
  have Q35:=F35.cl m35 H35 <| fun _ _ _ _ _ _=>qjz fun _ _ _ _=>rfl
  have H36:=qeA (n:=1) F36 (Q19.mono (by decide)) (Q35.mono (by decide)) z_len
  have Q36:=F36.cl m36 H36 <| fun _ _ _ _ _ _=>qjq fun _ _ _=>rfl
  have H37:=qdN (P:=l.prog) (w:=w) (mg:=mg) (base:=base) (n:=0) F37 z_len
  have Q37:=F37.cl m37 H37 <| fun _ _ _ _ _ _=>qjz fun _ _ _ _=>rfl
  have H38:=qdI (P:=l.prog) (w:=w) (mg:=mg) (base:=base) (n:=0) F38 z_len
  have Q38:=F38.cl m38 H38 <| fun _ _ _ _ _ _=>qjz fun _ _ _ _=>rfl
  have H39:=qdp (n:=2) F39 (Q37.mono (by decide)) (Q36.mono (by decide)) (Q31.mono (by decide))
  have Q39:=F39.cl m39 H39 <| fun _ _ _ _ _ _=>qod fun _ _ _ _ _=>rfl
  have H40:=qeC (n:=3) F40 (Q39.mono (by decide)) (Q18.mono (by decide)) (Q32.mono (by decide)) z_range
  have Q40:=F40.cl m40 H40 <| fun _ _ _ _ _ _=>qjz fun _ _ _ _=>rfl
  have H42:=qdE (P:=l.prog) (w:=w) (mg:=mg) (base:=base) (n:=1) F42 T_Sides (H3.mono (by decide)) b3 F3.kp m3 z_list
  have H43:=qeZ (P:=l.prog) (w:=w) (mg:=mg) (base:=base) (n:=3) F43 T_Sides (H12.mono (by decide)) b12 F12.kp m12
  have H44:=qdX (P:=l.prog) (w:=w) (mg:=mg) (base:=base) (n:=0) F44 T_Sides z_len z_tuple
  have H45:=qdZ (P:=l.prog) (w:=w) (mg:=mg) (base:=base) (n:=0) F45 T_Sides z_len
  have H14:=qlc (P:=l.prog) (w:=w) (mg:=mg) (base:=base) (n:=3) F14 T_Sides (H13.mono (by decide)) b13 F13.kp m13 (H42.mono (by decide)) b42 ⟨mk_Sides,a42,i42,kc_Sides⟩ (H43.mono (by decide)) b43 ⟨a43,i43,k43⟩ (H45.mono (by decide)) b45 ⟨a45,i45,k45⟩ (H44.mono (by decide)) b44 ⟨a44,i44,k44⟩ z_enumerate z_len
  have Q14:=F14.cl m14 (H14.toD qid) <| fun _ _ _ _ _ _=>qgb fun _ _=>rfl
  have H17:=qjv (n:=5) F17 (Q7.mono (by decide)) (Q14.mono (by decide)) (Q16.mono (by decide)) (Q15.mono (by decide)) (Q9.mono (by decide)) (Q8.mono (by decide))
  have Q17:=F17.cl m17 H17 <| fun _ _ _ _ _ _=>qgb fun _ _=>rfl
  have H41:=qmr (n:=6) F41 (Q19.mono (by decide)) (Q33.mono (by decide)) (Q38.mono (by decide)) (Q40.mono (by decide)) (Q17.mono (by decide)) (Q18.mono (by decide)) (Q34.mono (by decide)) (Q22.mono (by decide)) z_range z_isinstance z_bool
  exact H41.imp qjF
theorem walk {l:PySem.W.OpenLaw} {q:Program} {loose:List Str} {XP:(Str→Option Value)→Heap→Prop} {YP:World→Heap→Prop} {d:DefRec} {K:Params→PySem.W.Frag} (hn:l.most=some 63) (hdf:d.params.defaults=[])
    (hY:∀ (w:World) (h:Heap),YP w h→(K w.params).In h) (hN:∀ w:World,PySem.W.nsIn (K w.params) mainGlobals "least_grown"=some none∧PySem.W.nsIn (K w.params) mainGlobals "greatest_first"=some none)
    (F:∀ (w:World) (mg:Str→Option Value) (fa:Addr) (h:Heap),(K w.params).In h→h.Ns mainGlobals mg→mg d.name=some (.ref fa) →
      ∃ fd:FuncData,(∀ (s:Shared) (u:Value),BindsTo s fd ⟨[u],[]⟩ [("_law_script",u)])∧∀ base:Heap,(K w.params).In base→base.Ns mainGlobals mg→FnOk l.prog w (K w.params) mg base CX0 7 fa fd ["_law_script"] (sp_law (K w.params))) :
    PySem.W.WalkO q loose XP YP l.row.toRowW d [] (fun f vs=>PySem.call f vs) :=
  L2.walk_of (n:=63) (k:=7) (x:="_law_script") (CX:=fun _=>CX0) (sp:=fun w=>sp_law (K w.params)) hn (by decide) hdf ⟨rfl,by decide,by decide⟩ hY F (fun w H a ns hl _ hS=>⟨a,ns,rfl,hS,hl,(fun t ht=>by rw [qhX (hN w)] at ht;cases ht),fun _=>rfl⟩) fun _ _ _ _ _ z=>z
end Kx
namespace Kx
open PySem PySem.W L2
def KK:Params→Frag:=fun P =>
  (nat_lit 2,⟨.none,none,(.dict #[] 0),#[]⟩) ::
  (nat_lit 3,⟨(.type "dict"),none,(.dict #[dE P "__name__" 165 ((.str "law_cutyard_k23_whole_verdicts_exclude" 409)),dE P "__doc__" 166 (.none),dE P "__package__" 167 (.none),dE P "__loader__" 168 ((.builtin "__main__.__loader__#opaque")),dE P "__spec__" 169 (.none),dE P "__annotations__" 170 ((.ref 6)),dE P "__builtins__" 171 ((.ref 4)),dE P "__file__" 173 ((.str "/claim/cut.py" 172)),dE P "__cached__" 174 (.none),dE P "YardError" 206 ((.ref 24)),dE P "NoNumber" 222 ((.ref 37)),dE P "up" 232 ((.ref 46)),dE P "unit" 240 ((.ref 51)),dE P "width" 247 ((.ref 58)),dE P "left" 253 ((.ref 63)),dE P "meets" 261 ((.ref 70)),dE P "turned" 267 ((.ref 75)),dE P "givens" 275 ((.ref 80)),dE P "worth" 283 ((.ref 87)),dE P "better" 291 ((.ref 94)),dE P "is_row_number" 301 ((.ref 101)),dE P "shares_sum" 307 ((.ref 106)),dE P "line_row" 313 ((.ref 111)),dE P "can_shut" 319 ((.ref 116)),dE P "Sides" 374 ((.ref 152)),dE P "bars" 386 ((.ref 163)),dE P "is_ray" 392 ((.ref 168)),dE P "is_answer" 398 ((.ref 173)),dE P "holds" 408 ((.ref 180)),dE P "_law_cell" 418 ((.ref 187)),dE P "_law_draws" 432 ((.ref 194)),dE P "_law_total" 438 ((.ref 199)),dE P "_law_rows" 444 ((.ref 204)),dE P "_law_left" 450 ((.ref 209)),dE P "_law_unit" 456 ((.ref 214)),dE P "_law_givens" 462 ((.ref 219)),dE P "_law_bounds" 474 ((.ref 226)),dE P "_law_tree" 480 ((.ref 231)),dE P "_law_none_built" 486 ((.ref 236)),dE P "_law_spot_in" 499 ((.ref 243)),dE P "_law_best_built" 505 ((.ref 248)),dE P "_law_endless_built" 511 ((.ref 253)),dE P "_law_free_line" 517 ((.ref 258)),dE P "_law_wild" 523 ((.ref 263)),dE P "_law_made" 535 ((.ref 270)),dE P "_law_told" 546 ((.ref 277)),dE P "_law_bent" 560 ((.ref 284)),dE P "_law_spoilt" 574 ((.ref 291)),dE P "_law_bent_spot" 584 ((.ref 298)),dE P "_law_bent_plan" 601 ((.ref 305)),dE P "_law_bent_parts" 615 ((.ref 312)),dE P "_law_second" 621 ((.ref 317)),dE P "law" 627 ((.ref 322))] 53),#[]⟩) ::
(nat_lit 45,cO "up" 225 "up" 226 227 7 2 3 40 181 41 (.ref 42) (.ref 43) 44 230 231) ::
  (nat_lit 46,fO qnb "up" "up" "cutyard.wholes" 223 45) ::
(nat_lit 50,cO "unit" 235 "unit" 236 237 12 2 3 47 181 48 .none .none 49 238 239) ::
  (nat_lit 51,fO qfF "unit" "unit" "cutyard.rows" 233 50) ::
(nat_lit 57,cO "width" 241 "width" 242 243 14 1 3 52 181 53 (.ref 54) (.ref 55) 56 245 246) ::
  (nat_lit 58,fO qfj "width" "width" "cutyard.rows" 233 57) ::
(nat_lit 62,cO "left" 248 "left" 249 250 18 2 3 59 181 60 .none .none 61 251 252) ::
  (nat_lit 63,fO qfy "left" "left" "cutyard.rows" 233 62) ::
(nat_lit 69,cO "meets" 254 "meets" 255 256 20 2 3 64 181 65 (.ref 66) (.ref 67) 68 259 260) ::
  (nat_lit 70,fO qeW "meets" "meets" "cutyard.rows" 233 69) ::
(nat_lit 74,cO "turned" 262 "turned" 263 264 22 1 3 71 181 72 .none .none 73 265 266) ::
  (nat_lit 75,fO qdA "turned" "turned" "cutyard.rows" 233 74) ::
(nat_lit 79,cO "givens" 270 "givens" 271 272 25 1 3 76 181 77 .none .none 78 273 274) ::
  (nat_lit 80,fO qc3 "givens" "givens" "cutyard.plans" 268 79) ::
(nat_lit 86,cO "worth" 276 "worth" 277 278 31 2 3 81 181 82 (.ref 83) (.ref 84) 85 281 282) ::
  (nat_lit 87,fO qfr "worth" "worth" "cutyard.plans" 268 86) ::
(nat_lit 93,cO "better" 284 "better" 285 286 33 2 3 88 181 89 (.ref 90) (.ref 91) 92 289 290) ::
  (nat_lit 94,fO qd5 "better" "better" "cutyard.plans" 268 93) ::
(nat_lit 100,cO "is_row_number" 294 "is_row_number" 295 296 36 2 3 95 181 96 (.ref 97) (.ref 98) 99 299 300) ::
  (nat_lit 101,fO qbL "is_row_number" "is_row_number" "cutyard.looker" 292 100) ::
(nat_lit 105,cO "shares_sum" 302 "shares_sum" 303 304 38 3 3 102 181 103 .none .none 104 305 306) ::
  (nat_lit 106,fO qbW "shares_sum" "shares_sum" "cutyard.looker" 292 105) ::
(nat_lit 110,cO "line_row" 308 "line_row" 309 310 48 3 3 107 181 108 .none .none 109 311 312) ::
  (nat_lit 111,fO qca "line_row" "line_row" "cutyard.looker" 292 110) ::
(nat_lit 115,cO "can_shut" 314 "can_shut" 315 316 57 2 3 112 181 113 .none .none 114 317 318) ::
  (nat_lit 116,fO qcA "can_shut" "can_shut" "cutyard.looker" 292 115) ::
(nat_lit 129,cO "__init__" 332 "Sides.__init__" 333 334 64 2 3 124 181 125 (.ref 126) (.ref 127) 128 337 338) ::
  (nat_lit 130,fO qaW "__init__" "Sides.__init__" "cutyard.looker" 292 129) ::
(nat_lit 136,cO "cut" 340 "Sides.cut" 341 342 69 3 3 131 181 132 (.ref 133) (.ref 134) 135 347 348) ::
  (nat_lit 137,fO qbn "cut" "Sides.cut" "cutyard.looker" 292 136) ::
(nat_lit 141,cO "choose" 350 "Sides.choose" 351 352 76 3 3 138 181 139 .none .none 140 353 354) ::
  (nat_lit 142,fO qaZ "choose" "Sides.choose" "cutyard.looker" 292 141) ::
(nat_lit 148,cO "resume" 356 "Sides.resume" 357 358 83 1 3 143 181 144 (.ref 145) (.ref 146) 147 361 362) ::
  (nat_lit 149,fO qa8 "resume" "Sides.resume" "cutyard.looker" 292 148) ::
  (nat_lit 150,⟨(.type "tuple"),none,(.seq #[(.str "breadth" 364),(.str "standing" 365),(.str "waiting" 366)] 0),#[]⟩) ::
  (nat_lit 151,⟨(.type "dict"),none,(.dict #[dE P "__module__" 327 ((.str "cutyard.looker" 292)),dE P "__firstlineno__" 331 ((.int 62 330)),dE P "__init__" 339 ((.ref 130)),dE P "cut" 349 ((.ref 137)),dE P "choose" 355 ((.ref 142)),dE P "resume" 363 ((.ref 149)),dE P "__static_attributes__" 367 ((.ref 150)),dE P "__dict__" 369 ((.ref 153)),dE P "__weakref__" 371 ((.ref 154)),dE P "__doc__" 372 (.none)] 4),#[]⟩) ::
  (nat_lit 152,⟨(.type "type"),none,(.cls ⟨"Sides",[(.type "object")],[(.ref 152),(.type "object")],151,"Sides",true,[],[],false,none,false⟩),#[none,none,(some (.str "Sides" 320)),(some (.str "Sides" 328)),(some (.builtin "object.__new__")),(some (.bool true))]⟩) ::
  (nat_lit 153,⟨(.type "getset_descriptor"),none,(.fields #[(.str "__dict__" 368),(.ref 152),(.builtin "function.__dict__"),(.builtin "function.__dict__#set")]),#[]⟩) ::
  (nat_lit 154,⟨(.type "getset_descriptor"),none,(.fields #[(.str "__weakref__" 370),(.ref 152),(.builtin "ExceptionGroup.__weakref__"),.none]),#[]⟩) ::
(nat_lit 162,cO "bars" 375 "bars" 376 377 88 2 3 157 181 158 (.ref 159) (.ref 160) 161 384 385) ::
  (nat_lit 163,fO qgR "bars" "bars" "cutyard.looker" 292 162) ::
(nat_lit 167,cO "is_ray" 387 "is_ray" 388 389 104 3 3 164 181 165 .none .none 166 390 391) ::
  (nat_lit 168,fO qdw "is_ray" "is_ray" "cutyard.looker" 292 167) ::
(nat_lit 172,cO "is_answer" 393 "is_answer" 394 395 108 3 3 169 181 170 .none .none 171 396 397) ::
  (nat_lit 173,fO qch "is_answer" "is_answer" "cutyard.looker" 292 172) ::
(nat_lit 179,cO "holds" 399 "holds" 400 401 112 2 3 174 181 175 (.ref 176) (.ref 177) 178 406 407) ::
  (nat_lit 180,fO qfe "holds" "holds" "cutyard.looker" 292 179) ::
(nat_lit 186,cO "_law_cell" 411 "_law_cell" 412 413 123 2 3 181 181 182 (.ref 183) (.ref 184) 185 416 417) ::
  (nat_lit 187,fO qcF "_law_cell" "_law_cell" "law_cutyard_k23_whole_verdicts_exclude" 409 186) ::
(nat_lit 193,cO "_law_draws" 419 "_law_draws" 420 421 127 3 3 188 181 189 (.ref 190) (.ref 191) 192 430 431) ::
  (nat_lit 194,fO qco "_law_draws" "_law_draws" "law_cutyard_k23_whole_verdicts_exclude" 409 193) ::
(nat_lit 198,cO "_law_total" 433 "_law_total" 434 435 143 3 3 195 181 196 .none .none 197 436 437) ::
  (nat_lit 199,fO qbE "_law_total" "_law_total" "law_cutyard_k23_whole_verdicts_exclude" 409 198) ::
(nat_lit 203,cO "_law_rows" 439 "_law_rows" 440 441 151 5 3 200 181 201 .none .none 202 442 443) ::
  (nat_lit 204,fO qci "_law_rows" "_law_rows" "law_cutyard_k23_whole_verdicts_exclude" 409 203) ::
(nat_lit 208,cO "_law_left" 445 "_law_left" 446 447 158 2 3 205 181 206 .none .none 207 448 449) ::
  (nat_lit 209,fO qcb "_law_left" "_law_left" "law_cutyard_k23_whole_verdicts_exclude" 409 208) ::
(nat_lit 213,cO "_law_unit" 451 "_law_unit" 452 453 160 3 3 210 181 211 .none .none 212 454 455) ::
  (nat_lit 214,fO qce "_law_unit" "_law_unit" "law_cutyard_k23_whole_verdicts_exclude" 409 213) ::
(nat_lit 218,cO "_law_givens" 457 "_law_givens" 458 459 162 1 3 215 181 216 .none .none 217 460 461) ::
  (nat_lit 219,fO qbr "_law_givens" "_law_givens" "law_cutyard_k23_whole_verdicts_exclude" 409 218) ::
(nat_lit 225,cO "_law_bounds" 463 "_law_bounds" 464 465 167 2 3 220 181 221 (.ref 222) (.ref 223) 224 472 473) ::
  (nat_lit 226,fO qb5 "_law_bounds" "_law_bounds" "law_cutyard_k23_whole_verdicts_exclude" 409 225) ::
(nat_lit 230,cO "_law_tree" 475 "_law_tree" 476 477 176 4 3 227 181 228 .none .none 229 478 479) ::
  (nat_lit 231,fO qcg "_law_tree" "_law_tree" "law_cutyard_k23_whole_verdicts_exclude" 409 230) ::
(nat_lit 235,cO "_law_none_built" 481 "_law_none_built" 482 483 192 4 3 232 181 233 .none .none 234 484 485) ::
  (nat_lit 236,fO qaV "_law_none_built" "_law_none_built" "law_cutyard_k23_whole_verdicts_exclude" 409 235) ::
(nat_lit 242,cO "_law_spot_in" 487 "_law_spot_in" 488 489 205 2 3 237 181 238 (.ref 239) (.ref 240) 241 497 498) ::
  (nat_lit 243,fO qbT "_law_spot_in" "_law_spot_in" "law_cutyard_k23_whole_verdicts_exclude" 409 242) ::
(nat_lit 247,cO "_law_best_built" 500 "_law_best_built" 501 502 214 4 3 244 181 245 .none .none 246 503 504) ::
  (nat_lit 248,fO qbg "_law_best_built" "_law_best_built" "law_cutyard_k23_whole_verdicts_exclude" 409 247) ::
(nat_lit 252,cO "_law_endless_built" 506 "_law_endless_built" 507 508 231 4 3 249 181 250 .none .none 251 509 510) ::
  (nat_lit 253,fO qaP "_law_endless_built" "_law_endless_built" "law_cutyard_k23_whole_verdicts_exclude" 409 252) ::
(nat_lit 257,cO "_law_free_line" 512 "_law_free_line" 513 514 245 2 3 254 181 255 .none .none 256 515 516) ::
  (nat_lit 258,fO qbd "_law_free_line" "_law_free_line" "law_cutyard_k23_whole_verdicts_exclude" 409 257) ::
(nat_lit 262,cO "_law_wild" 518 "_law_wild" 519 520 258 4 3 259 181 260 .none .none 261 521 522) ::
  (nat_lit 263,fO qbB "_law_wild" "_law_wild" "law_cutyard_k23_whole_verdicts_exclude" 409 262) ::
(nat_lit 269,cO "_law_made" 524 "_law_made" 525 526 271 6 3 264 181 265 (.ref 266) (.ref 267) 268 533 534) ::
  (nat_lit 270,fO qcI "_law_made" "_law_made" "law_cutyard_k23_whole_verdicts_exclude" 409 269) ::
(nat_lit 276,cO "_law_told" 536 "_law_told" 537 538 279 2 3 271 181 272 (.ref 273) (.ref 274) 275 544 545) ::
  (nat_lit 277,fO qcK "_law_told" "_law_told" "law_cutyard_k23_whole_verdicts_exclude" 409 276) ::
(nat_lit 283,cO "_law_bent" 547 "_law_bent" 548 549 286 4 3 278 181 279 (.ref 280) (.ref 281) 282 558 559) ::
  (nat_lit 284,fO qcJ "_law_bent" "_law_bent" "law_cutyard_k23_whole_verdicts_exclude" 409 283) ::
(nat_lit 290,cO "_law_spoilt" 561 "_law_spoilt" 562 563 311 3 3 285 181 286 (.ref 287) (.ref 288) 289 572 573) ::
  (nat_lit 291,fO qb6 "_law_spoilt" "_law_spoilt" "law_cutyard_k23_whole_verdicts_exclude" 409 290) ::
(nat_lit 297,cO "_law_bent_spot" 575 "_law_bent_spot" 576 577 328 4 3 292 181 293 (.ref 294) (.ref 295) 296 582 583) ::
  (nat_lit 298,fO qbz "_law_bent_spot" "_law_bent_spot" "law_cutyard_k23_whole_verdicts_exclude" 409 297) ::
(nat_lit 304,cO "_law_bent_plan" 585 "_law_bent_plan" 586 587 337 4 3 299 181 300 (.ref 301) (.ref 302) 303 599 600) ::
  (nat_lit 305,fO qbx "_law_bent_plan" "_law_bent_plan" "law_cutyard_k23_whole_verdicts_exclude" 409 304) ::
(nat_lit 311,cO "_law_bent_parts" 602 "_law_bent_parts" 603 604 357 5 3 306 181 307 (.ref 308) (.ref 309) 310 613 614) ::
  (nat_lit 312,fO qbq "_law_bent_parts" "_law_bent_parts" "law_cutyard_k23_whole_verdicts_exclude" 409 311) ::
(nat_lit 316,cO "_law_second" 616 "_law_second" 617 618 366 4 3 313 181 314 .none .none 315 619 620) ::
  (nat_lit 317,fO qbH "_law_second" "_law_second" "law_cutyard_k23_whole_verdicts_exclude" 409 316) ::
(nat_lit 321,cO "law" 622 "law" 623 624 375 1 3 318 181 319 .none .none 320 625 626) ::
  (nat_lit 322,fO qiv "law" "law" "law_cutyard_k23_whole_verdicts_exclude" 409 321)::[]
end Kx
def PySem.W.Fast.tw7633546366267610084:=PySem.Challenge.pw_cutyard_k23_whole_verdicts_exclude
theorem PySem.W.Fast.te7633546366267610084:PySem.Challenge.pw_cutyard_k23_whole_verdicts_exclude=PySem.W.Fast.tw7633546366267610084:=rfl
def PySem.W.Fast.tw5385739360559341639:=Kx.KK
theorem PySem.W.Fast.te5385739360559341639:Kx.KK=PySem.W.Fast.tw5385739360559341639:=rfl
theorem PySem.W.Fast.tw10158765328168287498:True:=trivial
theorem PySem.W.Fast.tw10352109623614130030:True:=trivial
theorem PySem.W.Fast.tw11082841414642733517:True:=trivial
theorem PySem.W.Fast.tw1108574318101742741:True:=trivial
theorem PySem.W.Fast.tw11118746981186680727:True:=trivial
theorem PySem.W.Fast.tw11385928960106461120:True:=trivial
theorem PySem.W.Fast.tw11919480479565883293:True:=trivial
theorem PySem.W.Fast.tw11967697417035999228:True:=trivial
theorem PySem.W.Fast.tw12625843260823020296:True:=trivial
theorem PySem.W.Fast.tw13355398387054260883:True:=trivial
theorem PySem.W.Fast.tw13752790652357731597:True:=trivial
theorem PySem.W.Fast.tw13948586723626710860:True:=trivial
theorem PySem.W.Fast.tw14884841862697756758:True:=trivial
theorem PySem.W.Fast.tw15270297652908804396:True:=trivial
theorem PySem.W.Fast.tw16233604116269881497:True:=trivial
theorem PySem.W.Fast.tw16298099207493895802:True:=trivial
theorem PySem.W.Fast.tw16602358140001930662:True:=trivial
theorem PySem.W.Fast.tw17298899846605084513:True:=trivial
theorem PySem.W.Fast.tw17401600908051623728:True:=trivial
theorem PySem.W.Fast.tw17625120587405551571:True:=trivial
theorem PySem.W.Fast.tw17699085122289262399:True:=trivial
theorem PySem.W.Fast.tw17953867833670441007:True:=trivial
theorem PySem.W.Fast.tw18237792081427784682:True:=trivial
theorem PySem.W.Fast.tw1885159887056823256:True:=trivial
theorem PySem.W.Fast.tw2369617693206213404:True:=trivial
theorem PySem.W.Fast.tw252427524548111115:True:=trivial
theorem PySem.W.Fast.tw2545922837281687635:True:=trivial
theorem PySem.W.Fast.tw3174682871375414226:True:=trivial
theorem PySem.W.Fast.tw3478513555936706087:True:=trivial
theorem PySem.W.Fast.tw4032786216337808218:True:=trivial
theorem PySem.W.Fast.tw5053620590258678311:True:=trivial
theorem PySem.W.Fast.tw5333511305714624678:True:=trivial
theorem PySem.W.Fast.tw7976691093187788848:True:=trivial
theorem PySem.W.Fast.tw8512234161075768125:True:=trivial
open PySem PySem.W PyProof.Rows
set_option maxRecDepth 100000 in
set_option maxHeartbeats 0 in
theorem PySem.Challenge.cw_cutyard_k23_whole_verdicts_exclude_holds : PySem.Challenge.rw_cutyard_k23_whole_verdicts_exclude.Holds := by
  w_on;o_law;o_head (kHook Kx.KK (2::3::45::46::50::51::57::58::62::63::69::70::74::75::79::80::86::87::93::94::100::101::105::106::110::111::115::116::129::130::136::137::141::142::148::149::150::151::152::153::154::162::163::167::168::172::173::179::180::186::187::193::194::198::199::203::204::208::209::213::214::218::219::225::226::230::231::235::236::242::243::247::248::252::253::257::258::262::263::269::270::276::277::283::284::290::291::297::298::304::305::311::312::316::317::321::322::[]) (fun _=>by kernel_rfl));(case hw=>w_witness2)
  k_fill
  refine Kx.walk (l:=PySem.Challenge.rw_cutyard_k23_whole_verdicts_exclude) rfl rfl (fun w h Y=>PySem.W.kIn_of Y) (fun w=>⟨?N1,?N2⟩) ?F
  (case N1=>k_is);(case N2=>k_is)
  case F =>
    intro w mg fa h KX G hmg
    refine' Kx.all_mk KX G hmg ?aC_Sides ?a1 ?a2 ?a3 ?a4 ?a5 ?a6 ?a7 ?a8 ?a9 ?a10 ?a11 ?a12 ?a13 ?a14 ?a15 ?a16 ?a17 ?a18 ?a19 ?a20 ?a21 ?a22 ?a23 ?a24 ?a25 ?a26 ?a27 ?a28 ?a29 ?a30 ?a31 ?a32 ?a33 ?a34 ?a35 ?a36 ?a37 ?a38 ?a39 ?a40 ?a41 ?a42 ?i42 ?l42 ?c42 ?k42 ?a43 ?i43 ?l43 ?c43 ?k43 ?a44 ?i44 ?l44 ?c44 ?k44 ?a45 ?i45 ?l45 ?c45 ?k45 ?pg_Sides ?hd_Sides ?po_Sides ?sa_Sides ?mk_Sides ?kc_Sides ?n_Sides_standing ?n_Sides_breadth ?n_Sides_waiting ?y_tuple ?y_range ?y_len ?y_sum ?y_zip ?y_any ?y_all ?y_enumerate ?y_max ?y_abs ?y_list ?y_int ?y_min ?y_isinstance ?y_bool
    (case aC_Sides=>k_is);(case pg_Sides=>k_is);(case hd_Sides=>k_is);(case po_Sides=>k_is);(case sa_Sides=>k_is);(case mk_Sides=>k_is);(case kc_Sides=>k_is);(case n_Sides_standing=>k_is);(case n_Sides_breadth=>k_is);(case n_Sides_waiting=>k_is)
    (case a42=>k_is);(case i42=>k_is);(case l42=>k_is);(case c42=>k_is);(case k42=>k_is)
    (case a43=>k_is);(case i43=>k_is);(case l43=>k_is);(case c43=>k_is);(case k43=>k_is)
    (case a44=>k_is);(case i44=>k_is);(case l44=>k_is);(case c44=>k_is);(case k44=>k_is)
    (case a45=>k_is);(case i45=>k_is);(case l45=>k_is);(case c45=>k_is);(case k45=>k_is)
    (case y_tuple=>k_is)
    (case y_range=>k_is)
    (case y_len=>k_is)
    (case y_sum=>k_is)
    (case y_zip=>k_is)
    (case y_any=>k_is)
    (case y_all=>k_is)
    (case y_enumerate=>k_is)
    (case y_max=>k_is)
    (case y_abs=>k_is)
    (case y_list=>k_is)
    (case y_int=>k_is)
    (case y_min=>k_is)
    (case y_isinstance=>k_is)
    (case y_bool=>k_is)
    all_goals (refine' L2.Has.of ?a ?l ?c;(case a=>k_is);(case l=>k_is);(case c=>k_is))

