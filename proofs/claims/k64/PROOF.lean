import PyProof.Rows.All
import Wide.All
import OpenK.AllK
import Wide.FinOn
import Lean
import PyProof.EqAt
import PyProof.EqKinds
import PyProof.TupleCall
import PyProof.NeKinds
import KE.KLam
import KE.KMinKey
import KE.KSortTup
import PyProof.AutoListH
import PyProof.MeetsStr
import PyProof.StrLawsJoin
import PyProof.FitsReplace
import PyProof.Rows.TupDisplay
import PyProof.ListRange
import PyProof.ZipIter
import PyProof.ListNew
import KE.KSortKey
import PySem.Challenge.RW_cutyard_k64_whole_roads_from_heights
set_option Elab.async false
set_option linter.all false
set_option maxRecDepth 100000
namespace L2
open PySem PySem.Spec PyProof.Rows
abbrev Key:=Sum Int Str
def qiq:Key→Value→Bool
  | .inl k,v=>Value.isInt k v
  | .inr x,v=>Value.isStrOf x v
def qqY (w:World):Key→Int
  | .inl k=>hashInt k
  | .inr x=>hashStr w x
theorem qa1:∀ {k:Key} {v:Value},qiq k v=true→(∃ i t,k=Sum.inl i∧v=Value.int i t)∨(∃ x t,k=Sum.inr x∧v=Value.str x t)
  | .inl i,v,h=>by
    obtain ⟨t,e⟩:=Value.isInt_shape (k:=i) (v:=v) h
    exact .inl ⟨i,t,rfl,e⟩
  | .inr x,v,h=>by
    obtain ⟨t,e⟩:=Value.isStrOf_shape (x:=x) (v:=v) h
    exact .inr ⟨x,t,rfl,e⟩
theorem qiL (i:Int) (t:Tok):qiq (.inl i) (.int i t)=true:=by simp [qiq,Value.isInt]
theorem qiW (x:Str) (t:Tok):qiq (.inr x) (.str x t)=true:=by simp [qiq,Value.isStrOf]
theorem qn9 (a b:Int):decide ((Sum.inl a:Key)=Sum.inl b)=(a == b):=by
  by_cases e:a=b
  · subst e;simp
  · have h:¬ (Sum.inl a:Key)=Sum.inl b:=fun q=>e (Sum.inl.inj q)
    rw [decide_eq_false h]
    exact (beq_eq_false_iff_ne.mpr e).symm
theorem qny (a b:Str):decide ((Sum.inr a:Key)=Sum.inr b)=decide (a=b):=by
  by_cases e:a=b
  · subst e;simp
  · have h:¬ (Sum.inr a:Key)=Sum.inr b:=fun q=>e (Sum.inr.inj q)
    rw [decide_eq_false h,decide_eq_false e]
theorem qna (a:Int) (b:Str):decide ((Sum.inl a:Key)=Sum.inr b)=false:=decide_eq_false (fun q=>nomatch q)
theorem qow (a:Str) (b:Int):decide ((Sum.inr a:Key)=Sum.inl b)=false:=decide_eq_false (fun q=>nomatch q)
def qa9 (prog:Program) (w:World):PySem.KeyKind prog w Key where
  is:=qiq
  hash:=qqY w
  inj:=fun v a b ha hb=>by
    rcases qa1 ha with ⟨i,t,rfl,rfl⟩ | ⟨x,t,rfl,rfl⟩
    · rcases qa1 hb with ⟨j,u,rfl,e⟩ | ⟨y,u,rfl,e⟩
      · injection e with e1 _;rw [e1]
      · exact nomatch e
    · rcases qa1 hb with ⟨j,u,rfl,e⟩ | ⟨y,u,rfl,e⟩
      · exact nomatch e
      · injection e with e1 _;rw [e1]
  byValue:=fun k v h=>by
    rcases qa1 h with ⟨i,t,rfl,rfl⟩ | ⟨x,t,rfl,rfl⟩ <;> rfl
  pyHash:=fun hv h=>by
    rcases qa1 hv with ⟨i,t,rfl,rfl⟩ | ⟨x,t,rfl,rfl⟩
    · exact wpAny_pyHash_int h
    · exact wpAny_pyHash_str h
  eqBool:=fun hu hv h=>by
    rcases qa1 hu with ⟨i,t,rfl,rfl⟩ | ⟨x,t,rfl,rfl⟩
    · rcases qa1 hv with ⟨j,u,rfl,rfl⟩ | ⟨y,u,rfl,rfl⟩
      · rw [qn9] at h;exact wpAny_eqBool_int h
      · rw [qna] at h;exact SeqAt.EqAt.int_str i t y u _ _ _ _ h
    · rcases qa1 hv with ⟨j,u,rfl,rfl⟩ | ⟨y,u,rfl,rfl⟩
      · rw [qow] at h;exact SeqAt.EqAt.str_int x t j u _ _ _ _ h
      · rw [qny] at h;exact wpAny_eqBool_str h
  «strs»:=fun k x t v h=>by
    rcases qa1 h with ⟨i,u,rfl,e⟩ | ⟨y,u,rfl,e⟩
    · exact nomatch e
    · injection e with e1 _
      subst e1
      cases v <;> rfl
theorem qg4 (prog:Program) (w:World) (i:Int) (t:Tok):(qa9 prog w).is (.inl i) (.int i t)=true:=qiL i t
theorem qhc (prog:Program) (w:World) (x:Str) (t:Tok):(qa9 prog w).is (.inr x) (.str x t)=true:=qiW x t
inductive V where
  | non | bl (b:Bool) | int (i:Int) | str (x:Str) | byt (b:Array UInt8) | flt (b:UInt64) | ref (a:Addr) | ty (n:String)
  deriving DecidableEq
def RelV:V→Value→Prop
  | .non,u=>u=Value.none
  | .bl b,u=>u=Value.bool b
  | .int i,u=>∃ t,u=Value.int i t
  | .str x,u=>∃ t,u=Value.str x t
  | .byt b,u=>∃ t,u=Value.bytes b t
  | .flt b,u=>∃ t,u=Value.float b t
  | .ref a,u=>u=Value.ref a
  | .ty n,u=>u=Value.type n
abbrev Vals:List V→List Value→Prop:=Paired RelV
theorem Vals.length {xs:List V} {us:List Value} (r:Vals xs us):xs.length=us.length:=Paired.length r
theorem Vals.get:∀ {xs:List V} {us:List Value} {i:Nat} {x:V},Vals xs us→xs[i]?=some x→∃ u,us[i]?=some u∧RelV x u
  | _,_,_,_,.nil,e=>by simp at e
  | _,_,0,_,.cons r _,e=>by simp at e;subst e;exact ⟨_,rfl,r⟩
  | _,_,i+1,x,.cons _ t,e=>by
    obtain ⟨u,h1,h2⟩:=Vals.get (i:=i) (x:=x) t (by simpa using e)
    exact ⟨u,by simpa using h1,h2⟩
theorem Vals.set {x:V} {u:Value} (r:RelV x u):∀ {xs:List V} {us:List Value} (i:Nat),Vals xs us→Vals (xs.set i x) (us.set i u)
  | _,_,_,.nil=>.nil
  | _,_,0,.cons _ t=>.cons r t
  | _,_,i+1,.cons q t=>.cons q (Vals.set r i t)
theorem Vals.append:∀ {xs ys:List V} {us ws:List Value},Vals xs us→Vals ys ws→Vals (xs++ys) (us++ws)
  | _,_,_,_,.nil,s=>s
  | _,_,_,_,.cons r t,s=>.cons r (Vals.append t s)
theorem Vals.take:∀ {xs:List V} {us:List Value} (n:Nat),Vals xs us→Vals (xs.take n) (us.take n)
  | _,_,0,_=>.nil
  | _,_,_+1,.nil=>.nil
  | _,_,n+1,.cons r t=>.cons r (Vals.take n t)
theorem Vals.drop:∀ {xs:List V} {us:List Value} (n:Nat),Vals xs us→Vals (xs.drop n) (us.drop n)
  | _,_,0,r=>r
  | _,_,_+1,.nil=>.nil
  | _,_,n+1,.cons _ t=>Vals.drop n t
def RelO:Option V→Option Value→Prop
  | some v,some u=>RelV v u
  | none,none=>True
  | _,_=>False
def KV {κ:Type}:List (κ × V)→List (κ × Value)→Prop:=Paired fun (p:κ × V) (q:κ × Value)=>p.1=q.1∧RelV p.2 q.2
def kV:Key→V
  | .inl i=>.int i
  | .inr x=>.str x
inductive HO where
    | lst (xs:List V)
    | tup (xs:List V)
    | dK (kvs:List (Key × V)) | dT (kvs:List (List Key × V))
    | set (S:Int→Bool) (n:Nat)
    | ins (C dx:Addr) (fs:List (Str × V))
    | own (x:Addr)
    | xd (fs:List (Str × V))
    | met (f x:Addr)
    | rng (lo hi:Int)
    | frz (o:Obj) (u:HO)
    | tbl (ps:Array Value)
    | ext (φ:Heap→Prop)
abbrev Hp:=Addr→Option HO
def upd (H:Hp) (a:Addr) (o:HO):Hp:=fun b=>if b=a then some o else H b
theorem qak {H:Hp} {a:Addr} {o:HO}:upd H a o a=some o:=by unfold upd;rw [if_pos rfl]
theorem qar {H:Hp} {a b:Addr} {o:HO} (h:b≠a):upd H a o b=H b:=by unfold upd;rw [if_neg h]
theorem qmV {H:Hp} {a:Addr} {o u:HO}:upd (upd H a o) a u=upd H a u:=by
  funext b;unfold upd;split <;> rfl
theorem qp0 {H:Hp} {a b:Addr} {o u:HO} (h:H a=some o) (h':H b=some u) (d:o≠u):a≠b:=by
  intro e;subst e;rw [h] at h';exact d (Option.some.inj h')
theorem qat {H:Hp} {a b:Addr} {o:HO} (h:H a=some o) (h':H b=none):a≠b:=by
  intro e;subst e;rw [h] at h';cases h'
def IsTupD (h:Heap) (a:Addr) (items:Array Value):Prop:=∃ o,h.get? a=some o∧(o.cls=.type "tuple"∧o.dict=none)∧∃ n,o.data=.seq items n
theorem IsTupD.tup {h:Heap} {a:Addr} {items:Array Value} (x:IsTupD h a items):IsTup h a items:=let ⟨o,e,c,d⟩:=x;⟨o,e,c.1,d⟩
theorem IsTupD.lt {h:Heap} {a:Addr} {items:Array Value} (x:IsTupD h a items):a<h.objs.size:=x.tup.lt
theorem IsTupD.new (h:Heap) (items:Array Value):IsTupD (h.push { cls:=.type "tuple",data:=.seq items }) h.objs.size items:=⟨_,Heap.get?_push_size _ rfl,⟨rfl,rfl⟩,_,rfl⟩
section
variable (P : Program) (w : World)
def ObjOk (H:Hp) (h:Heap) (a:Addr):HO→Prop
  | .lst xs=>xs.length≤sizeLine∧∃ (its:List Value) (n:Nat),Vals xs its∧h.get? a=some { cls:=.type "list",data:=.seq its.toArray n }
  | .tup xs=>xs.length≤sizeLine∧∃ its:List Value,Vals xs its∧IsTupD h a its.toArray
  | .dK kvs=>kvs.length≤sizeLine∧(a == sysModules)=false∧∃ vs,KV kvs vs∧h.DictOf (qa9 P w) a vs
  | .dT kvs=>kvs.length≤sizeLine∧(a == sysModules)=false∧∃ xs:List (List Key × Addr × Value),
      Paired (fun (p:List Key × V) (q:List Key × Addr × Value)=>p.1=q.1∧H q.2.1=some (.tup (p.1.map kV))∧RelV p.2 q.2.2) kvs xs ∧
      ∃ o es ep,h.get? a=some o∧o.ExactDict∧o.data=.dict es ep∧es.toList=xs.map (entryOfKey (tupleKind (qa9 P w)))∧(xs.map (·.1)).Nodup
  | .set S n=>h.SetOf (intKind P w) a S n
  | .ins C dx fs=>H dx=some (.own a)∧fs.length≤1000∧dx≠a∧h.get? a=some (PySem.W.instObj C dx) ∧
      ∃ mA,h.Ns1 dx mA∧(∀ f,RelO (fs.lookup f) (mA f))∧PySem.Within mA (fs.map (·.1))
  | .own _=>∃ o,h.get? a=some o
  | .xd fs=>∃ mA,h.Ns1 a mA∧∀ f,RelO (fs.lookup f) (mA f)
  | .rng lo hi=>∃ t u v,h.get? a=some { cls:=.type "range",data:=.fields #[.int lo t,.int hi u,.int 1 v] }
  | .frz o u=>h.get? a=some o∧ObjOk H h a u
  | .tbl ps=>h.get? a=some { cls:=.none,data:=.fields #[] }∨∃ (c:Addr) (o:Obj) (vs:Array Value) (x y:Value) (q:Str) (t t':Tok),ps=#[x,y,.str q t]∧H c=some (.frz o (.own a)) ∧
      h.get? a=some { cls:=.none,data:=.fields #[x,y,.ref c] }∧o.data=.fields vs∧vs[1]?=some (.str q t')
  | .met f x=>h.get? a=some (PySem.W.methodObj (.ref f) (.ref x))
  | .ext φ=>φ h∧(∃ o,h.get? a=some o)∧∀ h1 h2:Heap,φ h1→(∀ o,h1.get? a=some o→h2.get? a=some o)→φ h2
def HOk (H:Hp) (h:Heap):Prop:=∀ a o,H a=some o→ObjOk P w H h a o
end
section
variable {P : Program} {w : World} {H H' : Hp} {h h' : Heap} {a : Addr} {o : HO}
theorem ObjOk.lt (x:ObjOk P w H h a o):a<h.objs.size:=by
  cases o with
  | lst xs=>obtain ⟨_,_,_,_,e⟩:=x;exact Heap.lt_size e
  | tup xs=>obtain ⟨_,_,_,p⟩:=x;exact p.lt
  | dK kvs=>obtain ⟨_,_,_,_,o,_,_,e,_⟩:=x;exact Heap.lt_size e
  | dT kvs=>obtain ⟨_,_,_,_,o,_,_,e,_⟩:=x;exact Heap.lt_size e
  | set S n=>obtain ⟨o,_,_,_,e,_⟩:=x;exact Heap.lt_size e
  | ins C dx fs=>obtain ⟨_,_,_,e,_⟩:=x;exact Heap.lt_size e
  | own y=>obtain ⟨_,e⟩:=x;exact Heap.lt_size e
  | xd fs=>obtain ⟨_,⟨_,_,_,e,_⟩,_⟩:=x;exact Heap.lt_size e
  | rng lo hi=>obtain ⟨_,_,_,e⟩:=x;exact Heap.lt_size e
  | frz ob u=>obtain ⟨e,_⟩:=x;exact Heap.lt_size e
  | tbl ps=>rcases x with x | ⟨_,_,_,_,_,_,_,_,_,_,x,_⟩ <;> exact Heap.lt_size x
  | met f y=>exact Heap.lt_size (show h.get? a=some _ from x)
  | ext φ=>obtain ⟨_,⟨_,e⟩,_⟩:=x;exact Heap.lt_size e
theorem Paired.mapP {α β:Type} {F G:α→β→Prop}:∀ {l₁:List α} {l₂:List β},Paired F l₁ l₂→(∀ a b,F a b→G a b)→Paired G l₁ l₂
  | _,_,.nil,_=>.nil
  | _,_,.cons r t,f=>.cons (f _ _ r) (Paired.mapP t f)
theorem ObjOk.stay (x:ObjOk P w H h a o) (k:∀ b u,(b=a∨H b=some (.own a))→h.get? b=some u→h'.get? b=some u)
    (ho:∀ b,H b=some (.own a)→H' b=some (.own a)) (ht:∀ b xs,H b=some (.tup xs)→H' b=some (.tup xs)) (hf:∀ b o u,H b=some (.frz o u)→H' b=some (.frz o u)):ObjOk P w H' h' a o:=by
  induction o with
  | lst xs=>obtain ⟨z,its,n,r,e⟩:=x;exact ⟨z,its,n,r,k _ _ (.inl rfl) e⟩
  | tup xs=>obtain ⟨z,its,r,ob,e,c⟩:=x;exact ⟨z,its,r,ob,k _ _ (.inl rfl) e,c⟩
  | dK kvs=>obtain ⟨z,y,vs,r,ob,es,ep,e,c⟩:=x;exact ⟨z,y,vs,r,ob,es,ep,k _ _ (.inl rfl) e,c⟩
  | dT kvs =>
    obtain ⟨z,y,xs,r,ob,es,ep,e,c⟩:=x
    exact ⟨z,y,xs,Paired.mapP r fun p q z=>⟨z.1,ht _ _ z.2.1,z.2.2⟩,ob,es,ep,k _ _ (.inl rfl) e,c⟩
  | set S n=>obtain ⟨ob,es,ep,t,e,c⟩:=x;exact ⟨ob,es,ep,t,k _ _ (.inl rfl) e,c⟩
  | ins C dx fs =>
    obtain ⟨d,z,ne,e,mA,⟨od,es,ep,e2,c⟩,r⟩:=x
    exact ⟨ho _ d,z,ne,k _ _ (.inl rfl) e,mA,⟨od,es,ep,k _ _ (.inr d) e2,c⟩,r⟩
  | own y=>obtain ⟨ob,e⟩:=x;exact ⟨ob,k _ _ (.inl rfl) e⟩
  | xd fs=>obtain ⟨mA,⟨od,es,ep,e,c⟩,r⟩:=x;exact ⟨mA,⟨od,es,ep,k _ _ (.inl rfl) e,c⟩,r⟩
  | rng lo hi=>obtain ⟨t,u,v,e⟩:=x;exact ⟨t,u,v,k _ _ (.inl rfl) e⟩
  | frz ob u ih=>obtain ⟨e,q⟩:=x;exact ⟨k _ _ (.inl rfl) e,ih q⟩
  | tbl ps =>
    rcases x with x | ⟨c,o,vs,y,z,q,t,t',e1,e2,e3,e4⟩
    · exact .inl (k a _ (.inl rfl) x)
    · exact .inr ⟨c,o,vs,y,z,q,t,t',e1,hf _ _ _ e2,k a _ (.inl rfl) e3,e4⟩
  | met f y =>
    have e:h.get? a=some (PySem.W.methodObj (.ref f) (.ref y)):=x
    show h'.get? a=some (PySem.W.methodObj (.ref f) (.ref y))
    exact k a _ (.inl rfl) e
  | ext φ=>obtain ⟨p,⟨o,e⟩,st⟩:=x;exact ⟨st _ _ p fun o q=>k _ _ (.inl rfl) q,⟨o,k _ _ (.inl rfl) e⟩,st⟩
theorem HOk.lt (x:HOk P w H h) (e:H a=some o):a<h.objs.size:=(x a o e).lt
theorem HOk.fresh (x:HOk P w H h) (e:h.objs.size≤a):H a=none:=by
  cases q:H a with
  | none=>rfl
  | some u=>exact absurd (Nat.lt_of_lt_of_le (x.lt q) e) (Nat.lt_irrefl _)
theorem HOk.kept (x:HOk P w H h) (k:∀ b u,h.get? b=some u→h'.get? b=some u):HOk P w H h':=fun a o e =>
  (x a o e).stay (fun b u _ q=>k b u q) (fun _ q=>q) (fun _ _ q=>q) fun _ _ _ q=>q
theorem HOk.laid (x:HOk P w H h) (k:∀ b u,h.get? b=some u→h'.get? b=some u) (hp:h.objs.size≤a) (new:ObjOk P w (upd H a o) h' a o):HOk P w (upd H a o) h':=fun b u e=>by
  have hn:=x.fresh hp
  by_cases hb:b=a
  · subst hb;rw [qak] at e;cases e;exact new
  · rw [qar hb] at e
    exact (x b u e).stay (fun c v _ q=>k c v q) (fun c q=>by rw [qar (qat q hn)];exact q) (fun c xs q=>by rw [qar (qat q hn)];exact q) fun c ob w' q=>by rw [qar (qat q hn)];exact q
end
def Rd (H:Hp) (a:Addr) (u:HO):Prop:=H a=some u∨∃ o,H a=some (.frz o u)
theorem Rd.ok {P:Program} {w:World} {H:Hp} {h:Heap} {a:Addr} {u:HO} (r:Rd H a u) (x:HOk P w H h):ObjOk P w H h a u:=by
  rcases r with r | ⟨o,r⟩
  · exact x a u r
  · obtain ⟨_,q⟩:=x a _ r
    exact q
def Mut:Option HO→Prop
  | some (.lst _)=>True
  | some (.dK _)=>True
  | some (.dT _)=>True
  | some (.set _ _)=>True
  | some (.ins _ _ _)=>True
  | some (.ext _)=>True
  | _=>False
section
variable {P : Program} {w : World} {H : Hp} {h h' : Heap} {x e : Addr} {o' : HO}
theorem HOk.write (ok:HOk P w H h) (mu:Mut (H x)) (he:e=x∨H e=some (.own x)) (k:∀ b u,b≠e→h.get? b=some u→h'.get? b=some u) (heo:∃ u,h'.get? e=some u)
    (new:ObjOk P w (upd H x o') h' x o'):HOk P w (upd H x o') h':=fun b u q=>by
  have nown:∀ c y,H c=some (.own y)→c≠x:=fun c y r z=>by subst z;rw [r] at mu;exact mu
  have ntup:∀ c xs,H c=some (.tup xs)→c≠x:=fun c xs r z=>by subst z;rw [r] at mu;exact mu
  have nfrz:∀ c ob w',H c=some (.frz ob w')→c≠x:=fun c ob w' r z=>by subst z;rw [r] at mu;exact mu
  by_cases hb:b=x
  · subst hb;rw [qak] at q;cases q;exact new
  · rw [qar hb] at q
    by_cases hbe:b=e
    · have q':H b=some (.own x):=by
        rcases he with z | z
        · exact absurd (hbe.trans z) hb
        · rw [hbe];exact z
      rw [q] at q';cases q'
      obtain ⟨v,hv⟩:=heo
      exact ⟨v,by rw [hbe];exact hv⟩
    · refine (ok b u q).stay (fun c v hc r=>k c v ?_ r) (fun c r=>by rw [qar (nown c b r)];exact r) (fun c xs r=>by rw [qar (ntup c xs r)];exact r) fun c ob w' r=>by rw [qar (nfrz c ob w' r)];exact r
      rcases hc with rfl | hc
      · exact hbe
      · rintro rfl
        rcases he with z | z
        · exact nown c b hc z
        · rw [hc] at z;cases z;exact hb rfl
end
structure Un (fs ex:List Addr) (H H':Hp) (h h':Heap):Prop where
  keep:∀ b o,h.get? b=some o→H b=none→b∉fs→b∉ex→h'.get? b=some o
  slot:∀ b o,h.get? b=some o→H b=none→b∈fs→b∉ex→∃ sl,h'.get? b=some { o with slots:=sl }
  free:∀ b o,h.get? b=some o→H b=none→b∉ex→H' b=none
  there:∀ b o,h.get? b=some o→b∉ex→∃ o',h'.get? b=some o'
  tups:∀ b xs,H b=some (.tup xs)→H' b=some (.tup xs)
  frzs:∀ b o u,H b=some (.frz o u)→H' b=some (.frz o u)
  tbls:∀ b ps,H b=some (.tbl ps)→H' b=some (.tbl ps)
section
variable {fs fs' ex ex' : List Addr} {H H1 H2 : Hp} {h h1 h2 h' : Heap} {a x e : Addr} {o : HO}
theorem Un.any (u:Un fs ex H H1 h h1) {b:Addr} {ob:Obj} (q:h.get? b=some ob) (n:H b=none) (hx:b∉ex):∃ sl,h1.get? b=some { ob with slots:=sl }:=by
  by_cases hb:b∈fs
  · exact u.slot b ob q n hb hx
  · exact ⟨ob.slots,u.keep b ob q n hb hx⟩
theorem Un.kept (k:∀ b u,h.get? b=some u→h'.get? b=some u):Un fs ex H H h h' :=
  ⟨fun b ob q _ _ _=>k b ob q,fun b ob q _ _ _=>⟨ob.slots,k b ob q⟩,fun _ _ _ n _=>n,fun b ob q _=>⟨ob,k b ob q⟩,fun _ _ q=>q,fun _ _ _ q=>q,fun _ _ q=>q⟩
theorem Un.refl:Un fs ex H H h h:=Un.kept fun _ _ q=>q
theorem Un.laid (k:∀ b u,h.get? b=some u→h'.get? b=some u) (hp:h.objs.size≤a) (hn:H a=none):Un fs ex H (upd H a o) h h' where
  keep:=fun b u q _ _ _=>k b u q
  slot:=fun b u q _ _ _=>⟨u.slots,k b u q⟩
  free:=fun b u q n _=>by rw [qar (Nat.ne_of_lt (Nat.lt_of_lt_of_le (Heap.lt_size q) hp))];exact n
  there:=fun b u q _=>⟨u,k b u q⟩
  tups:=fun b xs q=>by rw [qar (qat q hn)];exact q
  frzs:=fun b u xs q=>by rw [qar (qat q hn)];exact q
  tbls:=fun b ps q=>by rw [qar (qat q hn)];exact q
theorem Un.write (mu:Mut (H x)) (he:e=x∨H e=some (.own x)) (k:∀ b u,b≠e→h.get? b=some u→h'.get? b=some u) (heo:∃ u,h'.get? e=some u):Un fs ex H (upd H x o) h h':=by
  have hx:∀ b,H b=none→b≠x:=fun b n z=>by subst z;rw [n] at mu;exact mu
  have hb:∀ b,H b=none→b≠e:=fun b n z=>by
    subst z
    rcases he with r | r
    · exact hx b n r
    · rw [n] at r;cases r
  have hm:∀ b u,H b=some u→¬ Mut (some u)→b≠x:=fun b u q nm z=>by subst z;rw [q] at mu;exact nm mu
  refine ⟨fun b u q n _ _=>k b u (hb b n) q,fun b u q n _ _=>⟨u.slots,k b u (hb b n) q⟩,fun b u q n _=>by rw [qar (hx b n)];exact n,fun b u q _=>?_,
    fun b xs q=>by rw [qar (hm b _ q fun z=>z)];exact q,fun b u xs q=>by rw [qar (hm b _ q fun z=>z)];exact q,fun b ps q=>by rw [qar (hm b _ q fun z=>z)];exact q⟩
  by_cases hbe:b=e
  · subst hbe;exact heo
  · exact ⟨u,k b u hbe q⟩
end
def trk (h:Heap) (H:Hp):List Addr:=(List.range h.objs.size).filter fun a=>(H a).isSome
def qk6 (h:Heap) (H:Hp):Heap:=PySem.W.hideAll h (trk h H)
theorem qjQ (h:Heap) (H:Hp):(qk6 h H).objs.size=h.objs.size:=PySem.W.hideAll_size _ _
theorem qkk {h:Heap} {H:Hp} {b:Addr} {o:Obj} (e:h.get? b=some o) (n:H b=none):(qk6 h H).get? b=some o :=
  PySem.W.hideAll_get _ e fun hm=>by
    have q:(H b).isSome=true:=(List.mem_filter.mp hm).2
    rw [n] at q;simp at q
theorem qlP {h:Heap} {H:Hp} {b:Addr} {o:Obj} (e:(qk6 h H).get? b=some o):h.get? b=some o∧H b=none:=by
  have e':h.get? b=some o:=PySem.W.of_hideAll (trk h H) e
  refine ⟨e',?_⟩
  cases q:H b with
  | none=>rfl
  | some x =>
    have hm:b∈trk h H:=List.mem_filter.mpr ⟨List.mem_range.mpr (Heap.lt_size e'),by simp [q]⟩
    have z:(qk6 h H).get? b=none:=PySem.W.hideAll_none (trk h H) hm
    rw [z] at e;cases e
structure Mod (K:PySem.W.Frag) (mg:Str→Option Value) (base:Heap):Prop where
  kin:K.In base
  glob:base.Ns mainGlobals mg
  blt:∃ mb,base.Ns builtinsNs mb∧∀ x:Str,x≠"__name__"→mb x=bootBuiltins x
  nolimit:base.NoLimit
  bmod:∃ bm ob,mg "__builtins__"=some (.ref bm)∧bm≠builtinsNs∧base.get? bm=some ob∧ob.cls=.type "module"∧ob.dict=some builtinsNs∧ob.data=.plain
  seer:base.NoSeer
  dig:∃ mc,base.Ns cStatics mc∧mc "sys.int_max_str_digits"=none
structure Cx where
  prog:Program
  w:World
  K:PySem.W.Frag
  mg:Str→Option Value
  base:Heap
  A:Around
  N:List Str
  s₀:Shared
  H₀:Hp
  env:Env
  outer:List Env
  stack:List Env
  ex:List Addr
  fn:Str→Bool
  calm:Bool
  pn:List (Addr × Obj)
  xe:Value→Shared→Prop
def frs (l:List Env):List Addr:=l.filterMap (·.frame)
abbrev Cx.fs (X:Cx):List Addr:=frs X.outer
def Vis (sc:Scope) (x:Str):Prop:=sc.names.lookup x=some .local∨sc.names.lookup x=some .cell∨sc.names.lookup x=some .free
def Loc (sc:Scope) (x:Str):Prop:=sc.names.lookup x=some .local∨sc.names.lookup x=some .cell
def qrv (env:Env) (h:Heap) (m:Str→Option Value) (x:Str) (u:Value):Prop :=
  (env.kindOf x=some .local∧m x=some u)∨((env.kindOf x=some .cell∨env.kindOf x=some .free)∧∃ c,env.cells.lookup x=some c∧h.IsCell c (some u))
structure Cx.Ok (X:Cx):Prop where
  mod:Mod X.K X.mg X.base
  kind:X.env.scope.kind=.function
  glob:X.env.globals=mainGlobals
  blt:X.env.builtins=builtinsNs
  above:X.s₀.heap.objs.size≤X.env.locals
  inj:∀ x y c,X.env.cells.lookup x=some c→X.env.cells.lookup y=some c→x=y
  has:∀ x,(X.env.kindOf x=some .cell∨X.env.kindOf x=some .free)→∃ c,X.env.cells.lookup x=some c
  cab:∀ x c,X.fn x=true→X.env.cells.lookup x=some c→X.s₀.heap.objs.size≤c
  hd:X.calm=true→X.A.handled=none
  frames:X.A.frames=some X.stack
  stk:X.stack=X.outer∨(X.stack=X.env::X.outer∧X.env.frame=some X.env.locals)
  exf:∀ b∈X.ex,b≠X.env.locals∧∀ x c,X.env.cells.lookup x=some c→c≠b
  bs:∀ b o,X.base.get? b=some o→X.s₀.heap.get? b=some o∧X.H₀ b=none
  bsz:X.base.objs.size≤X.s₀.heap.objs.size
  noex:∀ b o,X.base.get? b=some o→b∉X.ex
  exfs:∀ b∈X.ex,b∉X.fs
  funs:X.s₀.heap.FunFrames X.base X.outer
  frf:∀ b∈X.fs,X.H₀ b=none
structure Inv (X:Cx) (pins:List (Addr × Obj)) (σ:List (Option V)) (H:Hp) (s:Shared):Prop where
  ok:X.Ok
  os:s.os=X.s₀.os
  bare:AllBare s.gens
  base:Un X.fs X.ex X.H₀ H X.s₀.heap s.heap
  loc:∃ m,s.heap.Ns X.env.locals m∧∀ (i:Nat) (x:Str) (v:V),X.N[i]?=some x→σ[i]?=some (some v)→Vis X.env.scope x→∃ u,RelV v u∧qrv X.env s.heap m x u
  cell:∀ x c,X.env.cells.lookup x=some c→∃ v,s.heap.IsCell c v
  free:H X.env.locals=none
  freeC:∀ x c,X.env.cells.lookup x=some c→H c=none
  pin:∀ p∈X.pn++pins,s.heap.get? p.1=some p.2∧H p.1=none∧p.1≠X.env.locals∧p.1∉X.fs∧∀ v,p.2.data≠.cell v
  hok:HOk X.prog X.w H s.heap
  len:σ.length=X.N.length
section
variable {X : Cx} {pins : List (Addr × Obj)} {σ : List (Option V)} {H H' : Hp} {s : Shared} {h' : Heap}
theorem Cx.Ok.nofr (ok:X.Ok) {b:Addr} {o:Obj} (e:X.base.get? b=some o):b∉X.fs:=fun hb=>by
  have:=(ok.funs.mem hb).1
  rw [e] at this;cases this
theorem Inv.bs (I:Inv X pins σ H s):∀ b o,X.base.get? b=some o→s.heap.get? b=some o∧H b=none:=fun b o e =>
  ⟨I.base.keep b o (I.ok.bs b o e).1 (I.ok.bs b o e).2 (I.ok.nofr e) (I.ok.noex b o e),I.base.free b o (I.ok.bs b o e).1 (I.ok.bs b o e).2 (I.ok.noex b o e)⟩
theorem Inv.bk (I:Inv X pins σ H s):∀ b o,X.base.get? b=some o→s.heap.get? b=some o:=fun b o e=>(I.bs b o e).1
theorem Inv.mod (I:Inv X pins σ H s):Mod X.K X.mg X.base:=I.ok.mod
theorem Inv.kIn (I:Inv X pins σ H s):X.K.In s.heap:=I.ok.mod.kin.keeps I.bk
theorem Inv.lt (I:Inv X pins σ H s):X.env.locals<s.heap.objs.size:=let ⟨_,hn,_⟩:=I.loc;hn.lt
theorem Inv.sz (I:Inv X pins σ H s):X.s₀.heap.objs.size≤s.heap.objs.size:=Nat.le_trans I.ok.above (Nat.le_of_lt I.lt)
theorem Inv.nofs (I:Inv X pins σ H s) {a:Addr} (h:s.heap.objs.size≤a):a∉X.fs:=fun hb=>by
  obtain ⟨_,o,ho,_⟩:=I.ok.funs.mem hb
  exact absurd (Nat.lt_of_lt_of_le (Heap.lt_size ho) (Nat.le_trans I.sz h)) (Nat.lt_irrefl _)
theorem Inv.cne (I:Inv X pins σ H s):∀ x c,X.env.cells.lookup x=some c→c≠X.env.locals:=fun x c e z=>by
  obtain ⟨v,o,ho,hd⟩:=I.cell x c e
  obtain ⟨m,⟨o',es,ep,ho',hd',_⟩,_⟩:=I.loc
  rw [z,ho'] at ho;cases ho;rw [hd'] at hd;cases hd
theorem Inv.funs (I:Inv X pins σ H s):s.heap.FunFrames X.base X.outer:=by
  have all:∀ (l:List Env),(∀ b∈frs l,b∈X.fs)→X.s₀.heap.FunFrames X.base l→s.heap.FunFrames X.base l:=by
    intro l
    induction l with
    | nil=>intro _ _;trivial
    | cons env r ih =>
      intro hs hl
      obtain ⟨hk,⟨L,o,hf,hn,ho,hd⟩,hr⟩:=hl
      have hL:L∈X.fs:=hs L (by unfold frs;rw [List.filterMap_cons,hf];exact List.mem_cons_self)
      obtain ⟨sl,e⟩:=I.base.slot L o ho (I.ok.frf L hL) hL fun z=>I.ok.exfs L z hL
      exact ⟨hk,⟨L,_,hf,hn,e,hd⟩,ih (fun b hb=>hs b (by unfold frs;rw [List.filterMap_cons,hf];exact List.mem_cons_of_mem _ hb)) hr⟩
  exact all X.outer (fun _ hb=>hb) I.ok.funs
theorem Inv.stack (I:Inv X pins σ H s):s.heap.FunFrames X.base X.stack:=by
  rcases I.ok.stk with e | ⟨e,hf⟩
  · rw [e];exact I.funs
  · rw [e]
    obtain ⟨m,hn,_⟩:=I.loc
    refine .cons (by rw [I.ok.kind];decide) hf hn ?_ I.funs
    exact Heap.get?_none_of_le (Nat.le_trans I.ok.bsz I.ok.above)
theorem Inv.stkSub (I:Inv X pins σ H s):∀ b∈frs X.stack,b∈X.env.locals::X.fs:=fun b hb=>by
  rcases I.ok.stk with e | ⟨e,hf⟩
  · rw [e] at hb;exact List.mem_cons_of_mem _ hb
  · rw [e] at hb
    unfold frs at hb
    rw [List.filterMap_cons,hf] at hb
    exact hb
theorem Inv.stkFree (I:Inv X pins σ H s):∀ b∈frs X.stack,H b=none:=fun b hb=>by
  rcases List.mem_cons.mp (I.stkSub b hb) with e | hb
  · rw [e];exact I.free
  · obtain ⟨_,o,ho,_⟩:=I.ok.funs.mem hb
    exact I.base.free b o ho (I.ok.frf b hb) fun z=>I.ok.exfs b z hb
theorem Inv.step {g':Array GenState} {t':Nat} {d':Drawn} {ch:List Addr} (I:Inv X pins σ H s)
    (hch:∀ b∈ch,(b∈X.ex∨X.s₀.heap.objs.size≤b)∧b≠X.env.locals∧(∀ x c,X.env.cells.lookup x=some c→c≠b)∧∀ p∈X.pn++pins,p.1≠b)
    (keep:∀ b o,b≠X.env.locals→b∉X.fs→b∉ch→s.heap.get? b=some o→H b=none→h'.get? b=some o)
    (slot:∀ b o,b≠X.env.locals→b∈X.fs→b∉ch→s.heap.get? b=some o→H b=none→∃ sl,h'.get? b=some { o with slots:=sl }) (free:∀ b o,b∉ch→s.heap.get? b=some o→H b=none→H' b=none)
    (there:∀ b o,b∉ch→s.heap.get? b=some o→∃ o',h'.get? b=some o')
    (tups:∀ b xs,H b=some (.tup xs)→H' b=some (.tup xs)) (frzs:∀ b o u,H b=some (.frz o u)→H' b=some (.frz o u)) (tbls:∀ b ps,H b=some (.tbl ps)→H' b=some (.tbl ps))
    (ns:∀ m,s.heap.Ns X.env.locals m→h'.Ns X.env.locals m) (hok:HOk X.prog X.w H' h') (hg:AllBare g') :
    Inv X pins σ H' { s with heap:=h',gens:=g',drawn:=d',toks:=t' }:=by
  have neL:∀ b o,X.s₀.heap.get? b=some o→b≠X.env.locals:=fun b o e=>Nat.ne_of_lt (Nat.lt_of_lt_of_le (Heap.lt_size e) I.ok.above)
  have neC:∀ b o,X.s₀.heap.get? b=some o→b∉X.ex→b∉ch:=fun b o e hx hb=>by
    rcases (hch b hb).1 with z | z
    · exact hx z
    · exact absurd (Nat.lt_of_lt_of_le (Heap.lt_size e) z) (Nat.lt_irrefl _)
  have cellK:∀ x c,X.env.cells.lookup x=some c→∀ v,s.heap.IsCell c v→h'.IsCell c v:=fun x c e v hq0=>by
    obtain ⟨o,ho,hd⟩:=hq0
    have nch:c∉ch:=fun z=>(hch c z).2.2.1 x c e rfl
    by_cases hc:c∈X.fs
    · obtain ⟨sl,q⟩:=slot c o (I.cne x c e) hc nch ho (I.freeC x c e)
      exact ⟨_,q,hd⟩
    · exact ⟨o,keep c o (I.cne x c e) hc nch ho (I.freeC x c e),hd⟩
  refine ⟨I.ok,I.os,hg,⟨fun b o e n hb hx=>?_,fun b o e n hb hx=>?_,fun b o e n hx=>?_,fun b o e hx=>?_,fun b xs e=>tups b xs (I.base.tups b xs e),fun b o xs e=>frzs b o xs (I.base.frzs b o xs e),fun b ps e=>tbls b ps (I.base.tbls b ps e)⟩,?_,fun x c e=>?_,?_,fun x c e=>?_,fun p hp=>?_,hok,I.len⟩
  · exact keep b o (neL b o e) hb (neC b o e hx) (I.base.keep b o e n hb hx) (I.base.free b o e n hx)
  · obtain ⟨sl,e1⟩:=I.base.slot b o e n hb hx
    obtain ⟨sl',e2⟩:=slot b _ (neL b o e) hb (neC b o e hx) e1 (I.base.free b o e n hx)
    exact ⟨sl',e2⟩
  · obtain ⟨o',e1⟩:=I.base.there b o e hx
    exact free b o' (neC b o e hx) e1 (I.base.free b o e n hx)
  · obtain ⟨o',e1⟩:=I.base.there b o e hx
    exact there b o' (neC b o e hx) e1
  · obtain ⟨m,hn,hl⟩:=I.loc
    refine ⟨m,ns m hn,fun i x v e1 e2 e3=>?_⟩
    obtain ⟨u,r,l⟩:=hl i x v e1 e2 e3
    refine ⟨u,r,?_⟩
    rcases l with l | ⟨k,c,e,z⟩
    · exact .inl l
    · exact .inr ⟨k,c,e,cellK x c e _ z⟩
  · obtain ⟨v,z⟩:=I.cell x c e
    exact ⟨v,cellK x c e v z⟩
  · obtain ⟨m,⟨o,_,_,ho,_⟩,_⟩:=I.loc
    exact free _ o (fun z=>(hch _ z).2.1 rfl) ho I.free
  · obtain ⟨v,o,ho,hd⟩:=I.cell x c e
    exact free c o (fun z=>(hch c z).2.2.1 x c e rfl) ho (I.freeC x c e)
  · obtain ⟨e,n,ne,nf,d⟩:=I.pin p hp
    have nch:p.1∉ch:=fun z=>(hch p.1 z).2.2.2 p hp rfl
    exact ⟨keep p.1 p.2 ne nf nch e n,free p.1 p.2 nch e n,ne,nf,d⟩
theorem Inv.un {t':Nat} (I:Inv X pins σ H s) (u:Un X.fs [] H H' s.heap h') (hok:HOk X.prog X.w H' h'):Inv X pins σ H' { s with heap:=h',toks:=t' }:=by
  obtain ⟨m,⟨o,es,ep,ho,r⟩,_⟩:=id I.loc
  obtain ⟨sl,hL⟩:=u.any ho I.free (by simp)
  exact I.step (g':=s.gens) (d':=s.drawn) (ch:=[]) (fun _ z=>nomatch z) (fun b o _ hb _ e n=>u.keep b o e n hb (by simp)) (fun b o _ hb _ e n=>u.slot b o e n hb (by simp)) (fun b o _ e n=>u.free b o e n (by simp)) (fun b o _ e=>u.there b o e (by simp)) u.tups u.frzs u.tbls (fun m' hm=>by
    obtain ⟨o',es',ep',ho',r'⟩:=hm
    rw [ho] at ho';cases ho'
    exact ⟨_,es',ep',hL,r'⟩) hok I.bare
theorem Inv.call {g':Array GenState} {t':Nat} {d':Drawn} {ch:List Addr} (I:Inv X pins σ H s) (u:Un (frs X.stack) ch H H' s.heap h') (hok:HOk X.prog X.w H' h') (hg:AllBare g')
    (hch:∀ b∈ch,(b∈X.ex∨X.s₀.heap.objs.size≤b)∧b≠X.env.locals∧(∀ x c,X.env.cells.lookup x=some c→c≠b)∧∀ p∈X.pn++pins,p.1≠b) :
    Inv X pins σ H' { s with heap:=h',gens:=g',drawn:=d',toks:=t' }:=by
  obtain ⟨m,⟨o,es,ep,ho,r⟩,_⟩:=id I.loc
  obtain ⟨sl,hL⟩:=u.any ho I.free fun z=>(hch _ z).2.1 rfl
  exact I.step (ch:=ch) hch (fun b o hL hb hc e n=>u.keep b o e n (fun z=>(List.mem_cons.mp (I.stkSub b z)).elim hL hb) hc) (fun b o _ _ hc e n=>u.any e n hc) (fun b o hc e n=>u.free b o e n hc) (fun b o hc e=>u.there b o e hc) u.tups u.frzs u.tbls (fun m' hm=>by
    obtain ⟨o',es',ep',ho',r'⟩:=hm
    rw [ho] at ho';cases ho'
    exact ⟨_,es',ep',hL,r'⟩) hok hg
theorem Inv.turned {t':Nat} {it:Addr} (I:Inv X pins σ H s) (k:∀ b o,b≠it→s.heap.get? b=some o→h'.get? b=some o) (hn:H it=none) (hL:it≠X.env.locals)
    (h1:it∈X.ex∨X.s₀.heap.objs.size≤it) (h2:∀ x c,X.env.cells.lookup x=some c→c≠it) (h3:∀ p∈X.pn++pins,p.1≠it):Inv X pins σ H { s with heap:=h',toks:=t' }:=by
  have nit:∀ b u,H b=some u→b≠it:=fun b u e z=>by rw [z,hn] at e;cases e
  refine I.step (g':=s.gens) (d':=s.drawn) (ch:=[it]) (fun b hb=>?_) (fun b o _ _ hc e _=>k b o (fun z=>hc (by simp [z])) e) (fun b o _ _ hc e _=>⟨o.slots,k b o (fun z=>hc (by simp [z])) e⟩) (fun _ _ _ _ n=>n)
    (fun b o hc e=>⟨o,k b o (fun z=>hc (by simp [z])) e⟩) (fun _ _ e=>e) (fun _ _ _ e=>e) (fun b ps e=>e) (fun m hm=>?_) (fun b u e=>?_) I.bare
  · have e:b=it:=by simpa using hb
    subst e
    exact ⟨h1,hL,h2,h3⟩
  · obtain ⟨o,es,ep,ho,r⟩:=hm
    exact ⟨o,es,ep,k _ o (Ne.symm hL) ho,r⟩
  · refine (I.hok b u e).stay (fun c v hc q=>k c v ?_ q) (fun _ q=>q) (fun _ _ q=>q) fun _ _ _ q=>q
    rcases hc with z | z
    · rw [z];exact nit b u e
    · exact nit c _ z
theorem Inv.tok (I:Inv X pins σ H s) (t:Nat):Inv X pins σ H { s with toks:=t }:=I.un (h':=s.heap) (t':=t) Un.refl I.hok
theorem Inv.kept {t':Nat} (I:Inv X pins σ H s) (k:∀ b u,s.heap.get? b=some u→h'.get? b=some u):Inv X pins σ H { s with heap:=h',toks:=t' }:=I.un (Un.kept k) (I.hok.kept k)
theorem Inv.laid {a:Addr} {o:HO} {t':Nat} (I:Inv X pins σ H s) (k:∀ b u,s.heap.get? b=some u→h'.get? b=some u) (hp:s.heap.objs.size≤a) (new:ObjOk X.prog X.w (upd H a o) h' a o) :
    Inv X pins σ (upd H a o) { s with heap:=h',toks:=t' }:=I.un (Un.laid k hp (I.hok.fresh hp)) (I.hok.laid k hp new)
theorem Inv.write {x e:Addr} {o:HO} {t':Nat} (I:Inv X pins σ H s) (mu:Mut (H x)) (he:e=x∨H e=some (.own x)) (k:∀ b u,b≠e→s.heap.get? b=some u→h'.get? b=some u) (heo:∃ u,h'.get? e=some u)
    (new:ObjOk X.prog X.w (upd H x o) h' x o):Inv X pins σ (upd H x o) { s with heap:=h',toks:=t' }:=I.un (Un.write mu he k heo) (I.hok.write mu he k heo new)
theorem Inv.pins_of {pins':List (Addr × Obj)} (I:Inv X pins σ H s) (h:∀ p∈pins',s.heap.get? p.1=some p.2∧H p.1=none∧p.1≠X.env.locals∧p.1∉X.fs∧∀ v,p.2.data≠.cell v):Inv X pins' σ H s :=
  ⟨I.ok,I.os,I.bare,I.base,I.loc,I.cell,I.free,I.freeC,fun p hp=>(List.mem_append.mp hp).elim (fun z=>I.pin p (List.mem_append_left _ z)) (h p),I.hok,I.len⟩
theorem qh3 {N:List Str} (hN:N.Nodup) {i j:Nat} {x:Str} (a:N[i]?=some x) (b:N[j]?=some x):i=j:=by
  obtain ⟨h1,e1⟩:=List.getElem?_eq_some_iff.mp a
  obtain ⟨h2,e2⟩:=List.getElem?_eq_some_iff.mp b
  exact (List.getElem_inj hN).mp (e1.trans e2.symm)
theorem qjV {M:Model} {A:Around} {E:Value→Shared→Prop} {i:Nat} {x:Str} {v:V} {u:Value} {Q:Unit→Shared→Prop} (I:Inv X pins σ H s) (hN:X.N.Nodup) (hi:X.N[i]?=some x) (hx:Loc X.env.scope x) (r:RelV v u)
    (h:∀ s',Inv X pins (σ.set i (some v)) H s'→(∃ a,Heap.SameBut a s.heap s'.heap∧(a=X.env.locals∨X.env.cells.lookup x=some a))→Q () s') (hf:X.fn x=true∨X.env.scope.names.lookup x=some .local:=by first | exact .inl rfl | exact .inr rfl | assumption):wpAny M A (storeName X.env x u) Q E s:=by
  obtain ⟨m,hn,hl⟩:=id I.loc
  have hcls:(X.env.scope.kind == .class || (X.env.scope.kind == .module && X.env.locals != X.env.globals))=false:=by rw [I.ok.kind];rfl
  have hiσ:i<σ.length:=by rw [I.len];exact (List.getElem?_eq_some_iff.mp hi).1
  have cne:=I.cne
  have tracked:∀ {a:Addr} {h':Heap},(∃ o,s.heap.get? a=some o∧H a=none)→Heap.SameBut a s.heap h'→HOk X.prog X.w H h':=fun {a h'} ha hs b ob e=>by
    obtain ⟨_,_,hfree⟩:=ha
    refine (I.hok b ob e).stay (fun c w' hc q=>(hs.2 c ?_).trans q) (fun _ q=>q) (fun _ _ q=>q) fun _ _ _ q=>q
    rintro rfl
    rcases hc with rfl | hc
    · rw [hfree] at e;cases e
    · rw [hfree] at hc;cases hc
  rcases hx with hk | hk
  · refine wpAny_storeName_local hk hn (fun h' hn' hs=>?_) hcls
    obtain ⟨oL,_,_,hoL,_⟩:=id hn
    refine h _ ⟨I.ok,I.os,I.bare,⟨fun b o e n hb hx=>?_,fun b o e n hb hx=>?_,I.base.free,fun b o e hx=>?_,I.base.tups,I.base.frzs,I.base.tbls⟩,⟨_,hn',fun j y v' e1 e2 e3=>?_⟩,fun y c e=>?_,I.free,I.freeC,fun p hp=>?_,tracked ⟨oL,hoL,I.free⟩ hs,by simpa using I.len⟩ ⟨_,hs,.inl rfl⟩
    · exact (hs.2 b (Nat.ne_of_lt (Nat.lt_of_lt_of_le (Heap.lt_size e) I.ok.above))).trans (I.base.keep b o e n hb hx)
    · obtain ⟨sl,e1⟩:=I.base.slot b o e n hb hx
      exact ⟨sl,(hs.2 b (Nat.ne_of_lt (Nat.lt_of_lt_of_le (Heap.lt_size e) I.ok.above))).trans e1⟩
    · obtain ⟨o',e1⟩:=I.base.there b o e hx
      exact ⟨o',(hs.2 b (Nat.ne_of_lt (Nat.lt_of_lt_of_le (Heap.lt_size e) I.ok.above))).trans e1⟩
    · by_cases hj:j=i
      · subst hj
        rw [hi] at e1;cases e1
        rw [List.getElem?_set_self hiσ] at e2
        cases e2
        exact ⟨u,r,.inl ⟨hk,by simp⟩⟩
      · rw [List.getElem?_set_ne (Ne.symm hj)] at e2
        obtain ⟨u',r',q⟩:=hl j y v' e1 e2 e3
        refine ⟨u',r',?_⟩
        rcases q with ⟨k,e⟩ | ⟨k,c,e,z⟩
        · refine .inl ⟨k,?_⟩
          have:y≠x:=fun e=>hj (qh3 hN e1 (e ▸ hi))
          simp [this,e]
        · exact .inr ⟨k,c,e,z.sameBut hs (cne y c e)⟩
    · obtain ⟨w',z⟩:=I.cell y c e
      exact ⟨w',z.sameBut hs (cne y c e)⟩
    · obtain ⟨e,n,ne,nf,d⟩:=I.pin p hp
      exact ⟨(hs.2 p.1 ne).trans e,n,ne,nf,d⟩
  · have hfn:X.fn x=true:=by
      rcases hf with z | z
      · exact z
      · rw [z] at hk;cases hk
    obtain ⟨c,hc⟩:=I.ok.has x (.inl hk)
    obtain ⟨w',z⟩:=I.cell x c hc
    refine wpAny_storeName_cell I.ok.kind hk hc z (fun h' hc' hs=>?_)
    obtain ⟨oc,hoc,hocd⟩:=id z
    refine h { s with heap:=h' } ⟨I.ok,I.os,I.bare,⟨fun b o e n hb hx=>?_,fun b o e n hb hx=>?_,I.base.free,fun b o e hx=>?_,I.base.tups,I.base.frzs,I.base.tbls⟩,⟨m,hn.sameBut hs (Ne.symm (cne x c hc)),fun j y v' e1 e2 e3=>?_⟩,fun y c' e=>?_,I.free,I.freeC,fun p hp=>?_,tracked ⟨oc,hoc,I.freeC x c hc⟩ hs,by simpa using I.len⟩ ⟨c,hs,.inr hc⟩
    · exact (hs.2 b (Nat.ne_of_lt (Nat.lt_of_lt_of_le (Heap.lt_size e) (I.ok.cab x c hfn hc)))).trans (I.base.keep b o e n hb hx)
    · obtain ⟨sl,e1⟩:=I.base.slot b o e n hb hx
      exact ⟨sl,(hs.2 b (Nat.ne_of_lt (Nat.lt_of_lt_of_le (Heap.lt_size e) (I.ok.cab x c hfn hc)))).trans e1⟩
    · obtain ⟨o',e1⟩:=I.base.there b o e hx
      exact ⟨o',(hs.2 b (Nat.ne_of_lt (Nat.lt_of_lt_of_le (Heap.lt_size e) (I.ok.cab x c hfn hc)))).trans e1⟩
    · by_cases hj:j=i
      · subst hj
        rw [hi] at e1;cases e1
        rw [List.getElem?_set_self hiσ] at e2
        cases e2
        exact ⟨u,r,.inr ⟨.inl hk,c,hc,hc'⟩⟩
      · rw [List.getElem?_set_ne (Ne.symm hj)] at e2
        obtain ⟨u',r',q⟩:=hl j y v' e1 e2 e3
        refine ⟨u',r',?_⟩
        rcases q with q | ⟨k,c',e,z'⟩
        · exact .inl q
        · refine .inr ⟨k,c',e,z'.sameBut hs ?_⟩
          rintro rfl
          exact hj (qh3 hN e1 (I.ok.inj _ _ _ e hc ▸ hi))
    · by_cases hcc:c'=c
      · subst hcc;exact ⟨_,hc'⟩
      · obtain ⟨w2,z2⟩:=I.cell y c' e
        exact ⟨w2,z2.sameBut hs hcc⟩
    · obtain ⟨e,n,ne,nf,d⟩:=I.pin p hp
      refine ⟨(hs.2 p.1 ?_).trans e,n,ne,nf,d⟩
      intro q
      rw [q,hoc] at e
      have q':oc=p.2:=Option.some.inj e
      exact d w' (by rw [← q'];exact hocd)
theorem qhZ {M:Model} {A:Around} {E:Value→Shared→Prop} {i:Nat} {x:Str} {v:V} {u:Value} {Q:Unit→Shared→Prop} (I:Inv X pins σ H s) (hN:X.N.Nodup) (hi:X.N[i]?=some x) (hx:Loc X.env.scope x) (r:RelV v u)
    (h:∀ s',Inv X pins (σ.set i (some v)) H s'→Q () s') (hf:X.fn x=true∨X.env.scope.names.lookup x=some .local:=by first | exact .inl rfl | exact .inr rfl | assumption):wpAny M A (storeName X.env x u) Q E s :=
  qjV I hN hi hx r (fun s' I' _=>h s' I') hf
theorem Inv.call' {s':Shared} {ch:List Addr} (I:Inv X pins σ H s) (ho:s'.os=s.os) (u:Un (frs X.stack) ch H H' s.heap s'.heap) (hok:HOk X.prog X.w H' s'.heap) (hg:AllBare s'.gens)
    (hch:∀ b∈ch,(b∈X.ex∨X.s₀.heap.objs.size≤b)∧b≠X.env.locals∧(∀ x c,X.env.cells.lookup x=some c→c≠b)∧∀ p∈X.pn++pins,p.1≠b):Inv X pins σ H' s':=by
  obtain ⟨h',g',d',t',o'⟩:=s'
  have e:o'=s.os:=ho
  subst e
  exact I.call (g':=g') (t':=t') (d':=d') u hok hg hch
end
abbrev XK:=Value→Option Addr→Hp→Prop
abbrev St:=List (Option V)
abbrev VK:=V→Hp→Prop
abbrev TE:=St→Hp→VK→Prop
abbrev TT:=St→Hp→(Bool→Hp→Prop)→Prop
abbrev TA:=St→Hp→(List V→Hp→Prop)→Prop
structure Ends where
  nx:St→Hp→Prop
  rt:VK
  bk:St→Hp→Prop:=fun _ _=>False
  ct:St→Hp→Prop:=fun _ _=>False
abbrev TS:=Ends→St→Hp→Prop
def EP (X:Cx) (pins:List (Addr × Obj)) (σ:St) (Q:VK) (u:Value) (s':Shared):Prop:=∃ v H',Inv X pins σ H' s'∧RelV v u∧Q v H'
def TP (X:Cx) (pins:List (Addr × Obj)) (σ:St) (Q:Bool→Hp→Prop) (b:Bool) (s':Shared):Prop:=∃ H',Inv X pins σ H' s'∧Q b H'
def AP (X:Cx) (pins:List (Addr × Obj)) (σ:St) (Q:List V→Hp→Prop) (us:List Value) (s':Shared):Prop:=∃ vs H',Inv X pins σ H' s'∧Vals vs us∧Q vs H'
def SP (X:Cx) (pins:List (Addr × Obj)) (D:Ends) (f:Flow) (s':Shared):Prop :=
  match f with
  | .next=>∃ σ' H',Inv X pins σ' H' s'∧D.nx σ' H'
  | .brk=>∃ σ' H',Inv X pins σ' H' s'∧D.bk σ' H'
  | .cont=>∃ σ' H',Inv X pins σ' H' s'∧D.ct σ' H'
  | .ret u=>∃ v σ' H',Inv X pins σ' H' s'∧RelV v u∧D.rt v H'
def PE (X:Cx) (e:Expr) (t:TE):Prop :=
  ∀ (pins:List (Addr × Obj)) (s:Shared) (σ:St) (H:Hp) (Q:VK),Inv X pins σ H s→t σ H Q→wpAny (model X.prog X.w) X.A (eval e X.env) (EP X pins σ Q) X.xe s
def PT (X:Cx) (e:Expr) (t:TT):Prop :=
  ∀ (pins:List (Addr × Obj)) (s:Shared) (σ:St) (H:Hp) (Q:Bool→Hp→Prop),Inv X pins σ H s→t σ H Q→wpAny (model X.prog X.w) X.A (isTrue e X.env (eval e X.env)) (TP X pins σ Q) X.xe s
def PW (X:Cx) (e:Expr) (t:TT):Prop :=
  ∀ (whole:Sem Value) (pins:List (Addr × Obj)) (s:Shared) (σ:St) (H:Hp) (Q:Bool→Hp→Prop),Inv X pins σ H s→t σ H Q→wpAny (model X.prog X.w) X.A (isTrue e X.env whole) (TP X pins σ Q) X.xe s
theorem PW.pt {X:Cx} {e:Expr} {t:TT} (h:PW X e t):PT X e t:=h _
def PA (X:Cx) (es:List Expr) (t:TA):Prop :=
  ∀ (pos:Pos) (pins:List (Addr × Obj)) (s:Shared) (σ:St) (H:Hp) (Q:List V→Hp→Prop),Inv X pins σ H s→t σ H Q→wpAny (model X.prog X.w) X.A (spliced (backTo pos (starEach es X.env))) (AP X pins σ Q) X.xe s
def PS (X:Cx) (st:Stmt) (t:TS):Prop :=
  ∀ (pins:List (Addr × Obj)) (s:Shared) (σ:St) (H:Hp) (D:Ends),Inv X pins σ H s→t D σ H→wpAny (model X.prog X.w) X.A (exec st X.env) (SP X pins D) X.xe s
def PSs (X:Cx) (st:List Stmt) (t:TS):Prop :=
  ∀ (pins:List (Addr × Obj)) (s:Shared) (σ:St) (H:Hp) (D:Ends),Inv X pins σ H s→t D σ H→wpAny (model X.prog X.w) X.A (execs st X.env) (SP X pins D) X.xe s
theorem thn {α:Type} {t:Sem α} {Q Q':α→Shared→Prop} {M:Model} {A:Around} {E:Value→Shared→Prop} {s:Shared} (h:wpAny M A t Q E s) (hQ:∀ a s,Q a s→Q' a s):wpAny M A t Q' E s:=wpAny_mono h hQ fun _ _ x=>x
section
variable {X : Cx}
def qm5 (i:Nat):TE:=fun σ H Q=>∃ v,σ[i]?=some (some v)∧Q v H
def tC (v:V):TE:=fun _ H Q=>Q v H
theorem qoH {i:Nat} {x:Str} {pos:Pos} (hN:X.N[i]?=some x) (hv:Vis X.env.scope x) (hd:(x == ("__debug__":Str))=false:=by decide) (hcd:(x == ("__classdict__":Str))=false:=by decide):PE X (.Name x pos) (qm5 i):=by
  intro pins s σ H Q I h
  obtain ⟨v,e,h⟩:=h
  obtain ⟨m,hn,hl⟩:=I.loc
  obtain ⟨u,r,l⟩:=hl i x v hN e hv
  have fin:EP X pins σ Q u s:=⟨v,H,I,r,h⟩
  rcases l with ⟨hk,hm⟩ | ⟨hk,c,hc,hcell⟩
  · exact wpAny_Name (wpAny_loadName_local I.ok.kind hk hn hm fin) hd
  · rcases hk with hk | hk
    · exact wpAny_Name (wpAny_loadName_cell I.ok.kind hk hc hcell fin) hd
    · exact wpAny_Name (wpAny_loadName_free I.ok.kind hk hc hcell fin hcd) hd
theorem qnD {i j pos}:PE X (.Constant (.int i) j pos) (tC (.int i)):=fun _ _ _ H _ I h=>wpAny_Constant_int ⟨.int i,H,I.tok _,⟨_,rfl⟩,h⟩
theorem qpb {b j pos}:PE X (.Constant (.bool b) j pos) (tC (.bl b)):=fun _ _ _ H _ I h=>Constant_bool ⟨.bl b,H,I,rfl,h⟩
theorem qnp {j pos}:PE X (.Constant .none j pos) (tC .non):=fun _ _ _ H _ I h=>Constant_none ⟨.non,H,I,rfl,h⟩
theorem qoq {x j pos}:PE X (.Constant (.str x) j pos) (tC (.str x)):=fun _ _ _ H _ I h=>Calls.Constant_str ⟨.str x,H,I.tok _,⟨_,rfl⟩,h⟩
def Gl (X:Cx) (x:Str):Prop:=X.env.kindOf x=some .globalImplicit
theorem qjD {E:Value→Shared→Prop} {pins:List (Addr × Obj)} {s:Shared} {σ:St} {H:Hp} {x:Str} {u:Value} {pos:Pos} {Q:Value→Shared→Prop} (I:Inv X pins σ H s) (hg:Gl X x) (hm:X.mg x=some u) (h:Q u s)
    (hd:(x == ("__debug__":Str))=false:=by decide):wpAny (model X.prog X.w) X.A (eval (.Name x pos) X.env) Q E s :=
  Calls.Name_function_global I.ok.kind hg (Calls.loadGlobal_global (by rw [I.ok.glob];exact I.mod.glob.keeps I.bk) hm h) hd
theorem qe3 {E:Value→Shared→Prop} {pins:List (Addr × Obj)} {s:Shared} {σ:St} {H:Hp} {x:Str} {u:Value} {pos:Pos} {Q:Value→Shared→Prop} (I:Inv X pins σ H s) (hg:Gl X x) (hm:X.mg x=none) (hv:bootBuiltins x=some u) (h:Q u s)
    (hn:x≠"__name__":=by decide) (hd:(x == ("__debug__":Str))=false:=by decide):wpAny (model X.prog X.w) X.A (eval (.Name x pos) X.env) Q E s:=by
  obtain ⟨mb,h1,h2⟩:=I.mod.blt
  exact Calls.Name_function_global I.ok.kind hg (Calls.loadGlobal_builtin (by rw [I.ok.glob];exact I.mod.glob.keeps I.bk) hm (by rw [I.ok.blt];exact h1.keeps I.bk) ((h2 x hn).trans hv) h) hd
theorem qmJ {x:Str} {v:V} {u:Value} {pos:Pos} (hg:Gl X x) (hm:X.mg x=some u) (r:RelV v u) (hd:(x == ("__debug__":Str))=false:=by decide):PE X (.Name x pos) (tC v) :=
  fun _ _ _ H _ I h=>qjD I hg hm ⟨v,H,I,r,h⟩ hd
theorem qeD {x:Str} {v:V} {u:Value} {pos:Pos} (hg:Gl X x) (hm:X.mg x=none) (hv:bootBuiltins x=some u) (r:RelV v u) (hn:x≠"__name__":=by decide) (hd:(x == ("__debug__":Str))=false:=by decide):PE X (.Name x pos) (tC v) :=
  fun _ _ _ H _ I h=>qe3 I hg hm hv ⟨v,H,I,r,h⟩ hn hd
variable {a b : Expr} {ta tb : TE} {pos : Pos}
def PC (X:Cx) (op:CmpOp) (a b:Expr) (t:TE):Prop :=
  ∀ (pins:List (Addr × Obj)) (s:Shared) (σ:St) (H:Hp) (Q:VK),Inv X pins σ H s→t σ H Q →
    wpAny (model X.prog X.w) X.A (eval a X.env) (fun v s₁=>wpAny (model X.prog X.w) X.A (eval b X.env) (fun u s₂=>wpAny (model X.prog X.w) X.A (compareOp op v u) (EP X pins σ Q) X.xe s₂) X.xe s₁) X.xe s
def tB (t:TE):TT:=fun σ H Q=>t σ H fun x H1=>∃ c,x=.bl c∧Q c H1
theorem qfU {op:CmpOp} {t:TE} (h:PC X op a b t) (h1:behindInMarks op b=false:=by first | exact nobehind _ (by decide) (by decide) | rfl):PT X (.Compare a [op] [b] pos) (tB t):=by
  intro pins s σ H Q I hw
  refine wpAny_isTrue_Compare1 (thn (h pins s σ H _ I hw) fun v s1 h1=>thn h1 fun u s2 h2=>thn h2 fun c s3 hq0=>?_) h1
  obtain ⟨x,H1,I1,r1,q1⟩:=hq0
  obtain ⟨d,rfl,q⟩:=q1
  cases r1
  exact wpAny_truthy_bool ⟨H1,I1,q⟩
variable {tA tB' : TT} {rest : List Expr}
def qrp (t u:TT):TT:=fun σ H Q=>t σ H fun c H1=>if c=true then u σ H1 Q else Q false H1
def tOr (t u:TT):TT:=fun σ H Q=>t σ H fun c H1=>if c=true then Q true H1 else u σ H1 Q
def qrn (t:TT):TT:=fun σ H Q=>t σ H fun c H1=>Q (!c) H1
theorem qi6 (ha:PT X a tA):PW X (.BoolOp .And [a] pos) tA:=by
  intro wh pins s σ H Q I h
  refine isTrue_and (thn (ha pins s σ H Q I h) fun c s1 e=>?_)
  cases c with
  | true=>exact isTrue_and_nil e
  | false=>exact e
theorem qlh (ha:PT X a tA):PW X (.BoolOp .Or [a] pos) tA:=by
  intro wh pins s σ H Q I h
  refine isTrue_or (thn (ha pins s σ H Q I h) fun c s1 e=>?_)
  cases c with
  | false=>exact isTrue_or_nil e
  | true=>exact e
theorem qlt (ha:PT X a tA) (hb:PW X (.BoolOp .And (b::rest) pos) tB'):PW X (.BoolOp .And (a::b::rest) pos) (qrp tA tB'):=by
  intro wh pins s σ H Q I h
  refine isTrue_and (thn (ha pins s σ H _ I h) fun c s1 hq0=>?_)
  obtain ⟨H1,I1,q1⟩:=hq0
  cases c with
  | true=>exact hb wh pins s1 σ H1 Q I1 q1
  | false=>exact ⟨H1,I1,q1⟩
theorem qoi (ha:PT X a tA) (hb:PW X (.BoolOp .Or (b::rest) pos) tB'):PW X (.BoolOp .Or (a::b::rest) pos) (tOr tA tB'):=by
  intro wh pins s σ H Q I h
  refine isTrue_or (thn (ha pins s σ H _ I h) fun c s1 hq0=>?_)
  obtain ⟨H1,I1,q1⟩:=hq0
  cases c with
  | true=>exact ⟨H1,I1,q1⟩
  | false=>exact hb wh pins s1 σ H1 Q I1 q1
theorem qoE (ha:PT X a tA):PT X (.UnaryOp .Not a pos) (qrn tA):=by
  intro pins s σ H Q I h
  exact isTrue_not (ha pins s σ H (fun c H1=>Q (!c) H1) I h)
def qpL (ta tb:TE):TE:=fun σ H Q=>ta σ H fun x H1=>∃ c,x=.bl c∧if c=true then tb σ H1 Q else Q (.bl false) H1
def qpj (ta:TE):TE:=fun σ H Q=>ta σ H fun x H1=>∃ c,x=.bl c∧Q (.bl (!c)) H1
theorem qoQ {op} {t:TE} (h:PE X a t):PE X (.BoolOp op [a] pos) t:=fun pins s σ H Q I hw=>BoolOp_one (h pins s σ H Q I hw)
theorem qon (ha:PE X a ta) (hb:PE X (.BoolOp .And (b::rest) pos) tb):PE X (.BoolOp .And (a::b::rest) pos) (qpL ta tb):=by
  intro pins s σ H Q I h
  refine BoolOp_and (thn (ha pins s σ H _ I h) fun v s1 hq0=>?_)
  obtain ⟨x,H1,I1,r1,q1⟩:=hq0
  obtain ⟨c,rfl,q1⟩:=q1
  cases r1
  refine wpAny_truthy_bool ?_
  cases c with
  | true=>exact hb pins s1 σ H1 Q I1 q1
  | false=>exact ⟨.bl false,H1,I1,rfl,q1⟩
theorem qoX (ha:PE X a ta):PE X (.UnaryOp .Not a pos) (qpj ta):=by
  intro pins s σ H Q I h
  refine UnaryOp_ (thn (ha pins s σ H _ I h) fun v s1 hq0=>?_)
  obtain ⟨x,H1,I1,r1,q1⟩:=hq0
  obtain ⟨c,rfl,q1⟩:=q1
  cases r1
  exact not_of (wpAny_truthy_bool ⟨.bl (!c),H1,I1,rfl,q1⟩)
def tIf (t:TT) (ta tb:TE):TE:=fun σ H Q=>t σ H fun c H1=>if c=true then ta σ H1 Q else tb σ H1 Q
theorem qky {c:Expr} (hc:PT X c tA) (ha:PE X a ta) (hb:PE X b tb):PE X (.IfExp c a b pos) (tIf tA ta tb):=by
  intro pins s σ H Q I h
  refine wpAny_IfExp (thn (hc pins s σ H _ I h) fun d s1 hq0=>?_)
  obtain ⟨H1,I1,q1⟩:=hq0
  cases d with
  | true=>exact ha pins s1 σ H1 Q I1 q1
  | false=>exact hb pins s1 σ H1 Q I1 q1
end
def SqL (K:PySem.W.Frag) (H:Hp) (a:Addr) (xs:List V):Prop :=
  Rd H a (.lst xs) ∨
    ∃ (o:Obj) (its:Array Value) (n:Nat),K.lookup a=some o∧o.cls=.type "list"∧o.dict=none∧o.data=.seq its n∧its.size≤sizeLine∧Vals xs its.toList
def SqT (K:PySem.W.Frag) (H:Hp) (a:Addr) (xs:List V):Prop :=
  Rd H a (.tup xs) ∨
    ∃ (o:Obj) (its:Array Value) (n:Nat),K.lookup a=some o∧o.cls=.type "tuple"∧o.data=.seq its n∧its.size≤sizeLine∧Vals xs its.toList
def qqI:Value→Option V
  | .none=>some .non
  | .bool b=>some (.bl b)
  | .int i _=>some (.int i)
  | .str x _=>some (.str x)
  | .bytes b _=>some (.byt b)
  | .float b _=>some (.flt b)
  | .ref a=>some (.ref a)
  | .type n=>some (.ty n)
  | _=>none
theorem RelV.abs {x:V} {u:Value} (r:RelV x u):qqI u=some x:=by
  cases x with
  | non=>cases r;rfl
  | bl _=>cases r;rfl
  | int _=>obtain ⟨t,rfl⟩:=r;rfl
  | str _=>obtain ⟨t,rfl⟩:=r;rfl
  | byt _=>obtain ⟨t,rfl⟩:=r;rfl
  | flt _=>obtain ⟨t,rfl⟩:=r;rfl
  | ref _=>cases r;rfl
  | ty _=>cases r;rfl
theorem RelV.inj {x y:V} {u:Value} (r:RelV x u) (q:RelV y u):x=y:=Option.some.inj (r.abs.symm.trans q.abs)
theorem Vals.inj:∀ {xs ys:List V} {us:List Value},Vals xs us→Vals ys us→xs=ys
  | _,_,_,.nil,.nil=>rfl
  | _,_,_,.cons r t,.cons r' t'=>by rw [r.inj r',Vals.inj t t']
section
variable {X : Cx} {pins : List (Addr × Obj)} {σ : St} {H : Hp} {s : Shared} {a : Addr} {xs ys : List V}
theorem SqL.of {K:PySem.W.Frag} (h:H a=some (.lst xs)):SqL K H a xs:=.inl (.inl h)
theorem SqT.of {K:PySem.W.Frag} (h:H a=some (.tup xs)):SqT K H a xs:=.inl (.inl h)
theorem Inv.list (I:Inv X pins σ H s) (h:SqL X.K H a xs):∃ its:List Value,Vals xs its∧PlainL s.heap a its.toArray∧xs.length≤sizeLine:=by
  rcases h with h | ⟨o,its,n,hk,hc,hd,hs,hz,r⟩
  · obtain ⟨z,its,n,r,e⟩:=h.ok I.hok
    exact ⟨its,r,⟨_,n,e,rfl,rfl,rfl⟩,z⟩
  · refine ⟨its.toList,r,⟨o,n,I.kIn a o hk,hc,hd,by simpa using hs⟩,?_⟩
    have e:=r.length
    simp only [Array.length_toList] at e
    omega
theorem Inv.tuple (I:Inv X pins σ H s) (h:SqT X.K H a xs):∃ its:List Value,Vals xs its∧IsTup s.heap a its.toArray∧xs.length≤sizeLine:=by
  rcases h with h | ⟨o,its,n,hk,hc,hs,hz,r⟩
  · obtain ⟨z,its,r,p⟩:=h.ok I.hok
    exact ⟨its,r,p.tup,z⟩
  · refine ⟨its.toList,r,⟨o,I.kIn a o hk,hc,n,by simpa using hs⟩,?_⟩
    have e:=r.length
    simp only [Array.length_toList] at e
    omega
theorem Inv.list_inj (I:Inv X pins σ H s) (h:SqL X.K H a xs) (h':SqL X.K H a ys):xs=ys:=by
  obtain ⟨its,r,⟨o,n,e,_,_,d⟩,_⟩:=I.list h
  obtain ⟨its',r',⟨o',n',e',_,_,d'⟩,_⟩:=I.list h'
  rw [e] at e';cases e'
  rw [d] at d'
  injection d' with d1 _
  have:its=its':=by simpa using congrArg Array.toList d1
  subst this
  exact r.inj r'
theorem Inv.tuple_inj (I:Inv X pins σ H s) (h:SqT X.K H a xs) (h':SqT X.K H a ys):xs=ys:=by
  obtain ⟨its,r,⟨o,e,_,n,d⟩,_⟩:=I.tuple h
  obtain ⟨its',r',⟨o',e',_,n',d'⟩,_⟩:=I.tuple h'
  rw [e] at e';cases e'
  rw [d] at d'
  injection d' with d1 _
  have:its=its':=by simpa using congrArg Array.toList d1
  subst this
  exact r.inj r'
end
abbrev Cx.wish (X:Cx) (E:Value→Shared→Prop):Cx:={ X with xe:=E }
abbrev Cx.nox (X:Cx):Cx:=X.wish fun _ _=>False
theorem Cx.Ok.wish {X:Cx} (ok:X.Ok) (E:Value→Shared→Prop):(X.wish E).Ok :=
  ⟨ok.mod,ok.kind,ok.glob,ok.blt,ok.above,ok.inj,ok.has,ok.cab,ok.hd,ok.frames,ok.stk,ok.exf,ok.bs,ok.bsz,ok.noex,ok.exfs,ok.funs,ok.frf⟩
theorem Cx.Ok.unwish {X:Cx} {E:Value→Shared→Prop} (ok:(X.wish E).Ok):X.Ok :=
  ⟨ok.mod,ok.kind,ok.glob,ok.blt,ok.above,ok.inj,ok.has,ok.cab,ok.hd,ok.frames,ok.stk,ok.exf,ok.bs,ok.bsz,ok.noex,ok.exfs,ok.funs,ok.frf⟩
section
variable {X : Cx} {pins : List (Addr × Obj)} {σ : St} {H : Hp} {s : Shared} {E : Value → Shared → Prop}
theorem Inv.wish (I:Inv X pins σ H s) (E:Value→Shared→Prop):Inv (X.wish E) pins σ H s:=⟨I.ok.wish E,I.os,I.bare,I.base,I.loc,I.cell,I.free,I.freeC,I.pin,I.hok,I.len⟩
theorem Inv.unwish (I:Inv (X.wish E) pins σ H s):Inv X pins σ H s:=⟨I.ok.unwish,I.os,I.bare,I.base,I.loc,I.cell,I.free,I.freeC,I.pin,I.hok,I.len⟩
theorem SP.unwish {D:Ends} {f:Flow} {s':Shared} (h:SP (X.wish E) pins D f s'):SP X pins D f s':=by
  cases f with
  | next=>obtain ⟨σ',H',I,q⟩:=h;exact ⟨σ',H',I.unwish,q⟩
  | brk=>obtain ⟨σ',H',I,q⟩:=h;exact ⟨σ',H',I.unwish,q⟩
  | cont=>obtain ⟨σ',H',I,q⟩:=h;exact ⟨σ',H',I.unwish,q⟩
  | ret u=>obtain ⟨v,σ',H',I,r,q⟩:=h;exact ⟨v,σ',H',I.unwish,r,q⟩
theorem PSs.nox {st:List Stmt} {t:TS} (h:PSs X.nox st t):PSs X st t:=fun pins s σ H D I hw =>
  wpAny_mono (h pins s σ H D (I.wish _) hw) (fun _ _ q=>q.unwish) fun _ _ z=>False.elim z
end
section
variable {X : Cx} {st : Stmt} {rest : List Stmt} {t u : TS} {e : Expr} {te : TE} {pos : Pos}
def qpo:TS:=fun D σ H=>D.nx σ H
def qqw (t u:TS):TS:=fun D σ H=>t { D with nx:=u D } σ H
theorem pss_nil:PSs X [] qpo:=fun _ _ σ H _ I h=>wpAny_execs_nil ⟨σ,H,I,h⟩
theorem qd4 (h1:PS X st t) (h2:PSs X rest u):PSs X (st::rest) (qqw t u):=by
  intro pins s σ H D I h
  refine wpAny_execs_cons (thn (h1 pins s σ H { D with nx:=u D } I h) fun f s1 q=>?_)
  cases f with
  | next =>
    obtain ⟨σ',H',I',q⟩:=q
    exact h2 pins s1 σ' H' D I' q
  | ret v=>exact q
  | brk=>exact q
  | cont=>exact q
theorem qiT (h1:PS X st t):PSs X [st] t:=by
  intro pins s σ H D I h
  refine wpAny_execs_cons (thn (h1 pins s σ H D I h) fun f s1 q=>?_)
  cases f with
  | next=>exact wpAny_execs_nil q
  | ret v=>exact q
  | brk=>exact q
  | cont=>exact q
theorem Inv.quiet {pins:List (Addr × Obj)} {σ:St} {H:Hp} {s:Shared} (I:Inv X pins σ H s):interactive X.env=false:=by simp [interactive,I.ok.kind]
def qpf (te:TE):TS:=fun D σ H=>te σ H fun _ H1=>D.nx σ H1
theorem qfu (he:PE X e te) (hs:swapsWith e none pos.line X.env=pure false:=by rfl):PS X (.Expr e pos) (qpf te):=by
  intro pins s σ H D I h
  exact wpAny_Expr_any (thn (he pins s σ H _ I h) fun v s1 hq0=>by obtain ⟨x,H1,I1,r1,q1⟩:=hq0;exact ⟨σ,H1,I1,q1⟩) I.quiet hs
def qrw (te:TE):TS:=fun D σ H=>te σ H D.rt
theorem qlp (he:PE X e te):PS X (.Return (some e) pos) (qrw te):=by
  intro pins s σ H D I h
  exact wpAny_Return_some (thn (he pins s σ H _ I h) fun v s1 hq0=>by obtain ⟨x,H1,I1,r1,q1⟩:=hq0;exact ⟨x,σ,H1,I1,r1,q1⟩)
def qro (c:TT) (t u:TS):TS:=fun D σ H=>c σ H fun b H1=>if b=true then t D σ H1 else u D σ H1
theorem qnJ {c:Expr} {a b:List Stmt} {tc:TT} (hc:PT X c tc) (ha:PSs X a t) (hb:PSs X b u):PS X (.If c a b pos) (qro tc t u):=by
  intro pins s σ H D I h
  refine wpAny_If (thn (hc pins s σ H _ I h) fun d s1 hq0=>?_)
  obtain ⟨H1,I1,q1⟩:=hq0
  cases d with
  | true=>exact ha pins s1 σ H1 D I1 q1
  | false=>exact hb pins s1 σ H1 D I1 q1
def qnu:TS:=fun _ _ _=>False
theorem ps_never:PS X st qnu:=fun _ _ _ _ _ _ h=>h.elim
end
abbrev TG:=V→St→Hp→(St→Hp→Prop)→Prop
abbrev TGs:=List V→St→Hp→(St→Hp→Prop)→Prop
def PG (X:Cx) (target:Expr) (t:TG):Prop :=
  ∀ (pins:List (Addr × Obj)) (s:Shared) (σ:St) (H:Hp) (v:V) (u:Value) (Q:St→Hp→Prop),Inv X pins σ H s→RelV v u→t v σ H Q →
    wpAny (model X.prog X.w) X.A (assign target X.env u) (fun _ s'=>∃ σ' H',Inv X pins σ' H' s'∧Q σ' H') X.xe s
def PGs (X:Cx) (ts:List Expr) (t:TGs):Prop :=
  ∀ (pins:List (Addr × Obj)) (s:Shared) (σ:St) (H:Hp) (vs:List V) (us:List Value) (Q:St→Hp→Prop),Inv X pins σ H s→Vals vs us→t vs σ H Q →
    wpAny (model X.prog X.w) X.A (assignInOrder ((assignEach ts X.env).map (·.2)) us) (fun _ s'=>∃ σ' H',Inv X pins σ' H' s'∧Q σ' H') X.xe s
abbrev qnG:=V→V→V→Hp→(Hp→Prop)→Prop
def qp7 (X:Cx) (t:qnG):Prop :=
  ∀ (pins:List (Addr × Obj)) (s:Shared) (σ:St) (H:Hp) (o i v:V) (ov iv u:Value) (Q:Hp→Prop),Inv X pins σ H s→RelV o ov→RelV i iv→RelV v u→t o i v H Q →
    wpAny (model X.prog X.w) X.A (setItem ov iv u) (fun _ s'=>∃ H',Inv X pins σ H' s'∧Q H') X.xe s
abbrev TIp:=V→V→Hp→VK→Prop
def PIp (X:Cx) (op:Operator) (t:TIp):Prop :=
  ∀ (pins:List (Addr × Obj)) (s:Shared) (σ:St) (H:Hp) (x y:V) (v u:Value) (Q:VK),Inv X pins σ H s→RelV x v→RelV y u→t x y H Q →
    wpAny (model X.prog X.w) X.A (inplaceOp op v u) (EP X pins σ Q) X.xe s
section
variable {X : Cx} {pos : Pos}
def qkp (i:Nat):TG:=fun v σ H Q=>Q (σ.set i (some v)) H
theorem qjC {i:Nat} {x:Str} (hN:X.N.Nodup) (hi:X.N[i]?=some x) (hx:Loc X.env.scope x) (hf:X.fn x=true∨X.env.scope.names.lookup x=some .local:=by first | exact .inl rfl | exact .inr rfl | assumption):PG X (.Name x pos) (qkp i):=by
  intro pins s σ H v u Q I r h
  exact wpAny_assign_Name (qhZ I hN hi hx r (fun s' I'=>⟨_,H,I',h⟩) hf)
def qrm:TGs:=fun vs σ H Q=>vs=[]∧Q σ H
def qpn (t:TG) (u:TGs):TGs:=fun vs σ H Q=>∃ v r,vs=v::r∧t v σ H fun σ' H'=>u r σ' H' Q
theorem pgs_nil:PGs X [] qrm:=by
  intro pins s σ H vs us Q I r h
  obtain ⟨e,h⟩:=h
  subst e
  cases r
  exact assignInOrder_nil ⟨σ,H,I,h⟩
theorem qhI {e:Expr} {es:List Expr} {t:TG} {u:TGs} (h1:PG X e t) (h2:PGs X es u)
    (hs:(assignEach (e::es) X.env).map (·.2)=assign e X.env::(assignEach es X.env).map (·.2):=by rfl):PGs X (e::es) (qpn t u):=by
  intro pins s σ H vs us Q I r h
  obtain ⟨v,vr,e1,h⟩:=h
  subst e1
  cases r with
  | cons r rr =>
    rw [hs]
    refine assignInOrder_cons (thn (h1 pins s σ H _ _ _ I r h) fun _ s1 hq0=>?_)
    obtain ⟨σ1,H1,I1,q1⟩:=hq0
    exact h2 pins s1 σ1 H1 _ _ Q I1 rr q1
def qpX (K:PySem.W.Frag) (n:Nat) (t:TGs):TG:=fun v σ H Q=>∃ a xs,v=.ref a∧SqT K H a xs∧xs.length=n∧t xs σ H Q
theorem qor {es:List Expr} {k:Nat} {t:TGs} {n:Nat} (hc:X.calm=true) (h:PGs X es t)
    (hn:(assignEach es X.env).length=n:=by rfl) (hst:(assignEach es X.env).findIdx? (·.1)=none:=by rfl):PG X (.Tuple es k pos) (qpX X.K n t):=by
  intro pins s σ H v u Q I r hw
  obtain ⟨a,xs,e1,hq,hl,hw⟩:=hw
  subst e1
  cases r
  obtain ⟨its,rv,ht,hz⟩:=I.tuple hq
  refine assign_Tuple_tuple (I.ok.hd hc) ht (by simp [hn,← hl,rv.length]) hst fun h' hx=>?_
  have I1:Inv X pins σ H { s with heap:=h' }:=I.kept (t':=s.toks) fun b o e=>hx b o (Nat.ne_of_lt (Heap.lt_size e)) e
  exact h pins _ σ H xs _ Q I1 (by simpa using rv) hw
def qrA (to ti:TE) (t:qnG):TG:=fun v σ H Q=>to σ H fun o H1=>ti σ H1 fun i H2=>t o i v H2 fun H3=>Q σ H3
theorem qnL {o i:Expr} {to ti:TE} {t:qnG} (ho:PE X o to) (hi:PE X i ti) (hs:qp7 X t)
    (ha:∀ v,assign (.Subscript o i pos) X.env v=(do
      let ov ← holding [v] (eval o X.env)
      let iv ← holding [v,ov] (eval i X.env)
      standAt pos
      holding [v,ov,iv] (setItem ov iv v)
      release [v,ov,iv] []):=by intro _;rfl):PG X (.Subscript o i pos) (qrA to ti t):=by
  intro pins s σ H v u Q I r h
  rw [ha]
  refine wpAny_bind (wpAny_holding (thn (ho pins s σ H _ I h) fun ov s1 hq0=>?_))
  obtain ⟨x,H1,I1,r1,q1⟩:=hq0
  refine wpAny_bind (wpAny_holding (thn (hi pins s1 σ H1 _ I1 q1) fun iv s2 hq1=>?_))
  obtain ⟨y,H2,I2,r2,q2⟩:=hq1
  refine wpAny_bind (wpAny_standAt (wpAny_bind (wpAny_holding (thn (hs pins s2 σ H2 x y v ov iv u _ I2 r1 r2 r q2) fun _ s3 hq2=>?_))))
  obtain ⟨H3,I3,q3⟩:=hq2
  exact wpAny_release ⟨σ,H3,I3,q3⟩
def qo3 (te:TE) (g:TG):TS:=fun D σ H=>te σ H fun x H1=>g x σ H1 D.nx
theorem qjU {tg e:Expr} {te:TE} {g:TG} (he:PE X e te) (hg:PG X tg g) (hs:swapsWithSole [tg] e pos.line X.env=pure false:=by rfl) (hw:swappedStores [tg] e X.env=pure none:=by rfl)
    (h1:(assignEach [tg] X.env).map (·.2)=[assign tg X.env]:=by rfl):PS X (.Assign [tg] e pos) (qo3 te g):=by
  intro pins s σ H D I h
  refine wpAny_Assign_stores (thn (he pins s σ H _ I h) fun v s1 hq0=>?_) hs hw
  obtain ⟨x,H1,I1,r1,q1⟩:=hq0
  rw [h1]
  exact thn (hg pins s1 σ H1 x v _ I1 r1 q1) fun _ s2 q=>q
theorem qlB {i:Nat} {x:Str} {e:Expr} {te:TE} {pos':Pos} (hN:X.N.Nodup) (hi:X.N[i]?=some x) (hx:Loc X.env.scope x) (he:PE X e te) (hs:swapsWith e (some (.Name x pos')) pos.line X.env=pure false:=by rfl) (hf:X.fn x=true∨X.env.scope.names.lookup x=some .local:=by first | exact .inl rfl | exact .inr rfl | assumption) :
    PS X (.Assign [.Name x pos'] e pos) (qo3 te (qkp i)):=by
  intro pins s σ H D I h
  refine wpAny_Assign_Name (thn (he pins s σ H _ I h) fun v s1 hq0=>?_) hs
  obtain ⟨y,H1,I1,r1,q1⟩:=hq0
  exact qhZ I1 hN hi hx r1 (fun s2 I2=>⟨_,H1,I2,q1⟩) hf
def qo8 (to ti te:TE) (tget:V→V→Hp→VK→Prop) (tip:TIp) (tset:qnG):TS:=fun D σ H=>to σ H fun o H1=>ti σ H1 fun i H2=>tget o i H2 fun x H3=>te σ H3 fun y H4=>tip x y H4 fun z H5=>tset o i z H5 fun H6=>D.nx σ H6
def qpp (X:Cx) (t:V→V→Hp→VK→Prop):Prop :=
  ∀ (pins:List (Addr × Obj)) (s:Shared) (σ:St) (H:Hp) (o i:V) (ov iv:Value) (Q:VK),Inv X pins σ H s→RelV o ov→RelV i iv→t o i H Q →
    wpAny (model X.prog X.w) X.A (getItem ov iv) (EP X pins σ Q) X.xe s
theorem qmk {o i e:Expr} {to ti te:TE} {tget:V→V→Hp→VK→Prop} {tip:TIp} {tset:qnG} {op:Operator} {tpos:Pos} (ho:PE X o to) (hi:PE X i ti) (hg:qpp X tget) (he:PE X e te) (hp:PIp X op tip) (hs:qp7 X tset)
    (ha:∀ ov iv new,augStore i ov iv new=(do holding [new,ov,iv] (setItem ov iv new);release [new,ov,iv] [];pure .next):=by intros;rfl):PS X (.AugAssign (.Subscript o i tpos) op e pos) (qo8 to ti te tget tip tset):=by
  intro pins s σ H D I h
  refine wpAny_AugAssign_SubscriptAny (thn (ho pins s σ H _ I h) fun ov s1 hq0=>?_) ha
  obtain ⟨x1,H1,I1,r1,q1⟩:=hq0
  refine thn (hi pins s1 σ H1 _ I1 q1) fun iv s2 hq1=>?_
  obtain ⟨x2,H2,I2,r2,q2⟩:=hq1
  refine thn (hg pins s2 σ H2 x1 x2 ov iv _ I2 r1 r2 q2) fun old s3 hq2=>?_
  obtain ⟨x3,H3,I3,r3,q3⟩:=hq2
  refine thn (he pins s3 σ H3 _ I3 q3) fun v s4 hq3=>?_
  obtain ⟨x4,H4,I4,r4,q4⟩:=hq3
  refine thn (hp pins s4 σ H4 x3 x4 old v _ I4 r3 r4 q4) fun new s5 hq4=>?_
  obtain ⟨x5,H5,I5,r5,q5⟩:=hq4
  exact thn (hs pins s5 σ H5 x1 x2 x5 ov iv new _ I5 r1 r2 r5 q5) fun _ s6 hq5=>by obtain ⟨H6,I6,q6⟩:=hq5;exact ⟨σ,H6,I6,q6⟩
def ipI (f:Int→Int→Int):TIp:=fun x y H Q=>∃ i j,x=.int i∧y=.int j∧Q (.int (f i j)) H
theorem qm9:PIp X .Add (ipI fun i j=>i+j):=by
  intro pins s σ H x y v u Q I r1 r2 h
  obtain ⟨i,j,e1,e2,q⟩:=h
  subst e1;subst e2
  obtain ⟨t,rfl⟩:=r1
  obtain ⟨t',rfl⟩:=r2
  exact iadd_int ⟨.int _,H,I.tok _,⟨_,rfl⟩,q⟩
end
section
variable {X : Cx} {pos : Pos}
def qoh (c:TT) (tb:TS):TS:=fun D σ H=>∃ W:Nat→St→Hp→Prop,(∃ m,W m σ H)∧∀ m σ H,W m σ H →
  c σ H fun b H1=>if b=true then ∃ N:St→Hp→Prop,(∀ σ' H',N σ' H'→∃ m',m'<m∧W m' σ' H')∧tb { D with nx:=N,ct:=N,bk:=D.nx } σ H1 else D.nx σ H1
theorem qkU {c:Expr} {body:List Stmt} {tc:TT} {tb:TS} (hp:PassesOwn (model X.prog X.w) X.A X.env X.xe) (hc:PT X c tc) (hb:PSs X body tb):PS X (.While c body [] pos) (qoh tc tb):=by
  intro pins s σ H D I h
  obtain ⟨W,⟨m0,w0⟩,turn⟩:=h
  refine wpAny_While (codeAny_whileLoop (fun n s'=>∃ σ' H',Inv X pins σ' H' s'∧W n σ' H') ?_ m0 ⟨σ,H,I,w0⟩)
  rintro n s1 ⟨σ1,H1,I1,w1⟩
  refine wpAny_passesOwn hp (thn (hc pins s1 σ1 H1 _ I1 (turn n σ1 H1 w1)) fun b s2 hq0=>?_)
  obtain ⟨H2,I2,q2⟩:=hq0
  cases b with
  | true =>
    obtain ⟨N,hN,q2⟩:=q2
    rw [if_pos rfl]
    refine wpAny_passesOwn hp (thn (hb pins s2 σ1 H2 _ I2 q2) fun f s3 q3=>?_)
    cases f with
    | next =>
      obtain ⟨σ3,H3,I3,n3⟩:=q3
      obtain ⟨m',hm,w3⟩:=hN σ3 H3 n3
      exact ⟨m',hm,σ3,H3,I3,w3⟩
    | cont =>
      obtain ⟨σ3,H3,I3,n3⟩:=q3
      obtain ⟨m',hm,w3⟩:=hN σ3 H3 n3
      exact ⟨m',hm,σ3,H3,I3,w3⟩
    | brk=>exact q3
    | ret v=>exact q3
  | false =>
    rw [if_neg Bool.false_ne_true]
    exact wpAny_execs_nil ⟨σ1,H2,I2,q2⟩
end
structure It where
  go:Nat→Hp→Prop
  yld:Nat→Hp→V→Hp→Prop
  stop:Nat→Hp→Prop
def qgk (X:Cx) (pins:List (Addr × Obj)) (H:Hp) (b:Addr):Prop :=
  H b=none∧b≠X.env.locals∧b∉X.fs∧(b∈X.ex∨X.s₀.heap.objs.size≤b)∧(∀ x c,X.env.cells.lookup x=some c→c≠b)∧∀ p∈X.pn++pins,p.1≠b
theorem Inv.fpOk {X:Cx} {pins:List (Addr × Obj)} {σ:St} {H H':Hp} {s:Shared} {b:Addr} (I:Inv X pins σ H s) (hb:s.heap.objs.size≤b) (hn:H' b=none):qgk X pins H' b:=by
  refine ⟨hn,Nat.ne_of_gt (Nat.lt_of_lt_of_le I.lt hb),I.nofs hb,.inr (Nat.le_trans I.sz hb),fun x c e z=>?_,fun p hp z=>?_⟩
  · obtain ⟨v,q⟩:=I.cell x c e
    exact absurd (Nat.lt_of_lt_of_le q.lt (by rw [z];exact hb)) (Nat.lt_irrefl _)
  · exact absurd (Nat.lt_of_lt_of_le (Heap.lt_size (I.pin p hp).1) (by rw [z];exact hb)) (Nat.lt_irrefl _)
structure Turn (P:Program) (w:World) (K:PySem.W.Frag) (tg:Expr) (J:It) (fp:List Addr) (it:Addr) (tn:Nat→Heap→Prop):Prop where
  mem:it∈fp
  obj:∀ i h,tn i h→∀ b∈fp,∃ o,h.get? b=some o∧∀ v,o.data≠.cell v
  keep:∀ i h h',tn i h→(∀ b∈fp,∀ o,h.get? b=some o→h'.get? b=some o)→tn i h'
  item:∀ (X:Cx),X.prog=P→X.w=w→X.K=K→X.calm=true→∀ (i:Nat) (pins:List (Addr × Obj)) (s:Shared) (σ:St) (H:Hp) (E:Value→Shared→Prop),Inv X pins σ H s→(∀ b∈fp,qgk X pins H b)→tn i s.heap→J.go i H →
    wpAny (model P w) X.A (pyNext (.ref it)) (fun r s1=>∃ u,r=some u ∧
      wpAny (model P w) X.A (letOwnedTupleGo tg (.ref it) u) (fun _ s2=>∃ x H',Inv X pins σ H' s2∧RelV x u∧J.yld i H x H'∧tn (i+1) s2.heap∧∀ b∈fp,H' b=none) E s1) E s
  done:∀ (X:Cx),X.prog=P→X.w=w→X.K=K→X.calm=true→∀ (i:Nat) (pins:List (Addr × Obj)) (s:Shared) (σ:St) (H:Hp) (E:Value→Shared→Prop),Inv X pins σ H s→(∀ b∈fp,qgk X pins H b)→tn i s.heap→J.stop i H →
    wpAny (model P w) X.A (pyNext (.ref it)) (fun r s1=>r=none∧Inv X pins σ H s1) E s
  self:∀ (A:Around) (i:Nat) (s:Shared) (Q:Value→Shared→Prop) (E:Value→Shared→Prop),tn i s.heap→Q (.ref it) s→wpAny (model P w) A (pyIter (.ref it)) Q E s
abbrev TI:=St→Hp→(It→Hp→Prop)→Prop
def PIE (X:Cx) (pins:List (Addr × Obj)) (σ:St) (tg:Expr) (R:It→Hp→Prop) (itv:Value) (s2:Shared):Prop :=
  ∃ (it:Addr) (fp:List Addr) (tn:Nat→Heap→Prop) (J:It) (H':Hp),itv=.ref it∧Inv X pins σ H' s2∧Turn X.prog X.w X.K tg J fp it tn∧tn 0 s2.heap∧(∀ b∈fp,qgk X pins H' b)∧R J H'
def PI (X:Cx) (tg iter:Expr) (wi:TI):Prop :=
  ∀ (pins:List (Addr × Obj)) (s:Shared) (σ:St) (H:Hp) (R:It→Hp→Prop),Inv X pins σ H s→wi σ H R →
    wpAny (model X.prog X.w) X.A (eval iter X.env) (fun v s1=>wpAny (model X.prog X.w) X.A (pyIter v) (PIE X pins σ tg R) X.xe s1) X.xe s
theorem qmw {M:Model} {A:Around} {E:Value→Shared→Prop} {s:Shared} {tg:Expr} {it:Addr} {u:Value} {o:Obj} {n:String} {vs:Array Value} {Q:Unit→Shared→Prop} (ho:s.heap.get? it=some o) (hc:o.cls=.type n) (hd:o.data=.fields vs)
    (hn:["enumerate","zip","dict_itemiterator","dict_reverseitemiterator","odict_iterator","itertools.zip_longest","itertools.pairwise"].contains n=false) (hQ:Q () s):wpAny M A (letOwnedTupleGo tg (.ref it) u) Q E s:=by
  unfold letOwnedTupleGo
  cases tg <;> first
    | exact wpAny_pure hQ
    | (cases u <;> first
        | exact wpAny_pure hQ
        | (refine wpAny_bind (wpAny_load ho ?_)
           rw [hc,hd]
           show wpAny M A (if (["enumerate","zip","dict_itemiterator","dict_reverseitemiterator","odict_iterator","itertools.zip_longest","itertools.pairwise"].contains n && vs[0]? == some (rawInt _))=true then _ else _) Q E s
           rw [if_neg (by intro h;rw [hn,Bool.false_and] at h;cases h)]
           exact wpAny_pure hQ))
def Itl (K:PySem.W.Frag) (a:Addr):It :=
  ⟨fun i H=>∃ xs x,SqL K H a xs∧xs[i]?=some x,fun i H x H'=>H'=H∧∀ xs,SqL K H a xs→xs[i]?=some x,fun i H=>∃ xs,SqL K H a xs∧xs.length≤i⟩
def Itt (K:PySem.W.Frag) (a:Addr):It :=
  ⟨fun i H=>∃ xs x,SqT K H a xs∧xs[i]?=some x,fun i H x H'=>H'=H∧∀ xs,SqT K H a xs→xs[i]?=some x,fun i H=>∃ xs,SqT K H a xs∧xs.length≤i⟩
def Itr (lo:Int) (n:Nat):It:=⟨fun i _=>i<n,fun i H x H'=>H'=H∧x=.int (lo+i),fun i _=>n≤i⟩
theorem qiH {P:Program} {w:World} {K:PySem.W.Frag} {tg:Expr} (a it:Addr):Turn P w K tg (Itl K a) [it] it (fun i h=>h.IsListIter it a i) where
  mem:=by simp
  obj:=fun i h st b hb=>by
    have e:b=it:=by simpa using hb
    subst e
    obtain ⟨o,e,c,d⟩:=st
    exact ⟨o,e,fun v z=>by rw [d] at z;cases z⟩
  keep:=fun i h h' st k=>st.at fun o e=>k it (by simp) o e
  item:=by
    intro X hP hw hK hc i pins s σ H E I hf st hg
    subst hP hw hK
    obtain ⟨xs,x,hq,hx⟩:=hg
    obtain ⟨its,rv,p,hz⟩:=I.list hq
    obtain ⟨u,hu,ru⟩:=rv.get hx
    obtain ⟨f0,f1,f2,f3,f4,f5⟩:=hf it (by simp)
    refine wpAny_pyNext_list_item st p.isList (x:=u) (by simpa using hu) fun h' st' sb=>?_
    have I1:Inv X pins σ H { s with heap:=h' }:=I.turned (t':=s.toks) (fun b o hb e=>(sb.2 b hb).trans e) f0 f1 f3 f4 f5
    obtain ⟨o,e,c,d⟩:=id st'
    exact ⟨u,rfl,qmw (s:={ s with heap:=h' }) e c d (by decide) ⟨x,H,I1,ru,⟨rfl,fun ys hy=>by rw [I.list_inj hy hq];exact hx⟩,st',fun b hb=>(hf b hb).1⟩⟩
  done:=by
    intro X hP hw hK hc i pins s σ H E I hf st hg
    subst hP hw hK
    obtain ⟨xs,hq,hx⟩:=hg
    obtain ⟨its,rv,p,hz⟩:=I.list hq
    obtain ⟨f0,f1,f2,f3,f4,f5⟩:=hf it (by simp)
    have hl:=rv.length
    exact wpAny_pyNext_list_end (I.ok.hd hc) st p.isList (by simp;omega) fun h' eb=>⟨rfl,I.turned (t':=s.toks) (fun b o hb e=>eb b o hb e) f0 f1 f3 f4 f5⟩
  self:=fun _ _ _ _ _ st h=>wpAny_pyIter_listiter st h
theorem qio {P:Program} {w:World} {K:PySem.W.Frag} {tg:Expr} (a it:Addr):Turn P w K tg (Itt K a) [it] it (fun i h=>h.IsTupleIter it a i) where
  mem:=by simp
  obj:=fun i h st b hb=>by
    have e:b=it:=by simpa using hb
    subst e
    obtain ⟨o,e,c,d⟩:=st
    exact ⟨o,e,fun v z=>by rw [d] at z;cases z⟩
  keep:=fun i h h' st k=>st.at fun o e=>k it (by simp) o e
  item:=by
    intro X hP hw hK hc i pins s σ H E I hf st hg
    subst hP hw hK
    obtain ⟨xs,x,hq,hx⟩:=hg
    obtain ⟨its,rv,p,hz⟩:=I.tuple hq
    obtain ⟨u,hu,ru⟩:=rv.get hx
    obtain ⟨f0,f1,f2,f3,f4,f5⟩:=hf it (by simp)
    refine wpAny_pyNext_tuple_item st (show s.heap.IsTuple a its.toArray from p) (x:=u) (by simpa using hu) fun h' st' sb=>?_
    have I1:Inv X pins σ H { s with heap:=h' }:=I.turned (t':=s.toks) (fun b o hb e=>(sb.2 b hb).trans e) f0 f1 f3 f4 f5
    obtain ⟨o,e,c,d⟩:=id st'
    exact ⟨u,rfl,qmw (s:={ s with heap:=h' }) e c d (by decide) ⟨x,H,I1,ru,⟨rfl,fun ys hy=>by rw [I.tuple_inj hy hq];exact hx⟩,st',fun b hb=>(hf b hb).1⟩⟩
  done:=by
    intro X hP hw hK hc i pins s σ H E I hf st hg
    subst hP hw hK
    obtain ⟨xs,hq,hx⟩:=hg
    obtain ⟨its,rv,p,hz⟩:=I.tuple hq
    obtain ⟨f0,f1,f2,f3,f4,f5⟩:=hf it (by simp)
    have hl:=rv.length
    exact wpAny_pyNext_tuple_end (I.ok.hd hc) st (show s.heap.IsTuple a its.toArray from p) (by simp;omega) fun h' eb=>⟨rfl,I.turned (t':=s.toks) (fun b o hb e=>eb b o hb e) f0 f1 f3 f4 f5⟩
  self:=fun _ _ _ _ _ st h=>wpAny_pyIter_tupleiter st h
theorem qih {P:Program} {w:World} {K:PySem.W.Frag} {tg:Expr} (it:Addr) (lo:Int) (n:Nat):Turn P w K tg (Itr lo n) [it] it (fun i h=>IsRangeIter h it (lo+(i:Nat)*1) ((n:Int) - (i:Nat)) 1) where
  mem:=by simp
  obj:=fun i h st b hb=>by
    have e:b=it:=by simpa using hb
    subst e
    exact ⟨_,st,fun v z=>by
      have z':Data.fields _=Data.cell v:=z
      cases z'⟩
  keep:=fun i h h' st k=>k it (by simp) _ st
  item:=by
    intro X hP hw hK hc i pins s σ H E I hf st hg
    subst hP hw hK
    obtain ⟨f0,f1,f2,f3,f4,f5⟩:=hf it (by simp)
    have W:=Walks.range (prog:=X.prog) (w:=X.w) (I.ok.hd hc) it lo 1 n
    refine W.item i s _ _ hg st fun v h' tk hv st' kk=>?_
    obtain ⟨t,rfl⟩:=hv
    have I1:Inv X pins σ H { s with heap:=h',toks:=tk }:=I.turned (fun b o hb e=>kk b o (by simpa using hb) e) f0 f1 f3 f4 f5
    refine ⟨_,rfl,qmw (s:={ s with heap:=h',toks:=tk }) (n:="range_iterator") st' rfl rfl (by decide) ⟨.int (lo+i),H,I1,⟨t,?_⟩,⟨rfl,rfl⟩,st',fun b hb=>(hf b hb).1⟩⟩
    rw [Int.mul_one]
  done:=by
    intro X hP hw hK hc i pins s σ H E I hf st hg
    subst hP hw hK
    obtain ⟨f0,f1,f2,f3,f4,f5⟩:=hf it (by simp)
    exact wpAny_pyNext_range_end (I.ok.hd hc) st (by have:n≤i:=hg;omega) fun h' eb=>⟨rfl,I.turned (t':=s.toks) (fun b o hb e=>eb b o hb e) f0 f1 f3 f4 f5⟩
  self:=fun _ _ _ _ _ st h=>wpAny_pyIter_rangeiter st h
section
variable {X : Cx} {tg : Expr}
theorem qkh {pins:List (Addr × Obj)} {σ:St} {H:Hp} {s:Shared} {R:It→Hp→Prop} {E:Value→Shared→Prop} {lo hi:Int} {t u v:Tok} {tk:Nat} (I:Inv X pins σ H s) (h1:-(2 ^ 62)≤lo) (h2:lo<2 ^ 62) (h3:-(2 ^ 62)≤hi) (h4:hi<2 ^ 62)
    (q:R (Itr lo (hi - lo).toNat) H):wpAny (model X.prog X.w) X.A (pyIter (.ref s.heap.objs.size)) (PIE X pins σ tg R) E { s with heap:=s.heap.push { cls:=.type "range",data:=.fields #[.int lo t,.int hi u,.int 1 v] },toks:=tk }:=by
  refine wpAny_pyIter_range (IsRange.new ..) (small_one h1 h2 h3 h4) ?_
  have I1:Inv X pins σ H { s with heap:=s.heap.push { cls:=.type "range",data:=.fields #[.int lo t,.int hi u,.int 1 v] },toks:=tk }:=I.kept fun b o e=>Heap.get?_push_of_some _ e
  refine ⟨(s.heap.push { cls:=.type "range",data:=.fields #[.int lo t,.int hi u,.int 1 v] }).objs.size,[(s.heap.push { cls:=.type "range",data:=.fields #[.int lo t,.int hi u,.int 1 v] }).objs.size],_,_,H,rfl,
    I1.kept (t':=tk) fun b o e=>Heap.get?_push_of_some _ e,qih _ lo (hi - lo).toNat,?_,fun b hb=>?_,q⟩
  · have e1:lo+((0:Nat):Int)*1=lo:=by simp
    have e2:(((hi - lo).toNat:Nat):Int) - ((0:Nat):Int)=Builtin.Range.rangeSize lo hi 1:=by rw [rangeSize_one];split <;> omega
    show IsRangeIter _ _ (lo+((0:Nat):Int)*1) ((((hi - lo).toNat:Nat):Int) - ((0:Nat):Int)) 1
    rw [e1,e2]
    exact Heap.get?_push_size _ rfl
  · have e:b=(s.heap.push { cls:=.type "range",data:=.fields #[.int lo t,.int hi u,.int 1 v] }).objs.size:=by simpa using hb
    subst e
    exact I1.fpOk (Nat.le_refl _) (I1.hok.fresh (Nat.le_refl _))
def qo7 (ta:TA):TI:=fun σ H R=>ta σ H fun vs H1=>∃ j:Int,vs=[.int j]∧-(2 ^ 62)≤j∧j<2 ^ 62∧R (Itr 0 j.toNat) H1
theorem qgy {a:Expr} {ta:TA} {p pos:Pos} (hg:Gl X "range") (hm:X.mg "range"=none) (ha:PA X [a] ta) (hs:starEach [a] X.env=[(false,eval a X.env)]:=by rfl):PI X tg (.Call (.Name "range" p) [a] [] pos) (qo7 ta):=by
  intro pins s σ H R I h
  refine Call_ (qe3 I hg hm boot_range (PyProof.Rows.callWith_type1 (thn (ha pos pins s σ H _ I h) fun us s1 hq0=>?_) hs rfl))
  obtain ⟨vs,H1,I1,r1,q1⟩:=hq0
  obtain ⟨j,e,q1,q2,q⟩:=q1
  subst e
  cases r1 with
  | cons r rr =>
    cases rr
    obtain ⟨t,rfl⟩:=r
    exact call_range_1 (qkh I1 (by omega) (by omega) q1 q2 (by simpa using q))
def qqS (wi:TI) (g:TG) (tb:TS):TS:=fun D σ H=>wi σ H fun J H1=>∃ W:Nat→Nat→St→Hp→Prop,(∃ m,W 0 m σ H1)∧∀ i m σ H,W i m σ H →
  (J.stop i H∧D.nx σ H)∨(J.go i H∧∃ N:St→Hp→Prop,(∀ σ' H',N σ' H'→∃ m',m'<m∧W (i+1) m' σ' H')∧∀ x H',J.yld i H x H'→g x σ H' fun σ2 H2=>tb { D with nx:=N,ct:=N,bk:=D.nx } σ2 H2)
def qgN (fp:List Addr) (h:Heap):List (Addr × Obj):=fp.filterMap fun b=>(h.get? b).map fun o=>(b,o)
theorem qcO {fp:List Addr} {h:Heap} {b:Addr} {o:Obj} (hb:b∈fp) (e:h.get? b=some o):(b,o)∈qgN fp h:=List.mem_filterMap.mpr ⟨b,hb,by rw [e];rfl⟩
theorem qiZ {fp:List Addr} {h:Heap} {p:Addr × Obj} (hp:p∈qgN fp h):p.1∈fp∧h.get? p.1=some p.2:=by
  obtain ⟨b,hb,e⟩:=List.mem_filterMap.mp hp
  cases q:h.get? b with
  | none=>rw [q] at e;cases e
  | some o =>
    rw [q] at e
    have e':(b,o)=p:=Option.some.inj e
    subst e'
    exact ⟨hb,q⟩
theorem Inv.pinned {pins:List (Addr × Obj)} {σ:St} {H:Hp} {s:Shared} {fp:List Addr} (I:Inv X pins σ H s) (hf:∀ b∈fp,qgk X pins H b) (ho:∀ b∈fp,∃ o,s.heap.get? b=some o∧∀ v,o.data≠.cell v):Inv X (pins++qgN fp s.heap) σ H s :=
  I.pins_of fun p hp=>(List.mem_append.mp hp).elim (fun z=>I.pin p (List.mem_append_right _ z)) fun z=>by
    obtain ⟨hb,e⟩:=qiZ z
    obtain ⟨f0,f1,f2,_⟩:=hf p.1 hb
    obtain ⟨o,e',d⟩:=ho p.1 hb
    rw [e] at e';cases e'
    exact ⟨e,f0,f1,f2,d⟩
theorem Inv.unpinned {pins pl:List (Addr × Obj)} {σ:St} {H:Hp} {s:Shared} (I:Inv X (pins++pl) σ H s):Inv X pins σ H s:=I.pins_of fun p hp=>I.pin p (List.mem_append_right _ (List.mem_append_left _ hp))
theorem qlz {iter:Expr} {body:List Stmt} {wi:TI} {g:TG} {tb:TS} {pos:Pos} (hp:PassesOwn (model X.prog X.w) X.A X.env X.xe) (hc:X.calm=true) (hi:PI X tg iter wi) (hg:PG X tg g) (hb:PSs X body tb)
    (hs:∀ x,foldedSetIterable iter X.env x=pure x:=by intro _;rfl):PS X (.For tg iter body [] pos) (qqS wi g tb):=by
  intro pins s σ H D I h
  refine wpAny_For (thn (hi pins s σ H _ I h) fun v s1 h1=>thn h1 fun itv s2 h2=>?_) hs
  obtain ⟨it,fp,tn,J,H2,e,I2,T,st2,f2,W,⟨m0,w0⟩,turn⟩:=h2
  subst e
  have stat:∀ {H':Hp},(∀ b∈fp,H' b=none)→∀ b∈fp,qgk X pins H' b:=fun hn b hb=>⟨hn b hb,(f2 b hb).2⟩
  refine codeAny_forLoop_any (fun n s'=>∃ i σ' H',Inv X pins σ' H' s'∧tn i s'.heap∧(∀ b∈fp,H' b=none)∧W i n σ' H') ?_ m0 ⟨0,σ,H2,I2,st2,fun b hb=>(f2 b hb).1,w0⟩
  rintro n s3 ⟨i,σ3,H3,I3,st3,fr3,w3⟩
  rcases turn i n σ3 H3 w3 with ⟨stop,qn⟩ | ⟨go,N,hN,step⟩
  · refine wpAny_passesOwn hp (thn (T.done X rfl rfl rfl hc i pins s3 σ3 H3 X.xe I3 (stat fr3) st3 stop) fun r s4 hq0=>?_)
    obtain ⟨hr,I4⟩:=hq0
    subst hr
    exact wpAny_execs_nil ⟨σ3,H3,I4,qn⟩
  · refine wpAny_passesOwn hp (thn (T.item X rfl rfl rfl hc i pins s3 σ3 H3 X.xe I3 (stat fr3) st3 go) fun r s4 hq1=>?_)
    obtain ⟨u,hr,h4⟩:=hq1
    subst hr
    refine wpAny_passesOwn hp (thn h4 fun _ s5 hq2=>?_)
    obtain ⟨x,H5,I5,r5,y5,st5,fr5⟩:=hq2
    have I5':=I5.pinned (stat fr5) (T.obj _ _ st5)
    refine wpAny_passesOwn hp (thn (hg _ s5 σ3 H5 x u _ I5' r5 (step x H5 y5)) fun _ s6 hq3=>?_)
    obtain ⟨σ6,H6,I6,q6⟩:=hq3
    refine wpAny_passesOwn hp (thn (hb _ s6 σ6 H6 _ I6 q6) fun f s7 q7=>?_)
    have again:∀ {σ7:St} {H7:Hp},Inv X (pins++qgN fp s5.heap) σ7 H7 s7→N σ7 H7→∃ m,m<n∧∃ i σ' H',Inv X pins σ' H' s7∧tn i s7.heap∧(∀ b∈fp,H' b=none)∧W i m σ' H':=fun {σ7 H7} I7 n7=>by
      obtain ⟨m',hm,w7⟩:=hN σ7 H7 n7
      refine ⟨m',hm,i+1,σ7,H7,I7.unpinned,T.keep _ _ _ st5 fun b hb o e=>(I7.pin (b,o) (List.mem_append_right _ (List.mem_append_right _ (qcO hb e)))).1,fun b hb=>?_,w7⟩
      obtain ⟨o,e,d⟩:=T.obj _ _ st5 b hb
      exact (I7.pin (b,o) (List.mem_append_right _ (List.mem_append_right _ (qcO hb e)))).2.1
    cases f with
    | next=>obtain ⟨σ7,H7,I7,n7⟩:=q7;exact again I7 n7
    | cont=>obtain ⟨σ7,H7,I7,n7⟩:=q7;exact again I7 n7
    | brk=>obtain ⟨σ7,H7,I7,q7⟩:=q7;exact ⟨σ7,H7,I7.unpinned,q7⟩
    | ret v=>obtain ⟨x7,σ7,H7,I7,r7,q7⟩:=q7;exact ⟨x7,σ7,H7,I7.unpinned,r7,q7⟩
end
abbrev R2:=V→V→Hp→VK→Prop
def OpR (X:Cx) (f:Value→Value→Sem Value) (r:R2):Prop :=
  ∀ (pins:List (Addr × Obj)) (s:Shared) (σ:St) (H:Hp) (x y:V) (v u:Value) (Q:VK),Inv X pins σ H s→RelV x v→RelV y u→r x y H Q →
    wpAny (model X.prog X.w) X.A (f v u) (EP X pins σ Q) X.xe s
def UnR (X:Cx) (f:Value→Sem Value) (r:V→Hp→VK→Prop):Prop :=
  ∀ (pins:List (Addr × Obj)) (s:Shared) (σ:St) (H:Hp) (x:V) (v:Value) (Q:VK),Inv X pins σ H s→RelV x v→r x H Q →
    wpAny (model X.prog X.w) X.A (f v) (EP X pins σ Q) X.xe s
def qep (X:Cx) (f:Value) (r:List V→Hp→VK→Prop):Prop :=
  ∀ (pins:List (Addr × Obj)) (s:Shared) (σ:St) (H:Hp) (xs:List V) (us:List Value) (Q:VK),Inv X pins σ H s→Vals xs us→r xs H Q →
    wpAny (model X.prog X.w) X.A (call f us) (EP X pins σ Q) X.xe s
def qrB (X:Cx) (r:V→Hp→(Bool→Hp→Prop)→Prop):Prop :=
  ∀ (pins:List (Addr × Obj)) (s:Shared) (σ:St) (H:Hp) (x:V) (v:Value) (Q:Bool→Hp→Prop),Inv X pins σ H s→RelV x v→r x H Q →
    wpAny (model X.prog X.w) X.A (truthy v) (TP X pins σ Q) X.xe s
def tOp (r:R2) (ta tb:TE):TE:=fun σ H Q=>ta σ H fun x H1=>tb σ H1 fun y H2=>r x y H2 Q
def tUn (r:V→Hp→VK→Prop) (ta:TE):TE:=fun σ H Q=>ta σ H fun x H1=>r x H1 Q
def rI (C:Int→Int→Prop) (g:Int→Int→V):R2:=fun x y H Q=>∃ i j,x=.int i∧y=.int j∧C i j∧Q (g i j) H
def rI0 (g:Int→Int→V):R2:=fun x y H Q=>∃ i j,x=.int i∧y=.int j∧Q (g i j) H
def rU (g:Int→V):V→Hp→VK→Prop:=fun x H Q=>∃ i,x=.int i∧Q (g i) H
section
variable {X : Cx} {a b c : Expr} {ta tb tc : TE} {pos : Pos}
theorem qpA (ha:PE X a ta) (hb:PE X b tb) {pins:List (Addr × Obj)} {s:Shared} {σ:St} {H:Hp} {R:V→V→Hp→Prop} (I:Inv X pins σ H s)
    (h:ta σ H fun x H1=>tb σ H1 fun y H2=>R x y H2) {Q:Value→Shared→Prop} {f:Value→Value→Sem Value}
    (hf:∀ v u s2 x y H2,Inv X pins σ H2 s2→RelV x v→RelV y u→R x y H2→wpAny (model X.prog X.w) X.A (f v u) Q X.xe s2) :
    wpAny (model X.prog X.w) X.A (eval a X.env) (fun v s₁=>wpAny (model X.prog X.w) X.A (eval b X.env) (fun u s₂=>wpAny (model X.prog X.w) X.A (f v u) Q X.xe s₂) X.xe s₁) X.xe s:=by
  refine thn (ha pins s σ H _ I h) fun v s1 hq0=>?_
  obtain ⟨x,H1,I1,r1,q1⟩:=hq0
  refine thn (hb pins s1 σ H1 _ I1 q1) fun u s2 hq1=>?_
  obtain ⟨y,H2,I2,r2,q2⟩:=hq1
  exact hf v u s2 x y H2 I2 r1 r2 q2
theorem qoJ {op:Operator} {r:R2} (ho:OpR X (binaryOp op) r) (ha:PE X a ta) (hb:PE X b tb):PE X (.BinOp a op b pos) (tOp r ta tb):=by
  intro pins s σ H Q I h
  exact wpAny_BinOp (qpA ha hb I h fun v u s2 x y H2 I2 rx ry q=>ho pins s2 σ H2 x y v u Q I2 rx ry q)
theorem qpg {op:UnaryOp} {r:V→Hp→VK→Prop} (ho:UnR X (unaryOp op) r) (ha:PE X a ta):PE X (.UnaryOp op a pos) (tUn r ta):=by
  intro pins s σ H Q I h
  exact UnaryOp_ (thn (ha pins s σ H _ I h) fun v s1 hq0=>by obtain ⟨x,H1,I1,r1,q1⟩:=hq0;exact ho pins s1 σ H1 x v Q I1 r1 q1)
theorem opI {f:Value→Value→Sem Value} {C:Int→Int→Prop} {g:Int→Int→Int}
    (rule:∀ (i j:Int) (t u:Tok) (s:Shared) (Q:Value→Shared→Prop) (E:Value→Shared→Prop),C i j→Q (.int (g i j) s.toks) { s with toks:=s.toks+1 }→wpAny (model X.prog X.w) X.A (f (.int i t) (.int j u)) Q E s) :
    OpR X f (rI C fun i j=>.int (g i j)):=by
  intro pins s σ H x y v u Q I rx ry h
  obtain ⟨i,j,rfl,rfl,hc,q⟩:=h
  obtain ⟨t,rfl⟩:=rx
  obtain ⟨t',rfl⟩:=ry
  exact rule i j t t' s _ _ hc ⟨.int (g i j),H,I.tok _,⟨_,rfl⟩,q⟩
theorem qqb {f:Value→Value→Sem Value} {g:Int→Int→Int}
    (rule:∀ (i j:Int) (t u:Tok) (s:Shared) (Q:Value→Shared→Prop) (E:Value→Shared→Prop),Q (.int (g i j) s.toks) { s with toks:=s.toks+1 }→wpAny (model X.prog X.w) X.A (f (.int i t) (.int j u)) Q E s) :
    OpR X f (rI0 fun i j=>.int (g i j)):=by
  intro pins s σ H x y v u Q I rx ry h
  obtain ⟨i,j,rfl,rfl,q⟩:=h
  obtain ⟨t,rfl⟩:=rx
  obtain ⟨t',rfl⟩:=ry
  exact rule i j t t' s _ _ ⟨.int (g i j),H,I.tok _,⟨_,rfl⟩,q⟩
theorem qph {f:Value→Value→Sem Value} {g:Int→Int→Bool}
    (rule:∀ (i j:Int) (t u:Tok) (s:Shared) (Q:Value→Shared→Prop) (E:Value→Shared→Prop),Q (.bool (g i j)) s→wpAny (model X.prog X.w) X.A (f (.int i t) (.int j u)) Q E s) :
    OpR X f (rI0 fun i j=>.bl (g i j)):=by
  intro pins s σ H x y v u Q I rx ry h
  obtain ⟨i,j,rfl,rfl,q⟩:=h
  obtain ⟨t,rfl⟩:=rx
  obtain ⟨t',rfl⟩:=ry
  exact rule i j t t' s _ _ ⟨.bl (g i j),H,I,rfl,q⟩
def qqo (i j:Int):Prop:=0≤j∧j≤1000000∧i.natAbs<2 ^ 64
theorem qoy:OpR X (binaryOp .Add) (rI0 fun i j=>.int (i+j)):=qqb fun _ _ _ _ _ _ _ q=>add_int q
theorem qol:OpR X (binaryOp .Sub) (rI0 fun i j=>.int (i - j)):=qqb fun _ _ _ _ _ _ _ q=>sub_int q
theorem qnb:OpR X (binaryOp .Mod) (rI (fun _ j=>0<j) fun i j=>.int (i % j)):=opI fun i j _ _ _ _ _ hc q=>by
  have h1:(0:Int)<j:=hc
  exact mod_int' (by omega) (by rw [Int.fmod_eq_emod_of_nonneg i (by omega)];exact q)
theorem qod:OpR X (binaryOp .Pow) (rI qqo fun i j=>.int (i ^ j.toNat)):=opI fun _ _ _ _ _ _ _ hc q=>pow_int_small hc.1 hc.2.1 hc.2.2 q
theorem unI {f:Value→Sem Value} {g:Int→Int}
    (rule:∀ (i:Int) (t:Tok) (s:Shared) (Q:Value→Shared→Prop) (E:Value→Shared→Prop),Q (.int (g i) s.toks) { s with toks:=s.toks+1 }→wpAny (model X.prog X.w) X.A (f (.int i t)) Q E s) :
    UnR X f (rU fun i=>.int (g i)):=by
  intro pins s σ H x v Q I rx h
  obtain ⟨i,rfl,q⟩:=h
  obtain ⟨t,rfl⟩:=rx
  exact rule i t s _ _ ⟨.int (g i),H,I.tok _,⟨_,rfl⟩,q⟩
theorem qnq:UnR X (unaryOp .USub) (rU fun i=>.int (-i)):=unI fun _ _ _ _ _ q=>neg_int q
end
section
variable {X : Cx} {a b c : Expr} {ta tb tc : TE} {pos : Pos}
theorem qhO {pins:List (Addr × Obj)} {σ:St} {H:Hp} {s:Shared} {Q:VK} {k k':Bool} (I:Inv X pins σ H s) (q:Q (.bl k) H) (e:k=k'):EP X pins σ Q (.bool k') s:=by
  subst e
  exact ⟨.bl k,H,I,rfl,q⟩
theorem qpQ:OpR X (compareOp .Lt) (rI0 fun i j=>.bl (decide (i<j))):=qph fun _ _ _ _ _ _ _ q=>lt_int q
theorem qp1:OpR X (compareOp .Gt) (rI0 fun i j=>.bl (decide (j<i))):=qph fun _ _ _ _ _ _ _ q=>gt_int q
theorem qpS:OpR X (compareOp .GtE) (rI0 fun i j=>.bl (decide (j≤i))):=qph fun _ _ _ _ _ _ _ q=>ge_int q
theorem qoO:OpR X (compareOp .Is) (fun x y H Q=>y=.non∧Q (.bl (decide (x=.non))) H):=by
  intro pins s σ H x y v u Q I rx ry h
  obtain ⟨rfl,q⟩:=h
  cases ry
  refine is_none_gen (qhO I q ?_)
  cases x <;> first
    | (cases rx;rfl)
    | (obtain ⟨t,rfl⟩:=rx;rfl)
theorem qmQ:OpR X (compareOp .IsNot) (fun x y H Q=>y=.non∧Q (.bl (!decide (x=.non))) H):=by
  intro pins s σ H x y v u Q I rx ry h
  obtain ⟨rfl,q⟩:=h
  cases ry
  refine isnot_none_gen (qhO I q ?_)
  cases x <;> first
    | (cases rx;rfl)
    | (obtain ⟨t,rfl⟩:=rx;rfl)
theorem qaz (b:Expr) {op:CmpOp} (h:op≠.In:=by decide) (h2:op≠.NotIn:=by decide):behindInMarks op b=false:=by
  have e1:(op == CmpOp.In)=false:=by cases op <;> first | rfl | exact absurd rfl h
  have e2:(op == CmpOp.NotIn)=false:=by cases op <;> first | rfl | exact absurd rfl h2
  cases b <;> simp [behindInMarks,e1,e2]
theorem qmO {op:CmpOp} {r:R2} (ho:OpR X (compareOp op) r) (ha:PE X a ta) (hb:PE X b tb) (hm:behindInMarks op b=false):PE X (.Compare a [op] [b] pos) (tOp r ta tb):=by
  intro pins s σ H Q I h
  exact wpAny_Compare1 (qpA ha hb I h fun v u s2 x y H2 I2 rx ry q=>ho pins s2 σ H2 x y v u Q I2 rx ry q) hm
def ql2 (t:TE):TT:=fun σ H Q=>t σ H fun x H'=>∃ k,x=.bl k∧Q k H'
theorem qiE {op:CmpOp} {r:R2} (ho:OpR X (compareOp op) r) (ha:PE X a ta) (hb:PE X b tb) (hm:behindInMarks op b=false):PT X (.Compare a [op] [b] pos) (ql2 (tOp r ta tb)):=by
  intro pins s σ H Q I h
  refine wpAny_isTrue_Compare1 (thn (ha pins s σ H _ I h) fun v s1 ⟨x,H1,I1,r1,q1⟩=>thn (hb pins s1 σ H1 _ I1 q1) fun u s2 ⟨y,H2,I2,r2,q2⟩ =>
    thn (ho pins s2 σ H2 x y v u _ I2 r1 r2 q2) fun c s3 ⟨z,H3,I3,r3,k,e,q3⟩=>?_) hm
  subst e
  cases r3
  exact wpAny_truthy_bool ⟨H3,I3,q3⟩
def qpG (K:PySem.W.Frag) (x:V) (H:Hp) (k:Bool):Prop :=
  match x with
  | .non=>k=false
  | .bl b=>k=b
  | .int i=>k=(i != 0)
  | .str y=>y.length≤sizeLine∧k=((y.length:Int) != 0)
  | .byt y=>y.size≤sizeLine∧k=((y.size:Int) != 0)
  | .ref p=>(∃ xs,SqL K H p xs∧k=!xs.isEmpty)∨(∃ xs,SqT K H p xs∧k=!xs.isEmpty)∨∃ kvs,H p=some (.dK kvs)∧k=!kvs.isEmpty
  | _=>False
theorem qib {κ:Type} {kvs:List (κ × V)} {vs:List (κ × Value)} (r:KV kvs vs):(!vs.isEmpty)=!kvs.isEmpty:=by
  cases r <;> rfl
theorem qeX {xs:List V} {its:List Value} (r:Vals xs its):(!its.toArray.isEmpty)=!xs.isEmpty:=by
  cases r <;> simp
theorem qdT:(sizeLine:Nat)<2 ^ 63:=by rw [sizeLine_eq];decide
theorem qm7:qrB X (fun x H Q=>∃ k,qpG X.K x H k∧Q k H):=by
  intro pins s σ H x v Q I rx h
  obtain ⟨k,e,q⟩:=h
  have hl:=qdT
  have hs:sizeLine=16777216:=sizeLine_eq
  cases x with
  | non =>
    cases rx
    have e':k=false:=e
    subst e'
    exact truthy_none ⟨H,I,q⟩
  | bl b =>
    cases rx
    have e':k=b:=e
    subst e'
    exact wpAny_truthy_bool ⟨H,I,q⟩
  | int i =>
    obtain ⟨t,rfl⟩:=rx
    have e':k=(i != 0):=e
    subst e'
    exact PySem.P.truthy_int ⟨H,I,q⟩
  | str y =>
    obtain ⟨t,rfl⟩:=rx
    obtain ⟨hy,e'⟩:y.length≤sizeLine∧k=((y.length:Int) != 0):=e
    subst e'
    exact PySem.P.truthy_str (by omega) ⟨H,I.tok _,q⟩
  | byt y =>
    obtain ⟨t,rfl⟩:=rx
    obtain ⟨hy,e'⟩:y.size≤sizeLine∧k=((y.size:Int) != 0):=e
    subst e'
    exact PySem.W.truthy_bytes (by omega) ⟨H,I.tok _,q⟩
  | ref p =>
    cases rx
    have e':(∃ xs,SqL X.K H p xs∧k=!xs.isEmpty)∨(∃ xs,SqT X.K H p xs∧k=!xs.isEmpty)∨∃ kvs,H p=some (.dK kvs)∧k=!kvs.isEmpty:=e
    rcases e' with ⟨xs,hx,e'⟩ | ⟨xs,hx,e'⟩ | ⟨kvs,hx,e'⟩
    · subst e'
      obtain ⟨its,r,pl,hz⟩:=I.list hx
      have hlen:=r.length
      exact wpAny_truthy_list pl.isList (by simp only [List.size_toArray];omega) ⟨H,I.tok _,by rw [qeX r];exact q⟩
    · subst e'
      obtain ⟨its,r,pl,hz⟩:=I.tuple hx
      have hlen:=r.length
      exact truthy_tuple pl (by simp only [List.size_toArray];omega) ⟨H,I.tok _,by rw [qeX r];exact q⟩
    · subst e'
      obtain ⟨hz,hS,vs,r,m⟩:kvs.length≤sizeLine∧(p == sysModules)=false∧∃ vs,KV kvs vs∧s.heap.DictOf (qa9 X.prog X.w) p vs:=I.hok p _ hx
      have hlen:kvs.length=vs.length:=Paired.length r
      exact wpAny_truthy_dict hS m (by omega) ⟨H,I.tok _,by rw [qib r];exact q⟩
  | _=>exact (show False from e).elim
theorem qkN (ha:PE X a ta) (he:∀ whole,isTrue a X.env whole=(do let v ← whole;standAt a.pos;holding [v] (truthy v))) :
    PT X a (fun σ H Q=>ta σ H fun x H'=>∃ k,qpG X.K x H' k∧Q k H'):=by
  intro pins s σ H Q I h
  exact isTrue_plain (thn (ha pins s σ H _ I h) fun v s1 hq0=>by obtain ⟨x,H1,I1,r1,q1⟩:=hq0;exact qm7 pins s1 σ H1 x v Q I1 r1 q1) (he _)
theorem qil:OpR X (binaryOp .Add) (fun x y H Q=>∃ i j,x=.str i∧y=.str j∧i.length+j.length≤sizeLine∧Q (.str (i++j)) H):=by
  intro pins s σ H x y v u Q I rx ry h
  obtain ⟨i,j,rfl,rfl,hz,q⟩:=h
  obtain ⟨t,rfl⟩:=rx
  obtain ⟨t',rfl⟩:=ry
  exact add_str (fun t' tk=>⟨.str (i++j),H,I.tok _,⟨_,rfl⟩,q⟩) hz
theorem qgT {x:V} {us:List Value} (r:Vals [x] us):∃ u,us=[u]∧RelV x u:=by
  cases r with
  | cons r1 r2=>cases r2;exact ⟨_,rfl,r1⟩
theorem qgt:qep X (.type "int") (fun xs H Q=>(∃ i,xs=[.int i]∧Q (.int i) H)∨∃ k,xs=[.bl k]∧Q (.int (if k then 1 else 0)) H):=by
  intro pins s σ H xs us Q I r h
  rcases h with ⟨i,rfl,q⟩ | ⟨k,rfl,q⟩
  · obtain ⟨u,rfl,t,rfl⟩:=qgT r
    exact call_int_int ⟨.int i,H,I,⟨_,rfl⟩,q⟩
  · obtain ⟨u,rfl,r1⟩:=qgT r
    cases r1
    exact call_int_bool ⟨.int (if k then 1 else 0),H,I.tok _,⟨_,rfl⟩,q⟩
end
section
variable {prog : Program} {w : World} {A : Around} {E : Value → Shared → Prop} {s : Shared} {K : PySem.W.Frag} {x dx C f : Addr} {mA : Str → Option Value} {name : Str} {v : Value}
end
theorem RelO.some_of {v:V} {o:Option Value} (r:RelO (some v) o):∃ u,o=some u∧RelV v u:=by
  cases o with
  | none=>exact (show False from r).elim
  | some u=>exact ⟨u,rfl,r⟩
section
variable {P : Program} {w : World} {H H' : Hp} {h h' : Heap} {a C dx : Addr} {fs fs' : List (Str × V)}
end
structure Cls (K:PySem.W.Frag) (C:Addr):Prop where
  pg:PySem.W.plainGet K C Str.empty=true
  hd:PySem.W.hasDictIn K C=true
  po:PySem.W.plainOver K C=true
  sa:PySem.W.findIn K (.ref C) "__setattr__"=some (some (.builtin "object.__setattr__"))
section
variable {X : Cx} {pins : List (Addr × Obj)} {σ : St} {H : Hp} {s : Shared} {a C dx : Addr} {fs : List (Str × V)} {f : Str} {v : V} {A : Around} {E : Value → Shared → Prop}
end
section
variable {X : Cx} {o e value : Expr} {f : Str} {pos pos' tpos : Pos} {ta tv : TE}
end
section
variable {X : Cx} {pins : List (Addr × Obj)} {σ : St} {H : Hp} {s : Shared} {A : Around} {E : Value → Shared → Prop} {Q : Value → Shared → Prop} {c : Value} {b : Bool}
inductive TyOf (K:PySem.W.Frag) (H:Hp):V→Value→Prop where
  | non:TyOf K H .non (.type "NoneType")
  | bl (x:Bool):TyOf K H (.bl x) (.type "bool")
  | int (i:Int):TyOf K H (.int i) (.type "int")
  | str (x:Str):TyOf K H (.str x) (.type "str")
  | flt (x:UInt64):TyOf K H (.flt x) (.type "float")
  | lst {a:Addr} {xs:List V} (e:H a=some (.lst xs)):TyOf K H (.ref a) (.type "list")
  | frz {a:Addr} {o:Obj} {xs:List V} (e:H a=some (.frz o (.lst xs))):TyOf K H (.ref a) (.type "list")
  | tup {a:Addr} {xs:List V} (e:H a=some (.tup xs)):TyOf K H (.ref a) (.type "tuple")
  | dK {a:Addr} {kvs:List (Key × V)} (e:H a=some (.dK kvs)):TyOf K H (.ref a) (.type "dict")
  | dT {a:Addr} {kvs:List (List Key × V)} (e:H a=some (.dT kvs)):TyOf K H (.ref a) (.type "dict")
  | ins {a C dx:Addr} {fs:List (Str × V)} (e:H a=some (.ins C dx fs)) (cl:Cls K C) (ha:PySem.W.findIn K (.ref C) "__class__"=some (some (.builtin "object.__class__")))
      (hn:PySem.W.specialIn K (.builtin "object.__class__") "__get__"=some (some (.builtin "getset_descriptor.__get__"))) (htk:PySem.W.takesIn K (.builtin "object.__class__")=some true)
      (hm:PySem.W.mroIn K C (.type "object")=some true):TyOf K H (.ref a) (.ref C)
end
structure Room (k:Nat) (A:Around):Prop where
  hd:A.handled=none
  dp:A.depth+3*k+5<recursionLimit
  un:A.units+16*k+200<cLine
theorem Room.mono {j k:Nat} {A:Around} (r:Room k A) (h:j≤k):Room j A:=⟨r.hd,by have:=r.dp;omega,by have:=r.un;omega⟩
theorem Room.deeper {k:Nat} {A:Around} (r:Room (k+1) A) (env:Env):Room k (A.deeper env) :=
  ⟨r.hd,by have:=r.dp;show A.depth+1+3*k+5<_;omega,by have:=r.un;show A.units+3+16*k+200<_;omega⟩
theorem Room.depth {k:Nat} {A:Around} (r:Room k A):A.depth<recursionLimit:=by have:=r.dp;omega
theorem Room.units {k:Nat} {A:Around} (r:Room k A):A.units+64<cLine:=by have:=r.un;omega
def qqU:TA:=fun _ H Q=>Q [] H
def qpD (ta:TE) (tr:TA):TA:=fun σ H Q=>ta σ H fun x H1=>tr σ H1 fun xs H2=>Q (x::xs) H2
section
variable {X : Cx} {e : Expr} {es : List Expr} {te : TE} {t : TA} {pos : Pos}
theorem pa_nil:PA X [] qqU:=fun _ _ _ _ H Q I h=>Calls.spliced_nil ⟨[],H,I,.nil,h⟩
theorem qbM (ha:PE X e te) (hr:PA X es t) (hs:starEach (e::es) X.env=(false,eval e X.env)::starEach es X.env:=by rfl):PA X (e::es) (qpD te t):=by
  intro pos pins s σ H Q I h
  rw [hs]
  show wpAny _ _ (spliced ((false,eval e X.env)::backTo pos (starEach es X.env))) _ _ s
  refine Calls.spliced_cons (thn (ha pins s σ H _ I h) fun u s1 hq0=>?_)
  obtain ⟨x,H1,I1,r1,q1⟩:=hq0
  exact thn (hr pos pins s1 σ H1 _ I1 q1) fun us s2 hq1=>by obtain ⟨xs,H2,I2,r2,q2⟩:=hq1;exact ⟨x::xs,H2,I2,.cons r1 r2,q2⟩
def qrg (t:TA):TE:=fun σ H Q=>t σ H fun xs H1=>xs.length≤sizeLine∧∀ p,H1 p=none→Q (.ref p) (upd H1 p (.tup xs))
def qrd (t:TA):TE:=fun σ H Q=>t σ H fun xs H1=>xs.length≤sizeLine∧∀ p,H1 p=none→Q (.ref p) (upd H1 p (.lst xs))
theorem qln {x1} (h:PA X es t):PE X (.Tuple es x1 pos) (qrg t):=by
  intro pins s σ H Q I hq
  refine wpAny_Tuple_spliced (thn (h pos pins s σ H _ I hq) fun us s1 ⟨xs,H1,I1,r,z,q⟩=>⟨by rw [← r.length];exact z,?_⟩)
  have hf:H1 s1.heap.objs.size=none:=I1.hok.fresh (Nat.le_refl _)
  refine ⟨.ref s1.heap.objs.size,upd H1 s1.heap.objs.size (.tup xs),I1.laid (t':=s1.toks) (fun b u e=>Heap.get?_push_of_some _ e) (Nat.le_refl _) ?_,rfl,q _ hf⟩
  exact ⟨z,us,r,⟨_,Heap.get?_push_size _ rfl,⟨rfl,rfl⟩,_,rfl⟩⟩
theorem qnV (h:PA X es t):PE X (.List es pos) (qrd t):=by
  intro pins s σ H Q I hq
  refine wpAny_List_spliced (thn (h pos pins s σ H _ I hq) fun us s1 ⟨xs,H1,I1,r,z,q⟩=>⟨by rw [← r.length];exact z,?_⟩)
  have hf:H1 s1.heap.objs.size=none:=I1.hok.fresh (Nat.le_refl _)
  refine ⟨.ref s1.heap.objs.size,upd H1 s1.heap.objs.size (.lst xs),I1.laid (t':=s1.toks) (fun b u e=>Heap.get?_push_of_some _ e) (Nat.le_refl _) ?_,rfl,q _ hf⟩
  exact ⟨z,us,0,r,Heap.get?_push_size _ rfl⟩
end
abbrev Sp:=List V→Hp→VK→XK→Prop
abbrev CXT:=List Env→Hp→Shared→XK→Value→Shared→Prop
structure Env0 (P:Program) (w:World) (K:PySem.W.Frag) (mg:Str→Option Value) (base:Heap) (A:Around) (outer:List Env) (s:Shared) (H:Hp):Prop where
  frames:A.frames=some outer
  mod:Mod K mg base
  bs:∀ b o,base.get? b=some o→s.heap.get? b=some o∧H b=none
  bsz:base.objs.size≤s.heap.objs.size
  funs:s.heap.FunFrames base outer
  frf:∀ b∈frs outer,H b=none
  hok:HOk P w H s.heap
  bare:AllBare s.gens
def CE (outer:List Env) (P:Program) (w:World) (H:Hp) (s:Shared) (Q:VK) (u:Value) (s':Shared):Prop :=
  ∃ v H',s'.os=s.os∧AllBare s'.gens∧Un (frs outer) [] H H' s.heap s'.heap∧HOk P w H' s'.heap∧RelV v u∧Q v H'
def CR (CX:CXT) (outer:List Env) (P:Program) (w:World) (H:Hp) (s:Shared) (Q:VK) (E:XK) (r:Result) (s':Shared):Prop :=
  match r with
  | .ok (.ret u)=>CE outer P w H s Q u s'
  | .ok _=>False
  | .error e=>CX outer H s E e s'
structure FnOk (P:Program) (w:World) (K:PySem.W.Frag) (mg:Str→Option Value) (base:Heap) (CX:CXT) (k:Nat) (f:Addr) (fd:FuncData) (ps:List Str) (sp:Sp):Prop where
  len:∀ vs H Q E,sp vs H Q E→vs.length=ps.length
  run:∀ (A:Around) (outer:List Env) (s:Shared) (H:Hp) (args:Args) (us:List Value) (vs:List V) (Q:VK) (E:XK),Room k A→Env0 P w K mg base A outer s H→BindsTo s fd args (ps.zip us)→Vals vs us→sp vs H Q E →
    codeAny (model P w) A (.call (.ref f) args) (CR CX outer P w H s Q E) s
theorem FnOk.mono {P:Program} {w:World} {K:PySem.W.Frag} {mg:Str→Option Value} {base:Heap} {CX:CXT} {j k:Nat} {f:Addr} {fd:FuncData} {ps:List Str} {sp:Sp} (F:FnOk P w K mg base CX j f fd ps sp) (h:j≤k) :
    FnOk P w K mg base CX k f fd ps sp:=⟨F.len,fun A outer s H args us vs Q E hr=>F.run A outer s H args us vs Q E (hr.mono h)⟩
theorem FnOk.imp {P:Program} {w:World} {K:PySem.W.Frag} {mg:Str→Option Value} {base:Heap} {CX:CXT} {k:Nat} {f:Addr} {fd:FuncData} {ps:List Str} {sp sp':Sp} (F:FnOk P w K mg base CX k f fd ps sp)
    (h:∀ vs H Q E,sp' vs H Q E→sp vs H Q E):FnOk P w K mg base CX k f fd ps sp' :=
  ⟨fun vs H Q E q=>F.len vs H Q E (h _ _ _ _ q),fun A outer s H args us vs Q E hr he hb hv hs=>F.run A outer s H args us vs Q E hr he hb hv (h _ _ _ _ hs)⟩
section
variable {X : Cx} {pins : List (Addr × Obj)} {σ : St} {H : Hp} {s s' : Shared}
theorem Inv.env0 (I:Inv X pins σ H s):Env0 X.prog X.w X.K X.mg X.base X.A X.stack s H :=
  ⟨I.ok.frames,I.ok.mod,I.bs,Nat.le_trans I.ok.bsz I.sz,I.stack,I.stkFree,I.hok,I.bare⟩
theorem Inv.after {Q:VK} {u:Value} (I:Inv X pins σ H s) (h:CE X.stack X.prog X.w H s Q u s'):EP X pins σ Q u s':=by
  obtain ⟨v,H',os,bare,un,hok,r,q⟩:=h
  obtain ⟨hh,g,d,t,os'⟩:=s'
  obtain rfl:os'=s.os:=os
  exact ⟨v,H',I.call (h':=hh) (g':=g) (d':=d) (t':=t) (ch:=[]) un hok bare (fun b z=>absurd z (by simp)),r,q⟩
end
def qpV (sp:Sp) (dvs:List V) (E:XK) (t:TA):TE:=fun σ H Q=>t σ H fun vs H1=>sp (vs++dvs) H1 Q E
def Binds (K:PySem.W.Frag) (fd:FuncData) (ps:List Str) (ds:List Value):Prop :=
  ∀ (s:Shared) (us:List Value),K.In s.heap→(us++ds).length=ps.length→BindsTo s fd ⟨us,[]⟩ (ps.zip (us++ds))
theorem Binds.all {K:PySem.W.Frag} {fd:FuncData} {ps:List Str} (h:∀ us:List Value,us.length=ps.length→bindArgs fd ⟨us,[]⟩=pure (ps.zip us)):Binds K fd ps []:=fun s us _ hl=>by
  rw [List.append_nil] at hl ⊢
  exact .of_eq (h us hl)
def qh5 (CX:CXT) (X:Cx) (E:XK):Prop:=∀ (pins:List (Addr × Obj)) (σ:St) (H:Hp) (s:Shared) (e:Value) (s':Shared),Inv X pins σ H s→CX X.stack H s E e s'→X.xe e s'
section
variable {X : Cx} {CX : CXT} {k : Nat} {f C : Addr} {fd : FuncData} {ps : List Str} {sp : Sp} {dvs : List V} {ds : List Value} {E : XK} {x m : Str} {p pos apos : Pos} {e o : Expr} {es : List Expr} {ta : TE} {t : TA}
theorem qoS {pins:List (Addr × Obj)} {σ:St} {H:Hp} {s:Shared} {Q:VK} {us:List Value} {vs:List V} (F:FnOk X.prog X.w X.K X.mg X.base CX k f fd ps sp) (hr:Room k X.A) (hb:Binds X.K fd ps ds) (hd:Vals dvs ds) (hx:qh5 CX X E)
    (I:Inv X pins σ H s) (r:Vals vs us) (h:sp (vs++dvs) H Q E):wpAny (model X.prog X.w) X.A (call (.ref f) us) (EP X pins σ Q) X.xe s:=by
  have r2:Vals (vs++dvs) (us++ds):=r.append hd
  have hl:(us++ds).length=ps.length:=by rw [← r2.length];exact F.len _ _ _ _ h
  refine wpAny_call (codeAny_mono (F.run X.A X.stack s H ⟨us,[]⟩ (us++ds) (vs++dvs) Q E hr I.env0 (hb s us I.kIn hl) r2 h) fun r s' hq=>?_)
  cases r with
  | error e=>exact hx pins σ H s e s' I hq
  | ok fl =>
    cases fl with
    | ret u=>exact I.after hq
    | next=>exact False.elim hq
    | brk=>exact False.elim hq
    | cont=>exact False.elim hq
theorem qgU (F:FnOk X.prog X.w X.K X.mg X.base CX k f fd ps sp) (hr:Room k X.A) (hg:Gl X x) (hm:X.mg x=some (.ref f)) (hk:PySem.W.keepIn X.K (.ref f)=true) (hb:Binds X.K fd ps ds) (hd:Vals dvs ds) (hx:qh5 CX X E)
    (ha:PA X (e::es) t) (hdb:(x == ("__debug__":Str))=false:=by decide) (he:starEach (e::es) X.env=(false,eval e X.env)::starEach es X.env:=by rfl) (hpl:(backTo pos (starEach es X.env)).any (·.1)=false:=by rfl) :
    PE X (.Call (.Name x p) (e::es) [] pos) (qpV sp dvs E t):=by
  intro pins s σ H Q I h
  refine wpAny_Call_Name_kw (qjD I hg hm ?_ hdb)
  refine PySem.W.callWith_K (h₀:=X.base) I.ok.mod.kin hk (thn (ha pos pins s σ H _ I h) fun us s1 ⟨vs,H1,I1,r,q⟩=>⟨I1.kIn,?_⟩) he hpl
  exact qoS F hr hb hd hx I1 r q
end
section
variable {X : Cx} {CX : CXT} {k : Nat} {f C : Addr} {fd : FuncData} {ps ks : List Str} {sp : Sp} {E : XK} {x m : Str} {p pos apos kpos : Pos} {e o : Expr} {es : List Expr} {kws : List Keyword} {te ta : TE} {t tk : TA} {nm : Option Str}
variable {g : List Value → List Value → List Value} {gV : List V → List V → List V}
end
structure FnScope (N P:List Str) (sc:Scope):Prop where
  kind:sc.kind=.function
  co:sc.isCoroutine=false
  gen:sc.isGenerator=false
  nd:N.Nodup
  pre:N.take P.length=P
  par:∀ x∈P,sc.names.lookup x=some .local∨sc.names.lookup x=some .cell
  nofree:∀ y∈sc.names,y.2≠.free
theorem qga {kindOf:Str→Option NameKind} {x:Str}:∀ {binds:List (Str × Value)} {m:Str→Option Value},(∀ v,(x,v)∉binds)→bindL kindOf binds m x=m x
  | [],_,_=>rfl
  | (n,v)::r,m,h=>by
    unfold bindL
    rw [qga fun w hw=>h w (List.mem_cons_of_mem _ hw)]
    split
    · have:x≠n:=by rintro rfl;exact h v List.mem_cons_self
      simp [this]
    · rfl
theorem qgH {kindOf:Str→Option NameKind} {x:Str}:∀ {binds:List (Str × Value)} {m:Str→Option Value},(∀ v,(x,v)∉binds)→bindC kindOf binds m x=m x
  | [],_,_=>rfl
  | (n,v)::r,m,h=>by
    unfold bindC
    rw [qgH fun w hw=>h w (List.mem_cons_of_mem _ hw)]
    split
    · rfl
    · have:x≠n:=by rintro rfl;exact h v List.mem_cons_self
      simp [this]
theorem qgl {kindOf:Str→Option NameKind} {x:Str} {v:Value}:∀ {P:List Str} {vs:List Value} {i:Nat} {m:Str→Option Value},P.Nodup→P[i]?=some x→vs[i]?=some v→kindOf x=some .local →
    bindL kindOf (P.zip vs) m x=some v
  | [],_,_,_,_,h,_,_=>by simp at h
  | _::_,[],_,_,_,_,h,_=>by simp at h
  | p::P,w::vs,0,m,nd,h1,h2,hk=>by
    simp at h1 h2;subst h1;subst h2
    show bindL kindOf ((p,w)::P.zip vs) m p=_
    unfold bindL
    rw [qga fun v hv=>(List.nodup_cons.mp nd).1 (List.of_mem_zip hv).1,if_pos hk]
    simp
  | p::P,w::vs,i+1,m,nd,h1,h2,hk=>by
    show bindL kindOf ((p,w)::P.zip vs) m x=_
    unfold bindL
    exact qgl (i:=i) (List.nodup_cons.mp nd).2 (by simpa using h1) (by simpa using h2) hk
theorem qgI {kindOf:Str→Option NameKind} {x:Str} {v:Value}:∀ {P:List Str} {vs:List Value} {i:Nat} {m:Str→Option Value},P.Nodup→P[i]?=some x→vs[i]?=some v→kindOf x≠some .local →
    bindC kindOf (P.zip vs) m x=some v
  | [],_,_,_,_,h,_,_=>by simp at h
  | _::_,[],_,_,_,_,h,_=>by simp at h
  | p::P,w::vs,0,m,nd,h1,h2,hk=>by
    simp at h1 h2;subst h1;subst h2
    show bindC kindOf ((p,w)::P.zip vs) m p=_
    unfold bindC
    rw [qgH fun v hv=>(List.nodup_cons.mp nd).1 (List.of_mem_zip hv).1,if_neg hk]
    simp
  | p::P,w::vs,i+1,m,nd,h1,h2,hk=>by
    show bindC kindOf ((p,w)::P.zip vs) m x=_
    unfold bindC
    exact qgI (i:=i) (List.nodup_cons.mp nd).2 (by simpa using h1) (by simpa using h2) hk
def start (N:List Str) (vs:List V):St:=vs.map some++List.replicate (N.length - vs.length) none
def qk9 (CX:CXT) (P:Program) (w:World) (K:PySem.W.Frag) (mg:Str→Option Value) (base:Heap) (N:List Str) (qual:Str) (scope:Scope) (f:Addr) (cd:Value) (A:Around) (outer:List Env) (s:Shared) (H:Hp) (E:XK):Cx where
  prog:=P
  w:=w
  K:=K
  mg:=mg
  base:=base
  A:=A.deeper (envOfC qual scope s.heap.objs.size f cd)
  N:=N
  s₀:=s
  H₀:=H
  env:=envOfC qual scope s.heap.objs.size f cd
  outer:=outer
  stack:=envOfC qual scope s.heap.objs.size f cd::outer
  ex:=[]
  calm:=true
  fn:=fun _=>true
  pn:=[]
  xe:=fun e s'=>wpAny (model P w) (A.deeper (envOfC qual scope s.heap.objs.size f cd)) (leaving (envOfC qual scope s.heap.objs.size f cd) e) (fun _ s''=>CX outer H s E e s'') (fun e' s''=>CX outer H s E e' s'') s'
theorem qfh {sc:Scope} {n:Nat} {x:Str} (h:sc.names.lookup x=some .cell):∃ c,(cellsFrom n sc.names []).lookup x=some c:=by
  have q:=PySem.W.cellsFrom_some sc.names n [] (.inl h)
  exact Option.isSome_iff_exists.mp q
theorem qiD {CX:CXT} {P:Program} {w:World} {K:PySem.W.Frag} {mg:Str→Option Value} {base:Heap} {N ps:List Str} {qual:Str} {scope:Scope} {f:Addr} {cd:Value} {A:Around} {outer:List Env} {s s1:Shared} {H:Hp} {E:XK} {us:List Value} {vs:List V}
    (S:FnScope N ps scope) (hd:A.handled=none) (e0:Env0 P w K mg base A outer s H) (hl:vs.length=ps.length) (r:Vals vs us)
    (x:InCallC s s.heap.objs.size (bindL (envOfC qual scope s.heap.objs.size f cd).kindOf (ps.zip us) fun _=>none) (cellsFrom (s.heap.objs.size+1) scope.names []) (bindC (envOfC qual scope s.heap.objs.size f cd).kindOf (ps.zip us) fun _=>none) s1) :
    Inv (qk9 CX P w K mg base N qual scope f cd A outer s H E) [] (start N vs) H s1:=by
  have hpl:ps.length≤N.length:=by have:=congrArg List.length S.pre;rw [List.length_take] at this;omega
  obtain ⟨h1,tk,rfl,hk⟩:=x.done
  have noA:∀ b:Addr,b∉(qk9 CX P w K mg base N qual scope f cd A outer s H E).ex:=fun b z=>absurd (show b∈([]:List Addr) from z) (by simp)
  refine ⟨⟨e0.mod,S.kind,rfl,rfl,Nat.le_refl _,fun y z c h1 h2=>?_,fun y hy=>?_,fun y c _ h=>?_,fun _=>hd,Around.frames_deeper e0.frames,.inr ⟨rfl,rfl⟩,fun b z=>absurd z (noA b),e0.bs,e0.bsz,fun b _ _=>noA b,fun b z=>absurd z (noA b),e0.funs,e0.frf⟩,
    rfl,e0.bare,Un.kept hk,⟨_,x.toInCall.ns,fun i y v h1 h2 h3=>?_⟩,fun y c h=>⟨_,x.cell y c h⟩,e0.hok.fresh (Nat.le_refl _),fun y c h=>?_,fun p hp=>absurd (show p∈([]:List (Addr × Obj)) from hp) (by simp),e0.hok.kept hk,?_⟩
  · exact name_of_addr x.apart (PySem.mem_of_lookup h1) (PySem.mem_of_lookup h2)
  · have hy:scope.names.lookup y=some .cell∨scope.names.lookup y=some .free:=hy
    rcases hy with hy | hy
    · exact qfh hy
    · exact absurd rfl (S.nofree _ (PySem.mem_of_lookup hy))
  · exact Nat.le_of_lt (x.above y c (PySem.mem_of_lookup h))
  · have hi:i<vs.length:=by
      unfold start at h2
      by_cases hi:i<vs.length
      · exact hi
      · rw [List.getElem?_append_right (by simpa using hi)] at h2
        rw [List.getElem?_replicate] at h2
        split at h2 <;> cases h2
    have ha:vs[i]?=some v:=by
      unfold start at h2
      rw [List.getElem?_append_left (by simpa using hi),List.getElem?_map] at h2
      cases e:vs[i]? with
      | none=>rw [e] at h2;cases h2
      | some a=>rw [e] at h2;cases h2;rfl
    obtain ⟨u,hu,rv⟩:=r.get ha
    have hp:ps[i]?=some y:=by
      rw [← S.pre,List.getElem?_take_of_lt (by omega)];exact h1
    have ndP:ps.Nodup:=by rw [← S.pre];exact S.nd.sublist (List.take_sublist _ _)
    refine ⟨u,rv,?_⟩
    rcases S.par y (List.mem_of_getElem? hp) with k | k
    · exact .inl ⟨k,qgl ndP hp hu k⟩
    · obtain ⟨c,e⟩:=qfh (n:=s.heap.objs.size+1) k
      refine .inr ⟨.inl k,c,e,?_⟩
      have q:=x.cell y c e
      rw [qgI ndP hp hu (by show scope.names.lookup y≠_;rw [k];decide)] at q
      exact q
  · exact e0.hok.fresh (Nat.le_of_lt (x.above y c (PySem.mem_of_lookup h)))
  · unfold start
    show _=N.length
    rw [List.length_append,List.length_map,List.length_replicate]
    omega
theorem qnw {CX:CXT} {P:Program} {w:World} {K:PySem.W.Frag} {mg:Str→Option Value} {base:Heap} {k:Nat} {f:Addr} {name qual:Str} {params:Arguments} {body:List Stmt} {scope:Scope} {dV kV doc pm cdv ct oc:Value} {an od:Option Addr}
    {osl:Array (Option Value)} {N ps:List Str} {sp:Sp} (lk:K.lookup f=some ⟨oc,od,.func (PySem.W.fnOf name qual params body scope dV kV doc pm an cdv ct),osl⟩) (hcd:PySem.W.codeIn K cdv qual=true) (S:FnScope N ps scope)
    (len:∀ vs H Q E,sp vs H Q E→vs.length=ps.length)
    (hbody:∀ (A:Around) (outer:List Env) (s:Shared) (H:Hp) (vs:List V) (Q:VK) (E:XK),Room k (A.deeper (envOfC qual scope s.heap.objs.size f cdv))→sp vs H Q E →
      ∃ t,PSs (qk9 CX P w K mg base N qual scope f cdv A outer s H E) body t∧t { nx:=fun _ H'=>Q .non H',rt:=Q } (start N vs) H) :
    FnOk P w K mg base CX (k+1) f (PySem.W.fnOf name qual params body scope dV kV doc pm an cdv ct) ps sp:=by
  refine ⟨len,fun A outer s H args us vs Q E hr e0 hb r hsp=>?_⟩
  have hl:=len _ _ _ _ hsp
  have KX:K.In s.heap:=e0.mod.kin.keeps fun b o e=>(e0.bs b o e).1
  have lim:s.heap.NoLimit:=e0.mod.nolimit.keeps fun b o e=>(e0.bs b o e).1
  have hkind:∀ y∈ps.zip us,scope.names.lookup y.1=some .local∨(scope.names.lookup y.1=some .cell∧((cellsFrom (s.heap.objs.size+1) scope.names []).lookup y.1).isSome=true):=fun hq0 hy=>by
    obtain ⟨n,v⟩:=hq0
    rcases S.par n (List.of_mem_zip hy).1 with q | q
    · exact .inl q
    · exact .inr ⟨q,PySem.W.cellsFrom_some _ _ _ (.inl q)⟩
  refine codeAny_call_function hr.depth (KX _ _ lk) rfl S.co S.gen rfl (PySem.W.codeRec_of KX hcd) (hb _ _ _ _ ?_)
  refine wpAny_newFunctionEnv_cells S.kind hkind fun env he s1 x=>?_
  subst he
  refine ⟨lim.keeps x.toInCall.keep,codeAny_func ?_⟩
  obtain ⟨t,ht,hq⟩:=hbody A outer s H vs Q E (hr.deeper _) hsp
  have I:Inv (qk9 CX P w K mg base N qual scope f cdv A outer s H E) [] (start N vs) H s1:=qiD S hr.hd e0 hl r x
  refine wpAny_mono (ht [] s1 (start N vs) H _ I hq) (fun fl s' hs=>?_) fun e s' hs=>hs
  have fin:∀ {σ':St} {H':Hp} {v:V} {u:Value},Inv (qk9 CX P w K mg base N qual scope f cdv A outer s H E) [] σ' H' s'→RelV v u→Q v H'→CE outer P w H s Q u s' :=
    fun {σ' H' v u} J rv q=>⟨v,H',J.os,J.bare,J.base,J.hok,rv,q⟩
  cases fl with
  | ret u =>
    obtain ⟨v,σ',H',J,rv,q⟩:=hs
    exact fin J rv q
  | next =>
    obtain ⟨σ',H',J,q⟩:=hs
    exact fin (v:=V.non) (u:=Value.none) J rfl q
  | brk =>
    obtain ⟨_,_,_,q⟩:=hs
    exact False.elim q
  | cont =>
    obtain ⟨_,_,_,q⟩:=hs
    exact False.elim q
section
variable {X : Cx} {x : Str} {p pos : Pos} {e : Expr} {es : List Expr} {t : TA} {id T : String} {r : List V → Hp → VK → Prop}
def tCB (r:List V→Hp→VK→Prop) (t:TA):TE:=fun σ H Q=>t σ H fun vs H1=>r vs H1 Q
theorem qhD (hc:qep X (.builtin id) r) (hg:Gl X x) (hm:X.mg x=none) (hv:bootBuiltins x=some (.builtin id)) (ha:PA X (e::es) t) (hn:x≠"__name__":=by decide) (hdb:(x == ("__debug__":Str))=false:=by decide)
    (he:starEach (e::es) X.env=(false,eval e X.env)::starEach es X.env:=by rfl) (hpl:(backTo pos (starEach es X.env)).any (·.1)=false:=by rfl):PE X (.Call (.Name x p) (e::es) [] pos) (tCB r t):=by
  intro pins s σ H Q I h
  refine wpAny_Call_Name_kw (qe3 I hg hm hv ?_ hn hdb)
  exact PyProof.Rows.callWith_builtin1 (thn (ha pos pins s σ H _ I h) fun us s1 hq0=>by obtain ⟨vs,H1,I1,r1,q1⟩:=hq0;exact hc pins s1 σ H1 vs us Q I1 r1 q1) he hpl
theorem qfS (hc:qep X (.type T) r) (hg:Gl X x) (hm:X.mg x=none) (hv:bootBuiltins x=some (.type T)) (ha:PA X (e::es) t) (hn:x≠"__name__":=by decide) (hdb:(x == ("__debug__":Str))=false:=by decide)
    (he:starEach (e::es) X.env=(false,eval e X.env)::starEach es X.env:=by rfl) (hpl:(backTo pos (starEach es X.env)).any (·.1)=false:=by rfl):PE X (.Call (.Name x p) (e::es) [] pos) (tCB r t):=by
  intro pins s σ H Q I h
  refine wpAny_Call_Name_kw (qe3 I hg hm hv ?_ hn hdb)
  exact PyProof.Rows.callWith_type1 (thn (ha pos pins s σ H _ I h) fun us s1 hq0=>by obtain ⟨vs,H1,I1,r1,q1⟩:=hq0;exact hc pins s1 σ H1 vs us Q I1 r1 q1) he hpl
end
end L2
namespace HT
open PySem PyProof.Rows
section
open PySem.SeqAt
open PySem.AutoSeq1 (wpAny_loadPart')
open PySem.MeetsSeq PySem.MeetsSeq2 PySem.MeetsSeq3
end
section
variable {prog : Program} {w : World} {A : Around} {E : Value → Shared → Prop} {s : Shared}
theorem cat_tup {t b:Addr} {vs ws:List Value} {Q:Value→Shared→Prop} (ht:IsTup s.heap t vs.toArray) (hb:IsTup s.heap b ws.toArray) (hv:vs≠[])
    (h1:ws=[]→Q (.ref t) s) (h2:ws≠[]→Q (.ref s.heap.objs.size) { s with heap:=s.heap.push { cls:=.type "tuple",data:=.seq (vs++ws).toArray } })
    (hsz:vs.length+ws.length≤sizeLine):wpAny (model prog w) A (binaryOp .Add (.ref t) (.ref b)) Q E s:=by
  obtain ⟨⟨cls,dd,data,sl⟩,ho,hc,n,hd⟩:=id ht
  obtain ⟨⟨cls2,dd2,data2,sl2⟩,ho2,hc2,n2,hd2⟩:=id hb
  simp only at hc hd hc2 hd2
  subst hc hd hc2 hd2
  have e:vs.toArray++ws.toArray=(vs++ws).toArray:=by simp
  by_cases hw:ws=[]
  · exact concat_meets ⟨_,ho,rfl⟩ ⟨_,ho2,rfl⟩ noFill_tuple_add seq_tuple_add PySem.F.slot_tuple_add PySem.F.entry_tuple_add (PySem.F.args_tuple_add_2 _ _)
      (tuple_addW1 t b vs.toArray ws.toArray n n2 dd dd2 sl sl2 (by simpa using hv) (by simp [hw])) ⟨ho,ho2,h1 hw⟩
  · refine concat_meets ⟨_,ho,rfl⟩ ⟨_,ho2,rfl⟩ noFill_tuple_add seq_tuple_add PySem.F.slot_tuple_add PySem.F.entry_tuple_add (PySem.F.args_tuple_add_2 _ _)
      (tuple_addW2 t b vs.toArray ws.toArray n n2 dd dd2 sl sl2 (by simpa using hv) (by simpa using hw) (by rw [List.size_toArray,List.size_toArray];exact hsz)) ⟨ho,ho2,?_⟩
    rw [e]
    exact h2 hw
def sIx (n d:Nat):Option Int→Nat
  | none=>d
  | some v=>if v<0 then (v+(n:Int)).toNat else min v.toNat n
theorem sIx_none (n d:Nat):sIx n d none=d:=rfl
theorem sIx_nat (n d k:Nat):sIx n d (some (k:Int))=min k n:=by
  show (if (k:Int)<0 then ((k:Int)+(n:Int)).toNat else min (k:Int).toNat n)=min k n
  rw [if_neg (by omega),Int.toNat_natCast]
theorem qoz (n d:Nat) (hd:d≤n) (o:Option Int):sIx n d o≤n:=by
  cases o with
  | none=>exact hd
  | some v =>
    show (if v<0 then (v+(n:Int)).toNat else min v.toNat n)≤n
    by_cases hv:v<0
    · rw [if_pos hv];omega
    · rw [if_neg hv];exact Nat.min_le_right _ _
theorem qjd (v:Int) (n d:Nat):(if v<0 then max (v+(n:Int)) 0 else min v (n:Int))=((sIx n d (some v):Nat):Int):=by
  show (if v<0 then max (v+(n:Int)) 0 else min v (n:Int))=(((if v<0 then (v+(n:Int)).toNat else min v.toNat n):Nat):Int)
  by_cases hv:v<0
  · simp only [if_pos hv];omega
  · simp only [if_neg hv];omega
theorem qig (lo hi:Option Int) (n:Nat):Builtin.Slice.sliceAdjust lo hi 1 (n:Int)=(((sIx n 0 lo:Nat):Int),((sIx n n hi:Nat):Int)):=by
  have h1:¬ ((1:Int)<0):=by omega
  unfold Builtin.Slice.sliceAdjust
  simp only [h1,if_false]
  refine Prod.ext ?_ ?_
  · cases lo with
    | none=>rfl
    | some v=>exact qjd v n 0
  · cases hi with
    | none=>rfl
    | some v=>exact qjd v n n
theorem qiu (i j:Nat):Builtin.Slice.slicePlaces (i:Int) (j:Int) 1=j - i:=by
  unfold Builtin.Slice.slicePlaces
  have h1:(1:Int)>0:=by omega
  simp only [h1,if_true,Int.ediv_one]
  split <;> omega
theorem qe5 {v:Value} {o:Option Int} {Q:Option Int→Shared→Prop} (p:IsPart v o) (h:Q o s):wpAny (model prog w) A (Builtin.Slice.slicePartIndex v) Q E s:=by
  cases p with
  | none=>exact slicePart_none h
  | int i t=>exact slicePart_int h
theorem qcr {sl:Addr} {vl vu:Value} {lo hi:Option Int} {n:Nat} {Q:Int × Int × Nat→Shared→Prop} (hs:s.heap.IsSliceOf sl vl vu .none) (pl:IsPart vl lo) (pu:IsPart vu hi)
    (h:Q (((sIx n 0 lo:Nat):Int),1,sIx n n hi - sIx n 0 lo) s):wpAny (model prog w) A (Builtin.Slice.sliceApplied (.ref sl) (pure (n:Int))) Q E s:=by
  obtain ⟨os,hos,hcs,hds⟩:=id hs
  unfold Builtin.Slice.sliceApplied Builtin.Slice.sliceFields
  refine wpAny_bind (wpAny_bind (wpAny_field hos hds (x:=vl) rfl (wpAny_bind (wpAny_field hos hds (x:=vu) rfl (wpAny_bind (wpAny_field hos hds (x:=.none) rfl (wpAny_pure ?_)))))))
  refine wpAny_bind (slicePart_none ?_)
  show wpAny _ _ (if ((1:Int) == 0)=true then _ else _) _ _ s
  rw [if_neg (by decide)]
  refine wpAny_bind (qe5 pl (wpAny_bind (qe5 pu (wpAny_bind (wpAny_pure ?_)))))
  show wpAny _ _ (match Builtin.Slice.sliceAdjust lo hi 1 (n:Int) with | (lo,hi)=>pure (lo,(1:Int),Builtin.Slice.slicePlaces lo hi 1)) _ _ s
  rw [qig lo hi n]
  show wpAny _ _ (pure (((sIx n 0 lo:Nat):Int),(1:Int),Builtin.Slice.slicePlaces ((sIx n 0 lo:Nat):Int) ((sIx n n hi:Nat):Int) 1)) _ _ s
  rw [qiu]
  exact wpAny_pure h
theorem qk7 (xs:Array Value) (i k:Nat):((List.range k).filterMap fun (m:Nat)=>xs[((i:Int)+(m:Int)*1).toNat]?).toArray=((xs.toList.drop i).take k).toArray:=by
  have e:(fun (m:Nat)=>xs[((i:Int)+(m:Int)*1).toNat]?)=fun m=>xs[i+m]?:=by
    funext m
    have:((i:Int)+(m:Int)*1).toNat=i+m:=by omega
    rw [this]
  rw [e]
  have:=pick_run xs i k
  rw [List.filterMap_map] at this
  have e2:((fun x=>xs[x]?) ∘ fun x=>i+x)=fun m=>xs[i+m]?:=rfl
  rw [e2] at this
  rw [this]
theorem getItem_tuple_cut {t sl:Addr} {items:Array Value} {vl vu:Value} {lo hi:Option Int} {Q:Value→Shared→Prop} (ht:IsTup s.heap t items) (hs:s.heap.IsSliceOf sl vl vu .none) (pl:IsPart vl lo) (pu:IsPart vu hi)
    (hw:¬ (sIx items.size 0 lo=0∧sIx items.size items.size hi=items.size))
    (h:Q (.ref s.heap.objs.size) { s with heap:=s.heap.push { cls:=.type "tuple",data:=.seq ((items.toList.drop (sIx items.size 0 lo)).take (sIx items.size items.size hi - sIx items.size 0 lo)).toArray } })
    (hsz:items.size≤sizeLine):wpAny (model prog w) A (getItem (.ref t) (.ref sl)) Q E s:=by
  have htake:sizeOk (.seq ((items.toList.drop (sIx items.size 0 lo)).take (sIx items.size items.size hi - sIx items.size 0 lo)).toArray):=by
    show ((items.toList.drop (sIx items.size 0 lo)).take (sIx items.size items.size hi - sIx items.size 0 lo)).toArray.size≤sizeLine
    rw [List.size_toArray,List.length_take,List.length_drop,Array.length_toList]
    omega
  have hj:sIx items.size items.size hi≤items.size:=qoz _ _ (Nat.le_refl _) hi
  obtain ⟨os,hos,hcs,hds⟩:=id hs
  have hTs:s.TypeIs (.ref sl) "slice":=⟨os,hos,hcs⟩
  unfold getItem
  try with_reducible refine wpAny_holding ?_
  first | refine wpAny_bind (wpAny_pure ?_) | skip
  refine wpAny_bind (wpAny_sequenceKey ht.typeIs (by decide) ?_)
  refine wpAny_bind (wpAny_callSpecial?_slot (name:=Str.ofString "__getitem__") ht.typeIs PyProof.Rows.slot_tuple_getitem
    (wpAny_call_entry PyProof.Rows.slot_tuple_getitem ht.typeIs entry_tuple_getitem ?_ (args_tuple_getitem _ _)))
  show wpAny _ _ (Builtin.Tuple.tupleItemsOf (.ref t) >>= _) _ _ s
  refine wpAny_bind (tupleItemsOf_ ht ?_)
  refine wpAny_bind (wpAny_typeOf hTs ?_)
  rw [if_pos (by decide)]
  refine wpAny_bind (qcr hs pl pu ?_)
  have hno:¬ ((((sIx items.size 0 lo:Nat):Int) == 0 && (1:Int) == 1 && (sIx items.size items.size hi - sIx items.size 0 lo) == items.size)=true):=by
    intro q
    rw [Bool.and_eq_true,Bool.and_eq_true] at q
    have q1:((sIx items.size 0 lo:Nat):Int)=0:=eq_of_beq q.1.1
    have q2:sIx items.size items.size hi - sIx items.size 0 lo=items.size:=eq_of_beq q.2
    exact hw ⟨by omega,by omega⟩
  show wpAny _ _ (if (((sIx items.size 0 lo:Nat):Int) == 0 && (1:Int) == 1 && (sIx items.size items.size hi - sIx items.size 0 lo) == items.size)=true then _ else _) _ _ s
  rw [if_neg hno,qk7]
  first
    | exact wpAny_bind (m:=Builtin.Tuple.tupleExact _) (wpAny_newObj_type (wpAny_pure ⟨_,rfl,wpAny_pure h⟩) htake)
    | exact wpAny_bind (m:=Builtin.Tuple.tupleExact _) (wpAny_newObj_type (wpAny_bind (wpAny_pure (wpAny_pure ⟨_,rfl,wpAny_pure h⟩))) htake)
    | exact wpAny_bind (wpAny_bind (m:=Builtin.Tuple.tupleExact _) (wpAny_newObj_type (wpAny_pure (wpAny_pure ⟨_,rfl,wpAny_pure h⟩)) htake))
    | exact wpAny_bind (wpAny_bind (m:=Builtin.Tuple.tupleExact _) (wpAny_newObj_type (wpAny_pure ⟨_,rfl,wpAny_pure h⟩) htake))
end
end HT
namespace L2
open PySem PySem.Spec PyProof.Rows
abbrev TO:=St→Hp→(Option Int→Hp→Prop)→Prop
def PO (X:Cx) (e:Option Expr) (t:TO):Prop :=
  ∀ (pins:List (Addr × Obj)) (s:Shared) (σ:St) (H:Hp) (Q:Option Int→Hp→Prop),Inv X pins σ H s→t σ H Q →
    wpAny (model X.prog X.w) X.A (evalPart e X.env) (fun u s'=>∃ o H',Inv X pins σ H' s'∧IsPart u o∧Q o H') X.xe s
def qme:TO:=fun _ H Q=>Q none H
def qpI (t:TE):TO:=fun σ H Q=>t σ H fun x H1=>∃ i,x=.int i∧Q (some i) H1
section
variable {X : Cx} {e : Expr} {te : TE} {lo hi : Option Expr} {tl th : TO} {pos p2 : Pos}
theorem po_none:PO X none qme:=by
  intro pins s σ H Q I h
  rw [evalPart_none]
  exact wpAny_pure ⟨none,H,I,.none,h⟩
theorem qms (h:PE X e te):PO X (some e) (qpI te):=by
  intro pins s σ H Q I hw
  rw [evalPart_some]
  refine thn (h pins s σ H _ I hw) fun u s1 hq0=>?_
  obtain ⟨x,H1,I1,r1,q1⟩:=hq0
  obtain ⟨i,rfl,q⟩:=q1
  obtain ⟨t,rfl⟩:=r1
  exact ⟨some i,H1,I1,.int i t,q⟩
def SlR (X:Cx) (r:V→Option Int→Option Int→Hp→VK→Prop):Prop :=
  ∀ (pins:List (Addr × Obj)) (s:Shared) (σ:St) (H:Hp) (x:V) (v vl vu:Value) (lo hi:Option Int) (sl:Addr) (Q:VK),Inv X pins σ H s→RelV x v→s.heap.IsSliceOf sl vl vu .none→IsPart vl lo→IsPart vu hi→r x lo hi H Q →
    ∃ T id,typeLookup (.type T) "__getitem__"=pure (some (.builtin id))∧s.TypeIs v T∧wpAny (model X.prog X.w) X.A (getItem v (.ref sl)) (EP X pins σ Q) X.xe s
theorem SlR.or {r r':V→Option Int→Option Int→Hp→VK→Prop} (h:SlR X r) (h':SlR X r'):SlR X (fun x lo hi H Q=>r x lo hi H Q∨r' x lo hi H Q):=by
  intro pins s σ H x v vl vu lo hi sl Q I rx hs pl pu q
  rcases q with q | q
  · exact h pins s σ H x v vl vu lo hi sl Q I rx hs pl pu q
  · exact h' pins s σ H x v vl vu lo hi sl Q I rx hs pl pu q
def tSl (r:V→Option Int→Option Int→Hp→VK→Prop) (te:TE) (tl th:TO):TE:=fun σ H Q=>te σ H fun x H1=>tl σ H1 fun l H2=>th σ H2 fun u H3=>r x l u H3 Q
theorem qk2 {r:V→Option Int→Option Int→Hp→VK→Prop} (hr:SlR X r) (he:PE X e te) (hl:PO X lo tl) (hu:PO X hi th):PE X (.Subscript e (.Slice lo hi none p2) pos) (tSl r te tl th):=by
  intro pins s σ H Q I h
  refine Subscript_ (thn (he pins s σ H _ I h) fun v s1 ⟨x,H1,I1,r1,q1⟩=>?_)
  refine wpAny_Slice (thn (hl pins s1 σ H1 _ I1 q1) fun vl s2 ⟨l,H2,I2,pl,q2⟩=>thn (hu pins s2 σ H2 _ I2 q2) fun vu s3 ⟨u,H3,I3,pu,q3⟩=>?_)
  rw [evalPart_none]
  refine wpAny_pure ?_
  have I4:Inv X pins σ H3 { s3 with heap:=s3.heap.push { cls:=.type "slice",data:=.fields #[vl,vu,.none] } }:=I3.kept (t':=s3.toks) fun b ob q=>Heap.get?_push_of_some _ q
  obtain ⟨T,id,hT,ht,hg⟩:=hr pins { s3 with heap:=s3.heap.push { cls:=.type "slice",data:=.fields #[vl,vu,.none] } } σ H3 x v vl vu l u s3.heap.objs.size Q I4 r1 (Heap.IsSliceOf.new ..) pl pu q3
  show wpAny (model X.prog X.w) X.A (subscriptTail e (.Slice lo hi none p2) v (.ref s3.heap.objs.size)) (EP X pins σ Q) X.xe { s3 with heap:=s3.heap.push { cls:=.type "slice",data:=.fields #[vl,vu,.none] } }
  exact tail_any (ops:=[.ref s3.heap.objs.size,v]) ht hT hg (by with_unfolding_all rfl)
def qlq (xs:List V) (lo hi:Option Int):List V:=(xs.drop (HT.sIx xs.length 0 lo)).take (HT.sIx xs.length xs.length hi - HT.sIx xs.length 0 lo)
theorem qew (xs:List V) (lo hi:Option Int):(qlq xs lo hi).length≤xs.length:=by
  unfold qlq
  rw [List.length_take,List.length_drop]
  omega
def qqi (K:PySem.W.Frag):V→Option Int→Option Int→Hp→VK→Prop:=fun x lo hi H Q=>∃ a xs,x=.ref a∧SqT K H a xs ∧
  ¬ (HT.sIx xs.length 0 lo=0∧HT.sIx xs.length xs.length hi=xs.length)∧∀ p,H p=none→Q (.ref p) (upd H p (.tup (qlq xs lo hi)))
theorem sl_tup:SlR X (qqi X.K):=by
  intro pins s σ H x v vl vu lo hi sl Q I rx hs pl pu h
  obtain ⟨a,xs,rfl,hx,hw,q⟩:=h
  cases rx
  obtain ⟨its,r,ht,hz⟩:=I.tuple hx
  have hlen:its.toArray.size=xs.length:=by rw [List.size_toArray];exact r.length.symm
  refine ⟨"tuple",_,PyProof.Rows.slot_tuple_getitem.lookup,ht.typeIs,?_⟩
  refine HT.getItem_tuple_cut ht hs pl pu (by rw [hlen];exact hw) ?_ (by rw [hlen];exact hz)
  rw [hlen]
  refine ⟨.ref s.heap.objs.size,_,I.laid (t':=s.toks) (o:=.tup (qlq xs lo hi)) (fun b ob q=>Heap.get?_push_of_some _ q) (Nat.le_refl _) ?_,rfl,q _ (I.hok.fresh (Nat.le_refl _))⟩
  exact ⟨Nat.le_trans (qew xs lo hi) hz,_,(r.drop (HT.sIx xs.length 0 lo)).take (HT.sIx xs.length xs.length hi - HT.sIx xs.length 0 lo),IsTupD.new _ _⟩
def qpJ (K:PySem.W.Frag):R2:=fun x y H Q=>∃ a b xs ys,x=.ref a∧y=.ref b∧SqT K H a xs∧SqT K H b ys∧xs≠[]∧xs.length+ys.length≤sizeLine ∧
  (ys=[]→Q (.ref a) H)∧(ys≠[]→∀ p,H p=none→Q (.ref p) (upd H p (.tup (xs++ys))))
theorem Vals.nil_iff {xs:List V} {us:List Value} (r:Vals xs us):us=[]↔xs=[]:=by
  cases r with
  | nil=>simp
  | cons _ _=>simp
theorem qlI:OpR X (binaryOp .Add) (qpJ X.K):=by
  intro pins s σ H x y v u Q I rx ry h
  obtain ⟨a,b,xs,ys,rfl,rfl,ha,hb,hx,hz,q1,q2⟩:=h
  cases rx
  cases ry
  obtain ⟨its,r1,p1,_⟩:=I.tuple ha
  obtain ⟨its2,r2,p2,_⟩:=I.tuple hb
  refine HT.cat_tup p1 p2 (fun z=>hx (r1.nil_iff.mp z)) (fun z=>⟨.ref a,H,I,rfl,q1 (r2.nil_iff.mp z)⟩) (fun z=>?_) (by rw [← r1.length,← r2.length];exact hz)
  refine ⟨.ref s.heap.objs.size,_,I.laid (t':=s.toks) (o:=.tup (xs++ys)) (fun b ob q=>Heap.get?_push_of_some _ q) (Nat.le_refl _) ?_,rfl,q2 (fun w=>z (r2.nil_iff.mpr w)) _ (I.hok.fresh (Nat.le_refl _))⟩
  exact ⟨by rw [List.length_append];exact hz,_,r1.append r2,IsTupD.new _ _⟩
end
def ixN (n:Nat) (i:Int):Option Nat:=if 0≤i then (if i<n then some i.toNat else none) else if -(n:Int)≤i then some (i+n).toNat else none
def atI {α:Type} (xs:List α) (i:Int):Option α:=(ixN xs.length i).bind fun j=>xs[j]?
theorem qi8 {n:Nat} {i:Int} {j:Nat} (h:ixN n i=some j):seqIndex? i n=some j∧j<n∧-(n:Int)≤i∧i<n:=by
  unfold ixN at h
  by_cases h0:0≤i
  · rw [if_pos h0] at h
    by_cases h1:i<n
    · rw [if_pos h1] at h
      have e:i.toNat=j:=Option.some.inj h
      exact ⟨by rw [seqIndex_of h0 h1,e],by omega,by omega,h1⟩
    · rw [if_neg h1] at h;cases h
  · rw [if_neg h0] at h
    by_cases h1:-(n:Int)≤i
    · rw [if_pos h1] at h
      have e:(i+n).toNat=j:=Option.some.inj h
      exact ⟨by rw [seqIndex_neg (by omega) h1,e],by omega,h1,by omega⟩
    · rw [if_neg h1] at h;cases h
theorem qg0 {α:Type} {xs:List α} {i:Int} {v:α} (h:atI xs i=some v):∃ j,seqIndex? i xs.length=some j∧xs[j]?=some v∧j<xs.length∧-(xs.length:Int)≤i∧i<xs.length:=by
  unfold atI at h
  cases e:ixN xs.length i with
  | none=>rw [e] at h;cases h
  | some j =>
    rw [e] at h
    obtain ⟨h1,h2,h3,h4⟩:=qi8 e
    exact ⟨j,h1,h,h2,h3,h4⟩
theorem qmc {α:Type} {xs:List α} {j:Nat} {v:α} (h:xs[j]?=some v):atI xs (j:Int)=some v:=by
  have hj:j<xs.length:=(List.getElem?_eq_some_iff.mp h).1
  have e:ixN xs.length (j:Int)=some j:=by
    unfold ixN
    rw [if_pos (by omega),if_pos (by omega)];simp
  unfold atI;rw [e];exact h
def qhn (b:Expr):Prop:=∀ o i,subscripted b false o i=operate [o,i] (getItem o i)
def IxR (X:Cx) (r:R2):Prop :=
  ∀ (value slice:Expr) (pins:List (Addr × Obj)) (s:Shared) (σ:St) (H:Hp) (x y:V) (v u:Value) (Q:VK),Inv X pins σ H s→RelV x v→RelV y u→r x y H Q →
    subscripted slice false v u=operate [v,u] (getItem v u)→wpAny (model X.prog X.w) X.A (subscriptTail value slice v u) (EP X pins σ Q) X.xe s
def MtR (X:Cx) (id:String) (r:V→List V→Hp→VK→Prop):Prop :=
  ∀ (pins:List (Addr × Obj)) (s:Shared) (σ:St) (H:Hp) (x:V) (xs:List V) (v:Value) (us:List Value) (Q:VK),Inv X pins σ H s→RelV x v→Vals xs us→r x xs H Q →
    wpAny (model X.prog X.w) X.A (call (.builtin id) (v::us)) (EP X pins σ Q) X.xe s
section
variable {X : Cx} {a b : Expr} {ta tb : TE} {pos : Pos}
theorem qoo {r:R2} (hr:IxR X r) (ha:PE X a ta) (hb:PE X b tb) (hs:qhn b):PE X (.Subscript a b pos) (tOp r ta tb):=by
  intro pins s σ H Q I h
  exact Subscript_ (qpA ha hb I h fun v u s2 x y H2 I2 rx ry q=>hr a b pins s2 σ H2 x y v u Q I2 rx ry q (hs _ _))
def qrl (K:PySem.W.Frag):R2:=fun x y H Q=>∃ p xs i v,x=.ref p∧y=.int i∧SqL K H p xs∧atI xs i=some v∧Q v H
def qqL (K:PySem.W.Frag):R2:=fun x y H Q=>∃ p xs i v,x=.ref p∧y=.int i∧SqT K H p xs∧atI xs i=some v∧Q v H
def qqx:R2:=fun x y H Q=>∃ z i c,x=.str z∧y=.int i∧z.length≤sizeLine∧atI z.cps.toList i=some c∧Q (.str ⟨#[c]⟩) H
theorem qjP:IxR X (qrl X.K):=by
  intro value slice pins s σ H x y v u Q I rx ry h hs
  obtain ⟨p,xs,i,z,rfl,rfl,hq,he,q⟩:=h
  cases rx
  obtain ⟨t,rfl⟩:=ry
  obtain ⟨its,r,pl,hz⟩:=I.list hq
  obtain ⟨j,h1,h2,h3,h4,h5⟩:=qg0 he
  obtain ⟨w,ew,rw'⟩:=r.get h2
  have hl:=r.length
  have hn:=qdT
  have fin:EP X pins σ Q w s:=⟨z,H,I,rw',q⟩
  by_cases h0:0≤i
  · have hj:i.toNat=j:=by
      rw [seqIndex_of h0 h5] at h1
      exact Option.some.inj h1
    exact item_listR pl.isList h0 (by omega) (by rw [hj];simpa using ew) fin hs
  · have hj:(i+(its.toArray.size:Int)).toNat=j:=by
      rw [seqIndex_neg (by omega) h4] at h1
      rw [List.size_toArray,← hl]
      exact Option.some.inj h1
    exact subscriptTail_builtinR (x:=w) pl.isList.typeIs slot_list_getitem.lookup
      (wpAny_getItem_list_neg (Q:=fun r s'=>r=w∧EP X pins σ Q r s') pl.isList (by omega) (by rw [List.size_toArray] <;> omega) (by omega) (by rw [hj];simpa using ew) ⟨rfl,fin⟩) hs
theorem qnx:IxR X (qqL X.K):=by
  intro value slice pins s σ H x y v u Q I rx ry h hs
  obtain ⟨p,xs,i,z,rfl,rfl,hq,he,q⟩:=h
  cases rx
  obtain ⟨t,rfl⟩:=ry
  obtain ⟨its,r,pl,hz⟩:=I.tuple hq
  obtain ⟨j,h1,h2,h3,h4,h5⟩:=qg0 he
  obtain ⟨w,ew,rw'⟩:=r.get h2
  have hl:=r.length
  have hn:=qdT
  have fin:EP X pins σ Q w s:=⟨z,H,I,rw',q⟩
  exact subscriptTail_builtinR (x:=w) pl.typeIs slot_tuple_getitem.lookup
    (getItem_tuple (j:=j) (Q:=fun r s'=>r=w∧EP X pins σ Q r s') pl (by omega) (by omega) (by rw [List.size_toArray,← hl];exact h1) (by simpa using ew) ⟨rfl,fin⟩) hs
theorem qou:IxR X qqx:=by
  intro value slice pins s σ H x y v u Q I rx ry h hs
  obtain ⟨z,i,c,rfl,rfl,hz,he,q⟩:=h
  obtain ⟨t,rfl⟩:=rx
  obtain ⟨t',rfl⟩:=ry
  obtain ⟨j,h1,h2,h3,h4,h5⟩:=qg0 he
  have hl:z.cps.toList.length=z.length:=by simp [Str.length]
  rw [hl] at h1 h4 h5
  have hn:=qdT
  exact tail_any (typeIs_str s z t) slot_str_getitem.lookup (getItem_str (c:=c) (by
    have e1:decide (i < -(2 ^ 63:Int))=false:=decide_eq_false (by omega)
    have e2:decide (i≥2 ^ 63)=false:=decide_eq_false (by omega)
    rw [e1,e2,Bool.or_false]) (by rw [h1];simpa using h2) ⟨.str ⟨#[c]⟩,H,I.tok _,⟨_,rfl⟩,q⟩) hs
theorem qiy (its:List Value) (n j:Nat) (u:Value):Obj.mapSeq (·.setIfInBounds j u) { cls:=.type "list",data:=.seq its.toArray n }={ cls:=.type "list",data:=.seq (its.set j u).toArray n }:=by
  simp [Obj.mapSeq]
theorem Inv.lst {pins:List (Addr × Obj)} {σ:St} {H:Hp} {s:Shared} {p:Addr} {xs:List V} (I:Inv X pins σ H s) (h:H p=some (.lst xs)) :
    ∃ (its:List Value) (n:Nat),Vals xs its∧s.heap.get? p=some { cls:=.type "list",data:=.seq its.toArray n }∧xs.length≤sizeLine:=by
  obtain ⟨z,its,n,r,e⟩:=I.hok p _ h
  exact ⟨its,n,r,e,z⟩
theorem Inv.lstUpd {pins:List (Addr × Obj)} {σ:St} {H:Hp} {s:Shared} {p:Addr} {xs ys:List V} {its its':List Value} {n n':Nat} {f:Obj→Obj} (I:Inv X pins σ H s) (h:H p=some (.lst xs))
    (ho:s.heap.get? p=some { cls:=.type "list",data:=.seq its.toArray n }) (hf:f { cls:=.type "list",data:=.seq its.toArray n }={ cls:=.type "list",data:=.seq its'.toArray n' }) (r:Vals ys its') (hz:ys.length≤sizeLine) (t:Nat) :
    Inv X pins σ (upd H p (.lst ys)) { s with heap:=s.heap.update p f,toks:=t }:=by
  have e:(s.heap.update p f).get? p=some { cls:=.type "list",data:=.seq its'.toArray n' }:=by
    rw [Heap.get?_update_self f ho (by rw [hf] <;> rfl),hf]
  refine I.write (x:=p) (e:=p) (by rw [h];trivial) (.inl rfl) (fun b u hb q=>(Heap.get?_update_other _ _ (Ne.symm hb)).trans q) ⟨_,e⟩ ?_
  exact ⟨hz,its',n',r,e⟩
def qp6:V→V→V→Hp→(Hp→Prop)→Prop:=fun o i v H Q=>∃ p xs k j,o=.ref p∧i=.int k∧H p=some (.lst xs)∧ixN xs.length k=some j∧Q (upd H p (.lst (xs.set j v)))
theorem qhH:qp7 X qp6:=by
  intro pins s σ H o i v ov iv u Q I ro ri rv h
  obtain ⟨p,xs,k,j,rfl,rfl,hp,hj,q⟩:=h
  cases ro
  obtain ⟨t,rfl⟩:=ri
  obtain ⟨its,n,r,ho,hz⟩:=I.lst hp
  obtain ⟨h1,h2,h3,h4⟩:=qi8 hj
  have hl:=r.length
  have hn:=qdT
  have I':Inv X pins σ (upd H p (.lst (xs.set j v))) { s with heap:=s.heap.update p (Obj.mapSeq (·.setIfInBounds j u)) } :=
    I.lstUpd hp ho (qiy its n j u) (r.set rv j) (by rw [List.length_set];exact hz) s.toks
  by_cases h0:0≤k
  · have hk:k.toNat=j:=by
      rw [seqIndex_of h0 h4] at h1
      exact Option.some.inj h1
    exact PySem.W.ki_setAt ho h0 (by omega) (by rw [List.size_toArray,← hl];exact h4) (by rw [hk];exact ⟨_,I',q⟩)
  · have hk:(k+(its.toArray.size:Int)).toNat=j:=by
      rw [seqIndex_neg (by omega) h3] at h1
      rw [List.size_toArray,← hl]
      exact Option.some.inj h1
    exact PySem.W.ki_setBack ho (by omega) (by rw [List.size_toArray,← hl];exact h3) (by omega) (by rw [hk];exact ⟨_,I',q⟩)
theorem qf3 (lo hi:Option Int) (n:Nat):(sliceBounds lo hi none n).1=((HT.sIx n 0 lo:Nat):Int)∧(sliceBounds lo hi none n).2.1=((HT.sIx n n hi:Nat):Int)∧(sliceBounds lo hi none n).2.2=1:=by
  refine ⟨?_,?_,rfl⟩
  · cases lo with
    | none=>simp [sliceBounds,HT.sIx]
    | some i =>
      simp only [sliceBounds,HT.sIx,Option.getD_none,show (1:Int)>0 by decide,if_true]
      by_cases h:i<0
      · simp only [h,if_true] <;> omega
      · simp only [h,if_false] <;> omega
  · cases hi with
    | none=>simp [sliceBounds,HT.sIx]
    | some i =>
      simp only [sliceBounds,HT.sIx,Option.getD_none,show (1:Int)>0 by decide,if_true]
      by_cases h:i<0
      · simp only [h,if_true] <;> omega
      · simp only [h,if_false] <;> omega
theorem qfL (its:List Value) (lo hi:Option Int):slicePick its.toArray lo hi none=((its.drop (HT.sIx its.length 0 lo)).take (HT.sIx its.length its.length hi - HT.sIx its.length 0 lo)).toArray:=by
  obtain ⟨h1,h2,h3⟩:=qf3 lo hi its.toArray.size
  unfold slicePick
  rw [h1,h2,h3]
  simp only [sliceRange_one,pick_run,List.size_toArray] <;> rfl
def qqv (K:PySem.W.Frag):V→Option Int→Option Int→Hp→VK→Prop:=fun x lo hi H Q=>∃ a xs,x=.ref a∧SqL K H a xs∧∀ p,H p=none→Q (.ref p) (upd H p (.lst (qlq xs lo hi)))
theorem sl_list:SlR X (qqv X.K):=by
  intro pins s σ H x v vl vu lo hi sl Q I rx hs pl pu h
  obtain ⟨a,xs,rfl,hx,q⟩:=h
  cases rx
  obtain ⟨its,r,ht,hz⟩:=I.list hx
  have hlen:=r.length
  refine ⟨"list",_,slot_list_getitem.lookup,ht.isList.typeIs,?_⟩
  refine wpAny_getItem_list_slice ht.isList hs pl pu .none (by simp) ?_ (by rw [List.size_toArray] <;> omega)
  rw [qfL,← hlen]
  refine ⟨.ref s.heap.objs.size,_,I.laid (t':=s.toks) (o:=.lst (qlq xs lo hi)) (fun b ob q=>Heap.get?_push_of_some _ q) (Nat.le_refl _) ?_,rfl,q _ (I.hok.fresh (Nat.le_refl _))⟩
  exact ⟨Nat.le_trans (qew xs lo hi) hz,_,0,(r.drop (HT.sIx xs.length 0 lo)).take (HT.sIx xs.length xs.length hi - HT.sIx xs.length 0 lo),Heap.get?_push_size _ rfl⟩
def qfd:V→Bool
  | .non=>true
  | .bl _=>true
  | .int _=>true
  | .str _=>true
  | _=>false
def eqV:V→V→Bool
  | .non,.non=>true
  | .bl a,.bl b=>a == b
  | .bl a,.int b=>(if a then 1 else 0) == b
  | .int a,.bl b=>a == (if b then 1 else 0)
  | .int a,.int b=>a == b
  | .str a,.str b=>a == b
  | _,_=>false
theorem qoL {A:Around} {s:Shared} {y x:V} {u v:Value} (ry:RelV y u) (rx:RelV x v) (fy:qfd y=true) (fx:qfd x=true):SeqAt.EqAt A s u v (eqV y x):=by
  cases y with
  | non =>
    cases ry
    cases x with
    | non=>cases rx;exact SeqAt.EqAt.same _
    | bl b=>cases rx;exact SeqAt.EqAt.none_bool b
    | int b=>obtain ⟨t,rfl⟩:=rx;exact SeqAt.EqAt.none_int b t
    | str b=>obtain ⟨t,rfl⟩:=rx;exact SeqAt.EqAt.none_str b t
    | _=>exact absurd (show false=true from fx) Bool.false_ne_true
  | bl a =>
    cases ry
    cases x with
    | non=>cases rx;exact SeqAt.EqAt.bool_none a
    | bl b=>cases rx;exact SeqAt.EqAt.bool_bool a b
    | int b=>obtain ⟨t,rfl⟩:=rx;exact SeqAt.EqAt.bool_int a b t
    | str b=>obtain ⟨t,rfl⟩:=rx;exact SeqAt.EqAt.bool_str a b t
    | _=>exact absurd (show false=true from fx) Bool.false_ne_true
  | int a =>
    obtain ⟨t',rfl⟩:=ry
    cases x with
    | non=>cases rx;exact SeqAt.EqAt.int_none a t'
    | bl b=>cases rx;exact SeqAt.EqAt.int_bool a t' b
    | int b=>obtain ⟨t,rfl⟩:=rx;exact SeqAt.EqAt.int_int a t' b t
    | str b=>obtain ⟨t,rfl⟩:=rx;exact SeqAt.EqAt.int_str a t' b t
    | _=>exact absurd (show false=true from fx) Bool.false_ne_true
  | str a =>
    obtain ⟨t',rfl⟩:=ry
    cases x with
    | non=>cases rx;exact SeqAt.EqAt.str_none a t'
    | bl b=>cases rx;exact SeqAt.EqAt.str_bool a t' b
    | int b=>obtain ⟨t,rfl⟩:=rx;exact SeqAt.EqAt.str_int a t' b t
    | str b=>obtain ⟨t,rfl⟩:=rx;exact SeqAt.EqAt.str_str a t' b t
    | _=>exact absurd (show false=true from fx) Bool.false_ne_true
  | _=>exact absurd (show false=true from fy) Bool.false_ne_true
def eqU (x:V) (u:Value):Bool:=match u with
  | .none=>eqV .non x
  | .bool b=>eqV (.bl b) x
  | .int i _=>eqV (.int i) x
  | .str z _=>eqV (.str z) x
  | _=>false
theorem qlj {x y:V} {u:Value} (r:RelV y u) (f:qfd y=true):eqU x u=eqV y x:=by
  cases y with
  | non=>cases r;rfl
  | bl b=>cases r;rfl
  | int i=>obtain ⟨t,rfl⟩:=r;rfl
  | str z=>obtain ⟨t,rfl⟩:=r;rfl
  | _=>exact absurd (show false=true from f) Bool.false_ne_true
theorem qez {x:V}:∀ {xs:List V} {us:List Value},Vals xs us→xs.all qfd=true→us.any (eqU x)=xs.any fun y=>eqV y x
  | _,_,.nil,_=>rfl
  | y::xs,u::us,.cons r t,f=>by
    rw [List.all_cons,Bool.and_eq_true] at f
    rw [List.any_cons,List.any_cons,qlj r f.1,qez t f.2]
theorem qdp {A:Around} {s:Shared} {x:V} {v:Value} (rx:RelV x v) (fx:qfd x=true):∀ {xs:List V} {us:List Value},Vals xs us→xs.all qfd=true→∀ u∈us,SeqAt.EqAt A s u v (eqU x u)
  | _,_,.nil,_=>fun u hu=>by cases hu
  | y::xs,u::us,.cons r t,f=>fun u' hu=>by
    rw [List.all_cons,Bool.and_eq_true] at f
    rcases List.mem_cons.mp hu with rfl | hu
    · rw [qlj r f.1];exact qoL r rx f.1 fx
    · exact qdp rx fx t f.2 u' hu
def inV (x:V) (xs:List V):Bool:=xs.any fun y=>eqV y x
def rIn (K:PySem.W.Frag) (neg:Bool):R2:=fun x y H Q=>∃ p xs,y=.ref p∧(SqL K H p xs∨SqT K H p xs)∧qfd x=true∧xs.all qfd=true∧Q (.bl (if neg then !inV x xs else inV x xs)) H
theorem qjT:OpR X (compareOp .In) (rIn X.K false):=by
  intro pins s σ H x y v u Q I rx ry h
  obtain ⟨p,xs,rfl,hq,fx,fs,q⟩:=h
  cases ry
  rcases hq with hq | hq
  · obtain ⟨its,r,pl,hz⟩:=I.list hq
    refine SeqAt.in_listAt (eqU x) pl.isList (fun w hw=>qdp rx fx r fs w (by simpa using hw)) ⟨.bl _,H,I,rfl,?_⟩
    rw [show its.toArray.any (eqU x)=its.any (eqU x) by simp,qez r fs]
    exact q
  · obtain ⟨its,r,pl,hz⟩:=I.tuple hq
    refine SeqAt.in_tupleAt (eqU x) pl (fun w hw=>qdp rx fx r fs w (by simpa using hw)) ⟨.bl _,H,I,rfl,?_⟩
    rw [show its.toArray.any (eqU x)=its.any (eqU x) by simp,qez r fs]
    exact q
theorem qgu:OpR X (compareOp .NotIn) (rIn X.K true):=by
  intro pins s σ H x y v u Q I rx ry h
  obtain ⟨p,xs,rfl,hq,fx,fs,q⟩:=h
  cases ry
  rcases hq with hq | hq
  · obtain ⟨its,r,pl,hz⟩:=I.list hq
    refine SeqAt.notIn_listAt (eqU x) pl.isList (fun w hw=>qdp rx fx r fs w (by simpa using hw)) ⟨.bl _,H,I,rfl,?_⟩
    rw [show its.toArray.any (eqU x)=its.any (eqU x) by simp,qez r fs]
    exact q
  · obtain ⟨its,r,pl,hz⟩:=I.tuple hq
    refine SeqAt.notIn_tupleAt (eqU x) pl (fun w hw=>qdp rx fx r fs w (by simpa using hw)) ⟨.bl _,H,I,rfl,?_⟩
    rw [show its.toArray.any (eqU x)=its.any (eqU x) by simp,qez r fs]
    exact q
theorem qcF:qep X (.builtin "len") (fun xs H Q=>∃ p ys,xs=[.ref p]∧(SqL X.K H p ys∨SqT X.K H p ys)∧Q (.int ys.length) H):=by
  intro pins s σ H xs us Q I r h
  obtain ⟨p,ys,rfl,hq,q⟩:=h
  obtain ⟨u,rfl,rx⟩:=qgT r
  cases rx
  have hn:=qdT
  rcases hq with hq | hq
  · obtain ⟨its,r',pl,hz⟩:=I.list hq
    have hlen:=r'.length
    exact Calls.call_len_list pl.isList (by simp only [List.size_toArray] <;> omega) ⟨.int ys.length,H,I.tok _,⟨s.toks+1,by rw [List.size_toArray,hlen]⟩,q⟩
  · obtain ⟨its,r',pl,hz⟩:=I.tuple hq
    have hlen:=r'.length
    exact len_tuple pl (by simp only [List.size_toArray] <;> omega) ⟨.int ys.length,H,I.tok _,⟨s.toks+1,by rw [List.size_toArray,hlen]⟩,q⟩
theorem qgP:qep X (.builtin "len") (fun xs H Q=>∃ z,xs=[.str z]∧z.length≤sizeLine∧Q (.int z.length) H):=by
  intro pins s σ H xs us Q I r h
  obtain ⟨z,rfl,hz,q⟩:=h
  obtain ⟨u,rfl,t,rfl⟩:=qgT r
  have hn:=qdT
  exact len_str (by omega) ⟨.int z.length,H,I.tok _,⟨_,rfl⟩,q⟩
theorem qch:qep X (.type "tuple") (fun xs H Q=>∃ p ys,xs=[.ref p]∧((SqL X.K H p ys∧∀ l,H l=none→Q (.ref l) (upd H l (.tup ys)))∨(SqT X.K H p ys∧Q (.ref p) H))):=by
  intro pins s σ H xs us Q I r h
  obtain ⟨p,ys,rfl,h⟩:=h
  obtain ⟨u,rfl,rx⟩:=qgT r
  cases rx
  rcases h with ⟨hq,q⟩ | ⟨hq,q⟩
  · obtain ⟨its,r',pl,hz⟩:=I.list hq
    have hlen:=r'.length
    refine call_tuple_list pl.isList (fun h' kp=>?_) (by simp only [List.size_toArray] <;> omega)
    have I1:Inv X pins σ H { s with heap:=h' }:=I.kept (t':=s.toks) kp
    have I2:Inv X pins σ (upd H h'.objs.size (.tup ys)) { s with heap:=h'.push { cls:=.type "tuple",data:=.seq its.toArray } } :=
      I1.laid (t':=s.toks) (fun b o e=>Heap.get?_push_of_some _ e) (Nat.le_refl _) (show ObjOk X.prog X.w _ _ _ (.tup ys) from ⟨hz,its,r',IsTupD.new _ _⟩)
    exact ⟨.ref h'.objs.size,_,I2,rfl,q _ (I1.hok.fresh (Nat.le_refl _))⟩
  · obtain ⟨its,r',pl,hz⟩:=I.tuple hq
    exact call_tuple_same pl ⟨.ref p,H,I,rfl,q⟩
def tyV (K:PySem.W.Frag) (T:String) (x:V) (H:Hp):Prop:=match x with
  | .str _=>T="str"
  | .int _=>T="int"
  | .ref p=>(T="list"∧∃ xs,SqL K H p xs)∨(T="tuple"∧((∃ xs,H p=some (.tup xs))∨∃ o,K.lookup p=some o∧o.cls=.type "tuple"∧o.dict=none)) ∨
      (T="dict"∧((∃ kvs,H p=some (.dK kvs))∨∃ kvs,H p=some (.dT kvs)))∨(T="set"∧∃ S n,H p=some (.set S n))
  | _=>False
theorem qlw {pins:List (Addr × Obj)} {σ:St} {H:Hp} {s:Shared} {T:String} {x:V} {v:Value} (I:Inv X pins σ H s) (r:RelV x v) (ty:tyV X.K T x H) :
    s.TypeIs v T∧∀ a,v=.ref a→∃ ob,s.heap.get? a=some ob∧ob.dict=none:=by
  cases x with
  | str z =>
    obtain ⟨t,rfl⟩:=r
    cases (show T="str" from ty)
    exact ⟨typeIs_str s z t,fun _ e=>nomatch e⟩
  | int i =>
    obtain ⟨t,rfl⟩:=r
    cases (show T="int" from ty)
    exact ⟨typeIs_int s i t,fun _ e=>nomatch e⟩
  | ref p =>
    cases r
    rcases ty with ⟨rfl,xs,hq⟩ | ⟨rfl,⟨xs,hk⟩ | ⟨o,hk,hc,hd⟩⟩ | ⟨rfl,hk⟩ | ⟨rfl,S,n,hk⟩
    · obtain ⟨its,_,pl,_⟩:=I.list hq
      refine ⟨pl.isList.typeIs,fun a e=>?_⟩
      cases e
      obtain ⟨o,n,e,c,hd,_⟩:=pl
      exact ⟨o,e,hd⟩
    · obtain ⟨_,_,_,o,e,⟨c,hd⟩,_⟩:=I.hok p _ hk
      refine ⟨⟨o,e,c⟩,fun a e2=>?_⟩
      cases e2
      exact ⟨o,e,hd⟩
    · refine ⟨⟨o,I.kIn p o hk,hc⟩,fun a e=>?_⟩
      cases e
      exact ⟨o,I.kIn _ o hk,hd⟩
    · have z:∃ o,s.heap.get? p=some o∧o.ExactDict:=by
        rcases hk with ⟨kvs,hk⟩ | ⟨kvs,hk⟩
        · obtain ⟨_,_,_,_,o,_,_,e,ex,_⟩:=I.hok p _ hk
          exact ⟨o,e,ex⟩
        · obtain ⟨_,_,_,_,o,_,_,e,ex,_⟩:=I.hok p _ hk
          exact ⟨o,e,ex⟩
      obtain ⟨o,e,ex⟩:=z
      refine ⟨⟨o,e,ex.1⟩,fun a e2=>?_⟩
      cases e2
      exact ⟨o,e,ex.2.1⟩
    · obtain ⟨o,_,_,_,e,ex,_⟩:=I.hok p _ hk
      refine ⟨⟨o,e,ex.1⟩,fun a e2=>?_⟩
      cases e2
      exact ⟨o,e,ex.2.1⟩
  | _=>exact False.elim ty
def qqO (K:PySem.W.Frag) (T:String) (r:V→List V→Hp→VK→Prop) (to:TE):TE:=fun σ H Q=>to σ H fun x H1=>tyV K T x H1∧r x [] H1 Q
def tBM (K:PySem.W.Frag) (T:String) (r:V→List V→Hp→VK→Prop) (to:TE) (t:TA):TE:=fun σ H Q=>to σ H fun x H1=>tyV K T x H1∧t σ H1 fun xs H2=>r x xs H2 Q
variable {o e : Expr} {es : List Expr} {to : TE} {t : TA} {name : Str} {apos cpos : Pos} {T id : String} {r : V → List V → Hp → VK → Prop}
theorem qnn (pa:PlainAttrs T) (slot:Slot T name id) (hty:typeOf (.builtin id)=pure (.type "method_descriptor")) (hm:MtR X id r) (ho:PE X o to)
    (hbase:attributeBase o name X.env (eval o X.env)=eval o X.env:=by rfl) (hline:(apos.endLine == cpos.line)=true:=by rfl):PE X (.Call (.Attribute o name apos) [] [] cpos) (qqO X.K T r to):=by
  intro pins s σ H Q I h
  refine wpAny_Call_method0_late hbase hline (thn (ho pins s σ H _ I h) fun v s1 hq0=>?_)
  obtain ⟨x,H1,I1,r1,ty,q1⟩:=hq0
  obtain ⟨h1,h2⟩:=qlw I1 r1 ty
  exact ⟨T,id,pa,slot,hty,h1,h2,Calls.callWith_builtin rfl (PySem.evalArgs_none (hm pins s1 σ H1 x [] v [] Q I1 r1 .nil q1))⟩
theorem qmj (pa:PlainAttrs T) (slot:Slot T name id) (hty:typeOf (.builtin id)=pure (.type "method_descriptor")) (hm:MtR X id r) (ho:PE X o to) (ha:PA X (e::es) t)
    (hbase:attributeBase o name X.env (eval o X.env)=eval o X.env:=by rfl)
    (hfew:((backTo cpos (starEach (e::es) X.env)).all (fun x=>!x.1) && (backToKw cpos (keywordEach [] X.env)).all (fun x=>x.1.isSome)
      && decide ((e::es).length+([]:List Keyword).length+(if ([]:List Keyword).isEmpty then 0 else 1)<30))=true:=by rfl)
    (hline:(apos.endLine == cpos.line)=true:=by rfl) (hs:starEach (e::es) X.env=(false,eval e X.env)::starEach es X.env:=by rfl) (hplain:(backTo cpos (starEach es X.env)).any (·.1)=false:=by rfl) :
    PE X (.Call (.Attribute o name apos) (e::es) [] cpos) (tBM X.K T r to t):=by
  intro pins s σ H Q I h
  refine wpAny_Call_method_late hbase hfew hline rfl (thn (ho pins s σ H _ I h) fun v s1 hq0=>?_)
  obtain ⟨x,H1,I1,r1,ty,q1⟩:=hq0
  obtain ⟨h1,h2⟩:=qlw I1 r1 ty
  refine ⟨T,id,pa,slot,hty,h1,h2,?_⟩
  have hA:=ha cpos pins s1 σ H1 _ I1 q1
  rw [hs] at hA ⊢
  refine Calls.callWith_builtin (by show (false || (backTo cpos (starEach es X.env)).any (·.1))=false;rw [hplain] <;> rfl) (Calls.evalArgs_plain ?_)
  exact thn hA fun us s2 hq1=>by obtain ⟨vs,H2,I2,r2,q2⟩:=hq1;exact hm pins s2 σ H2 x vs v us Q I2 r1 r2 q2
end
def MtM (X:Cx) (id:String) (r:V→List V→Hp→VK→Prop):Prop :=
  ∀ (pins:List (Addr × Obj)) (s:Shared) (σ:St) (H:Hp) (x:V) (xs:List V) (v:Value) (us:List Value) (Q:VK),Inv X pins σ H s→RelV x v→Vals xs us→r x xs H Q →
    wpAny (model X.prog X.w) X.A (call (.builtin id) (v::us)) (EP X pins σ Q) X.xe s
theorem Vals.one:∀ {x:V} {us:List Value},Vals [x] us→∃ u,us=[u]∧RelV x u
  | _,_,.cons r .nil=>⟨_,rfl,r⟩
theorem Vals.zero:∀ {us:List Value},Vals [] us→us=[]
  | _,.nil=>rfl
theorem Vals.dropLast {xs:List V} {us:List Value} (h:Vals xs us):Vals xs.dropLast us.dropLast:=by
  induction h with
  | nil=>exact .nil
  | cons r t ih =>
    cases t with
    | nil=>exact .nil
    | cons q t'=>exact .cons r ih
theorem Vals.rep {xs:List V} {us:List Value} (h:Vals xs us):∀ k:Nat,Vals (List.replicate k xs).flatten (List.replicate k us).flatten
  | 0=>.nil
  | k+1=>by
    rw [List.replicate_succ,List.replicate_succ,List.flatten_cons,List.flatten_cons]
    exact Vals.append h (Vals.rep h k)
theorem qij {α:Type} (l:List α):l.eraseIdx (l.length - 1)=l.dropLast:=by
  induction l with
  | nil=>rfl
  | cons a r ih =>
    cases r with
    | nil=>rfl
    | cons b r =>
      have e:(a::b::r).length - 1=((b::r).length - 1)+1:=by
        have h1:(a::b::r).length=r.length+2:=rfl
        have h2:(b::r).length=r.length+1:=rfl
        omega
      rw [e,List.eraseIdx_cons_succ,ih]
      all_goals rfl
theorem qee (its:List Value):∀ (k:Nat) (acc:List Value),
    List.foldl (fun x1 x2=>x1++x2) acc.toArray (List.replicate k its.toArray)=(acc++(List.replicate k its).flatten).toArray
  | 0,acc=>by simp
  | k+1,acc=>by
    have e:acc.toArray++its.toArray=(acc++its).toArray:=by simp
    have e2:(acc++its)++(List.replicate k its).flatten=acc++(List.replicate (k+1) its).flatten:=by
      rw [List.replicate_succ,List.flatten_cons,List.append_assoc]
    rw [← e2,← qee its k (acc++its),← e,List.replicate_succ,List.foldl_cons]
section
variable {X : Cx} {pins : List (Addr × Obj)} {σ : St} {H : Hp} {s : Shared} {l b : Addr} {xs ys zs : List V}
theorem Inv.lset {its its':List Value} {n:Nat} {f:Array Value→Array Value} {t':Nat} (I:Inv X pins σ H s) (hH:H l=some (.lst xs))
    (e:s.heap.get? l=some { cls:=.type "list",data:=.seq its.toArray n }) (hf:f its.toArray=its'.toArray) (hv:Vals ys its') (hz:ys.length≤sizeLine) :
    Inv X pins σ (upd H l (.lst ys)) { s with heap:=s.heap.update l (Obj.mapSeq f),toks:=t' }:=by
  have q:=PySem.IsL.update e f
  rw [hf] at q
  refine I.write (x:=l) (e:=l) (by rw [hH];exact trivial) (.inl rfl) (fun b' u hb hu=>(Heap.get?_update_other s.heap (Obj.mapSeq f) (Ne.symm hb)).trans hu) ⟨_,q⟩ ?_
  exact ⟨hz,its',_,hv,q⟩
theorem Inv.lnew {its:List Value} {t':Nat} (I:Inv X pins σ H s) (hv:Vals ys its) (hz:ys.length≤sizeLine) :
    Inv X pins σ (upd H s.heap.objs.size (.lst ys)) { s with heap:=s.heap.push { cls:=.type "list",data:=.seq its.toArray },toks:=t' } :=
  I.laid (fun _ _ q=>Heap.get?_push_of_some _ q) (Nat.le_refl _) ⟨hz,its,0,hv,Heap.get?_push_size _ rfl⟩
theorem Inv.fresh (I:Inv X pins σ H s):H s.heap.objs.size=none:=I.hok.fresh (Nat.le_refl _)
theorem Inv.lstM (I:Inv X pins σ H s) (hH:H l=some (.lst xs)):xs.length≤sizeLine∧∃ (its:List Value) (n:Nat),Vals xs its∧xs.length=its.length∧s.heap.get? l=some { cls:=.type "list",data:=.seq its.toArray n }:=by
  obtain ⟨z,its,n,r,e⟩:=I.hok l _ hH
  exact ⟨z,its,n,r,r.length,e⟩
theorem qkK {n:Nat} (h:n≤sizeLine):Builtin.List.listTooLong n=false:=by
  unfold Builtin.List.listTooLong
  exact decide_eq_false (by omega)
end
section
variable {X : Cx}
def qmD:V→List V→Hp→VK→Prop:=fun x vs H Q=>∃ l xs y,x=.ref l∧vs=[y]∧H l=some (.lst xs)∧xs.length<sizeLine∧Q .non (upd H l (.lst (xs++[y])))
theorem qgD:MtM X "list.append" qmD:=by
  intro pins s σ H x vs v us Q I rx rv h
  obtain ⟨l,xs,y,rfl,rfl,hH,hz,q⟩:=h
  cases rx
  obtain ⟨u,rfl,ru⟩:=rv.one
  obtain ⟨z,its,n,r,hl,e⟩:=I.lstM hH
  refine call_meets F.slot_list_append ⟨_,e,rfl⟩ F.entry_list_append (F.args_list_append_2 _ _) (PySem.list_append l its.toArray n u (by rw [List.size_toArray];omega)) ⟨e,?_⟩
  refine ⟨.non,_,I.lset (its':=its++[u]) hH e (by simp) (r.append (.cons ru .nil)) ?_,rfl,q⟩
  rw [List.length_append,List.length_singleton]
  omega
def qqX:V→List V→Hp→VK→Prop:=fun x vs H Q=>∃ l xs y,x=.ref l∧vs=[]∧H l=some (.lst xs)∧xs[xs.length - 1]?=some y∧Q y (upd H l (.lst xs.dropLast))
theorem qoC:MtM X "list.pop" qqX:=by
  intro pins s σ H x vs v us Q I rx rv h
  obtain ⟨l,xs,y,rfl,rfl,hH,hy,q⟩:=h
  cases rx
  have hus:=rv.zero
  subst hus
  obtain ⟨z,its,n,r,hl,e⟩:=I.lstM hH
  obtain ⟨u,hu,ru⟩:=r.get hy
  have hy':its.toArray[its.toArray.size - 1]?=some u:=by
    show its.toArray[its.length - 1]?=some u
    rw [← Array.getElem?_toList,← hl]
    exact hu
  refine call_meets F.slot_list_pop ⟨_,e,rfl⟩ F.entry_list_pop (F.args_list_pop_1 _) (MeetsSeq.list_pop_last l its.toArray n u hy' (by rw [List.size_toArray];omega)) ⟨e,?_⟩
  refine ⟨y,_,I.lset (its':=its.dropLast) hH e ?_ r.dropLast ?_,ru,q⟩
  · show its.toArray.eraseIdxIfInBounds (its.toArray.size - 1)=its.dropLast.toArray
    rw [List.size_toArray,List.eraseIdxIfInBounds_toArray,qij]
  · rw [List.length_dropLast]
    omega
def qq1:R2:=fun x y H Q=>∃ l b xs zs,x=.ref l∧y=.ref b∧H l=some (.lst xs)∧H b=some (.lst zs)∧xs.length+zs.length≤sizeLine∧∀ p,H p=none→Q (.ref p) (upd H p (.lst (xs++zs)))
theorem qox:OpR X (binaryOp .Add) qq1:=by
  intro pins s σ H x y v u Q I rx ry h
  obtain ⟨l,b,xs,zs,rfl,rfl,hH,hB,hz,q⟩:=h
  cases rx
  cases ry
  obtain ⟨z,its,n,r,hl,e⟩:=I.lstM hH
  obtain ⟨z2,its2,n2,r2,hl2,e2⟩:=I.lstM hB
  refine PySem.P.add_list e e2 ?_ (by rw [List.size_toArray,List.size_toArray];omega)
  have ea:its.toArray++its2.toArray=(its++its2).toArray:=by simp
  rw [ea]
  exact ⟨.ref _,_,I.lnew (t':=s.toks) (r.append r2) (by rw [List.length_append];omega),rfl,q _ I.fresh⟩
def qq2:R2:=fun x y H Q=>∃ l k xs,x=.ref l∧y=.int k∧H l=some (.lst xs)∧-(2 ^ 63)≤k∧k<2 ^ 63∧xs.length*k.toNat≤sizeLine ∧
  ∀ p,H p=none→Q (.ref p) (upd H p (.lst (List.replicate k.toNat xs).flatten))
theorem qhj {α:Type} (xs:List α) (k:Nat):(List.replicate k xs).flatten.length=k*xs.length:=by
  induction k with
  | zero=>simp
  | succ k ih=>rw [List.replicate_succ,List.flatten_cons,List.length_append,ih,Nat.succ_mul,Nat.add_comm]
theorem qnP:OpR X (binaryOp .Mult) qq2:=by
  intro pins s σ H x y v u Q I rx ry h
  obtain ⟨l,k,xs,rfl,rfl,hH,h1,h2,hz,q⟩:=h
  cases rx
  obtain ⟨t,rfl⟩:=ry
  obtain ⟨z,its,n,r,hl,e⟩:=I.lstM hH
  have hlen:its.toArray.size*k.toNat≤sizeLine:=by rw [List.size_toArray,← hl];exact hz
  have hcap:¬ its.toArray.size*k.toNat>(2 ^ 63 - 1) / 8:=by
    have:(sizeLine:Nat)≤(2 ^ 63 - 1) / 8:=by decide
    omega
  have hfit:¬ (!Builtin.List.listFitsIndex k)=true:=by
    rw [fitsIndex_both h1 h2]
    exact Bool.false_ne_true
  have hlong:¬ Builtin.List.listTooLong (its.toArray.size*k.toNat)=true:=by
    rw [qkK hlen]
    exact Bool.false_ne_true
  have hnew:List.foldl (fun x1 x2=>x1++x2) #[] (List.replicate (if its.toArray.isEmpty=true then 0 else k.toNat) its.toArray)=(List.replicate k.toNat its).flatten.toArray:=by
    have f0:∀ m:Nat,List.foldl (fun x1 x2=>x1++x2) #[] (List.replicate m its.toArray)=(List.replicate m its).flatten.toArray:=fun m=>by
      have:=qee its m []
      rw [List.nil_append] at this
      exact this
    rw [f0]
    cases its with
    | nil=>simp
    | cons a r'=>rw [if_neg (by simp)]
  refine wpAny_binaryOp_repeat_ref (T:="list") (U:="int") (by decide) ⟨_,e,rfl⟩ (fun s'=>typeIs_int s' k t) noFill_list_mul F.fills_int_mul F.slot_int_rmul repeat_list F.slot_int_index.lookup
    (call_meets F.slot_int_rmul (typeIs_int s k t) F.entry_int_rmul (F.args_int_rmul_2 _ _) (int___rmul___int_list k t l its.toArray n)
      ⟨e,rfl,⟨_,e,rfl⟩,call_meets F.slot_list_mul ⟨_,e,rfl⟩ F.entry_list_mul (F.args_list_mul_2 _ _) (AutoListH.list___mul___list_int_3 l its.toArray n k t hfit hcap hlong) ⟨e,?_⟩⟩)
  rw [hnew]
  exact ⟨.ref _,_,I.lnew (t':=s.toks) (r.rep k.toNat) (by rw [qhj,Nat.mul_comm];exact hz),rfl,q _ I.fresh⟩
end
section
variable {prog : Program} {w : World} {A : Around} {E : Value → Shared → Prop} {s : Shared}
end
section
variable {X : Cx}
end
end L2
namespace Att
open PySem PySem.W PySem.Calls PyProof.Rows
theorem qeF {P:Params} {h:Heap}:∀ (ns:List Int) (vs:List Value),WellAll P h vs (ns.map WData.int)→IntsAre vs ns:=by
  intro ns
  induction ns with
  | nil =>
    intro vs w
    rw [List.map_nil] at w
    cases w
    exact .nil
  | cons n ns ih =>
    intro vs w
    rw [List.map_cons] at w
    cases w with
    | cons a b =>
      cases a
      exact .cons _ _ (ih _ b)
theorem qjS {l:OpenLaw} {n:Nat} (hn:l.most=some n) {P:Params} {h:Heap} {args:List WData} {vals:List Value}
    (hpre:l.row.toRowW.claim.pre args=true) (hwl:WellAll P h vals args) :
    ∃ a vs ns,vals=[Value.ref a]∧args=[WData.list (ns.map WData.int)]∧h.get? a=some { cls:=.type "list",data:=.seq vs.toArray }∧IntsAre vs ns∧ns.length≤n:=by
  have hsh:WShape.hasAll [] args [.list .int]=true:=(pre_splitW hpre).1
  have hc:l.pre.holds [] { args:=args }=true:=(pre_splitW hpre).2
  obtain ⟨d,r,rfl,h1,h2⟩:=hasAllW_cons hsh
  obtain rfl:=hasAllW_nil h2
  obtain ⟨xs,rfl,h3⟩:=hasW_list h1
  obtain ⟨ns,rfl⟩:=items_int h3
  have hlen:ns.length≤n:=by
    unfold OpenLaw.pre at hc
    have h4:(WTm.not (.lt (.lit (.int (n:Int))) (.len (.arg 0)))).holds [] { args:=[.list (ns.map .int)] }=true:=by
      have h4:=(holds_andW hc).1
      rw [hn] at h4
      exact h4
    have h5:=condW_of h4 (w_not (w_lt w_lit (w_len_list (w_arg rfl))))
    rw [List.length_map] at h5
    refine Nat.le_of_not_lt fun q=>?_
    have q':(n:Int)<((ns.length:Nat):Int):=by omega
    first
      | (rw [decide_eq_true q'] at h5;exact absurd h5 (by decide))
      | (simp at h5;omega)
  cases hwl with
  | cons w1 w2 =>
    cases w2
    cases w1 with
    | list ho hall=>exact ⟨_,_,ns,rfl,rfl,ho,qeF ns _ hall,hlen⟩
theorem qjn (l:OpenLaw) (args:List WData):l.row.toRowW.claim.post args (.bool true) args=true :=
  postW_of (r:=l.row.toRowW) (X:=(true == true))
    (show WShape.has [] (.bool true) .bool=true by first | rfl | decide | simp [WShape.has,WShape.arms,WShape.armsAll])
    (show (WTm.eq .res (.lit (.bool true))).value [] { args:=args,res:=some (.bool true),after:=args }=some (.bool (true == true)) from w_eq_bool (w_res rfl) w_lit) rfl
theorem attach_call {l:OpenLaw} {n:Nat} {q:Program} {loose:List Str} {XP:(Str→Option Value)→Heap→Prop} {YP:World→Heap→Prop} {d:DefRec}
    (hn:l.most=some n) (hdf:d.params.defaults=[])
    (call:∀ (w:World) (s₀ s₁:Shared) (mg mb:Str→Option Value) (fa:Addr) (o:Obj) (pm cd doc:Value) (a:Addr) (vs:List Value) (ns:List Int),
      Ground q loose [] XP w s₀ mg mb s₁.heap→YP w s₁.heap →
      s₁.heap.get? fa=some o→o.data=.func (docDef d.name d.params d.body d.scope pm cd doc)→s₁.heap.CodeRec cd d.name→mg d.name=some (.ref fa) →
      s₁.heap.get? a=some { cls:=.type "list",data:=.seq vs.toArray }→IntsAre vs ns→ns.length≤n→s₁.gens=#[] →
      codeAny (model l.prog w) callerA (.call (.ref fa) ⟨[.ref a],[]⟩) (fun r s'=>r=.ok (.ret (.bool true))∧OldK s₁.heap s'.heap∧s'.os=s₁.os∧AllBare s'.gens) s₁) :
    WalkO q loose XP YP l.row.toRowW d [] (fun f vs=>PySem.call f vs):=by
  intro w s₀ s₁ mg mb G Y fa o pm cd doc dV kV ho hd hcd hD hmg hg args vals as hpre hlay hrd hwl hlo
  obtain rfl:dV=.none:=Dflts.none hD hdf
  obtain rfl:kV=.none:=Dflts.noKw hD
  obtain ⟨a,vs,ns,rfl,rfl,hobj,hints,hlen⟩:=qjS hn hpre hwl
  refine enter_call (codeAny_mono (call w s₀ s₁ mg mb fa o pm cd doc a vs ns G Y ho (fd_plain hd) hcd hmg hobj hints hlen hg) fun r s' hq=>?_)
  obtain ⟨rfl,h2,h3,h4⟩:=hq
  exact ⟨.inl ⟨.bool true,.bool true,[],rfl,fun _=>rfl,.bool true,qjn l _,fun _=>⟨List.Pairwise.nil,fun _ hm=>(nomatch hm)⟩⟩,h2,h3,h4⟩
section
variable {prog : Program} {w : World} {A : Around} {E : Value → Shared → Prop} {s : Shared} {K : Frag}
end
end Att
namespace L2
open PySem PySem.Spec PyProof.Rows
theorem qfW:∀ {vs:List Value} {ns:List Int},IntsAre vs ns→Vals (ns.map V.int) vs
  | _,_,.nil=>.nil
  | _,_,.cons n t h=>.cons ⟨t,rfl⟩ (qfW h)
def qpc (H:Hp):Prop:=∀ b,H b=none∨∃ o xs,H b=some (.frz o (.lst xs))
theorem qkG {P:Program} {w:World} {K:PySem.W.Frag} {mg mb:Str→Option Value} {CX:CXT} {k:Nat} {fa a:Addr} {fd:FuncData} {x:Str} {sp:Sp} {s₁:Shared} {vs:List Value} {ns:List Int}
    (KX:K.In s₁.heap) (hns:s₁.heap.Ns mainGlobals mg) (hb:s₁.heap.Ns builtinsNs mb) (hbb:∀ x:Str,x≠"__name__"→mb x=bootBuiltins x) (hlim:s₁.heap.NoLimit)
    (hbm:∃ bm ob,mg "__builtins__"=some (.ref bm)∧bm≠builtinsNs∧s₁.heap.get? bm=some ob∧ob.cls=.type "module"∧ob.dict=some builtinsNs∧ob.data=.plain) (hse:s₁.heap.NoSeer) (hdg:∃ mc,s₁.heap.Ns cStatics mc∧mc "sys.int_max_str_digits"=none) (hg:s₁.gens=#[])
    (ha:s₁.heap.get? a=some { cls:=.type "list",data:=.seq vs.toArray }) (hi:IntsAre vs ns) (hl:ns.length≤sizeLine) (hr:Room k callerA)
    (F:∀ base:Heap,K.In base→base.Ns mainGlobals mg→FnOk P w K mg base CX k fa fd [x] sp) (hbind:∀ (s:Shared) (u:Value),BindsTo s fd ⟨[u],[]⟩ [(x,u)])
    (hsp:∀ H:Hp,qpc H→SqL K H a (ns.map V.int)→sp [.ref a] H (fun v _=>v=.bl true) fun _ _ _=>False)
    (hCX:∀ H e s',CX [] H s₁ (fun _ _ _=>False) e s'→False) :
    codeAny (model P w) callerA (.call (.ref fa) ⟨[.ref a],[]⟩) (fun r s'=>r=.ok (.ret (.bool true))∧OldK s₁.heap s'.heap∧s'.os=s₁.os∧AllBare s'.gens) s₁:=by
  have rv:=qfW hi
  have lenV:=hi.length
  have core:∀ H:Hp,qpc H→SqL K H a (ns.map V.int)→HOk P w H s₁.heap→(∀ b,H b≠none→b=a)→(H a≠none→K.lookup a=none) →
      codeAny (model P w) callerA (.call (.ref fa) ⟨[.ref a],[]⟩) (fun r s'=>r=.ok (.ret (.bool true))∧OldK s₁.heap s'.heap∧s'.os=s₁.os∧AllBare s'.gens) s₁:=by
    intro H hO hS hok hA hK
    have base_of:∀ {b:Addr} {o:Obj},s₁.heap.get? b=some o→H b=none→(qk6 s₁.heap H).get? b=some o:=fun e n=>qkk e n
    have noA:∀ {b:Addr} {o:Obj} {es:Array DictEntry} {ep:Nat},s₁.heap.get? b=some o→o.data=.dict es ep→H b=none:=fun {b o es ep} e d=>by
      cases q:H b with
      | none=>rfl
      | some u =>
        have e':b=a:=hA b (by rw [q];simp)
        subst e'
        rw [ha] at e;cases e
        have d':Data.seq vs.toArray _=Data.dict es ep:=d
        cases d'
    have nsK:∀ {b:Addr} {m:Str→Option Value},s₁.heap.Ns b m→(qk6 s₁.heap H).Ns b m:=fun {b m} hq0=>by obtain ⟨o,es,ep,e,d,r⟩:=hq0;exact ⟨o,es,ep,base_of e (noA e d),d,r⟩
    have hKb:K.In (qk6 s₁.heap H):=fun b o e=>base_of (KX b o e) (by
      cases q:H b with
      | none=>rfl
      | some u =>
        have e':b=a:=hA b (by rw [q];simp)
        subst e'
        rw [hK (by rw [q];simp)] at e;cases e)
    have hM:Mod K mg (qk6 s₁.heap H):=⟨hKb,nsK hns,⟨mb,nsK hb,hbb⟩,let ⟨mc,h1,h2⟩:=hlim;⟨mc,nsK h1,h2⟩,let ⟨bm,ob,b1,b2,b3,b4,b5,b6⟩:=hbm;⟨bm,ob,b1,b2,base_of b3 (by
      cases q:H bm with
      | none=>rfl
      | some u =>
        have e':bm=a:=hA bm (by rw [q];simp)
        rw [e',ha] at b3;cases b3;injection b4 with z;exact absurd z (by decide)),b4,b5,b6⟩,
      ⟨let ⟨mc,h1,h2⟩:=hse.statics;⟨mc,nsK h1,h2⟩,let ⟨mc,h1,h2⟩:=hse.mods;⟨mc,nsK h1,h2⟩,let ⟨mc,h1,h2⟩:=hse.imp;⟨mc,nsK h1,h2⟩,let ⟨m1,bm,ob,n1,b1,b3,b4,b5⟩:=hse.main;⟨m1,bm,ob,nsK n1,b1,base_of b3 (by
      cases q:H bm with
      | none=>rfl
      | some u =>
        have e':bm=a:=hA bm (by rw [q];simp)
        rw [e',ha] at b3;cases b3;injection b4 with z;exact absurd z (by decide)),b4,b5⟩⟩,let ⟨mc,h1,h2⟩:=hdg;⟨mc,nsK h1,h2⟩⟩
    have e0:Env0 P w K mg (qk6 s₁.heap H) callerA [] s₁ H:=⟨rfl,hM,fun b o e=>qlP e,Nat.le_of_eq (qjQ _ _),trivial,fun b hb=>absurd (show b∈([]:List Addr) from hb) (by simp),hok,.of_eq hg⟩
    refine codeAny_mono ((F _ hKb (nsK hns)).run callerA [] s₁ H ⟨[.ref a],[]⟩ [.ref a] [.ref a] _ _ hr e0 (hbind s₁ (.ref a)) (.cons rfl .nil) (hsp H hO hS)) fun r s' h=>?_
    cases r with
    | error e=>exact (hCX H e s' h).elim
    | ok fl =>
      cases fl with
      | next=>exact False.elim h
      | brk=>exact False.elim h
      | cont=>exact False.elim h
      | ret u =>
        obtain ⟨v,H',os,bare,un,hok',r',q⟩:=h
        have q':v=.bl true:=q
        subst q'
        obtain rfl:u=Value.bool true:=r'
        refine ⟨rfl,OldK.of_keep fun b o e=>?_,os,bare⟩
        cases q:H b with
        | none=>exact un.keep b o e q (by intro z;exact absurd (show b∈([]:List Addr) from z) (by simp)) (by simp)
        | some u =>
          rcases hO b with z | ⟨ob,xs,z⟩
          · rw [q] at z;cases z
          · have z2:=un.frzs b ob _ z
            obtain ⟨e1,_⟩:=hok b _ z
            obtain ⟨e2,_⟩:=hok' b _ z2
            rw [e] at e1;cases e1
            exact e2
  cases hk:K.lookup a with
  | some o =>
    have e:=KX a o hk
    rw [ha] at e
    cases e
    refine core (fun _=>none) (fun _=>.inl rfl) (.inr ⟨_,vs.toArray,_,hk,rfl,rfl,rfl,by rw [List.size_toArray,lenV];exact hl,by simpa using rv⟩) (fun b u z=>by have z':(none:Option HO)=some u:=z;cases z') (fun b z=>absurd rfl z) fun z=>absurd rfl z
  | none =>
    refine core (fun b=>if b=a then some (.frz { cls:=.type "list",data:=.seq vs.toArray } (.lst (ns.map V.int))) else none) (fun b=>?_) (.inl (.inr ⟨{ cls:=.type "list",data:=.seq vs.toArray },if_pos rfl⟩)) (fun b u z=>?_) (fun b z=>?_) fun _=>hk
    · by_cases hb:b=a
      · exact .inr ⟨_,_,if_pos hb⟩
      · exact .inl (if_neg hb)
    · by_cases hb:b=a
      · have z':=(if_pos hb).symm.trans z
        cases z'
        subst hb
        exact ⟨ha,by rw [List.length_map];exact hl,vs,_,rv,ha⟩
      · have z':=(if_neg hb).symm.trans z
        cases z'
    · by_cases hb:b=a
      · exact hb
      · exact absurd (if_neg hb) z
theorem walk_of {l:PySem.W.OpenLaw} {n k:Nat} {q:Program} {loose:List Str} {XP:(Str→Option Value)→Heap→Prop} {YP:World→Heap→Prop} {d:DefRec} {K:Params→PySem.W.Frag} {CX:World→CXT} {sp:World→Sp} {x:Str}
    (hn:l.most=some n) (hn2:n≤sizeLine) (hdf:d.params.defaults=[]) (hi:importsNone q=true) (hr:Room k callerA)
    (hY:∀ (w:World) (h:Heap),YP w h→(K w.params).In h)
    (F:∀ (w:World) (mg:Str→Option Value) (fa:Addr) (h:Heap),(K w.params).In h→h.Ns mainGlobals mg→mg d.name=some (.ref fa) →
      ∃ fd:FuncData,(∀ (s:Shared) (u:Value),BindsTo s fd ⟨[u],[]⟩ [(x,u)]) ∧
        ∀ base:Heap,(K w.params).In base→base.Ns mainGlobals mg→FnOk l.prog w (K w.params) mg base (CX w) k fa fd [x] (sp w))
    (hsp:∀ (w:World) (H:Hp) (a:Addr) (ns:List Int),ns.length≤n→qpc H→SqL (K w.params) H a (ns.map V.int)→sp w [.ref a] H (fun v _=>v=.bl true) fun _ _ _=>False)
    (hCX:∀ (w:World) (H:Hp) (s:Shared) (e:Value) (s':Shared),CX w [] H s (fun _ _ _=>False) e s'→False) :
    PySem.W.WalkO q loose XP YP l.row.toRowW d [] (fun f vs=>PySem.call f vs):=by
  refine Att.attach_call hn hdf fun w s₀ s₁ mg mb fa o pm cd doc a vs ns G Y ho hd hcd hmg hobj hints hlen hg=>?_
  have KX:=hY w _ Y
  obtain ⟨fd,hb,hF⟩:=F w mg fa _ KX G.T.g hmg
  exact qkG KX G.T.g G.T.b G.T.builtins G.T.nolimit G.T.bmain (G.T.seer hi) G.T.nodigits hg hobj hints (Nat.le_trans hlen hn2) hr hF hb (fun H hO hS=>hsp w H a ns hlen hO hS) fun H e s'=>hCX w H s₁ e s'
end L2
/- THE LAST THEOREM (shape;LID,My.* are yours):
   My.Adr: a structure of the addresses that your layer names (classes,functions);My.Txt K t: a structure (Prop) of the equations over K;
   My.txt_mk:{K} {implicit addresses ..} (e1:nsIn K mainGlobals "law"=some (some (.ref f))) (e2:K.lookup f=some ⟨oc,od,.func (fnOf "law" "law" params body scope dV kV doc pm an cdv ct),sl⟩) (e3:codeIn K cdv "law"=true) ..:∃ t,My.Txt K t
set_option maxRecDepth 100000 in
set_option maxHeartbeats 0 in
theorem PySem.Challenge.cw_LID_holds : PySem.Challenge.rw_LID.Holds := by
  w_on;o_law;k_head;(case hw=>w_witness2)
  k_fill
  refine L2.walk_of (l:=PySem.Challenge.rw_LID) (n:=63) (k:=40) (x:="script") (CX:=fun w=>..) (sp:=fun _=>My.sp_law) rfl (by decide) rfl ⟨rfl,by decide,by decide⟩ (fun w h Y=>PySem.W.kIn_of Y) ?F ?S ?C
  case F =>
    intro w mg fa h KX G hmg
    have T:∃ t,My.Txt (L2.KOf KX) t:=by
      dsimp only [L2.KOf]                          -- K must stand as «<heap const> w.params» for k_is
      refine' My.txt_mk ?e1 ?e2 ?e3 ..
      (case e1=>PySem.W.k_is)                    -- in the order: a name -> its address -> its object -> its parts
      (case e2=>PySem.W.k_is)
      ..
    obtain ⟨t,T⟩:=T
    have e0:=hmg.symm.trans (PySem.W.mg_of KX G T.law)
    cases e0                                       -- fa is the law's own address
    exact ⟨_,fun s u=>.of_eq rfl,fun base kb nb=>My.law_fn T kb nb⟩     -- if «.of_eq rfl» comes too early: refine' ⟨_,?b,fun base kb nb=>My.law_fn T kb nb⟩;exact fun s u=>.of_eq rfl
  case S=>exact fun w H a ns hl hO hS=>..
  case C=>exact ..
(the tactic k_is has no namespace: write k_is) -/
namespace L2
open PySem PySem.Spec PyProof.Rows
def qcB (s:Stmt):Arguments:=match s with
  | .FunctionDef _ a _ _ _ _ _ _ _ _=>a
  | _=>{ posonlyargs:=[],args:=[],vararg:=none,kwonlyargs:=[],kw_defaults:=[],kwarg:=none,defaults:=[] }
def qby (s:Stmt):List Stmt:=match s with
  | .FunctionDef _ _ b _ _ _ _ _ _ _=>b
  | _=>[]
def qah (s:Stmt):Scope:=match s with
  | .FunctionDef _ _ _ _ _ _ sc _ _ _=>sc
  | _=>{ kind:=.function,names:=[],isGenerator:=false,isCoroutine:=false }
abbrev CX0:CXT:=fun _ _ _ _ _ _=>False
abbrev E0:XK:=fun _ _ _=>False
theorem qlZ {X:Cx}:qh5 CX0 X E0:=fun _ _ _ _ _ _ _ h=>h.elim
structure Fun (K:PySem.W.Frag) (x qual:Str) (st:Stmt) (f:Addr) (fd:FuncData):Prop where
  ex:∃ (oc:Value) (od:Option Addr) (kV doc pm:Value) (an:Option Addr) (cdv ct:Value) (osl:Array (Option Value)),
    fd=PySem.W.fnOf x qual (qcB st) (qby st) (qah st) .none kV doc pm an cdv ct∧K.lookup f=some ⟨oc,od,.func fd,osl⟩∧PySem.W.codeIn K cdv qual=true
  kp:PySem.W.keepIn K (.ref f)=true
section
variable {P : Program} {w : World} {K : PySem.W.Frag} {mg : Str → Option Value} {base : Heap}
theorem Fun.ok {x qual:Str} {st:Stmt} {f:Addr} {fd:FuncData} {N ps:List Str} {k:Nat} {sp:Sp} (F:Fun K x qual st f fd) (S:FnScope N ps (qah st)) (len:∀ vs H Q E,sp vs H Q E→vs.length=ps.length)
    (hbody:∀ (cdv:Value) (A:Around) (outer:List Env) (s:Shared) (H:Hp) (vs:List V) (Q:VK) (E:XK),Room k (A.deeper (envOfC qual (qah st) s.heap.objs.size f cdv))→sp vs H Q E →
      ∃ t,PSs (qk9 CX0 P w K mg base N qual (qah st) f cdv A outer s H E).nox (qby st) t∧t { nx:=fun _ H'=>Q .non H',rt:=Q } (start N vs) H):FnOk P w K mg base CX0 (k+1) f fd ps sp:=by
  obtain ⟨oc,od,kV,doc,pm,an,cdv,ct,osl,rfl,lk,hcd⟩:=F.ex
  refine qnw lk hcd S len fun A outer s H vs Q E hr hsp=>?_
  obtain ⟨t,h,q⟩:=hbody cdv A outer s H vs Q E hr hsp
  exact ⟨t,h.nox,q⟩
theorem Fun.binds {x qual:Str} {st:Stmt} {f:Addr} {fd:FuncData} {ps:List Str} (F:Fun K x qual st f fd)
    (h:∀ (kV doc pm:Value) (an:Option Addr) (cdv ct:Value) (us:List Value),us.length=ps.length→bindArgs (PySem.W.fnOf x qual (qcB st) (qby st) (qah st) .none kV doc pm an cdv ct) ⟨us,[]⟩=pure (ps.zip us)):Binds K fd ps []:=by
  obtain ⟨oc,od,kV,doc,pm,an,cdv,ct,osl,rfl,lk,hcd⟩:=F.ex
  exact .all (h kV doc pm an cdv ct)
theorem qnl {x qual:Str} {st:Stmt} {f:Addr} {oc:Value} {od an:Option Addr} {osl:Array (Option Value)} {kV doc pm cdv ct:Value} (l:K.lookup f=some ⟨oc,od,.func (PySem.W.fnOf x qual (qcB st) (qby st) (qah st) .none kV doc pm an cdv ct),osl⟩)
    (c:PySem.W.codeIn K cdv qual=true) (k:PySem.W.keepIn K (.ref f)=true):Fun K x qual st f (PySem.W.fnOf x qual (qcB st) (qby st) (qah st) .none kV doc pm an cdv ct):=⟨⟨oc,od,kV,doc,pm,an,cdv,ct,osl,rfl,l,c⟩,k⟩
end
theorem qay {n:Nat} (h:n≤1000):n<sizeLine:=Nat.lt_of_le_of_lt h (by decide)
section
variable {X : Cx}
theorem pv (i:Nat) {x:Str} {pos:Pos} (hN:X.N[i]?=some x:=by rfl) (hv:Vis X.env.scope x:=by first | exact Or.inl rfl | exact Or.inr (Or.inl rfl) | exact Or.inr (Or.inr rfl)) (hd:(x == ("__debug__":Str))=false:=by decide)
    (hcd:(x == ("__classdict__":Str))=false:=by decide):PE X (.Name x pos) (qm5 i):=qoH hN hv hd hcd
end
theorem qni {A B:Prop} (h:B):if false=true then A else B:=by
  rw [if_neg Bool.false_ne_true]
  exact h
theorem qnk {A B:Prop} (h:A):if true=true then A else B:=by
  rw [if_pos rfl]
  exact h
def Same (H H':Hp):Prop:=∀ b o,H b=some o→H' b=some o
theorem Same.refl (H:Hp):Same H H:=fun _ _ h=>h
theorem Same.trans {H H1 H2:Hp} (a:Same H H1) (b:Same H1 H2):Same H H2:=fun c o h=>b c o (a c o h)
theorem Same.free {H H':Hp} (e:Same H H') {l:Addr} (h:H' l=Option.none):H l=Option.none:=by
  cases q:H l with
  | none=>rfl
  | some o =>
    rw [e l o q] at h
    cases h
theorem Same.seq {K:PySem.W.Frag} {H H':Hp} {a:Addr} {xs:List V} (e:Same H H') (h:SqL K H a xs):SqL K H' a xs:=by
  rcases h with (h | ⟨o,h⟩) | h
  · exact .inl (.inl (e _ _ h))
  · exact .inl (.inr ⟨o,e _ _ h⟩)
  · exact .inr h
section
variable {κ : Type} [DecidableEq κ]
def qfY (kvs:List (κ × V)) (k:κ):Option V:=(kvs.find? fun kv=>decide (kv.1=k)).map (·.2)
def qfN (kvs:List (κ × V)) (k:κ) (v:V):List (κ × V) :=
  if (kvs.any fun kv=>decide (kv.1=k))=true then kvs.map (fun kv=>if kv.1=k then (kv.1,v) else kv) else kvs++[(k,v)]
theorem qd2 {p:κ × V} {r:List (κ × V)} {k:κ} (e:p.1=k):qfY (p::r) k=some p.2:=by simp [qfY,List.find?_cons,e]
theorem qd1 {p:κ × V} {r:List (κ × V)} {k:κ} (e:¬ p.1=k):qfY (p::r) k=qfY r k:=by simp [qfY,List.find?_cons,e]
theorem qhL (k:κ):∀ kvs:List (κ × V),(kvs.any fun kv=>decide (kv.1=k))=(qfY kvs k).isSome
  | []=>rfl
  | p::r=>by
    rw [List.any_cons]
    by_cases e:p.1=k
    · simp only [qd2 e,decide_eq_true e,Bool.true_or,Option.isSome_some]
    · rw [qd1 e,decide_eq_false e,Bool.false_or];exact qhL k r
theorem qdb (kvs:List (κ × V)) (k:κ) (v:V):(qfN kvs k v).length≤kvs.length+1:=by
  unfold qfN
  split
  · rw [List.length_map];omega
  · rw [List.length_append,List.length_cons,List.length_nil];omega
theorem RelO.isSome_eq {o:Option V} {u:Option Value} (r:RelO o u):o.isSome=u.isSome:=by
  cases o with
  | none=>cases u with
    | none=>rfl
    | some _=>exact (show False from r).elim
  | some _=>cases u with
    | none=>exact (show False from r).elim
    | some _=>rfl
theorem KV.val {kvs:List (κ × V)} {vs:List (κ × Value)} (r:KV kvs vs) (k:κ):RelO (qfY kvs k) (valueAt vs k):=by
  unfold KV at r
  induction r with
  | nil=>exact True.intro
  | @cons p q ps qs h t ih =>
    obtain ⟨h1,h2⟩:=h
    by_cases e:p.1=k
    · have e':q.1=k:=h1.symm.trans e
      have b:valueAt (q::qs) k=some q.2:=by simp [valueAt,List.find?_cons,e']
      rw [qd2 e,b];exact h2
    · have e':¬ q.1=k:=fun z=>e (h1.trans z)
      have b:valueAt (q::qs) k=valueAt qs k:=by simp [valueAt,List.find?_cons,e']
      rw [qd1 e,b];exact ih
theorem KV.any {kvs:List (κ × V)} {vs:List (κ × Value)} (r:KV kvs vs) (k:κ):(kvs.any fun kv=>decide (kv.1=k))=vs.any fun kv=>decide (kv.1=k):=by
  unfold KV at r
  induction r with
  | nil=>rfl
  | cons h t ih=>rw [List.any_cons,List.any_cons,ih,h.1]
theorem KV.repl {kvs:List (κ × V)} {vs:List (κ × Value)} (r:KV kvs vs) (k:κ) {y:V} {u:Value} (ry:RelV y u) :
    KV (kvs.map fun kv=>if kv.1=k then (kv.1,y) else kv) (vs.map fun kv=>if kv.1=k then (kv.1,u) else kv):=by
  unfold KV at r ⊢
  induction r with
  | nil=>exact .nil
  | @cons p q ps qs h t ih =>
    rw [List.map_cons,List.map_cons]
    refine .cons ?_ ih
    obtain ⟨h1,h2⟩:=h
    by_cases e:p.1=k
    · rw [if_pos e,if_pos (h1.symm.trans e)];exact ⟨h1,ry⟩
    · rw [if_neg e,if_neg (fun z=>e (h1.trans z))];exact ⟨h1,h2⟩
theorem KV.put {kvs:List (κ × V)} {vs:List (κ × Value)} (r:KV kvs vs) (k:κ) {y:V} {u:Value} (ry:RelV y u):KV (qfN kvs k y) (stored vs k u):=by
  unfold qfN stored
  rw [r.any k]
  by_cases e:(vs.any fun kv=>decide (kv.1=k))=true
  · rw [if_pos e,if_pos e];exact r.repl k ry
  · rw [if_neg e,if_neg e];exact Paired.snoc r ⟨rfl,ry⟩
theorem KV.length {kvs:List (κ × V)} {vs:List (κ × Value)} (r:KV kvs vs):kvs.length=vs.length:=Paired.length r
end
theorem qid {P:Program} {w:World} {k:Key} {u:Value} (r:RelV (kV k) u):(qa9 P w).is k u=true:=by
  cases k with
  | inl i=>obtain ⟨t,e⟩:=(show ∃ t,u=Value.int i t from r);subst e;exact qg4 P w i t
  | inr x=>obtain ⟨t,e⟩:=(show ∃ t,u=Value.str x t from r);subst e;exact qhc P w x t
theorem qgp {P:Program} {w:World}:∀ {ks:List Key} {us:List Value},Vals (ks.map kV) us→ItemsAre (qa9 P w) ks us
  | [],_,r=>by rw [List.map_nil] at r;cases r;exact .nil
  | k::ks,_,r=>by
    rw [List.map_cons] at r
    cases r with
    | cons h t=>exact .cons (qid h) (qgp t)
abbrev KT (H:Hp):List (List Key × V)→List (List Key × Addr × Value)→Prop:=Paired fun p q=>p.1=q.1∧H q.2.1=some (.tup (p.1.map kV))∧RelV p.2 q.2.2
theorem KT.val {H:Hp} {kvs:List (List Key × V)} {xs:List (List Key × Addr × Value)} (r:KT H kvs xs) (k:List Key):RelO (qfY kvs k) ((atKey xs k).map (·.2)):=by
  induction r with
  | nil=>exact True.intro
  | @cons p q ps qs h t ih =>
    obtain ⟨h1,_,h2⟩:=h
    by_cases e:p.1=k
    · have e':q.1=k:=h1.symm.trans e
      have b:atKey (q::qs) k=some q.2:=by simp [atKey,List.find?_cons,e']
      rw [qd2 e,b];exact h2
    · have e':¬ q.1=k:=fun z=>e (h1.trans z)
      have b:atKey (q::qs) k=atKey qs k:=by simp [atKey,List.find?_cons,e']
      rw [qd1 e,b];exact ih
theorem KT.repl {H:Hp} {kvs:List (List Key × V)} {xs:List (List Key × Addr × Value)} (r:KT H kvs xs) (k:List Key) {y:V} {u:Value} (ry:RelV y u) :
    KT H (kvs.map fun kv=>if kv.1=k then (kv.1,y) else kv) (xs.map (putAt k u)):=by
  induction r with
  | nil=>exact .nil
  | @cons p q ps qs h t ih =>
    rw [List.map_cons,List.map_cons]
    refine .cons ?_ ih
    obtain ⟨h1,h2,h3⟩:=h
    unfold putAt
    by_cases e:p.1=k
    · rw [if_pos e,if_pos (h1.symm.trans e)];exact ⟨h1,h2,ry⟩
    · rw [if_neg e,if_neg (fun z=>e (h1.trans z))];exact ⟨h1,h2,h3⟩
theorem KT.put {H:Hp} {kvs:List (List Key × V)} {xs:List (List Key × Addr × Value)} (r:KT H kvs xs) (k:List Key) {b:Addr} {y:V} {u:Value} (hb:H b=some (.tup (k.map kV))) (ry:RelV y u) :
    KT H (qfN kvs k y) (storedH xs k b u):=by
  have e:(kvs.any fun kv=>decide (kv.1=k))=(atKey xs k).isSome:=by
    rw [qhL,(r.val k).isSome_eq,Option.isSome_map]
  unfold qfN storedH
  rw [e]
  by_cases q:(atKey xs k).isSome=true
  · rw [if_pos q,if_pos q];exact r.repl k ry
  · rw [if_neg q,if_neg q];exact Paired.snoc r ⟨rfl,hb,ry⟩
theorem KT.keeps {H H':Hp} {kvs:List (List Key × V)} {xs:List (List Key × Addr × Value)} (r:KT H kvs xs) (ht:∀ b ys,H b=some (.tup ys)→H' b=some (.tup ys)):KT H' kvs xs :=
  Paired.mapP r fun _ _ z=>⟨z.1,ht _ _ z.2.1,z.2.2⟩
section
variable {P : Program} {w : World} {H : Hp} {h : Heap} {a : Addr}
theorem qnB {u:HO} (ok:HOk P w H h) (e:Rd H a u):ObjOk P w H h a u:=e.ok ok
theorem qi0 {kvs:List (Key × V)} (ok:HOk P w H h) (e:Rd H a (.dK kvs)):kvs.length≤sizeLine∧(a == sysModules)=false∧∃ vs,KV kvs vs∧h.DictOf (qa9 P w) a vs :=
  show ObjOk P w H h a (.dK kvs) from qnB ok e
theorem ql5 {kvs:List (Key × V)} (ok:HOk P w H h) (e:H a=some (.dK kvs)):kvs.length≤sizeLine∧(a == sysModules)=false∧∃ vs,KV kvs vs∧h.DictOf (qa9 P w) a vs:=qi0 ok (.inl e)
theorem qgC {ks:List Key} (ok:HOk P w H h) (e:H a=some (.tup (ks.map kV))):(tupleKind (qa9 P w)).is h ks a:=by
  obtain ⟨_,its,r,o,h1,⟨h2,_⟩,n,h3⟩:=(show ObjOk P w H h a (.tup (ks.map kV)) from ok a _ e)
  exact ⟨o,its.toArray,n,h1,h2,h3,by simpa using qgp r⟩
theorem qja {kvs:List (List Key × V)} (ok:HOk P w H h) (e:Rd H a (.dT kvs)):kvs.length≤sizeLine∧(a == sysModules)=false ∧
    ∃ xs,KT H kvs xs∧h.DictOfH (tupleKind (qa9 P w)) a xs:=by
  obtain ⟨z,y,xs,r,o,es,ep,h1,h2,h3,h4,h5⟩:=(show ObjOk P w H h a (.dT kvs) from qnB ok e)
  refine ⟨z,y,xs,r,o,es,ep,h1,h2,h3,h4,fun x hx=>?_,h5⟩
  have all:∀ {l:List (List Key × V)} {m:List (List Key × Addr × Value)},KT H l m→∀ x∈m,(tupleKind (qa9 P w)).is h x.1 x.2.1:=by
    intro l m q
    induction q with
    | nil=>intro x hx;exact nomatch hx
    | @cons p q ps qs hq t ih =>
      intro x hx
      rcases List.mem_cons.mp hx with e | hx
      · subst e
        exact qgC ok (by rw [← hq.1];exact hq.2.1)
      · exact ih x hx
  exact all r x hx
theorem qp4 {kvs:List (List Key × V)} (ok:HOk P w H h) (e:H a=some (.dT kvs)):kvs.length≤sizeLine∧(a == sysModules)=false ∧
    ∃ xs,KT H kvs xs∧h.DictOfH (tupleKind (qa9 P w)) a xs:=qja ok (.inl e)
end
def DGet (H:Hp) (a:Addr) (y:V) (r:Option V):Prop :=
  (∃ kvs k,Rd H a (.dK kvs)∧y=kV k∧r=qfY kvs k)∨∃ kvs k b,Rd H a (.dT kvs)∧y=.ref b∧H b=some (.tup (k.map kV))∧r=qfY kvs k
def DPut (H:Hp) (a:Addr) (y v:V) (H':Hp):Prop :=
  (∃ kvs k,H a=some (.dK kvs)∧y=kV k∧kvs.length<sizeLine∧H'=upd H a (.dK (qfN kvs k v))) ∨
  ∃ kvs k b,H a=some (.dT kvs)∧y=.ref b∧H b=some (.tup (k.map kV))∧kvs.length<sizeLine∧H'=upd H a (.dT (qfN kvs k v))
theorem DGet.k {H:Hp} {a:Addr} {kvs:List (Key × V)} {k:Key} (e:H a=some (.dK kvs)):DGet H a (kV k) (qfY kvs k):=.inl ⟨kvs,k,.inl e,rfl,rfl⟩
theorem DGet.t {H:Hp} {a b:Addr} {kvs:List (List Key × V)} {k:List Key} (e:H a=some (.dT kvs)) (eb:H b=some (.tup (k.map kV))):DGet H a (.ref b) (qfY kvs k):=.inr ⟨kvs,k,b,.inl e,rfl,eb,rfl⟩
theorem DPut.k {H:Hp} {a:Addr} {kvs:List (Key × V)} {k:Key} {v:V} (e:H a=some (.dK kvs)) (hl:kvs.length<sizeLine):DPut H a (kV k) v (upd H a (.dK (qfN kvs k v))):=.inl ⟨kvs,k,e,rfl,hl,rfl⟩
theorem DPut.t {H:Hp} {a b:Addr} {kvs:List (List Key × V)} {k:List Key} {v:V} (e:H a=some (.dT kvs)) (eb:H b=some (.tup (k.map kV))) (hl:kvs.length<sizeLine) :
    DPut H a (.ref b) v (upd H a (.dT (qfN kvs k v))):=.inr ⟨kvs,k,b,e,rfl,eb,hl,rfl⟩
section
variable {X : Cx} {pins : List (Addr × Obj)} {σ : St} {H : Hp} {s : Shared} {a : Addr} {y v : V} {u r : Value} {o : Option V} {A : Around} {E : Value → Shared → Prop}
theorem Inv.big (I:Inv X pins σ H s):sysModules<s.heap.objs.size:=by
  have h:mainGlobals<s.heap.objs.size:=(I.mod.glob.keeps I.bk).lt
  exact Nat.lt_trans (by decide) h
theorem qjA {Q:Value→Shared→Prop} (hu:A.units+1<cLine) (I:Inv X pins σ H s) (g:DGet H a y (some v)) (ry:RelV y u) (h:∀ w' s',Inv X pins σ H s'→RelV v w'→Q w' s') :
    wpAny (model X.prog X.w) A (getItem (.ref a) u) Q E s:=by
  rcases g with ⟨kvs,k,e,ey,l⟩ | ⟨kvs,k,b,e,ey,eb,l⟩
  · subst ey
    obtain ⟨z,hd,vs,rel,dd⟩:=qi0 I.hok e
    obtain ⟨w',hw,rw'⟩:=RelO.some_of (v:=v) (o:=valueAt vs k) (by rw [l];exact rel.val k)
    exact wpAny_getItem_of (qid ry) dd.mapOf hw (h w' _ (I.tok _) rw')
  · subst ey
    cases (show u=Value.ref b from ry)
    obtain ⟨z,hd,xs,rel,dd⟩:=qja I.hok e
    obtain ⟨w',hw,rw'⟩:=RelO.some_of (v:=v) (o:=(atKey xs k).map (·.2)) (by rw [l];exact rel.val k)
    obtain ⟨p,hp,hp2⟩:=Option.map_eq_some_iff.mp hw
    refine wpAny_getItem_heap (tupleKind_room_in1 hu) (qgC I.hok eb) dd hp ?_
    rw [hp2]
    exact h w' _ (I.tok _) rw'
theorem qrz {Q:Value→Shared→Prop} (hu:A.units+1<cLine) (I:Inv X pins σ H s) (g:DGet H a y o) (ry:RelV y u) (h:∀ s',Inv X pins σ H s'→Q (.bool o.isSome) s') :
    wpAny (model X.prog X.w) A (compareOp .In u (.ref a)) Q E s:=by
  rcases g with ⟨kvs,k,e,ey,l⟩ | ⟨kvs,k,b,e,ey,eb,l⟩
  · subst ey
    obtain ⟨z,hd,vs,rel,dd⟩:=qi0 I.hok e
    refine wpAny_in_of (qid ry) hd dd.mapOf ?_
    rw [← (rel.val k).isSome_eq,← l]
    exact h _ (I.tok _)
  · subst ey
    cases (show u=Value.ref b from ry)
    obtain ⟨z,hd,xs,rel,dd⟩:=qja I.hok e
    refine wpAny_in_heap (tupleKind_room_in1 hu) (qgC I.hok eb) hd dd ?_
    have q:=(rel.val k).isSome_eq
    rw [Option.isSome_map] at q
    rw [← q,← l]
    exact h _ (I.tok _)
theorem qmb {Q:Value→Shared→Prop} (hu:A.units+1<cLine) (I:Inv X pins σ H s) (g:DGet H a y o) (ry:RelV y u) (h:∀ s',Inv X pins σ H s'→Q (.bool (!o.isSome)) s') :
    wpAny (model X.prog X.w) A (compareOp .NotIn u (.ref a)) Q E s:=by
  rcases g with ⟨kvs,k,e,ey,l⟩ | ⟨kvs,k,b,e,ey,eb,l⟩
  · subst ey
    obtain ⟨z,hd,vs,rel,dd⟩:=qi0 I.hok e
    refine wpAny_notIn_of (qid ry) hd dd.mapOf ?_
    rw [← (rel.val k).isSome_eq,← l]
    exact h _ (I.tok _)
  · subst ey
    cases (show u=Value.ref b from ry)
    obtain ⟨z,hd,xs,rel,dd⟩:=qja I.hok e
    refine wpAny_notIn_heap (tupleKind_room_in1 hu) (qgC I.hok eb) hd dd ?_
    have q:=(rel.val k).isSome_eq
    rw [Option.isSome_map] at q
    rw [← q,← l]
    exact h _ (I.tok _)
theorem qha {h':Heap} {t':Nat} {ob:HO} (I:Inv X pins σ H s) (mu:Mut (H a)) (hs:Heap.SameBut a s.heap h') (he:∃ q,h'.get? a=some q) (new:ObjOk X.prog X.w (upd H a ob) h' a ob) :
    Inv X pins σ (upd H a ob) { s with heap:=h',toks:=t' } :=
  I.write (x:=a) (e:=a) mu (.inl rfl) (fun b q hb z=>(hs.2 b hb).trans z) he new
theorem qlr {P:Program} {w:World} {H':Hp} {h':Heap} {kvs:List (Key × V)} {vs:List (Key × Value)} (z:kvs.length≤sizeLine) (hd:(a == sysModules)=false) (rel:KV kvs vs) (dd:h'.DictOf (qa9 P w) a vs) :
    ObjOk P w H' h' a (.dK kvs):=⟨z,hd,vs,rel,dd⟩
theorem qj6 {H':Hp} {Q:Unit→Shared→Prop} (hu:A.units+1<cLine) (I:Inv X pins σ H s) (g:DPut H a y v H') (ry:RelV y u) (rv:RelV v r) (h:∀ s',Inv X pins σ H' s'→Q () s') :
    wpAny (model X.prog X.w) A (setItem (.ref a) u r) Q E s:=by
  rcases g with ⟨kvs,k,e,ey,l,eH⟩ | ⟨kvs,k,b,e,ey,eb,l,eH⟩
  · subst ey eH
    obtain ⟨z,hd,vs,rel,dd⟩:=ql5 I.hok e
    have hz:vs.length≤sizeLine:=by rw [← rel.length];exact z
    have hl:(qfN kvs k v).length≤sizeLine:=by have:=qdb kvs k v;omega
    refine wpAny_setItem_pairs (hsz:=hz) (qid ry) dd fun h' dd' hs=>h _ ?_
    have he:∃ q,h'.get? a=some q:=let ⟨q,_,_,hq,_⟩:=dd';⟨q,hq⟩
    exact qha I (by rw [e];exact True.intro) hs he (qlr hl hd (rel.put k rv) dd')
  · subst ey eH
    cases (show u=Value.ref b from ry)
    obtain ⟨z,hd,xs,rel,dd⟩:=qp4 I.hok e
    have hz:xs.length≤sizeLine:=by rw [← Paired.length rel];exact z
    have hl:(qfN kvs k v).length≤sizeLine:=by have:=qdb kvs k v;omega
    refine wpAny_setItem_heap (hsz:=hz) (tupleKind_room_in1 hu) (qgC I.hok eb) dd fun h' dd' hs=>h _ ?_
    obtain ⟨q,es,ep,hq,h2,h3,h4,_,h5⟩:=dd'
    refine qha I (by rw [e];exact True.intro) hs ⟨q,hq⟩ ⟨hl,hd,_,(rel.put k eb rv).keeps fun c ys ec=>?_,q,es,ep,hq,h2,h3,h4,h5⟩
    rw [qar (qp0 ec e (fun z=>nomatch z))]
    exact ec
end
section
variable {X : Cx} {pins : List (Addr × Obj)} {σ : St} {H : Hp} {s : Shared} {a : Addr} {kvs : List (Key × V)} {k : Key} {u : Value} {A : Around} {E : Value → Shared → Prop}
end
def qo0 (i:Expr):Prop:=∀ ov iv,subscripted i false ov iv=operate [ov,iv] (getItem ov iv)
theorem qlF {prog:Program} {w:World} {A:Around} {E:Value→Shared→Prop} {s:Shared} {env:Env} {value slice:Expr} {pos:Pos} {T id:String} {Q:Value→Shared→Prop}
    (hl:typeLookup (.type T) "__getitem__"=pure (some (.builtin id))) (hs:qo0 slice)
    (h:wpAny (model prog w) A (eval value env) (fun o s₁=>wpAny (model prog w) A (eval slice env) (fun i s₂=>s₂.TypeIs o T∧wpAny (model prog w) A (getItem o i) Q E s₂) E s₁) E s) :
    wpAny (model prog w) A (eval (.Subscript value slice pos) env) Q E s:=by
  refine Subscript_ (wpAny_mono h (fun o s₁ h₁=>wpAny_mono h₁ (fun i s₂ h₂=>?_) fun _ _ x=>x) fun _ _ x=>x)
  obtain ⟨hT,h₂⟩:=h₂
  unfold subscriptTail
  refine wpAny_bind ?_
  rw [getitemInPython_of_ne hT.not_modules]
  refine wpAny_bind (wpAny_specialOf hT hl ?_)
  have fin:wpAny (model prog w) A (subscripted slice false o i) (fun r s₃=>wpAny (model prog w) A (letTemporaryGo value o r >>= fun _=>pure r) Q E s₃) E s₂:=by
    rw [hs o i]
    exact wpAny_operating (wpAny_mono h₂ (fun r s₃ h₃=>wpAny_bind (wpAny_letTemporaryGo (wpAny_pure h₃))) fun _ _ x=>x)
  first
    | exact wpAny_pure (wpAny_bind fin)
    | exact wpAny_bind (wpAny_pure (wpAny_bind fin))
    | exact wpAny_bind fin
theorem qgS {X:Cx} {pins:List (Addr × Obj)} {σ:St} {H:Hp} {s:Shared} {a:Addr} {y:V} {o:Option V} (I:Inv X pins σ H s) (g:DGet H a y o):s.TypeIs (.ref a) "dict":=by
  rcases g with ⟨kvs,k,e,_,_⟩ | ⟨kvs,k,b,e,_,_,_⟩
  · obtain ⟨_,_,vs,_,dd⟩:=qi0 I.hok e
    exact dd.typeIs
  · obtain ⟨_,_,xs,_,dd⟩:=qja I.hok e
    exact dd.typeIs
def qpv (td ty:TE):TE:=fun σ H Q=>td σ H fun x H1=>ty σ H1 fun y H2=>∃ a v,x=.ref a∧DGet H2 a y (some v)∧Q v H2
def qq0 (ty td:TE):TE:=fun σ H Q=>ty σ H fun y H1=>td σ H1 fun x H2=>∃ a o,x=.ref a∧DGet H2 a y o∧Q (.bl o.isSome) H2
def qma (ty td:TE):TE:=fun σ H Q=>ty σ H fun y H1=>td σ H1 fun x H2=>∃ a o,x=.ref a∧DGet H2 a y o∧Q (.bl (!o.isSome)) H2
def qpm (td ty tv:TE):TS:=fun D σ H=>tv σ H fun v H1=>td σ H1 fun x H2=>ty σ H2 fun y H3=>∃ a H4,x=.ref a∧DPut H3 a y v H4∧D.nx σ H4
section
variable {X : Cx} {o i e value : Expr} {pos pos' tpos : Pos} {td ty tv : TE}
theorem qiQ (hu:X.A.units+1<cLine) (ho:PE X o td) (hi:PE X i ty) (hs:qo0 i):PE X (.Subscript o i pos) (qpv td ty):=by
  intro pins s σ H Q I h
  refine qlF PySem.F.slot_dict_getitem.lookup hs (thn (ho pins s σ H _ I h) fun u s1 ⟨x,H1,I1,rx,q1⟩=>thn (hi pins s1 σ H1 _ I1 q1) fun iv s2 ⟨y,H2,I2,ry,a,v,ex,g,q2⟩=>?_)
  subst ex
  obtain rfl:u=Value.ref a:=rx
  exact ⟨qgS I2 g,qjA hu I2 g ry fun w' s3 I3 rw'=>⟨v,H2,I3,rw',q2⟩⟩
theorem qjr (hu:X.A.units+1<cLine) (hi:PE X i ty) (ho:PE X o td):PC X .In i o (qq0 ty td):=by
  intro pins s σ H Q I h
  refine thn (hi pins s σ H _ I h) fun iv s1 ⟨y,H1,I1,ry,q1⟩=>thn (ho pins s1 σ H1 _ I1 q1) fun u s2 ⟨x,H2,I2,rx,a,ov,ex,g,q2⟩=>?_
  subst ex
  obtain rfl:u=Value.ref a:=rx
  exact qrz hu I2 g ry fun s3 I3=>⟨.bl ov.isSome,H2,I3,rfl,q2⟩
theorem qgr (hu:X.A.units+1<cLine) (hi:PE X i ty) (ho:PE X o td):PC X .NotIn i o (qma ty td):=by
  intro pins s σ H Q I h
  refine thn (hi pins s σ H _ I h) fun iv s1 ⟨y,H1,I1,ry,q1⟩=>thn (ho pins s1 σ H1 _ I1 q1) fun u s2 ⟨x,H2,I2,rx,a,ov,ex,g,q2⟩=>?_
  subst ex
  obtain rfl:u=Value.ref a:=rx
  exact qmb hu I2 g ry fun s3 I3=>⟨.bl (!ov.isSome),H2,I3,rfl,q2⟩
theorem qgZ (hu:X.A.units+1<cLine) (ho:PE X o td) (hi:PE X i ty) (hv:PE X value tv) (hs:swapsWith value (some (.Subscript o i pos')) pos.line X.env=pure false) :
    PS X (.Assign [.Subscript o i pos'] value pos) (qpm td ty tv):=by
  intro pins s σ H D I h
  refine wpAny_Assign_Subscript (thn (hv pins s σ H _ I h) fun r s1 ⟨v,H1,I1,rv,q1⟩=>thn (ho pins s1 σ H1 _ I1 q1) fun u s2 ⟨x,H2,I2,rx,q2⟩=>thn (hi pins s2 σ H2 _ I2 q2) fun iv s3 ⟨y,H3,I3,ry,a,H4,ex,g,q3⟩=>?_) hs
  subst ex
  obtain rfl:u=Value.ref a:=rx
  exact qj6 hu I3 g ry rv fun s4 I4=>⟨σ,H4,I4,q3⟩
end
theorem qh9 {P:Program} {w:World} {H:Hp} (h:Heap) (hb:sysModules<h.objs.size):ObjOk P w H (h.push { cls:=.type "dict",data:=.dict #[] }) h.objs.size (.dK []) :=
  ⟨Nat.zero_le _,beq_eq_false_iff_ne.mpr (Ne.symm (Nat.ne_of_lt hb)),[],.nil,Heap.DictOf.new h⟩
theorem qkc {P:Program} {w:World} {H:Hp} (h:Heap) (hb:sysModules<h.objs.size):ObjOk P w H (h.push { cls:=.type "dict",data:=.dict #[] }) h.objs.size (.dT []) :=
  ⟨Nat.zero_le _,beq_eq_false_iff_ne.mpr (Ne.symm (Nat.ne_of_lt hb)),[],.nil,_,#[],0,Heap.get?_push_size _ rfl,⟨rfl,rfl,rfl⟩,rfl,rfl,List.nodup_nil⟩
def qoB:TE:=fun _ H Q=>∀ p,H p=none→Q (.ref p) (upd H p (.dK []))
def qnR:TE:=fun _ H Q=>∀ p,H p=none→Q (.ref p) (upd H p (.dT []))
section
variable {X : Cx} {pos : Pos}
theorem pe_dnewK:PE X (.Dict [] [] pos) qoB:=fun pins s σ H Q I h =>
  wpAny_Dict_empty ⟨.ref s.heap.objs.size,_,I.laid (a:=s.heap.objs.size) (o:=.dK []) (t':=s.toks) (fun _ _ q=>Heap.get?_push_of_some _ q) (Nat.le_refl _) (qh9 s.heap I.big),rfl,h _ (I.hok.fresh (Nat.le_refl _))⟩
theorem pe_dnewT:PE X (.Dict [] [] pos) qnR:=fun pins s σ H Q I h =>
  wpAny_Dict_empty ⟨.ref s.heap.objs.size,_,I.laid (a:=s.heap.objs.size) (o:=.dT []) (t':=s.toks) (fun _ _ q=>Heap.get?_push_of_some _ q) (Nat.le_refl _) (qkc s.heap I.big),rfl,h _ (I.hok.fresh (Nat.le_refl _))⟩
end
def qju:List (TE × TE)→St→Hp→(List (V × V)→Hp→Prop)→Prop
  | [],_,H,Q=>Q [] H
  | (tk,tv)::r,σ,H,Q=>tk σ H fun x H1=>tv σ H1 fun y H2=>qju r σ H2 fun ps H3=>Q ((x,y)::ps) H3
abbrev VV:List (V × V)→List (Value × Value)→Prop:=Paired fun p q=>RelV p.1 q.1∧RelV p.2 q.2
def PPs (X:Cx) (pos:Pos) (keys:List (Option Expr)) (values:List Expr) (trs:List (TE × TE)):Prop :=
  ∀ (pins:List (Addr × Obj)) (s:Shared) (σ:St) (H:Hp) (Q:List (V × V)→Hp→Prop),Inv X pins σ H s→qju trs σ H Q →
    wpAny (model X.prog X.w) X.A (evalPairs (pairTrees keys values X.env pos)) (fun vs s'=>∃ ps H',Inv X pins σ H' s'∧VV ps vs∧Q ps H') X.xe s
theorem qjl {X:Cx} {pos:Pos}:PPs X pos [] [] []:=fun pins s σ H Q I h=>pairTrees_nil_walk ⟨[],H,I,.nil,h⟩
theorem qh8 {X:Cx} {pos:Pos} {k v:Expr} {ks:List (Option Expr)} {vs:List Expr} {tk tv:TE} {trs:List (TE × TE)} (hk:PE X k tk) (hv:PE X v tv) (hr:PPs X pos ks vs trs) :
    PPs X pos (some k::ks) (v::vs) ((tk,tv)::trs):=fun pins s σ H Q I h =>
  pairTrees_cons_walk (thn (hk pins s σ H _ I h) fun u s1 ⟨x,H1,I1,rx,q1⟩=>thn (hv pins s1 σ H1 _ I1 q1) fun w2 s2 ⟨y,H2,I2,ry,q2⟩ =>
    thn (hr pins s2 σ H2 _ I2 q2) fun ws s3 ⟨ps,H3,I3,rel,q3⟩=>⟨(x,y)::ps,H3,I3,.cons ⟨rx,ry⟩ rel,q3⟩)
def qgq (kvs more:List (Key × V)):List (Key × V):=more.foldl (fun acc kv=>qfN acc kv.1 kv.2) kvs
theorem KV.merge:∀ {more:List (Key × V)} {rs:List (Key × Value)} {kvs:List (Key × V)} {vs:List (Key × Value)},KV more rs→KV kvs vs→KV (qgq kvs more) (merged vs rs):=by
  intro more rs kvs vs r
  unfold KV at r
  induction r generalizing kvs vs with
  | nil=>intro q;exact q
  | @cons p q ps qs h t ih =>
    intro r0
    have e:KV (qfN kvs p.1 p.2) (stored vs q.1 q.2):=by
      have:=r0.put p.1 h.2
      rw [← h.1];exact this
    exact ih e
theorem qdi:∀ (more kvs:List (Key × V)),(qgq kvs more).length≤kvs.length+more.length
  | [],kvs=>by show kvs.length≤kvs.length+0;omega
  | p::r,kvs=>by
    have h1:=qdi r (qfN kvs p.1 p.2)
    have h2:=qdb kvs p.1 p.2
    show (qgq (qfN kvs p.1 p.2) r).length≤_
    rw [List.length_cons];omega
theorem qe9 {P:Program} {w:World}:∀ {kvs:List (Key × V)} {ws:List (Value × Value)},VV (kvs.map fun kv=>(kV kv.1,kv.2)) ws→∃ rs,Carries (qa9 P w) ws rs∧KV kvs rs
  | [],_,r=>by rw [List.map_nil] at r;cases r;exact ⟨[],True.intro,.nil⟩
  | p::kvs,_,r=>by
    rw [List.map_cons] at r
    cases r with
    | @cons a b as bs h t =>
      obtain ⟨rs,c,q⟩:=qe9 (P:=P) (w:=w) t
      obtain ⟨b1,b2⟩:=b
      exact ⟨(p.1,b2)::rs,⟨qid h.1,rfl,c⟩,.cons ⟨rfl,h.2⟩ q⟩
def qoc (trs:List (TE × TE)):TE:=fun σ H Q=>∀ p,H p=none→qju trs σ (upd H p (.dK [])) fun ps H2=>H2 p=some (.dK [])∧∃ kvs:List (Key × V),ps=kvs.map (fun kv=>(kV kv.1,kv.2))∧kvs.length≤15∧Q (.ref p) (upd H2 p (.dK (qgq [] kvs)))
theorem qjy {X:Cx} {pos:Pos} {keys:List (Option Expr)} {values:List Expr} {trs:List (TE × TE)} (h:PPs X pos keys values trs) (hall:keys.all (·.isSome)=true) (hl:keys.length=values.length) (h0:keys≠[])
    (h15:keys.length≤15):PE X (.Dict keys values pos) (qoc trs):=by
  intro pins s σ H Q I q
  have hn:=I.hok.fresh (Nat.le_refl s.heap.objs.size)
  have I1:=I.laid (a:=s.heap.objs.size) (o:=.dK []) (h':=s.heap.push { cls:=.type "dict",data:=.dict #[] }) (t':=s.toks) (fun _ _ q=>Heap.get?_push_of_some _ q) (Nat.le_refl _) (qh9 s.heap I.big)
  refine wpAny_Dict_walk (knd:=qa9 X.prog X.w) hall hl h0 h15 (thn (h pins _ σ _ _ I1 (q _ hn)) fun ws s2 ⟨ps,H2,I2,rel,e,kvs,ep,lk,q2⟩=>?_)
  subst ep
  obtain ⟨rs,c,rk⟩:=qe9 (P:=X.prog) (w:=X.w) rel
  obtain ⟨z,hd,vs0,r0,dd⟩:=ql5 I2.hok e
  cases r0
  refine ⟨rs,c,dd,fun h' dd' hs=>⟨.ref s.heap.objs.size,_,?_,rfl,q2⟩⟩
  have hz:(qgq [] kvs).length≤sizeLine:=by
    have h1:=qdi kvs []
    rw [List.length_nil] at h1
    rw [sizeLine_eq];omega
  have he:∃ q,h'.get? s.heap.objs.size=some q:=let ⟨q,_,_,hq,_⟩:=dd';⟨q,hq⟩
  exact qha I2 (by rw [e];exact True.intro) hs he (qlr hz hd (rk.merge .nil) dd')
end L2
set_option maxHeartbeats 4000000
namespace L2
open PySem PySem.Spec PyProof.Rows
theorem qiw {env:Env} (names:List (Str × NameKind)) (hf:∀ x∈names,x.2=.free→∃ c,env.cells.lookup x.1=some c):∀ acc:List (Str × Addr),
    ∃ cl:List (Str × Addr),(forIn names acc (fun (x:Str × NameKind) cs=>if (x.2 == .free)=true then do let a ← cellOf env x.1;pure (ForInStep.yield ((x.1,a)::cs)) else pure (ForInStep.yield cs)):Sem (List (Str × Addr)))=pure cl ∧
      (∀ p∈cl,p∈acc∨env.cells.lookup p.1=some p.2)∧(∀ p∈acc,p∈cl)∧∀ x,(x,NameKind.free)∈names→∃ c,(x,c)∈cl:=by
  induction names with
  | nil=>intro acc;exact ⟨acc,rfl,fun p hp=>.inl hp,fun _ hp=>hp,fun x hx=>by simp at hx⟩
  | cons n r ih =>
    intro acc
    obtain ⟨n,k⟩:=n
    have hr:∀ x∈r,x.2=.free→∃ c,env.cells.lookup x.1=some c:=fun x hx=>hf x (List.mem_cons_of_mem _ hx)
    by_cases hk:k=.free
    · subst hk
      obtain ⟨c,hc⟩:=hf (n,.free) List.mem_cons_self rfl
      obtain ⟨cl,e,h1,h2,h3⟩:=ih hr ((n,c)::acc)
      refine ⟨cl,?_,fun p hp=>?_,fun p hp=>h2 p (List.mem_cons_of_mem _ hp),fun x hx=>?_⟩
      · rw [List.forIn_cons,← e]
        have q:cellOf env n=pure c:=by unfold cellOf;rw [hc]
        simp [q]
      · rcases h1 p hp with z | z
        · rcases List.mem_cons.mp z with rfl | z
          · exact .inr hc
          · exact .inl z
        · exact .inr z
      · rcases List.mem_cons.mp hx with z | z
        · cases z;exact ⟨c,h2 _ List.mem_cons_self⟩
        · exact h3 x z
    · obtain ⟨cl,e,h1,h2,h3⟩:=ih hr acc
      refine ⟨cl,?_,h1,h2,fun x hx=>?_⟩
      · rw [List.forIn_cons,← e]
        have q:(k == NameKind.free)=false:=by simpa using hk
        simp [q]
      · rcases List.mem_cons.mp hx with z | z
        · cases z;exact absurd rfl hk
        · exact h3 x z
theorem qfK {cl:List (Str × Addr)} {cells:List (Str × Addr)} (h:∀ p∈cl,cells.lookup p.1=some p.2):∀ x c,cl.lookup x=some c→cells.lookup x=some c:=fun x c e=>h (x,c) (PySem.mem_of_lookup e)
theorem qif {cl:List (Str × Addr)} {x:Str} {c:Addr}:(x,c)∈cl→∃ c',cl.lookup x=some c':=by
  induction cl with
  | nil=>intro h;simp at h
  | cons p r ih =>
    intro h
    rw [List.lookup_cons]
    cases e:x == p.1 with
    | true=>exact ⟨_,rfl⟩
    | false =>
      rcases List.mem_cons.mp h with z | z
      · subst z;simp at e
      · exact ih z
theorem qfF {scope:Scope} {env:Env} (hf:∀ x∈scope.names,x.2=.free→∃ c,env.cells.lookup x.1=some c) :
    ∃ cl,closureFor scope env=pure cl∧(∀ x c,cl.lookup x=some c→env.cells.lookup x=some c)∧∀ x,(x,NameKind.free)∈scope.names→∃ c,cl.lookup x=some c:=by
  obtain ⟨cl,e,h1,_,h3⟩:=qiw (env:=env) scope.names hf []
  refine ⟨cl,?_,qfK fun p hp=>(h1 p hp).elim (fun z=>by simp at z) id,fun x hx=>?_⟩
  · unfold closureFor
    simp only
    rw [← e]
    simp
  · obtain ⟨c,hc⟩:=h3 x hx
    exact qif hc
theorem qda {env:Env}:∀ {names:List (Str × NameKind)} {x:Str} {k:NameKind},
    (names.map fun (n,k)=>if (k == NameKind.free && env.scope.kind == .function && env.kindOf n == some .cell) then (n,NameKind.cell) else (n,k)).lookup x=some k→(k=.cell∨k=.free)→(x,NameKind.free)∈names∨(x,NameKind.cell)∈names
  | [],_,_,h,_=>by simp at h
  | (n,k)::r,x,kk,h,hk=>by
    have ih:=@qda env r x kk
    have h:List.lookup x ((if (k == NameKind.free && env.scope.kind == .function && env.kindOf n == some .cell)=true then (n,NameKind.cell) else (n,k))::_)=_:=h
    by_cases hb:(k == NameKind.free && env.scope.kind == .function && env.kindOf n == some .cell)=true
    · rw [if_pos hb] at h
      have kf:k=.free:=by
        simp only [Bool.and_eq_true,beq_iff_eq] at hb
        exact hb.1.1
      rw [List.lookup_cons] at h
      cases e:x == n with
      | true =>
        have:x=n:=by simpa using e
        subst this;subst kf
        exact .inl List.mem_cons_self
      | false =>
        simp only [e] at h
        exact (ih h hk).imp (List.mem_cons_of_mem _) (List.mem_cons_of_mem _)
    · rw [if_neg hb] at h
      rw [List.lookup_cons] at h
      cases e:x == n with
      | true =>
        have kk':k=kk:=by simpa [e] using h
        have:x=n:=by simpa using e
        subst this
        subst kk'
        rcases hk with rfl | rfl
        · exact .inr List.mem_cons_self
        · exact .inl List.mem_cons_self
      | false =>
        simp only [e] at h
        exact (ih h hk).imp (List.mem_cons_of_mem _) (List.mem_cons_of_mem _)
def qa7 (X:Cx) (scope:Scope) (N':List Str) (cl:List (Str × Addr)) (C:Addr) (s0:Shared) (H0:Hp) (fp:List Addr):Cx where
  prog:=X.prog
  w:=X.w
  K:=X.K
  mg:=X.mg
  base:=X.base
  A:=X.A
  N:=N'
  s₀:=s0
  H₀:=H0
  env:=compEnvC scope cl C X.env
  outer:=X.stack
  stack:=X.stack
  ex:=fp
  fn:=fun x=>scope.names.lookup x == some .cell
  calm:=X.calm
  pn:=[]
  xe:=fun _ _=>False
def qcJ (cap:List (Option Nat)) (σ:St):St:=cap.map fun o=>o.bind fun i=>(σ[i]?).join
structure CompScope (N:List Str) (sc scope:Scope) (N':List Str) (cap:List (Option Nat)):Prop where
  kind:scope.kind=.function
  cel:∀ x∈scope.names,x.2=.cell→scope.names.lookup x.1=some .cell
  names:∀ x∈scope.names,x.2=.local→scope.names.lookup x.1=some .local
  free:∀ x∈scope.names,x.2=.free→sc.names.lookup x.1=some .cell
  fst:∀ x∈scope.names,x.2=.free→scope.names.lookup x.1=some .free
  nd:N'.Nodup
  len:cap.length=N'.length
  at_:∀ p∈cap.zip N',∀ i,p.1=some i→N[i]?=some p.2∧(p.2,NameKind.free)∈scope.names
def qmY (X:Cx) (ifs:List Expr) (t:TT):Prop :=
  ∀ (pins:List (Addr × Obj)) (s:Shared) (σ:St) (H:Hp) (Q:Bool→Hp→Prop),Inv X pins σ H s→t σ H Q →
    wpAny (model X.prog X.w) X.A (forIn ifs true fun c r=>if r=true then do let ok ← isTrue c X.env (eval c X.env);pure (ForInStep.yield ok) else pure (ForInStep.yield r)) (TP X pins σ Q) X.xe s
def qqJ:TT:=fun _ H Q=>Q true H
theorem qhr {X:Cx}:qmY X [] qqJ:=fun _ _ _ H _ I h=>wpAny_tests_nil ⟨H,I,h⟩
theorem qkR {X:Cx} {c:Expr} {t:TT} (h:PT X c t):qmY X [c] t:=fun pins s σ H Q I hw=>wpAny_tests_one (h pins s σ H Q I hw)
def qjz (wi:TI) (cap:List (Option Nat)) (g:TG) (tc:TT) (te:TE):TE:=fun σ H Q=>wi σ H fun J H1=>∀ D,H1 D=none→∃ W:Nat→Nat→St→Hp→Prop,(∃ m,W 0 m (qcJ cap σ) (upd H1 D (.lst []))) ∧
  ∀ i m σ' H',W i m σ' H'→(J.stop i H'∧Q (.ref D) H')∨(J.go i H'∧∃ N:St→Hp→Prop,(∀ σ2 H2,N σ2 H2→∃ m',m'<m∧W (i+1) m' σ2 H2) ∧
    ∀ x H2,J.yld i H' x H2→g x σ' H2 fun σ3 H3=>tc σ3 H3 fun b H4=>if b=true then te σ3 H4 fun y H5=>∃ ys,H5 D=some (.lst ys)∧ys.length<sizeLine∧N σ3 (upd H5 D (.lst (ys++[y]))) else N σ3 H4)
theorem qg5 {prog:Program} {w:World} {A:Around} {R:Result→Shared→Prop} {s:Shared} {elt target iter:Expr} {ifs:List Expr} {scope:Scope} {pos:Pos} {it acc:Value} {env:Env} (I:Nat→Shared→Prop)
    (turn:∀ n s,I n s→wpAny (model prog w) A (pyNext it) (fun r s₁=>match r with
      | none=>R (.ok .next) s₁
      | some v=>wpAny (model prog w) A (letOwnedTupleGo target it v) (fun _ s₁'=>wpAny (model prog w) A (assign target env v) (fun _ s₂ =>
          wpAny (model prog w) A (forIn ifs true fun c r=>if r=true then do let ok ← isTrue c env (eval c env);pure (ForInStep.yield ok) else pure (ForInStep.yield r)) (fun ok s₃ =>
            if ok=true then wpAny (model prog w) A (eval elt env) (fun x s₄ =>
              wpAny (model prog w) A (call (.builtin "list.append") [acc,x]) (fun _ s₅=>∃ m,m<n∧I m s₅) (fun _ _=>False) s₄) (fun _ _=>False) s₃
            else ∃ m,m<n∧I m s₃) (fun _ _=>False) s₂) (fun _ _=>False) s₁') (fun _ _=>False) s₁) (fun _ _=>False) s)
    (n:Nat) (h:I n s):codeAny (model prog w) A (.compLoop (.ListComp elt [⟨target,iter,ifs,0⟩] scope pos) 0 it acc env) R s:=by
  refine codeAny_loop rfl I (fun n s hI=>?_) n h
  show wpAny _ A ((compTurn (.ListComp elt [⟨target,iter,ifs,0⟩] scope pos) 0 it acc env).onRaise (fun x=>do noteFrame x env;theTreesLotGoes x)) _ _ s
  refine wpAny_noted ?_
  rw [compTurn_list]
  refine wpAny_bind (wpAny_standAt (wpAny_bind (wpAny_mono (turn n s hI) (fun r s₁ h₁=>?_) fun _ _ h'=>h'.elim)))
  cases r with
  | none=>exact wpAny_pure h₁
  | some v =>
    refine wpAny_bind (wpAny_mono h₁ (fun _ s₁' h₁'=>?_) fun _ _ h'=>h'.elim)
    refine wpAny_bind (wpAny_mono h₁' (fun _ s₂ h₂=>wpAny_bind (wpAny_mono h₂ (fun ok s₃ h₃=>?_) fun _ _ h'=>h'.elim)) fun _ _ h'=>h'.elim)
    cases ok with
    | false=>exact wpAny_pure ⟨rfl,h₃⟩
    | true =>
      exact wpAny_bind (wpAny_bind (wpAny_mono h₃ (fun x s₄ h₄=>wpAny_bind (wpAny_mono h₄ (fun _ s₅ h₅=>wpAny_pure (wpAny_pure ⟨rfl,h₅⟩)) fun _ _ h'=>h'.elim)) fun _ _ h'=>h'.elim))
section
variable {X : Cx} {elt tg iter : Expr} {ifs : List Expr} {scope : Scope} {pos : Pos} {N' : List Str} {cap : List (Option Nat)} {wi : TI} {g : TG} {tc : TT} {te : TE}
theorem qbj:∀ (names:List (Str × NameKind)) (n:Nat) (acc:List (Str × Addr)),cellsFrom n names acc=cellsFrom n names []++acc
  | [],_,_=>rfl
  | (x,k)::r,n,acc=>by
    unfold cellsFrom
    split
    · rw [qbj r (n+1) ((x,n)::acc),qbj r (n+1) [(x,n)],List.append_assoc];rfl
    · exact qbj r n acc
theorem qcf:∀ (names:List (Str × NameKind)) (n:Nat) {x:Str} {c:Addr},(x,c)∈cellsFrom n names []→(x,NameKind.cell)∈names
  | [],_,_,_,h=>by simp [cellsFrom] at h
  | (y,k)::r,n,x,c,h=>by
    unfold cellsFrom at h
    split at h
    · rename_i hk
      rw [qbj] at h
      rcases List.mem_append.mp h with h | h
      · exact List.mem_cons_of_mem _ (qcf r _ h)
      · have e:=List.mem_singleton.mp h
        cases e
        have:k=.cell:=by simpa using hk
        subst this
        exact List.mem_cons_self
    · exact List.mem_cons_of_mem _ (qcf r _ h)
theorem qkH {M:Model} {A:Around} {E:Value→Shared→Prop} {s:Shared} {globals:Addr} {cl:List (Str × Addr)} {qual:Str} {outer:Env} {Q:Env→Shared→Prop}
    (hQ:∀ h',h'.Ns s.heap.objs.size (fun _=>none)→(∀ b o,s.heap.get? b=some o→h'.get? b=some o)→CellsOk h' (s.heap.objs.size+1) (cellsFrom (s.heap.objs.size+1) scope.names []) →
      Q { scope:=scope,locals:=s.heap.objs.size,globals:=globals,cells:=cellsFrom (s.heap.objs.size+1) scope.names []++cl,qual:=qual,func:=none,code:=outer.code,frame:=outer.frame,builtins:=outer.builtins } { s with heap:=h' }) :
    wpAny M A (newFunctionEnv scope globals cl [] qual none .none (some outer)) Q E s:=by
  simp only [newFunctionEnv,Option.isSome_some,if_true]
  refine wpAny_bind (wpAny_alloc ?_)
  refine wpAny_bind (wpAny_layCells _ (fun name kind cells=>by cases hkc:kind == NameKind.cell <;> simp [hkc]) _ _ _ _ ?_)
  have ok:=cellsFrom_ok scope.names (s.heap.push { cls:=.type "dict",data:=.dict #[] }) (s.heap.objs.size+1) [] ⟨fun _ _ hm=>(nomatch hm),List.Pairwise.nil⟩ (by rw [Heap.size_push];exact Nat.le_refl _)
  rw [Heap.size_push] at ok
  rw [show ({ s with heap:=s.heap.push { cls:=.type "dict",data:=.dict #[] } }:Shared).heap.objs.size=s.heap.objs.size+1 from Heap.size_push ..,qbj]
  refine wpAny_bind ?_
  rw [List.forIn_nil]
  exact wpAny_pure (wpAny_pure (hQ _ ((Heap.Ns.new s.heap (.type "dict")).keeps (pushCells_keeps _ _)) (fun b o e=>pushCells_keeps _ _ b o (Heap.get?_push_of_some _ e)) ok))
theorem qkv {pins:List (Addr × Obj)} {σ:St} {H:Hp} {s s4:Shared} {cl nw:List (Str × Addr)} {C:Addr} {fp:List Addr} {m:Str→Option Value} (S:CompScope X.N X.env.scope scope N' cap) (I:Inv X pins σ H s)
    (hcl:∀ x c,cl.lookup x=some c→X.env.cells.lookup x=some c) (hfr:∀ x,(x,NameKind.free)∈scope.names→∃ c,cl.lookup x=some c) (hC:s.heap.objs.size≤C) (hos:s4.os=s.os) (hg:s4.gens=s.gens)
    (hk:∀ b o,s.heap.get? b=some o→s4.heap.get? b=some o) (hn:s4.heap.Ns C m) (hfp:∀ b∈fp,qgk X pins H b) (hfz:∀ b∈fp,b<s.heap.objs.size) (hw:CellsOk s4.heap (C+1) nw) (hwm:∀ x c,(x,c)∈nw→(x,NameKind.cell)∈scope.names) (hwl:∀ x,(x,NameKind.cell)∈scope.names→∃ c,nw.lookup x=some c) :
    Inv (qa7 X scope N' (nw++cl) C s H fp) [] (qcJ cap σ) H s4:=by
  have hlk:∀ x c,(nw++cl).lookup x=some c→((x,c)∈nw∧C<c)∨(nw.lookup x=none∧X.env.cells.lookup x=some c):=fun x c h=>by
    rw [List.lookup_append] at h
    cases e:nw.lookup x with
    | none=>rw [e] at h;exact .inr ⟨rfl,hcl x c (by simpa using h)⟩
    | some c' =>
      rw [e] at h
      have:c'=c:=by simpa using h
      subst this
      exact .inl ⟨PySem.mem_of_lookup e,(hw.empty _ _ (PySem.mem_of_lookup e)).2⟩
  have hold:∀ x c,X.env.cells.lookup x=some c→c<s.heap.objs.size:=fun x c h=>by obtain ⟨v,q⟩:=I.cell x c h;exact q.lt
  have hfr':∀ x,(x,NameKind.free)∈scope.names→∃ c,(nw++cl).lookup x=some c∧X.env.cells.lookup x=some c:=fun x hx=>by
    obtain ⟨c,hc⟩:=hfr x hx
    refine ⟨c,?_,hcl x c hc⟩
    rw [List.lookup_append]
    cases e:nw.lookup x with
    | none=>simpa using hc
    | some c' =>
      have a1:=S.cel _ (hwm x c' (PySem.mem_of_lookup e)) rfl
      have a2:=S.fst _ hx rfl
      have a1:scope.names.lookup x=some .cell:=a1
      have a2:scope.names.lookup x=some .free:=a2
      rw [a1] at a2;cases a2
  refine ⟨⟨I.ok.mod,S.kind,I.ok.glob,I.ok.blt,hC,fun x y c h1 h2=>?_,fun x hx=>?_,fun x c hx h=>?_,I.ok.hd,I.ok.frames,.inl rfl,
      fun b hb=>⟨Nat.ne_of_lt (Nat.lt_of_lt_of_le (hfz b hb) hC),fun x c e=>?_⟩,I.bs,Nat.le_trans I.ok.bsz I.sz,fun b o e hb=>?_,fun b hb hf=>?_,I.stack,I.stkFree⟩,
    hos,by rw [hg];exact I.bare,Un.kept hk,⟨m,hn,fun i x v h1 h2 h3=>?_⟩,fun x c e=>?_,I.hok.fresh hC,fun x c e=>?_,fun p hp=>absurd (show p∈([]:List (Addr × Obj)) from hp) (by simp),I.hok.kept hk,?_⟩
  · rcases hlk x c h1 with ⟨a1,a2⟩ | ⟨_,a2⟩ <;> rcases hlk y c h2 with ⟨b1,b2⟩ | ⟨_,b2⟩
    · exact name_of_addr hw.apart a1 b1
    · exact absurd (hold y c b2) (Nat.not_lt.mpr (Nat.le_trans hC (Nat.le_of_lt a2)))
    · exact absurd (hold x c a2) (Nat.not_lt.mpr (Nat.le_trans hC (Nat.le_of_lt b2)))
    · exact I.ok.inj x y c a2 b2
  · have q:(x,NameKind.free)∈scope.names∨(x,NameKind.cell)∈scope.names:=by
      rcases hx with hx | hx
      · exact qda hx (.inl rfl)
      · exact qda hx (.inr rfl)
    rcases q with q | q
    · obtain ⟨c,h,_⟩:=hfr' x q
      exact ⟨c,h⟩
    · obtain ⟨c,h⟩:=hwl x q
      exact ⟨c,by show (nw++cl).lookup x=_;rw [List.lookup_append,h];rfl⟩
  · have hx:(scope.names.lookup x == some .cell)=true:=hx
    have hx:scope.names.lookup x=some .cell:=by simpa using hx
    obtain ⟨c',h'⟩:=hwl x (PySem.mem_of_lookup hx)
    rcases hlk x c h with ⟨_,a2⟩ | ⟨a1,_⟩
    · exact Nat.le_trans hC (Nat.le_of_lt a2)
    · rw [h'] at a1;cases a1
  · rcases hlk x c e with ⟨_,a2⟩ | ⟨_,a2⟩
    · exact fun z=>absurd (hfz b hb) (Nat.not_lt.mpr (Nat.le_trans hC (by rw [← z];exact Nat.le_of_lt a2)))
    · exact (hfp b hb).2.2.2.2.1 x c a2
  · rcases (hfp b hb).2.2.2.1 with z | z
    · exact I.ok.noex b o e z
    · exact absurd (Nat.lt_of_lt_of_le (Heap.lt_size e) (Nat.le_trans I.ok.bsz z)) (Nat.lt_irrefl _)
  · rcases List.mem_cons.mp (I.stkSub b hf) with z | z
    · exact (hfp b hb).2.1 z
    · exact (hfp b hb).2.2.1 z
  · have h2:(cap.map fun o=>o.bind fun i=>(σ[i]?).join)[i]?=some (some v):=h2
    rw [List.getElem?_map] at h2
    cases ec:cap[i]? with
    | none=>rw [ec] at h2;cases h2
    | some o =>
      rw [ec] at h2
      have h2:(o.bind fun i=>(σ[i]?).join)=some v:=by simpa using h2
      cases o with
      | none=>cases h2
      | some j =>
        have h2:(σ[j]?).join=some v:=h2
        have hj:σ[j]?=some (some v):=by
          cases ej:σ[j]? with
          | none=>rw [ej] at h2;cases h2
          | some y=>rw [ej] at h2;exact congrArg some h2
        have hz:(cap.zip N')[i]?=some (some j,x):=by rw [List.getElem?_zip_eq_some];exact ⟨ec,h1⟩
        obtain ⟨q1,q2⟩:=S.at_ _ (List.mem_of_getElem? hz) j rfl
        obtain ⟨mx,hnx,hl⟩:=I.loc
        have kc:=S.free _ q2 rfl
        obtain ⟨u,r,lk⟩:=hl j x v q1 hj (.inr (.inl kc))
        refine ⟨u,r,?_⟩
        rcases lk with ⟨k1,_⟩ | ⟨_,c,e,z⟩
        · have:X.env.scope.names.lookup x=some .local:=k1
          rw [kc] at this;cases this
        · obtain ⟨c',hc',hd'⟩:=hfr' x q2
          rw [e] at hd';cases hd'
          have kx:(compEnvC scope (nw++cl) C X.env).kindOf x=some .cell∨(compEnvC scope (nw++cl) C X.env).kindOf x=some .free∨(compEnvC scope (nw++cl) C X.env).kindOf x=some .local:=by
            rcases h3 with z | z | z
            · exact .inr (.inr z)
            · exact .inl z
            · exact .inr (.inl z)
          rcases kx with kx | kx | kx
          · exact .inr ⟨.inl kx,c,hc',let ⟨o,ho,hd⟩:=z;⟨o,hk c o ho,hd⟩⟩
          · exact .inr ⟨.inr kx,c,hc',let ⟨o,ho,hd⟩:=z;⟨o,hk c o ho,hd⟩⟩
          · exfalso
            have kl:(relabel scope X.env).names.lookup x=some .local:=kx
            have ml:=PySem.mem_of_lookup kl
            obtain ⟨⟨n,k⟩,hm,e2⟩:=List.mem_map.mp ml
            have e2:(if (k == NameKind.free && X.env.scope.kind == .function && X.env.kindOf n == some .cell)=true then (n,NameKind.cell) else (n,k))=(x,NameKind.local):=e2
            split at e2
            · cases e2
            · cases e2
              have a1:=S.names _ hm rfl
              have a3:scope.names.lookup x=some .free:=S.fst _ q2 rfl
              have a1:scope.names.lookup x=some .local:=a1
              rw [a3] at a1;cases a1
  · rcases hlk x c e with ⟨a1,_⟩ | ⟨_,a2⟩
    · exact ⟨none,(hw.empty x c a1).1⟩
    · obtain ⟨v,o,ho,hd⟩:=I.cell x c a2
      exact ⟨v,o,hk c o ho,hd⟩
  · rcases hlk x c e with ⟨_,a2⟩ | ⟨_,a2⟩
    · exact I.hok.fresh (Nat.le_trans hC (Nat.le_of_lt a2))
    · exact I.freeC x c a2
  · show (qcJ cap σ).length=N'.length
    unfold qcJ
    rw [List.length_map,S.len]
theorem qir {pins:List (Addr × Obj)} {σ:St} {H2:Hp} {s2:Shared} {it:Addr} {fp:List Addr} {tn:Nat→Heap→Prop} {J:It} {cl:List (Str × Addr)} {RR:Value→Addr→Result→Shared→Prop} {E:Value→Shared→Prop} (hcalm:X.calm=true) (S:CompScope X.N X.env.scope scope N' cap)
    (hg:∀ (cl:List (Str × Addr)) (C:Addr) (s0:Shared) (H0:Hp),PG (qa7 X scope N' cl C s0 H0 fp) tg g) (ht:∀ (cl:List (Str × Addr)) (C:Addr) (s0:Shared) (H0:Hp),qmY (qa7 X scope N' cl C s0 H0 fp) ifs tc) (he:∀ (cl:List (Str × Addr)) (C:Addr) (s0:Shared) (H0:Hp),PE (qa7 X scope N' cl C s0 H0 fp) elt te)
    (I2:Inv X pins σ H2 s2) (T:Turn X.prog X.w X.K tg J fp it tn) (st2:tn 0 s2.heap) (f2:∀ b∈fp,qgk X pins H2 b)
    (hcl:∀ x c,cl.lookup x=some c→X.env.cells.lookup x=some c) (hfr:∀ x,(x,NameKind.free)∈scope.names→∃ c,cl.lookup x=some c)
    {P:V→Hp→Prop}
    (w:∀ D,H2 D=none→∃ W:Nat→Nat→St→Hp→Prop,(∃ m,W 0 m (qcJ cap σ) (upd H2 D (.lst []))) ∧
      ∀ i m σ' H',W i m σ' H'→(J.stop i H'∧P (.ref D) H')∨(J.go i H'∧∃ N:St→Hp→Prop,(∀ σ2 H2,N σ2 H2→∃ m',m'<m∧W (i+1) m' σ2 H2) ∧
        ∀ x H2,J.yld i H' x H2→g x σ' H2 fun σ3 H3=>tc σ3 H3 fun b H4=>if b=true then te σ3 H4 fun y H5=>∃ ys,H5 D=some (.lst ys)∧ys.length<sizeLine∧N σ3 (upd H5 D (.lst (ys++[y]))) else N σ3 H4))
    (hRR:∀ D C H' s' m',X.env.locals≠C→X.s₀.heap.objs.size≤C→(∀ x c,X.env.cells.lookup x=some c→c≠C)→(∀ p∈X.pn++pins,p.1≠C)→H' C=none→s'.heap.Ns C m'→Inv X pins σ H' s'→P (.ref D) H'→RR (.ref D) C (.ok .next) s') :
    wpAny (model X.prog X.w) X.A (newList []) (fun acc s₃=>wpAny (model X.prog X.w) X.A (newFunctionEnv scope X.env.globals cl [] X.env.qual none .none (some X.env)) (fun cenv s₄ =>
      codeAny (model X.prog X.w) X.A (.compStart (.ListComp elt [⟨tg,iter,ifs,0⟩] scope pos) 0 (.ref it) acc { cenv with scope:=relabel scope X.env }) (RR acc cenv.locals) s₄) E s₃) E s2:=by
  refine wpAny_newObj_type ?_ (by show 0≤sizeLine;decide)
  have I3:Inv X pins σ (upd H2 s2.heap.objs.size (.lst [])) { s2 with heap:=s2.heap.push { cls:=.type "list",data:=.seq ([]:List Value).toArray } }:=I2.lnew (t':=s2.toks) .nil (by show 0≤sizeLine;decide)
  have k3:∀ b o,s2.heap.get? b=some o→(s2.heap.push { cls:=.type "list",data:=.seq ([]:List Value).toArray }).get? b=some o:=fun b o e=>Heap.get?_push_of_some _ e
  have z3:(s2.heap.push { cls:=.type "list",data:=.seq ([]:List Value).toArray }).objs.size=s2.heap.objs.size+1:=Heap.size_push ..
  have hD0:H2 s2.heap.objs.size=none:=I2.fresh
  generalize hs3:({ s2 with heap:=s2.heap.push { cls:=.type "list",data:=.seq ([]:List Value).toArray } }:Shared)=s3 at I3 ⊢
  have eh3:s3.heap=s2.heap.push { cls:=.type "list",data:=.seq ([]:List Value).toArray }:=by rw [← hs3]
  have eo3:s3.os=s2.os:=by rw [← hs3]
  generalize hDD:s2.heap.objs.size=D at I3 hD0 z3 ⊢
  rw [← eh3] at k3 z3
  have live:∀ b∈fp,∃ o,s2.heap.get? b=some o∧∀ v,o.data≠.cell v:=fun b hb=>T.obj 0 _ st2 b hb
  have ltD:∀ b∈fp,b<D:=fun b hb=>by obtain ⟨o,e,_⟩:=live b hb;rw [← hDD];exact Heap.lt_size e
  have f3:∀ b∈fp,qgk X pins (upd H2 D (.lst [])) b:=fun b hb=>⟨by rw [qar (Nat.ne_of_lt (ltD b hb))];exact (f2 b hb).1,(f2 b hb).2⟩
  refine qkH fun h4 hn4 k4 ok4=>?_
  generalize hnw:cellsFrom (s3.heap.objs.size+1) scope.names []=nw at ok4 ⊢
  have st4:tn 0 h4:=T.keep 0 _ _ st2 fun b _ o e=>k4 b o (k3 b o e)
  have I4:Inv (qa7 X scope N' (nw++cl) s3.heap.objs.size s3 (upd H2 D (.lst [])) fp) [] (qcJ cap σ) (upd H2 D (.lst [])) { s3 with heap:=h4 } :=
    qkv S I3 hcl hfr (Nat.le_refl _) rfl rfl k4 hn4 f3 (fun b hb=>by rw [z3];exact Nat.lt_succ_of_lt (ltD b hb)) ok4 (fun x c h=>qcf _ _ (hnw ▸ h)) fun x h=>hnw ▸ qfh (S.cel _ h rfl)
  obtain ⟨W,⟨m0,w0⟩,turn⟩:=w D hD0
  have fpY:∀ {H':Hp},(∀ b∈fp,H' b=none)→∀ b∈fp,qgk (qa7 X scope N' (nw++cl) s3.heap.objs.size s3 (upd H2 D (.lst [])) fp) [] H' b:=fun hn b hb =>
    ⟨hn b hb,Nat.ne_of_lt (by show b<s3.heap.objs.size;rw [z3];exact Nat.lt_succ_of_lt (ltD b hb)),fun hf=>I4.ok.exfs b hb hf,.inl hb,fun x c e=>(I4.ok.exf b hb).2 x c e,fun p hp=>absurd (show p∈([]:List (Addr × Obj)) from hp) (by simp)⟩
  have loop:∀ s₃:Shared,s₃={ s3 with heap:=h4 } →
      codeAny (model X.prog X.w) X.A (.compLoop (.ListComp elt [⟨tg,iter,ifs,0⟩] scope pos) 0 (.ref it) (.ref D) (compEnvC scope (nw++cl) s3.heap.objs.size X.env)) (RR (.ref D) s3.heap.objs.size) s₃:=by
    rintro s₃ rfl
    refine qg5 (fun n s'=>∃ i σ' H',Inv (qa7 X scope N' (nw++cl) s3.heap.objs.size s3 (upd H2 D (.lst [])) fp) [] σ' H' s'∧tn i s'.heap∧(∀ b∈fp,H' b=none)∧W i n σ' H') ?_ m0
      ⟨0,qcJ cap σ,upd H2 D (.lst []),I4,st4,fun b hb=>(f3 b hb).1,w0⟩
    rintro n s5 ⟨i,σ5,H5,I5,st5,fr5,w5⟩
    rcases turn i n σ5 H5 w5 with ⟨stop,qn⟩ | ⟨go,N,hN,step⟩
    · refine thn (T.done (qa7 X scope N' (nw++cl) s3.heap.objs.size s3 (upd H2 D (.lst [])) fp) rfl rfl rfl hcalm i [] s5 σ5 H5 _ I5 (fpY fr5) st5 stop) fun r s6 hq0=>?_
      obtain ⟨hr,I6⟩:=hq0
      subst hr
      obtain ⟨m6,hn6,_⟩:=I6.loc
      have un:Un (frs X.stack) fp (upd H2 D (.lst [])) H5 s3.heap s6.heap:=I6.base
      refine hRR D s3.heap.objs.size H5 s6 m6 (Nat.ne_of_lt I3.lt) I3.sz (fun x c e=>?_) (fun p hp=>?_) I6.free hn6 ?_ qn
      · obtain ⟨v,q⟩:=I3.cell x c e
        exact Nat.ne_of_lt q.lt
      · exact Nat.ne_of_lt (Heap.lt_size (I3.pin p hp).1)
      · exact I3.call' I6.os un I6.hok I6.bare fun b hb=>⟨(f3 b hb).2.2.2.1,(f3 b hb).2.1,(f3 b hb).2.2.2.2.1,(f3 b hb).2.2.2.2.2⟩
    · refine thn (T.item (qa7 X scope N' (nw++cl) s3.heap.objs.size s3 (upd H2 D (.lst [])) fp) rfl rfl rfl hcalm i [] s5 σ5 H5 (fun _ _=>False) I5 (fpY fr5) st5 go) fun r s6 hq1=>?_
      obtain ⟨u,hr,h6⟩:=hq1
      subst hr
      refine thn h6 fun _ s7 hq2=>?_
      obtain ⟨x,H7,I7,r7,y7,st7,fr7⟩:=hq2
      have I7':=I7.pinned (fpY fr7) (T.obj _ _ st7)
      refine thn (hg _ _ _ _ _ s7 σ5 H7 x u _ I7' r7 (step x H7 y7)) fun _ s8 hq3=>?_
      obtain ⟨σ8,H8,I8,q8⟩:=hq3
      refine thn (ht _ _ _ _ _ s8 σ8 H8 _ I8 q8) fun b s9 hq4=>?_
      obtain ⟨H9,I9,q9⟩:=hq4
      have again:∀ {σ9:St} {H9:Hp} {s9:Shared},Inv (qa7 X scope N' (nw++cl) s3.heap.objs.size s3 (upd H2 D (.lst [])) fp) ([]++qgN fp s7.heap) σ9 H9 s9→N σ9 H9→∃ m,m<n∧∃ i σ' H',Inv (qa7 X scope N' (nw++cl) s3.heap.objs.size s3 (upd H2 D (.lst [])) fp) [] σ' H' s9∧tn i s9.heap∧(∀ b∈fp,H' b=none)∧W i m σ' H':=fun {σ9 H9 s9} I9 n9=>by
        obtain ⟨m',hm,w9⟩:=hN σ9 H9 n9
        refine ⟨m',hm,i+1,σ9,H9,I9.unpinned,T.keep _ _ _ st7 fun b hb o e=>(I9.pin (b,o) (List.mem_append_right _ (List.mem_append_right _ (qcO hb e)))).1,fun b hb=>?_,w9⟩
        obtain ⟨o,e,d⟩:=T.obj _ _ st7 b hb
        exact (I9.pin (b,o) (List.mem_append_right _ (List.mem_append_right _ (qcO hb e)))).2.1
      cases b with
      | false =>
        rw [if_neg (by decide)] at q9 ⊢
        exact again I9 q9
      | true =>
        rw [if_pos rfl] at q9 ⊢
        refine thn (he _ _ _ _ _ s9 σ8 H9 _ I9 q9) fun yv s10 hq5=>?_
        obtain ⟨y,H10,I10,r10,ys,hD10,hz10,q10⟩:=hq5
        refine thn (qgD _ s10 σ8 H10 (.ref D) [y] (.ref D) [yv] (fun _ H'=>N σ8 H') I10 rfl (.cons r10 .nil) ⟨D,ys,y,rfl,rfl,hD10,hz10,q10⟩) fun _ s11 hq6=>?_
        obtain ⟨_,H11,I11,_,q11⟩:=hq6
        exact again I11 q11
  exact codeAny_compStart_list (loop _ rfl) (T.self _ 0 _ _ _ st4 (loop _ rfl))
theorem qhm (hcalm:X.calm=true) (S:CompScope X.N X.env.scope scope N' cap) (hi:PI X tg iter wi)
    (hg:∀ (cl:List (Str × Addr)) (fp:List Addr) (C:Addr) (s0:Shared) (H0:Hp),PG (qa7 X scope N' cl C s0 H0 fp) tg g) (ht:∀ (cl:List (Str × Addr)) (fp:List Addr) (C:Addr) (s0:Shared) (H0:Hp),qmY (qa7 X scope N' cl C s0 H0 fp) ifs tc)
    (he:∀ (cl:List (Str × Addr)) (fp:List Addr) (C:Addr) (s0:Shared) (H0:Hp),PE (qa7 X scope N' cl C s0 H0 fp) elt te) (hs:∀ x,foldedSetIterable iter X.env x=pure x:=by intro _;rfl) :
    PE X (.ListComp elt [⟨tg,iter,ifs,0⟩] scope pos) (qjz wi cap g tc te):=by
  intro pins s σ H Q I h
  obtain ⟨cl,ecl,hcl,hfr⟩:=qfF (scope:=scope) (env:=X.env) fun x hx hf=>I.ok.has x.1 (.inl (S.free x hx hf))
  rw [eval_ListComp]
  refine wpAny_comprehension_free (use:=none) rfl hs ecl S.kind S.names (thn (hi pins s σ H _ I h) fun v s1 h1=>thn h1 fun itv s2 h2=>?_)
  obtain ⟨it,fp,tn,J,H2,e,I2,T,st2,f2,w⟩:=h2
  subst e
  refine qir (RR:=fun acc C=>compPost (model X.prog X.w) X.A X.xe none (EP X pins σ Q) acc C) hcalm S (fun cl=>hg cl fp) (fun cl=>ht cl fp) (fun cl=>he cl fp) I2 T st2 f2 hcl hfr (P:=Q) w ?_
  intro D C H' s' m' hL hz hcc hpp hC hn I' q
  refine ⟨m',hn,fun h' hs'=>⟨.ref D,H',I'.turned (t':=s'.toks) (fun b o hb e=>(hs'.2 b hb).trans e) hC (Ne.symm hL) (.inr hz) hcc hpp,rfl,q⟩⟩
end
open AutoSeq1 (wpAny_loadPart')
theorem Inv.turnedL {X:Cx} {pins:List (Addr × Obj)} {σ:St} {H:Hp} {s:Shared} {h':Heap} {ch:List Addr} {t':Nat} (I:Inv X pins σ H s) (k:∀ b o,b∉ch→s.heap.get? b=some o→h'.get? b=some o) (hf:∀ b∈ch,qgk X pins H b) :
    Inv X pins σ H { s with heap:=h',toks:=t' }:=by
  have nit:∀ b u,H b=some u→b∉ch:=fun b u e z=>by rw [(hf b z).1] at e;cases e
  refine I.step (g':=s.gens) (d':=s.drawn) (ch:=ch) (fun b hb=>⟨(hf b hb).2.2.2.1,(hf b hb).2.1,(hf b hb).2.2.2.2.1,(hf b hb).2.2.2.2.2⟩) (fun b o _ _ hc e _=>k b o hc e) (fun b o _ _ hc e _=>⟨o.slots,k b o hc e⟩) (fun _ _ _ _ n=>n)
    (fun b o hc e=>⟨o,k b o hc e⟩) (fun _ _ e=>e) (fun _ _ _ e=>e) (fun b ps e=>e) (fun m hm=>?_) (fun b u e=>?_) I.bare
  · obtain ⟨o,es,ep,ho,r⟩:=hm
    exact ⟨o,es,ep,k _ o (fun z=>(hf _ z).2.1 rfl) ho,r⟩
  · refine (I.hok b u e).stay (fun c v hc q=>k c v ?_ q) (fun _ q=>q) (fun _ _ q=>q) fun _ _ _ q=>q
    rcases hc with z | z
    · rw [z];exact nit b u e
    · exact nit c _ z
def SqI (b:Bool) (h:Heap) (it a:Addr) (i:Nat):Prop:=match b with | true=>h.IsListIter it a i | false=>h.IsTupleIter it a i
def SqO (b:Bool) (h:Heap) (a:Addr) (its:Array Value):Prop:=match b with | true=>h.IsList a its | false=>h.IsTuple a its
def SqB (K:PySem.W.Frag) (b:Bool) (H:Hp) (a:Addr) (xs:List V):Prop:=match b with | true=>SqL K H a xs | false=>SqT K H a xs
def qbL (b:Bool) (a:Addr):Obj:=match b with
  | true=>{ cls:=.type "list_iterator",data:=.fields #[.ref a,.int 0 0] }
  | false=>{ cls:=.type "tuple_iterator",data:=.fields #[.ref a,.int 0 0] }
theorem SqI.at {b:Bool} {h h':Heap} {it a:Addr} {i:Nat} (x:SqI b h it a i) (k:∀ o,h.get? it=some o→h'.get? it=some o):SqI b h' it a i:=by
  cases b <;> (obtain ⟨o,e,r⟩:=x;exact ⟨o,k o e,r⟩)
theorem SqO.at {b:Bool} {h h':Heap} {a:Addr} {its:Array Value} (x:SqO b h a its) (k:∀ o,h.get? a=some o→h'.get? a=some o):SqO b h' a its:=by
  cases b <;> (obtain ⟨o,e,r⟩:=x;exact ⟨o,k o e,r⟩)
theorem SqI.obj {b:Bool} {h:Heap} {it a:Addr} {i:Nat} (x:SqI b h it a i):∃ o,h.get? it=some o∧∀ v,o.data≠.cell v:=by
  cases b <;> (obtain ⟨o,e,_,d⟩:=x;exact ⟨o,e,fun v z=>by rw [d] at z;cases z⟩)
theorem SqI.lt {b:Bool} {h:Heap} {it a:Addr} {i:Nat} (x:SqI b h it a i):it<h.objs.size:=by obtain ⟨o,e,_⟩:=x.obj;exact Heap.lt_size e
theorem SqO.lt {b:Bool} {h:Heap} {a:Addr} {its:Array Value} (x:SqO b h a its):a<h.objs.size:=by
  cases b <;> (obtain ⟨o,e,_⟩:=x;exact Heap.lt_size e)
theorem Inv.sqb {X:Cx} {pins:List (Addr × Obj)} {σ:St} {H:Hp} {s:Shared} {b:Bool} {a:Addr} {xs:List V} (I:Inv X pins σ H s) (h:SqB X.K b H a xs):∃ its:List Value,Vals xs its∧SqO b s.heap a its.toArray∧xs.length≤sizeLine:=by
  cases b with
  | true=>obtain ⟨its,rv,p,hz⟩:=I.list h;exact ⟨its,rv,p.isList,hz⟩
  | false=>obtain ⟨its,rv,p,hz⟩:=I.tuple h;exact ⟨its,rv,p,hz⟩
theorem Inv.sqb_inj {X:Cx} {pins:List (Addr × Obj)} {σ:St} {H:Hp} {s:Shared} {b:Bool} {a:Addr} {xs ys:List V} (I:Inv X pins σ H s) (h:SqB X.K b H a xs) (h':SqB X.K b H a ys):xs=ys:=by
  cases b with
  | true=>exact I.list_inj h h'
  | false=>exact I.tuple_inj h h'
theorem SqB.same {K:PySem.W.Frag} {b:Bool} {H H':Hp} {a:Addr} {xs:List V} (e:Same H H') (h:SqB K b H a xs):SqB K b H' a xs:=by
  cases b with
  | true=>exact e.seq h
  | false =>
    rcases h with (h | ⟨o,h⟩) | h
    · exact .inl (.inl (e _ _ h))
    · exact .inl (.inr ⟨o,e _ _ h⟩)
    · exact .inr h
section
variable {prog : Program} {w : World} {A : Around} {E : Value → Shared → Prop} {s : Shared}
theorem qgW {b:Bool} {a:Addr} {its:Array Value} {Q:Value→Shared→Prop} (h:SqO b s.heap a its) (q:Q (.ref s.heap.objs.size) { s with heap:=s.heap.push (qbL b a) }):wpAny (model prog w) A (pyIter (.ref a)) Q E s:=by
  cases b with
  | true=>exact wpAny_pyIter_list h q
  | false=>exact wpAny_pyIter_tuple h q
theorem qd3 {b:Bool} {h:Heap} {it a:Addr} (e:h.get? it=some (qbL b a)):SqI b h it a 0:=by
  cases b <;> exact ⟨_,e,rfl,rfl⟩
theorem qfI {b:Bool} {it a:Addr} {i:Nat} {its:Array Value} {x:Value} {Q:Value→Shared→Prop} (hit:SqI b s.heap it a i) (hl:SqO b s.heap a its) (hx:its[i]?=some x)
    (hQ:∀ h',SqI b h' it a (i+1)→Heap.SameBut it s.heap h'→Q x { s with heap:=h' }):wpAny (model prog w) A (Builtin.SmallTypes.nextOf (.ref it)) Q E s:=by
  cases b with
  | true=>exact wpAny_nextOf_list_item hit hl hx hQ
  | false =>
    have hit:s.heap.IsTupleIter it a i:=hit
    obtain ⟨o,ho,hc,hd⟩:=id hit
    obtain ⟨ol,hol,_,nl,hdl⟩:=hl
    unfold Builtin.SmallTypes.nextOf
    refine wpAny_bind (wpAny_callSpecial?_slot (name:=Str.ofString "__next__") hit.typeIs F.slot_tuple_iterator_next (wpAny_call_entry F.slot_tuple_iterator_next hit.typeIs F.entry_tuple_iterator_next ?_ (F.args_tuple_iterator_next_1 _)))
    show wpAny _ _ (field (.ref it) 0 >>= _) _ _ s
    refine wpAny_bind (wpAny_field ho hd (x:=.ref a) rfl ?_)
    show wpAny _ _ (if (Value.ref a == Value.none)=true then _ else _) _ _ s
    rw [if_neg (show ¬ ((Value.ref a == Value.none)=true) from Bool.false_ne_true)]
    show wpAny _ _ (field (.ref it) 1 >>= _) _ _ s
    refine wpAny_bind (wpAny_field ho hd (x:=.int i 0) rfl ?_)
    show wpAny _ _ (seqItems? (.ref a) >>= _) _ _ s
    refine wpAny_bind (wpAny_seqItems hol hdl ?_)
    simp only [Int.toNat_natCast,hx]
    refine wpAny_bind (wpAny_setField ho hd (by simp) (wpAny_pure ⟨x,rfl,wpAny_pure (hQ _ ?_ (Heap.SameBut.update ..))⟩))
    exact ⟨_,Heap.get?_update_self _ ho (Obj.isFreed_of_fields (Obj.data_mapFields hd _)),(Obj.cls_mapFields ..).trans hc,by rw [Obj.data_mapFields hd];simp [rawInt]⟩
theorem qhY {b:Bool} {it a:Addr} {i:Nat} {its:Array Value} {Q:Value→Shared→Prop} (hh:A.handled=none) (hit:SqI b s.heap it a i) (hl:SqO b s.heap a its) (hx:its[i]?=none)
    (hE:∀ h' e,Heap.ExtBut it s.heap h'→(∃ o,h'.get? e=some o∧o.cls=.type "StopIteration")→E (.ref e) { s with heap:=h' }):wpAny (model prog w) A (Builtin.SmallTypes.nextOf (.ref it)) Q E s:=by
  cases b with
  | true=>exact wpAny_nextOf_list_end hh hit hl hx hE
  | false =>
    have hit:s.heap.IsTupleIter it a i:=hit
    obtain ⟨o,ho,hc,hd⟩:=id hit
    obtain ⟨ol,hol,_,nl,hdl⟩:=hl
    unfold Builtin.SmallTypes.nextOf
    refine wpAny_bind (wpAny_callSpecial?_slot (name:=Str.ofString "__next__") hit.typeIs F.slot_tuple_iterator_next (wpAny_call_entry F.slot_tuple_iterator_next hit.typeIs F.entry_tuple_iterator_next ?_ (F.args_tuple_iterator_next_1 _)))
    show wpAny _ _ (field (.ref it) 0 >>= _) _ _ s
    refine wpAny_bind (wpAny_field ho hd (x:=.ref a) rfl ?_)
    show wpAny _ _ (if (Value.ref a == Value.none)=true then _ else _) _ _ s
    rw [if_neg (show ¬ ((Value.ref a == Value.none)=true) from Bool.false_ne_true)]
    show wpAny _ _ (field (.ref it) 1 >>= _) _ _ s
    refine wpAny_bind (wpAny_field ho hd (x:=.int i 0) rfl ?_)
    show wpAny _ _ (seqItems? (.ref a) >>= _) _ _ s
    refine wpAny_bind (wpAny_seqItems hol hdl ?_)
    simp only [Int.toNat_natCast,hx]
    refine wpAny_bind (wpAny_rule (wpAny_bind (wpAny_setField ho hd (by simp) ?_)))
    show wpAny _ _ (newExc (.type "StopIteration") [] >>= _) _ _ _
    refine wpAny_bind ?_
    simp only [newExc,newTuple]
    refine wpAny_bind (wpAny_newObj_type ?_ (by size_fits))
    refine wpAny_bind (m:=firstArgMember _ _) (wpAny_of_eq (a:=Value.none) (by first | rfl | (simp only [firstArgMember];rfl)) ?_)
    refine wpAny_newObj_type ?_ (by size_fits)
    simp only [raiseNew]
    refine wpAny_bind (wpAny_handled ?_)
    first | rw [show A.in1.handled=none from hh] | rw [hh]
    refine wpAny_bind (wpAny_pure (wpAny_throw ?_))
    exact hE _ _ (((Heap.SameBut.update ..).extBut.push _).push _) ⟨_,Heap.get?_push_size _ rfl,rfl⟩
theorem qkB (hh:A.handled=none) (b:Bool) (it a:Addr) (hne:a≠it) (its:Array Value):Draws prog w A it [it,a] its.size (fun i v=>its[i]?=some v) (fun i h=>SqI b h it a i∧SqO b h a its) where
  live:=fun _ _ st=>let ⟨o,e,_⟩:=st.1.obj;⟨o,e⟩
  frame:=fun _ _ _ st k=>⟨st.1.at fun o e=>k it (by simp) o e,st.2.at fun o e=>k a (by simp) o e⟩
  item:=fun i s Q E hi st hQ=>qfI st.1 st.2 (x:=its[i]) (by simp [hi]) fun h' q sb=>hQ _ h' s.toks (by simp [hi]) ⟨q,st.2.at fun o e=>(sb.2 a hne).trans e⟩ sb
  done:=fun s Q E st hE=>qhY hh st.1 st.2 (by simp) hE
theorem qj2 (l:Addr) (items:Array Value) (n:Nat) (dct:Option Addr) (sl:Array (Option Value)) :
    Meets (Builtin.«enumerate.__new__» ⟨[.type "enumerate",.ref l],[]⟩) (fun _ R s=>s.heap.get? l=some { cls:=.type "tuple",dict:=dct,data:=.seq items n,slots:=sl } ∧
      R (.ok (.ret (.ref (s.heap.push (qbL false l)).objs.size)))
        { s with heap:=(s.heap.push (qbL false l)).push { cls:=.type "enumerate",data:=.fields #[.none,.bool false,.ref s.heap.objs.size,rawInt 0,.none,.none] } }) :=
  .of_wp fun prog w A R s h=>by
    obtain ⟨hp,g,d,tk,os⟩:=s;obtain ⟨hl,h⟩:=h
    have hsub:=sub_enumerate
    have hL:Heap.IsTuple (Shared.heap ⟨hp,g,d,tk,os⟩) l items:=⟨_,hl,rfl,n,rfl⟩
    wp_walk using wpAny_loadPart' hl
    refine wpAny_stack_any fun st=>wpAny_pure ?_
    split
    · rename_i c _ _ _ _ _
      cases (c == Value.type "enumerate")
      · (wp_walk using wpAny_loadPart' hl,wpAny_pyIter_tuple hL);exact ⟨_,rfl,h⟩
      · (wp_walk using wpAny_loadPart' hl,wpAny_pyIter_tuple hL);exact ⟨_,rfl,h⟩
    · (wp_walk using wpAny_loadPart' hl,wpAny_pyIter_tuple hL);exact ⟨_,rfl,h⟩
theorem qj9 {b:Bool} {l:Addr} {items:Array Value} {Q:Value→Shared→Prop} (hL:SqO b s.heap l items)
    (h:∀ h',IsEnum h' (s.heap.objs.size+1) s.heap.objs.size 0 .none→SqI b h' s.heap.objs.size l 0→h'.objs.size=s.heap.objs.size+2→(∀ b o,s.heap.get? b=some o→h'.get? b=some o)→Q (.ref (s.heap.objs.size+1)) { s with heap:=h' }) :
    wpAny (model prog w) A (call (.type "enumerate") [.ref l]) Q E s:=by
  cases b with
  | true=>exact call_enumerate_list hL h
  | false =>
    obtain ⟨⟨c,dct,dt,sl⟩,hl,hc,n,hd⟩:=hL
    replace hc:c=.type "tuple":=hc
    replace hd:dt=.seq items n:=hd
    subst hc hd
    refine callType_new F.called_enumerate (by decide) (F.typeCall_enumerate_1 _) (F.newCall_enumerate_1 _) (fun obj=>F.args_object_init_2 obj _) F.entry_enumerate_new (qj2 l items n dct sl) ⟨hl,?_⟩
    have hz:(s.heap.push (qbL false l)).objs.size=s.heap.objs.size+1:=Heap.size_push ..
    show _∧_
    rw [hz]
    have he:=Heap.get?_push_size (s.heap.push (qbL false l)) (o:={ cls:=.type "enumerate",data:=.fields #[.none,.bool false,.ref s.heap.objs.size,rawInt 0,.none,.none] }) rfl
    rw [hz] at he
    have hi:(s.heap.push (qbL false l)).get? s.heap.objs.size=some (qbL false l):=Heap.get?_push_size _ rfl
    exact ⟨⟨_,he,rfl⟩,h _ he (qd3 (Heap.get?_push_of_some _ hi)) (by rw [Heap.size_push,hz]) fun b o x=>Heap.get?_push_of_some _ (Heap.get?_push_of_some _ x)⟩
theorem qkq {b:Bool} {e it a:Addr} {i:Nat} {j:Int} {its:Array Value} {old:Value} {Q:Option Value→Shared→Prop} (hh:A.handled=none) (he:IsEnum s.heap e it j old) (hit:SqI b s.heap it a i) (hl:SqO b s.heap a its) (hx:its[i]?=none)
    (hQ:∀ h',Heap.ExtBut it s.heap h'→Q none { s with heap:=h' }):wpAny (model prog w) A (pyNext (.ref e)) Q E s:=by
  have hT:s.TypeIs (.ref e) "enumerate":=⟨_,he,rfl⟩
  unfold pyNext
  refine wpAny_bind (wpAny_attempt (wpAny_callSpecial?_slot (name:=Str.ofString "__next__") hT F.slot_enumerate_next (wpAny_call_entry F.slot_enumerate_next hT F.entry_enumerate_next ?_ (F.args_enumerate_next_1 _))))
  show wpAny _ _ (field (.ref e) 2 >>= _) _ _ _
  refine wpAny_bind (wpAny_field he rfl (x:=.ref it) rfl (wpAny_bind (qhY hh hit hl hx fun h' x he' hx'=>?_)))
  obtain ⟨o,ho,hc⟩:=hx'
  exact wpAny_bind (wpAny_isInstance (T:="StopIteration") (b:=true) ⟨o,ho,hc⟩ isSubtype_stop (wpAny_pure (hQ _ he')))
end
def Ite (K:PySem.W.Frag) (b:Bool) (a:Addr):It :=
  ⟨fun i H=>∃ xs x,SqB K b H a xs∧xs[i]?=some x,fun i H x H'=>∃ t y,H t=none∧x=.ref t∧H'=upd H t (.tup [.int i,y])∧∀ xs,SqB K b H a xs→xs[i]?=some y,fun i H=>∃ xs,SqB K b H a xs∧xs.length≤i⟩
theorem qjM {P:Program} {w:World} {K:PySem.W.Frag} {es:List Expr} {k:Nat} {pos:Pos} (b:Bool) (a e it:Addr) (hei:e≠it):Turn P w K (.Tuple es k pos) (Ite K b a) [e,it] e (fun i h=>(∃ old,IsEnum h e it i old)∧SqI b h it a i) where
  mem:=by simp
  obj:=fun i h st c hc=>by
    obtain ⟨⟨old,he⟩,hs⟩:=st
    rcases List.mem_cons.mp hc with rfl | hc
    · exact ⟨_,he,fun v z=>by have z':Data.fields _=Data.cell v:=z;cases z'⟩
    · rw [List.mem_singleton.mp hc];exact hs.obj
  keep:=fun i h h' st k=>by
    obtain ⟨⟨old,he⟩,hs⟩:=st
    exact ⟨⟨old,k e (by simp) _ he⟩,hs.at fun o q=>k it (by simp) o q⟩
  item:=by
    intro X hP hw hK hc i pins s σ H E I hf st hg
    subst hP hw hK
    obtain ⟨xs,x,hq,hx⟩:=hg
    obtain ⟨⟨old,he⟩,hs⟩:=st
    obtain ⟨its,rv,p,hz⟩:=I.sqb hq
    obtain ⟨u,hu,ru⟩:=rv.get hx
    have hne:a≠it:=fun z=>by
      subst z
      have h1:=p;have h2:=hs
      cases b <;> (obtain ⟨o1,e1,c1,_⟩:=h1;obtain ⟨o2,e2,c2,_⟩:=h2;rw [e1] at e2;cases e2;rw [c1] at c2;exact absurd c2 (by simp))
    have hne2:a≠e:=fun z=>by
      subst z
      have h1:=p
      cases b <;> (obtain ⟨o1,e1,c1,_⟩:=h1;rw [he] at e1;cases e1;exact absurd c1 (by simp))
    have hil:i<its.toArray.size:=by
      have:i<its.length:=(List.getElem?_eq_some_iff.mp hu).1
      simpa using this
    have hh:X.A.in1.handled=none:=I.ok.hd hc
    refine wpAny_pyNext_enum_itemD (qkB hh b it a hne its.toArray) he ⟨hs,p⟩ hil hei (by simp [hei,Ne.symm hne2]) fun y h' tk hP' ho hst hT hsz hk=>?_
    have hy:y=u:=by
      have:its.toArray[i]?=some u:=by simpa using hu
      rw [this] at hP';exact (Option.some.inj hP').symm
    subst hy
    refine ⟨.ref s.heap.objs.size,rfl,wpAny_letOwnedTupleGo_enum ho fun h2 he2 hs2=>?_⟩
    have zn:H s.heap.objs.size=none:=I.fresh
    have I1:Inv X pins σ (upd H s.heap.objs.size (.tup [.int i,x])) { s with heap:=s.heap.push { cls:=.type "tuple",data:=.seq #[.int i tk,y] },toks:=tk } :=
      I.laid (fun c o q=>Heap.get?_push_of_some _ q) (Nat.le_refl _) ⟨by show 2≤sizeLine;decide,[.int i tk,y],.cons ⟨tk,rfl⟩ (.cons ru .nil),_,Heap.get?_push_size _ rfl,⟨rfl,rfl⟩,0,rfl⟩
    have lts:∀ c∈[e,it],c<s.heap.objs.size:=fun c hc=>by
      rcases List.mem_cons.mp hc with rfl | hc
      · exact Heap.lt_size he
      · rw [List.mem_singleton.mp hc];exact hs.lt
    have f1:∀ c∈[e,it],qgk X pins (upd H s.heap.objs.size (.tup [.int i,x])) c:=fun c hc=>⟨by rw [qar (Nat.ne_of_lt (lts c hc))];exact (hf c hc).1,(hf c hc).2⟩
    have I2:=I1.turnedL (h':=h2) (ch:=[e,it]) (t':=tk+1) (fun c o hc q=>?_) f1
    · refine ⟨.ref s.heap.objs.size,_,I2,rfl,⟨s.heap.objs.size,x,zn,rfl,rfl,fun ys hy=>by rw [I.sqb_inj hy hq];exact hx⟩,⟨⟨_,by simpa using he2⟩,hst.1.at fun o q=>(hs2.2 it (Ne.symm hei)).trans q⟩,fun c hc=>(f1 c hc).1⟩
    · have hce:c≠e:=fun z=>hc (by simp [z])
      have hci:c≠it:=fun z=>hc (by simp [z])
      refine (hs2.2 c hce).trans ?_
      rcases Heap.get?_push_cases q with ⟨z,z'⟩ | q'
      · subst z;subst z';exact hT
      · exact hk c o hce hci q'
  done:=by
    intro X hP hw hK hc i pins s σ H E I hf st hg
    subst hP hw hK
    obtain ⟨xs,hq,hx⟩:=hg
    obtain ⟨⟨old,he⟩,hs⟩:=st
    obtain ⟨its,rv,p,hz⟩:=I.sqb hq
    have hl:=rv.length
    refine qkq (I.ok.hd hc) he hs p (by simp;omega) fun h' eb=>⟨rfl,?_⟩
    exact I.turnedL (ch:=[e,it]) (t':=s.toks) (fun c o hc q=>eb c o (fun z=>hc (by simp [z])) q) hf
  self:=fun _ _ _ _ _ st h=>by obtain ⟨⟨old,he⟩,_⟩:=st;exact wpAny_pyIter_enum he h
end L2
namespace L2
open PySem PySem.Spec PyProof.Rows
open AutoSeq1 (wpAny_loadPart')
section
variable {X : Cx}
end
structure ZAp (z TI TO i1 i2:Addr):Prop where
  a1:TI≠z
  a2:TO≠z
  a3:i1≠z
  a4:i2≠z
  a5:TI≠TO
  a6:TI≠i1
  a7:TI≠i2
  a8:TO≠i1
  a9:TO≠i2
  a0:i1≠i2
theorem SqI.but {b:Bool} {h h':Heap} {it a c:Addr} {i:Nat} (x:SqI b h it a i) (s:Heap.SameBut c h h') (n:it≠c):SqI b h' it a i:=x.at fun o e=>(s.2 it n).trans e
theorem SqO.but {b:Bool} {h h':Heap} {a c:Addr} {its:Array Value} (x:SqO b h a its) (s:Heap.SameBut c h h') (n:a≠c):SqO b h' a its:=x.at fun o e=>(s.2 a n).trans e
theorem SqO.ne {b:Bool} {h:Heap} {a c:Addr} {its:Array Value} {o:Obj} (x:SqO b h a its) (e:h.get? c=some o) (n1:o.cls≠.type "list") (n2:o.cls≠.type "tuple"):a≠c:=fun z=>by
  subst z
  cases b <;> (obtain ⟨o',e',c',_⟩:=x;rw [e] at e';cases e')
  · exact n2 c'
  · exact n1 c'
theorem SqO.ne_it {b b':Bool} {h:Heap} {a it l:Addr} {its:Array Value} {i:Nat} (x:SqO b h a its) (y:SqI b' h it l i):a≠it:=by
  cases b' <;> (obtain ⟨o,e,c,_⟩:=y;exact x.ne e (by rw [c];simp) (by rw [c];simp))
section
variable {prog : Program} {w : World} {A : Around} {E : Value → Shared → Prop} {s : Shared}
theorem qk3 {b1 b2:Bool} {z TI TO i1 i2 l1 l2:Addr} {k1 k2:Nat} {xs ys:Array Value} {x y a b:Value} {Q:Value→Shared→Prop} (D:ZAp z TI TO i1 i2)
    (hz:IsZip s.heap z TI TO .none) (hTI:IsPair s.heap TI (.ref i1) (.ref i2)) (hTO:IsPair s.heap TO a b) (n1:l1≠TO) (n2:l2≠TO)
    (h1:SqI b1 s.heap i1 l1 k1) (h2:SqI b2 s.heap i2 l2 k2) (hl1:SqO b1 s.heap l1 xs) (hl2:SqO b2 s.heap l2 ys) (hx:xs[k1]?=some x) (hy:ys[k2]?=some y)
    (hQ:∀ h',IsZip h' z TI TO (rawInt s.heap.objs.size)→IsPair h' TO x y→SqI b1 h' i1 l1 (k1+1)→SqI b2 h' i2 l2 (k2+1)→IsPair h' s.heap.objs.size x y→h'.objs.size=s.heap.objs.size+1 →
      (∀ c o,c∉[z,TO,i1,i2]→s.heap.get? c=some o→h'.get? c=some o)→Q (.ref s.heap.objs.size) { s with heap:=h' }) :
    wpAny (model prog w) A (Builtin.«zip.__next__» ⟨[.ref z],[]⟩) (fun fin s'=>∃ v,fin=.done (.ret v)∧Q v s') E s:=by
  have l1z:l1≠z:=hl1.ne hz (by simp) (by simp)
  have l2z:l2≠z:=hl2.ne hz (by simp) (by simp)
  have l2i1:l2≠i1:=hl2.ne_it h1
  show wpAny _ _ (field (.ref z) 2 >>= _) _ _ _
  refine wpAny_bind (wpAny_field hz rfl (x:=.bool false) rfl ?_)
  show wpAny _ _ (field (.ref z) 3 >>= _) _ _ _
  refine wpAny_bind (wpAny_field hz rfl (x:=.ref TI) rfl (wpAny_bind (wpAny_seqItems hTI rfl ?_)))
  show wpAny _ _ (Builtin.SmallTypes.ownedTupleIsFree (.ref z) >>= _) _ _ _
  refine wpAny_bind ?_
  unfold Builtin.SmallTypes.ownedTupleIsFree
  refine wpAny_bind (wpAny_field hz rfl (x:=.none) rfl (wpAny_pure ?_))
  simp only [if_true]
  refine wpAny_bind (wpAny_rule (wpAny_bind (wpAny_field hz rfl (x:=.ref TO) rfl (wpAny_bind (wpAny_setField_rec hz (by simp) fun g1 z1 s1=>?_)))))
  replace z1:IsZip g1 z TI TO .ellipsis:=z1
  refine wpAny_bind ?_
  simp only [List.zipIdx_cons,List.zipIdx_nil,List.forIn_cons,List.forIn_nil]
  refine wpAny_bind (wpAny_bind (wpAny_onRaise ?_))
  show wpAny _ _ (Builtin.SmallTypes.nextOf (.ref i1) >>= _) _ _ _
  refine wpAny_bind (qfI (h1.but s1 D.a3) (hl1.but s1 l1z) hx fun g2 p2 s2=>wpAny_pure ?_)
  have t2:IsPair g2 TO a b:=s2.extBut _ _ D.a8 (s1.extBut _ _ D.a2 hTO)
  refine wpAny_bind (wpAny_seqItems t2 rfl (wpAny_bind (wpAny_updateSeq_pair t2 fun g3 t3 s3=>wpAny_bind (wpAny_letGo (wpAny_pure ?_)))))
  replace t3:IsPair g3 TO x b:=t3
  refine wpAny_bind (wpAny_bind (wpAny_onRaise ?_))
  show wpAny _ _ (Builtin.SmallTypes.nextOf (.ref i2) >>= _) _ _ _
  refine wpAny_bind (qfI (((h2.but s1 D.a4).but s2 D.a0.symm).but s3 D.a9.symm) (((hl2.but s1 l2z).but s2 l2i1).but s3 n2) hy fun g4 p4 s4=>wpAny_pure ?_)
  have t4:IsPair g4 TO x b:=s4.extBut _ _ D.a9 t3
  refine wpAny_bind (wpAny_seqItems t4 rfl (wpAny_bind (wpAny_updateSeq_pair t4 fun g5 t5 s5=>wpAny_bind (wpAny_letGo (wpAny_pure (wpAny_pure ?_))))))
  replace t5:IsPair g5 TO x y:=t5
  refine wpAny_bind (wpAny_seqItems t5 rfl (wpAny_bind (wpAny_newTuple ?_)))
  have sz:g5.objs.size=s.heap.objs.size:=by rw [s5.1,s4.1,s3.1,s2.1,s1.1]
  have z5:IsZip g5 z TI TO .ellipsis:=s5.extBut _ _ D.a2.symm (s4.extBut _ _ D.a4.symm (s3.extBut _ _ D.a2.symm (s2.extBut _ _ D.a3.symm z1)))
  have k5:∀ c o,c∉[z,TO,i1,i2]→s.heap.get? c=some o→g5.get? c=some o:=fun c o hc e=>by
    have c1:c≠z:=fun q=>hc (by simp [q])
    have c2:c≠TO:=fun q=>hc (by simp [q])
    have c3:c≠i1:=fun q=>hc (by simp [q])
    have c4:c≠i2:=fun q=>hc (by simp [q])
    exact s5.extBut _ _ c2 (s4.extBut _ _ c4 (s3.extBut _ _ c2 (s2.extBut _ _ c3 (s1.extBut _ _ c1 e))))
  have q1:SqI b1 g5 i1 l1 (k1+1):=((p2.but s3 D.a8.symm).but s4 D.a0).but s5 D.a8.symm
  have q2:SqI b2 g5 i2 l2 (k2+1):=p4.but s5 D.a9.symm
  show wpAny _ _ (Builtin.SmallTypes.ownedTupleHandOut (.ref z) (.ref g5.objs.size) >>= _) _ _ _
  refine wpAny_bind ?_
  unfold Builtin.SmallTypes.ownedTupleHandOut
  have z6:IsZip (g5.push { cls:=.type "tuple",data:=.seq #[x,y] }) z TI TO .ellipsis:=Heap.get?_push_of_some _ z5
  refine wpAny_bind (wpAny_setField_rec z6 (by simp) fun g7 z7 s7=>?_)
  replace z7:IsZip g7 z TI TO (rawInt g5.objs.size):=z7
  refine wpAny_setField_rec z7 (by simp) fun g8 z8 s8=>?_
  replace z8:IsZip g8 z TI TO (rawInt g5.objs.size):=z8
  have up:∀ c o,c≠z→g5.get? c=some o→g8.get? c=some o:=fun c o c1 e=>s8.extBut _ _ c1 (s7.extBut _ _ c1 (Heap.get?_push_of_some _ e))
  have zl:g5.objs.size≠z:=Nat.ne_of_gt (Heap.lt_size z5)
  have t8:IsPair g8 g5.objs.size x y:=s8.extBut _ _ zl (s7.extBut _ _ zl (Heap.get?_push_size _ rfl))
  have e8:g8.objs.size=g5.objs.size+1:=by rw [s8.1,s7.1,Heap.size_push]
  rw [sz] at z8 t8 e8
  refine wpAny_pure ⟨_,rfl,?_⟩
  show Q (.ref g5.objs.size) _
  rw [sz]
  exact hQ g8 z8 (up _ _ D.a2 t5) (q1.at fun o e=>up _ o D.a3 e) (q2.at fun o e=>up _ o D.a4 e) t8 e8 fun c o hc e=>up c o (fun q=>hc (by simp [q])) (k5 c o hc e)
theorem qmd {b1 b2:Bool} {z TI TO i1 i2 l1 l2:Addr} {k1 k2:Nat} {xs ys:Array Value} {a b:Value} {Q:Fin→Shared→Prop} (hh:A.handled=none) (D:ZAp z TI TO i1 i2)
    (hz:IsZip s.heap z TI TO .none) (hTI:IsPair s.heap TI (.ref i1) (.ref i2)) (hTO:IsPair s.heap TO a b) (n1:l1≠TO) (n2:l2≠TO)
    (h1:SqI b1 s.heap i1 l1 k1) (h2:SqI b2 s.heap i2 l2 k2) (hl1:SqO b1 s.heap l1 xs) (hl2:SqO b2 s.heap l2 ys) (hend:xs[k1]?=none∨ys[k2]?=none)
    (hE:∀ h' e,(∀ c o,c∉[z,TO,i1,i2]→s.heap.get? c=some o→h'.get? c=some o)→(∃ o,h'.get? e=some o∧o.cls=.type "StopIteration")→E (.ref e) { s with heap:=h' }) :
    wpAny (model prog w) A (Builtin.«zip.__next__» ⟨[.ref z],[]⟩) Q E s:=by
  have l1z:l1≠z:=hl1.ne hz (by simp) (by simp)
  have l2z:l2≠z:=hl2.ne hz (by simp) (by simp)
  have l2i1:l2≠i1:=hl2.ne_it h1
  show wpAny _ _ (field (.ref z) 2 >>= _) _ _ _
  refine wpAny_bind (wpAny_field hz rfl (x:=.bool false) rfl ?_)
  show wpAny _ _ (field (.ref z) 3 >>= _) _ _ _
  refine wpAny_bind (wpAny_field hz rfl (x:=.ref TI) rfl (wpAny_bind (wpAny_seqItems hTI rfl ?_)))
  show wpAny _ _ (Builtin.SmallTypes.ownedTupleIsFree (.ref z) >>= _) _ _ _
  refine wpAny_bind ?_
  unfold Builtin.SmallTypes.ownedTupleIsFree
  refine wpAny_bind (wpAny_field hz rfl (x:=.none) rfl (wpAny_pure ?_))
  simp only [if_true]
  refine wpAny_bind (wpAny_rule (wpAny_bind (wpAny_field hz rfl (x:=.ref TO) rfl (wpAny_bind (wpAny_setField_rec hz (by simp) fun g1 z1 s1=>?_)))))
  replace z1:IsZip g1 z TI TO .ellipsis:=z1
  refine wpAny_bind ?_
  simp only [List.zipIdx_cons,List.zipIdx_nil,List.forIn_cons,List.forIn_nil]
  refine wpAny_bind (wpAny_bind (wpAny_onRaise ?_))
  show wpAny _ _ (Builtin.SmallTypes.nextOf (.ref i1) >>= _) _ _ _
  cases hx:xs[k1]? with
  | none =>
    refine wpAny_bind (qhY hh (h1.but s1 D.a3) (hl1.but s1 l1z) hx fun g2 e s2 he=>?_)
    obtain ⟨oe,hoe,hce⟩:=he
    have z2:IsZip g2 z TI TO .ellipsis:=s2 _ _ D.a3.symm z1
    have ez:e≠z:=fun q=>by subst q;rw [z2] at hoe;cases hoe;simp at hce
    refine wpAny_setField_rec z2 (by simp) fun g3 _ s3=>hE g3 e (fun c o hc q=>?_) ⟨oe,s3.extBut _ _ ez hoe,hce⟩
    have c1:c≠z:=fun q=>hc (by simp [q])
    exact s3.extBut _ _ c1 (s2 _ _ (fun q=>hc (by simp [q])) (s1.extBut _ _ c1 q))
  | some x =>
    have hy:ys[k2]?=none:=by
      rcases hend with h | h
      · rw [hx] at h;cases h
      · exact h
    refine wpAny_bind (qfI (h1.but s1 D.a3) (hl1.but s1 l1z) hx fun g2 p2 s2=>wpAny_pure ?_)
    have t2:IsPair g2 TO a b:=s2.extBut _ _ D.a8 (s1.extBut _ _ D.a2 hTO)
    refine wpAny_bind (wpAny_seqItems t2 rfl (wpAny_bind (wpAny_updateSeq_pair t2 fun g3 t3 s3=>wpAny_bind (wpAny_letGo (wpAny_pure ?_)))))
    refine wpAny_bind (wpAny_bind (wpAny_onRaise ?_))
    show wpAny _ _ (Builtin.SmallTypes.nextOf (.ref i2) >>= _) _ _ _
    refine wpAny_bind (qhY hh (((h2.but s1 D.a4).but s2 D.a0.symm).but s3 D.a9.symm) (((hl2.but s1 l2z).but s2 l2i1).but s3 n2) hy fun g4 e s4 he=>?_)
    obtain ⟨oe,hoe,hce⟩:=he
    have z4:IsZip g4 z TI TO .ellipsis:=s4 _ _ D.a4.symm (s3.extBut _ _ D.a2.symm (s2.extBut _ _ D.a3.symm z1))
    have ez:e≠z:=fun q=>by subst q;rw [z4] at hoe;cases hoe;simp at hce
    refine wpAny_setField_rec z4 (by simp) fun g5 _ s5=>hE g5 e (fun c o hc q=>?_) ⟨oe,s5.extBut _ _ ez hoe,hce⟩
    have c1:c≠z:=fun q=>hc (by simp [q])
    exact s5.extBut _ _ c1 (s4 _ _ (fun q=>hc (by simp [q])) (s3.extBut _ _ (fun q=>hc (by simp [q])) (s2.extBut _ _ (fun q=>hc (by simp [q])) (s1.extBut _ _ c1 q))))
theorem qmW (b1 b2:Bool) (l1 l2:Addr) (xs ys:Array Value) :
    Meets (Builtin.«zip.__new__» ⟨[.type "zip",.ref l1,.ref l2],[]⟩) (fun _ R s=>SqO b1 s.heap l1 xs∧SqO b2 s.heap l2 ys ∧
      R (.ok (.ret (.ref (s.heap.objs.size+4)))) { s with heap:=((((s.heap.push (qbL b1 l1)).push (qbL b2 l2)).push { cls:=.type "tuple",data:=.seq #[.ref s.heap.objs.size,.ref (s.heap.objs.size+1)] }).push { cls:=.type "tuple",data:=.seq #[.none,.none] }).push { cls:=.type "zip",data:=.fields #[.none,.bool false,.bool false,.ref (s.heap.objs.size+2),.ref (s.heap.objs.size+3)] } }) :=
  .of_wp fun prog w A R s h=>by
    obtain ⟨hp,g,d,tk,os⟩:=s;obtain ⟨hl1,hl2,h⟩:=h
    have hsub:=sub_zip
    have hL1:SqO b1 (Shared.heap ⟨hp,g,d,tk,os⟩) l1 xs:=hl1
    have hL2:SqO b2 (Shared.heap ⟨hp.push (qbL b1 l1),g,d,tk,os⟩) l2 ys:=SqO.at hl2 fun o e=>Heap.get?_push_of_some _ e
    wp_walk using qgW hL1,qgW hL2
    have e1:(hp.push (qbL b1 l1)).objs.size=hp.objs.size+1:=Heap.size_push ..
    have e2:((hp.push (qbL b1 l1)).push (qbL b2 l2)).objs.size=hp.objs.size+2:=by rw [Heap.size_push,e1]
    refine ⟨_,rfl,?_⟩
    simp only [Heap.size_push]
    exact h
theorem qkS {b1 b2:Bool} {l1 l2:Addr} {xs ys:Array Value} {Q:Value→Shared→Prop} (hl1:SqO b1 s.heap l1 xs) (hl2:SqO b2 s.heap l2 ys)
    (h:∀ h',IsZip h' (s.heap.objs.size+4) (s.heap.objs.size+2) (s.heap.objs.size+3) .none→IsPair h' (s.heap.objs.size+2) (.ref s.heap.objs.size) (.ref (s.heap.objs.size+1))→IsPair h' (s.heap.objs.size+3) .none .none →
      SqI b1 h' s.heap.objs.size l1 0→SqI b2 h' (s.heap.objs.size+1) l2 0→(∀ c o,s.heap.get? c=some o→h'.get? c=some o)→Q (.ref (s.heap.objs.size+4)) { s with heap:=h' }) :
    wpAny (model prog w) A (call (.type "zip") [.ref l1,.ref l2]) Q E s:=by
  refine callType_new F.called_zip (by decide) (F.typeCall_zip_2 _ _) (F.newCall_zip_2 _ _) (fun obj=>F.args_object_init_3 obj _ _) F.entry_zip_new (qmW b1 b2 l1 l2 xs ys) ⟨hl1,hl2,?_⟩
  have f1:(qbL b1 l1).isFreed=false:=by cases b1 <;> rfl
  have f2:(qbL b2 l2).isFreed=false:=by cases b2 <;> rfl
  have z1:(s.heap.push (qbL b1 l1)).objs.size=s.heap.objs.size+1:=Heap.size_push ..
  have z2:((s.heap.push (qbL b1 l1)).push (qbL b2 l2)).objs.size=s.heap.objs.size+2:=by rw [Heap.size_push,z1]
  generalize hg2:(s.heap.push (qbL b1 l1)).push (qbL b2 l2)=g2 at z2 ⊢
  have e0:g2.get? s.heap.objs.size=some (qbL b1 l1):=by rw [← hg2];exact Heap.get?_push_of_some _ (Heap.get?_push_size _ f1)
  have e1:g2.get? (s.heap.objs.size+1)=some (qbL b2 l2):=by rw [← hg2,← z1];exact Heap.get?_push_size _ f2
  have k2:∀ c o,s.heap.get? c=some o→g2.get? c=some o:=fun c o q=>by rw [← hg2];exact Heap.get?_push_of_some _ (Heap.get?_push_of_some _ q)
  generalize hg3:g2.push { cls:=.type "tuple",data:=.seq #[.ref s.heap.objs.size,.ref (s.heap.objs.size+1)] }=g3
  have z3:g3.objs.size=s.heap.objs.size+3:=by rw [← hg3,Heap.size_push,z2]
  have e2:IsPair g3 (s.heap.objs.size+2) (.ref s.heap.objs.size) (.ref (s.heap.objs.size+1)):=by rw [← hg3,← z2];exact Heap.get?_push_size _ rfl
  have k3:∀ c o,g2.get? c=some o→g3.get? c=some o:=fun c o q=>by rw [← hg3];exact Heap.get?_push_of_some _ q
  generalize hg4:g3.push { cls:=.type "tuple",data:=.seq #[.none,.none] }=g4
  have z4:g4.objs.size=s.heap.objs.size+4:=by rw [← hg4,Heap.size_push,z3]
  have e3:IsPair g4 (s.heap.objs.size+3) .none .none:=by rw [← hg4,← z3];exact Heap.get?_push_size _ rfl
  have k4:∀ c o,g3.get? c=some o→g4.get? c=some o:=fun c o q=>by rw [← hg4];exact Heap.get?_push_of_some _ q
  generalize hg5:g4.push { cls:=.type "zip",data:=.fields #[.none,.bool false,.bool false,.ref (s.heap.objs.size+2),.ref (s.heap.objs.size+3)] }=g5
  have e4:IsZip g5 (s.heap.objs.size+4) (s.heap.objs.size+2) (s.heap.objs.size+3) .none:=by rw [← hg5,← z4];exact Heap.get?_push_size _ rfl
  have k5:∀ c o,g4.get? c=some o→g5.get? c=some o:=fun c o q=>by rw [← hg5];exact Heap.get?_push_of_some _ q
  show _∧_
  exact ⟨⟨_,e4,rfl⟩,h _ e4 (k5 _ _ (k4 _ _ e2)) (k5 _ _ e3) (qd3 (k5 _ _ (k4 _ _ (k3 _ _ e0)))) (qd3 (k5 _ _ (k4 _ _ (k3 _ _ e1)))) fun c o q=>k5 _ _ (k4 _ _ (k3 _ _ (k2 _ _ q)))⟩
theorem qjg {b1 b2:Bool} {z TI TO i1 i2 l1 l2:Addr} {k1 k2:Nat} {xs ys:Array Value} {x y a b:Value} {Q:Option Value→Shared→Prop} (D:ZAp z TI TO i1 i2)
    (hz:IsZip s.heap z TI TO .none) (hTI:IsPair s.heap TI (.ref i1) (.ref i2)) (hTO:IsPair s.heap TO a b) (n1:l1≠TO) (n2:l2≠TO)
    (h1:SqI b1 s.heap i1 l1 k1) (h2:SqI b2 s.heap i2 l2 k2) (hl1:SqO b1 s.heap l1 xs) (hl2:SqO b2 s.heap l2 ys) (hx:xs[k1]?=some x) (hy:ys[k2]?=some y)
    (hQ:∀ h',IsZip h' z TI TO (rawInt s.heap.objs.size)→IsPair h' TO x y→SqI b1 h' i1 l1 (k1+1)→SqI b2 h' i2 l2 (k2+1)→IsPair h' s.heap.objs.size x y→h'.objs.size=s.heap.objs.size+1 →
      (∀ c o,c∉[z,TO,i1,i2]→s.heap.get? c=some o→h'.get? c=some o)→Q (some (.ref s.heap.objs.size)) { s with heap:=h' }):wpAny (model prog w) A (pyNext (.ref z)) Q E s:=by
  have hT:s.TypeIs (.ref z) "zip":=⟨_,hz,rfl⟩
  unfold pyNext
  exact wpAny_bind (wpAny_attempt (wpAny_callSpecial?_slot (name:=Str.ofString "__next__") hT F.slot_zip_next (wpAny_call_entry F.slot_zip_next hT F.entry_zip_next
    (qk3 D hz hTI hTO n1 n2 h1 h2 hl1 hl2 hx hy fun h' c1 c2 c3 c4 c5 c6 c7=>wpAny_pure (hQ h' c1 c2 c3 c4 c5 c6 c7)) (F.args_zip_next_1 _))))
theorem qkg {b1 b2:Bool} {z TI TO i1 i2 l1 l2:Addr} {k1 k2:Nat} {xs ys:Array Value} {a b:Value} {Q:Option Value→Shared→Prop} (hh:A.handled=none) (D:ZAp z TI TO i1 i2)
    (hz:IsZip s.heap z TI TO .none) (hTI:IsPair s.heap TI (.ref i1) (.ref i2)) (hTO:IsPair s.heap TO a b) (n1:l1≠TO) (n2:l2≠TO)
    (h1:SqI b1 s.heap i1 l1 k1) (h2:SqI b2 s.heap i2 l2 k2) (hl1:SqO b1 s.heap l1 xs) (hl2:SqO b2 s.heap l2 ys) (hend:xs[k1]?=none∨ys[k2]?=none)
    (hQ:∀ h',(∀ c o,c∉[z,TO,i1,i2]→s.heap.get? c=some o→h'.get? c=some o)→Q none { s with heap:=h' }):wpAny (model prog w) A (pyNext (.ref z)) Q E s:=by
  have hT:s.TypeIs (.ref z) "zip":=⟨_,hz,rfl⟩
  unfold pyNext
  refine wpAny_bind (wpAny_attempt (wpAny_callSpecial?_slot (name:=Str.ofString "__next__") hT F.slot_zip_next (wpAny_call_entry F.slot_zip_next hT F.entry_zip_next (qmd hh D hz hTI hTO n1 n2 h1 h2 hl1 hl2 hend fun h' e hk he=>?_) (F.args_zip_next_1 _))))
  obtain ⟨o,ho,hc⟩:=he
  exact wpAny_bind (wpAny_isInstance (T:="StopIteration") (b:=true) ⟨o,ho,hc⟩ isSubtype_stop (wpAny_pure (hQ _ hk)))
end
theorem Inv.sqb_ne {X:Cx} {pins:List (Addr × Obj)} {σ:St} {H:Hp} {s:Shared} {b:Bool} {a c:Addr} {xs:List V} (I:Inv X pins σ H s) (h:SqB X.K b H a xs) (f:qgk X pins H c):a≠c:=fun z=>by
  subst z
  have nk:∀ o,X.K.lookup a=some o→False:=fun o e=>by
    have e':=I.mod.kin a o e
    rcases f.2.2.2.1 with q | q
    · exact I.ok.noex a o e' q
    · exact absurd (Nat.lt_of_lt_of_le (Heap.lt_size e') (Nat.le_trans I.ok.bsz q)) (Nat.lt_irrefl _)
  cases b with
  | true =>
    rcases h with (h | ⟨o,h⟩) | ⟨o,_,_,h,_⟩
    · rw [f.1] at h;cases h
    · rw [f.1] at h;cases h
    · exact nk o h
  | false =>
    rcases h with (h | ⟨o,h⟩) | ⟨o,_,_,h,_⟩
    · rw [f.1] at h;cases h
    · rw [f.1] at h;cases h
    · exact nk o h
def Itz (K:PySem.W.Frag) (b1:Bool) (a1:Addr) (b2:Bool) (a2:Addr):It :=
  ⟨fun i H=>∃ xs ys x y,SqB K b1 H a1 xs∧SqB K b2 H a2 ys∧xs[i]?=some x∧ys[i]?=some y,
   fun i H v H'=>∃ t x y,H t=none∧v=.ref t∧H'=upd H t (.tup [x,y])∧(∀ xs,SqB K b1 H a1 xs→xs[i]?=some x)∧∀ ys,SqB K b2 H a2 ys→ys[i]?=some y,
   fun i H=>∃ xs ys,SqB K b1 H a1 xs∧SqB K b2 H a2 ys∧(xs.length≤i∨ys.length≤i)⟩
theorem qkr {P:Program} {w:World} {K:PySem.W.Frag} {es:List Expr} {k:Nat} {pos:Pos} (b1 b2:Bool) (a1 a2 z TI TO i1 i2:Addr) (D:ZAp z TI TO i1 i2) :
    Turn P w K (.Tuple es k pos) (Itz K b1 a1 b2 a2) [z,TI,TO,i1,i2] z (fun i h=>IsZip h z TI TO .none∧IsPair h TI (.ref i1) (.ref i2)∧(∃ a b,IsPair h TO a b)∧SqI b1 h i1 a1 i∧SqI b2 h i2 a2 i) where
  mem:=by simp
  obj:=fun i h st c hc=>by
    obtain ⟨h1,h2,⟨a,b,h3⟩,h4,h5⟩:=st
    simp only [List.mem_cons,List.not_mem_nil,or_false] at hc
    rcases hc with rfl | rfl | rfl | rfl | rfl
    · exact ⟨_,h1,fun v q=>by have q':Data.fields _=Data.cell v:=q;cases q'⟩
    · exact ⟨_,h2,fun v q=>by have q':Data.seq _ _=Data.cell v:=q;cases q'⟩
    · exact ⟨_,h3,fun v q=>by have q':Data.seq _ _=Data.cell v:=q;cases q'⟩
    · exact h4.obj
    · exact h5.obj
  keep:=fun i h h' st k=>by
    obtain ⟨h1,h2,⟨a,b,h3⟩,h4,h5⟩:=st
    exact ⟨k z (by simp) _ h1,k TI (by simp) _ h2,⟨a,b,k TO (by simp) _ h3⟩,h4.at fun o q=>k i1 (by simp) o q,h5.at fun o q=>k i2 (by simp) o q⟩
  item:=by
    intro X hP hw hK hc i pins s σ H E I hf st hg
    subst hP hw hK
    obtain ⟨xs,ys,x,y,hq1,hq2,hx,hy⟩:=hg
    obtain ⟨h1,h2,⟨a,b,h3⟩,h4,h5⟩:=st
    obtain ⟨its1,rv1,p1,_⟩:=I.sqb hq1
    obtain ⟨its2,rv2,p2,_⟩:=I.sqb hq2
    obtain ⟨u,hu,ru⟩:=rv1.get hx
    obtain ⟨v,hv,rv⟩:=rv2.get hy
    refine qjg D h1 h2 h3 (I.sqb_ne hq1 (hf TO (by simp))) (I.sqb_ne hq2 (hf TO (by simp))) h4 h5 p1 p2 (x:=u) (y:=v) (by simpa using hu) (by simpa using hv) fun h' z1 z2 z3 z4 z5 z6 hk=>?_
    refine ⟨.ref s.heap.objs.size,rfl,wpAny_letOwnedTupleGo_zip z1 fun g2 zz hs2=>?_⟩
    have zn:H s.heap.objs.size=none:=I.fresh
    have I1:Inv X pins σ (upd H s.heap.objs.size (.tup [x,y])) { s with heap:=s.heap.push { cls:=.type "tuple",data:=.seq #[u,v] },toks:=s.toks } :=
      I.laid (fun c o q=>Heap.get?_push_of_some _ q) (Nat.le_refl _) ⟨by show 2≤sizeLine;decide,[u,v],.cons ru (.cons rv .nil),_,Heap.get?_push_size _ rfl,⟨rfl,rfl⟩,0,rfl⟩
    have lts:∀ c∈[z,TI,TO,i1,i2],c<s.heap.objs.size:=fun c hc=>by
      simp only [List.mem_cons,List.not_mem_nil,or_false] at hc
      rcases hc with rfl | rfl | rfl | rfl | rfl
      · exact Heap.lt_size h1
      · exact Heap.lt_size h2
      · exact Heap.lt_size h3
      · exact h4.lt
      · exact h5.lt
    have f1:∀ c∈[z,TI,TO,i1,i2],qgk X pins (upd H s.heap.objs.size (.tup [x,y])) c:=fun c hc=>⟨by rw [qar (Nat.ne_of_lt (lts c hc))];exact (hf c hc).1,(hf c hc).2⟩
    have I2:=I1.turnedL (h':=g2) (ch:=[z,TI,TO,i1,i2]) (t':=s.toks) (fun c o hc q=>?_) f1
    · refine ⟨.ref s.heap.objs.size,_,I2,rfl,⟨s.heap.objs.size,x,y,zn,rfl,rfl,fun xs' hy'=>by rw [I.sqb_inj hy' hq1];exact hx,fun ys' hy'=>by rw [I.sqb_inj hy' hq2];exact hy⟩,
        ⟨zz,hs2.extBut _ _ D.a1 (hk TI _ (by simp [D.a1,D.a5,D.a6,D.a7]) h2),⟨_,_,hs2.extBut _ _ D.a2 z2⟩,z3.but hs2 D.a3,z4.but hs2 D.a4⟩,fun c hc=>(f1 c hc).1⟩
    · have hcz:c≠z:=fun e=>hc (by simp [e])
      refine (hs2.2 c hcz).trans ?_
      rcases Heap.get?_push_cases q with ⟨e,e'⟩ | q'
      · subst e;subst e';exact z5
      · exact hk c o (fun e=>hc (by
          simp only [List.mem_cons,List.not_mem_nil,or_false] at e ⊢
          rcases e with e | e | e | e
          · exact .inl e
          · exact .inr (.inr (.inl e))
          · exact .inr (.inr (.inr (.inl e)))
          · exact .inr (.inr (.inr (.inr e))))) q'
  done:=by
    intro X hP hw hK hc i pins s σ H E I hf st hg
    subst hP hw hK
    obtain ⟨xs,ys,hq1,hq2,hend⟩:=hg
    obtain ⟨h1,h2,⟨a,b,h3⟩,h4,h5⟩:=st
    obtain ⟨its1,rv1,p1,_⟩:=I.sqb hq1
    obtain ⟨its2,rv2,p2,_⟩:=I.sqb hq2
    have l1:=rv1.length
    have l2:=rv2.length
    have he:its1.toArray[i]?=none∨its2.toArray[i]?=none:=by
      rcases hend with q | q
      · exact .inl (by simp;omega)
      · exact .inr (by simp;omega)
    refine qkg (I.ok.hd hc) D h1 h2 h3 (I.sqb_ne hq1 (hf TO (by simp))) (I.sqb_ne hq2 (hf TO (by simp))) h4 h5 p1 p2 he fun h' hk=>⟨rfl,?_⟩
    refine I.turnedL (ch:=[z,TI,TO,i1,i2]) (t':=s.toks) (fun c o hc q=>hk c o (fun e=>hc ?_) q) hf
    simp only [List.mem_cons,List.not_mem_nil,or_false] at e ⊢
    rcases e with e | e | e | e
    · exact .inl e
    · exact .inr (.inr (.inl e))
    · exact .inr (.inr (.inr (.inl e)))
    · exact .inr (.inr (.inr (.inr e)))
  self:=fun _ _ _ _ _ st h=>wpAny_pyIter_zip st.1 h
theorem zap (n:Nat):ZAp (n+4) (n+2) (n+3) n (n+1) :=
  ⟨(by omega:n+2≠n+4),(by omega:n+3≠n+4),(by omega:n≠n+4),(by omega:n+1≠n+4),(by omega:n+2≠n+3),(by omega:n+2≠n),(by omega:n+2≠n+1),(by omega:n+3≠n),(by omega:n+3≠n+1),(by omega:n≠n+1)⟩
section
variable {X : Cx}
end
end L2
namespace L2
open PySem PySem.Spec PyProof.Rows
section
variable {X : Cx}
theorem qmG:OpR X (binaryOp .Mult) (rI IntMulOk fun i j=>.int (i*j)):=opI fun _ _ _ _ _ _ _ hc q=>mul_int q hc
def CDivB (i j:Int):Prop:=0<j∧j.natAbs.log2<9000
theorem qkj:OpR X (binaryOp .FloorDiv) (rI CDivB fun i j=>.int (i / j)):=opI fun i j _ _ _ _ _ hc q=>by
  have h1:(0:Int)<j:=hc.1
  exact floordiv_int (by omega) (by rw [Int.fdiv_eq_ediv_of_nonneg i (by omega)];exact q) (.inl (PyProof.noPylong_of_log2 hc.2))
end
theorem qeZ {n k:Nat} (hk:0<k) (h:n<2 ^ k):n.log2<k:=by
  rcases Nat.eq_zero_or_pos n with z | z
  · subst z;simpa using hk
  · exact (Nat.log2_lt (Nat.ne_of_gt z)).mpr h
theorem CDivB.of {i j:Int} (h0:0<j) (h:j<2 ^ 9000):CDivB i j:=⟨h0,qeZ (by decide) (by
  have e:(j.natAbs:Int)=j:=Int.natAbs_of_nonneg (Int.le_of_lt h0)
  have:(j.natAbs:Int)<((2 ^ 9000:Nat):Int):=by rw [e];exact_mod_cast h
  exact_mod_cast this)⟩
theorem qiv {a:Int} {k:Nat} (hk:0<k) (h:a.natAbs<2 ^ k):Builtin.Int.intBits a≤k:=by
  unfold Builtin.Int.intBits
  split
  · exact Nat.zero_le _
  · exact qeZ hk h
theorem qgY {a b:Int} (h1:-(2 ^ 64)<a) (h2:a<2 ^ 64):IntMulOk a b:=.of_left (intBits_le_64 h1 h2)
theorem qgX {a b:Int} (h1:-(2 ^ 64)<b) (h2:b<2 ^ 64):IntMulOk a b:=.of_right (intBits_le_64 h1 h2)
section
variable {prog : Program} {w : World} {A : Around} {E : Value → Shared → Prop} {s : Shared}
theorem qgg {it t:Addr} {items:Array Value} (hne:t≠it):∀ (n i:Nat) (s:Shared) (Q:List Value→Shared→Prop),s.heap.IsListIter it t i→s.heap.IsList t items→i+n≤items.size →
    (∀ h',h'.IsListIter it t (i+n)→Heap.SameBut it s.heap h'→Q ((items.toList.drop i).take n) { s with heap:=h' })→wpAny (model prog w) A (draw (.ref it) n) Q E s
  | 0,i,s,Q,hit,_,_,hQ=>by
    show wpAny _ _ (pure []) Q E s
    exact wpAny_pure (by simpa using hQ s.heap hit (Heap.SameBut.refl ..))
  | n+1,i,s,Q,hit,ht,hle,hQ=>by
    have hlt:i<items.size:=by omega
    show wpAny _ _ (pyNext (.ref it) >>= _) Q E s
    refine wpAny_bind (wpAny_pyNext_list_item hit ht (x:=items[i]) (by simp [hlt]) fun g1 hit1 s1=>?_)
    refine wpAny_bind (wpAny_holding (qgg hne n (i+1) _ _ hit1 (ht.extBut s1.extBut hne) (by omega) fun g2 hit2 s2=>wpAny_pure ?_))
    have hd:items.toList.drop i=items[i]::items.toList.drop (i+1):=by simp [List.drop_eq_getElem_cons,hlt]
    have:=hQ g2 (by rw [show i+(n+1)=i+1+n by omega];exact hit2) (s1.trans s2)
    rw [hd,List.take_succ_cons] at this
    exact this
theorem qdV {t:Addr} {items:Array Value} {Q:List Value→Shared→Prop} (hh:A.handled=none) (ht:s.heap.IsList t items)
    (hQ:∀ h',Heap.ExtBut s.heap.objs.size s.heap h'→Q items.toList { s with heap:=h' }):wpAny (model prog w) A (unpackItems (.ref t) items.size none) Q E s:=by
  have hlt:t≠s.heap.objs.size:=by obtain ⟨o,ho,_⟩:=ht;exact Nat.ne_of_lt (Heap.lt_size ho)
  unfold unpackItems
  refine wpAny_bind ?_
  unfold notIterableAtAll
  refine wpAny_bind (wpAny_specialOf ht.typeIs slot_list_iter.lookup (wpAny_pure ?_))
  simp only [Bool.false_eq_true,if_false]
  refine wpAny_bind (wpAny_holding (wpAny_pyIter_list ht (wpAny_bind (wpAny_holding (qgg hlt items.size 0 _ _ ⟨_,Heap.get?_push_size _ rfl,rfl,rfl⟩ (ht.push _) (by omega) fun g1 hit1 s1=>?_)))))
  have hall:List.take items.size (List.drop 0 items.toList)=items.toList:=by
    rw [List.drop_zero];exact List.take_of_length_le (by simp)
  rw [hall,if_neg (by simp)]
  have ht1:g1.IsList t items:=(ht.push _).extBut s1.extBut hlt
  refine wpAny_bind (wpAny_holding (wpAny_pyNext_list_end hh hit1 ht1 (by simp) fun g2 e2=>?_))
  simp only [Option.isSome_none,Bool.false_eq_true,if_false]
  exact wpAny_pure (hQ g2 fun b o hb e=>e2 b o hb (s1.extBut b o hb (Heap.get?_push_of_some _ e)))
end
section
variable {X : Cx} {pos : Pos}
def qpe (K:PySem.W.Frag) (n:Nat) (t:TGs):TG:=fun v σ H Q=>∃ a xs,v=.ref a∧SqL K H a xs∧xs.length=n∧t xs σ H Q
theorem qn1 {es:List Expr} {k:Nat} {t:TGs} {n:Nat} (hc:X.calm=true) (h:PGs X es t)
    (hn:(assignEach es X.env).length=n:=by rfl) (hst:(assignEach es X.env).findIdx? (·.1)=none:=by rfl):PG X (.Tuple es k pos) (qpe X.K n t):=by
  intro pins s σ H v u Q I r hw
  obtain ⟨a,xs,e1,hq,hl,hw⟩:=hw
  subst e1
  cases r
  obtain ⟨its,rv,ht,hz⟩:=I.list hq
  rw [assign_Tuple]
  refine wpAny_bind (wpAny_standAt ?_)
  unfold unpack
  have e0:(assignEach es X.env).length=its.toArray.size:=by simp [hn,← hl,rv.length]
  rw [e0,hst]
  refine wpAny_bind (wpAny_holding (qdV (I.ok.hd hc) ht.isList fun h' hx=>?_))
  have I1:Inv X pins σ H { s with heap:=h' }:=I.kept (t':=s.toks) fun b o e=>hx b o (Nat.ne_of_lt (Heap.lt_size e)) e
  exact h pins _ σ H xs _ Q I1 (by simpa using rv) hw
end
inductive IsiV (K:PySem.W.Frag) (H:Hp):V→String→Bool→Prop where
  | int_int (i):IsiV K H (.int i) "int" true
  | int_bool (i):IsiV K H (.int i) "bool" false
  | int_tuple (i):IsiV K H (.int i) "tuple" false
  | int_str (i):IsiV K H (.int i) "str" false
  | bl_int (b):IsiV K H (.bl b) "int" true
  | bl_bool (b):IsiV K H (.bl b) "bool" true
  | bl_tuple (b):IsiV K H (.bl b) "tuple" false
  | str_str (x):IsiV K H (.str x) "str" true
  | str_tuple (x):IsiV K H (.str x) "tuple" false
  | tup_tuple {a xs}:SqT K H a xs→IsiV K H (.ref a) "tuple" true
  | tup_int {a xs}:SqT K H a xs→IsiV K H (.ref a) "int" false
  | lst_tuple {a xs}:SqL K H a xs→IsiV K H (.ref a) "tuple" false
  | lst_list {a xs}:SqL K H a xs→IsiV K H (.ref a) "list" true
def qqt (K:PySem.W.Frag):List V→Hp→VK→Prop:=fun vs H Q=>∃ x T b,vs=[x,.ty T]∧IsiV K H x T b∧Q (.bl b) H
theorem qry {x y:V} {us:List Value} (r:Vals [x,y] us):∃ u v,us=[u,v]∧RelV x u∧RelV y v:=by
  cases r with
  | cons r rr =>
    cases rr with
    | cons r' rr=>cases rr;exact ⟨_,_,rfl,r,r'⟩
theorem qkw {X:Cx}:qep X (.builtin "isinstance") (qqt X.K):=by
  intro pins s σ H xs us Q I r h
  obtain ⟨x,T,b,rfl,hi,q⟩:=h
  obtain ⟨u,v,rfl,ru,rv⟩:=qry r
  have rv:v=.type T:=rv
  subst rv
  have fin:∀ (c:Bool) (t:Nat),Q (.bl c) H→EP X pins σ Q (.bool c) { s with toks:=t }:=fun c t q=>⟨.bl c,H,I.tok t,rfl,q⟩
  cases hi with
  | int_int i=>obtain ⟨t,rfl⟩:=ru;exact IsiPair.int_int (fin _ s.toks q)
  | int_bool i=>obtain ⟨t,rfl⟩:=ru;exact IsiPair.int_bool (fin _ _ q)
  | int_tuple i=>obtain ⟨t,rfl⟩:=ru;exact IsiPair.int_tuple (fin _ _ q)
  | int_str i=>obtain ⟨t,rfl⟩:=ru;exact IsiPair.int_str (fin _ _ q)
  | bl_int b=>cases ru;exact IsiPair.bool_int (fin _ s.toks q)
  | bl_bool b=>cases ru;exact IsiPair.bool_bool (fin _ s.toks q)
  | bl_tuple b=>cases ru;exact IsiPair.bool_tuple (fin _ _ q)
  | str_str x=>obtain ⟨t,rfl⟩:=ru;exact IsiPair.str_str (fin _ s.toks q)
  | str_tuple x=>obtain ⟨t,rfl⟩:=ru;exact IsiPair.str_tuple (fin _ _ q)
  | tup_tuple h =>
    cases ru
    obtain ⟨its,_,p,_⟩:=I.tuple h
    exact call_isinstance (isinstance_true (Tx:="tuple") F.isi_meta_tuple F.sub_tuple_tuple) ⟨p.typeIs,fin _ s.toks q⟩
  | tup_int h =>
    cases ru
    obtain ⟨its,_,⟨o,e,c,_⟩,_⟩:=I.tuple h
    exact call_isinstance (isinstance_false_tuple (by decide +kernel) F.isi_meta_int F.sub_tuple_int) ⟨⟨o,e,c⟩,fin _ _ q⟩
  | lst_tuple h =>
    cases ru
    obtain ⟨its,_,p,_⟩:=I.list h
    obtain ⟨o,e,c,_⟩:=p.isList
    exact call_isinstance (isinstance_false_list (by decide +kernel) F.isi_meta_tuple F.sub_list_tuple) ⟨⟨o,e,c⟩,fin _ _ q⟩
  | lst_list h =>
    cases ru
    obtain ⟨its,_,p,_⟩:=I.list h
    exact call_isinstance (isinstance_true (Tx:="list") F.isi_meta_list F.sub_list_list) ⟨p.isList.typeIs,fin _ s.toks q⟩
theorem qk4 {prog:Program} {w:World} {A:Around} (hh:A.handled=none) (b:Bool) (it a:Addr) (hne:a≠it) (its:Array Value):Walks prog w A it [it,a] [it] its.size (fun i v=>its[i]?=some v) (fun i h=>SqI b h it a i∧SqO b h a its) where
  sub:=fun c hc=>by rw [List.mem_singleton.mp hc];simp
  frame:=fun _ _ _ st k=>⟨st.1.at fun o e=>k it (by simp) o e,st.2.at fun o e=>k a (by simp) o e⟩
  item:=fun i s Q E hi st hQ=>by
    cases b with
    | true=>exact wpAny_pyNext_list_item st.1 st.2 (x:=its[i]) (by simp [hi]) fun h' q sb=>hQ _ h' s.toks (by simp [hi]) ⟨q,SqO.at (b:=true) st.2 fun o e=>(sb.2 a hne).trans e⟩ fun c o hc e=>(sb.2 c fun z=>hc (by simp [z])).trans e
    | false=>exact wpAny_pyNext_tuple_item st.1 st.2 (x:=its[i]) (by simp [hi]) fun h' q sb=>hQ _ h' s.toks (by simp [hi]) ⟨q,SqO.at (b:=false) st.2 fun o e=>(sb.2 a hne).trans e⟩ fun c o hc e=>(sb.2 c fun z=>hc (by simp [z])).trans e
  done:=fun s Q E st hQ=>by
    cases b with
    | true=>exact wpAny_pyNext_list_end hh st.1 st.2 (by simp) fun h' eb=>hQ h' s.toks fun c o hc e=>eb c o (fun z=>hc (by simp [z])) e
    | false=>exact wpAny_pyNext_tuple_end hh st.1 st.2 (by simp) fun h' eb=>hQ h' s.toks fun c o hc e=>eb c o (fun z=>hc (by simp [z])) e
  self:=fun i s Q E st hQ=>by
    cases b with
    | true=>exact wpAny_pyIter_listiter st.1 hQ
    | false=>exact wpAny_pyIter_tupleiter st.1 hQ
theorem qqy {x:V} {us:List Value} (r:Vals [x] us):∃ u,us=[u]∧RelV x u:=by
  cases r with
  | cons r rr=>cases rr;exact ⟨_,rfl,r⟩
theorem qey (val:Nat→Int) (ns:List Int) (h:∀ i n,ns[i]?=some n→val i=n):∀ k,k≤ns.length→preSum val k=(ns.take k).sum
  | 0,_=>by simp [preSum]
  | k+1,hk=>by
    have hlt:k<ns.length:=hk
    have e:=h k ns[k] (by simp [hlt])
    rw [preSum,qey val ns h k (Nat.le_of_lt hlt),e,List.take_succ_eq_append_getElem hlt,List.sum_append]
    simp
def qq8 (K:PySem.W.Frag) (b:Bool):List V→Hp→VK→Prop:=fun vs H Q=>∃ (a:Addr) (ns:List Int),vs=[.ref a]∧SqB K b H a (ns.map V.int)∧Q (.int ns.sum) H
theorem qkn (b:Bool) {X:Cx} (hc:X.calm=true):qep X (.builtin "sum") (qq8 X.K b):=by
  intro pins s σ H xs us Q I r h
  obtain ⟨a,ns,rfl,hq,q⟩:=h
  obtain ⟨u,rfl,ru⟩:=qqy r
  cases ru
  obtain ⟨its,rv,p,hz⟩:=I.sqb hq
  refine call_sum_walkAnyS (qgW p ?_)
  have hne:a≠s.heap.objs.size:=Nat.ne_of_lt p.lt
  have W:=qk4 (prog:=X.prog) (w:=X.w) (A:=X.A.in1) (I.ok.hd hc) b s.heap.objs.size a hne its.toArray
  have hv:∀ (i:Nat) (v:Value),its.toArray[i]?=some v→∃ t,v=.int (ns.getD i 0) t:=fun i v e=>by
    have e':its[i]?=some v:=by simpa using e
    have hi:i<ns.length:=by
      have:=(List.getElem?_eq_some_iff.mp e').1
      have:=rv.length
      rw [List.length_map] at this
      omega
    obtain ⟨v',h1,h2⟩:=rv.get (i:=i) (x:=V.int (ns.getD i 0)) (by simp [hi])
    rw [e'] at h1;cases h1
    exact h2
  have ln:its.toArray.size=ns.length:=by have:=rv.length;rw [List.length_map] at this;simp [this]
  refine ⟨s.heap.objs.size,[s.heap.objs.size,a],[s.heap.objs.size],_,its.toArray.size,_,_,fun i=>ns.getD i 0,rfl,W.toS,⟨qd3 (Heap.get?_push_size _ (by cases b <;> rfl)),p.at fun o e=>Heap.get?_push_of_some _ e⟩,fun c hcm=>?_,hv,fun s' t' hm=>?_⟩
  · rw [Heap.size_push]
    rcases List.mem_cons.mp hcm with rfl | hcm
    · exact Nat.lt_succ_self _
    · rw [List.mem_singleton.mp hcm];exact Nat.lt_succ_of_lt p.lt
  · obtain ⟨hh,hg,hd,ho,_⟩:=hm
    obtain ⟨h',g',d',tk',os'⟩:=s'
    have e1:g'=s.gens:=hg
    have e2:d'=s.drawn:=hd
    have e3:os'=s.os:=ho
    subst e1 e2 e3
    refine ⟨.int ns.sum,H,I.kept (h':=h') (t':=tk') fun c o e=>hh c o (fun z=>?_) (Heap.get?_push_of_some _ e),⟨t',?_⟩,q⟩
    · rw [List.mem_singleton.mp z] at e
      exact absurd (Heap.lt_size e) (Nat.lt_irrefl _)
    · rw [ln,qey (fun i=>ns.getD i 0) ns (fun i n e=>by
        show ns.getD i 0=n
        rw [List.getD_eq_getElem?_getD,e];rfl) ns.length (Nat.le_refl _),List.take_length]
theorem qoF (bs:List Bool):(List.range bs.length).all (fun i=>bs.getD i false)=bs.all id:=by
  rw [Bool.eq_iff_iff]
  simp only [List.all_eq_true,List.mem_range,id]
  constructor
  · intro h x hx
    obtain ⟨i,hi,rfl⟩:=List.mem_iff_getElem.mp hx
    have:=h i hi
    simpa [hi] using this
  · intro h i hi
    have:=h bs[i] (List.getElem_mem hi)
    simpa [hi] using this
def qcy (N:List Str) (sc scope:Scope) (N':List Str) (cap:List (Option Nat)):Bool :=
  decide (scope.kind=.function) && scope.names.all (fun x=>decide (x.2=.cell→scope.names.lookup x.1=some .cell)) && scope.names.all (fun x=>decide (x.2=.local→scope.names.lookup x.1=some .local)) &&
    scope.names.all (fun x=>decide (x.2=.free→sc.names.lookup x.1=some .cell∧scope.names.lookup x.1=some .free)) && decide N'.Nodup && decide (cap.length=N'.length) &&
    (cap.zip N').all fun p=>match p.1 with | none=>true | some i=>decide (N[i]?=some p.2∧(p.2,NameKind.free)∈scope.names)
theorem CompScope.ok {N:List Str} {sc scope:Scope} {N':List Str} {cap:List (Option Nat)} (h:qcy N sc scope N' cap=true):CompScope N sc scope N' cap:=by
  unfold qcy at h
  simp only [Bool.and_eq_true,decide_eq_true_eq,List.all_eq_true] at h
  obtain ⟨⟨⟨⟨⟨⟨h1,h2⟩,h3⟩,h4⟩,h5⟩,h6⟩,h7⟩:=h
  refine ⟨h1,h2,h3,fun x hx hf=>(h4 x hx hf).1,fun x hx hf=>(h4 x hx hf).2,h5,h6,fun p hp i hi=>?_⟩
  have:=h7 p hp
  rw [hi] at this
  simpa using this
section
variable {K : PySem.W.Frag} {B : V → St → Hp → (St → Hp → Prop) → Prop} {End : St → Hp → Prop} {σ : St} {H : Hp}
end
theorem qaG {H:Hp} {p:Addr} (h:H p=none) (o:HO):Same H (upd H p o):=fun b u q=>by rw [qar (qat q h)];exact q
theorem qkC {H H':Hp} {p:Addr} (s:Same H H') (h:H p=none) (o:HO):Same H (upd H' p o):=fun b u q=>by rw [qar (qat q h)];exact s b u q
theorem Same.sqt {K:PySem.W.Frag} {H H':Hp} {a:Addr} {xs:List V} (e:Same H H') (h:SqT K H a xs):SqT K H' a xs:=SqB.same (b:=false) e h
theorem qeO {n:Nat} (h:n≤1000):n≤sizeLine:=Nat.le_of_lt (qay h)
theorem dP {p:Prop} [Decidable p] (h:decide p=true):p:=of_decide_eq_true h
theorem qgO {α:Type} {xs:List α} {i:Nat} {x:α} (h:xs[i]?=some x):xs.take (i+1)=xs.take i++[x]:=by
  obtain ⟨hi,e⟩:=List.getElem?_eq_some_iff.mp h
  rw [List.take_succ_eq_append_getElem hi,e]
theorem qai {α:Type} {xs:List α} {i:Nat} {x:α} (h:xs[i]?=some x):i<xs.length:=(List.getElem?_eq_some_iff.mp h).1
theorem qoP {α:Type} {xs:List α} {i:Nat} {x:α} {k:Int} (h:xs[i]?=some x) (e:k=(i:Int)):atI xs k=some x:=by
  subst e
  exact qmc h
def qeM {α:Type} (xs:List α) (lo hi:Option Int):List α:=(xs.drop (HT.sIx xs.length 0 lo)).take (HT.sIx xs.length xs.length hi - HT.sIx xs.length 0 lo)
inductive EqT (K:PySem.W.Frag) (H:Hp):Nat→V→V→Prop where
  | int {d:Nat} (i:Int):EqT K H d (.int i) (.int i)
  | bl {d:Nat} (b:Bool):EqT K H d (.bl b) (.bl b)
  | str {d:Nat} (x:Str):EqT K H d (.str x) (.str x)
  | non {d:Nat}:EqT K H d .non .non
  | sq {d:Nat} (q:Bool) {a b:Addr} {xs ys:List V}:SqB K q H a xs→SqB K q H b ys→xs.length=ys.length→(∀ (i:Nat) (x y:V),xs[i]?=some x→ys[i]?=some y→EqT K H d x y)→EqT K H (d+1) (.ref a) (.ref b)
theorem Vals.get' {xs:List V} {us:List Value} (r:Vals xs us) {j:Nat} (h:j<us.length):∃ x,xs[j]?=some x∧RelV x us[j]:=by
  have hl:=Vals.length r
  have hj:j<xs.length:=by omega
  obtain ⟨u,hu,ru⟩:=Vals.get (i:=j) (x:=xs[j]) r (by simp [hj])
  refine ⟨xs[j],by simp [hj],?_⟩
  rw [List.getElem?_eq_getElem h] at hu
  cases hu
  exact ru
section
variable {prog : Program} {w : World} {A : Around} {E : Value → Shared → Prop} {s : Shared}
theorem qmH {t b:Addr} {vs ws:List Value} {Q:Value→Shared→Prop} (ht:IsTup s.heap t vs.toArray) (hb:IsTup s.heap b ws.toArray) (hv:vs=[]) (h:Q (.ref b) s):wpAny (model prog w) A (binaryOp .Add (.ref t) (.ref b)) Q E s:=by
  obtain ⟨⟨cls,dd,data,sl⟩,ho,hc,n,hd⟩:=id ht
  obtain ⟨⟨cls2,dd2,data2,sl2⟩,ho2,hc2,n2,hd2⟩:=id hb
  simp only at hc hd hc2 hd2
  subst hc hd hc2 hd2
  exact concat_meets ⟨_,ho,rfl⟩ ⟨_,ho2,rfl⟩ noFill_tuple_add seq_tuple_add PySem.F.slot_tuple_add PySem.F.entry_tuple_add (PySem.F.args_tuple_add_2 _ _) (tuple_addW0 t b vs.toArray ws.toArray n n2 dd dd2 sl sl2 (by simp [hv])) ⟨ho,ho2,h⟩
end
section
variable {J : It} {B : V → St → Hp → (St → Hp → Prop) → Prop} {End : St → Hp → Prop} {σ : St} {H : Hp} {D : Addr} {n : Nat} {El : Nat → V → Hp → Prop}
end
section
variable {K : PySem.W.Frag} {B : V → St → Hp → (St → Hp → Prop) → Prop} {End : St → Hp → Prop} {σ : St} {H : Hp} {D a : Addr}
end
section
variable {α : Type} {R R' : V → α → Prop} {vs ws : List V} {rs ss : List α}
end
def qob (K:PySem.W.Frag):V→V→Hp→VK→Prop:=fun x y H Q=>∃ p xs i j v,x=.ref p∧y=.int i∧SqL K H p xs∧i=((j:Nat):Int)∧xs[j]?=some v∧Q v H
theorem qkx {X:Cx}:qpp X (qob X.K):=by
  intro pins s σ H o i ov iv Q I ro ri h
  obtain ⟨p,xs,i,j,v,rfl,rfl,hq,rfl,hv,q⟩:=h
  cases ro
  obtain ⟨t,rfl⟩:=ri
  obtain ⟨its,r,pl,hz⟩:=I.list hq
  obtain ⟨w,ew,rw'⟩:=r.get hv
  have hl:=r.length
  have hn:=qdT
  have hj:=qai hv
  exact wpAny_getItem_list pl.isList (by omega) (by omega) (by rw [Int.toNat_natCast];simpa using ew) ⟨v,H,I,rw',q⟩
theorem ql0 (xs:List V) (lo hi:Option Int):qlq xs lo hi=qeM xs lo hi:=rfl
section
variable {α : Type} {R : V → α → Prop} {vs : List V} {rs : List α}
end
theorem qmx {n j:Nat} (h:j<n):ixN n (j:Int)=some j:=by
  unfold ixN
  rw [if_pos (by omega),if_pos (by omega),Int.toNat_natCast]
theorem qaH {a0 a1 a2 a3} {rest:List Expr} {env:Env}:starEach (.BinOp a0 a1 a2 a3::rest) env=(false,eval (.BinOp a0 a1 a2 a3) env)::starEach rest env:=rfl
theorem qaF {a0 a1 a2 a3} {rest:List Expr} {env:Env}:starEach (.ListComp a0 a1 a2 a3::rest) env=(false,eval (.ListComp a0 a1 a2 a3) env)::starEach rest env:=rfl
theorem qdB {a0 a1 a2 a3} {rest:List Expr} {env:Env}:starEach (.Compare a0 a1 a2 a3::rest) env=(false,eval (.Compare a0 a1 a2 a3) env)::starEach rest env:=rfl
theorem qaM {a0 a1 a2 a3} {rest:List Expr} {env:Env}:starEach (.Call a0 a1 a2 a3::rest) env=(false,eval (.Call a0 a1 a2 a3) env)::starEach rest env:=rfl
theorem qae {a0 a1 a2} {rest:List Expr} {env:Env}:starEach (.Constant a0 a1 a2::rest) env=(false,eval (.Constant a0 a1 a2) env)::starEach rest env:=rfl
theorem qab {a0 a1 a2} {rest:List Expr} {env:Env}:starEach (.Subscript a0 a1 a2::rest) env=(false,eval (.Subscript a0 a1 a2) env)::starEach rest env:=rfl
theorem qaa {a0 a1} {rest:List Expr} {env:Env}:starEach (.Name a0 a1::rest) env=(false,eval (.Name a0 a1) env)::starEach rest env:=rfl
theorem qa3 {a0 a1 a2} {rest:List Expr} {env:Env}:starEach (.Tuple a0 a1 a2::rest) env=(false,eval (.Tuple a0 a1 a2) env)::starEach rest env:=rfl
theorem qag {pos:Pos} {env:Env}:(backTo pos (starEach [] env)).any (·.1)=false:=rfl
theorem qac {pos:Pos} {e:Expr} {es:List Expr} {env:Env} (h:starEach (e::es) env=(false,eval e env)::starEach es env) (hr:(backTo pos (starEach es env)).any (·.1)=false):(backTo pos (starEach (e::es) env)).any (·.1)=false:=by
  rw [h]
  exact hr
theorem qcA {pos : Pos} {e : Expr} {env : Env} (h : starEach [e] env = (false, eval e env) :: starEach [] env) : ((backTo pos (starEach [e] env)).all (fun x => !x.1) && (backToKw pos (keywordEach [] env)).all (fun x => x.1.isSome)
      && decide ([e].length+([]:List Keyword).length+(if ([]:List Keyword).isEmpty then 0 else 1)<30))=true:=by
  rw [h]
  rfl
section
variable {X : Cx} {K : PySem.W.Frag}
theorem qjX (h:X.K=K):qep X (.builtin "isinstance") (qqt K):=h ▸ qkw
end
end L2
namespace L2
open PySem PySem.Spec PyProof.Rows
section
variable {X : Cx} {K : PySem.W.Frag}
theorem qne:OpR X (compareOp .Is) (fun x y H Q=>∃ a b:Bool,x=.bl a∧y=.bl b∧Q (.bl (a == b)) H):=by
  intro pins s σ H x y v u Q I rx ry h
  obtain ⟨a,b,rfl,rfl,q⟩:=h
  cases rx
  cases ry
  exact wpAny_is_plain rfl (qhO I q (by cases a <;> cases b <;> rfl))
theorem qmR:OpR X (compareOp .IsNot) (fun x y H Q=>∃ a b:Bool,x=.bl a∧y=.bl b∧Q (.bl (!(a == b))) H):=by
  intro pins s σ H x y v u Q I rx ry h
  obtain ⟨a,b,rfl,rfl,q⟩:=h
  cases rx
  cases ry
  exact wpAny_isNot_plain rfl (qhO I q (by cases a <;> cases b <;> rfl))
end
end L2
namespace PySem
open Sem (wp)
open Builtin
open AutoSeq1 (wpAny_loadPart')
theorem qdI:fillsNumberSlot (.type "tuple") "mul"=pure false :=
  fillsNumberSlot_seq (id:="tuple.__mul__") (r:=some (.builtin "tuple.__rmul__")) F.slot_tuple_mul.lookup (by decide +kernel) F.slot_tuple_rmul.lookup (by decide +kernel)
theorem qfy:seqRepeat? (.type "tuple")=pure (some (.builtin "tuple.__mul__")):=by
  unfold seqRepeat?
  rw [seqSlot_of (T:="tuple") (name:="__mul__") (id:="tuple.__mul__") F.slot_tuple_mul.lookup (by decide +kernel),seqSlot_of (T:="tuple") (name:="__rmul__") (id:="tuple.__rmul__") F.slot_tuple_rmul.lookup (by decide +kernel)]
  rfl
theorem qel (a:Int) (t:Tok) (l:Addr) (items:Array Value) (n:Nat) (dd:Option Addr) (sl:Array (Option Value)) :
    Meets (Builtin.«int.__rmul__» ⟨[.int a t,.ref l],[]⟩) (fun _ R s=>s.heap.get? l=some { cls:=.type "tuple",dict:=dd,data:=.seq items n,slots:=sl }∧R (.ok (.ret Value.notImplemented)) s) :=
  .of_wp fun prog w A R s h=>by obtain ⟨hp,g,d,tk,os⟩:=s;obtain ⟨hl,h⟩:=h;wp_walk;exact ⟨_,rfl,h⟩
theorem qhq (l:Addr) (items:Array Value) (n:Nat) (dd:Option Addr) (sl:Array (Option Value)) (u:Tok) :
    Meets (Builtin.«tuple.__mul__» ⟨[.ref l,.int 1 u],[]⟩) (fun _ R s=>s.heap.get? l=some { cls:=.type "tuple",dict:=dd,data:=.seq items n,slots:=sl }∧R (.ok (.ret (Value.ref l))) s) :=
  .of_wp fun prog w A R s h=>by obtain ⟨hp,g,d,tk,os⟩:=s;obtain ⟨hl,h⟩:=h;have f1:=AutoSeq1.idx_int;have f2:=AutoSeq1.sub_tuple_tuple;wp_walk using wpAny_loadPart' hl;exact ⟨_,rfl,h⟩
theorem qg3 (l:Addr) (items:Array Value) (n:Nat) (dd:Option Addr) (sl:Array (Option Value)) (k:Int) (u:Tok) (hc0:¬ (decide (k < -(2 ^ 63)) || decide (k≥2 ^ 63))=true) (hc1:¬ (items.isEmpty || k == 1)=true) (hc2:(decide (k≤0) || items.isEmpty)=true) :
    Meets (Builtin.«tuple.__mul__» ⟨[.ref l,.int k u],[]⟩) (fun _ R s=>s.heap.get? l=some { cls:=.type "tuple",dict:=dd,data:=.seq items n,slots:=sl }∧R (.ok (.ret (Value.ref s.heap.objs.size))) { s with heap:=s.heap.push { cls:=Value.type "tuple",data:=Data.seq #[] },toks:=s.toks }) :=
  .of_wp fun prog w A R s h=>by obtain ⟨hp,g,d,tk,os⟩:=s;obtain ⟨hl,h⟩:=h;have f1:=AutoSeq1.idx_int;have f2:=AutoSeq1.sub_tuple_tuple;wp_walk using wpAny_loadPart' hl;refine wpAny_ite_false (decide_eq_false hc0) ?_;wp_walk using wpAny_loadPart' hl;exact ⟨_,rfl,h⟩
theorem qhg (l:Addr) (items:Array Value) (n:Nat) (dd:Option Addr) (sl:Array (Option Value)) (k:Int) (u:Tok) (hc0:¬ (decide (k < -(2 ^ 63)) || decide (k≥2 ^ 63))=true) (hc1:¬ (items.isEmpty || k == 1)=true) (hc2:¬ (decide (k≤0) || items.isEmpty)=true) (hc3:¬ (items.size*k>(2 ^ 63 - 1) / 8)) (hc4:¬ Builtin.Tuple.tupleTooMany (items.size*k)=true) (hsz:(List.foldl (fun x1 x2=>x1++x2) #[] (List.replicate k.toNat items)).size≤sizeLine) :
    Meets (Builtin.«tuple.__mul__» ⟨[.ref l,.int k u],[]⟩) (fun _ R s=>s.heap.get? l=some { cls:=.type "tuple",dict:=dd,data:=.seq items n,slots:=sl }∧R (.ok (.ret (Value.ref s.heap.objs.size))) { s with heap:=s.heap.push { cls:=Value.type "tuple",data:=Data.seq (List.foldl (fun x1 x2=>x1++x2) #[] (List.replicate k.toNat items)) },toks:=s.toks }) :=
  .of_wp fun prog w A R s h=>by obtain ⟨hp,g,d,tk,os⟩:=s;obtain ⟨hl,h⟩:=h;have f1:=AutoSeq1.idx_int;have f2:=AutoSeq1.sub_tuple_tuple;wp_walk using wpAny_loadPart' hl;refine wpAny_ite_false (decide_eq_false hc0) ?_;wp_walk using wpAny_loadPart' hl;refine wpAny_ite_false (decide_eq_false hc3) ?_;wp_walk using wpAny_loadPart' hl;exact ⟨_,rfl,h⟩
end PySem
namespace L2
open PySem PySem.Spec PyProof.Rows
inductive D where
  | int (i:Int) | bl (b:Bool) | str (x:Str) | non | tup (xs:List D) | lst (xs:List D) | fzl (xs:List D) | obj (nm:Str) (fs:List (Str × D)) | map (kvs:List (Key × D))
inductive Rp (K:PySem.W.Frag) (H:Hp):D→V→Prop where
  | int (i:Int):Rp K H (.int i) (.int i)
  | bl (b:Bool):Rp K H (.bl b) (.bl b)
  | str (x:Str):Rp K H (.str x) (.str x)
  | non:Rp K H .non .non
  | tup {a:Addr} {vs:List V} {ds:List D}:H a=some (.tup vs)→vs.length=ds.length→(∀ (i:Nat) (v:V) (d:D),vs[i]?=some v→ds[i]?=some d→Rp K H d v)→Rp K H (.tup ds) (.ref a)
  | lst {a:Addr} {vs:List V} {ds:List D}:H a=some (.lst vs)→vs.length=ds.length→(∀ (i:Nat) (v:V) (d:D),vs[i]?=some v→ds[i]?=some d→Rp K H d v)→Rp K H (.lst ds) (.ref a)
  | fzl {a:Addr} {vs:List V} {ds:List D}:SqL K H a vs→vs.length=ds.length→(∀ (i:Nat) (v:V) (d:D),vs[i]?=some v→ds[i]?=some d→Rp K H d v)→Rp K H (.fzl ds) (.ref a)
  | obj {a C dx:Addr} {nm:Str} {vs:List (Str × V)} {fs:List (Str × D)}:PySem.W.nsIn K mainGlobals nm=some (some (.ref C))→H a=some (.ins C dx vs)→vs.map (·.1)=fs.map (·.1)→(∀ (i:Nat) (v:Str × V) (d:Str × D),vs[i]?=some v→fs[i]?=some d→Rp K H d.2 v.2)→Rp K H (.obj nm fs) (.ref a)
  | map {a:Addr} {ws:List (Key × V)} {kvs:List (Key × D)}:H a=some (.dK ws)→ws.map (·.1)=kvs.map (·.1)→(∀ (i:Nat) (w:Key × V) (d:Key × D),ws[i]?=some w→kvs[i]?=some d→Rp K H d.2 w.2)→Rp K H (.map kvs) (.ref a)
def RpL (K:PySem.W.Frag) (H:Hp) (ds:List D) (vs:List V):Prop:=vs.length=ds.length∧∀ (i:Nat) (v:V) (d:D),vs[i]?=some v→ds[i]?=some d→Rp K H d v
section
variable {K : PySem.W.Frag} {H H' Φ Φ' Φ1 H1 Φ2 H2 : Hp} {d : D} {v : V} {ds es : List D} {vs ws : List V}
theorem Rp.same (s:Same H H') (h:Rp K H d v):Rp K H' d v:=by
  induction h with
  | int i=>exact .int i
  | bl b=>exact .bl b
  | str x=>exact .str x
  | non=>exact .non
  | tup h1 h2 _ ih=>exact .tup (s _ _ h1) h2 ih
  | lst h1 h2 _ ih=>exact .lst (s _ _ h1) h2 ih
  | fzl h1 h2 _ ih=>exact .fzl (s.seq h1) h2 ih
  | obj h0 h1 h2 _ ih=>exact .obj h0 (s _ _ h1) h2 ih
  | map h1 h2 _ ih=>exact .map (s _ _ h1) h2 ih
theorem RpL.same (s:Same H H') (h:RpL K H ds vs):RpL K H' ds vs:=⟨h.1,fun i v d hv hd=>(h.2 i v d hv hd).same s⟩
theorem RpL.nil:RpL K H [] []:=⟨rfl,fun i v d hv _=>by simp at hv⟩
theorem RpL.cons (r:Rp K H d v) (h:RpL K H ds vs):RpL K H (d::ds) (v::vs):=⟨by simp [h.1],fun i u e hu he=>by
  cases i with
  | zero=>cases hu;cases he;exact r
  | succ i=>exact h.2 i u e hu he⟩
theorem RpL.append (h:RpL K H ds vs) (h':RpL K H es ws):RpL K H (ds++es) (vs++ws):=by
  refine ⟨by rw [List.length_append,List.length_append,h.1,h'.1],fun i u e hu he=>?_⟩
  rcases Nat.lt_or_ge i vs.length with c | c
  · rw [List.getElem?_append_left c] at hu
    rw [List.getElem?_append_left (by rw [← h.1];exact c)] at he
    exact h.2 i u e hu he
  · rw [List.getElem?_append_right c] at hu
    rw [List.getElem?_append_right (by rw [← h.1];exact c),← h.1] at he
    exact h'.2 _ u e hu he
theorem RpL.one (r:Rp K H d v):RpL K H [d] [v]:=.cons r .nil
theorem RpL.take (h:RpL K H ds vs) (k:Nat):RpL K H (ds.take k) (vs.take k):=⟨by rw [List.length_take,List.length_take,h.1],fun i u e hu he=>by
  rcases Nat.lt_or_ge i k with c | c
  · rw [List.getElem?_take_of_lt c] at hu he
    exact h.2 i u e hu he
  · rw [List.getElem?_take_eq_none c] at hu
    cases hu⟩
theorem RpL.drop (h:RpL K H ds vs) (k:Nat):RpL K H (ds.drop k) (vs.drop k):=⟨by rw [List.length_drop,List.length_drop,h.1],fun i u e hu he=>by
  rw [List.getElem?_drop] at hu he
  exact h.2 _ u e hu he⟩
theorem RpL.set (h:RpL K H ds vs) (r:Rp K H d v) (k:Nat):RpL K H (ds.set k d) (vs.set k v):=⟨by rw [List.length_set,List.length_set,h.1],fun i u e hu he=>by
  by_cases c:k=i
  · subst c
    have hk:k<vs.length:=by have:=qai hu;rwa [List.length_set] at this
    rw [List.getElem?_set_self hk] at hu
    rw [List.getElem?_set_self (by rw [← h.1];exact hk)] at he
    cases hu;cases he
    exact r
  · rw [List.getElem?_set_ne c] at hu he
    exact h.2 i u e hu he⟩
theorem RpL.dropLast (h:RpL K H ds vs):RpL K H ds.dropLast vs.dropLast:=by
  rw [List.dropLast_eq_take,List.dropLast_eq_take,h.1]
  exact h.take _
theorem RpL.rep (h:RpL K H ds vs):∀ k:Nat,RpL K H (List.replicate k ds).flatten (List.replicate k vs).flatten
  | 0=>.nil
  | k+1=>by
    rw [List.replicate_succ,List.replicate_succ,List.flatten_cons,List.flatten_cons]
    exact h.append (RpL.rep h k)
theorem RpL.at (h:RpL K H ds vs) {i:Nat} (e:ds[i]?=some d):∃ v,vs[i]?=some v∧Rp K H d v:=by
  have hi:i<vs.length:=by rw [h.1];exact qai e
  exact ⟨vs[i],by simp [hi],h.2 i _ d (by simp [hi]) e⟩
theorem RpL.cut (h:RpL K H ds vs) (lo hi:Option Int):RpL K H (qeM ds lo hi) (qlq vs lo hi):=by
  rw [ql0]
  unfold qeM
  rw [h.1]
  exact (h.drop _).take _
theorem RpL.tup {a:Addr} (h:RpL K H ds vs) (s:H a=some (.tup vs)):Rp K H (.tup ds) (.ref a):=.tup s h.1 h.2
theorem RpL.lst {a:Addr} (h:RpL K H ds vs) (s:H a=some (.lst vs)):Rp K H (.lst ds) (.ref a):=.lst s h.1 h.2
theorem RpL.fzl {a:Addr} (h:RpL K H ds vs) (s:SqL K H a vs):Rp K H (.fzl ds) (.ref a):=.fzl s h.1 h.2
theorem RpL.ints (ns:List Int):RpL K H (ns.map D.int) (ns.map V.int):=⟨by simp,fun i v d hv hd=>by
  rw [List.getElem?_map] at hv hd
  cases e:ns[i]? with
  | none=>rw [e] at hv;cases hv
  | some k=>rw [e] at hv hd;cases hv;cases hd;exact .int k⟩
def OwK:HO→Prop | .lst _=>True | .dK _=>True | .dT _=>True | .ins _ _ _=>True | _=>False
structure Gr (Φ H Φ' H':Hp):Prop where
  f:Same Φ Φ'
  h:Same H H'
  s:Same Φ' H'
  o:∀ p (u:HO),H p=some u→Φ p=none→(k:OwK u:=by trivial)→Φ' p=none
theorem Gr.refl (s:Same Φ H):Gr Φ H Φ H:=⟨Same.refl _,Same.refl _,s,fun _ _ _ h _=>h⟩
theorem Gr.trans (a:Gr Φ H Φ1 H1) (b:Gr Φ1 H1 Φ2 H2):Gr Φ H Φ2 H2:=⟨a.f.trans b.f,a.h.trans b.h,b.s,fun p u hp hn k=>b.o p u (a.h p _ hp) (a.o p u hp hn k) k⟩
theorem Gr.join (a:Gr Φ H Φ1 H1) (b:Gr Φ1 H Φ2 H2):Gr Φ H Φ2 H2:=⟨a.f.trans b.f,b.h,b.s,fun p u hp hn k=>b.o p u hp (a.o p u hp hn k) k⟩
theorem qjF (s:Same Φ H) {p:Addr} (o:HO):Same (upd Φ p o) (upd H p o):=fun b u e=>by
  by_cases c:b=p
  · subst c;rw [qak] at e ⊢;exact e
  · rw [qar c] at e ⊢;exact s b u e
theorem Gr.new (s:Same Φ H) {p:Addr} (hp:H p=none) (o:HO):Gr Φ H (upd Φ p o) (upd H p o) :=
  ⟨qaG (s.free hp) o,qaG hp o,qjF s o,fun q u hq hn _=>by rw [qar (qat hq hp)];exact hn⟩
theorem Gr.fresh (s:Same Φ H) {p:Addr} (hp:H p=none) (o:HO):Gr Φ H Φ (upd H p o) :=
  ⟨Same.refl _,qaG hp o,fun b u e=>qaG hp o b u (s b u e),fun _ _ _ h _=>h⟩
theorem Gr.freeze (g:Gr Φ H Φ' H') {p:Addr} {o:HO} (h0:H p=none) (hn:Φ' p=none) (hp:H' p=some o):Gr Φ H (upd Φ' p o) H' :=
  ⟨g.f.trans (qaG hn o),g.h,fun b u e=>by
    by_cases c:b=p
    · subst c;rw [qak] at e;cases e;exact hp
    · rw [qar c] at e;exact g.s b u e,fun q u hq hqn k=>by rw [qar (qat hq h0)];exact g.o q u hq hqn k⟩
theorem Gr.adoptT {p:Addr} {xs:List V} (s:Same Φ H) (h:Same H H') (ho:H' p=some (.tup xs)):∃ Φ',Gr Φ H Φ' H'∧Φ' p=some (.tup xs):=by
  have e1:∀ u,Φ p=some u→u=.tup xs:=fun u e=>by have:=h _ _ (s _ _ e);rw [ho] at this;cases this;rfl
  refine ⟨upd Φ p (.tup xs),⟨fun b u e=>?_,h,fun b u e=>?_,fun b u e n k=>?_⟩,qak⟩
  · by_cases c:b=p
    · subst c;rw [qak,e1 u e]
    · rw [qar c];exact e
  · by_cases c:b=p
    · subst c;rw [qak] at e;cases e;exact ho
    · rw [qar c] at e;exact h _ _ (s _ _ e)
  · by_cases c:b=p
    · subst c
      have:=h _ _ e
      rw [ho] at this
      cases this
      exact k.elim
    · rw [qar c];exact n
def RpQ (K:PySem.W.Frag) (Φ H:Hp) (d:D) (v:V):Prop:=Rp K Φ d v∨∃ a vs ds,d=.lst ds∧v=.ref a∧H a=some (.lst vs)∧RpL K Φ ds vs
theorem RpQ.gr (g:Gr Φ H Φ' H') (h:RpQ K Φ H d v):RpQ K Φ' H' d v:=by
  rcases h with h | ⟨a,vs,ds,e,e2,h1,h2⟩
  · exact .inl (h.same g.f)
  · exact .inr ⟨a,vs,ds,e,e2,g.h _ _ h1,h2.same g.f⟩
theorem RpQ.lst (s:Same Φ H) (h:RpQ K Φ H (.lst ds) v):∃ a vs,v=.ref a∧H a=some (.lst vs)∧RpL K Φ ds vs:=by
  rcases h with h | ⟨a,vs,ds,e,e2,h1,h2⟩
  · cases h with | lst h1 h2 h3=>exact ⟨_,_,rfl,s _ _ h1,h2,h3⟩
  · cases e;exact ⟨a,vs,e2,h1,h2⟩
theorem RpQ.fzl (s:Same Φ H) (h:RpQ K Φ H (.fzl ds) v):∃ a vs,v=.ref a∧SqL K H a vs∧RpL K Φ ds vs:=by
  rcases h with h | ⟨a,vs,ds,e,e2,h1,h2⟩
  · cases h with | fzl h1 h2 h3=>exact ⟨_,_,rfl,s.seq h1,h2,h3⟩
  · cases e
theorem RpQ.tup (s:Same Φ H) (h:RpQ K Φ H (.tup ds) v):∃ a vs,v=.ref a∧SqT K H a vs∧Φ a=some (.tup vs)∧RpL K Φ ds vs:=by
  rcases h with h | ⟨a,vs,ds,e,e2,h1,h2⟩
  · cases h with | tup h1 h2 h3=>exact ⟨_,_,rfl,.of (s _ _ h1),h1,h2,h3⟩
  · cases e
theorem RpQ.int {i:Int} (h:RpQ K Φ H (.int i) v):v=.int i:=by
  rcases h with h | ⟨a,vs,ds,e,_⟩
  · cases h;rfl
  · cases e
theorem RpQ.bl {i:Bool} (h:RpQ K Φ H (.bl i) v):v=.bl i:=by
  rcases h with h | ⟨a,vs,ds,e,_⟩
  · cases h;rfl
  · cases e
theorem RpQ.str {i:Str} (h:RpQ K Φ H (.str i) v):v=.str i:=by
  rcases h with h | ⟨a,vs,ds,e,_⟩
  · cases h;rfl
  · cases e
theorem RpQ.non (h:RpQ K Φ H .non v):v=.non:=by
  rcases h with h | ⟨a,vs,ds,e,_⟩
  · cases h;rfl
  · cases e
def qfc:D→Option (List D)
  | .lst ds=>some ds
  | .tup ds=>some ds
  | .fzl ds=>some ds
  | _=>none
theorem RpQ.seq (s:Same Φ H) (h:RpQ K Φ H d v) (e:qfc d=some ds):∃ a vs,v=.ref a∧(SqL K H a vs∨SqT K H a vs)∧RpL K Φ ds vs:=by
  cases d with
  | lst ds=>cases e;obtain ⟨a,vs,e,h1,h2⟩:=h.lst s;exact ⟨a,vs,e,.inl (.of h1),h2⟩
  | tup ds=>cases e;obtain ⟨a,vs,e,h1,_,h2⟩:=h.tup s;exact ⟨a,vs,e,.inr h1,h2⟩
  | fzl ds=>cases e;obtain ⟨a,vs,e,h1,h2⟩:=h.fzl s;exact ⟨a,vs,e,.inl h1,h2⟩
  | _=>cases e
theorem Rp.seq (h:Rp K Φ d v) (e:qfc d=some ds):∃ (b:Bool) (a:Addr) (vs:List V),v=.ref a∧SqB K b Φ a vs∧RpL K Φ ds vs:=by
  cases d with
  | lst ds=>cases e;cases h with | lst h1 h2 h3=>exact ⟨true,_,_,rfl,SqL.of h1,h2,h3⟩
  | tup ds=>cases e;cases h with | tup h1 h2 h3=>exact ⟨false,_,_,rfl,SqT.of h1,h2,h3⟩
  | fzl ds=>cases e;cases h with | fzl h1 h2 h3=>exact ⟨true,_,_,rfl,h1,h2,h3⟩
  | _=>cases e
end
inductive Ow where | lst (xs:List D) | dct (ks:List Key) | dcT (ks:List (List Key))
inductive Sl where | v (d:D) | ob (o:Ow)
abbrev Sl.own (xs:List D):Sl:=.ob (.lst xs)
abbrev Sl.dct (ks:List Key):Sl:=.ob (.dct ks)
abbrev Sl.dcT (ks:List (List Key)):Sl:=.ob (.dcT ks)
def OwR (K:PySem.W.Frag) (Φ:Hp):Ow→HO→Prop
  | .lst ds,.lst vs=>RpL K Φ ds vs
  | .dct ks,.dK kvs=>kvs.map (·.1)=ks
  | .dcT ks,.dT kvs=>kvs.map (·.1)=ks
  | _,_=>False
theorem OwR.k {K:PySem.W.Frag} {Φ:Hp} {o:Ow} {u:HO} (r:OwR K Φ o u):OwK u:=by
  cases o with
  | lst ds =>
    cases u with
    | lst vs=>exact True.intro
    | _=>exact r.elim
  | dct ks =>
    cases u with
    | dK kvs=>exact True.intro
    | _=>exact r.elim
  | dcT ks =>
    cases u with
    | dT kvs=>exact True.intro
    | _=>exact r.elim
theorem OwR.same {K:PySem.W.Frag} {Φ Φ':Hp} {o:Ow} {u:HO} (r:OwR K Φ o u) (s:Same Φ Φ'):OwR K Φ' o u:=by
  cases o with
  | lst ds =>
    cases u with
    | lst vs=>exact (show RpL K Φ ds vs from r).same s
    | _=>exact r.elim
  | dct ks =>
    cases u with
    | dK kvs=>exact r
    | _=>exact r.elim
  | dcT ks =>
    cases u with
    | dT kvs=>exact r
    | _=>exact r.elim
abbrev Rho:=List (Option Sl)
def qog:FuncBody→Option Pos
  | .stmts b=>(match b.getLast? with
    | some (.Return (some (.Call _ _ kws _)) _)=>kws.findSome? fun k=>(match k.value with | .Lambda _ _ _ pos=>some pos | _=>none)
    | _=>none)
  | _=>none
def qlD (K:PySem.W.Frag) (x:Str):Option (Addr × Array Value):=match PySem.W.nsIn K mainGlobals x with
  | some (some (.ref f))=>(match K.lookup f with
    | some ⟨_,_,.func fd,_⟩=>(match fd.code with
      | .ref c=>(match K.lookup c with
        | some ⟨_,_,.fields vs,_⟩=>(match (vs[11]?:Option Value),qog fd.body with
          | some (.ref P),some pos=>some (P,#[rawInt pos.line,rawInt pos.col,.str (fd.qualname++".<locals>."++"<lambda>") 0])
          | _,_=>none)
        | _=>none)
      | _=>none)
    | _=>none)
  | _=>none
def qiY (K:PySem.W.Frag):List (Addr × Array Value):=(["least_grown","greatest_first"]:List Str).filterMap (qlD K)
def TabF (K:PySem.W.Frag) (Φ:Hp):Prop:=∀ t∈qiY K,Φ t.1=some (.tbl t.2)
theorem TabF.same {K:PySem.W.Frag} {Φ Φ':Hp} (h:TabF K Φ) (s:Same Φ Φ'):TabF K Φ':=fun t ht=>s _ _ (h t ht)
structure EnvD (K:PySem.W.Frag) (H0 Φ H:Hp) (σ:St) (ρ:Rho):Prop where
  fz:Same Φ H
  len:σ.length=ρ.length
  sl:∀ (i:Nat) (d:D),ρ[i]?=some (some (.v d))→∃ v,σ[i]?=some (some v)∧Rp K Φ d v
  ow:∀ (i:Nat) (o:Ow),ρ[i]?=some (some (.ob o))→∃ p u,σ[i]?=some (some (.ref p))∧H0 p=none∧Φ p=none∧H p=some u∧OwR K Φ o u
  ne:∀ (i j:Nat) (o w:Ow) (p:Addr),ρ[i]?=some (some (.ob o))→ρ[j]?=some (some (.ob w))→σ[i]?=some (some (.ref p))→σ[j]?=some (some (.ref p))→i=j
  tb:TabF K Φ
section
variable {K : PySem.W.Frag} {H0 H H' Φ Φ' Φ1 H1 Φ2 H2 : Hp} {σ : St} {ρ : Rho} {d : D} {v : V} {ds es : List D} {vs ws : List V}
theorem EnvD.owl (E:EnvD K H0 Φ H σ ρ) (i:Nat) (ds:List D) (h:ρ[i]?=some (some (.own ds))):∃ p vs,σ[i]?=some (some (.ref p))∧H0 p=none∧Φ p=none∧H p=some (.lst vs)∧RpL K Φ ds vs:=by
  obtain ⟨p,u,e,h0,hn,hp,r⟩:=E.ow i _ h
  cases u with
  | lst vs=>exact ⟨p,vs,e,h0,hn,hp,r⟩
  | _=>exact (show False from r).elim
theorem EnvD.gr (E:EnvD K H0 Φ H σ ρ) (g:Gr Φ H Φ' H'):EnvD K H0 Φ' H' σ ρ :=
  ⟨g.s,E.len,fun i d h=>let ⟨v,e,r⟩:=E.sl i d h;⟨v,e,r.same g.f⟩,
    fun i ds h=>let ⟨p,vs,e,h0,hn,hp,r⟩:=E.ow i ds h;⟨p,vs,e,h0,g.o p _ hp hn r.k,g.h _ _ hp,r.same g.f⟩,E.ne,E.tb.same g.f⟩
theorem qev {α:Type} {l:List α} {i j:Nat} {x y:α} (h:(l.set i x)[j]?=some y):(j=i∧i<l.length∧y=x)∨(j≠i∧l[j]?=some y):=by
  by_cases c:i=j
  · subst c
    have hi:i<l.length:=by have:=qai h;rwa [List.length_set] at this
    rw [List.getElem?_set_self hi] at h
    cases h
    exact .inl ⟨rfl,hi,rfl⟩
  · rw [List.getElem?_set_ne c] at h
    exact .inr ⟨fun e=>c e.symm,h⟩
theorem EnvD.set (E:EnvD K H0 Φ H σ ρ) (r:Rp K Φ d v) (i:Nat):EnvD K H0 Φ H (σ.set i (some v)) (ρ.set i (some (.v d))):=by
  have nn:∀ {j:Nat} {x:Option V},j≠i→σ[j]?=some x→(σ.set i (some v))[j]?=some x:=fun c h=>by rw [List.getElem?_set_ne (Ne.symm c)];exact h
  refine ⟨E.fz,by rw [List.length_set,List.length_set,E.len],fun j e h=>?_,fun j ds h=>?_,fun j k ds es p hj hk sj sk=>?_,E.tb⟩
  · rcases qev h with ⟨rfl,hi,e1⟩ | ⟨c,h⟩
    · cases e1
      exact ⟨v,by rw [List.getElem?_set_self (by rw [E.len];exact hi)],r⟩
    · obtain ⟨u,hu,ru⟩:=E.sl j e h
      exact ⟨u,nn c hu,ru⟩
  · rcases qev h with ⟨rfl,hi,e1⟩ | ⟨c,h⟩
    · cases e1
    · obtain ⟨p,vs,e,q⟩:=E.ow j ds h
      exact ⟨p,vs,nn c e,q⟩
  · rcases qev hj with ⟨rfl,_,e1⟩ | ⟨cj,hj⟩
    · cases e1
    rcases qev hk with ⟨rfl,_,e1⟩ | ⟨ck,hk⟩
    · cases e1
    rw [List.getElem?_set_ne (Ne.symm cj)] at sj
    rw [List.getElem?_set_ne (Ne.symm ck)] at sk
    exact E.ne j k ds es p hj hk sj sk
theorem EnvD.weak {ρ':Rho} (E:EnvD K H0 Φ H σ ρ) (hl:ρ'.length=ρ.length) (hw:∀ (i:Nat) x,ρ'[i]?=some (some x)→ρ[i]?=some (some x)):EnvD K H0 Φ H σ ρ' :=
  ⟨E.fz,by rw [E.len,hl],fun i d h=>E.sl i d (hw i _ h),fun i ds h=>E.ow i ds (hw i _ h),fun i j ds es p hi hj=>E.ne i j ds es p (hw i _ hi) (hw j _ hj),E.tb⟩
end
def NF {α:Type} (x:α) (R:α→Prop):Prop:=∃ y,x=y∧R y
theorem NF.get {α:Type} {x:α} {R:α→Prop} (h:NF x R):R x:=by
  obtain ⟨_,rfl,h⟩:=h
  exact h
abbrev TD:=Rho→(D→Prop)→Prop
abbrev TDL:=Rho→(List D→Prop)→Prop
abbrev TDB:=Rho→(Bool→Prop)→Prop
def lE (K:PySem.W.Frag) (t:TD):TE:=fun σ H Q=>∃ H0 Φ ρ R,EnvD K H0 Φ H σ ρ∧t ρ R∧∀ d Φ' H' v,R d→Gr Φ H Φ' H'→Rp K Φ' d v→Q v H'
def lQ (K:PySem.W.Frag) (t:TD):TE:=fun σ H Q=>∃ H0 Φ ρ R,EnvD K H0 Φ H σ ρ∧t ρ R∧∀ d Φ' H' v,R d→Gr Φ H Φ' H'→RpQ K Φ' H' d v→Q v H'
def lF (K:PySem.W.Frag) (t:TDL):TE:=fun σ H Q=>∃ H0 Φ ρ R,EnvD K H0 Φ H σ ρ∧t ρ R∧∀ ds Φ' H' p vs,R ds→Gr Φ H Φ' H'→H p=none→Φ' p=none→H' p=some (.lst vs)→RpL K Φ' ds vs→Q (.ref p) H'
def lA (K:PySem.W.Frag) (n:Nat) (t:TDL):TA:=fun σ H Q=>∃ H0 Φ ρ R,EnvD K H0 Φ H σ ρ∧t ρ R∧∀ ds Φ' H' vs,R ds→Gr Φ H Φ' H'→RpL K Φ' ds vs→ds.length=n→Q vs H'
def lT (K:PySem.W.Frag) (t:TDB):TT:=fun σ H Q=>∃ H0 Φ ρ R,EnvD K H0 Φ H σ ρ∧t ρ R∧∀ b Φ' H',R b→Gr Φ H Φ' H'→Q b H'
structure PD (K:PySem.W.Frag) (X:Cx) (e:Expr) (t:TD):Prop where pe:X.K=K→PE X e (lE K t)
structure PQ (K:PySem.W.Frag) (X:Cx) (e:Expr) (t:TD):Prop where pe:X.K=K→PE X e (lQ K t)
structure PF (K:PySem.W.Frag) (X:Cx) (e:Expr) (t:TDL):Prop where pe:X.K=K→PE X e (lF K t)
structure PAD (K:PySem.W.Frag) (X:Cx) (es:List Expr) (t:TDL):Prop where pa:X.K=K→PA X es (lA K es.length t)
structure PTD (K:PySem.W.Frag) (X:Cx) (e:Expr) (t:TDB):Prop where pt:X.K=K→PT X e (lT K t)
structure PWD (K:PySem.W.Frag) (X:Cx) (e:Expr) (t:TDB):Prop where pw:X.K=K→PW X e (lT K t)
theorem PE.imp {X:Cx} {e:Expr} {t t':TE} (h:PE X e t) (k:∀ σ H Q,t' σ H Q→t σ H Q):PE X e t':=fun pins s σ H Q I hw=>h pins s σ H Q I (k σ H Q hw)
theorem PT.imp {X:Cx} {e:Expr} {t t':TT} (h:PT X e t) (k:∀ σ H Q,t' σ H Q→t σ H Q):PT X e t':=fun pins s σ H Q I hw=>h pins s σ H Q I (k σ H Q hw)
theorem PW.imp {X:Cx} {e:Expr} {t t':TT} (h:PW X e t) (k:∀ σ H Q,t' σ H Q→t σ H Q):PW X e t':=fun wh pins s σ H Q I hw=>h wh pins s σ H Q I (k σ H Q hw)
theorem PA.imp {X:Cx} {e:List Expr} {t t':TA} (h:PA X e t) (k:∀ σ H Q,t' σ H Q→t σ H Q):PA X e t':=fun pos pins s σ H Q I hw=>h pos pins s σ H Q I (k σ H Q hw)
theorem PS.imp {X:Cx} {e:Stmt} {t t':TS} (h:PS X e t) (k:∀ D σ H,t' D σ H→t D σ H):PS X e t':=fun pins s σ H D I hw=>h pins s σ H D I (k D σ H hw)
theorem PSs.imp {X:Cx} {e:List Stmt} {t t':TS} (h:PSs X e t) (k:∀ D σ H,t' D σ H→t D σ H):PSs X e t':=fun pins s σ H D I hw=>h pins s σ H D I (k D σ H hw)
section
variable {K : PySem.W.Frag} {X : Cx} {e a b c : Expr} {es : List Expr} {pos : Pos} {t ta tb : TD} {tf : TDL} {tl : TDL} {tt tu : TDB}
theorem PD.q (h:PD K X e t):PQ K X e t:=⟨fun hK=>(h.pe hK).imp fun σ H Q hq0=>by obtain ⟨H0,Φ,ρ,R,E,t,k⟩:=hq0;exact ⟨H0,Φ,ρ,R,E,t,fun d Φ' H' v r g rr=>k d Φ' H' v r g (.inl rr)⟩⟩
def qq3 (t:TDL):TD:=fun ρ R=>t ρ fun ds=>R (.lst ds)
theorem PF.d (h:PF K X e tf):PD K X e (qq3 tf):=⟨fun hK=>(h.pe hK).imp fun σ H Q hq0=>by obtain ⟨H0,Φ,ρ,R,E,t,k⟩:=hq0;exact ⟨H0,Φ,ρ,_,E,t,fun ds Φ' H' p vs r g h0 hn hp rr =>
  k (.lst ds) _ H' _ r (g.freeze h0 hn hp) ((rr.same (qaG hn _)).lst qak)⟩⟩
def qqm (i:Nat):TD:=fun ρ R=>match ρ[i]? with | some (some (.v d))=>R d | _=>False
def qnX (i:Nat):TD:=fun ρ R=>match ρ[i]? with | some (some (.v d))=>R d | some (some (.ob (.lst ds)))=>R (.lst ds) | _=>False
theorem dv (i:Nat) {x:Str} (hN:X.N[i]?=some x:=by rfl) (hv:Vis X.env.scope x:=by first | exact Or.inl rfl | exact Or.inr (Or.inl rfl) | exact Or.inr (Or.inr rfl)) (hd:(x == ("__debug__":Str))=false:=by decide)
    (hcd:(x == ("__classdict__":Str))=false:=by decide):PD K X (.Name x pos) (qqm i):=⟨fun _=>(pv i hN hv hd hcd).imp fun σ H Q hq0=>by
  obtain ⟨H0,Φ,ρ,R,E,t,k⟩:=hq0
  unfold qqm at t
  split at t
  · next d h =>
    obtain ⟨v,e,r⟩:=E.sl i d h
    exact ⟨v,e,k d Φ H v t (.refl E.fz) r⟩
  · exact t.elim⟩
theorem dvq (i:Nat) {x:Str} (hN:X.N[i]?=some x:=by rfl) (hv:Vis X.env.scope x:=by first | exact Or.inl rfl | exact Or.inr (Or.inl rfl) | exact Or.inr (Or.inr rfl)) (hd:(x == ("__debug__":Str))=false:=by decide)
    (hcd:(x == ("__classdict__":Str))=false:=by decide):PQ K X (.Name x pos) (qnX i):=⟨fun _=>(pv i hN hv hd hcd).imp fun σ H Q hq0=>by
  obtain ⟨H0,Φ,ρ,R,E,t,k⟩:=hq0
  unfold qnX at t
  split at t
  · next d h =>
    obtain ⟨v,e,r⟩:=E.sl i d h
    exact ⟨v,e,k d Φ H v t (.refl E.fz) (.inl r)⟩
  · next ds h =>
    obtain ⟨p,vs,e,_,_,hp,r⟩:=E.owl i ds h
    exact ⟨_,e,k _ Φ H _ t (.refl E.fz) (.inr ⟨p,vs,ds,rfl,rfl,hp,r⟩)⟩
  · exact t.elim⟩
def dC (d:D):TD:=fun _ R=>R d
theorem qkA {v:V} {d:D} (h:PE X e (tC v)) (r:∀ Φ,Rp K Φ d v):PD K X e (dC d):=⟨fun _=>h.imp fun σ H Q hq0=>by obtain ⟨H0,Φ,ρ,R,E,t,k⟩:=hq0;exact k d Φ H v t (.refl E.fz) (r Φ)⟩
theorem qaf {i j}:PD K X (.Constant (.int i) j pos) (dC (.int i)):=qkA qnD fun _=>.int i
theorem qdE {i j}:PD K X (.Constant (.bool i) j pos) (dC (.bl i)):=qkA qpb fun _=>.bl i
theorem qaV {i j}:PD K X (.Constant (.str i) j pos) (dC (.str i)):=qkA qoq fun _=>.str i
theorem qex {j}:PD K X (.Constant .none j pos) (dC .non):=qkA qnp fun _=>.non
abbrev RD2:=D→D→(D→Prop)→Prop
def lR2 (K:PySem.W.Frag) (r:RD2):R2:=fun x y H Q=>∃ Φ dx dy R,Same Φ H∧RpQ K Φ H dx x∧RpQ K Φ H dy y∧r dx dy R∧∀ d Φ' H' v,R d→Gr Φ H Φ' H'→Rp K Φ' d v→Q v H'
structure OpD (K:PySem.W.Frag) (X:Cx) (f:Value→Value→Sem Value) (r:RD2):Prop where o:X.K=K→OpR X f (lR2 K r)
def dOp (r:RD2) (ta tb:TD):TD:=fun ρ R=>ta ρ fun x=>tb ρ fun y=>r x y R
theorem qfg {r:RD2} {σ:St} {H:Hp} {Q:VK} (h:lE K (dOp r ta tb) σ H Q):tOp (lR2 K r) (lQ K ta) (lQ K tb) σ H Q:=by
  obtain ⟨H0,Φ,ρ,R,E,t,k⟩:=h
  exact ⟨H0,Φ,ρ,_,E,t,fun dx Φ1 H1 x t1 g1 rx=>⟨H0,Φ1,ρ,_,E.gr g1,t1,fun dy Φ2 H2 y t2 g2 ry=>⟨Φ2,dx,dy,R,g2.s,rx.gr g2,ry,t2,fun d Φ' H' v r g rr=>k d Φ' H' v r ((g1.trans g2).trans g) rr⟩⟩⟩
theorem qbn {op:Operator} {r:RD2} (ho:OpD K X (binaryOp op) r) (ha:PQ K X a ta) (hb:PQ K X b tb):PD K X (.BinOp a op b pos) (dOp r ta tb) :=
  ⟨fun hK=>(qoJ (ho.o hK) (ha.pe hK) (hb.pe hK)).imp fun _ _ _=>qfg⟩
theorem qfn {op:CmpOp} {r:RD2} (ho:OpD K X (compareOp op) r) (ha:PQ K X a ta) (hb:PQ K X b tb) (hm:behindInMarks op b=false):PD K X (.Compare a [op] [b] pos) (dOp r ta tb) :=
  ⟨fun hK=>(qmO (ho.o hK) (ha.pe hK) (hb.pe hK) hm).imp fun _ _ _=>qfg⟩
def qnc (t:TD):TDB:=fun ρ R=>t ρ fun d=>match d with | .bl b=>R b | _=>False
theorem qi4 {r:RD2} {σ:St} {H:Hp} {Q:Bool→Hp→Prop} (h:lT K (qnc (dOp r ta tb)) σ H Q):ql2 (tOp (lR2 K r) (lQ K ta) (lQ K tb)) σ H Q:=by
  obtain ⟨H0,Φ,ρ,R,E,t,k⟩:=h
  refine qfg ⟨H0,Φ,ρ,_,E,t,fun d Φ' H' v r g rr=>?_⟩
  cases d with
  | bl b=>cases rr;exact ⟨b,rfl,k b Φ' H' r g⟩
  | _=>exact r.elim
theorem qaS {op:CmpOp} {r:RD2} (ho:OpD K X (compareOp op) r) (ha:PQ K X a ta) (hb:PQ K X b tb) (hm:behindInMarks op b=false):PTD K X (.Compare a [op] [b] pos) (qnc (dOp r ta tb)) :=
  ⟨fun hK=>(qiE (ho.o hK) (ha.pe hK) (hb.pe hK) hm).imp fun _ _ _=>qi4⟩
abbrev RD1:=D→(D→Prop)→Prop
def dUn (r:RD1) (ta:TD):TD:=fun ρ R=>ta ρ fun x=>r x R
def qqC:RD1:=fun x R=>match x with | .int i=>R (.int (-i)) | _=>False
theorem qpB (ha:PQ K X a ta):PD K X (.UnaryOp .USub a pos) (dUn qqC ta):=⟨fun hK=>(qpg qnq (ha.pe hK)).imp fun σ H Q hq0=>by obtain ⟨H0,Φ,ρ,R,E,t,k⟩:=hq0;exact ⟨H0,Φ,ρ,_,E,t,fun dx Φ1 H1 x t1 g1 rx=>by
  cases dx with
  | int i=>exact ⟨i,rx.int,k _ Φ1 H1 _ t1 g1 (.int _)⟩
  | _=>exact t1.elim⟩⟩
def qqZ:RD1:=fun x R=>match x with | .bl i=>R (.bl (!i)) | _=>False
theorem qpz (ha:PQ K X a ta):PD K X (.UnaryOp .Not a pos) (dUn qqZ ta):=⟨fun hK=>(qoX (ha.pe hK)).imp fun σ H Q hq0=>by obtain ⟨H0,Φ,ρ,R,E,t,k⟩:=hq0;exact ⟨H0,Φ,ρ,_,E,t,fun dx Φ1 H1 x t1 g1 rx=>by
  cases dx with
  | bl i=>exact ⟨i,rx.bl,k _ Φ1 H1 _ t1 g1 (.bl _)⟩
  | _=>exact t1.elim⟩⟩
def qqs:D→(Bool→Prop)→Prop:=fun d R=>match d with
  | .int i=>R (i != 0) | .bl b=>R b | .non=>R false | .str x=>x.length≤sizeLine∧R ((x.length:Int) != 0) | .lst ds=>R (!ds.isEmpty) | .tup ds=>R (!ds.isEmpty) | .fzl ds=>R (!ds.isEmpty) | .obj _ _=>False | .map _=>False
theorem qdH {Φ:Hp} {ds:List D} {vs:List V} (h:RpL K Φ ds vs):(!ds.isEmpty)=!vs.isEmpty:=by
  have:=h.1
  cases ds <;> cases vs <;> simp_all
theorem qn5 {Φ H:Hp} {d:D} {v:V} {R:Bool→Prop} (s:Same Φ H) (h:RpQ K Φ H d v) (t:qqs d R):∃ k,qpG K v H k∧R k:=by
  cases d with
  | int i=>rw [h.int];exact ⟨_,rfl,t⟩
  | bl i=>rw [h.bl];exact ⟨_,rfl,t⟩
  | non=>rw [h.non];exact ⟨_,rfl,t⟩
  | str i=>rw [h.str];exact ⟨_,⟨t.1,rfl⟩,t.2⟩
  | lst ds=>obtain ⟨a,vs,rfl,h1,h2⟩:=h.lst s;exact ⟨_,.inl ⟨vs,.of h1,rfl⟩,by rw [← qdH h2];exact t⟩
  | tup ds=>obtain ⟨a,vs,rfl,h1,_,h2⟩:=h.tup s;exact ⟨_,.inr (.inl ⟨vs,h1,rfl⟩),by rw [← qdH h2];exact t⟩
  | fzl ds=>obtain ⟨a,vs,rfl,h1,h2⟩:=h.fzl s;exact ⟨_,.inl ⟨vs,h1,rfl⟩,by rw [← qdH h2];exact t⟩
  | obj C fs=>exact t.elim
  | map kvs=>exact t.elim
def qqz (t:TD):TDB:=fun ρ R=>t ρ fun d=>qqs d R
theorem qfH (ha:PQ K X a ta) (he:∀ whole,isTrue a X.env whole=(do let v ← whole;standAt a.pos;holding [v] (truthy v))):PTD K X a (qqz ta) :=
  ⟨fun hK=>(qkN (ha.pe hK) he).imp fun σ H Q hq0=>by obtain ⟨H0,Φ,ρ,R,E,t,k⟩:=hq0;exact ⟨H0,Φ,ρ,_,E,t,fun d Φ1 H1 v t1 g1 rv=>by
    obtain ⟨b,h1,h2⟩:=qn5 g1.s rv t1
    rw [hK]
    exact ⟨b,h1,k b Φ1 H1 h2 g1⟩⟩⟩
def qq6 (t u:TDB):TDB:=fun ρ R=>t ρ fun c=>(c=true→u ρ R)∧(c=false→R false)
def zOr (t u:TDB):TDB:=fun ρ R=>t ρ fun c=>(c=true→R true)∧(c=false→u ρ R)
def qpr (t:TDB):TDB:=fun ρ R=>t ρ fun c=>R (!c)
theorem PWD.td (h:PWD K X e tt):PTD K X e tt:=⟨fun hK=>(h.pw hK).pt⟩
theorem qdQ (ha:PTD K X a tt):PWD K X (.BoolOp .And [a] pos) tt:=⟨fun hK=>qi6 (ha.pt hK)⟩
theorem qim (ha:PTD K X a tt):PWD K X (.BoolOp .Or [a] pos) tt:=⟨fun hK=>qlh (ha.pt hK)⟩
theorem qgL (ha:PTD K X a tt) (hb:PWD K X (.BoolOp .And (b::es) pos) tu):PWD K X (.BoolOp .And (a::b::es) pos) (qq6 tt tu) :=
  ⟨fun hK=>(qlt (ha.pt hK) (hb.pw hK)).imp fun σ H Q hq0=>by obtain ⟨H0,Φ,ρ,R,E,t,k⟩:=hq0;exact ⟨H0,Φ,ρ,_,E,t,fun c Φ1 H1 r g=>by
    cases c with
    | true=>rw [if_pos rfl];exact ⟨H0,Φ1,ρ,R,E.gr g,r.1 rfl,fun b Φ' H' rb g'=>k b Φ' H' rb (g.trans g')⟩
    | false=>rw [if_neg (by decide)];exact k _ Φ1 H1 (r.2 rfl) g⟩⟩
theorem qkY (ha:PTD K X a tt) (hb:PWD K X (.BoolOp .Or (b::es) pos) tu):PWD K X (.BoolOp .Or (a::b::es) pos) (zOr tt tu) :=
  ⟨fun hK=>(qoi (ha.pt hK) (hb.pw hK)).imp fun σ H Q hq0=>by obtain ⟨H0,Φ,ρ,R,E,t,k⟩:=hq0;exact ⟨H0,Φ,ρ,_,E,t,fun c Φ1 H1 r g=>by
    cases c with
    | true=>rw [if_pos rfl];exact k _ Φ1 H1 (r.1 rfl) g
    | false=>rw [if_neg (by decide)];exact ⟨H0,Φ1,ρ,R,E.gr g,r.2 rfl,fun b Φ' H' rb g'=>k b Φ' H' rb (g.trans g')⟩⟩⟩
theorem qgc (ha:PTD K X a tt):PTD K X (.UnaryOp .Not a pos) (qpr tt) :=
  ⟨fun hK=>(qoE (ha.pt hK)).imp fun σ H Q hq0=>by obtain ⟨H0,Φ,ρ,R,E,t,k⟩:=hq0;exact ⟨H0,Φ,ρ,_,E,t,fun c Φ1 H1 r g=>k _ Φ1 H1 r g⟩⟩
def qrx (t u:TD):TD:=fun ρ R=>t ρ fun c=>match c with | .bl c=>(c=true→u ρ R)∧(c=false→R (.bl false)) | _=>False
theorem qmI {op} (h:PD K X a ta):PD K X (.BoolOp op [a] pos) ta:=⟨fun hK=>qoQ (h.pe hK)⟩
theorem qmf (ha:PD K X a ta) (hb:PD K X (.BoolOp .And (b::es) pos) tb):PD K X (.BoolOp .And (a::b::es) pos) (qrx ta tb) :=
  ⟨fun hK=>(qon (ha.pe hK) (hb.pe hK)).imp fun σ H Q hq0=>by obtain ⟨H0,Φ,ρ,R,E,t,k⟩:=hq0;exact ⟨H0,Φ,ρ,_,E,t,fun c Φ1 H1 v r g rv=>by
    cases c with
    | bl c =>
      cases rv
      refine ⟨c,rfl,?_⟩
      cases c with
      | true=>rw [if_pos rfl];exact ⟨H0,Φ1,ρ,R,E.gr g,r.1 rfl,fun b Φ' H' v rb g' rr=>k b Φ' H' v rb (g.trans g') rr⟩
      | false=>rw [if_neg (by decide)];exact k _ Φ1 H1 _ (r.2 rfl) g (.bl _)
    | _=>exact r.elim⟩⟩
def dIf (t:TDB) (u v:TD):TD:=fun ρ R=>t ρ fun c=>(c=true→u ρ R)∧(c=false→v ρ R)
theorem qrs (hc:PTD K X c tt) (ha:PD K X a ta) (hb:PD K X b tb):PD K X (.IfExp c a b pos) (dIf tt ta tb) :=
  ⟨fun hK=>(qky (hc.pt hK) (ha.pe hK) (hb.pe hK)).imp fun σ H Q hq0=>by obtain ⟨H0,Φ,ρ,R,E,t,k⟩:=hq0;exact ⟨H0,Φ,ρ,_,E,t,fun c Φ1 H1 r g=>by
    cases c with
    | true=>rw [if_pos rfl];exact ⟨H0,Φ1,ρ,R,E.gr g,r.1 rfl,fun b Φ' H' v rb g' rr=>k b Φ' H' v rb (g.trans g') rr⟩
    | false=>rw [if_neg (by decide)];exact ⟨H0,Φ1,ρ,R,E.gr g,r.2 rfl,fun b Φ' H' v rb g' rr=>k b Φ' H' v rb (g.trans g') rr⟩⟩⟩
def qqh:TDL:=fun _ R=>R []
def qof (t:TD) (u:TDL):TDL:=fun ρ R=>t ρ fun d=>u ρ fun ds=>R (d::ds)
theorem qav:PAD K X [] qqh:=⟨fun _=>pa_nil.imp fun σ H Q hq0=>by obtain ⟨H0,Φ,ρ,R,E,t,k⟩:=hq0;exact k [] Φ H [] t (.refl E.fz) .nil rfl⟩
theorem qad (ha:PD K X e t) (hr:PAD K X es tl) (hs:starEach (e::es) X.env=(false,eval e X.env)::starEach es X.env):PAD K X (e::es) (qof t tl) :=
  ⟨fun hK=>(qbM (ha.pe hK) (hr.pa hK) hs).imp fun σ H Q hq0=>by obtain ⟨H0,Φ,ρ,R,E,t,k⟩:=hq0;exact ⟨H0,Φ,ρ,_,E,t,fun d Φ1 H1 v r g rv=>⟨H0,Φ1,ρ,_,E.gr g,r,fun ds Φ2 H2 vs r2 g2 rl hl =>
    k _ Φ2 H2 _ r2 (g.trans g2) (.cons (rv.same g2.f) rl) (by rw [List.length_cons,List.length_cons,hl])⟩⟩⟩
def qru (t:TDL):TD:=fun ρ R=>t ρ fun ds=>R (.tup ds)
def qrb (t:TDL):TDL:=t
theorem qjm {n:Nat} (h:Nat.ble n 1000=true):n≤sizeLine:=Nat.le_trans (Nat.le_of_ble_eq_true h) (by decide)
theorem qbK {x1} (h:PAD K X es tl) (hes:Nat.ble es.length 1000=true:=by rfl):PD K X (.Tuple es x1 pos) (qru tl) :=
  ⟨fun hK=>(qln (h.pa hK)).imp fun σ H Q hq0=>by obtain ⟨H0,Φ,ρ,R,E,t,k⟩:=hq0;exact ⟨H0,Φ,ρ,_,E,t,fun ds Φ1 H1 vs r g rl hl=>⟨by rw [rl.1,hl];exact qjm hes,fun p hp =>
    k _ _ _ _ r (g.trans (.new g.s hp _)) ((rl.same (qaG (g.s.free hp) _)).tup qak)⟩⟩⟩
theorem qip (h:PAD K X es tl) (hes:Nat.ble es.length 1000=true:=by rfl):PF K X (.List es pos) (qrb tl) :=
  ⟨fun hK=>(qnV (h.pa hK)).imp fun σ H Q hq0=>by obtain ⟨H0,Φ,ρ,R,E,t,k⟩:=hq0;exact ⟨H0,Φ,ρ,_,E,t,fun ds Φ1 H1 vs r g rl hl=>⟨by rw [rl.1,hl];exact qjm hes,fun p hp =>
    k _ _ _ p vs r (g.trans (.fresh g.s hp _)) (g.h.free hp) (g.s.free hp) qak rl⟩⟩⟩
end
end L2
namespace L2
open PySem PySem.Spec PyProof.Rows PySem.Builtin PySem.Builtin.Str
section
variable {K : PySem.W.Frag} {X : Cx}
def qjp (z:Str) (lo hi:Option Int):Str:=⟨(qeM z.cps.toList lo hi).toArray⟩
theorem qjN (z:Str) (lo hi:Option Int):Txt.slice z lo hi=qjp z lo hi:=by
  have key:strSliceIndices lo hi 1 z.length=(List.range (HT.sIx z.length z.length hi - HT.sIx z.length 0 lo)).map fun k=>HT.sIx z.length 0 lo+k:=by
    have h1:∀ (i:Int) (d:Nat),max 0 (min (if i<0 then i+(z.length:Int) else i) (z.length:Int))=(HT.sIx z.length d (some i):Int):=fun i d=>by
      show max 0 (min (if i<0 then i+(z.length:Int) else i) (z.length:Int))=((if i<0 then (i+(z.length:Int)).toNat else min i.toNat z.length:Nat):Int)
      split <;> omega
    have e0:strSliceIndices lo hi 1 z.length=sliceRange (HT.sIx z.length 0 lo:Int) (HT.sIx z.length z.length hi:Int) 1:=by
      cases lo <;> cases hi <;> simp only [strSliceIndices,show (1:Int)>0 by decide,if_true,h1 _ 0,h1 _ z.length] <;> rfl
    rw [e0]
    unfold sliceRange
    simp only [show (1:Int)>0 by decide,if_true]
    have ec:(if (HT.sIx z.length 0 lo:Int)<(HT.sIx z.length z.length hi:Int) then ((HT.sIx z.length z.length hi:Int) - (HT.sIx z.length 0 lo:Int)+1 - 1) / 1 else 0).toNat=HT.sIx z.length z.length hi - HT.sIx z.length 0 lo:=by
      split
      · rw [Int.ediv_one];omega
      · omega
    rw [ec]
    refine List.map_congr_left fun k _=>?_
    omega
  have hb:HT.sIx z.length z.length hi≤z.length:=by
    cases hi with
    | none=>exact Nat.le_refl _
    | some i =>
      show (if i<0 then (i+(z.length:Int)).toNat else min i.toNat z.length)≤z.length
      split <;> omega
  have hb0:HT.sIx z.length 0 lo≤z.length:=by
    cases lo with
    | none=>exact Nat.zero_le _
    | some i =>
      show (if i<0 then (i+(z.length:Int)).toNat else min i.toNat z.length)≤z.length
      split <;> omega
  have pick:(strSliceIndices lo hi 1 z.length).filterMap (z.cps[·]?)=qeM z.cps.toList lo hi:=by
    rw [key]
    unfold qeM
    have el:z.cps.toList.length=z.length:=by rw [Array.length_toList];rfl
    rw [el]
    generalize HT.sIx z.length 0 lo=a
    generalize hbb:HT.sIx z.length z.length hi=b at hb
    refine List.ext_getElem? fun j=>?_
    rw [List.filterMap_map]
    have:∀ m,m≤b - a→((List.range m).filterMap ((fun x=>z.cps[x]?) ∘ fun k=>a+k))=(z.cps.toList.drop a).take m:=by
      intro m
      induction m with
      | zero=>intro _;simp
      | succ m ih =>
        intro hm
        rw [List.range_succ,List.filterMap_append,ih (by omega)]
        have hlt:a+m<z.cps.size:=by unfold Str.length at hb;omega
        have e1:z.cps.toList.drop a=z.cps.toList.drop a:=rfl
        have hl:m<(z.cps.toList.drop a).length:=by rw [List.length_drop,el];unfold Str.length;omega
        rw [List.take_add_one,List.getElem?_drop]
        congr 1
        simp [hlt]
    rw [this _ (Nat.le_refl _)]
  unfold Txt.slice qjp
  split
  · next h =>
    have hl:(strSliceIndices lo hi 1 z.length).length=z.length:=by simpa using h
    have el:z.cps.toList.length=z.length:=by rw [Array.length_toList];rfl
    have:qeM z.cps.toList lo hi=z.cps.toList:=by
      rw [key,List.length_map,List.length_range] at hl
      unfold qeM
      rw [el]
      have:HT.sIx z.length 0 lo=0:=by omega
      rw [this,List.drop_zero,List.take_of_length_le (by rw [el];omega)]
    rw [this]
  · rw [pick]
theorem qjJ (z:Str) (lo hi:Option Int):(qjp z lo hi).length≤z.length:=by rw [← qjN];exact Txt.slice_le z lo hi
def qqd:V→Option Int→Option Int→Hp→VK→Prop:=fun x lo hi H Q=>∃ z,x=.str z∧z.length≤sizeLine∧Q (.str (qjp z lo hi)) H
theorem qjo {v:Value} {o:Option Int} (h:IsPart v o):∃ p:Option (Int × Tok),v=partValue p∧p.map (·.1)=o:=by
  cases h with
  | none=>exact ⟨none,rfl,rfl⟩
  | int i t=>exact ⟨some (i,t),rfl,rfl⟩
theorem qnI:SlR X qqd:=by
  intro pins s σ H x v vl vu lo hi sl Q I rx hs pl pu h
  obtain ⟨z,rfl,hz,q⟩:=h
  obtain ⟨t,rfl⟩:=rx
  obtain ⟨p1,rfl,rfl⟩:=qjo pl
  obtain ⟨p2,rfl,rfl⟩:=qjo pu
  refine ⟨"str",_,F.slot_str_getitem.lookup,typeIs_str _ _ _,?_⟩
  have hs':s.heap.IsSlice sl p1 p2 none:=by
    obtain ⟨o,ho,h1,h2⟩:=hs
    exact ⟨o,ho,h1,h2⟩
  refine wpAny_getItem_str_slice (l:=p1) (u:=p2) (st:=none) hs' rfl (post_val_or_str ⟨?_,fun t' k=>?_⟩)
  · exact Nat.le_trans (Txt.slice_le z _ _) hz
  · refine ⟨.str (qjp z (p1.map (·.1)) (p2.map (·.1))),H,?_,⟨t',?_⟩,q⟩
    · exact I.tok _
    · rw [← qjN];rfl
def qg9 (z:Str) (n:Nat):Str:=⟨((List.replicate n z.cps.toList).flatten).toArray⟩
theorem qk5 (z:Str):qg9 z 1=z:=by
  unfold qg9
  simp
theorem qhQ:∀ (n:Nat) (x acc:Array Nat),(List.replicate n x).foldl (·++·) acc=acc++((List.replicate n x.toList).flatten).toArray
  | 0,x,acc=>by simp
  | n+1,x,acc=>by
    rw [List.replicate_succ,List.foldl_cons,qhQ n x (acc++x),List.replicate_succ,List.flatten_cons]
    apply Array.ext'
    simp
theorem qco (z:Str) (n:Nat):(qg9 z n).length=z.length*n:=by
  unfold qg9 Str.length
  simp [Nat.mul_comm]
def qo6:R2:=fun x y H Q=>∃ z k,x=.str z∧y=.int k∧-(2 ^ 62)≤k∧k<2 ^ 62∧z.length*k.toNat≤sizeLine∧z.length≤sizeLine∧Q (.str (qg9 z k.toNat)) H
theorem qml:OpR X (binaryOp .Mult) qo6:=by
  intro pins s σ H x y v u Q I rx ry h
  obtain ⟨z,k,rfl,rfl,h1,h2,h3,h4,q⟩:=h
  obtain ⟨t,rfl⟩:=rx
  obtain ⟨t',rfl⟩:=ry
  refine P.mul_str (by rw [decide_eq_false (by omega),decide_eq_false (by omega)];rfl) (fun c1 c2=>?_) (fun c1 c2=>?_) ?_
  · intro hc
    have hk:0<k:=by omega
    have h5:((z.length:Int))*k≤2 ^ 24:=by
      have:((z.length*k.toNat:Nat):Int)≤(sizeLine:Int):=Int.ofNat_le.mpr h3
      rw [Int.natCast_mul,Int.toNat_of_nonneg (by omega)] at this
      exact this
    have h6:(z.length:Int)≤(2 ^ 63 - 1) / k:=(Int.le_ediv_iff_mul_le hk).mpr (Int.le_trans h5 (by decide))
    omega
  · unfold tooLong
    exact decide_eq_false (by omega)
  · by_cases c:k<1
    · rw [if_pos c]
      have e:k.toNat=0:=by omega
      rw [e] at q
      exact ⟨by decide,.str Str.empty,H,I.tok _,⟨_,rfl⟩,q⟩
    · rw [if_neg c]
      by_cases c2:(k == 1 || z.length == 0)=true
      · rw [if_pos c2]
        have e:qg9 z k.toNat=z:=by
          rw [Bool.or_eq_true] at c2
          rcases c2 with c2 | c2
          · have:=eq_of_beq c2
            subst this
            exact qk5 z
          · have hz:z.cps.toList=[]:=by
              have:=eq_of_beq c2
              unfold Str.length at this
              exact List.length_eq_zero_iff.mp (by rw [Array.length_toList];exact this)
            unfold qg9
            rw [hz]
            have hz2:z.cps=#[]:=by
              apply Array.ext'
              rw [hz]
            apply Str.ext'
            rw [hz2]
            simp
        rw [e] at q
        exact ⟨.str z,H,I,⟨t,rfl⟩,q⟩
      · rw [if_neg c2]
        have e:(⟨(List.replicate k.toNat z.cps).foldl (·++·) #[]⟩:Str)=qg9 z k.toNat:=by
          rw [qhQ]
          unfold qg9
          simp
        rw [e]
        refine ⟨by rw [qco];exact h3,.str (qg9 z k.toNat),H,I.tok _,⟨_,rfl⟩,q⟩
end
def qo9:R2:=fun x y H Q=>∃ a b xs ys,x=.ref a∧y=.ref b∧H a=some (.tup xs)∧H b=some (.tup ys)∧xs.length+ys.length≤sizeLine∧∀ p H',Same H H'→H' p=some (.tup (xs++ys))→Q (.ref p) H'
theorem qmX {X:Cx}:OpR X (binaryOp .Add) qo9:=by
  intro pins s σ H x y v u Q I rx ry h
  obtain ⟨a,b,xs,ys,rfl,rfl,ha,hb,hz,q⟩:=h
  by_cases hx:xs=[]
  · subst hx
    cases rx
    cases ry
    obtain ⟨its,r1,p1,_⟩:=I.tuple (SqT.of ha)
    obtain ⟨its2,r2,p2,_⟩:=I.tuple (SqT.of hb)
    exact qmH p1 p2 (r1.nil_iff.mpr rfl) ⟨.ref b,H,I,rfl,q b H (Same.refl H) hb⟩
  · refine qlI pins s σ H _ _ v u Q I rx ry ⟨a,b,xs,ys,rfl,rfl,SqT.of ha,SqT.of hb,hx,hz,fun e=>?_,fun _ p hp=>q p _ (qaG hp _) qak⟩
    subst e
    exact q a H (Same.refl H) (by rw [List.append_nil];exact ha)
def qo5:R2:=fun x y H Q=>∃ (a:Addr) (k:Int) (xs:List V),x=.ref a∧y=.int k∧H a=some (.tup xs)∧xs≠[]∧0≤k∧k≤1000∧k.toNat*xs.length≤1000∧∀ p H',Same H H'→H' p=some (.tup (List.replicate k.toNat xs).flatten)→Q (.ref p) H'
theorem qlJ {X:Cx}:OpR X (binaryOp .Mult) qo5:=by
  intro pins s σ H x y v u Q I rx ry h
  obtain ⟨a,k,xs,rfl,rfl,ha,hx,h0,h1,hz,q⟩:=h
  cases rx
  obtain ⟨t,rfl⟩:=ry
  obtain ⟨its,r,p1,_⟩:=I.tuple (SqT.of ha)
  have hne:its≠[]:=fun z=>hx (r.nil_iff.mp z)
  have hl:=r.length
  have hits:its.toArray.isEmpty=false:=by cases its with | nil=>exact absurd rfl hne | cons _ _=>rfl
  obtain ⟨⟨cls,dd,data,sl⟩,ho,hc,n,hd⟩:=id p1
  simp only at hc hd
  subst hc hd
  refine wpAny_binaryOp_repeat_ref (T:="tuple") (U:="int") (by decide) ⟨_,ho,rfl⟩ (fun s'=>typeIs_int s' k t) qdI F.fills_int_mul F.slot_int_rmul qfy F.slot_int_index.lookup
    (call_meets F.slot_int_rmul (typeIs_int s k t) F.entry_int_rmul (F.args_int_rmul_2 _ _) (qel k t a its.toArray n dd sl)
      ⟨ho,rfl,⟨_,ho,rfl⟩,?_⟩)
  have hnew:List.foldl (fun x1 x2=>x1++x2) #[] (List.replicate k.toNat its.toArray)=(List.replicate k.toNat its).flatten.toArray:=by
    have:=qee its k.toNat []
    rw [List.nil_append] at this
    exact this
  have hc0:¬ (decide (k < -(2 ^ 63)) || decide (k≥2 ^ 63))=true:=by
    rw [decide_eq_false (by omega),decide_eq_false (by omega)]
    exact Bool.false_ne_true
  by_cases c1:k=1
  · subst c1
    refine call_meets F.slot_tuple_mul ⟨_,ho,rfl⟩ F.entry_tuple_mul (F.args_tuple_mul_2 _ _) (qhq a its.toArray n dd sl t) ⟨ho,?_⟩
    refine ⟨.ref a,H,I,rfl,q a H (Same.refl H) ?_⟩
    show H a=some (.tup (List.replicate 1 xs).flatten)
    rw [List.replicate_one,List.flatten_cons,List.flatten_nil,List.append_nil]
    exact ha
  · have hc1:¬ (its.toArray.isEmpty || k == 1)=true:=by
      rw [hits,beq_eq_false_iff_ne.mpr c1]
      exact Bool.false_ne_true
    have lay:∀ ys:List V,∀ us:List Value,ys.length≤sizeLine→Vals ys us→EP X pins σ Q (.ref s.heap.objs.size) { s with heap:=s.heap.push { cls:=Value.type "tuple",data:=Data.seq us.toArray },toks:=s.toks }∨¬ (∀ p H',Same H H'→H' p=some (.tup ys)→Q (.ref p) H'):=fun ys us hzz rr=>by
      by_cases qq:∀ p H',Same H H'→H' p=some (.tup ys)→Q (.ref p) H'
      · refine .inl ⟨.ref s.heap.objs.size,_,I.laid (t':=s.toks) (o:=.tup ys) (fun b ob z=>Heap.get?_push_of_some _ z) (Nat.le_refl _) ?_,rfl,qq _ _ (qaG (I.hok.fresh (Nat.le_refl _)) _) qak⟩
        exact ⟨hzz,_,rr,IsTupD.new _ _⟩
      · exact .inr qq
    by_cases c0:k=0
    · subst c0
      refine call_meets F.slot_tuple_mul ⟨_,ho,rfl⟩ F.entry_tuple_mul (F.args_tuple_mul_2 _ _) (qg3 a its.toArray n dd sl 0 t hc0 hc1 rfl) ⟨ho,?_⟩
      rcases lay [] [] (Nat.zero_le _) .nil with z | z
      · exact z
      · exact absurd q z
    · have hc2:¬ (decide (k≤0) || its.toArray.isEmpty)=true:=by
        rw [hits,decide_eq_false (by omega)]
        exact Bool.false_ne_true
      have hlen:its.length*k.toNat≤1000:=by rw [← hl,Nat.mul_comm];exact hz
      have hlenI:(its.toArray.size:Int)*k≤1000:=by
        rw [List.size_toArray]
        have e:k=((k.toNat:Nat):Int):=by omega
        rw [e]
        exact_mod_cast hlen
      have hs:(1000:Int)≤((sizeLine:Nat):Int):=by exact_mod_cast qeO (Nat.le_refl 1000)
      have hflat:(List.replicate k.toNat its).flatten.length≤1000:=by rw [qhj,Nat.mul_comm];exact hlen
      refine call_meets F.slot_tuple_mul ⟨_,ho,rfl⟩ F.entry_tuple_mul (F.args_tuple_mul_2 _ _) (qhg a its.toArray n dd sl k t hc0 hc1 hc2 (by omega) (by unfold Builtin.Tuple.tupleTooMany;rw [decide_eq_false (by omega)];exact Bool.false_ne_true) (by rw [hnew,List.size_toArray];exact qeO hflat)) ⟨ho,?_⟩
      rw [hnew]
      rcases lay (List.replicate k.toNat xs).flatten (List.replicate k.toNat its).flatten (by rw [qhj];exact qeO hz) (r.rep k.toNat) with z | z
      · exact z
      · exact absurd q z
end L2
namespace L2
open PySem PySem.Spec PyProof.Rows
section
variable {K : PySem.W.Frag} {X : Cx} {e a b c : Expr} {es : List Expr} {pos : Pos} {t ta tb : TD} {tf : TDL} {tl : TDL} {tt tu : TDB}
def qre:RD2:=fun x y R=>match x,y with
  | .int i,.int j=>R (.int (i+j))
  | .str i,.str j=>i.length+j.length≤sizeLine∧R (.str (i++j))
  | .lst xs,.lst ys=>xs.length+ys.length≤sizeLine∧NF (xs++ys) fun zs=>R (.lst zs)
  | .tup xs,.tup ys=>xs.length+ys.length≤sizeLine∧NF (xs++ys) fun zs=>R (.tup zs)
  | _,_=>False
theorem qbF:OpD K X (binaryOp .Add) qre:=⟨fun hK pins s σ H x y v u Q I rx ry hq0=>by
  obtain ⟨Φ,dx,dy,R,sm,hx,hy,h,k⟩:=hq0
  cases dx with
  | int i =>
    cases dy with
    | int j=>cases hx.int;cases hy.int;exact qoy pins s σ H _ _ v u Q I rx ry ⟨i,j,rfl,rfl,k _ Φ H _ h (.refl sm) (.int _)⟩
    | _=>exact h.elim
  | str i =>
    cases dy with
    | str j=>cases hx.str;cases hy.str;exact qil pins s σ H _ _ v u Q I rx ry ⟨i,j,rfl,rfl,h.1,k _ Φ H _ h.2 (.refl sm) (.str _)⟩
    | _=>exact h.elim
  | lst xs =>
    cases dy with
    | lst ys =>
      obtain ⟨a,vs,rfl,h1,h2⟩:=hx.lst sm
      obtain ⟨b,ws,rfl,h3,h4⟩:=hy.lst sm
      exact qox pins s σ H _ _ v u Q I rx ry ⟨a,b,vs,ws,rfl,rfl,h1,h3,by rw [h2.1,h4.1];exact h.1,fun p hp=>k _ _ _ _ h.2.get (.new sm hp _) (((h2.append h4).same (qaG (sm.free hp) _)).lst qak)⟩
    | _=>exact h.elim
  | tup xs =>
    cases dy with
    | tup ys =>
      obtain ⟨a,vs,rfl,h1,h1',h2⟩:=hx.tup sm
      obtain ⟨b,ws,rfl,h3,h3',h4⟩:=hy.tup sm
      exact qmX pins s σ H _ _ v u Q I rx ry ⟨a,b,vs,ws,rfl,rfl,sm _ _ h1',sm _ _ h3',by rw [h2.1,h4.1];exact h.1,fun p H' s' q=>by
        obtain ⟨Φ',g,q'⟩:=Gr.adoptT sm s' q
        exact k _ Φ' H' _ h.2.get g (((h2.append h4).same g.f).tup q')⟩
    | _=>exact h.elim
  | _=>exact h.elim⟩
def zI (C:Int→Int→Prop) (g:Int→Int→D):RD2:=fun x y R=>match x,y with | .int i,.int j=>C i j∧R (g i j) | _,_=>False
def zI0 (g:Int→Int→D):RD2:=fun x y R=>match x,y with | .int i,.int j=>R (g i j) | _,_=>False
theorem qkt {f:Value→Value→Sem Value} {C:Int→Int→Prop} {g:Int→Int→Int} (h:OpR X f (rI C fun i j=>.int (g i j))):OpD K X f (zI C fun i j=>.int (g i j)) :=
  ⟨fun hK pins s σ H x y v u Q I rx ry hq0=>by
    obtain ⟨Φ,dx,dy,R,sm,hx,hy,q,k⟩:=hq0
    cases dx with
    | int i =>
      cases dy with
      | int j=>cases hx.int;cases hy.int;exact h pins s σ H _ _ v u Q I rx ry ⟨i,j,rfl,rfl,q.1,k _ Φ H _ q.2 (.refl sm) (.int _)⟩
      | _=>exact q.elim
    | _=>exact q.elim⟩
theorem qoU {f:Value→Value→Sem Value} {g:Int→Int→Int} (h:OpR X f (rI0 fun i j=>.int (g i j))):OpD K X f (zI0 fun i j=>.int (g i j)) :=
  ⟨fun hK pins s σ H x y v u Q I rx ry hq0=>by
    obtain ⟨Φ,dx,dy,R,sm,hx,hy,q,k⟩:=hq0
    cases dx with
    | int i =>
      cases dy with
      | int j=>cases hx.int;cases hy.int;exact h pins s σ H _ _ v u Q I rx ry ⟨i,j,rfl,rfl,k _ Φ H _ q (.refl sm) (.int _)⟩
      | _=>exact q.elim
    | _=>exact q.elim⟩
theorem qjB {f:Value→Value→Sem Value} {g:Int→Int→Bool} (h:OpR X f (rI0 fun i j=>.bl (g i j))):OpD K X f (zI0 fun i j=>.bl (g i j)) :=
  ⟨fun hK pins s σ H x y v u Q I rx ry hq0=>by
    obtain ⟨Φ,dx,dy,R,sm,hx,hy,q,k⟩:=hq0
    cases dx with
    | int i =>
      cases dy with
      | int j=>cases hx.int;cases hy.int;exact h pins s σ H _ _ v u Q I rx ry ⟨i,j,rfl,rfl,k _ Φ H _ q (.refl sm) (.bl _)⟩
      | _=>exact q.elim
    | _=>exact q.elim⟩
theorem qcC:OpD K X (binaryOp .Sub) (zI0 fun i j=>.int (i - j)):=qoU qol
theorem qlx:OpD K X (binaryOp .FloorDiv) (zI CDivB fun i j=>.int (i / j)):=qkt qkj
theorem qgw:OpD K X (binaryOp .Mod) (zI (fun _ j=>0<j) fun i j=>.int (i % j)):=qkt qnb
theorem qoN:OpD K X (binaryOp .Pow) (zI qqo fun i j=>.int (i ^ j.toNat)):=qkt qod
theorem qm2:OpD K X (compareOp .Lt) (zI0 fun i j=>.bl (decide (i<j))):=qjB qpQ
theorem qlX:OpD K X (compareOp .Gt) (zI0 fun i j=>.bl (decide (j<i))):=qjB qp1
theorem qqe:OpD K X (compareOp .GtE) (zI0 fun i j=>.bl (decide (j≤i))):=qjB qpS
def qrr:RD2:=fun x y R=>match x,y with
  | .int i,.int j=>IntMulOk i j∧R (.int (i*j))
  | .lst xs,.int k=>(-(2 ^ 63)≤k∧k<2 ^ 63∧xs.length*k.toNat≤sizeLine)∧NF (List.replicate k.toNat xs).flatten fun zs=>R (.lst zs)
  | .tup xs,.int k=>(xs≠[]∧0≤k∧k≤1000∧k.toNat*xs.length≤1000)∧NF (List.replicate k.toNat xs).flatten fun zs=>R (.tup zs)
  | .str z,.int k=>(-(2 ^ 62)≤k∧k<2 ^ 62∧z.length*k.toNat≤sizeLine∧z.length≤sizeLine)∧NF (qg9 z k.toNat) fun y=>R (.str y)
  | _,_=>False
theorem qf1:OpD K X (binaryOp .Mult) qrr:=⟨fun hK pins s σ H x y v u Q I rx ry hq0=>by
  obtain ⟨Φ,dx,dy,R,sm,hx,hy,h,k⟩:=hq0
  cases dx with
  | int i =>
    cases dy with
    | int j=>cases hx.int;cases hy.int;exact qmG pins s σ H _ _ v u Q I rx ry ⟨i,j,rfl,rfl,h.1,k _ Φ H _ h.2 (.refl sm) (.int _)⟩
    | _=>exact h.elim
  | lst xs =>
    cases dy with
    | int j =>
      obtain ⟨a,vs,rfl,h1,h2⟩:=hx.lst sm
      cases hy.int
      exact qnP pins s σ H _ _ v u Q I rx ry ⟨a,j,vs,rfl,rfl,h1,h.1.1,h.1.2.1,by rw [h2.1];exact h.1.2.2,fun p hp=>k _ _ _ _ h.2.get (.new sm hp _) (((h2.rep _).same (qaG (sm.free hp) _)).lst qak)⟩
    | _=>exact h.elim
  | tup xs =>
    cases dy with
    | int j =>
      obtain ⟨a,vs,rfl,h1,h1',h2⟩:=hx.tup sm
      cases hy.int
      have hne:vs≠[]:=fun e=>h.1.1 (List.length_eq_zero_iff.mp (by rw [← h2.1,e];rfl))
      exact qlJ pins s σ H _ _ v u Q I rx ry ⟨a,j,vs,rfl,rfl,sm _ _ h1',hne,h.1.2.1,h.1.2.2.1,by rw [h2.1];exact h.1.2.2.2,fun p H' s' q=>by
        obtain ⟨Φ',g,q'⟩:=Gr.adoptT sm s' q
        exact k _ Φ' H' _ h.2.get g (((h2.rep _).same g.f).tup q')⟩
    | _=>exact h.elim
  | str z =>
    cases dy with
    | int j =>
      cases hx.str
      cases hy.int
      exact qml pins s σ H _ _ v u Q I rx ry ⟨z,j,rfl,rfl,h.1.1,h.1.2.1,h.1.2.2.1,h.1.2.2.2,k _ Φ H _ h.2.get (.refl sm) (.str _)⟩
    | _=>exact h.elim
  | _=>exact h.elim⟩
end
def cmL (f:D→D→Option Bool):List D→List D→Option Bool
  | [],[]=>some true
  | x::xs,y::ys=>(f x y).bind fun b=>(cmL f xs ys).map (b && ·)
  | _,_=>some false
def cmB:Nat→D→D→Option Bool
  | _,.int i,.int j=>some (i == j)
  | _,.bl i,.bl j=>some (i == j)
  | _,.str i,.str j=>some (i == j)
  | _,.non,.non=>some true
  | n+1,.tup xs,.tup ys=>cmL (cmB n) xs ys
  | n+1,.lst xs,.lst ys=>if xs.length=ys.length then cmL (cmB n) xs ys else some false
  | _,_,_=>none
theorem qc8 {f:D→D→Option Bool}:∀ {xs ys:List D} {b:Bool},cmL f xs ys=some b→∃ g:Nat→Bool,(∀ (j:Nat) (x y:D),xs[j]?=some x→ys[j]?=some y→f x y=some (g j))∧b=((List.range (min xs.length ys.length)).all g && xs.length == ys.length)
  | [],[],b,h=>by cases h;exact ⟨fun _=>true,fun j x y hx=>by simp at hx,by simp⟩
  | [],_::_,b,h=>by cases h;exact ⟨fun _=>true,fun j x y hx=>by simp at hx,by simp⟩
  | _::_,[],b,h=>by cases h;exact ⟨fun _=>true,fun j x y _ hy=>by simp at hy,by simp⟩
  | x::xs,y::ys,b,h=>by
    unfold cmL at h
    cases e:f x y with
    | none=>rw [e] at h;cases h
    | some c =>
      cases e2:cmL f xs ys with
      | none=>rw [e,e2] at h;cases h
      | some c2 =>
        rw [e,e2] at h
        cases h
        obtain ⟨g,h1,h2⟩:=qc8 e2
        refine ⟨fun j=>match j with | 0=>c | j+1=>g j,fun j u v hu hv=>?_,?_⟩
        · cases j with
          | zero=>cases hu;cases hv;exact e
          | succ j=>exact h1 j u v hu hv
        · have em:min (x::xs).length (y::ys).length=min xs.length ys.length+1:=by simp only [List.length_cons];omega
          have el:((x::xs).length == (y::ys).length)=(xs.length == ys.length):=by simp
          rw [em,el,List.range_succ_eq_map,List.all_cons,List.all_map,h2,Bool.and_assoc]
          rfl
section
variable {K : PySem.W.Frag} {X : Cx} {pins : List (Addr × Obj)} {σ : St} {Φ H : Hp} {s : Shared}
theorem qns {n:Nat} {g:Nat→Bool} (h:∀ j,j<n→g j=true):(List.range n).all g=true:=by
  rw [List.all_eq_true]
  intro j hj
  exact h j (List.mem_range.mp hj)
theorem qao {α:Type} {xs:List α} {j:Nat} (h:j<xs.length):xs[j]?=some xs[j]:=by simp [h]
theorem qjG (hK:X.K=K) (I:Inv X pins σ H s) (sm:Same Φ H):∀ (n:Nat) {d e:D} {b:Bool} {v:V},cmB n d e=some b→Rp K Φ d v→Rp K Φ e v→b=true:=by
  intro n
  induction n with
  | zero =>
    intro d e b v h r1 r2
    cases r1 with
    | int i=>cases r2;have h':some (i == i)=some b:=h;cases h';simp
    | bl i=>cases r2;have h':some (i == i)=some b:=h;cases h';simp
    | str i=>cases r2;have h':some (i == i)=some b:=h;cases h';simp
    | non=>cases r2;cases h;rfl
    | tup _ _ _=>cases r2 <;> cases h
    | lst _ _ _=>cases r2 <;> cases h
    | fzl _ _ _=>cases r2 <;> cases h
    | obj _ _ _ _=>cases r2 <;> cases h
    | map _ _ _=>cases r2 <;> cases h
  | succ n ih =>
    intro d e b v h r1 r2
    cases r1 with
    | int i=>cases r2;have h':some (i == i)=some b:=h;cases h';simp
    | bl i=>cases r2;have h':some (i == i)=some b:=h;cases h';simp
    | str i=>cases r2;have h':some (i == i)=some b:=h;cases h';simp
    | non=>cases r2;cases h;rfl
    | @tup a vs xs h1 h2 h3=>cases r2 with
      | @tup _ ws ys k1 k2 k3 =>
        have hvw:vs=ws:=I.tuple_inj (.of (sm _ _ h1)) (.of (sm _ _ k1))
        subst hvw
        obtain ⟨g,hg,hb⟩:=qc8 (show cmL (cmB n) xs ys=some b from h)
        rw [hb,qns fun j hj=>?_]
        · simp;omega
        · have j0:j<vs.length:=by omega
          have j1:j<xs.length:=by omega
          have j2:j<ys.length:=by omega
          exact ih (hg j _ _ (qao j1) (qao j2)) (h3 j _ _ (qao j0) (qao j1)) (k3 j _ _ (qao j0) (qao j2))
      | _=>cases h
    | @lst a vs xs h1 h2 h3=>cases r2 with
      | @lst _ ws ys k1 k2 k3 =>
        have hvw:vs=ws:=by rw [h1] at k1;cases k1;rfl
        subst hvw
        have h':(if xs.length=ys.length then cmL (cmB n) xs ys else some false)=some b:=h
        rw [if_pos (by omega)] at h'
        obtain ⟨g,hg,hb⟩:=qc8 h'
        rw [hb,qns fun j hj=>?_]
        · simp;omega
        · have j0:j<vs.length:=by omega
          have j1:j<xs.length:=by omega
          have j2:j<ys.length:=by omega
          exact ih (hg j _ _ (qao j1) (qao j2)) (h3 j _ _ (qao j0) (qao j1)) (k3 j _ _ (qao j0) (qao j2))
      | _=>cases h
    | fzl _ _ _=>cases r2 <;> cases h
    | obj _ _ _ _=>cases r2 <;> cases h
    | map _ _ _=>cases r2 <;> cases h
open PySem.SeqAt in
theorem qj0 {n:Nat} {d e:D} {b:Bool} {x y:V} (h:cmB n d e=some b) (rx:Rp K Φ d x) (ry:Rp K Φ e y) (hf:(∀ a,x≠.ref a)) {A:Around} {u v:Value} (ru:RelV x u) (rv:RelV y v):EqAt A s u v b∧RcAt A s u v b∧RcNeAt A s u v (!b):=by
  cases rx with
  | int i=>cases ry with
    | int j =>
      obtain ⟨t,rfl⟩:=ru;obtain ⟨t',rfl⟩:=rv
      have h':some (i == j)=some b:=by cases n <;> exact h
      cases h'
      exact ⟨EqAt.int_int i t j t',RcAt.int_int i t j t',RcNeAt.int_int i t j t'⟩
    | _=>cases n <;> cases h
  | bl i=>cases ry with
    | bl j =>
      cases ru;cases rv
      have h':some (i == j)=some b:=by cases n <;> exact h
      cases h'
      exact ⟨EqAt.bool_bool i j,RcAt.bool_bool i j,RcNeAt.bool_bool i j⟩
    | _=>cases n <;> cases h
  | str i=>cases ry with
    | str j =>
      obtain ⟨t,rfl⟩:=ru;obtain ⟨t',rfl⟩:=rv
      have h':some (i == j)=some b:=by cases n <;> exact h
      cases h'
      exact ⟨EqAt.str_str i t j t',RcAt.str_str i t j t',RcNeAt.str_str i t j t'⟩
    | _=>cases n <;> cases h
  | non=>cases ry with
    | non =>
      cases ru;cases rv
      have h':some true=some b:=by cases n <;> exact h
      cases h'
      exact ⟨EqAt.same _,RcAt.none_none,RcNeAt.none_none⟩
    | _=>cases n <;> cases h
  | tup _ _ _=>exact absurd rfl (hf _)
  | lst _ _ _=>exact absurd rfl (hf _)
  | fzl _ _ _=>exact absurd rfl (hf _)
  | obj _ _ _ _=>exact absurd rfl (hf _)
  | map _ _ _=>exact absurd rfl (hf _)
open PySem.SeqAt in
theorem qj1 (hK:X.K=K) (I:Inv X pins σ H s) (sm:Same Φ H):∀ (n:Nat) {d e:D} {b:Bool} {x y:V},cmB n d e=some b→Rp K Φ d x→Rp K Φ e y →
    ∀ (A:Around) (u v:Value),A.units+n<cLine→RelV x u→RelV y v→EqAt A s u v b∧RcAt A s u v b∧RcNeAt A s u v (!b):=by
  intro n
  induction n with
  | zero =>
    intro d e b x y h rx ry A u v hu ru rv
    refine qj0 h rx ry (fun a ea=>?_) ru rv
    subst ea
    cases rx <;> cases ry <;> cases h
  | succ n ih =>
    intro d e b x y h rx ry A u v hu ru rv
    by_cases hf:∀ a,x≠.ref a
    · exact qj0 h rx ry hf ru rv
    have hu':A.units<cLine:=by omega
    cases rx with
    | int i=>exact absurd (fun a e=>nomatch e) hf
    | bl i=>exact absurd (fun a e=>nomatch e) hf
    | str i=>exact absurd (fun a e=>nomatch e) hf
    | non=>exact absurd (fun a e=>nomatch e) hf
    | @tup a vs xs h1 h2 h3=>cases ry with
      | @tup c ws ys k1 k2 k3 =>
        cases ru;cases rv
        obtain ⟨g,hg,hb⟩:=qc8 (show cmL (cmB n) xs ys=some b from h)
        obtain ⟨its,r1,p1,_⟩:=I.sqb (b:=false) (show SqT X.K H a vs from .of (sm _ _ h1))
        obtain ⟨its',r2,p2,_⟩:=I.sqb (b:=false) (show SqT X.K H c ws from .of (sm _ _ k1))
        have l1:=Vals.length r1
        have l2:=Vals.length r2
        have he:∀ j (j1:j<its.toArray.size) (j2:j<its'.toArray.size),EqAt A.in1 s its.toArray[j] its'.toArray[j] (g j):=by
          intro j j1 j2
          simp only [List.size_toArray] at j1 j2
          obtain ⟨x,hx,rx⟩:=Vals.get' r1 j1
          obtain ⟨y,hy,ry⟩:=Vals.get' r2 j2
          have i1:j<xs.length:=by omega
          have i2:j<ys.length:=by omega
          exact (ih (hg j _ _ (qao i1) (qao i2)) (h3 j x _ hx (qao i1)) (k3 j y _ hy (qao i2)) A.in1 _ _ (by show A.units+1+n<cLine;omega) rx ry).1
        have R:=RcAt.tuples (e:=g) p1 p2 hu' he
        have R':=RcNeAt.tuples (e:=g) p1 p2 hu' he
        have et:((List.range (min its.toArray.size its'.toArray.size)).all g && its.toArray.size == its'.toArray.size)=b:=by
          rw [hb]
          simp only [List.size_toArray]
          rw [← l1,← l2,h2,k2]
        rw [et] at R R'
        refine ⟨?_,R,R'⟩
        by_cases hab:a=c
        · subst hab
          rw [qjG hK I sm (n+1) h (.tup h1 h2 h3) (.tup k1 k2 k3)];exact EqAt.same _
        · exact EqAt.of_refs hab R
      | _=>cases h
    | @lst a vs xs h1 h2 h3=>cases ry with
      | @lst c ws ys k1 k2 k3 =>
        cases ru;cases rv
        have h':(if xs.length=ys.length then cmL (cmB n) xs ys else some false)=some b:=h
        obtain ⟨its,r1,p1,_⟩:=I.sqb (b:=true) (show SqL X.K H a vs from SqL.of (sm _ _ h1))
        obtain ⟨its',r2,p2,_⟩:=I.sqb (b:=true) (show SqL X.K H c ws from SqL.of (sm _ _ k1))
        have l1:=Vals.length r1
        have l2:=Vals.length r2
        have fin:RcAt A s (.ref a) (.ref c) b∧RcNeAt A s (.ref a) (.ref c) (!b):=by
          by_cases hl:xs.length=ys.length
          · rw [if_pos hl] at h'
            obtain ⟨g,hg,hb⟩:=qc8 h'
            have he:∀ j (j1:j<its.toArray.size) (j2:j<its'.toArray.size),EqAt A.in1 s its.toArray[j] its'.toArray[j] (g j):=by
              intro j j1 j2
              simp only [List.size_toArray] at j1 j2
              obtain ⟨x,hx,rx⟩:=Vals.get' r1 j1
              obtain ⟨y,hy,ry⟩:=Vals.get' r2 j2
              have i1:j<xs.length:=by omega
              have i2:j<ys.length:=by omega
              exact (ih (hg j _ _ (qao i1) (qao i2)) (h3 j x _ hx (qao i1)) (k3 j y _ hy (qao i2)) A.in1 _ _ (by show A.units+1+n<cLine;omega) rx ry).1
            have hsz:its.toArray.size=its'.toArray.size:=by simp;omega
            have R:=RcAt.lists (e:=g) p1 p2 hsz hu' he
            have R':=RcNeAt.lists (e:=g) p1 p2 hsz hu' he
            have et:(List.range its.toArray.size).all g=b:=by
              have e1:min xs.length ys.length=its.length:=by omega
              have e2:(xs.length == ys.length)=true:=by simp [hl]
              rw [hb,e1,e2,Bool.and_true,List.size_toArray]
            rw [et] at R R'
            exact ⟨R,R'⟩
          · rw [if_neg hl] at h'
            cases h'
            have hsz:(its.toArray.size != its'.toArray.size)=true:=by simp;omega
            exact ⟨RcAt.lists_lengths p1 p2 hsz hu',RcNeAt.lists_lengths p1 p2 hsz hu'⟩
        refine ⟨?_,fin.1,fin.2⟩
        by_cases hab:a=c
        · subst hab
          rw [qjG hK I sm (n+1) h (.lst h1 h2 h3) (.lst k1 k2 k3)];exact EqAt.same _
        · exact EqAt.of_refs hab fin.1
      | _=>cases h
    | fzl _ _ _=>cases ry <;> cases h
    | obj _ _ _ _=>cases ry <;> cases h
    | map _ _ _=>cases ry <;> cases h
end
def zEq:RD2:=fun x y R=>match cmB 40 x y with | some b=>R (.bl b) | none=>False
def zNe:RD2:=fun x y R=>match cmB 40 x y with | some b=>R (.bl (!b)) | none=>False
section
variable {K : PySem.W.Frag} {X : Cx}
theorem RpQ.any {Φ H:Hp} {d:D} {v:V} (h:RpQ K Φ H d v) (s:Same Φ H):Rp K H d v:=by
  rcases h with h | ⟨a,vs,ds,e,e2,h1,h2⟩
  · exact h.same s
  · subst e e2;exact (h2.same s).lst h1
theorem qfO (hu:X.A.units+64<cLine):OpD K X (compareOp .Eq) zEq:=⟨fun hK pins s σ H x y u v Q I rx ry hq0=>by
  obtain ⟨Φ,dx,dy,R,sm,hx,hy,h,k⟩:=hq0
  unfold zEq at h
  split at h
  · next b hb=>exact (qj1 hK I (Same.refl H) 40 hb (hx.any sm) (hy.any sm) X.A u v (by omega) rx ry).2.1 X.prog X.w _ _ ⟨.bl b,H,I,rfl,k _ Φ H _ h (.refl sm) (.bl b)⟩
  · exact h.elim⟩
theorem qlv (hu:X.A.units+64<cLine):OpD K X (compareOp .NotEq) zNe:=⟨fun hK pins s σ H x y u v Q I rx ry hq0=>by
  obtain ⟨Φ,dx,dy,R,sm,hx,hy,h,k⟩:=hq0
  unfold zNe at h
  split at h
  · next b hb=>exact (qj1 hK I (Same.refl H) 40 hb (hx.any sm) (hy.any sm) X.A u v (by omega) rx ry).2.2 X.prog X.w _ _ ⟨.bl (!b),H,I,rfl,k _ Φ H _ h (.refl sm) (.bl _)⟩
  · exact h.elim⟩
def qlc:D→Bool
  | .non=>true
  | _=>false
def zIs (neg:Bool):RD2:=fun x y R=>match y with | .non=>R (.bl (qlc x != neg)) | .bl b=>(match x with | .bl a=>R (.bl ((a == b) != neg)) | _=>False) | _=>False
theorem qjH {Φ H:Hp} {d:D} {v:V} (h:RpQ K Φ H d v):decide (v=V.non)=qlc d:=by
  cases d with
  | int i=>rw [h.int];rfl
  | bl i=>rw [h.bl];rfl
  | str i=>rw [h.str];rfl
  | non=>rw [h.non];rfl
  | tup ds => rcases h with h | ⟨a, vs, ds, e, _⟩
              · cases h;rfl
              · cases e
  | lst ds => rcases h with h | ⟨a, vs, ds, e, e2, _⟩
              · cases h;rfl
              · rw [e2];rfl
  | fzl ds => rcases h with h | ⟨a, vs, ds, e, _⟩
              · cases h;rfl
              · cases e
  | obj C fs => rcases h with h | ⟨a, vs, ds, e, _⟩
                · cases h;rfl
                · cases e
  | map kvs => rcases h with h | ⟨a, vs, ds, e, _⟩
               · cases h;rfl
               · cases e
theorem qqB:OpD K X (compareOp .Is) (zIs false):=⟨fun hK pins s σ H x y u v Q I rx ry hq0=>by
  obtain ⟨Φ,dx,dy,R,sm,hx,hy,h,k⟩:=hq0
  cases dy with
  | non =>
    cases hy.non
    refine qoO pins s σ H _ _ u v Q I rx ry ⟨rfl,?_⟩
    rw [qjH hx]
    have h':R (.bl (qlc dx != false)):=h
    rw [Bool.bne_false] at h'
    exact k _ Φ H _ h' (.refl sm) (.bl _)
  | bl b =>
    cases hy.bl
    cases dx with
    | bl a =>
      cases hx.bl
      have h':R (.bl ((a == b) != false)):=h
      rw [Bool.bne_false] at h'
      exact qne pins s σ H _ _ u v Q I rx ry ⟨a,b,rfl,rfl,k _ Φ H _ h' (.refl sm) (.bl _)⟩
    | _=>exact h.elim
  | _=>exact h.elim⟩
theorem qlY:OpD K X (compareOp .IsNot) (zIs true):=⟨fun hK pins s σ H x y u v Q I rx ry hq0=>by
  obtain ⟨Φ,dx,dy,R,sm,hx,hy,h,k⟩:=hq0
  cases dy with
  | non =>
    cases hy.non
    refine qmQ pins s σ H _ _ u v Q I rx ry ⟨rfl,?_⟩
    rw [qjH hx]
    have h':R (.bl (qlc dx != true)):=h
    rw [Bool.bne_true] at h'
    exact k _ Φ H _ h' (.refl sm) (.bl _)
  | bl b =>
    cases hy.bl
    cases dx with
    | bl a =>
      cases hx.bl
      have h':R (.bl ((a == b) != true)):=h
      rw [Bool.bne_true] at h'
      exact qmR pins s σ H _ _ u v Q I rx ry ⟨a,b,rfl,rfl,k _ Φ H _ h' (.refl sm) (.bl _)⟩
    | _=>exact h.elim
  | _=>exact h.elim⟩
end
end L2
namespace HT
open PySem PySem.Spec PyProof.Rows
theorem getItem_tuple_all {prog:Program} {w:World} {A:Around} {E:Value→Shared→Prop} {s:Shared} {t sl:Addr} {items:Array Value} {vl vu:Value} {lo hi:Option Int} {Q:Value→Shared→Prop} (ht:IsTup s.heap t items) (hs:s.heap.IsSliceOf sl vl vu .none) (pl:IsPart vl lo) (pu:IsPart vu hi)
    (hw:sIx items.size 0 lo=0∧sIx items.size items.size hi=items.size) (h:Q (.ref t) s):wpAny (model prog w) A (getItem (.ref t) (.ref sl)) Q E s:=by
  obtain ⟨os,hos,hcs,hds⟩:=id hs
  have hTs:s.TypeIs (.ref sl) "slice":=⟨os,hos,hcs⟩
  unfold getItem
  try with_reducible refine wpAny_holding ?_
  first | refine wpAny_bind (wpAny_pure ?_) | skip
  refine wpAny_bind (wpAny_sequenceKey ht.typeIs (by decide) ?_)
  refine wpAny_bind (wpAny_callSpecial?_slot (name:=Str.ofString "__getitem__") ht.typeIs PyProof.Rows.slot_tuple_getitem
    (wpAny_call_entry PyProof.Rows.slot_tuple_getitem ht.typeIs entry_tuple_getitem ?_ (args_tuple_getitem _ _)))
  show wpAny _ _ (Builtin.Tuple.tupleItemsOf (.ref t) >>= _) _ _ s
  refine wpAny_bind (tupleItemsOf_ ht ?_)
  refine wpAny_bind (wpAny_typeOf hTs ?_)
  rw [if_pos (by decide)]
  refine wpAny_bind (qcr hs pl pu ?_)
  have hyes:(((sIx items.size 0 lo:Nat):Int) == 0 && (1:Int) == 1 && (sIx items.size items.size hi - sIx items.size 0 lo) == items.size)=true:=by
    rw [hw.1,hw.2]
    simp
  show wpAny _ _ (if (((sIx items.size 0 lo:Nat):Int) == 0 && (1:Int) == 1 && (sIx items.size items.size hi - sIx items.size 0 lo) == items.size)=true then _ else _) _ _ s
  rw [if_pos hyes]
  refine wpAny_bind (show wpAny _ _ (typeOf (.ref t) >>= fun c=>pure (c == .type "tuple")) _ _ s from wpAny_bind (wpAny_typeOf ht.typeIs (wpAny_pure ?_)))
  rw [if_pos (by decide)]
  exact wpAny_bind (wpAny_rule (wpAny_pure ⟨_,rfl,wpAny_pure h⟩))
end HT
namespace L2
open PySem PySem.Spec PyProof.Rows
section
variable {K : PySem.W.Frag} {X : Cx} {e a b c : Expr} {es : List Expr} {pos p2 : Pos} {t ta tb : TD} {tf : TDL} {tl : TDL} {tt tu : TDB}
def zIx:RD2:=fun x y R=>match y with
  | .int i=>(match x with
    | .lst ds=>∃ d,atI ds i=some d∧R d
    | .tup ds=>∃ d,atI ds i=some d∧R d
    | .fzl ds=>∃ d,atI ds i=some d∧R d
    | .str z=>z.length≤sizeLine∧∃ c,atI z.cps.toList i=some c∧R (.str ⟨#[c]⟩)
    | _=>False)
  | _=>False
theorem qlG {Φ:Hp} {ds:List D} {vs:List V} {d:D} {i:Int} (h:RpL K Φ ds vs) (e:atI ds i=some d):∃ v,atI vs i=some v∧Rp K Φ d v:=by
  unfold atI at e ⊢
  rw [h.1]
  cases hj:ixN ds.length i with
  | none=>rw [hj] at e;cases e
  | some j =>
    rw [hj,Option.bind_some] at e
    rw [Option.bind_some]
    exact h.at e
theorem qqa (hK:X.K=K):IxR X (lR2 K zIx):=by
  intro value slice pins s σ H x y v u Q I rx ry ⟨Φ,dx,dy,R,sm,hx,hy,h,k⟩ hs
  cases dy with
  | int i =>
    cases hy.int
    cases dx with
    | lst ds =>
      obtain ⟨d,h1,h2⟩:=h
      obtain ⟨a,vs,rfl,q1,q2⟩:=hx.lst sm
      obtain ⟨w,hw,rw'⟩:=qlG q2 h1
      exact qjP value slice pins s σ H _ _ v u Q I rx ry ⟨a,vs,i,w,rfl,rfl,.of q1,hw,k _ Φ H _ h2 (.refl sm) rw'⟩ hs
    | tup ds =>
      obtain ⟨d,h1,h2⟩:=h
      obtain ⟨a,vs,rfl,q1,_,q2⟩:=hx.tup sm
      obtain ⟨w,hw,rw'⟩:=qlG q2 h1
      exact qnx value slice pins s σ H _ _ v u Q I rx ry ⟨a,vs,i,w,rfl,rfl,hK ▸ q1,hw,k _ Φ H _ h2 (.refl sm) rw'⟩ hs
    | fzl ds =>
      obtain ⟨d,h1,h2⟩:=h
      obtain ⟨a,vs,rfl,q1,q2⟩:=hx.fzl sm
      obtain ⟨w,hw,rw'⟩:=qlG q2 h1
      exact qjP value slice pins s σ H _ _ v u Q I rx ry ⟨a,vs,i,w,rfl,rfl,hK ▸ q1,hw,k _ Φ H _ h2 (.refl sm) rw'⟩ hs
    | str z =>
      obtain ⟨h0,c,h1,h2⟩:=h
      cases hx.str
      exact qou value slice pins s σ H _ _ v u Q I rx ry ⟨z,i,c,rfl,rfl,h0,h1,k _ Φ H _ h2 (.refl sm) (.str _)⟩ hs
    | _=>exact h.elim
  | _=>exact h.elim
theorem qaI (ha:PQ K X a ta) (hb:PQ K X b tb) (hs:qhn b):PD K X (.Subscript a b pos) (dOp zIx ta tb) :=
  ⟨fun hK=>(qoo (qqa hK) (ha.pe hK) (hb.pe hK) hs).imp fun _ _ _=>qfg⟩
abbrev TOD:=Rho→(Option Int→Prop)→Prop
def lO (K:PySem.W.Frag) (t:TOD):TO:=fun σ H Q=>∃ H0 Φ ρ R,EnvD K H0 Φ H σ ρ∧t ρ R∧∀ o Φ' H',R o→Gr Φ H Φ' H'→Q o H'
structure POD (K:PySem.W.Frag) (X:Cx) (e:Option Expr) (t:TOD):Prop where po:X.K=K→PO X e (lO K t)
def qpC:TOD:=fun _ R=>R none
def qpP (t:TD):TOD:=fun ρ R=>t ρ fun d=>match d with | .int i=>R (some i) | _=>False
theorem PO.imp {o:Option Expr} {t t':TO} (h:PO X o t) (k:∀ σ H Q,t' σ H Q→t σ H Q):PO X o t':=fun pins s σ H Q I hw=>h pins s σ H Q I (k σ H Q hw)
theorem qjI:POD K X none qpC:=⟨fun _=>po_none.imp fun σ H Q hq0=>by obtain ⟨H0,Φ,ρ,R,E,t,k⟩:=hq0;exact k none Φ H t (.refl E.fz)⟩
theorem qfT (h:PQ K X e t):POD K X (some e) (qpP t):=⟨fun hK=>(qms (h.pe hK)).imp fun σ H Q hq0=>by obtain ⟨H0,Φ,ρ,R,E,t,k⟩:=hq0;exact ⟨H0,Φ,ρ,_,E,t,fun d Φ1 H1 v r g rv=>by
  cases d with
  | int i=>exact ⟨i,rv.int,k _ Φ1 H1 r g⟩
  | _=>exact r.elim⟩⟩
variable {lo hi : Option Expr} {to tp : TOD}
def qqu (K:PySem.W.Frag):V→Option Int→Option Int→Hp→VK→Prop:=fun x lo hi H Q=>∃ a xs,x=.ref a∧SqT K H a xs∧(HT.sIx xs.length 0 lo=0∧HT.sIx xs.length xs.length hi=xs.length)∧Q (.ref a) H
theorem sl_all:SlR X (qqu X.K):=by
  intro pins s σ H x v vl vu lo hi sl Q I rx hs pl pu h
  obtain ⟨a,xs,rfl,hx,hw,q⟩:=h
  cases rx
  obtain ⟨its,r,ht,hz⟩:=I.tuple hx
  have hlen:its.toArray.size=xs.length:=by rw [List.size_toArray];exact r.length.symm
  refine ⟨"tuple",_,PyProof.Rows.slot_tuple_getitem.lookup,ht.typeIs,?_⟩
  exact HT.getItem_tuple_all ht hs pl pu (by rw [hlen];exact hw) ⟨.ref a,H,I,rfl,q⟩
theorem qmL {α:Type} {xs:List α} {l h:Option Int} (hw:HT.sIx xs.length 0 l=0∧HT.sIx xs.length xs.length h=xs.length):qeM xs l h=xs:=by
  unfold qeM
  rw [hw.1,hw.2,List.drop_zero,Nat.sub_zero,List.take_length]
def zSl (x:D) (l h:Option Int) (R:D→Prop):Prop:=match x with
  | .lst ds=>NF (qeM ds l h) fun zs=>R (.lst zs)
  | .fzl ds=>NF (qeM ds l h) fun zs=>R (.lst zs)
  | .tup ds=>NF (qeM ds l h) fun zs=>R (.tup zs)
  | .str z=>z.length≤sizeLine∧NF (qjp z l h) fun y=>R (.str y)
  | _=>False
def dSl (t:TD) (to tp:TOD):TD:=fun ρ R=>t ρ fun x=>to ρ fun l=>tp ρ fun h=>zSl x l h R
theorem qo1 (ha:PQ K X a ta) (hl:POD K X lo to) (hh:POD K X hi tp):PD K X (.Subscript a (.Slice lo hi none p2) pos) (dSl ta to tp) :=
  ⟨fun hK=>(qk2 (hK ▸ sl_list.or (sl_tup.or (sl_all.or qnI)):SlR X (fun x lo hi H Q=>qqv K x lo hi H Q∨qqi K x lo hi H Q∨qqu K x lo hi H Q∨qqd x lo hi H Q)) (ha.pe hK) (hl.po hK) (hh.po hK)).imp fun σ H Q hq0=>by obtain ⟨H0,Φ,ρ,R,E,t,k⟩:=hq0;exact
    ⟨H0,Φ,ρ,_,E,t,fun dx Φ1 H1 x t1 g1 rx=>⟨H0,Φ1,ρ,_,E.gr g1,t1,fun l Φ2 H2 t2 g2=>⟨H0,Φ2,ρ,_,(E.gr g1).gr g2,t2,fun h Φ3 H3 t3 g3=>by
      have g:=(g1.trans g2).trans g3
      have rx3:=rx.gr (g2.trans g3)
      cases dx with
      | lst ds =>
        obtain ⟨a,vs,rfl,q1,q2⟩:=rx3.lst g.s
        exact .inl ⟨a,vs,rfl,.of q1,fun p hp=>k _ _ _ _ t3.get (g.trans (.new g.s hp _)) (((q2.cut l h).same (qaG (g.s.free hp) _)).lst qak)⟩
      | fzl ds =>
        obtain ⟨a,vs,rfl,q1,q2⟩:=rx3.fzl g.s
        exact .inl ⟨a,vs,rfl,q1,fun p hp=>k _ _ _ _ t3.get (g.trans (.new g.s hp _)) (((q2.cut l h).same (qaG (g.s.free hp) _)).lst qak)⟩
      | tup ds =>
        obtain ⟨a,vs,rfl,q1,q0,q2⟩:=rx3.tup g.s
        by_cases hw:HT.sIx vs.length 0 l=0∧HT.sIx vs.length vs.length h=vs.length
        · refine .inr (.inr (.inl ⟨a,vs,rfl,q1,hw,?_⟩))
          have e:qeM ds l h=ds:=qmL (by rw [← q2.1];exact hw)
          have t4:=t3.get
          rw [e] at t4
          exact k _ _ _ _ t4 g (q2.tup q0)
        · exact .inr (.inl ⟨a,vs,rfl,q1,hw,fun p hp=>k _ _ _ _ t3.get (g.trans (.new g.s hp _)) (((q2.cut l h).same (qaG (g.s.free hp) _)).tup qak)⟩)
      | str z =>
        cases rx3.str
        exact .inr (.inr (.inr ⟨z,rfl,t3.1,k _ _ _ _ t3.2.get g (.str _)⟩))
      | _=>exact t3.elim⟩⟩⟩⟩
abbrev SpD:=List D→(D→Prop)→Prop
def lSp (K:PySem.W.Frag) (sp:SpD):Sp:=fun vs H Q _=>∃ Φ ds R,Same Φ H∧TabF K Φ∧RpL K Φ ds vs∧sp ds R∧∀ d Φ' H' v,R d→Gr Φ H Φ' H'→Rp K Φ' d v→Q v H'
def qkD (sp:SpD) (t:TDL):TD:=fun ρ R=>t ρ fun ds=>sp ds R
variable {CX : CXT} {k : Nat} {f : Addr} {fd : FuncData} {ps : List Str} {sp : SpD} {x : Str} {p : Pos} {E : XK}
theorem qnF (F:FnOk X.prog X.w X.K X.mg X.base CX k f fd ps (lSp K sp)) (hr:Room k X.A) (hg:Gl X x) (hm:X.mg x=some (.ref f)) (hk:PySem.W.keepIn X.K (.ref f)=true) (hb:Binds X.K fd ps []) (hx:qh5 CX X E)
    (ha:PAD K X (e::es) tl) (he:starEach (e::es) X.env=(false,eval e X.env)::starEach es X.env) (hpl:(backTo pos (starEach es X.env)).any (·.1)=false) (hdb:(x == ("__debug__":Str))=false:=by decide) :
    PD K X (.Call (.Name x p) (e::es) [] pos) (qkD sp tl) :=
  ⟨fun hK=>(qgU F hr hg hm hk hb .nil hx (ha.pa hK) hdb he hpl).imp fun σ H Q hq0=>by obtain ⟨H0,Φ,ρ,R,E,t,k⟩:=hq0;exact ⟨H0,Φ,ρ,_,E,t,fun ds Φ1 H1 vs r g rl _=>⟨Φ1,ds,R,g.s,E.tb.same g.f,by rw [List.append_nil];exact rl,r,fun d Φ' H' v rd g' rv=>k d Φ' H' v rd (g.trans g') rv⟩⟩⟩
def qps (K:PySem.W.Frag) (Φ H:Hp) (ds:List D) (vs:List V):Prop:=vs.length=ds.length∧∀ (i:Nat) (v:V) (d:D),vs[i]?=some v→ds[i]?=some d→RpQ K Φ H d v
def lAQ (K:PySem.W.Frag) (t:TDL):TA:=fun σ H Q=>∃ H0 Φ ρ R,EnvD K H0 Φ H σ ρ∧t ρ R∧∀ ds Φ' H' vs,R ds→Gr Φ H Φ' H'→qps K Φ' H' ds vs→Q vs H'
structure PAQ (K:PySem.W.Frag) (X:Cx) (es:List Expr) (t:TDL):Prop where pa:X.K=K→PA X es (lAQ K t)
theorem qaQ:PAQ K X [] qqh:=⟨fun _=>pa_nil.imp fun σ H Q hq0=>by obtain ⟨H0,Φ,ρ,R,E,t,k⟩:=hq0;exact k [] Φ H [] t (.refl E.fz) ⟨rfl,fun i v d hv _=>by simp at hv⟩⟩
theorem qaB (ha:PQ K X e t) (hr:PAQ K X es tl) (hs:starEach (e::es) X.env=(false,eval e X.env)::starEach es X.env):PAQ K X (e::es) (qof t tl) :=
  ⟨fun hK=>(qbM (ha.pe hK) (hr.pa hK) hs).imp fun σ H Q hq0=>by obtain ⟨H0,Φ,ρ,R,E,t,k⟩:=hq0;exact ⟨H0,Φ,ρ,_,E,t,fun d Φ1 H1 v r g rv=>⟨H0,Φ1,ρ,_,E.gr g,r,fun ds Φ2 H2 vs r2 g2 rl =>
    k _ Φ2 H2 _ r2 (g.trans g2) ⟨by simp [rl.1],fun i u d hu hd=>by
      cases i with
      | zero=>cases hu;cases hd;exact rv.gr g2
      | succ i=>exact rl.2 i u d hu hd⟩⟩⟩⟩
def lC (K:PySem.W.Frag) (r:SpD):List V→Hp→VK→Prop:=fun vs H Q=>∃ Φ ds R,Same Φ H∧qps K Φ H ds vs∧r ds R∧∀ d Φ' H' v,R d→Gr Φ H Φ' H'→Rp K Φ' d v→Q v H'
structure CallD (K:PySem.W.Frag) (X:Cx) (f:Value) (r:SpD):Prop where c:X.K=K→qep X f (lC K r)
theorem qaR {id:String} {r:SpD} (hc:CallD K X (.builtin id) r) (hg:Gl X x) (hm:X.mg x=none) (hv:bootBuiltins x=some (.builtin id)) (ha:PAQ K X (e::es) tl)
    (he:starEach (e::es) X.env=(false,eval e X.env)::starEach es X.env) (hpl:(backTo pos (starEach es X.env)).any (·.1)=false) (hn:x≠"__name__":=by decide) (hdb:(x == ("__debug__":Str))=false:=by decide):PD K X (.Call (.Name x p) (e::es) [] pos) (qkD r tl) :=
  ⟨fun hK=>(qhD (hc.c hK) hg hm hv (ha.pa hK) hn hdb he hpl).imp fun σ H Q hq0=>by obtain ⟨H0,Φ,ρ,R,E,t,k⟩:=hq0;exact ⟨H0,Φ,ρ,_,E,t,fun ds Φ1 H1 vs r g rl=>⟨Φ1,ds,R,g.s,rl,r,fun d Φ' H' v rd g' rv=>k d Φ' H' v rd (g.trans g') rv⟩⟩⟩
theorem qbT {T:String} {r:SpD} (hc:CallD K X (.type T) r) (hg:Gl X x) (hm:X.mg x=none) (hv:bootBuiltins x=some (.type T)) (ha:PAQ K X (e::es) tl)
    (he:starEach (e::es) X.env=(false,eval e X.env)::starEach es X.env) (hpl:(backTo pos (starEach es X.env)).any (·.1)=false) (hn:x≠"__name__":=by decide) (hdb:(x == ("__debug__":Str))=false:=by decide):PD K X (.Call (.Name x p) (e::es) [] pos) (qkD r tl) :=
  ⟨fun hK=>(qfS (hc.c hK) hg hm hv (ha.pa hK) hn hdb he hpl).imp fun σ H Q hq0=>by obtain ⟨H0,Φ,ρ,R,E,t,k⟩:=hq0;exact ⟨H0,Φ,ρ,_,E,t,fun ds Φ1 H1 vs r g rl=>⟨Φ1,ds,R,g.s,rl,r,fun d Φ' H' v rd g' rv=>k d Φ' H' v rd (g.trans g') rv⟩⟩⟩
theorem qcY {Φ H:Hp} {d:D} {vs:List V} (h:qps K Φ H [d] vs):∃ v,vs=[v]∧RpQ K Φ H d v:=by
  obtain ⟨h1,h2⟩:=h
  match vs,h1,h2 with
  | [v],_,h2=>exact ⟨v,rfl,h2 0 v d rfl rfl⟩
def qrh:SpD:=fun ds R=>match ds with | [.lst xs]=>R (.int xs.length) | [.tup xs]=>R (.int xs.length) | [.fzl xs]=>R (.int xs.length) | [.str z]=>z.length≤sizeLine∧R (.int z.length) | _=>False
theorem qb1:CallD K X (.builtin "len") qrh:=⟨fun hK pins s σ H xs us Q I rr hq0=>by
  obtain ⟨Φ,ds,R,sm,hl,h,k⟩:=hq0
  match ds,h with
  | [.lst xs],h =>
    obtain ⟨v,rfl,r⟩:=qcY hl
    obtain ⟨a,vs,rfl,q1,q2⟩:=r.lst sm
    exact qcF pins s σ H _ us Q I rr ⟨a,vs,rfl,.inl (.of q1),by rw [q2.1];exact k _ Φ H _ h (.refl sm) (.int _)⟩
  | [.tup xs],h =>
    obtain ⟨v,rfl,r⟩:=qcY hl
    obtain ⟨a,vs,rfl,q1,_,q2⟩:=r.tup sm
    exact qcF pins s σ H _ us Q I rr ⟨a,vs,rfl,.inr (hK ▸ q1),by rw [q2.1];exact k _ Φ H _ h (.refl sm) (.int _)⟩
  | [.fzl xs],h =>
    obtain ⟨v,rfl,r⟩:=qcY hl
    obtain ⟨a,vs,rfl,q1,q2⟩:=r.fzl sm
    exact qcF pins s σ H _ us Q I rr ⟨a,vs,rfl,.inl (hK ▸ q1),by rw [q2.1];exact k _ Φ H _ h (.refl sm) (.int _)⟩
  | [.str z],h =>
    obtain ⟨v,rfl,r⟩:=qcY hl
    cases r.str
    exact qgP pins s σ H _ us Q I rr ⟨z,rfl,h.1,k _ Φ H _ h.2 (.refl sm) (.int _)⟩⟩
theorem qmn {Φ:Hp} {ns:List Int} {vs:List V} (h:RpL K Φ (ns.map D.int) vs):vs=ns.map V.int:=by
  refine List.ext_getElem? fun i=>?_
  rw [List.getElem?_map]
  cases e:ns[i]? with
  | none =>
    have:=List.getElem?_eq_none_iff.mp e
    rw [List.getElem?_eq_none (by rw [h.1,List.length_map];exact this)]
    rfl
  | some n =>
    obtain ⟨v,hv,r⟩:=h.at (i:=i) (d:=.int n) (by rw [List.getElem?_map,e];rfl)
    cases r
    rw [hv]
    rfl
theorem RpQ.sqb {Φ H:Hp} {d:D} {v:V} {ds:List D} (s:Same Φ H) (h:RpQ K Φ H d v) (e:qfc d=some ds):∃ (q:Bool) (a:Addr) (vs:List V),v=.ref a∧SqB K q H a vs∧RpL K Φ ds vs:=by
  obtain ⟨a,vs,e1,h1,h2⟩:=h.seq s e
  rcases h1 with h1 | h1
  · exact ⟨true,a,vs,e1,h1,h2⟩
  · exact ⟨false,a,vs,e1,h1,h2⟩
def qrf:SpD:=fun ds R=>match ds with | [d]=>∃ ns:List Int,qfc d=some (ns.map D.int)∧R (.int ns.sum) | _=>False
theorem qnC (hc:X.calm=true):CallD K X (.builtin "sum") qrf:=⟨fun hK pins s σ H xs us Q I rr hq0=>by
  obtain ⟨Φ,ds,R,sm,hl,h,k⟩:=hq0
  match ds,h with
  | [d],⟨ns,e,h⟩ =>
    obtain ⟨v,rfl,r⟩:=qcY hl
    obtain ⟨q,a,vs,rfl,q1,q2⟩:=r.sqb sm e
    rw [qmn q2] at q1
    exact qkn q hc pins s σ H _ us Q I rr ⟨a,ns,rfl,hK ▸ q1,k _ Φ H _ h (.refl sm) (.int _)⟩⟩
def qnW:SpD:=fun ds R=>match ds with | [.lst xs]=>R (.tup xs) | [.tup xs]=>R (.tup xs) | [.fzl xs]=>R (.tup xs) | _=>False
theorem qc9:CallD K X (.type "tuple") qnW:=⟨fun hK pins s σ H xs us Q I rr hq0=>by
  obtain ⟨Φ,ds,R,sm,hl,h,k⟩:=hq0
  match ds,h with
  | [.lst xs],h =>
    obtain ⟨v,rfl,r⟩:=qcY hl
    obtain ⟨a,vs,rfl,q1,q2⟩:=r.lst sm
    exact qch pins s σ H _ us Q I rr ⟨a,vs,rfl,.inl ⟨.of q1,fun p hp=>k _ _ _ _ h (.new sm hp _) ((q2.same (qaG (sm.free hp) _)).tup qak)⟩⟩
  | [.fzl xs],h =>
    obtain ⟨v,rfl,r⟩:=qcY hl
    obtain ⟨a,vs,rfl,q1,q2⟩:=r.fzl sm
    exact qch pins s σ H _ us Q I rr ⟨a,vs,rfl,.inl ⟨hK ▸ q1,fun p hp=>k _ _ _ _ h (.new sm hp _) ((q2.same (qaG (sm.free hp) _)).tup qak)⟩⟩
  | [.tup xs],h =>
    obtain ⟨v,rfl,r⟩:=qcY hl
    obtain ⟨a,vs,rfl,q1,q3,q2⟩:=r.tup sm
    exact qch pins s σ H _ us Q I rr ⟨a,vs,rfl,.inr ⟨hK ▸ q1,k _ Φ H _ h (.refl sm) (q2.tup q3)⟩⟩⟩
def qq7:SpD:=fun ds R=>match ds with | [.int i]=>R (.int i) | [.bl b]=>R (.int (if b then 1 else 0)) | _=>False
theorem qpi:CallD K X (.type "int") qq7:=⟨fun hK pins s σ H xs us Q I rr hq0=>by
  obtain ⟨Φ,ds,R,sm,hl,h,k⟩:=hq0
  match ds,h with
  | [.int i],h =>
    obtain ⟨v,rfl,r⟩:=qcY hl
    cases r.int
    exact qgt pins s σ H _ us Q I rr (.inl ⟨i,rfl,k _ Φ H _ h (.refl sm) (.int _)⟩)
  | [.bl b],h =>
    obtain ⟨v,rfl,r⟩:=qcY hl
    cases r.bl
    exact qgt pins s σ H _ us Q I rr (.inr ⟨b,rfl,k _ Φ H _ h (.refl sm) (.int _)⟩)⟩
def qnf (d:D) (T:String):Option Bool:=match d with
  | .int _=>if T="int" then some true else if T="bool" then some false else if T="tuple" then some false else if T="str" then some false else none
  | .bl _=>if T="int" then some true else if T="bool" then some true else if T="tuple" then some false else none
  | .str _=>if T="str" then some true else if T="tuple" then some false else none
  | .tup _=>if T="tuple" then some true else if T="int" then some false else none
  | .lst _=>if T="tuple" then some false else if T="list" then some true else none
  | _=>none
end
structure SteadyD (K:PySem.W.Frag) (J:It) (Φ:Hp) (ds:List D):Prop where
  go:∀ i H,Same Φ H→i<ds.length→J.go i H
  yl:∀ i Φ2 H x H2 d,Same Φ Φ2→Same Φ2 H→ds[i]?=some d→J.yld i H x H2→∃ Φ3,Gr Φ2 H Φ3 H2∧Rp K Φ3 d x
  stop:∀ H,Same Φ H→J.stop ds.length H
section
variable {K : PySem.W.Frag} {Φ : Hp} {ds es : List D} {vs ws : List V} {a : Addr}
theorem qf7 (h:SqL K Φ a vs) (r:RpL K Φ ds vs):SteadyD K (Itl K a) Φ ds :=
  ⟨fun i H s hi=>⟨vs,vs[i]'(by rw [r.1];exact hi),s.seq h,qao _⟩,fun i Φ2 H x H2 d s2 s hd y=>by
    obtain ⟨e,y⟩:=y
    subst e
    exact ⟨Φ2,.refl s,(r.2 i x d (y vs ((s2.trans s).seq h)) hd).same s2⟩,fun H s=>⟨vs,s.seq h,by rw [r.1];exact Nat.le_refl _⟩⟩
theorem qgV (h:SqT K Φ a vs) (r:RpL K Φ ds vs):SteadyD K (Itt K a) Φ ds :=
  ⟨fun i H s hi=>⟨vs,vs[i]'(by rw [r.1];exact hi),s.sqt h,qao _⟩,fun i Φ2 H x H2 d s2 s hd y=>by
    obtain ⟨e,y⟩:=y
    subst e
    exact ⟨Φ2,.refl s,(r.2 i x d (y vs ((s2.trans s).sqt h)) hd).same s2⟩,fun H s=>⟨vs,s.sqt h,by rw [r.1];exact Nat.le_refl _⟩⟩
def qed (lo:Int) (n:Nat):List D:=(List.range n).map fun i=>D.int (lo+(i:Nat))
theorem qaY (lo:Int) (n:Nat):(qed lo n).length=n:=by unfold qed;simp
theorem qbx {lo:Int} {n i:Nat} {d:D} (h:(qed lo n)[i]?=some d):i<n∧d=.int (lo+(i:Nat)):=by
  have hi:i<n:=by have:=qai h;rwa [qaY] at this
  unfold qed at h
  rw [List.getElem?_map,List.getElem?_range hi] at h
  cases h
  exact ⟨hi,rfl⟩
theorem qdl {lo:Int} {n:Nat}:SteadyD K (Itr lo n) Φ (qed lo n) :=
  ⟨fun i H s hi=>by rw [qaY] at hi;exact hi,fun i Φ2 H x H2 d s2 s hd y=>by
    obtain ⟨e,y⟩:=y
    subst e y
    rw [(qbx hd).2]
    exact ⟨Φ2,.refl s,.int _⟩,fun H s=>by rw [qaY];exact Nat.le_refl n⟩
def qdW (ds:List D):List D:=ds.zipIdx.map fun p=>.tup [.int (p.2:Nat),p.1]
theorem qf9 (ds:List D):(qdW ds).length=ds.length:=by unfold qdW;simp
theorem qfB {i:Nat} {d:D} (h:(qdW ds)[i]?=some d):∃ e,ds[i]?=some e∧d=.tup [.int (i:Nat),e]:=by
  unfold qdW at h
  rw [List.getElem?_map,List.getElem?_zipIdx] at h
  cases e:ds[i]? with
  | none=>rw [e] at h;cases h
  | some x=>rw [e] at h;cases h;exact ⟨x,rfl,by simp⟩
theorem Rp.pair {H:Hp} {t:Addr} {d e:D} {x y:V} (h:H t=some (.tup [x,y])) (r1:Rp K H d x) (r2:Rp K H e y):Rp K H (.tup [d,e]) (.ref t):=(RpL.cons r1 (.one r2)).tup h
theorem qgh {b:Bool} (h:SqB K b Φ a vs) (r:RpL K Φ ds vs):SteadyD K (Ite K b a) Φ (qdW ds) :=
  ⟨fun i H s hi=>by rw [qf9] at hi;exact ⟨vs,vs[i]'(by rw [r.1];exact hi),SqB.same s h,qao _⟩,fun i Φ2 H x H2 d s2 s hd y=>by
    obtain ⟨t,v,hn,e,e',y⟩:=y
    subst e e'
    obtain ⟨e,he,rfl⟩:=qfB hd
    have rv:=(r.2 i v e (y vs (SqB.same (s2.trans s) h)) he).same (s2.trans (qaG (s.free hn) (.tup [.int i,v])))
    exact ⟨_,.new s hn _,.pair qak (.int _) rv⟩,fun H s=>by rw [qf9];exact ⟨vs,SqB.same s h,by rw [r.1];exact Nat.le_refl _⟩⟩
def qm0 (ds es:List D):List D:=List.zipWith (fun x y=>.tup [x,y]) ds es
theorem qhV (ds es:List D):(qm0 ds es).length=min ds.length es.length:=by unfold qm0;simp
theorem qj3 {i:Nat} {d:D} (h:(qm0 ds es)[i]?=some d):∃ x y,ds[i]?=some x∧es[i]?=some y∧d=.tup [x,y]:=by
  unfold qm0 at h
  rw [List.getElem?_zipWith] at h
  cases e:ds[i]? with
  | none=>rw [e] at h;cases h
  | some x =>
    cases e2:es[i]? with
    | none=>rw [e,e2] at h;cases h
    | some y=>rw [e,e2] at h;cases h;exact ⟨x,y,rfl,rfl,rfl⟩
theorem qg6 {b1 b2:Bool} {a1 a2:Addr} (h1:SqB K b1 Φ a1 vs) (h2:SqB K b2 Φ a2 ws) (r1:RpL K Φ ds vs) (r2:RpL K Φ es ws):SteadyD K (Itz K b1 a1 b2 a2) Φ (qm0 ds es) :=
  ⟨fun i H s hi=>by
    rw [qhV] at hi
    have i1:i<vs.length:=by rw [r1.1];omega
    have i2:i<ws.length:=by rw [r2.1];omega
    exact ⟨vs,ws,vs[i],ws[i],SqB.same s h1,SqB.same s h2,qao i1,qao i2⟩,fun i Φ2 H x H2 d s2 s hd y=>by
    obtain ⟨t,u,v,hn,e,e',y1,y2⟩:=y
    subst e e'
    obtain ⟨p,q,hp,hq,rfl⟩:=qj3 hd
    have sn:=s2.trans (qaG (s.free hn) (.tup [u,v]))
    exact ⟨_,.new s hn _,.pair qak ((r1.2 i u p (y1 vs (SqB.same (s2.trans s) h1)) hp).same sn) ((r2.2 i v q (y2 ws (SqB.same (s2.trans s) h2)) hq).same sn)⟩,fun H s=>by
    rw [qhV]
    exact ⟨vs,ws,SqB.same s h1,SqB.same s h2,by rw [r1.1,r2.1];omega⟩⟩
end
def lI (K:PySem.W.Frag) (t:TDL):TI:=fun σ H R'=>∃ H0 Φ ρ R,EnvD K H0 Φ H σ ρ∧t ρ R∧∀ ds Φ' H' J,R ds→Gr Φ H Φ' H'→SteadyD K J Φ' ds→R' J H'
structure PID (K:PySem.W.Frag) (X:Cx) (tg e:Expr) (t:TDL):Prop where pi:X.K=K→PI X tg e (lI K t)
theorem PI.imp {X:Cx} {tg e:Expr} {t t':TI} (h:PI X tg e t) (k:∀ σ H R,t' σ H R→t σ H R):PI X tg e t':=fun pins s σ H R I hw=>h pins s σ H R I (k σ H R hw)
section
variable {K : PySem.W.Frag} {X : Cx} {tg e a b : Expr} {es : List Expr} {pos p tp : Pos} {t ta tb : TD} {tl : TDL}
theorem qhu {es:List Expr} {k:Nat} {t:TGs} {n:Nat} (hK:X.K=K) (hc:X.calm=true) (h:PGs X es t) (hn:(assignEach es X.env).length=n) (hst:(assignEach es X.env).findIdx? (·.1)=none):PG X (.Tuple es k pos) (qpX K n t):=hK ▸ qor hc h hn hst
theorem qh2 {es:List Expr} {k:Nat} {t:TGs} {n:Nat} (hK:X.K=K) (hc:X.calm=true) (h:PGs X es t) (hn:(assignEach es X.env).length=n) (hst:(assignEach es X.env).findIdx? (·.1)=none):PG X (.Tuple es k pos) (qpe K n t):=hK ▸ qn1 hc h hn hst
def qlL (t:TDL):TDL:=fun ρ R=>t ρ fun ds=>match ds with | [.int j]=>(-(2 ^ 62)≤j∧j<2 ^ 62)∧R (qed 0 j.toNat) | _=>False
theorem RpL.one_inv {Φ:Hp} {d:D} {vs:List V} (h:RpL K Φ [d] vs):∃ v,vs=[v]∧Rp K Φ d v:=by
  obtain ⟨h1,h2⟩:=h
  match vs,h1,h2 with
  | [v],_,h2=>exact ⟨v,rfl,h2 0 v d rfl rfl⟩
theorem RpL.two_inv {Φ:Hp} {d e:D} {vs:List V} (h:RpL K Φ [d,e] vs):∃ v w,vs=[v,w]∧Rp K Φ d v∧Rp K Φ e w:=by
  obtain ⟨h1,h2⟩:=h
  match vs,h1,h2 with
  | [v,w],_,h2=>exact ⟨v,w,rfl,h2 0 v d rfl rfl,h2 1 w e rfl rfl⟩
theorem qdq (hg:Gl X "range") (hm:X.mg "range"=none) (ha:PAD K X [a] tl) (hs:starEach [a] X.env=[(false,eval a X.env)]:=by rfl):PID K X tg (.Call (.Name "range" p) [a] [] pos) (qlL tl) :=
  ⟨fun hK=>(qgy hg hm (ha.pa hK) hs).imp fun σ H R' hq0=>by obtain ⟨H0,Φ,ρ,R,E,t,k⟩:=hq0;exact ⟨H0,Φ,ρ,_,E,t,fun ds Φ1 H1 vs r g rv _=>by
    match ds,r with
    | [.int j],r =>
      obtain ⟨v,rfl,r1⟩:=rv.one_inv
      cases r1
      exact ⟨j,rfl,r.1.1,r.1.2,k _ Φ1 H1 _ r.2 g qdl⟩⟩⟩
end
abbrev TGD:=D→Rho→(Rho→Prop)→Prop
abbrev qix:=List D→Rho→(Rho→Prop)→Prop
def lG (K:PySem.W.Frag) (g:TGD):TG:=fun v σ H Q=>∃ H0 Φ ρ d R,EnvD K H0 Φ H σ ρ∧Rp K Φ d v∧g d ρ R∧∀ ρ' σ',R ρ'→EnvD K H0 Φ H σ' ρ'→Q σ' H
def lGs (K:PySem.W.Frag) (g:qix):TGs:=fun vs σ H Q=>∃ H0 Φ ρ ds R,EnvD K H0 Φ H σ ρ∧RpL K Φ ds vs∧g ds ρ R∧∀ ρ' σ',R ρ'→EnvD K H0 Φ H σ' ρ'→Q σ' H
structure PGD (K:PySem.W.Frag) (X:Cx) (e:Expr) (g:TGD):Prop where pg:X.K=K→PG X e (lG K g)
structure PGDs (K:PySem.W.Frag) (X:Cx) (es:List Expr) (g:qix):Prop where pg:X.K=K→PGs X es (lGs K g)
theorem PG.imp {X:Cx} {e:Expr} {t t':TG} (h:PG X e t) (k:∀ v σ H Q,t' v σ H Q→t v σ H Q):PG X e t':=fun pins s σ H v u Q I r hw=>h pins s σ H v u Q I r (k v σ H Q hw)
theorem PGs.imp {X:Cx} {e:List Expr} {t t':TGs} (h:PGs X e t) (k:∀ v σ H Q,t' v σ H Q→t v σ H Q):PGs X e t':=fun pins s σ H v u Q I r hw=>h pins s σ H v u Q I r (k v σ H Q hw)
section
variable {K : PySem.W.Frag} {X : Cx} {e : Expr} {es : List Expr} {pos : Pos} {g : TGD} {gs : qix}
def qpq (i:Nat):TGD:=fun d ρ R=>R (ρ.set i (some (.v d)))
theorem qbb {i:Nat} {x:Str} (hN:X.N.Nodup) (hi:X.N[i]?=some x) (hx:Loc X.env.scope x) (hf:X.fn x=true∨X.env.scope.names.lookup x=some .local:=by first | exact .inl rfl | exact .inr rfl | assumption):PGD K X (.Name x pos) (qpq i) :=
  ⟨fun _=>(qjC hN hi hx hf).imp fun v σ H Q hq0=>by obtain ⟨H0,Φ,ρ,d,R,E,r,g,k⟩:=hq0;exact k _ _ g (E.set r i)⟩
def ql8:qix:=fun ds ρ R=>match ds with | []=>R ρ | _=>False
def qhF (t:TGD) (u:qix):qix:=fun ds ρ R=>match ds with | d::r=>t d ρ fun ρ'=>u r ρ' R | []=>False
theorem qjY:PGDs K X [] ql8:=⟨fun _=>pgs_nil.imp fun v σ H Q hq0=>by
  obtain ⟨H0,Φ,ρ,ds,R,E,r,g,k⟩:=hq0
  cases ds with
  | nil=>exact ⟨List.length_eq_zero_iff.mp r.1,k _ _ g E⟩
  | cons=>exact g.elim⟩
theorem qcI (h1:PGD K X e g) (h2:PGDs K X es gs) (hs:(assignEach (e::es) X.env).map (·.2)=assign e X.env::(assignEach es X.env).map (·.2):=by rfl):PGDs K X (e::es) (qhF g gs) :=
  ⟨fun hK=>(qhI (h1.pg hK) (h2.pg hK) hs).imp fun vs σ H Q hq0=>by
    obtain ⟨H0,Φ,ρ,ds,R,E,r,g,k⟩:=hq0
    cases ds with
    | nil=>exact g.elim
    | cons d ds =>
      cases vs with
      | nil=>exact absurd r.1 (by simp)
      | cons v vs =>
        refine ⟨v,vs,rfl,H0,Φ,ρ,d,_,E,r.2 0 v d rfl rfl,g,fun ρ' σ' g' E'=>⟨H0,Φ,ρ',ds,R,E',⟨by have:=r.1;simpa using this,fun i u f hu hf=>r.2 (i+1) u f hu hf⟩,g',k⟩⟩⟩
end
def qhB (cap:List (Option Nat)) (ρ:Rho):Rho:=cap.map fun o=>o.bind fun i=>(ρ[i]?).join
theorem qes {α:Type} {o:Option (Option α)} {x:α} (h:o.join=some x):o=some (some x):=by
  cases o with
  | none=>cases h
  | some o=>cases o with
    | none=>cases h
    | some y=>cases h;rfl
theorem qeY {α:Type} {cap:List (Option Nat)} {l:List (Option α)} {i:Nat} {x:α} (h:(cap.map fun o=>o.bind fun i=>(l[i]?).join)[i]?=some (some x)):∃ j,cap[i]?=some (some j)∧l[j]?=some (some x):=by
  rw [List.getElem?_map] at h
  cases e:cap[i]? with
  | none=>rw [e] at h;cases h
  | some o =>
    rw [e] at h
    cases o with
    | none=>cases h
    | some j=>exact ⟨j,rfl,qes (by simpa using h)⟩
theorem EnvD.cap {K:PySem.W.Frag} {H0 Φ H:Hp} {σ:St} {ρ:Rho} {cap:List (Option Nat)} (E:EnvD K H0 Φ H σ ρ) (inj:∀ i j k:Nat,cap[i]?=some (some k)→cap[j]?=some (some k)→i=j):EnvD K H0 Φ H (qcJ cap σ) (qhB cap ρ):=by
  have st:∀ {i j:Nat} {v:V},cap[i]?=some (some j)→σ[j]?=some (some v)→(qcJ cap σ)[i]?=some (some v):=fun hc hs=>by
    unfold qcJ
    rw [List.getElem?_map,hc]
    simp [hs]
  have ts:∀ {i j:Nat} {v:V},cap[i]?=some (some j)→(qcJ cap σ)[i]?=some (some v)→σ[j]?=some (some v):=fun hc hs=>by
    obtain ⟨j',h1,h2⟩:=qeY hs
    rw [hc] at h1
    cases h1
    exact h2
  refine ⟨E.fz,by unfold qcJ qhB;simp,fun i d h=>?_,fun i ds h=>?_,fun i j ds es p hi hj si sj=>?_,E.tb⟩
  · obtain ⟨j,h1,h2⟩:=qeY h
    obtain ⟨v,e,r⟩:=E.sl j d h2
    exact ⟨v,st h1 e,r⟩
  · obtain ⟨j,h1,h2⟩:=qeY h
    obtain ⟨p,vs,e,q⟩:=E.ow j ds h2
    exact ⟨p,vs,st h1 e,q⟩
  · obtain ⟨i',h1,h2⟩:=qeY hi
    obtain ⟨j',h3,h4⟩:=qeY hj
    have:=E.ne i' j' ds es p h2 h4 (ts h1 si) (ts h3 sj)
    subst this
    exact inj i j i' h1 h3
structure GK (k:Nat) (g:TGD):Prop where p:∀ d ρ R,g d ρ R→g d ρ fun ρ1=>ρ1.length=ρ.length∧ρ1.drop k=ρ.drop k∧R ρ1
structure GKs (k:Nat) (g:qix):Prop where p:∀ ds ρ R,g ds ρ R→g ds ρ fun ρ1=>ρ1.length=ρ.length∧ρ1.drop k=ρ.drop k∧R ρ1
theorem qnt {k i:Nat} (h:i<k):GK k (qpq i):=⟨fun d ρ R r=>⟨by simp,by rw [List.drop_set_of_lt h],r⟩⟩
theorem qoM {k:Nat}:GKs k ql8:=⟨fun ds ρ R r=>by
  cases ds with
  | nil=>exact ⟨rfl,rfl,r⟩
  | cons=>exact r⟩
theorem qhh {t:TGD} {u:qix} (ht:∀ d ρ R R',(∀ x,R x→R' x)→t d ρ R→t d ρ R') (hu:∀ d ρ R R',(∀ x,R x→R' x)→u d ρ R→u d ρ R'):∀ d ρ R R',(∀ x,R x→R' x)→qhF t u d ρ R→qhF t u d ρ R':=by
  intro ds ρ R R' h r
  cases ds with
  | nil=>exact r
  | cons d ds=>exact ht d ρ _ _ (fun x hx=>hu ds x _ _ h hx) r
structure GM (k:Nat) (g:TGD):Prop where
  k:GK k g
  m:∀ d ρ R R',(∀ x,R x→R' x)→g d ρ R→g d ρ R'
structure GMs (k:Nat) (g:qix):Prop where
  k:GKs k g
  m:∀ d ρ R R',(∀ x,R x→R' x)→g d ρ R→g d ρ R'
theorem qdn {k i:Nat} (h:i<k):GM k (qpq i):=⟨qnt h,fun d ρ R R' h r=>h _ r⟩
theorem qoR {k:Nat}:GMs k ql8:=⟨qoM,fun ds ρ R R' h r=>by
  cases ds with
  | nil=>exact h _ r
  | cons=>exact r⟩
theorem qiK {k:Nat} {t:TGD} {u:qix} (h1:GM k t) (h2:GMs k u):GMs k (qhF t u):=⟨⟨fun ds ρ R r=>by
  cases ds with
  | nil=>exact r
  | cons d ds =>
    have r1:t d ρ fun ρ'=>u ds ρ' R:=r
    refine h1.m _ _ _ _ (fun ρ1 q=>?_) (h1.k.p d ρ _ r1)
    exact h2.m _ _ _ _ (fun ρ2 q2=>⟨q2.1.trans q.1,q2.2.1.trans q.2.1,q2.2.2⟩) (h2.k.p ds ρ1 R q.2.2)⟩,qhh h1.m h2.m⟩
def qlM:TDB:=fun _ R=>R true
structure PIfD (K:PySem.W.Frag) (X:Cx) (ifs:List Expr) (t:TDB):Prop where p:X.K=K→qmY X ifs (lT K t)
theorem qn6 {K:PySem.W.Frag} {X:Cx}:PIfD K X [] qlM:=⟨fun _ pins s σ H Q I hq0=>by obtain ⟨H0,Φ,ρ,R,E,t,k⟩:=hq0;exact qhr pins s σ H Q I (k true Φ H t (.refl E.fz))⟩
theorem qfX {K:PySem.W.Frag} {X:Cx} {c:Expr} {t:TDB} (h:PTD K X c t):PIfD K X [c] t:=⟨fun hK=>qkR (h.pt hK)⟩
theorem EnvD.side {K:PySem.W.Frag} {H0 Φ H:Hp} {σ:St} {ρ:Rho} {p:Addr} {o u:HO} (E:EnvD K H0 Φ H σ ρ) (h0:H0 p=some u) (hn:Φ p=none):EnvD K H0 Φ (upd H p o) σ ρ :=
  ⟨fun b w e=>by rw [qar (qat e hn)];exact E.fz b w e,E.len,E.sl,fun i ds h=>by
    obtain ⟨q,vs,e,q0,qn,qp,qr⟩:=E.ow i ds h
    exact ⟨q,vs,e,q0,qn,by rw [qar fun z=>by rw [z,h0] at q0;cases q0];exact qp,qr⟩,E.ne,E.tb⟩
theorem EnvD.base {K:PySem.W.Frag} {H0 Φ H:Hp} {σ:St} {ρ:Rho} {p:Addr} {u:HO} (E:EnvD K H0 Φ H σ ρ) (hp:H p=none):EnvD K (upd H0 p u) Φ H σ ρ :=
  ⟨E.fz,E.len,E.sl,fun i ds h=>by
    obtain ⟨q,vs,e,q0,qn,qp,qr⟩:=E.ow i ds h
    exact ⟨q,vs,e,by rw [qar (qat qp hp)];exact q0,qn,qp,qr⟩,E.ne,E.tb⟩
def qnY (ti:TDL) (cap:List (Option Nat)) (g:TGD) (tc:TDB) (te:TD):TDL:=fun ρ R=>ti ρ fun ds=>ds.length<sizeLine∧∃ P:Nat→Option D→Prop,
  (∀ i d,ds[i]?=some d→g d (qhB cap ρ) fun ρ1=>tc ρ1 fun b=>(b=true→te ρ1 fun y=>P i (some y))∧(b=false→P i none))∧∀ ys:List (Option D),ys.length=ds.length→(∀ i y,ys[i]?=some y→P i y)→R (ys.filterMap id)
theorem ql4 (ys:List (Option D)) (y:D):(ys++[some y]).filterMap id=ys.filterMap id++[y]:=by simp
theorem qka (ys:List (Option D)):(ys++[none]).filterMap id=ys.filterMap id:=by simp
theorem qnv (ys:List (Option D)):(ys.filterMap id).length≤ys.length:=List.length_filterMap_le _ _
theorem qhz {α:Type} {ys:List α} {y:α} {P:Nat→α→Prop} {n:Nat} (hl:ys.length=n) (h:∀ i z,ys[i]?=some z→P i z) (hy:P n y):∀ i z,(ys++[y])[i]?=some z→P i z:=by
  intro i z hz
  rcases Nat.lt_or_ge i ys.length with c | c
  · rw [List.getElem?_append_left c] at hz
    exact h i z hz
  · rw [List.getElem?_append_right c] at hz
    have h0:i - ys.length=0:=by
      rcases Nat.eq_zero_or_pos (i - ys.length) with e | e
      · exact e
      · rw [List.getElem?_eq_none (by simp only [List.length_cons,List.length_nil];omega)] at hz;cases hz
    rw [h0] at hz
    cases hz
    have:i=n:=by omega
    subst this
    exact hy
def qfs (k:Nat) (cap:List (Option Nat)):Bool:=(cap.take k).all (·.isNone) && decide ((cap.filterMap id).Nodup)
theorem qj8 {k:Nat} {cap:List (Option Nat)} (h:qfs k cap=true) {i:Nat} (hi:i<k) {o:Option Nat} (e:cap[i]?=some o):o=none:=by
  unfold qfs at h
  rw [Bool.and_eq_true] at h
  have:=List.all_eq_true.mp h.1 o (List.mem_of_getElem? (i:=i) (by rw [List.getElem?_take_of_lt hi];exact e))
  cases o with
  | none=>rfl
  | some _=>cases this
theorem qjc {k:Nat} {cap:List (Option Nat)} (h:qfs k cap=true):∀ i j n:Nat,cap[i]?=some (some n)→cap[j]?=some (some n)→i=j:=by
  unfold qfs at h
  rw [Bool.and_eq_true] at h
  have nd:=of_decide_eq_true h.2
  clear h
  induction cap with
  | nil=>intro i j n hi;simp at hi
  | cons o cap ih =>
    intro i j n hi hj
    have nd':(cap.filterMap id).Nodup:=by
      cases o with
      | none=>simpa using nd
      | some m => have e : (some m :: cap).filterMap id = m :: cap.filterMap id := rfl
                  rw [e] at nd;exact (List.nodup_cons.mp nd).2
    have one:∀ {i:Nat},o=some n→cap[i]?=some (some n)→False:=fun {i} ho hi'=>by
      subst ho
      have e:(some n::cap).filterMap id=n::cap.filterMap id:=rfl
      rw [e] at nd
      exact (List.nodup_cons.mp nd).1 (List.mem_filterMap.mpr ⟨some n,List.mem_of_getElem? hi',rfl⟩)
    cases i with
    | zero=>cases j with
      | zero=>rfl
      | succ j=>exact (one (by simpa using hi) (by simpa using hj)).elim
    | succ i=>cases j with
      | zero=>exact (one (by simpa using hj) (by simpa using hi)).elim
      | succ j=>exact congrArg Nat.succ (ih nd' i j n (by simpa using hi) (by simpa using hj))
section
variable {K : PySem.W.Frag} {X : Cx} {tg iter elt : Expr} {ifs : List Expr} {scope : Scope} {pos : Pos} {N' : List Str} {cap : List (Option Nat)} {ti : TDL} {g : TGD} {tc : TDB} {te : TD}
theorem qgA {k:Nat} (hcap:qfs k cap=true) (hk:GM k g) {σ:St} {H:Hp} {Q:VK} {H0 Φ:Hp} {ρ:Rho} {R W:List D→Prop} (E:EnvD K H0 Φ H σ ρ) (t:ti ρ W)
    (conv:∀ ds,W ds→ds.length<sizeLine∧∃ P:Nat→Option D→Prop,(∀ i d,ds[i]?=some d→g d (qhB cap ρ) fun ρ1=>tc ρ1 fun b=>(b=true→te ρ1 fun y=>P i (some y))∧(b=false→P i none))∧∀ ys:List (Option D),ys.length=ds.length→(∀ i y,ys[i]?=some y→P i y)→R (ys.filterMap id))
    (kk:∀ ds Φ' H' p vs,R ds→Gr Φ H Φ' H'→H p=none→Φ' p=none→H' p=some (.lst vs)→RpL K Φ' ds vs→Q (.ref p) H'):qjz (lI K ti) cap (lG K g) (lT K tc) (lE K te) σ H Q:=by
  refine ⟨H0,Φ,ρ,W,E,t,fun ds Φ1 H1 J hW g1 S Dd hD=>?_⟩
  obtain ⟨hlen,P,hp,hr⟩:=conv ds hW
  have E1:=E.gr g1
  have hDΦ:Φ1 Dd=none:=g1.s.free hD
  have C0:EnvD K (upd H0 Dd (.lst [])) Φ1 (upd H1 Dd (.lst [])) (qcJ cap σ) (qhB cap ρ):=((E1.base (u:=.lst []) hD).side (o:=.lst []) qak hDΦ).cap (qjc hcap)
  refine ⟨fun i m σ' H'=>m=ds.length - i∧i≤ds.length∧∃ (Φ':Hp) (vs:List V) (ys:List (Option D)),EnvD K (upd H0 Dd (.lst [])) Φ' H' σ' (qhB cap ρ)∧Gr Φ1 H1 Φ' H'∧Φ' Dd=none∧H' Dd=some (.lst vs)∧RpL K Φ' (ys.filterMap id) vs∧ys.length=i∧∀ j y,ys[j]?=some y→P j y,⟨ds.length,by simp,Nat.zero_le _,Φ1,[],[],C0,.fresh g1.s hD _,hDΦ,qak,.nil,rfl,fun j y hj=>by simp at hj⟩,?_⟩
  rintro i m σ' H' ⟨rfl,hi,Φ',vs,ys,Ei,gi,hDi,hDl,hrl,hyl,hy⟩
  by_cases hlt:i<ds.length
  · refine .inr ⟨S.go i H' (gi.f.trans gi.s) hlt,fun σ2 H2=>∃ (Φ':Hp) (vs:List V) (ys:List (Option D)),EnvD K (upd H0 Dd (.lst [])) Φ' H2 σ2 (qhB cap ρ)∧Gr Φ1 H1 Φ' H2∧Φ' Dd=none∧H2 Dd=some (.lst vs)∧RpL K Φ' (ys.filterMap id) vs∧ys.length=i+1∧∀ j y,ys[j]?=some y→P j y,fun σ2 H2 h2=>⟨ds.length - (i+1),by omega,rfl,hlt,h2⟩,fun x H2 y=>?_⟩
    obtain ⟨Φ3,g3,rx⟩:=S.yl i Φ' H' x H2 _ gi.f gi.s (qao hlt) y
    have E3:=Ei.gr g3
    refine ⟨_,Φ3,qhB cap ρ,_,_,E3,rx,hk.k.p _ _ _ (hp i _ (qao hlt)),fun ρ1 σ3 hq0 E4=>?_⟩
    obtain ⟨hl1,hd1,t1⟩:=hq0
    have wk:∀ (j:Nat) x,(qhB cap ρ)[j]?=some (some x)→ρ1[j]?=some (some x):=fun j x hj=>by
      rcases Nat.lt_or_ge j k with c | c
      · obtain ⟨n,h1,_⟩:=qeY hj
        cases qj8 hcap c h1
      · have e1:(qhB cap ρ)[j]?=((qhB cap ρ).drop k)[j - k]?:=by rw [List.getElem?_drop];congr 1;omega
        have e2:ρ1[j]?=(ρ1.drop k)[j - k]?:=by rw [List.getElem?_drop];congr 1;omega
        rw [e2,hd1,← e1]
        exact hj
    have hD3:Φ3 Dd=none:=g3.o _ _ hDl hDi
    refine ⟨_,Φ3,ρ1,_,E4,t1,fun b Φ4 H4 rb g4=>?_⟩
    have E5:=(E4.gr g4)
    have hDl4:=g4.h _ _ (g3.h _ _ hDl)
    have hD4:Φ4 Dd=none:=g4.o _ _ (g3.h _ _ hDl) hD3
    cases b with
    | false =>
      refine qni ?_
      refine ⟨Φ4,vs,ys++[none],E5.weak hl1.symm wk,(gi.trans g3).trans g4,hD4,hDl4,?_,by rw [List.length_append,hyl];rfl,qhz hyl hy (rb.2 rfl)⟩
      rw [qka]
      exact (hrl.same g3.f).same g4.f
    | true =>
      refine qnk ?_
      refine ⟨_,Φ4,ρ1,_,E5,rb.1 rfl,fun d Φ5 H5 v rd g5 rv=>?_⟩
      have E6:=E5.gr g5
      have hDl5:=g5.h _ _ hDl4
      have hD5:Φ5 Dd=none:=g5.o _ _ hDl4 hD4
      have gg:=((gi.trans g3).trans g4).trans g5
      refine ⟨vs,hDl5,?_,Φ5,vs++[v],ys++[some d],(E6.weak hl1.symm wk).side qak hD5,?_,hD5,qak,?_,by rw [List.length_append,hyl];rfl,qhz hyl hy rd⟩
      · have:=qnv ys
        rw [hrl.1]
        omega
      · exact ⟨gg.f,qkC gg.h hD _,fun b u e=>by rw [qar (qat e hD5)];exact gg.s b u e,fun p u hp hn k=>gg.o p u hp hn k⟩
      · rw [ql4]
        exact (((hrl.same g3.f).same g4.f).same g5.f).append (.one rv)
  · have e:i=ds.length:=by omega
    subst e
    exact .inl ⟨S.stop H' (gi.f.trans gi.s),kk _ Φ' H' Dd vs (hr ys hyl hy) (g1.trans gi) (g1.h.free hD) hDi hDl hrl⟩
theorem qiV {k:Nat} (hcap:qfs k cap=true) (hk:GM k g) {σ:St} {H:Hp} {Q:VK} (h:lF K (qnY ti cap g tc te) σ H Q):qjz (lI K ti) cap (lG K g) (lT K tc) (lE K te) σ H Q:=by
  obtain ⟨H0,Φ,ρ,R,E,t,kk⟩:=h
  exact qgA hcap hk E t (fun ds h=>h) kk
theorem qgQ {k:Nat} (hcalm:X.calm=true) (S:CompScope X.N X.env.scope scope N' cap) (hcap:qfs k cap=true) (hk:GM k g) (hi:PID K X tg iter ti)
    (hg:∀ (cl:List (Str × Addr)) (fp:List Addr) (C:Addr) (s0:Shared) (H0:Hp),PGD K (qa7 X scope N' cl C s0 H0 fp) tg g) (ht:∀ (cl:List (Str × Addr)) (fp:List Addr) (C:Addr) (s0:Shared) (H0:Hp),PIfD K (qa7 X scope N' cl C s0 H0 fp) ifs tc)
    (he:∀ (cl:List (Str × Addr)) (fp:List Addr) (C:Addr) (s0:Shared) (H0:Hp),PD K (qa7 X scope N' cl C s0 H0 fp) elt te) (hs:∀ x,foldedSetIterable iter X.env x=pure x:=by intro _;rfl):PF K X (.ListComp elt [⟨tg,iter,ifs,0⟩] scope pos) (qnY ti cap g tc te) :=
  ⟨fun hK=>(qhm hcalm S (hi.pi hK) (fun cl fp C s0 H0=>(hg cl fp C s0 H0).pg hK) (fun cl fp C s0 H0=>(ht cl fp C s0 H0).p hK) (fun cl fp C s0 H0=>(he cl fp C s0 H0).pe hK) hs).imp fun _ _ _=>qiV hcap hk⟩
def qll (ti:TDL) (cap:List (Option Nat)) (g:TGD) (te:TD):TDL:=fun ρ R=>ti ρ fun ds=>ds.length<sizeLine∧∃ P:Nat→D→Prop,
  (∀ i d,ds[i]?=some d→g d (qhB cap ρ) fun ρ1=>te ρ1 (P i))∧∀ ys:List D,ys.length=ds.length→(∀ i y,ys[i]?=some y→P i y)→R ys
def qqG (P:Nat→D→Prop):Nat→Option D→Prop:=fun i o=>match o with | some y=>P i y | none=>False
theorem qhU {P:Nat→D→Prop}:∀ (ys:List (Option D)),(∀ (i:Nat) y,ys[i]?=some y→∃ z,y=some z)→∃ zs:List D,ys=zs.map some
  | [],_=>⟨[],rfl⟩
  | y::ys,h=>by
    obtain ⟨z,rfl⟩:=h 0 y rfl
    obtain ⟨zs,rfl⟩:=qhU (P:=P) ys fun i y hy=>h (i+1) y hy
    exact ⟨z::zs,rfl⟩
theorem qic {ds:List D} {ρ:Rho} {R:List D→Prop} (h:ds.length<sizeLine∧∃ P:Nat→D→Prop,(∀ i d,ds[i]?=some d→g d (qhB cap ρ) fun ρ1=>te ρ1 (P i))∧∀ ys:List D,ys.length=ds.length→(∀ i y,ys[i]?=some y→P i y)→R ys) {k:Nat} (hk:GM k g) :
    ds.length<sizeLine∧∃ P:Nat→Option D→Prop,(∀ i d,ds[i]?=some d→g d (qhB cap ρ) fun ρ1=>qlM ρ1 fun b=>(b=true→te ρ1 fun y=>P i (some y))∧(b=false→P i none))∧∀ ys:List (Option D),ys.length=ds.length→(∀ i y,ys[i]?=some y→P i y)→R (ys.filterMap id):=by
  obtain ⟨h0,P,h1,h2⟩:=h
  refine ⟨h0,qqG P,fun i d hd=>hk.m _ _ _ _ (fun ρ1 q=>⟨fun _=>q,fun e=>by cases e⟩) (h1 i d hd),fun ys hl hy=>?_⟩
  obtain ⟨zs,rfl⟩:=qhU (P:=P) ys fun i y e=>by
    have:=hy i y e
    cases y with
    | none=>exact this.elim
    | some z=>exact ⟨z,rfl⟩
  rw [List.filterMap_map]
  have e:zs.filterMap (id ∘ some)=zs:=by simp
  rw [e]
  refine h2 zs (by simpa using hl) fun i y e=>?_
  exact hy i (some y) (by rw [List.getElem?_map,e];rfl)
theorem qit {k:Nat} (hcap:qfs k cap=true) (hk:GM k g) {σ:St} {H:Hp} {Q:VK} (h:lF K (qll ti cap g te) σ H Q):qjz (lI K ti) cap (lG K g) (lT K qlM) (lE K te) σ H Q:=by
  obtain ⟨H0,Φ,ρ,R,E,t,kk⟩:=h
  exact qgA hcap hk E t (fun ds h=>qic h hk) kk
theorem qho {k:Nat} (hcalm:X.calm=true) (S:CompScope X.N X.env.scope scope N' cap) (hcap:qfs k cap=true) (hk:GM k g) (hi:PID K X tg iter ti)
    (hg:∀ (cl:List (Str × Addr)) (fp:List Addr) (C:Addr) (s0:Shared) (H0:Hp),PGD K (qa7 X scope N' cl C s0 H0 fp) tg g)
    (he:∀ (cl:List (Str × Addr)) (fp:List Addr) (C:Addr) (s0:Shared) (H0:Hp),PD K (qa7 X scope N' cl C s0 H0 fp) elt te) (hs:∀ x,foldedSetIterable iter X.env x=pure x:=by intro _;rfl):PF K X (.ListComp elt [⟨tg,iter,[],0⟩] scope pos) (qll ti cap g te) :=
  ⟨fun hK=>(qhm hcalm S (hi.pi hK) (fun cl fp C s0 H0=>(hg cl fp C s0 H0).pg hK) (fun cl fp C s0 H0=>(qn6 (K:=K)).p hK) (fun cl fp C s0 H0=>(he cl fp C s0 H0).pe hK) hs).imp fun _ _ _=>qit hcap hk⟩
end
structure EndsD where
  nx:Rho→Prop
  rt:D→Prop
  bk:Rho→Prop:=fun _=>False
  ct:Rho→Prop:=fun _=>False
abbrev TSD:=EndsD→Rho→Prop
def EnK (K:PySem.W.Frag) (Φ0 H0:Hp) (P:Rho→Prop) (Q:St→Hp→Prop):Prop:=∀ ρ' Φ' H' σ',P ρ'→Gr Φ0 H0 Φ' H'→EnvD K H0 Φ' H' σ' ρ'→Q σ' H'
structure EndOk (K:PySem.W.Frag) (Φ0 H0:Hp) (De:EndsD) (E:Ends):Prop where
  nx:EnK K Φ0 H0 De.nx E.nx
  rt:∀ d Φ' H' v,De.rt d→Gr Φ0 H0 Φ' H'→Rp K Φ' d v→E.rt v H'
  bk:EnK K Φ0 H0 De.bk E.bk
  ct:EnK K Φ0 H0 De.ct E.ct
def lS (K:PySem.W.Frag) (t:TSD):TS:=fun E σ H=>∃ Φ0 H0 Φ ρ De,Gr Φ0 H0 Φ H∧EnvD K H0 Φ H σ ρ∧t De ρ∧EndOk K Φ0 H0 De E
structure PSD (K:PySem.W.Frag) (X:Cx) (st:Stmt) (t:TSD):Prop where ps:X.K=K→PS X st (lS K t)
structure PSsD (K:PySem.W.Frag) (X:Cx) (st:List Stmt) (t:TSD):Prop where ps:X.K=K→PSs X st (lS K t)
section
variable {K : PySem.W.Frag} {X : Cx} {st : Stmt} {rest : List Stmt} {t u : TSD} {e a : Expr} {te : TD} {tf : TDL} {pos : Pos} {tt : TDB}
def qpH:TSD:=fun De ρ=>De.nx ρ
def qqP (t u:TSD):TSD:=fun De ρ=>t { De with nx:=u De } ρ
def qqT (t u:TSD):TSD:=fun De ρ=>∃ I:Rho→Prop,t { De with nx:=I } ρ∧∀ ρ',I ρ'→u De ρ'
theorem qb5:PSsD K X [] qpH:=⟨fun _=>pss_nil.imp fun E σ H hq0=>by obtain ⟨Φ0,H0,Φ,ρ,De,g,V,t,k⟩:=hq0;exact k.nx ρ Φ H σ t g V⟩
theorem qaZ (h1:PSD K X st t) (h2:PSsD K X rest u):PSsD K X (st::rest) (qqP t u):=⟨fun hK=>(qd4 (h1.ps hK) (h2.ps hK)).imp fun E σ H hq0=>by obtain ⟨Φ0,H0,Φ,ρ,De,g,V,t,k⟩:=hq0;exact
  ⟨Φ0,H0,Φ,ρ,_,g,V,t,⟨fun ρ' Φ' H' σ' t' g' V'=>⟨Φ0,H0,Φ',ρ',De,g',V',t',k⟩,k.rt,k.bk,k.ct⟩⟩⟩
theorem qdg (h1:PSD K X st t) (h2:PSsD K X rest u):PSsD K X (st::rest) (qqT t u):=⟨fun hK=>(qd4 (h1.ps hK) (h2.ps hK)).imp fun E σ H hq0=>by obtain ⟨Φ0,H0,Φ,ρ,De,g,V,⟨I,t,c⟩,k⟩:=hq0;exact
  ⟨Φ0,H0,Φ,ρ,_,g,V,t,⟨fun ρ' Φ' H' σ' t' g' V'=>⟨Φ0,H0,Φ',ρ',De,g',V',c ρ' t',k⟩,k.rt,k.bk,k.ct⟩⟩⟩
theorem qaX (h1:PSD K X st t):PSsD K X [st] t:=⟨fun hK=>qiT (h1.ps hK)⟩
def qng:TSD:=fun _ _=>False
theorem qjW:PSD K X st qng:=⟨fun _=>ps_never.imp fun E σ H hq0=>by obtain ⟨Φ0,H0,Φ,ρ,De,g,V,t,k⟩:=hq0;exact t⟩
def qqr (i:Nat) (te:TD):TSD:=fun De ρ=>te ρ fun d=>De.nx (ρ.set i (some (.v d)))
theorem qko {i:Nat} {E:Ends} {σ:St} {H:Hp} (h:lS K (qqr i te) E σ H):qo3 (lE K te) (qkp i) E σ H:=by
  obtain ⟨Φ0,H0,Φ,ρ,De,g,V,t,k⟩:=h
  exact ⟨H0,Φ,ρ,_,V,t,fun d Φ1 H1 v r g1 rv=>k.nx _ Φ1 H1 _ r (g.trans g1) ((V.gr g1).set rv i)⟩
theorem qcx {i:Nat} {x:Str} {pos':Pos} (hN:X.N.Nodup) (hi:X.N[i]?=some x) (hx:Loc X.env.scope x) (he:PD K X e te) (hs:swapsWith e (some (.Name x pos')) pos.line X.env=pure false:=by rfl) (hf:X.fn x=true∨X.env.scope.names.lookup x=some .local:=by first | exact .inl rfl | exact .inr rfl | assumption) :
    PSD K X (.Assign [.Name x pos'] e pos) (qqr i te):=⟨fun hK=>(qlB hN hi hx (he.pe hK) hs hf).imp fun _ _ _=>qko⟩
def qpT (te:TD):TSD:=fun De ρ=>te ρ fun _=>De.nx ρ
theorem qeV (he:PD K X e te) (hs:swapsWith e none pos.line X.env=pure false:=by rfl):PSD K X (.Expr e pos) (qpT te) :=
  ⟨fun hK=>(qfu (he.pe hK) hs).imp fun E σ H hq0=>by obtain ⟨Φ0,H0,Φ,ρ,De,g,V,t,k⟩:=hq0;exact ⟨H0,Φ,ρ,_,V,t,fun d Φ1 H1 v r g1 rv=>k.nx _ Φ1 H1 σ r (g.trans g1) (V.gr g1)⟩⟩
def qri (te:TD):TSD:=fun De ρ=>te ρ De.rt
theorem qbm (he:PD K X e te):PSD K X (.Return (some e) pos) (qri te) :=
  ⟨fun hK=>(qlp (he.pe hK)).imp fun E σ H hq0=>by obtain ⟨Φ0,H0,Φ,ρ,De,g,V,t,k⟩:=hq0;exact ⟨H0,Φ,ρ,_,V,t,fun d Φ1 H1 v r g1 rv=>k.rt d Φ1 H1 v r (g.trans g1) rv⟩⟩
def sIf (c:TDB) (t u:TSD):TSD:=fun De ρ=>c ρ fun b=>(b=true→t De ρ)∧(b=false→u De ρ)
theorem qfb {c:Expr} {a b:List Stmt} (hc:PTD K X c tt) (ha:PSsD K X a t) (hb:PSsD K X b u):PSD K X (.If c a b pos) (sIf tt t u) :=
  ⟨fun hK=>(qnJ (hc.pt hK) (ha.ps hK) (hb.ps hK)).imp fun E σ H hq0=>by obtain ⟨Φ0,H0,Φ,ρ,De,g,V,t,k⟩:=hq0;exact ⟨H0,Φ,ρ,_,V,t,fun c Φ1 H1 r g1=>by
    cases c with
    | true=>refine qnk ?_;exact ⟨Φ0,H0,Φ1,ρ,De,g.trans g1,V.gr g1,r.1 rfl,k⟩
    | false=>refine qni ?_;exact ⟨Φ0,H0,Φ1,ρ,De,g.trans g1,V.gr g1,r.2 rfl,k⟩⟩⟩
def qrj (te:TD) (g:TGD):TSD:=fun De ρ=>te ρ fun d=>g d ρ De.nx
theorem qpO {tg:Expr} {gd:TGD} (he:PD K X e te) (hg:PGD K X tg gd) (hs:swapsWithSole [tg] e pos.line X.env=pure false:=by rfl) (hw:swappedStores [tg] e X.env=pure none:=by rfl)
    (h1:(assignEach [tg] X.env).map (·.2)=[assign tg X.env]:=by rfl):PSD K X (.Assign [tg] e pos) (qrj te gd) :=
  ⟨fun hK=>(qjU (he.pe hK) (hg.pg hK) hs hw h1).imp fun E σ H hq0=>by obtain ⟨Φ0,H0,Φ,ρ,De,g,V,t,k⟩:=hq0;exact ⟨H0,Φ,ρ,_,V,t,fun d Φ1 H1 v r g1 rv=>⟨H0,Φ1,ρ,d,_,V.gr g1,rv,r,fun ρ' σ' r' V'=>k.nx ρ' Φ1 H1 σ' r' (g.trans g1) V'⟩⟩⟩
def qrq (ti:TDL) (gd:TGD) (tb:TSD):TSD:=fun De ρ=>ti ρ fun ds=>∃ I:Nat→Rho→Prop,I 0 ρ∧(∀ i d ρ',ds[i]?=some d→I i ρ'→gd d ρ' fun ρ2=>tb { De with nx:=I (i+1),ct:=I (i+1),bk:=De.nx } ρ2)∧∀ ρ',I ds.length ρ'→De.nx ρ'
theorem qg1 {tg iter:Expr} {body:List Stmt} {ti:TDL} {gd:TGD} {tb:TSD} (hp:PassesOwn (model X.prog X.w) X.A X.env X.xe) (hc:X.calm=true) (hi:PID K X tg iter ti) (hg:PGD K X tg gd) (hb:PSsD K X body tb)
    (hs:∀ x,foldedSetIterable iter X.env x=pure x:=by intro _;rfl):PSD K X (.For tg iter body [] pos) (qrq ti gd tb) :=
  ⟨fun hK=>(qlz hp hc (hi.pi hK) (hg.pg hK) (hb.ps hK) hs).imp fun E σ H hq0=>by
    obtain ⟨Φ0,H0,Φ,ρ,De,g,V,t,k⟩:=hq0
    refine ⟨H0,Φ,ρ,_,V,t,fun ds Φ1 H1 J hq1 g1 S=>?_⟩
    obtain ⟨I,h0,hst,hend⟩:=hq1
    refine ⟨fun i m σ H'=>m=ds.length - i∧i≤ds.length∧∃ Φ' ρ',Gr Φ0 H0 Φ' H'∧Same Φ1 Φ'∧EnvD K H0 Φ' H' σ ρ'∧I i ρ',⟨ds.length,by simp,Nat.zero_le _,Φ1,ρ,g.trans g1,Same.refl _,V.gr g1,h0⟩,?_⟩
    rintro i m σ' H' ⟨rfl,hi,Φ',ρ',g',s',V',hI⟩
    by_cases hlt:i<ds.length
    · refine .inr ⟨S.go i H' (s'.trans V'.fz) hlt,fun σ2 H2=>∃ Φ' ρ',Gr Φ0 H0 Φ' H2∧Same Φ1 Φ'∧EnvD K H0 Φ' H2 σ2 ρ'∧I (i+1) ρ',fun σ2 H2 h2=>⟨ds.length - (i+1),by omega,rfl,hlt,h2⟩,fun x H2 y=>?_⟩
      obtain ⟨Φ3,g3,rx⟩:=S.yl i Φ' H' x H2 _ s' V'.fz (qao hlt) y
      refine ⟨H0,Φ3,ρ',_,_,V'.gr g3,rx,hst i _ ρ' (qao hlt) hI,fun ρ2 σ3 t2 V3=>?_⟩
      refine ⟨Φ3,H0,Φ3,ρ2,_,?_,V3,t2,⟨?_,?_,?_,?_⟩⟩
      · exact ⟨Same.refl _,(g'.trans g3).h,g3.s,fun p u hp hn _=>hn⟩
      · intro ρ4 Φ4 H4 σ4 t4 g4 V4
        exact ⟨Φ4,ρ4,(g'.trans g3).join g4,(s'.trans g3.f).trans g4.f,V4,t4⟩
      · intro d Φ4 H4 v r g4 rv
        exact k.rt d Φ4 H4 v r ((g'.trans g3).join g4) rv
      · intro ρ4 Φ4 H4 σ4 t4 g4 V4
        exact k.nx ρ4 Φ4 H4 σ4 t4 ((g'.trans g3).join g4) V4
      · intro ρ4 Φ4 H4 σ4 t4 g4 V4
        exact ⟨Φ4,ρ4,(g'.trans g3).join g4,(s'.trans g3.f).trans g4.f,V4,t4⟩
    · have e:i=ds.length:=by omega
      subst e
      exact .inl ⟨S.stop H' (s'.trans V'.fz),k.nx ρ' Φ' H' σ' (hend ρ' hI) g' V'⟩⟩
end
section
variable {K : PySem.W.Frag} {X : Cx} {tg iter elt e a : Expr} {ifs : List Expr} {scope : Scope} {pos py spos : Pos} {N' : List Str} {cap : List (Option Nat)} {ti : TDL} {g : TGD} {tc : TDB} {te ta tb : TD} {i : Nat} {y : Str}
end
def qe8 (N:List Str) (ds:List D):Rho:=ds.map (fun d=>some (.v d))++List.replicate (N.length - ds.length) none
theorem qiM {K:PySem.W.Frag} {Φ H:Hp} {N:List Str} {ds:List D} {vs:List V} (sm:Same Φ H) (tb:TabF K Φ) (r:RpL K Φ ds vs):EnvD K H Φ H (start N vs) (qe8 N ds):=by
  have own:∀ {i:Nat} {x:Sl},(qe8 N ds)[i]?=some (some x)→∃ d,ds[i]?=some d∧x=.v d:=fun {i x} h=>by
    unfold qe8 at h
    rcases Nat.lt_or_ge i (ds.map fun d=>some (Sl.v d)).length with c | c
    · rw [List.getElem?_append_left c,List.getElem?_map] at h
      cases e:ds[i]? with
      | none=>rw [e] at h;cases h
      | some d=>rw [e] at h;cases h;exact ⟨d,rfl,rfl⟩
    · rw [List.getElem?_append_right c,List.getElem?_replicate] at h
      split at h
      · cases h
      · cases h
  refine ⟨sm,by unfold start qe8;simp [r.1],fun i d h=>?_,fun i es h=>?_,fun i j es fs p h=>?_,tb⟩
  · obtain ⟨d',h1,h2⟩:=own h
    cases h2
    obtain ⟨v,hv,rv⟩:=r.at h1
    refine ⟨v,?_,rv⟩
    unfold start
    rw [List.getElem?_append_left (by rw [List.length_map];exact qai hv),List.getElem?_map,hv]
    rfl
  · obtain ⟨d',h1,h2⟩:=own h
    cases h2
  · obtain ⟨d',h1,h2⟩:=own h
    cases h2
section
variable {P : Program} {w : World} {K : PySem.W.Frag} {mg : Str → Option Value} {base : Heap}
theorem Fun.okD {x qual:Str} {st:Stmt} {f:Addr} {fd:FuncData} {N ps:List Str} {k:Nat} {sp:SpD} (F:Fun K x qual st f fd) (S:FnScope N ps (qah st)) (len:∀ ds R,sp ds R→ds.length=ps.length)
    (hbody:∀ (cdv:Value) (A:Around) (outer:List Env) (s:Shared) (H:Hp) (E:XK) (ds:List D) (R:D→Prop),Room k (A.deeper (envOfC qual (qah st) s.heap.objs.size f cdv))→sp ds R →
      ∃ t,PSsD K (qk9 CX0 P w K mg base N qual (qah st) f cdv A outer s H E).nox (qby st) t∧t { nx:=fun _=>R .non,rt:=R } (qe8 N ds)):FnOk P w K mg base CX0 (k+1) f fd ps (lSp K sp):=by
  refine F.ok S (fun vs H Q E ⟨Φ,ds,R,sm,tb,rl,h,_⟩=>by rw [rl.1];exact len ds R h) (fun cdv A outer s H vs Q E hr ⟨Φ,ds,R,sm,tb,rl,h,kk⟩=>?_)
  obtain ⟨t,ht,hq⟩:=hbody cdv A outer s H E ds R hr h
  exact ⟨lS K t,ht.ps rfl,Φ,H,Φ,qe8 N ds,_,.refl sm,qiM sm tb rl,hq,⟨fun ρ' Φ' H' σ' r g V=>kk .non Φ' H' .non r g .non,kk,fun _ _ _ _ h=>h.elim,fun _ _ _ _ h=>h.elim⟩⟩
end
def Itb (K:PySem.W.Frag) (b:Bool) (a:Addr):It:=match b with | true=>Itl K a | false=>Itt K a
section
variable {K : PySem.W.Frag} {X : Cx} {tg e a b : Expr} {es : List Expr} {pos p tp : Pos} {t ta tb : TD} {tl : TDL}
theorem qoa {l:Expr} {tl:TE} (hK:X.K=K) (hl:PE X l tl):PI X tg l (fun σ H R=>tl σ H fun x H1=>∃ q a,x=.ref a∧(∃ xs,SqB K q H1 a xs)∧R (Itb K q a) H1):=by
  subst hK
  intro pins s σ H R I h
  refine thn (hl pins s σ H _ I h) fun v s1 hq0=>?_
  obtain ⟨x,H1,I1,r1,q1⟩:=hq0
  obtain ⟨bb,a,e,⟨xs,hq⟩,q⟩:=q1
  subst e
  cases r1
  have fp:∀ b∈[s1.heap.objs.size],qgk X pins H1 b:=fun b hb=>by
    have e:b=s1.heap.objs.size:=by simpa using hb
    subst e
    exact I1.fpOk (Nat.le_refl _) (I1.hok.fresh (Nat.le_refl _))
  cases bb with
  | true =>
    obtain ⟨its,rv,p,hz⟩:=I1.list hq
    refine wpAny_pyIter_list p.isList ?_
    exact ⟨s1.heap.objs.size,[s1.heap.objs.size],_,_,H1,rfl,I1.kept (t':=s1.toks) fun b o e=>Heap.get?_push_of_some _ e,qiH a _,⟨_,Heap.get?_push_size _ rfl,rfl,rfl⟩,fp,q⟩
  | false =>
    obtain ⟨its,rv,p,hz⟩:=I1.tuple hq
    refine wpAny_pyIter_tuple (show s1.heap.IsTuple a its.toArray from p) ?_
    exact ⟨s1.heap.objs.size,[s1.heap.objs.size],_,_,H1,rfl,I1.kept (t':=s1.toks) fun b o e=>Heap.get?_push_of_some _ e,qio a _,⟨_,Heap.get?_push_size _ rfl,rfl,rfl⟩,fp,q⟩
theorem qg8 {Φ:Hp} {ds:List D} {vs:List V} {a:Addr} {q:Bool} (h:SqB K q Φ a vs) (r:RpL K Φ ds vs):SteadyD K (Itb K q a) Φ ds:=by
  cases q with
  | true=>exact qf7 h r
  | false=>exact qgV h r
def qqq (t:TD):TDL:=fun ρ R=>t ρ fun d=>match d with | .lst ds=>R ds | .tup ds=>R ds | .fzl ds=>R ds | _=>False
theorem qmN {d:D} {R:List D→Prop} (h:match d with | .lst ds=>R ds | .tup ds=>R ds | .fzl ds=>R ds | _=>False):∃ ds,qfc d=some ds∧R ds:=by
  cases d with
  | lst ds=>exact ⟨ds,rfl,h⟩
  | tup ds=>exact ⟨ds,rfl,h⟩
  | fzl ds=>exact ⟨ds,rfl,h⟩
  | _=>exact h.elim
theorem qcT (h:PD K X e t):PID K X tg e (qqq t):=⟨fun hK=>(qoa hK (h.pe hK)).imp fun σ H R' hq0=>by obtain ⟨H0,Φ,ρ,R,E,t,k⟩:=hq0;exact ⟨H0,Φ,ρ,_,E,t,fun d Φ1 H1 v r g rv=>by
  obtain ⟨ds,e1,r⟩:=qmN r
  obtain ⟨q,a,vs,rfl,h1,h2⟩:=rv.seq e1
  exact ⟨q,a,rfl,⟨vs,SqB.same g.s h1⟩,k _ Φ1 H1 _ r g (qg8 h1 h2)⟩⟩⟩
theorem qkQ {a:Expr} {ta:TA} {es:List Expr} {k:Nat} (hK:X.K=K) (hg:Gl X "enumerate") (hm:X.mg "enumerate"=none) (ha:PA X [a] ta) (hs:starEach [a] X.env=[(false,eval a X.env)]) :
    PI X (.Tuple es k tp) (.Call (.Name "enumerate" p) [a] [] pos) (fun σ H R=>ta σ H fun vs H1=>∃ b a xs,vs=[.ref a]∧SqB K b H1 a xs∧R (Ite K b a) H1):=by
  subst hK
  intro pins s σ H R I h
  refine Call_ (qe3 I hg hm boot_enumerate (PyProof.Rows.callWith_type1 (thn (ha pos pins s σ H _ I h) fun us s1 hq0=>?_) hs rfl))
  obtain ⟨vs,H1,I1,r1,q1⟩:=hq0
  obtain ⟨b,l,xs,e,hq,q⟩:=q1
  subst e
  cases r1 with
  | cons r rr =>
    cases rr
    cases r
    obtain ⟨its,rv,p,hz⟩:=I1.sqb hq
    refine qj9 p fun h' he hi hsz hk=>wpAny_pyIter_enum he ?_
    have I2:Inv X pins σ H1 { s1 with heap:=h' }:=I1.kept (t':=s1.toks) hk
    have fr:∀ c,s1.heap.objs.size≤c→qgk X pins H1 c:=fun c hc=>I1.fpOk hc (I1.hok.fresh hc)
    exact ⟨s1.heap.objs.size+1,[s1.heap.objs.size+1,s1.heap.objs.size],_,_,H1,rfl,I2,qjM b l _ _ (Nat.succ_ne_self _),⟨⟨_,he⟩,hi⟩,fun c hc=>by
      rcases List.mem_cons.mp hc with rfl | hc
      · exact fr _ (Nat.le_succ _)
      · rw [List.mem_singleton.mp hc];exact fr _ (Nat.le_refl _),q⟩
theorem ql1 {a b:Expr} {ta:TA} {es:List Expr} {k:Nat} (hK:X.K=K) (hg:Gl X "zip") (hm:X.mg "zip"=none) (ha:PA X [a,b] ta) (hs:starEach [a,b] X.env=[(false,eval a X.env),(false,eval b X.env)]) (hs2:starEach [b] X.env=[(false,eval b X.env)]) :
    PI X (.Tuple es k tp) (.Call (.Name "zip" p) [a,b] [] pos) (fun σ H R=>ta σ H fun vs H1=>∃ b1 b2 a1 a2 xs ys,vs=[.ref a1,.ref a2]∧SqB K b1 H1 a1 xs∧SqB K b2 H1 a2 ys∧R (Itz K b1 a1 b2 a2) H1):=by
  subst hK
  intro pins s σ H R I h
  refine Call_ (qe3 I hg hm boot_zip (PyProof.Rows.callWith_type1 (thn (ha pos pins s σ H _ I h) fun us s1 ⟨vs,H1,I1,r1,q1⟩=>?_) (by rw [hs,hs2]) (by rw [hs2];rfl)))
  obtain ⟨b1,b2,l1,l2,xs,ys,e,hq1,hq2,q⟩:=q1
  subst e
  cases r1 with
  | cons r rr =>
    cases rr with
    | cons r' rr =>
      cases rr
      cases r
      cases r'
      obtain ⟨its1,rv1,p1,_⟩:=I1.sqb hq1
      obtain ⟨its2,rv2,p2,_⟩:=I1.sqb hq2
      refine qkS p1 p2 fun h' z1 z2 z3 z4 z5 hk=>wpAny_pyIter_zip z1 ?_
      have I2:Inv X pins σ H1 { s1 with heap:=h' }:=I1.kept (t':=s1.toks) hk
      have fr:∀ c,s1.heap.objs.size≤c→qgk X pins H1 c:=fun c hc=>I1.fpOk hc (I1.hok.fresh hc)
      generalize s1.heap.objs.size=n at *
      refine ⟨n+4,[n+4,n+2,n+3,n,n+1],_,_,H1,rfl,I2,qkr b1 b2 l1 l2 (n+4) (n+2) (n+3) n (n+1) (zap n),⟨z1,z2,⟨_,_,z3⟩,z4,z5⟩,fun c hc=>fr c ?_,q⟩
      simp only [List.mem_cons,List.not_mem_nil,or_false] at hc
      rcases hc with rfl | rfl | rfl | rfl | rfl
      · exact Nat.le_add_right _ _
      · exact Nat.le_add_right _ _
      · exact Nat.le_add_right _ _
      · exact Nat.le_refl _
      · exact Nat.le_add_right _ _
def qp8 (t:TDL):TDL:=fun ρ R=>t ρ fun ds=>match ds with | [d,e]=>∃ xs ys,qfc d=some xs∧qfc e=some ys∧R (qm0 xs ys) | _=>False
theorem qn4 {ets:List Expr} {ek:Nat} (hg:Gl X "zip") (hm:X.mg "zip"=none) (ha:PAD K X [a,b] tl) (hs:starEach [a,b] X.env=[(false,eval a X.env),(false,eval b X.env)]:=by rfl) (hs2:starEach [b] X.env=[(false,eval b X.env)]:=by rfl):PID K X (.Tuple ets ek tp) (.Call (.Name "zip" p) [a,b] [] pos) (qp8 tl) :=
  ⟨fun hK=>(ql1 hK hg hm (ha.pa hK) hs hs2).imp fun σ H R' hq0=>by obtain ⟨H0,Φ,ρ,R,E,t,k⟩:=hq0;exact ⟨H0,Φ,ρ,_,E,t,fun ds Φ1 H1 vs r g rv _=>by
    match ds,r with
    | [d,e],⟨xs,ys,hx,hy,r⟩ =>
      obtain ⟨v,w,rfl,r1,r2⟩:=rv.two_inv
      obtain ⟨q1,a1,ws,rfl,h1,h2⟩:=r1.seq hx
      obtain ⟨q2,a2,us,rfl,h3,h4⟩:=r2.seq hy
      exact ⟨q1,q2,a1,a2,ws,us,rfl,SqB.same g.s h1,SqB.same g.s h3,k _ Φ1 H1 _ r g (qg6 h1 h3 h2 h4)⟩⟩⟩
variable {gs : qix}
def qoK (n:Nat) (t:qix):TGD:=fun d ρ R=>match d with | .tup ds=>ds.length=n∧t ds ρ R | .lst ds=>ds.length=n∧t ds ρ R | _=>False
theorem PG.or {tg:Expr} {t t':TG} (h:PG X tg t) (h':PG X tg t'):PG X tg (fun v σ H Q=>t v σ H Q∨t' v σ H Q):=by
  intro pins s σ H v u Q I r hw
  rcases hw with hw | hw
  · exact h pins s σ H v u Q I r hw
  · exact h' pins s σ H v u Q I r hw
theorem qlK {k n:Nat} (hc:X.calm=true) (h:PGDs K X es gs) (hn:(assignEach es X.env).length=n:=by rfl) (hst:(assignEach es X.env).findIdx? (·.1)=none:=by rfl):PGD K X (.Tuple es k pos) (qoK n gs) :=
  ⟨fun hK=>((qhu hK hc (h.pg hK) hn hst).or (qh2 hK hc (h.pg hK) hn hst)).imp fun v σ H Q hq0=>by
    obtain ⟨H0,Φ,ρ,d,R,E,r,g,k⟩:=hq0
    cases d with
    | tup ds=>cases r with | tup h1 h2 h3=>exact .inl ⟨_,_,rfl,.of (E.fz _ _ h1),by rw [h2];exact g.1,H0,Φ,ρ,ds,R,E,⟨h2,h3⟩,g.2,k⟩
    | lst ds=>cases r with | lst h1 h2 h3=>exact .inr ⟨_,_,rfl,.of (E.fz _ _ h1),by rw [h2];exact g.1,H0,Φ,ρ,ds,R,E,⟨h2,h3⟩,g.2,k⟩
    | _=>exact g.elim⟩
theorem qok {k n:Nat} {t:qix} (h:GMs k t):GM k (qoK n t):=⟨⟨fun d ρ R r=>by
  cases d with
  | tup ds=>exact ⟨r.1,h.k.p ds ρ R r.2⟩
  | lst ds=>exact ⟨r.1,h.k.p ds ρ R r.2⟩
  | _=>exact r⟩,fun d ρ R R' hr r=>by
  cases d with
  | tup ds=>exact ⟨r.1,h.m ds ρ R R' hr r.2⟩
  | lst ds=>exact ⟨r.1,h.m ds ρ R R' hr r.2⟩
  | _=>exact r⟩
theorem qnZ {Φ H:Hp} {d:D} {v:V} {T:String} {r:Bool} (s:Same Φ H) (h:RpQ K Φ H d v) (e:qnf d T=some r):IsiV K H v T r:=by
  have sp:∀ {c:Prop} [Decidable c] {x:Bool} {y:Option Bool},(if c then some x else y)=some r→(c∧x=r)∨y=some r:=fun {c _ x y} h=>by
    by_cases hc:c
    · rw [if_pos hc] at h;cases h;exact .inl ⟨hc,rfl⟩
    · rw [if_neg hc] at h;exact .inr h
  cases d with
  | int i =>
    cases h.int
    rcases sp e with ⟨rfl,rfl⟩ | e
    · exact .int_int _
    rcases sp e with ⟨rfl,rfl⟩ | e
    · exact .int_bool _
    rcases sp e with ⟨rfl,rfl⟩ | e
    · exact .int_tuple _
    rcases sp e with ⟨rfl,rfl⟩ | e
    · exact .int_str _
    cases e
  | bl i =>
    cases h.bl
    rcases sp e with ⟨rfl,rfl⟩ | e
    · exact .bl_int _
    rcases sp e with ⟨rfl,rfl⟩ | e
    · exact .bl_bool _
    rcases sp e with ⟨rfl,rfl⟩ | e
    · exact .bl_tuple _
    cases e
  | str i =>
    cases h.str
    rcases sp e with ⟨rfl,rfl⟩ | e
    · exact .str_str _
    rcases sp e with ⟨rfl,rfl⟩ | e
    · exact .str_tuple _
    cases e
  | non=>cases e
  | tup ds =>
    obtain ⟨a,vs,rfl,h1,_,h2⟩:=h.tup s
    rcases sp e with ⟨rfl,rfl⟩ | e
    · exact .tup_tuple h1
    rcases sp e with ⟨rfl,rfl⟩ | e
    · exact .tup_int h1
    cases e
  | lst ds =>
    obtain ⟨a,vs,rfl,h1,h2⟩:=h.lst s
    rcases sp e with ⟨rfl,rfl⟩ | e
    · exact .lst_tuple (.of h1)
    rcases sp e with ⟨rfl,rfl⟩ | e
    · exact .lst_list (.of h1)
    cases e
  | fzl ds=>cases e
  | obj C fs=>cases e
  | map kvs=>cases e
def qqV (T:String) (t:TD):TD:=fun ρ R=>t ρ fun d=>∃ r,qnf d T=some r∧R (.bl r)
theorem qiO {T:String} {tx:Str} {p2:Pos} (hg:Gl X "isinstance") (hm:X.mg "isinstance"=none) (ha:PQ K X a t) (hT:PE X (.Name tx p2) (tC (.ty T)))
    (he:starEach [a,.Name tx p2] X.env=(false,eval a X.env)::starEach [.Name tx p2] X.env) (he2:starEach [.Name tx p2] X.env=(false,eval (.Name tx p2) X.env)::starEach [] X.env):PD K X (.Call (.Name "isinstance" p) [a,.Name tx p2] [] pos) (qqV T t) :=
  ⟨fun hK=>(qhD (qjX hK) hg hm boot_isinstance (qbM (ha.pe hK) (qbM hT pa_nil he2) he) (by decide) (by decide) he (qac he2 qag)).imp fun σ H Q hq0=>by obtain ⟨H0,Φ,ρ,R,E,t,k⟩:=hq0;exact ⟨H0,Φ,ρ,_,E,t,fun d Φ1 H1 v r g rv=>by
    obtain ⟨rr,hr,r⟩:=r
    exact ⟨v,T,rr,rfl,qnZ g.s rv hr,k _ Φ1 H1 _ r g (.bl _)⟩⟩⟩
theorem qn0 (i:Int):qnf (.int i) "int"=some true:=rfl
theorem qnK (i:Int):qnf (.int i) "bool"=some false:=rfl
theorem qgJ (xs:List D):qnf (.tup xs) "tuple"=some true:=rfl
end
theorem qbf {α:Type} {f:α→D} {ns:List α} {i:Nat} {x:D} (h:(ns.map f)[i]?=some x):∃ k,x=f k∧ns[i]?=some k:=by
  rw [List.getElem?_map] at h
  cases e:ns[i]? with
  | none=>rw [e] at h;cases h
  | some k=>rw [e] at h;cases h;exact ⟨k,rfl,rfl⟩
theorem qax {α:Type} {f:α→D} {ns:List α} {i:Nat} {n:α} {k:Int} (h:ns[i]?=some n) (e:k=(i:Int)):atI (ns.map f) k=some (f n):=qoP (by rw [List.getElem?_map,h];rfl) e
theorem qjO {ns:List Int} {k:Int} (h0:0≤k) (h:k<(ns.length:Int)):∃ v:Int,atI (ns.map D.int) k=some (.int v):=by
  have hk:k.toNat<ns.length:=by omega
  exact ⟨_,qax (qao hk) (by omega)⟩
def qlu:SpD:=fun ds R=>∃ ns:List Int,ds=[.fzl (ns.map D.int)]∧ns.length≤63∧R (.bl true)
def qnQ (K:PySem.W.Frag):Sp:=fun vs H Q _=>∃ (a:Addr) (ns:List Int),vs=[.ref a]∧SqL K H a (ns.map V.int)∧ns.length≤63∧TabF K H∧∀ H',Q (.bl true) H'
theorem qkb {K:PySem.W.Frag}:∀ vs H Q E,qnQ K vs H Q E→lSp K qlu vs H Q E:=by
  rintro vs H Q E ⟨a,ns,rfl,hS,hl,tb,q⟩
  refine ⟨H,[.fzl (ns.map D.int)],fun d=>d=.bl true,Same.refl _,tb,.one ((RpL.ints ns).fzl hS),⟨ns,rfl,hl,rfl⟩,fun d Φ' H' v r g rv=>?_⟩
  subst r
  cases rv
  exact q _
section
variable {K : PySem.W.Frag} {H H' Φ : Hp} {v : V} {vs : List V}
end
theorem qhW {α β:Type} (f:α→β) (xs:List α) (lo hi:Option Int):qeM (xs.map f) lo hi=(qeM xs lo hi).map f:=by
  unfold qeM
  rw [List.length_map,List.map_take,List.map_drop]
section
variable {g : TGD} {te : TD} {ρ : Rho} {R : List D → Prop}
theorem qkW {ds:List D} (ws:List D) (hw:ws.length=ds.length) (hlen:ds.length<sizeLine) (Q:Nat→D→Prop) (hQ:∀ i y,Q i y→ws[i]?=some y) (hb:∀ i d,ds[i]?=some d→g d ρ fun ρ1=>te ρ1 (Q i)) (k:R ws) :
    ds.length<sizeLine∧∃ P:Nat→D→Prop,(∀ i d,ds[i]?=some d→g d ρ fun ρ1=>te ρ1 (P i))∧∀ ys:List D,ys.length=ds.length→(∀ i y,ys[i]?=some y→P i y)→R ys:=by
  refine ⟨hlen,Q,hb,fun ys hl hy=>?_⟩
  have:ys=ws:=by
    refine List.ext_getElem? fun i=>?_
    rcases Nat.lt_or_ge i ys.length with c | c
    · rw [qao c,hQ i _ (hy i _ (qao c))]
    · rw [List.getElem?_eq_none c,List.getElem?_eq_none (by omega)]
  rw [this]
  exact k
theorem qgM {α:Type} {f:α→D} {xs:List α} (h:α→D) (hlen:xs.length<sizeLine) (hb:∀ x∈xs,g (f x) ρ fun ρ1=>te ρ1 fun y=>y=h x) (k:R (xs.map h)) :
    (xs.map f).length<sizeLine∧∃ P:Nat→D→Prop,(∀ i d,(xs.map f)[i]?=some d→g d ρ fun ρ1=>te ρ1 (P i))∧∀ ys:List D,ys.length=(xs.map f).length→(∀ i y,ys[i]?=some y→P i y)→R ys:=by
  refine qkW (xs.map h) (by simp) (by rw [List.length_map];exact hlen) (fun i=>match xs[i]? with | some x=>fun y=>y=h x | none=>fun _=>False) (fun i y q=>?_) (fun i d hd=>?_) k
  · rw [List.getElem?_map]
    cases e:xs[i]? with
    | none=>rw [e] at q;exact q.elim
    | some x=>rw [e] at q;rw [q];rfl
  · obtain ⟨x,rfl,hx⟩:=qbf hd
    have e:(match xs[i]? with | some x=>fun y=>y=h x | none=>fun _=>False:D→Prop)=fun y=>y=h x:=by rw [hx]
    rw [e]
    exact hb x (List.mem_of_getElem? hx)
end
end L2
namespace L2
theorem ff {p:Prop} (h:false=true):p:=by cases h
theorem tf {p:Prop} (h:true=false):p:=by cases h
end L2
namespace L2
end L2
namespace L2
theorem qkJ {α:Type} (f:α→D) (es:List α) (d:α):es.map f++[f d]=(es++[d]).map f:=by simp
end L2
namespace L2
open PySem PySem.Spec PyProof.Rows
section
variable {g : TGD} {te : TD} {ρ : Rho} {R : List D → Prop}
theorem qgv {α:Type} {f:α→D} {xs:List α} (h:α→Int) (hlen:xs.length<sizeLine) (hb:∀ x∈xs,g (f x) ρ fun ρ1=>te ρ1 fun y=>y=.int (h x)) (k:R ((xs.map h).map D.int)) :
    (xs.map f).length<sizeLine∧∃ P:Nat→D→Prop,(∀ i d,(xs.map f)[i]?=some d→g d ρ fun ρ1=>te ρ1 (P i))∧∀ ys:List D,ys.length=(xs.map f).length→(∀ i y,ys[i]?=some y→P i y)→R ys :=
  qgM (fun x=>D.int (h x)) hlen hb (by rw [List.map_map] at k;exact k)
end
theorem qkm {n:Nat} {g g':Nat→Bool} (h:∀ j,j<n→g j=g' j):(List.range n).all g=(List.range n).all g':=by
  rw [Bool.eq_iff_iff,List.all_eq_true,List.all_eq_true]
  exact ⟨fun q j hj=>(h j (List.mem_range.mp hj)) ▸ q j hj,fun q j hj=>(h j (List.mem_range.mp hj)).symm ▸ q j hj⟩
section
variable {K : PySem.W.Frag} {X : Cx} {pins : List (Addr × Obj)} {σ : St} {Φ H : Hp} {s : Shared}
theorem qnA (hK:X.K=K) (I:Inv X pins σ H s) (sm:Same Φ H):∀ (n:Nat) {d d' e:D} {b b':Bool} {v:V},Rp K Φ d v→Rp K Φ d' v→cmB n d e=some b→cmB n d' e=some b'→b=b':=by
  intro n
  have flat:∀ (m:Nat) {d d' e:D} {b b':Bool} {v:V},(∀ a,v≠.ref a)→Rp K Φ d v→Rp K Φ d' v→cmB m d e=some b→cmB m d' e=some b'→b=b':=fun m {d d' e b b' v} hf r1 r2 h1 h2=>by
    have:d=d':=by
      cases r1 with
      | int i=>cases r2;rfl
      | bl i=>cases r2;rfl
      | str i=>cases r2;rfl
      | non=>cases r2;rfl
      | tup _ _ _=>exact absurd rfl (hf _)
      | lst _ _ _=>exact absurd rfl (hf _)
      | fzl _ _ _=>exact absurd rfl (hf _)
      | obj _ _ _ _=>exact absurd rfl (hf _)
      | map _ _ _=>exact absurd rfl (hf _)
    subst this
    rw [h1] at h2
    cases h2
    rfl
  induction n with
  | zero =>
    intro d d' e b b' v r1 r2 h1 h2
    by_cases hf:∀ a,v≠.ref a
    · exact flat 0 hf r1 r2 h1 h2
    · cases r1 with
      | int i=>exact absurd (fun a e=>nomatch e) hf
      | bl i=>exact absurd (fun a e=>nomatch e) hf
      | str i=>exact absurd (fun a e=>nomatch e) hf
      | non=>exact absurd (fun a e=>nomatch e) hf
      | tup _ _ _=>cases e <;> cases h1
      | lst _ _ _=>cases e <;> cases h1
      | fzl _ _ _=>cases e <;> cases h1
      | obj _ _ _ _=>cases e <;> cases h1
      | map _ _ _=>cases e <;> cases h1
  | succ n ih =>
    intro d d' e b b' v r1 r2 h1 h2
    by_cases hf:∀ a,v≠.ref a
    · exact flat _ hf r1 r2 h1 h2
    have zip:∀ {xs xs' ys:List D} {vs:List V} {b b':Bool},vs.length=xs.length→vs.length=xs'.length→(∀ (i:Nat) (v:V) (d:D),vs[i]?=some v→xs[i]?=some d→Rp K Φ d v)→(∀ (i:Nat) (v:V) (d:D),vs[i]?=some v→xs'[i]?=some d→Rp K Φ d v)→cmL (cmB n) xs ys=some b→cmL (cmB n) xs' ys=some b'→b=b':=fun {xs xs' ys vs b b'} l1 l2 p1 p2 h1 h2=>by
      obtain ⟨g,hg,hb⟩:=qc8 h1
      obtain ⟨g',hg',hb'⟩:=qc8 h2
      have e1:xs.length=xs'.length:=by omega
      rw [hb,hb',e1]
      congr 1
      refine qkm fun j j0=>?_
      have i0:j<vs.length:=by omega
      have i1:j<xs.length:=by omega
      have i2:j<xs'.length:=by omega
      have i3:j<ys.length:=by omega
      exact ih (p1 j _ _ (qao i0) (qao i1)) (p2 j _ _ (qao i0) (qao i2)) (hg j _ _ (qao i1) (qao i3)) (hg' j _ _ (qao i2) (qao i3))
    cases r1 with
    | int i=>exact absurd (fun a e=>nomatch e) hf
    | bl i=>exact absurd (fun a e=>nomatch e) hf
    | str i=>exact absurd (fun a e=>nomatch e) hf
    | non=>exact absurd (fun a e=>nomatch e) hf
    | @tup a vs xs a1 a2 a3=>cases r2 with
      | @tup _ ws ys b1 b2 b3 =>
        have hvw:vs=ws:=I.tuple_inj (.of (sm _ _ a1)) (.of (sm _ _ b1))
        subst hvw
        cases e with
        | tup es=>exact zip a2 b2 a3 b3 h1 h2
        | _=>cases h1
      | @lst _ ws ys b1 b2 b3=>cases e <;> first | cases h1;done | cases h2;done
      | @fzl _ ws ys b1 b2 b3=>cases e <;> first | cases h1;done | cases h2;done
      | obj _ _ _ _=>cases e <;> first | cases h1;done | cases h2;done
      | map _ _ _=>cases e <;> first | cases h1;done | cases h2;done
    | @lst a vs xs a1 a2 a3=>cases r2 with
      | @lst _ ws ys b1 b2 b3 =>
        have hvw:vs=ws:=by rw [a1] at b1;cases b1;rfl
        subst hvw
        cases e with
        | lst es =>
          have q1:(if xs.length=es.length then cmL (cmB n) xs es else some false)=some b:=h1
          have q2:(if ys.length=es.length then cmL (cmB n) ys es else some false)=some b':=h2
          by_cases c:xs.length=es.length
          · rw [if_pos c] at q1
            rw [if_pos (by omega)] at q2
            exact zip a2 b2 a3 b3 q1 q2
          · rw [if_neg c] at q1
            rw [if_neg (by omega)] at q2
            rw [q1] at q2
            cases q2
            rfl
        | _=>cases h1
      | @tup _ ws ys b1 b2 b3=>cases e <;> first | cases h1;done | cases h2;done
      | @fzl _ ws ys b1 b2 b3=>cases e <;> first | cases h1;done | cases h2;done
      | obj _ _ _ _=>cases e <;> first | cases h1;done | cases h2;done
      | map _ _ _=>cases e <;> first | cases h1;done | cases h2;done
    | fzl _ _ _=>cases e <;> cases h1
    | obj _ _ _ _=>cases e <;> cases h1
    | map _ _ _=>cases e <;> cases h1
end
section
variable {K : PySem.W.Frag} {X : Cx} {a b : Expr} {ta tb : TD} {apos cpos : Pos}
end
section
variable {K : PySem.W.Frag} {X : Cx} {e b : Expr} {te tk : TD} {pos spos npos : Pos} {x : Str}
theorem qjL (h:X.K=K):qpp X (qob K):=h ▸ qkx
end
section
variable {K : PySem.W.Frag} {X : Cx} {e a st : Expr} {pos p2 : Pos} {te : TE}
end
section
variable {K : PySem.W.Frag} {X : Cx} {a st : Expr} {pos p2 : Pos} {ta : TD} {to : TOD}
end
section
variable {K : PySem.W.Frag} {Φ Φ0 Φ1 H H0 H1 : Hp} {p : Addr} {d : D} {v : V} {ds : List D} {vs : List V}
end
section
variable {K : PySem.W.Frag} {X : Cx} {e : Expr} {te : TD} {pos pos' : Pos}
end
section
variable {K : PySem.W.Frag} {X : Cx} {Φ H : Hp} {a e : Expr} {es : List Expr} {ta : TD} {tl : TDL} {C : Addr} {fl : Str} {pos p : Pos}
variable {CX : CXT} {k : Nat} {f : Addr} {fd : FuncData} {ps ns : List Str} {x : Str} {E : XK}
end
section
variable {prog : Program} {w : World} {A : Around} {E : Value → Shared → Prop} {s : Shared}
end
section
variable {K : PySem.W.Frag} {X : Cx} {a : Expr} {pos p p2 pos2 : Pos} {tl : TDL}
end
section
variable {X : Cx} {A : Around} {scope : Scope} {p : Str} {r : List Str} {cap : List (Option Nat)} {cl : List (Str × Addr)} {f c' : Addr} {qual name : Str} {cd pm ctv : Value} {pins : List (Addr × Obj)} {σ : St} {H : Hp} {s s1 : Shared} {v : V} {u : Value} {params : Arguments} {body : Expr} {te : TE} {Q : VK} {E : Value → Shared → Prop}
end
section
variable {X : Cx} {A : Around} {pins : List (Addr × Obj)} {σ : St} {H : Hp} {s : Shared} {params : Arguments} {body : Expr} {scope : Scope} {pos : Pos} {c P : Addr} {t0 : Tok} {Q : Value → Shared → Prop} {E : Value → Shared → Prop}
end
section
variable {X : Cx} {pins : List (Addr × Obj)} {σ : St} {H : Hp} {xs : List V} {l S I f : Addr} {fob : Obj} {kf : Nat → Int} {G : Hp → Prop} {R : Result → Shared → Prop} {kw : List (Str × Value)}
end
section
variable {X : Cx} {pins : List (Addr × Obj)} {σ : St} {H : Hp} {xs : List V} {l f : Addr} {fob : Obj} {kf : Nat → Int} {G : Hp → Prop} {s : Shared} {Q : Value → Shared → Prop} {E : Value → Shared → Prop}
end
section
variable {K : PySem.W.Frag} {X : Cx} {l body : Expr} {tl tb : TD} {scope : Scope} {p : Str} {r : List Str} {cap : List (Option Nat)} {params : Arguments} {np pos lp kp1 kp2 kp3 : Pos} {c P : Addr} {j : Nat}
end
section
variable {P : Program} {w : World} {K : PySem.W.Frag} {mg : Str → Option Value} {base : Heap}
theorem Fun.okL {x qual:Str} {st:Stmt} {f:Addr} {fd:FuncData} {N ps:List Str} {k:Nat} {sp:Sp} (F:Fun K x qual st f fd) (S:FnScope N ps (qah st)) (len:∀ vs H Q E,sp vs H Q E→vs.length=ps.length)
    (hbody:∀ (cdv:Value) (A:Around) (outer:List Env) (s:Shared) (H:Hp) (vs:List V) (Q:VK) (E:XK),fd.code=cdv→Room k (A.deeper (envOfC qual (qah st) s.heap.objs.size f cdv))→sp vs H Q E →
      ∃ t,PSs (qk9 CX0 P w K mg base N qual (qah st) f cdv A outer s H E).nox (qby st) t∧t { nx:=fun _ H'=>Q .non H',rt:=Q } (start N vs) H):FnOk P w K mg base CX0 (k+1) f fd ps sp:=by
  obtain ⟨oc,od,kV,doc,pm,an,cdv,ct,osl,rfl,lk,hcd⟩:=F.ex
  refine qnw lk hcd S len fun A outer s H vs Q E hr hsp=>?_
  obtain ⟨t,h,q⟩:=hbody cdv A outer s H vs Q E rfl hr hsp
  exact ⟨t,h.nox,q⟩
end
theorem qfa {K:PySem.W.Frag} {x:Str} (a:PySem.W.nsIn K mainGlobals x=some none):qlD K x=none:=by
  unfold qlD
  simp only [a]
end L2
namespace L2
open PySem PySem.W PyProof.Rows
section
variable {key : Nat → Int} {N : Nat} {p : Array Nat}
variable (hk : ∀ i j, i < N → j < N → key i = key j → i = j)
include hk
end
end L2
namespace L2
open PySem PySem.Spec PySem.W PyProof.Rows PySem.Calls
section
variable {prog : Program} {w : World} {A : Around} {E : Value → Shared → Prop} {s : Shared} {h₀ : Heap} {L a : Addr} {m : Str → Option Value} {news : List (Addr × Obj)} {vs : List Value}
end
end L2
namespace L2
open PySem PySem.Spec PySem.W PyProof.Rows PySem.Calls
section
variable {K : PySem.W.Frag} {X : Cx}
end
end L2
namespace L2
open PySem PySem.Spec PyProof.Rows
def ql3:V→List V→Hp→VK→Prop:=fun x vs H Q=>∃ l xs i k y,x=.ref l∧vs=[.int i,y]∧i=((k:Nat):Int)∧H l=some (.lst xs)∧k≤xs.length∧xs.length<sizeLine∧Q .non (upd H l (.lst (xs.take k++y::xs.drop k)))
section
variable {X : Cx}
theorem qjj:MtM X "list.insert" ql3:=by
  intro pins s σ H x vs v us Q I rx rv h
  obtain ⟨l,xs,kk,k,y,rfl,rfl,ek,hH,hk,hz,q⟩:=h
  cases rx
  obtain ⟨w1,w2,rfl,r1,r2⟩:∃ w1 w2,us=[w1,w2]∧RelV (.int kk) w1∧RelV y w2:=by
    cases rv with
    | cons r1 rv =>
    cases rv with
    | cons r2 rv =>
    cases rv
    exact ⟨_,_,rfl,r1,r2⟩
  obtain ⟨t,rfl⟩:=r1
  obtain ⟨z,its,n,r,hl,e⟩:=I.lstM hH
  have hs:sizeLine=16777216:=sizeLine_eq
  have h63:(k:Int)<2 ^ 63:=by
    have:k≤16777216:=by omega
    have:(2:Int) ^ 63=9223372036854775808:=by decide
    omega
  have h64:-(2 ^ 63)≤(k:Int):=by
    have:(2:Int) ^ 63=9223372036854775808:=by decide
    omega
  have hfit:¬(!Builtin.List.listFitsIndex (k:Int))=true:=by rw [fitsIndex_both h64 h63];decide
  have hz2:its.toArray.size≤sizeLine:=by rw [List.size_toArray];omega
  rw [← ek] at hfit
  have M:=PySem.AutoListH.list_insert_list_int_val_1 l its.toArray n kk t w2 hfit hz2
  refine call_meets F.slot_list_insert ⟨_,e,rfl⟩ F.entry_list_insert (F.args_list_insert_3 _ _ _) M ⟨e,?_⟩
  refine ⟨.non,_,I.lset (its':=its.take k++_::its.drop k) hH e ?_ ((r.take k).append (.cons r2 (r.drop k))) ?_,rfl,q⟩
  · have e1:(if kk<0 then (kk+((its.toArray.size:Nat):Int)).toNat else min kk.toNat its.toArray.size)=k:=by
      rw [ek,if_neg (by omega),List.size_toArray,Int.toNat_natCast]
      omega
    show (its.toArray.extract 0 (if kk<0 then (kk+((its.toArray.size:Nat):Int)).toNat else min kk.toNat its.toArray.size)).push _++its.toArray.extract (if kk<0 then (kk+((its.toArray.size:Nat):Int)).toNat else min kk.toNat its.toArray.size)=_
    rw [e1]
    apply Array.toList_inj.mp
    simp
    exact List.take_of_length_le (Nat.le_of_eq List.length_drop)
  · rw [List.length_append,List.length_cons,List.length_take,List.length_drop]
    omega
end
theorem qmM {pos : Pos} {e e2 : Expr} {env : Env} (h : starEach [e, e2] env = (false, eval e env) :: starEach [e2] env) (h2 : starEach [e2] env = (false, eval e2 env) :: starEach [] env) : ((backTo pos (starEach [e, e2] env)).all (fun x => !x.1) && (backToKw pos (keywordEach [] env)).all (fun x => x.1.isSome)
      && decide ([e,e2].length+([]:List Keyword).length+(if ([]:List Keyword).isEmpty then 0 else 1)<30))=true:=by
  rw [h,h2]
  rfl
section
variable {K : PySem.W.Frag} {X : Cx} {e e2 : Expr} {te te2 : TD} {pos : Pos}
end
def qeJ:Key→D
  | .inl i=>.int i
  | .inr s=>.str s
theorem qdR {K:PySem.W.Frag} {Φ:Hp} {k:Key} {v:V} (r:Rp K Φ (qeJ k) v):v=kV k:=by
  cases k with
  | inl i=>cases r;rfl
  | inr s=>cases r;rfl
theorem qji {K:PySem.W.Frag} {Φ H:Hp} {k:Key} {v:V} (r:RpQ K Φ H (qeJ k) v):v=kV k:=by
  cases k with
  | inl i=>exact RpQ.int r
  | inr s=>exact RpQ.str r
theorem qfw {K:PySem.W.Frag} {Φ:Hp} {ks:List Key} {vs:List V} (r:RpL K Φ (ks.map qeJ) vs):vs=ks.map kV:=by
  refine List.ext_getElem? fun i=>?_
  rw [List.getElem?_map]
  cases h:ks[i]? with
  | none =>
    have h1:=List.getElem?_eq_none_iff.mp h
    exact List.getElem?_eq_none (by rw [r.1,List.length_map];exact h1)
  | some k =>
    obtain ⟨v,hv,rv⟩:=r.at (i:=i) (d:=qeJ k) (by rw [List.getElem?_map,h];rfl)
    rw [hv,qdR rv]
    rfl
def qfV (k:Key) (ks:List Key):Bool:=ks.any fun j=>decide (j=k)
theorem qhT (k:Key) (ks:List Key):qfV k ks=true↔k∈ks:=by
  unfold qfV
  rw [List.any_eq_true]
  exact ⟨fun ⟨j,h1,h2⟩=>of_decide_eq_true h2 ▸ h1,fun h=>⟨k,h,decide_eq_true rfl⟩⟩
theorem qdY (k:Key):qfd (kV k)=true:=by cases k <;> rfl
theorem qmy (j k:Key):eqV (kV j) (kV k)=decide (j=k):=by
  cases j with
  | inl a =>
    cases k with
    | inl b=>show (a == b)=_;by_cases h:a=b <;> simp [h]
    | inr b=>show false=_;simp
  | inr a =>
    cases k with
    | inl b=>show false=_;simp
    | inr b=>show (a == b)=_;by_cases h:a=b <;> simp [h]
theorem qhK (k:Key) (ks:List Key):inV (kV k) (ks.map kV)=qfV k ks:=by
  unfold inV qfV
  rw [List.any_map]
  exact List.any_congr rfl fun j=>qmy j k
def zIn (neg:Bool):RD2:=fun dx dy R=>∃ (k:Key) (ks:List Key),dx=qeJ k∧qfc dy=some (ks.map qeJ)∧R (.bl (neg != qfV k ks))
section
variable {K : PySem.W.Frag} {X : Cx}
theorem qla:OpD K X (compareOp .In) (zIn false):=⟨fun hK pins s σ H x y u v Q I rx ry hq0=>by
  obtain ⟨Φ,dx,dy,R,sm,hx,hy,⟨k,ks,rfl,e,h⟩,kk⟩:=hq0
  cases qji hx
  obtain ⟨a,vs,rfl,q,rl⟩:=hy.seq sm e
  cases qfw rl
  refine qjT pins s σ H _ _ u v Q I rx ry ⟨a,_,rfl,by rw [hK];exact q,qdY k,?_,?_⟩
  · rw [List.all_eq_true]
    intro z hz
    obtain ⟨j,_,rfl⟩:=List.mem_map.mp hz
    exact qdY j
  · have e2:(if false=true then !inV (kV k) (ks.map kV) else inV (kV k) (ks.map kV))=(false != qfV k ks):=by rw [qhK];simp
    rw [e2]
    exact kk _ Φ H _ h (.refl sm) (.bl _)⟩
theorem qfq:OpD K X (compareOp .NotIn) (zIn true):=⟨fun hK pins s σ H x y u v Q I rx ry hq0=>by
  obtain ⟨Φ,dx,dy,R,sm,hx,hy,⟨k,ks,rfl,e,h⟩,kk⟩:=hq0
  cases qji hx
  obtain ⟨a,vs,rfl,q,rl⟩:=hy.seq sm e
  cases qfw rl
  refine qgu pins s σ H _ _ u v Q I rx ry ⟨a,_,rfl,by rw [hK];exact q,qdY k,?_,?_⟩
  · rw [List.all_eq_true]
    intro z hz
    obtain ⟨j,_,rfl⟩:=List.mem_map.mp hz
    exact qdY j
  · have e2:(if true=true then !inV (kV k) (ks.map kV) else inV (kV k) (ks.map kV))=(true != qfV k ks):=by rw [qhK];simp
    rw [e2]
    exact kk _ Φ H _ h (.refl sm) (.bl _)⟩
end
section
variable {K : PySem.W.Frag} {X : Cx} {e ev : Expr} {te tv : TD} {pos : Pos}
end
section
variable {X : Cx}
end
section
variable {K : PySem.W.Frag} {X : Cx} {a b : Expr} {ta tb : TD} {apos cpos : Pos}
def qpE (d:D):TD:=fun _ R=>R d
theorem qj4 {x:Str} {i:Int} {tk:Tok} {pos:Pos} (hg:Gl X x) (hm:X.mg x=some (.int i tk)) (hd:(x == ("__debug__":Str))=false:=by decide):PD K X (.Name x pos) (qpE (.int i)) :=
  ⟨fun hK=>(qmJ (v:=.int i) hg hm ⟨tk,rfl⟩ hd).imp fun σ H Q hq0=>by
    obtain ⟨H0,Φ,ρ,R,E,t,k⟩:=hq0
    exact k _ Φ H _ t (.refl E.fz) (.int i)⟩
end
end L2
namespace L2
open PySem PySem.Spec PySem.W PyProof.Rows PySem.Calls
section
variable {K : PySem.W.Frag} {X : Cx}
end
end L2
namespace L2
open PySem PySem.Spec PyProof.Rows
section
variable {K : PySem.W.Frag} {X : Cx} {e ev : Expr} {te tv : TD} {tk : TDK} {pos p : Pos}
end
section
variable {K : PySem.W.Frag} {X : Cx} {a : Expr} {pos p p2 pos2 : Pos} {tl : TDL}
end
section
variable {K : PySem.W.Frag} {X : Cx} {e : Expr} {es : List Expr} {pos p : Pos} {tl : TDL} {te : TD} {tf : TDL} {sp : SpD} {CX : CXT} {k : Nat} {f : Addr} {fd : FuncData} {ps : List Str} {x : Str} {E : XK}
end
theorem qiX {K:PySem.W.Frag} (h:PySem.W.nsIn K mainGlobals "least_grown"=some none∧PySem.W.nsIn K mainGlobals "greatest_first"=some none):qiY K=[]:=by
  unfold qiY
  rw [List.filterMap_cons,qfa h.1,List.filterMap_cons,qfa h.2]
  rfl
structure Cl (P:Program) (w:World) (K:PySem.W.Frag) (mg:Str→Option Value) (base:Heap) (n:Nat) (x:Str) (ps:List Str) (z:SpD):Prop where
  ex:∃ (f:Addr) (fd:FuncData),FnOk P w K mg base CX0 n f fd ps (lSp K z)∧Binds K fd ps []∧PySem.W.keepIn K (.ref f)=true∧mg x=some (.ref f)
section
variable {P : Program} {w : World} {K : PySem.W.Frag} {mg : Str → Option Value} {base : Heap} {n m : Nat} {x : Str} {ps : List Str} {z : SpD} {X : Cx} {e : Expr} {es : List Expr} {pos p : Pos} {tl : TDL} {st : Stmt} {f : Addr} {fd : FuncData} {h : Heap}
theorem Cl.mono (C:Cl P w K mg base n x ps z) (k:n≤m):Cl P w K mg base m x ps z:=by
  obtain ⟨f,fd,F,r⟩:=C.ex
  exact ⟨f,fd,F.mono k,r⟩
theorem Cl.of (F:Fun K x x st f fd) (b:Binds K fd ps []) (m:mg x=some (.ref f)) (H:FnOk P w K mg base CX0 n f fd ps (lSp K z)):Cl P w K mg base n x ps z:=⟨f,fd,H,b,F.kp,m⟩
theorem qaK (C:Cl X.prog X.w K X.mg X.base n x ps z) (hr:Room n X.A) (hg:Gl X x)
    (ha:PAD K X (e::es) tl) (he:starEach (e::es) X.env=(false,eval e X.env)::starEach es X.env) (hpl:(backTo pos (starEach es X.env)).any (·.1)=false) (hdb:(x == ("__debug__":Str))=false:=by decide) :
    PD K X (.Call (.Name x p) (e::es) [] pos) (qkD z tl):=⟨fun hK=>by
  subst hK
  obtain ⟨f,fd,F,b,k,m⟩:=C.ex
  exact (qnF F hr hg m k b qlZ ha he hpl hdb).pe rfl⟩
def dE (P:Params) (x:Str) (n:Nat) (v:Value):DictEntry:=⟨PyData.keyHash P x,.str x n,v⟩
def cO (n:Str) (a:Nat) (q:Str) (b c:Nat) (l m:Int) (k:Int) (r:Nat) (g:Int) (t:Nat) (x y:Value) (z:Nat) (i:Int) (d:Nat):Obj:=⟨.type "code",none,.fields #[.str n a,.str q b,.str "/claim/cut.py" c,.int l 0,.int m 0,.int 0 0,.int 0 0,.int k 0,.ref r,.bool true,.int g 0,.ref t,.none,x,y,.ref z,.int i 0,.int l 0,.str "/claim/cut.py" d],#[]⟩
def fO (s:Stmt) (n q m:Str) (i c:Nat):Obj:=⟨.type "function",none,.func (PySem.W.fnOf n q (qcB s) (qby s) (qah s) .none .none .none (.str m i) none (.ref c) .none),#[]⟩
def Has (K:PySem.W.Frag) (s:Stmt) (x:Str):Prop:=∃ f m i c,PySem.W.nsIn K mainGlobals x=some (some (.ref f))∧K.lookup f=some (fO s x x m i c)∧PySem.W.codeIn K (.ref c) x=true
theorem Has.of {s:Stmt} {m:Str} {i c:Nat} (a:PySem.W.nsIn K mainGlobals x=some (some (.ref f))) (l:K.lookup f=some (fO s x x m i c)) (k:PySem.W.codeIn K (.ref c) x=true):Has K s x:=⟨f,m,i,c,a,l,k⟩
theorem Has.fn (a:Has K st x) (X:K.In h) (G:h.Ns mainGlobals mg):∃ f fd,Fun K x x st f fd∧mg x=some (.ref f)∧∃ m i c,fd=PySem.W.fnOf x x (qcB st) (qby st) (qah st) .none .none .none (.str m i) none (.ref c) .none:=by
  obtain ⟨f,m,i,c,a,l,k⟩:=a
  exact ⟨f,_,qnl l k (by unfold PySem.W.keepIn;simp only [l];rfl),PySem.W.mg_of X G a,m,i,c,rfl⟩
theorem Fun.cl (F:Fun K x x st f fd) (m:mg x=some (.ref f)) (H:FnOk P w K mg base CX0 n f fd ps (lSp K z))
    (b:∀ (kV doc pm:Value) (an:Option Addr) (cdv ct:Value) (us:List Value),us.length=ps.length→bindArgs (PySem.W.fnOf x x (qcB st) (qby st) (qah st) .none kV doc pm an cdv ct) ⟨us,[]⟩=pure (ps.zip us)):Cl P w K mg base n x ps z:=.of F (F.binds b) m H
end
section
variable {K : PySem.W.Frag} {X : Cx} {n : Nat} {x : Str} {ps : List Str} {z : SpD} {e : Expr} {es : List Expr} {pos p : Pos} {tl : TDL}
end
section
variable {prog : Program} {w : World} {A : Around} {E : Value → Shared → Prop} {s : Shared}
end
section
variable {P : Program} {w : World} {H : Hp} {h h' : Heap} {a : Addr} {o : HO} {fs ex : List Addr}
end
section
variable {X : Cx} {a b : Expr} {p p2 pos pos2 : Pos}
end
section
variable {K : PySem.W.Frag} {X : Cx} {a b : Expr} {p p2 pos pos2 : Pos} {tl : TDL}
end
end L2
namespace L2
open PySem PySem.Spec PySem.W PyProof.Rows PySem.Calls
section
variable {K : PySem.W.Frag} {X : Cx}
end
section
variable {X : Cx} {pins : List (Addr × Obj)} {σ : St} {H : Hp} {xs : List V} {l f : Addr} {fob : Obj} {kf : Nat → Int} {G : Hp → Prop} {s : Shared} {Q : Value → Shared → Prop} {E : Value → Shared → Prop}
end
end L2
namespace L2
open PySem PySem.Spec PyProof.Rows
section
variable {K : PySem.W.Frag} {X : Cx} {l body : Expr} {tl tb : TD} {scope : Scope} {p : Str} {r : List Str} {cap : List (Option Nat)} {params : Arguments} {np pos lp kp1 kp2 kp3 : Pos} {c P : Addr} {j : Nat}
end
inductive Fl where | v (d:D) | l (xs:List D) | al (p:Addr)
inductive Om where | lst (xs:List D) | map (kvs:List (Key × D)) | mpT (kvs:List (List Key × D)) | obj (nm:Str) (fs:List (Str × Fl))
inductive Sm where | v (d:D) | ob (a:Option Addr) (o:Om)
abbrev Sm.own (xs:List D):Sm:=.ob none (.lst xs)
abbrev qaE:=List (Option Sm)
def KvR {κ:Type} (K:PySem.W.Frag) (Φ:Hp) (a:κ × D) (b:κ × V):Prop:=a.1=b.1∧Rp K Φ a.2 b.2
inductive FlsR (K:PySem.W.Frag) (Φ H:Hp):List (Str × Fl)→List (Str × V)→List Addr→Prop where
  | nil:FlsR K Φ H [] [] []
  | v {f:Str} {d:D} {v:V} {fs:List (Str × Fl)} {vs:List (Str × V)} {qs:List Addr}:Rp K Φ d v→FlsR K Φ H fs vs qs→FlsR K Φ H ((f,.v d)::fs) ((f,v)::vs) qs
  | l {f:Str} {ds:List D} {ws:List V} {q:Addr} {fs:List (Str × Fl)} {vs:List (Str × V)} {qs:List Addr}:H q=some (.lst ws)→RpL K Φ ds ws→FlsR K Φ H fs vs qs→FlsR K Φ H ((f,.l ds)::fs) ((f,.ref q)::vs) (q::qs)
  | al {f:Str} {p:Addr} {fs:List (Str × Fl)} {vs:List (Str × V)} {qs:List Addr}:FlsR K Φ H fs vs qs→FlsR K Φ H ((f,.al p)::fs) ((f,.ref p)::vs) qs
inductive OmS (K:PySem.W.Frag) (Φ H:Hp):Om→Addr→List Addr→Prop where
  | lst {ds:List D} {vs:List V} {p:Addr}:H p=some (.lst vs)→RpL K Φ ds vs→OmS K Φ H (.lst ds) p [p]
  | map {kvs:List (Key × D)} {ws:List (Key × V)} {p:Addr}:H p=some (.dK ws)→Paired (KvR K Φ) kvs ws→OmS K Φ H (.map kvs) p [p]
  | mpT {kvs:List (List Key × D)} {ws:List (List Key × V)} {p:Addr}:H p=some (.dT ws)→Paired (KvR K Φ) kvs ws→OmS K Φ H (.mpT kvs) p [p]
  | obj {nm:Str} {fs:List (Str × Fl)} {C dx:Addr} {vs:List (Str × V)} {p:Addr} {qs:List Addr}:PySem.W.nsIn K mainGlobals nm=some (some (.ref C))→H p=some (.ins C dx vs)→FlsR K Φ H fs vs qs→(p::qs).Nodup→OmS K Φ H (.obj nm fs) p (p::qs)
section
variable {K : PySem.W.Frag} {H0 H H' Φ Φ' Φ0 : Hp} {fs : List (Str × Fl)} {vs : List (Str × V)} {qs F F' : List Addr} {o o' : Om} {p : Addr}
theorem qb6 {α β:Type} {F G:α→β→Prop} (h:∀ x y,F x y→G x y):∀ {l:List α} {m:List β},Paired F l m→Paired G l m
  | _,_,.nil=>.nil
  | _,_,.cons r t=>.cons (h _ _ r) (qb6 h t)
theorem FlsR.keep (s:Same Φ Φ') (h:FlsR K Φ H fs vs qs) (k:∀ b∈qs,∀ u,H b=some u→H' b=some u):FlsR K Φ' H' fs vs qs:=by
  induction h with
  | nil=>exact .nil
  | v r _ ih=>exact .v (r.same s) (ih k)
  | l h1 h2 _ ih=>exact .l (k _ List.mem_cons_self _ h1) (h2.same s) (ih fun b hb=>k b (List.mem_cons_of_mem _ hb))
  | al _ ih=>exact .al (ih k)
theorem FlsR.at (h:FlsR K Φ H fs vs qs):∀ b∈qs,∃ ws,H b=some (.lst ws):=by
  induction h with
  | nil=>intro b hb;cases hb
  | v r _ ih=>exact ih
  | l h1 h2 _ ih =>
    intro b hb
    rcases List.mem_cons.mp hb with rfl | hb
    · exact ⟨_,h1⟩
    · exact ih b hb
  | al _ ih=>exact ih
theorem OmS.keep (s:Same Φ Φ') (h:OmS K Φ H o p F) (k:∀ b∈F,∀ u,H b=some u→H' b=some u):OmS K Φ' H' o p F:=by
  cases h with
  | lst h1 h2=>exact .lst (k _ List.mem_cons_self _ h1) (h2.same s)
  | map h1 h2=>exact .map (k _ List.mem_cons_self _ h1) (qb6 (fun _ _ r=>⟨r.1,r.2.same s⟩) h2)
  | mpT h1 h2=>exact .mpT (k _ List.mem_cons_self _ h1) (qb6 (fun _ _ r=>⟨r.1,r.2.same s⟩) h2)
  | obj h0 h1 h2 h3=>exact .obj h0 (k _ List.mem_cons_self _ h1) (h2.keep s fun b hb=>k b (List.mem_cons_of_mem _ hb)) h3
theorem OmS.mem (h:OmS K Φ H o p F):p∈F:=by cases h <;> exact List.mem_cons_self
theorem OmS.at (h:OmS K Φ H o p F):∀ b∈F,∃ u,H b=some u∧OwK u:=by
  intro b hb
  cases h with
  | lst h1 h2=>rw [List.mem_singleton.mp hb];exact ⟨_,h1,trivial⟩
  | map h1 h2=>rw [List.mem_singleton.mp hb];exact ⟨_,h1,trivial⟩
  | mpT h1 h2=>rw [List.mem_singleton.mp hb];exact ⟨_,h1,trivial⟩
  | obj h0 h1 h2 h3 =>
    rcases List.mem_cons.mp hb with rfl | hb
    · exact ⟨_,h1,trivial⟩
    · obtain ⟨ws,hw⟩:=h2.at b hb
      exact ⟨_,hw,trivial⟩
theorem OmS.lst_inv {ds:List D} (h:OmS K Φ H (.lst ds) p F):F=[p]∧∃ vs,H p=some (.lst vs)∧RpL K Φ ds vs:=by
  cases h with
  | lst h1 h2=>exact ⟨rfl,_,h1,h2⟩
theorem OmS.map_inv {kvs:List (Key × D)} (h:OmS K Φ H (.map kvs) p F):F=[p]∧∃ ws,H p=some (.dK ws)∧Paired (KvR K Φ) kvs ws:=by
  cases h with
  | map h1 h2=>exact ⟨rfl,_,h1,h2⟩
theorem OmS.mpT_inv {kvs:List (List Key × D)} (h:OmS K Φ H (.mpT kvs) p F):F=[p]∧∃ ws,H p=some (.dT ws)∧Paired (KvR K Φ) kvs ws:=by
  cases h with
  | mpT h1 h2=>exact ⟨rfl,_,h1,h2⟩
theorem OmS.gr (g:Gr Φ H Φ' H') (h:OmS K Φ H o p F):OmS K Φ' H' o p F:=h.keep g.f fun b _ u e=>g.h b u e
end
structure EnvM' (K:PySem.W.Frag) (H0 Φ H:Hp) (σ:St) (ρ:qaE) (fp:Nat→List Addr):Prop where
  fz:Same Φ H
  len:σ.length=ρ.length
  sl:∀ (i:Nat) (d:D),ρ[i]?=some (some (.v d))→∃ v,σ[i]?=some (some v)∧Rp K Φ d v
  ow:∀ (i:Nat) (a:Option Addr) (o:Om),ρ[i]?=some (some (.ob a o))→∃ p,σ[i]?=some (some (.ref p))∧(∀ q,a=some q→q=p)∧OmS K Φ H o p (fp i)
  no:∀ (i:Nat) (a:Option Addr) (o:Om),ρ[i]?=some (some (.ob a o))→∀ b∈fp i,H0 b=none∧Φ b=none
  dj:∀ (i j:Nat) (a a':Option Addr) (o o':Om),ρ[i]?=some (some (.ob a o))→ρ[j]?=some (some (.ob a' o'))→i≠j→∀ b∈fp i,b∉fp j
  tb:TabF K Φ
def EnvM (K:PySem.W.Frag) (H0 Φ H:Hp) (σ:St) (ρ:qaE):Prop:=∃ fp,EnvM' K H0 Φ H σ ρ fp
section
variable {K : PySem.W.Frag} {H0 H H' Φ Φ' Φ0 : Hp} {σ σ2 : St} {ρ ρ2 : qaE} {fp : Nat → List Addr} {F F' : List Addr} {o o' : Om} {p : Addr} {d : D} {v : V} {i : Nat} {a : Option Addr}
theorem EnvM.fz (E:EnvM K H0 Φ H σ ρ):Same Φ H:=let ⟨_,E⟩:=E;E.fz
theorem EnvM.tb (E:EnvM K H0 Φ H σ ρ):TabF K Φ:=let ⟨_,E⟩:=E;E.tb
theorem EnvM.len (E:EnvM K H0 Φ H σ ρ):σ.length=ρ.length:=let ⟨_,E⟩:=E;E.len
theorem EnvM.sl (E:EnvM K H0 Φ H σ ρ) (h:ρ[i]?=some (some (.v d))):∃ v,σ[i]?=some (some v)∧Rp K Φ d v:=let ⟨_,E⟩:=E;E.sl i d h
theorem EnvM'.gr (E:EnvM' K H0 Φ H σ ρ fp) (g:Gr Φ H Φ' H'):EnvM' K H0 Φ' H' σ ρ fp :=
  ⟨g.s,E.len,fun i d h=>let ⟨v,e,r⟩:=E.sl i d h;⟨v,e,r.same g.f⟩,fun i a o h=>let ⟨p,e,ha,r⟩:=E.ow i a o h;⟨p,e,ha,r.gr g⟩,
    fun i a o h b hb=>by
      obtain ⟨p,_,_,r⟩:=E.ow i a o h
      obtain ⟨u,hu,k⟩:=r.at b hb
      exact ⟨(E.no i a o h b hb).1,g.o b u hu (E.no i a o h b hb).2 k⟩,E.dj,E.tb.same g.f⟩
theorem EnvM.gr (E:EnvM K H0 Φ H σ ρ) (g:Gr Φ H Φ' H'):EnvM K H0 Φ' H' σ ρ:=let ⟨fp,E⟩:=E;⟨fp,E.gr g⟩
theorem EnvM.re (m:Nat→Nat) (E:EnvM K H0 Φ H σ ρ) (hl:σ2.length=ρ2.length) (h:∀ (i:Nat) (x:Sm),ρ2[i]?=some (some x)→ρ[m i]?=some (some x)∧σ2[i]?=σ[m i]?)
    (inj:∀ (i j:Nat) (a a':Option Addr) (o o':Om),ρ2[i]?=some (some (.ob a o))→ρ2[j]?=some (some (.ob a' o'))→m i=m j→i=j):EnvM K H0 Φ H σ2 ρ2:=by
  obtain ⟨fp,E⟩:=E
  refine ⟨fun i=>fp (m i),E.fz,hl,fun i d hd=>?_,fun i a o ho=>?_,fun i a o ho=>E.no _ a o (h i _ ho).1,fun i j a a' o o' hi hj c=>E.dj _ _ a a' o o' (h i _ hi).1 (h j _ hj).1 fun e=>c (inj i j a a' o o' hi hj e),E.tb⟩
  · obtain ⟨v,e,r⟩:=E.sl _ d (h i _ hd).1
    exact ⟨v,by rw [(h i _ hd).2];exact e,r⟩
  · obtain ⟨p,e,r⟩:=E.ow _ a o (h i _ ho).1
    exact ⟨p,by rw [(h i _ ho).2];exact e,r⟩
theorem EnvM.take {τ:St} {κ:qaE} (E:EnvM K H0 Φ H (σ++τ) (ρ++κ)) (hl:ρ.length=σ.length):EnvM K H0 Φ H σ ρ :=
  E.re id hl.symm (fun i x hx=>by
    have hi:=qai hx
    exact ⟨by rw [id,List.getElem?_append_left hi];exact hx,by rw [id,List.getElem?_append_left (by omega)]⟩) fun i j _ _ _ _ _ _ e=>e
theorem EnvM'.take {τ:St} {κ:qaE} (E:EnvM' K H0 Φ H (σ++τ) (ρ++κ) fp) (hl:ρ.length=σ.length):EnvM' K H0 Φ H σ ρ fp:=by
  have up:∀ {i:Nat} {x:Sm},ρ[i]?=some (some x)→(ρ++κ)[i]?=some (some x):=fun h=>by rw [List.getElem?_append_left (qai h)];exact h
  have dn:∀ {i:Nat} {x:Sm} {y:Option V},ρ[i]?=some (some x)→(σ++τ)[i]?=some y→σ[i]?=some y:=fun h e=>by rwa [List.getElem?_append_left (by rw [← hl];exact qai h)] at e
  exact ⟨E.fz,hl.symm,fun i d h=>let ⟨v,e,r⟩:=E.sl i d (up h);⟨v,dn h e,r⟩,fun i a o h=>let ⟨p,e,r⟩:=E.ow i a o (up h);⟨p,dn h e,r⟩,fun i a o h=>E.no i a o (up h),fun i j a a' o o' hi hj=>E.dj i j a a' o o' (up hi) (up hj),E.tb⟩
theorem EnvM.store {v:V} {x:Sm} (E:EnvM K H0 Φ H (σ++[some v]) (ρ++[some x])) (i:Nat):EnvM K H0 Φ H (σ.set i (some v)) (ρ.set i (some x)):=by
  have hl:σ.length=ρ.length:=by have:=E.len;simpa using this
  refine E.re (fun j=>if j=i then ρ.length else j) (by rw [List.length_set,List.length_set,hl]) (fun j y hj=>?_) fun j k a a' o o' hj hk e=>?_
  · by_cases c:j=i
    · subst c
      have hlt:j<ρ.length:=by have:=qai hj;rwa [List.length_set] at this
      rw [List.getElem?_set_self hlt] at hj
      cases hj
      rw [if_pos rfl,List.getElem?_set_self (by omega),List.getElem?_append_right (Nat.le_refl _),List.getElem?_append_right (by omega),Nat.sub_self,hl,Nat.sub_self]
      exact ⟨rfl,rfl⟩
    · rw [List.getElem?_set_ne (Ne.symm c)] at hj
      have hlt:=qai hj
      rw [if_neg c,List.getElem?_set_ne (Ne.symm c),List.getElem?_append_left hlt,List.getElem?_append_left (by omega)]
      exact ⟨hj,rfl⟩
  · have hj1:j<ρ.length:=by have:=qai hj;rwa [List.length_set] at this
    have hk1:k<ρ.length:=by have:=qai hk;rwa [List.length_set] at this
    have e:(if j=i then ρ.length else j)=(if k=i then ρ.length else k):=e
    split at e <;> split at e <;> omega
theorem EnvM.snocV (E:EnvM K H0 Φ H σ ρ) (r:Rp K Φ d v):EnvM K H0 Φ H (σ++[some v]) (ρ++[some (.v d)]):=by
  obtain ⟨fp,E⟩:=E
  have old:∀ {i:Nat} {a:Option Addr} {o:Om},(ρ++[some (Sm.v d)])[i]?=some (some (.ob a o))→ρ[i]?=some (some (.ob a o)):=fun {i a o} h=>by
    rcases Nat.lt_or_ge i ρ.length with c | c
    · rwa [List.getElem?_append_left c] at h
    · rw [List.getElem?_append_right c] at h
      cases e:i - ρ.length with
      | zero=>rw [e] at h;cases h
      | succ n=>rw [e] at h;cases h
  refine ⟨fp,E.fz,by rw [List.length_append,List.length_append,E.len];rfl,fun i d' h=>?_,fun i a o h=>?_,fun i a o h=>E.no i a o (old h),fun i j a a' o o' hi hj=>E.dj i j a a' o o' (old hi) (old hj),E.tb⟩
  · rcases Nat.lt_or_ge i ρ.length with c | c
    · rw [List.getElem?_append_left c] at h
      obtain ⟨u,e,r⟩:=E.sl i d' h
      exact ⟨u,by rw [List.getElem?_append_left (by rw [E.len];exact c)];exact e,r⟩
    · rw [List.getElem?_append_right c] at h
      cases e:i - ρ.length with
      | zero =>
        rw [e] at h
        cases h
        exact ⟨v,by rw [List.getElem?_append_right (by rw [E.len];exact c),E.len,e];rfl,r⟩
      | succ n=>rw [e] at h;cases h
  · obtain ⟨p,e,r⟩:=E.ow i a o (old h)
    have hi:=qai (old h)
    exact ⟨p,by rw [List.getElem?_append_left (by rw [E.len];exact hi)];exact e,r⟩
theorem EnvM.snocO (E:EnvM K H0 Φ H σ ρ) (s0:Same H0 H) (g:Gr Φ H Φ' H') (ho:OmS K Φ' H' o p F) (hf:∀ b∈F,H b=none∧Φ' b=none):EnvM K H0 Φ' H' (σ++[some (.ref p)]) (ρ++[some (.ob none o)]):=by
  obtain ⟨fp,E⟩:=E
  have old:∀ b∈F,∀ (i:Nat) (a:Option Addr) (o:Om),ρ[i]?=some (some (.ob a o))→b∉fp i:=fun b hb i a o h z=>by
    obtain ⟨q,_,_,r⟩:=E.ow i a o h
    obtain ⟨u,hu,_⟩:=r.at b z
    rw [(hf b hb).1] at hu
    cases hu
  have E2:=E.gr g
  have cs:∀ {i:Nat} {x:Sm},(ρ++[some (Sm.ob none o)])[i]?=some (some x)→(i<ρ.length∧ρ[i]?=some (some x))∨(i=ρ.length∧x=.ob none o):=fun {i x} h=>by
    rcases Nat.lt_or_ge i ρ.length with c | c
    · rw [List.getElem?_append_left c] at h
      exact .inl ⟨c,h⟩
    · rw [List.getElem?_append_right c] at h
      cases e:i - ρ.length with
      | zero=>rw [e] at h;cases h;exact .inr ⟨by omega,rfl⟩
      | succ n=>rw [e] at h;cases h
  refine ⟨fun i=>if i=ρ.length then F else fp i,E2.fz,by rw [List.length_append,List.length_append,E.len];rfl,fun i d h=>?_,fun i a o' h=>?_,fun i a o' h b hb=>?_,fun i j a a' o1 o2 hi hj c b hb hb2=>?_,E2.tb⟩
  · rcases cs h with ⟨c,h⟩ | ⟨_,h⟩
    · obtain ⟨v,e,r⟩:=E2.sl i d h
      exact ⟨v,by rw [List.getElem?_append_left (by rw [E.len];exact c)];exact e,r⟩
    · cases h
  · rcases cs h with ⟨c,h⟩ | ⟨c,h⟩
    · obtain ⟨q,e,r⟩:=E2.ow i a o' h
      exact ⟨q,by rw [List.getElem?_append_left (by rw [E.len];exact c)];exact e,by rw [if_neg (by omega)];exact r⟩
    · cases h
      subst c
      refine ⟨p,by rw [List.getElem?_append_right (by rw [E.len];exact Nat.le_refl _),E.len,Nat.sub_self];rfl,(fun q e=>by cases e),by rw [if_pos rfl];exact ho⟩
  · rcases cs h with ⟨c,h⟩ | ⟨c,h⟩
    · rw [if_neg (by omega)] at hb
      exact E2.no i a o' h b hb
    · rw [if_pos c] at hb
      exact ⟨s0.free (hf b hb).1,(hf b hb).2⟩
  · rcases cs hi with ⟨ci,hi⟩ | ⟨ci,hi⟩
    · rw [if_neg (by omega)] at hb
      rcases cs hj with ⟨cj,hj⟩ | ⟨cj,hj⟩
      · rw [if_neg (by omega)] at hb2
        exact E.dj i j a a' o1 o2 hi hj c b hb hb2
      · rw [if_pos cj] at hb2
        exact old b hb2 i a o1 hi hb
    · rw [if_pos ci] at hb
      rcases cs hj with ⟨cj,hj⟩ | ⟨cj,hj⟩
      · rw [if_neg (by omega)] at hb2
        exact old b hb j a' o2 hj hb2
      · omega
theorem EnvM'.put (E:EnvM' K H0 Φ H σ ρ fp) (hi:ρ[i]?=some (some (.ob a o))) (si:σ[i]?=some (some (.ref p))) (hH:∀ b u,H b=some u→b∉fp i→H' b=some u) (hO:OmS K Φ H' o' p F') (hF:∀ b∈F',b∈fp i∨(H b=none∧H0 b=none∧Φ b=none)) :
    EnvM' K H0 Φ H' σ (ρ.set i (some (.ob a o'))) (fun j=>if j=i then F' else fp j):=by
  have hlt:=qai hi
  have cs:∀ {j:Nat} {x:Sm},(ρ.set i (some (Sm.ob a o')))[j]?=some (some x)→(j=i∧x=.ob a o')∨(j≠i∧ρ[j]?=some (some x)):=fun {j x} h=>by
    rcases qev h with ⟨e,_,e1⟩ | ⟨e,h⟩
    · cases e1;exact .inl ⟨e,rfl⟩
    · exact .inr ⟨e,h⟩
  have nf:∀ b∈F',∀ (j:Nat) (a':Option Addr) (o2:Om),ρ[j]?=some (some (.ob a' o2))→j≠i→b∉fp j:=fun b hb j a' o2 hj c z=>by
    rcases hF b hb with h | ⟨h,_⟩
    · exact E.dj j i a' a o2 o hj hi c b z h
    · obtain ⟨q,_,_,r⟩:=E.ow j a' o2 hj
      obtain ⟨u,hu,_⟩:=r.at b z
      rw [h] at hu
      cases hu
  refine ⟨fun b u e=>hH b u (E.fz b u e) fun z=>?_,by rw [List.length_set,E.len],fun j d h=>?_,fun j a' o2 h=>?_,fun j a' o2 h b hb=>?_,fun j k a1 a2 o1 o2 hj hk c b hb hb2=>?_,E.tb⟩
  · rw [(E.no i a o hi b z).2] at e
    cases e
  · rcases cs h with ⟨_,h⟩ | ⟨_,h⟩
    · cases h
    · exact E.sl j d h
  · rcases cs h with ⟨c,h⟩ | ⟨c,h⟩
    · cases h
      subst c
      obtain ⟨q,e,ha,_⟩:=E.ow j a o hi
      rw [si] at e
      cases e
      exact ⟨p,si,ha,by rw [if_pos rfl];exact hO⟩
    · obtain ⟨q,e,ha,r⟩:=E.ow j a' o2 h
      refine ⟨q,e,ha,?_⟩
      rw [if_neg c]
      exact r.keep (Same.refl _) fun b hb u hu=>hH b u hu fun z=>E.dj j i a' a o2 o h hi c b hb z
  · rcases cs h with ⟨c,h⟩ | ⟨c,h⟩
    · rw [if_pos c] at hb
      rcases hF b hb with z | ⟨_,z⟩
      · exact E.no i a o hi b z
      · exact z
    · rw [if_neg c] at hb
      exact E.no j a' o2 h b hb
  · rcases cs hj with ⟨cj,hj⟩ | ⟨cj,hj⟩
    · rw [if_pos cj] at hb
      rcases cs hk with ⟨ck,hk⟩ | ⟨ck,hk⟩
      · omega
      · rw [if_neg ck] at hb2
        exact nf b hb k a2 o2 hk ck hb2
    · rw [if_neg cj] at hb
      rcases cs hk with ⟨ck,hk⟩ | ⟨ck,hk⟩
      · rw [if_pos ck] at hb2
        exact nf b hb2 j a1 o1 hj cj hb
      · rw [if_neg ck] at hb2
        exact E.dj j k a1 a2 o1 o2 hj hk c b hb hb2
theorem EnvM'.grput (E:EnvM' K H0 Φ H σ ρ fp) (g:Gr Φ0 H0 Φ H) (hi:ρ[i]?=some (some (.ob a o))) (hH:∀ b u,H b=some u→b∉fp i→H' b=some u):Gr Φ0 H0 Φ H' :=
  ⟨g.f,fun b u e=>hH b u (g.h b u e) (fun z=>by rw [(E.no i a o hi b z).1] at e;cases e),fun b u e=>hH b u (g.s b u e) (fun z=>by rw [(E.no i a o hi b z).2] at e;cases e),fun p u h1 h2 k=>g.o p u h1 h2 k⟩
theorem EnvM.list {ds:List D} (E:EnvM K H0 Φ H σ ρ) (g:Gr Φ0 H0 Φ H) (hi:ρ[i]?=some (some (.ob a (.lst ds)))):∃ q vs,σ[i]?=some (some (.ref q))∧H q=some (.lst vs)∧H0 q=none∧Φ q=none∧RpL K Φ ds vs ∧
    ∀ (es:List D) (ws:List V),RpL K Φ es ws→EnvM K H0 Φ (upd H q (.lst ws)) σ (ρ.set i (some (.ob a (.lst es))))∧Gr Φ0 H0 Φ (upd H q (.lst ws)):=by
  obtain ⟨fp,E⟩:=E
  obtain ⟨q,e,_,r⟩:=E.ow i a _ hi
  have hq:=r.mem
  have h0:=E.no i a _ hi q hq
  obtain ⟨_,vs,h1,h2⟩:=r.lst_inv
  refine ⟨q,vs,e,h1,h0.1,h0.2,h2,fun es ws rw'=>?_⟩
  have hH:∀ b u,H b=some u→b∉fp i→upd H q (.lst ws) b=some u:=fun b u e hn=>by
    rw [qar fun z=>hn (by rw [z];exact hq)]
    exact e
  exact ⟨⟨_,E.put hi e hH (F':=[q]) (.lst qak rw') fun b hb=>.inl (by rw [List.mem_singleton.mp hb];exact hq)⟩,E.grput g hi hH⟩
end
def prM:Option Sm→Option Sl
  | some (.v d)=>some (.v d)
  | some (.ob _ (.lst xs))=>some (.own xs)
  | some (.ob _ (.map kvs))=>some (.dct (kvs.map (·.1)))
  | some (.ob _ (.mpT kvs))=>some (.dcT (kvs.map (·.1)))
  | _=>none
abbrev prR (ρ:qaE):Rho:=ρ.map prM
theorem qg2 {κ:Type} {K:PySem.W.Frag} {Φ:Hp}:∀ {a:List (κ × D)} {b:List (κ × V)},Paired (KvR K Φ) a b→b.map (·.1)=a.map (·.1)
  | _,_,.nil=>rfl
  | _,_,.cons r t=>by rw [List.map_cons,List.map_cons,qg2 t,r.1]
theorem EnvM.toD {K:PySem.W.Frag} {H0 Φ H:Hp} {σ:St} {ρ:qaE} (E:EnvM K H0 Φ H σ ρ):EnvD K H0 Φ H σ (prR ρ):=by
  obtain ⟨fp,E⟩:=E
  have at_:∀ {i:Nat} {x:Sl},(prR ρ)[i]?=some (some x)→∃ y,ρ[i]?=some (some y)∧prM (some y)=some x:=fun {i x} h=>by
    rw [List.getElem?_map] at h
    cases e:ρ[i]? with
    | none=>rw [e] at h;cases h
    | some y =>
      rw [e] at h
      cases y with
      | none=>cases h
      | some y=>exact ⟨y,rfl,Option.some.inj h⟩
  have ow:∀ {i:Nat} {o:Ow},(prR ρ)[i]?=some (some (.ob o))→∃ a om p u,ρ[i]?=some (some (.ob a om))∧σ[i]?=some (some (.ref p))∧p∈fp i∧H p=some u∧OwR K Φ o u:=fun {i o} h=>by
    obtain ⟨y,hy,e⟩:=at_ h
    cases y with
    | v d=>cases e
    | ob a om =>
      obtain ⟨p,e1,_,r⟩:=E.ow i a om hy
      have hm:=r.mem
      refine ⟨a,om,p,?_⟩
      cases om with
      | lst ds=>obtain ⟨_,vs,h1,h2⟩:=r.lst_inv;cases e;exact ⟨_,hy,e1,hm,h1,h2⟩
      | map kvs=>obtain ⟨_,vs,h1,h2⟩:=r.map_inv;cases e;exact ⟨_,hy,e1,hm,h1,qg2 h2⟩
      | mpT kvs=>obtain ⟨_,vs,h1,h2⟩:=r.mpT_inv;cases e;exact ⟨_,hy,e1,hm,h1,qg2 h2⟩
      | obj nm fs=>cases e
  refine ⟨E.fz,by rw [List.length_map,E.len],fun i d h=>?_,fun i o h=>?_,fun i j o w p hi hj si sj=>?_,E.tb⟩
  · obtain ⟨y,hy,e⟩:=at_ h
    cases y with
    | v d'=>cases e;exact E.sl i d hy
    | ob a om=>cases om <;> cases e
  · obtain ⟨a,om,p,u,h1,h2,h3,h4,h5⟩:=ow h
    exact ⟨p,u,h2,(E.no i a om h1 p h3).1,(E.no i a om h1 p h3).2,h4,h5⟩
  · obtain ⟨a,om,p1,u,h1,h2,h3,_,_⟩:=ow hi
    obtain ⟨a',om',p2,u',k1,k2,k3,_,_⟩:=ow hj
    rw [si] at h2
    cases h2
    rw [sj] at k2
    cases k2
    rcases Decidable.em (i=j) with c | c
    · exact c
    · exact absurd k3 (E.dj i j a a' om om' h1 k1 c p h3)
structure XD where
  nm:Str
  at_:Option D
inductive XSt (X:Cx) (pins:List (Addr × Obj)) (σ:St) (H:Hp) (xd:XD) (e:Value) (s:Shared):Prop where
  | no:False→XSt X pins σ H xd e s
def XeOk (K:PySem.W.Frag) (X:Cx) (Φ0 H0:Hp) (Rx:XD→qaE→Prop):Prop:=∀ xd ρ' Φ' H' σ' e s' pins,Rx xd ρ'→Gr Φ0 H0 Φ' H'→EnvM K H0 Φ' H' σ' ρ'→XSt X pins σ' H' xd e s'→X.xe e s'
structure StM (K:PySem.W.Frag) (X:Cx) (Φ0 H0 Φ H:Hp) (σ τ:St) (ρ κ:qaE) (Rx:XD→qaE→Prop):Prop where
  g:Gr Φ0 H0 Φ H
  l:ρ.length=σ.length
  E:EnvM K H0 Φ H (σ++τ) (ρ++κ)
  x:XeOk K X Φ0 H0 Rx
inductive Ar where | t (s:Sm) | s (i:Nat)
abbrev TX:=qaE→(Sm→qaE→Prop)→(XD→qaE→Prop)→Prop
abbrev TXB:=qaE→(Bool→qaE→Prop)→(XD→qaE→Prop)→Prop
abbrev TXA:=qaE→(List Ar→qaE→Prop)→(XD→qaE→Prop)→Prop
def tsm (as:List Ar):qaE:=as.filterMap fun a=>match a with | .t s=>some (some s) | .s _=>none
inductive ArV (σ:St):List Ar→List V→St→Prop where
  | nil:ArV σ [] [] []
  | t {s:Sm} {v:V} {as:List Ar} {vs:List V} {ts:St}:ArV σ as vs ts→ArV σ (.t s::as) (v::vs) (some v::ts)
  | s {i:Nat} {v:V} {as:List Ar} {vs:List V} {ts:St}:σ[i]?=some (some v)→ArV σ as vs ts→ArV σ (.s i::as) (v::vs) ts
def lXm (K:PySem.W.Frag) (X:Cx) (t:TX):TE:=fun σ H Q=>∃ Φ0 H0 Φ τ ρ κ R Rx,StM K X Φ0 H0 Φ H σ τ ρ κ Rx∧t ρ R Rx∧∀ sm ρ' Φ' H' v,R sm ρ'→StM K X Φ0 H0 Φ' H' σ (τ++[some v]) ρ' (κ++[some sm]) Rx→Same Φ Φ'→Q v H'
def lXb (K:PySem.W.Frag) (X:Cx) (t:TXB):TT:=fun σ H Q=>∃ Φ0 H0 Φ τ ρ κ R Rx,StM K X Φ0 H0 Φ H σ τ ρ κ Rx∧t ρ R Rx∧∀ b ρ' Φ' H',R b ρ'→StM K X Φ0 H0 Φ' H' σ τ ρ' κ Rx→Same Φ Φ'→Q b H'
def lXa (K:PySem.W.Frag) (X:Cx) (n:Nat) (t:TXA):TA:=fun σ H Q=>∃ Φ0 H0 Φ τ ρ κ R Rx,StM K X Φ0 H0 Φ H σ τ ρ κ Rx∧t ρ R Rx∧∀ as ρ' Φ' H' vs ts,R as ρ'→as.length=n→ArV σ as vs ts→StM K X Φ0 H0 Φ' H' σ (τ++ts) ρ' (κ++tsm as) Rx→Same Φ Φ'→Q vs H'
structure PX (K:PySem.W.Frag) (X:Cx) (e:Expr) (t:TX):Prop where pe:X.K=K→PE X e (lXm K X t)
structure PXB (K:PySem.W.Frag) (X:Cx) (e:Expr) (t:TXB):Prop where pt:X.K=K→PT X e (lXb K X t)
structure PXW (K:PySem.W.Frag) (X:Cx) (e:Expr) (t:TXB):Prop where pw:X.K=K→PW X e (lXb K X t)
structure PXA (K:PySem.W.Frag) (X:Cx) (es:List Expr) (t:TXA):Prop where pa:X.K=K→PA X es (lXa K X es.length t)
section
variable {K : PySem.W.Frag} {X : Cx} {Φ0 H0 Φ Φ' H H' : Hp} {σ τ ts : St} {ρ κ ks : qaE} {Rx : XD → qaE → Prop} {d : D} {v : V} {sm : Sm}
theorem StM.gr (S:StM K X Φ0 H0 Φ H σ τ ρ κ Rx) (g:Gr Φ H Φ' H'):StM K X Φ0 H0 Φ' H' σ τ ρ κ Rx:=⟨S.g.trans g,S.l,S.E.gr g,S.x⟩
theorem StM.env (S:StM K X Φ0 H0 Φ H σ τ ρ κ Rx):EnvM K H0 Φ H σ ρ:=S.E.take S.l
theorem StM.lk (S:StM K X Φ0 H0 Φ H σ τ ρ κ Rx):κ.length=τ.length:=by have:=S.E.len;rw [List.length_append,List.length_append] at this;have:=S.l;omega
theorem StM.pop (S:StM K X Φ0 H0 Φ H σ (τ++ts) ρ (κ++ks) Rx) (hl:κ.length=τ.length):StM K X Φ0 H0 Φ H σ τ ρ κ Rx:=⟨S.g,S.l,by
  have E:=S.E
  rw [← List.append_assoc,← List.append_assoc] at E
  exact E.take (by rw [List.length_append,List.length_append,S.l,hl]),S.x⟩
theorem StM.pushV (S:StM K X Φ0 H0 Φ H σ τ ρ κ Rx) (r:Rp K Φ d v):StM K X Φ0 H0 Φ H σ (τ++[some v]) ρ (κ++[some (.v d)]) Rx:=⟨S.g,S.l,by
  rw [← List.append_assoc,← List.append_assoc]
  exact S.E.snocV r,S.x⟩
theorem StM.pushO {o:Om} {p:Addr} {F:List Addr} (S:StM K X Φ0 H0 Φ H σ τ ρ κ Rx) (g:Gr Φ H Φ' H') (ho:OmS K Φ' H' o p F) (hf:∀ b∈F,H b=none∧Φ' b=none):StM K X Φ0 H0 Φ' H' σ (τ++[some (.ref p)]) ρ (κ++[some (.ob none o)]) Rx:=⟨S.g.trans g,S.l,by
  rw [← List.append_assoc,← List.append_assoc]
  exact S.E.snocO S.g.h g ho hf,S.x⟩
theorem StM.at (S:StM K X Φ0 H0 Φ H σ τ ρ κ Rx) {i:Nat} (h:κ[i]?=some (some (.v d))):∃ v,τ[i]?=some (some v)∧Rp K Φ d v:=by
  have hi:=qai h
  obtain ⟨v,e,r⟩:=S.E.sl (i:=ρ.length+i) (d:=d) (by rw [List.getElem?_append_right (by omega),Nat.add_sub_cancel_left];exact h)
  rw [S.l,List.getElem?_append_right (by omega),Nat.add_sub_cancel_left] at e
  exact ⟨v,e,r⟩
theorem StM.last (S:StM K X Φ0 H0 Φ H σ (τ++[some v]) ρ (κ++[some (.v d)]) Rx):Rp K Φ d v:=by
  have hl:=S.lk
  rw [List.length_append,List.length_append] at hl
  have hl:κ.length=τ.length:=by simpa using hl
  obtain ⟨u,e,r⟩:=S.at (i:=κ.length) (d:=d) (by rw [List.getElem?_append_right (Nat.le_refl _),Nat.sub_self];rfl)
  rw [hl,List.getElem?_append_right (Nat.le_refl _),Nat.sub_self] at e
  cases e
  exact r
theorem StM.last2 {e:D} {w:V} (S:StM K X Φ0 H0 Φ H σ ((τ++[some v])++[some w]) ρ ((κ++[some (.v d)])++[some (.v e)]) Rx):Rp K Φ d v∧Rp K Φ e w:=by
  refine ⟨?_,S.last⟩
  have hl:=S.lk
  simp only [List.length_append,List.length_cons,List.length_nil] at hl
  have hl:κ.length=τ.length:=by omega
  exact (S.pop (by simp only [List.length_append,List.length_cons,List.length_nil];omega)).last
end
section
variable {K : PySem.W.Frag} {X : Cx} {e a b c : Expr} {es : List Expr} {pos p : Pos} {t ta tb : TX} {tA : TXA} {tt tu : TXB}
def xD (t:TD):TX:=fun ρ R _=>t (prR ρ) fun d=>R (.v d) ρ
theorem qaP {t:TD} (h:PD K X e t):PX K X e (xD t):=⟨fun hK=>(h.pe hK).imp fun σ H Q hq0=>by
  obtain ⟨Φ0,H0,Φ,τ,ρ,κ,R,Rx,S,t,k⟩:=hq0
  exact ⟨H0,Φ,prR ρ,_,S.env.toD,t,fun d Φ' H' v r g rv=>k _ ρ Φ' H' v r ((S.gr g).pushV rv) g.f⟩⟩
def xF (t:TDL):TX:=fun ρ R _=>t (prR ρ) fun ds=>R (.own ds) ρ
theorem qmZ {t:TDL} (h:PF K X e t):PX K X e (xF t):=⟨fun hK=>(h.pe hK).imp fun σ H Q hq0=>by
  obtain ⟨Φ0,H0,Φ,τ,ρ,κ,R,Rx,S,t,k⟩:=hq0
  exact ⟨H0,Φ,prR ρ,_,S.env.toD,t,fun ds Φ' H' p vs r g h0 hn hp rr=>k _ ρ Φ' H' _ r (S.pushO g (.lst hp rr) fun b hb=>by rw [List.mem_singleton.mp hb];exact ⟨h0,hn⟩) g.f⟩⟩
def xB (t:TDB):TXB:=fun ρ R _=>t (prR ρ) fun b=>R b ρ
theorem qcv {t:TDB} (h:PTD K X e t):PXB K X e (xB t):=⟨fun hK=>(h.pt hK).imp fun σ H Q hq0=>by
  obtain ⟨Φ0,H0,Φ,τ,ρ,κ,R,Rx,S,t,k⟩:=hq0
  exact ⟨H0,Φ,prR ρ,_,S.env.toD,t,fun b Φ' H' r g=>k b ρ Φ' H' r (S.gr g) g.f⟩⟩
def xV (k:D→qaE→Prop):Sm→qaE→Prop:=fun s ρ=>match s with | .v d=>k d ρ | _=>False
theorem xV.get {k:D→qaE→Prop} {s:Sm} {ρ:qaE} (h:xV k s ρ):∃ d,s=.v d∧k d ρ:=by
  cases s with
  | v d=>exact ⟨d,rfl,h⟩
  | ob _ _=>exact h.elim
def xOp (r:RD2) (ta tb:TX):TX:=fun ρ R Rx=>ta ρ (xV fun x ρ1=>tb ρ1 (xV fun y ρ2=>r x y fun d=>R (.v d) ρ2) Rx) Rx
theorem qfM {r:RD2} {σ:St} {H:Hp} {Q:VK} (h:lXm K X (xOp r ta tb) σ H Q):tOp (lR2 K r) (lXm K X ta) (lXm K X tb) σ H Q:=by
  obtain ⟨Φ0,H0,Φ,τ,ρ,κ,R,Rx,S,t,k⟩:=h
  refine ⟨Φ0,H0,Φ,τ,ρ,κ,_,Rx,S,t,fun s1 ρ1 Φ1 H1 v r1 S1 f1=>?_⟩
  obtain ⟨x,rfl,r1⟩:=r1.get
  refine ⟨Φ0,H0,Φ1,_,ρ1,_,_,Rx,S1,r1,fun s2 ρ2 Φ2 H2 w r2 S2 f2=>?_⟩
  obtain ⟨y,rfl,r2⟩:=r2.get
  obtain ⟨rx,ry⟩:=S2.last2
  refine ⟨Φ2,x,y,_,S2.g.s,.inl rx,.inl ry,r2,fun d Φ' H' u rd g ru=>?_⟩
  rw [List.append_assoc,List.append_assoc] at S2
  exact k _ ρ2 Φ' H' u rd (((S2.pop S.lk).gr g).pushV ru) ((f1.trans f2).trans g.f)
theorem qks {op:Operator} {r:RD2} (ho:OpD K X (binaryOp op) r) (ha:PX K X a ta) (hb:PX K X b tb):PX K X (.BinOp a op b pos) (xOp r ta tb) :=
  ⟨fun hK=>(qoJ (ho.o hK) (ha.pe hK) (hb.pe hK)).imp fun _ _ _=>qfM⟩
def xBl (t:TX):TXB:=fun ρ R Rx=>t ρ (xV fun d ρ1=>match d with | .bl b=>R b ρ1 | _=>False) Rx
theorem qii {r:RD2} {σ:St} {H:Hp} {Q:Bool→Hp→Prop} (h:lXb K X (xBl (xOp r ta tb)) σ H Q):ql2 (tOp (lR2 K r) (lXm K X ta) (lXm K X tb)) σ H Q:=by
  obtain ⟨Φ0,H0,Φ,τ,ρ,κ,R,Rx,S,t,k⟩:=h
  refine qfM ⟨Φ0,H0,Φ,τ,ρ,κ,_,Rx,S,t,fun s1 ρ1 Φ1 H1 v r1 S1 f1=>?_⟩
  obtain ⟨x,rfl,r1⟩:=r1.get
  have rx:=S1.last
  cases x with
  | bl b=>cases rx;exact ⟨b,rfl,k b ρ1 Φ1 H1 r1 (S1.pop S.lk) f1⟩
  | _=>exact r1.elim
theorem qoj {op:CmpOp} {r:RD2} (ho:OpD K X (compareOp op) r) (ha:PX K X a ta) (hb:PX K X b tb) (hm:behindInMarks op b=false):PXB K X (.Compare a [op] [b] pos) (xBl (xOp r ta tb)) :=
  ⟨fun hK=>(qiE (ho.o hK) (ha.pe hK) (hb.pe hK) hm).imp fun _ _ _=>qii⟩
def qrc (t u:TXB):TXB:=fun ρ R Rx=>t ρ (fun c ρ1=>(c=true→u ρ1 R Rx)∧(c=false→R false ρ1)) Rx
def xOr (t u:TXB):TXB:=fun ρ R Rx=>t ρ (fun c ρ1=>(c=true→R true ρ1)∧(c=false→u ρ1 R Rx)) Rx
theorem PXW.toB (h:PXW K X e tt):PXB K X e tt:=⟨fun hK=>(h.pw hK).pt⟩
theorem qlO (ha:PXB K X a tt):PXW K X (.BoolOp .And [a] pos) tt:=⟨fun hK=>qi6 (ha.pt hK)⟩
theorem qnU (ha:PXB K X a tt):PXW K X (.BoolOp .Or [a] pos) tt:=⟨fun hK=>qlh (ha.pt hK)⟩
theorem qov (ha:PXB K X a tt) (hb:PXW K X (.BoolOp .And (b::es) pos) tu):PXW K X (.BoolOp .And (a::b::es) pos) (qrc tt tu) :=
  ⟨fun hK=>(qlt (ha.pt hK) (hb.pw hK)).imp fun σ H Q hq0=>by
    obtain ⟨Φ0,H0,Φ,τ,ρ,κ,R,Rx,S,t,k⟩:=hq0
    refine ⟨Φ0,H0,Φ,τ,ρ,κ,_,Rx,S,t,fun c ρ1 Φ1 H1 r1 S1 f1=>?_⟩
    cases c with
    | true=>rw [if_pos rfl];exact ⟨Φ0,H0,Φ1,τ,ρ1,κ,R,Rx,S1,r1.1 rfl,fun b ρ' Φ' H' rb S' f'=>k b ρ' Φ' H' rb S' (f1.trans f')⟩
    | false=>rw [if_neg (by decide)];exact k _ ρ1 Φ1 H1 (r1.2 rfl) S1 f1⟩
theorem qpR (ha:PXB K X a tt) (hb:PXW K X (.BoolOp .Or (b::es) pos) tu):PXW K X (.BoolOp .Or (a::b::es) pos) (xOr tt tu) :=
  ⟨fun hK=>(qoi (ha.pt hK) (hb.pw hK)).imp fun σ H Q hq0=>by
    obtain ⟨Φ0,H0,Φ,τ,ρ,κ,R,Rx,S,t,k⟩:=hq0
    refine ⟨Φ0,H0,Φ,τ,ρ,κ,_,Rx,S,t,fun c ρ1 Φ1 H1 r1 S1 f1=>?_⟩
    cases c with
    | true=>rw [if_pos rfl];exact k _ ρ1 Φ1 H1 (r1.1 rfl) S1 f1
    | false=>rw [if_neg (by decide)];exact ⟨Φ0,H0,Φ1,τ,ρ1,κ,R,Rx,S1,r1.2 rfl,fun b ρ' Φ' H' rb S' f'=>k b ρ' Φ' H' rb S' (f1.trans f')⟩⟩
def qo4:TXA:=fun ρ R _=>R [] ρ
def qoV (t:TX) (u:TXA):TXA:=fun ρ R Rx=>t ρ (fun s ρ1=>u ρ1 (fun as ρ2=>R (.t s::as) ρ2) Rx) Rx
def qos (i:Nat) (u:TXA):TXA:=fun ρ R Rx=>u ρ (fun as ρ2=>R (.s i::as) ρ2) Rx
theorem qaD:PXA K X [] qo4:=⟨fun _=>pa_nil.imp fun σ H Q hq0=>by
  obtain ⟨Φ0,H0,Φ,τ,ρ,κ,R,Rx,S,t,k⟩:=hq0
  exact k [] ρ Φ H [] [] t rfl .nil (by rw [List.append_nil,show tsm []=[] from rfl,List.append_nil];exact S) (Same.refl _)⟩
theorem qap (ha:PX K X e t) (hr:PXA K X es tA) (hs:starEach (e::es) X.env=(false,eval e X.env)::starEach es X.env):PXA K X (e::es) (qoV t tA) :=
  ⟨fun hK=>(qbM (ha.pe hK) (hr.pa hK) hs).imp fun σ H Q hq0=>by
    obtain ⟨Φ0,H0,Φ,τ,ρ,κ,R,Rx,S,t,k⟩:=hq0
    refine ⟨Φ0,H0,Φ,τ,ρ,κ,_,Rx,S,t,fun s1 ρ1 Φ1 H1 v r1 S1 f1=>?_⟩
    refine ⟨Φ0,H0,Φ1,_,ρ1,_,_,Rx,S1,r1,fun as ρ2 Φ2 H2 vs ts r2 hl hv S2 f2=>?_⟩
    refine k _ ρ2 Φ2 H2 (v::vs) (some v::ts) r2 (by rw [List.length_cons,List.length_cons,hl]) (.t hv) ?_ (f1.trans f2)
    rw [List.append_assoc,List.append_assoc] at S2
    exact S2⟩
theorem qas (i:Nat) {x:Str} (hr:PXA K X es tA) (hs:starEach (.Name x pos::es) X.env=(false,eval (.Name x pos) X.env)::starEach es X.env) (hN:X.N[i]?=some x:=by rfl) (hv:Vis X.env.scope x:=by first | exact Or.inl rfl | exact Or.inr (Or.inl rfl) | exact Or.inr (Or.inr rfl)) (hd:(x == ("__debug__":Str))=false:=by decide)
    (hcd:(x == ("__classdict__":Str))=false:=by decide):PXA K X (.Name x pos::es) (fun ρ R Rx=>(∃ a o,ρ[i]?=some (some (.ob a o)))∧qos i tA ρ R Rx) :=
  ⟨fun hK=>(qbM (pv i hN hv hd hcd) (hr.pa hK) hs).imp fun σ H Q hq0=>by
    obtain ⟨Φ0,H0,Φ,τ,ρ,κ,R,Rx,S,⟨⟨a,o,ho⟩,t⟩,k⟩:=hq0
    obtain ⟨fp,E⟩:=S.env
    obtain ⟨q,e,_⟩:=E.ow i a o ho
    refine ⟨_,e,Φ0,H0,Φ,τ,ρ,κ,_,Rx,S,t,fun as ρ2 Φ2 H2 vs ts r2 hl hv S2 f2=>?_⟩
    exact k _ ρ2 Φ2 H2 (.ref q::vs) ts r2 (by rw [List.length_cons,List.length_cons,hl]) (.s e hv) S2 f2⟩
def arD:List Ar→Option (List D)
  | []=>some []
  | .t (.v d)::as=>(arD as).map (d::·)
  | _=>none
def xaD (k:List D→qaE→Prop):List Ar→qaE→Prop:=fun as ρ=>match arD as with | some ds=>k ds ρ | none=>False
theorem xaD.get {k:List D→qaE→Prop} {as:List Ar} {ρ:qaE} (h:xaD k as ρ):∃ ds,arD as=some ds∧k ds ρ:=by
  unfold xaD at h
  split at h
  · next ds e=>exact ⟨ds,e,h⟩
  · exact h.elim
theorem qhe:∀ {as:List Ar} {ds:List D},arD as=some ds→tsm as=ds.map (fun d=>some (.v d))∧as.length=ds.length
  | [],ds,h=>by cases h;exact ⟨rfl,rfl⟩
  | .t (.v d)::as,ds,h=>by
    have h':(arD as).map (d::·)=some ds:=h
    cases e:arD as with
    | none=>rw [e] at h';cases h'
    | some es =>
      rw [e] at h'
      cases h'
      obtain ⟨h1,h2⟩:=qhe e
      exact ⟨by show some (Sm.v d)::tsm as=_;rw [h1];rfl,by rw [List.length_cons,List.length_cons,h2]⟩
  | .t (.ob _ _)::_,_,h=>by cases h
  | .s _::_,_,h=>by cases h
theorem qhA {σ:St}:∀ {as:List Ar} {ds:List D} {vs:List V} {ts:St},arD as=some ds→ArV σ as vs ts→ts=vs.map some
  | [],_,_,_,_,.nil=>rfl
  | .t (.v d)::as,ds,_,_,h,.t hv=>by
    have h':(arD as).map (d::·)=some ds:=h
    cases e:arD as with
    | none=>rw [e] at h';cases h'
    | some es=>rw [qhA e hv];rfl
theorem StM.vals {Φ0 H0 Φ H:Hp} {σ τ ts:St} {ρ κ:qaE} {Rx:XD→qaE→Prop} {as:List Ar} {ds:List D} {vs:List V} (S:StM K X Φ0 H0 Φ H σ (τ++ts) ρ (κ++tsm as) Rx) (hl:κ.length=τ.length) (hd:arD as=some ds) (hv:ArV σ as vs ts):RpL K Φ ds vs:=by
  have e1:=qhA hd hv
  obtain ⟨e2,e3⟩:=qhe hd
  have hlen:vs.length=ds.length:=by
    have:=S.lk
    rw [List.length_append,List.length_append,e1,e2,List.length_map,List.length_map] at this
    omega
  refine ⟨hlen,fun i v d hv' hd'=>?_⟩
  obtain ⟨w,hw,r⟩:=S.at (i:=κ.length+i) (d:=d) (by rw [List.getElem?_append_right (by omega),Nat.add_sub_cancel_left,e2,List.getElem?_map,hd'];rfl)
  rw [hl,List.getElem?_append_right (by omega),Nat.add_sub_cancel_left,e1,List.getElem?_map,hv'] at hw
  cases hw
  exact r
def qrk (t:TXA):TX:=fun ρ R Rx=>t ρ (xaD fun ds ρ1=>R (.v (.tup ds)) ρ1) Rx
theorem ql6 {x1} (h:PXA K X es tA) (hes:Nat.ble es.length 1000=true:=by rfl):PX K X (.Tuple es x1 pos) (qrk tA) :=
  ⟨fun hK=>(qln (h.pa hK)).imp fun σ H Q hq0=>by
    obtain ⟨Φ0,H0,Φ,τ,ρ,κ,R,Rx,S,t,k⟩:=hq0
    refine ⟨Φ0,H0,Φ,τ,ρ,κ,_,Rx,S,t,fun as ρ1 Φ1 H1 vs ts r1 hl hv S1 f1=>?_⟩
    obtain ⟨ds,hd,r1⟩:=r1.get
    have rl:=S1.vals S.lk hd hv
    refine ⟨by rw [rl.1,← (qhe hd).2,hl];exact qjm hes,fun p hp=>?_⟩
    have g:=Gr.new S1.g.s hp (.tup vs)
    exact k _ ρ1 _ _ _ r1 (((S1.pop S.lk).gr g).pushV ((rl.same (qaG (S1.g.s.free hp) _)).tup qak)) (f1.trans g.f)⟩
def xFz (t:TX):TX:=fun ρ R Rx=>t ρ (fun s ρ1=>match s with | .ob none (.lst ds)=>R (.v (.lst ds)) ρ1 | _=>False) Rx
theorem StM.fzl {Φ0 H0 Φ H:Hp} {σ τ:St} {ρ κ:qaE} {Rx:XD→qaE→Prop} {v:V} {ds:List D} (S:StM K X Φ0 H0 Φ H σ (τ++[some v]) ρ (κ++[some (.ob none (.lst ds))]) Rx):∃ Φ',StM K X Φ0 H0 Φ' H σ (τ++[some v]) ρ (κ++[some (.v (.lst ds))]) Rx∧Same Φ Φ':=by
  have hk:κ.length=τ.length:=by have:=S.lk;rw [List.length_append,List.length_append] at this;simpa using this
  obtain ⟨fp,E⟩:=S.E
  have hat:(ρ++(κ++[some (Sm.ob none (.lst ds))]))[ρ.length+κ.length]?=some (some (.ob none (.lst ds))):=by rw [← List.append_assoc,List.getElem?_append_right (by rw [List.length_append];omega),List.length_append,Nat.sub_self];rfl
  obtain ⟨p,e,_,r⟩:=E.ow _ _ _ hat
  have hp:=r.mem
  have no:=E.no _ _ _ hat
  have ev:v=.ref p:=by
    rw [← List.append_assoc,List.getElem?_append_right (by rw [List.length_append,S.l];omega),List.length_append,S.l,hk,Nat.sub_self] at e
    cases e;rfl
  subst ev
  obtain ⟨_,vs,h1,h2⟩:=r.lst_inv
  next =>
    have hn:=(no p hp).2
    have h0:=(no p hp).1
    have s1:=qaG hn (.lst vs)
    refine ⟨upd Φ p (.lst vs),⟨S.g.freeze h0 hn h1,S.l,?_,S.x⟩,s1⟩
    have E0:EnvM K H0 (upd Φ p (.lst vs)) H (σ++τ) (ρ++κ):=by
      refine ⟨fp,fun b u eb=>?_,by rw [List.length_append,List.length_append,S.l,hk],fun j d hd=>?_,fun j a o ho=>?_,fun j a o ho b hb=>?_,fun j k a a' o o' hj hk' c=>?_,E.tb.same s1⟩
      · by_cases c:b=p
        · subst c;rw [qak] at eb;cases eb;exact h1
        · rw [qar c] at eb;exact E.fz b u eb
      · have hj:=qai hd
        obtain ⟨w,hw,rw'⟩:=E.sl j d (by rw [← List.append_assoc,List.getElem?_append_left hj];exact hd)
        rw [← List.append_assoc,List.getElem?_append_left (by rw [List.length_append] at hj ⊢;have:=S.l;omega)] at hw
        exact ⟨w,hw,rw'.same s1⟩
      · have hj:=qai ho
        obtain ⟨w,hw,ha,rw'⟩:=E.ow j a o (by rw [← List.append_assoc,List.getElem?_append_left hj];exact ho)
        rw [← List.append_assoc,List.getElem?_append_left (by rw [List.length_append] at hj ⊢;have:=S.l;omega)] at hw
        exact ⟨w,hw,ha,rw'.keep s1 fun _ _ _ h=>h⟩
      · have hj:=qai ho
        have ho':(ρ++(κ++[some (Sm.ob none (.lst ds))]))[j]?=some (some (.ob a o)):=by rw [← List.append_assoc,List.getElem?_append_left hj];exact ho
        have c:b≠p:=fun z=>E.dj j _ a _ o _ ho' hat (by rw [List.length_append] at hj;omega) b hb (by rw [z];exact hp)
        rw [qar c]
        exact E.no j a o ho' b hb
      · have hj1:=qai hj
        have hk1:=qai hk'
        exact E.dj j k a a' o o' (by rw [← List.append_assoc,List.getElem?_append_left hj1];exact hj) (by rw [← List.append_assoc,List.getElem?_append_left hk1];exact hk') c
    rw [← List.append_assoc,← List.append_assoc]
    exact E0.snocV ((h2.same s1).lst qak)
theorem qqn (h:PX K X e t):PX K X e (xFz t):=⟨fun hK=>(h.pe hK).imp fun σ H Q hq0=>by
  obtain ⟨Φ0,H0,Φ,τ,ρ,κ,R,Rx,S,t,k⟩:=hq0
  refine ⟨Φ0,H0,Φ,τ,ρ,κ,_,Rx,S,t,fun s1 ρ1 Φ1 H1 v r1 S1 f1=>?_⟩
  split at r1
  · next ds =>
    obtain ⟨Φ2,S2,f2⟩:=S1.fzl
    exact k _ ρ1 Φ2 H1 v r1 S2 (f1.trans f2)
  · exact r1.elim⟩
def qn2 (r:SpD) (t:TXA):TX:=fun ρ R Rx=>t ρ (xaD fun ds ρ1=>r ds fun d=>R (.v d) ρ1) Rx
theorem qlR {n:Nat} {x:Str} {ps:List Str} {z:SpD} (C:Cl X.prog X.w K X.mg X.base n x ps z) (hr:Room n X.A) (hg:Gl X x)
    (ha:PXA K X (e::es) tA) (he:starEach (e::es) X.env=(false,eval e X.env)::starEach es X.env) (hpl:(backTo pos (starEach es X.env)).any (·.1)=false) (hdb:(x == ("__debug__":Str))=false:=by decide) :
    PX K X (.Call (.Name x p) (e::es) [] pos) (qn2 z tA):=⟨fun hK=>by
  obtain ⟨f,fd,F,b,k,m⟩:=C.ex
  refine (qgU (dvs:=[]) (ds:=[]) (E:=E0) (hK ▸ F:FnOk X.prog X.w X.K X.mg X.base CX0 n f fd ps (lSp K z)) hr hg m (hK ▸ k) (hK ▸ b) .nil qlZ (ha.pa hK) hdb he hpl).imp fun σ H Q hq0=>?_
  obtain ⟨Φ0,H0,Φ,τ,ρ,κ,R,Rx,S,t,k⟩:=hq0
  refine ⟨Φ0,H0,Φ,τ,ρ,κ,_,Rx,S,t,fun as ρ1 Φ1 H1 vs ts r1 hl hv S1 f1=>?_⟩
  obtain ⟨ds,hd,r1⟩:=r1.get
  have rl:=S1.vals S.lk hd hv
  exact ⟨Φ1,ds,_,S1.g.s,S1.E.tb,by rw [List.append_nil];exact rl,r1,fun d Φ' H' v rd g rv=>k _ ρ1 Φ' H' v rd (((S1.pop S.lk).gr g).pushV rv) (f1.trans g.f)⟩⟩
end
def qbg (H:Hp) (B:List Addr):Hp:=fun b=>if b∈B then none else H b
theorem qhE {H:Hp} {B:List Addr} {b:Addr} (h:b∈B):qbg H B b=none:=if_pos h
theorem qbt {H:Hp} {B:List Addr} {b:Addr} (h:b∉B):qbg H B b=H b:=if_neg h
theorem qeW {H:Hp} {B:List Addr} {b:Addr} {u:HO} (h:qbg H B b=some u):b∉B∧H b=some u:=by
  unfold qbg at h
  split at h
  · cases h
  · next c=>exact ⟨c,h⟩
theorem qiz {H:Hp} {B:List Addr}:Same (qbg H B) H:=fun b u e=>(qeW e).2
abbrev SpM:=List Sm→(Sm→List Om→Prop)→(XD→List Om→Prop)→Prop
inductive ArgM (K:PySem.W.Frag) (Φ H:Hp):List Sm→List V→List (List Addr)→Prop where
  | nil:ArgM K Φ H [] [] []
  | v {d:D} {v:V} {as:List Sm} {vs:List V} {Fs:List (List Addr)}:Rp K Φ d v→ArgM K Φ H as vs Fs→ArgM K Φ H (.v d::as) (v::vs) ([]::Fs)
  | o {a:Option Addr} {o:Om} {p:Addr} {F:List Addr} {as:List Sm} {vs:List V} {Fs:List (List Addr)}:OmS K Φ H o p F→ArgM K Φ H as vs Fs→ArgM K Φ H (.ob a o::as) (.ref p::vs) (F::Fs)
inductive OutM (K:PySem.W.Frag) (Φ H:Hp):List Sm→List V→List Om→List (List Addr)→Prop where
  | nil:OutM K Φ H [] [] [] []
  | v {d:D} {v:V} {as:List Sm} {vs:List V} {os:List Om} {Fs:List (List Addr)}:OutM K Φ H as vs os Fs→OutM K Φ H (.v d::as) (v::vs) os ([]::Fs)
  | o {a:Option Addr} {o o':Om} {p:Addr} {F:List Addr} {as:List Sm} {vs:List V} {os:List Om} {Fs:List (List Addr)}:OmS K Φ H o' p F→OutM K Φ H as vs os Fs→OutM K Φ H (.ob a o::as) (.ref p::vs) (o'::os) (F::Fs)
inductive ResM (K:PySem.W.Frag) (Φ H:Hp):Sm→V→List Addr→Prop where
  | v {d:D} {v:V}:Rp K Φ d v→ResM K Φ H (.v d) v []
  | o {a:Option Addr} {o:Om} {p:Addr} {F:List Addr}:(∀ q,a=some q→q=p)→OmS K Φ H o p F→ResM K Φ H (.ob a o) (.ref p) F
def qfA (K:PySem.W.Frag) (sp:SpM):Sp:=fun vs H Q _=>∃ Φ as Fs R Rx,Same Φ H∧TabF K Φ∧ArgM K Φ H as vs Fs∧Fs.flatten.Nodup∧(∀ b∈Fs.flatten,Φ b=none)∧sp as R Rx ∧
  ∀ sm os Φ' H' v F Fs',R sm os→Gr Φ (qbg H Fs.flatten) Φ' H'→ResM K Φ' H' sm v F→OutM K Φ' H' as vs os Fs'→(F++Fs'.flatten).Nodup→(∀ b∈F++Fs'.flatten,qbg H Fs.flatten b=none∧Φ' b=none)→Q v H'
theorem OmS.nodup {K:PySem.W.Frag} {Φ H:Hp} {o:Om} {p:Addr} {F:List Addr} (h:OmS K Φ H o p F):F.Nodup:=by
  cases h with
  | lst _ _=>simp
  | map _ _=>simp
  | mpT _ _=>simp
  | obj _ _ _ h=>exact h
theorem ArgM.len {K:PySem.W.Frag} {Φ H:Hp} {as:List Sm} {vs:List V} {Fs:List (List Addr)} (h:ArgM K Φ H as vs Fs):vs.length=as.length∧Fs.length=as.length:=by
  induction h with
  | nil=>exact ⟨rfl,rfl⟩
  | v _ _ ih=>exact ⟨by simp [ih.1],by simp [ih.2]⟩
  | o _ _ ih=>exact ⟨by simp [ih.1],by simp [ih.2]⟩
section
variable {K : PySem.W.Frag} {H0 H H' Φ Φ' Φ0 : Hp} {σ σ2 : St} {ρ ρ2 : qaE} {fp : Nat → List Addr} {F F' B : List Addr} {o o' : Om} {p : Addr} {d : D} {v : V} {i : Nat} {a : Option Addr}
def fpN (new:Nat→Option (Om × List Addr)) (fp:Nat→List Addr):Nat→List Addr:=fun i=>match new i with | some q=>q.2 | none=>fp i
theorem EnvM'.lend {new:Nat→Option (Om × List Addr)} (E:EnvM' K H0 Φ H σ ρ fp) (s0:Same H0 H) (hB:∀ b,b∈B→∃ i a o q,new i=some q∧ρ[i]?=some (some (.ob a o))∧b∈fp i) (hB2:∀ i q,new i=some q→∀ b∈fp i,b∈B) (g:Gr Φ (qbg H B) Φ' H')
    (hl:ρ2.length=ρ.length) (hv:∀ (i:Nat) (d:D),ρ2[i]?=some (some (.v d))→ρ[i]?=some (some (.v d)))
    (ho:∀ (i:Nat) (a:Option Addr) (o:Om),ρ2[i]?=some (some (.ob a o))→(new i=none∧ρ[i]?=some (some (.ob a o)))∨∃ o0 F',new i=some (o,F')∧ρ[i]?=some (some (.ob a o0)))
    (hn:∀ (i:Nat) (q:Om × List Addr),new i=some q→∃ p,σ[i]?=some (some (.ref p))∧OmS K Φ' H' q.1 p q.2) (hF:∀ (i:Nat) (q:Om × List Addr),new i=some q→∀ b∈q.2,qbg H B b=none∧Φ' b=none)
    (hd:∀ (i j:Nat) (q r:Om × List Addr),new i=some q→new j=some r→i≠j→∀ b∈q.2,b∉r.2):EnvM' K H0 Φ' H' σ ρ2 (fpN new fp):=by
  have B0:∀ b∈B,H0 b=none:=fun b hb=>let ⟨i,a,o,_,_,h,hm⟩:=hB b hb;(E.no i a o h b hm).1
  have out:∀ {i:Nat} {a:Option Addr} {o:Om},new i=none→ρ[i]?=some (some (.ob a o))→∀ b∈fp i,b∉B:=fun {i a o} hi h b hb z=>by
    obtain ⟨j,a',o2,q,hj,h2,hm⟩:=hB b z
    have c:i≠j:=fun e=>by rw [e,hj] at hi;cases hi
    exact E.dj i j a a' o o2 h h2 c b hb hm
  have fpn:∀ {i:Nat},new i=none→fpN new fp i=fp i:=fun h=>by unfold fpN;rw [h]
  have fps:∀ {i:Nat} {q:Om × List Addr},new i=some q→fpN new fp i=q.2:=fun h=>by unfold fpN;rw [h]
  refine ⟨g.s,by rw [hl];exact E.len,fun i d h=>?_,fun i a o h=>?_,fun i a o h b hb=>?_,fun i j a a' o o' hi hj c b hb hb2=>?_,E.tb.same g.f⟩
  · obtain ⟨v,e,r⟩:=E.sl i d (hv i d h)
    exact ⟨v,e,r.same g.f⟩
  · rcases ho i a o h with ⟨h1,h2⟩ | ⟨o0,F',h1,h2⟩
    · obtain ⟨p,e,ha,r⟩:=E.ow i a o h2
      refine ⟨p,e,ha,?_⟩
      rw [fpn h1]
      exact r.keep g.f fun b hb u hu=>g.h b u (by rw [qbt (out h1 h2 b hb)];exact hu)
    · obtain ⟨p,e,ha,_⟩:=E.ow i a o0 h2
      obtain ⟨p',e',r⟩:=hn i _ h1
      rw [e] at e'
      cases e'
      exact ⟨p,e,ha,by rw [fps h1];exact r⟩
  · rcases ho i a o h with ⟨h1,h2⟩ | ⟨o0,F',h1,h2⟩
    · rw [fpn h1] at hb
      obtain ⟨p,_,_,r⟩:=E.ow i a o h2
      obtain ⟨u,hu,k⟩:=r.at b hb
      exact ⟨(E.no i a o h2 b hb).1,g.o b u (by rw [qbt (out h1 h2 b hb)];exact hu) (E.no i a o h2 b hb).2 k⟩
    · rw [fps h1] at hb
      obtain ⟨z1,z2⟩:=hF i _ h1 b hb
      refine ⟨?_,z2⟩
      rcases Decidable.em (b∈B) with c | c
      · exact B0 b c
      · rw [qbt c] at z1
        cases e:H0 b with
        | none=>rfl
        | some u=>rw [s0 b u e] at z1;cases z1
  · have no:∀ {i j:Nat} {q:Om × List Addr} {a:Option Addr} {o:Om},new i=some q→new j=none→ρ[j]?=some (some (.ob a o))→b∈q.2→b∈fp j→False:=fun {i j q a o} h1 h2 h3 h4 h5=>by
      obtain ⟨p,_,_,r⟩:=E.ow j a o h3
      obtain ⟨u,hu,_⟩:=r.at b h5
      have:=(hF i q h1 b h4).1
      rw [qbt (out h2 h3 b h5),hu] at this
      cases this
    rcases ho i a o hi with ⟨h1,h2⟩ | ⟨o0,F',h1,h2⟩
    · rw [fpn h1] at hb
      rcases ho j a' o' hj with ⟨k1,k2⟩ | ⟨o1,F1,k1,k2⟩
      · rw [fpn k1] at hb2
        exact E.dj i j a a' o o' h2 k2 c b hb hb2
      · rw [fps k1] at hb2
        exact no k1 h1 h2 hb2 hb
    · rw [fps h1] at hb
      rcases ho j a' o' hj with ⟨k1,k2⟩ | ⟨o1,F1,k1,k2⟩
      · rw [fpn k1] at hb2
        exact no h1 k1 k2 hb hb2
      · rw [fps k1] at hb2
        exact hd i j _ _ h1 k1 c b hb hb2
theorem Gr.lend (g0:Gr Φ0 H0 Φ H) (g:Gr Φ (qbg H B) Φ' H') (B0:∀ b∈B,H0 b=none):Gr Φ0 H0 Φ' H':=by
  have up:∀ {b:Addr} {u:HO},H0 b=some u→qbg H B b=some u:=fun {b u} e=>by
    rw [qbt fun z=>by rw [B0 b z] at e;cases e]
    exact g0.h b u e
  exact ⟨g0.f.trans g.f,fun b u e=>g.h b u (up e),g.s,fun b u h1 h2 k=>g.o b u (up h1) (g0.o b u h1 h2 k) k⟩
theorem EnvM'.snocG (E:EnvM' K H0 Φ H σ ρ fp) {sm:Sm} (hr:ResM K Φ H sm v F) (hf:∀ b∈F,H0 b=none∧Φ b=none) (hd:∀ b∈F,∀ (i:Nat) (a:Option Addr) (o:Om),ρ[i]?=some (some (.ob a o))→b∉fp i):EnvM K H0 Φ H (σ++[some v]) (ρ++[some sm]):=by
  cases hr with
  | v r=>exact EnvM.snocV ⟨fp,E⟩ r
  | @o a0 o p F ha0 ho =>
    have cs:∀ {i:Nat} {x:Sm},(ρ++[some (Sm.ob a0 o)])[i]?=some (some x)→(i<ρ.length∧ρ[i]?=some (some x))∨(i=ρ.length∧x=.ob a0 o):=fun {i x} h=>by
      rcases Nat.lt_or_ge i ρ.length with c | c
      · rw [List.getElem?_append_left c] at h
        exact .inl ⟨c,h⟩
      · rw [List.getElem?_append_right c] at h
        cases e:i - ρ.length with
        | zero=>rw [e] at h;cases h;exact .inr ⟨by omega,rfl⟩
        | succ n=>rw [e] at h;cases h
    refine ⟨fun i=>if i=ρ.length then F else fp i,E.fz,by rw [List.length_append,List.length_append,E.len];rfl,fun i d h=>?_,fun i a o' h=>?_,fun i a o' h b hb=>?_,fun i j a a' o1 o2 hi hj c b hb hb2=>?_,E.tb⟩
    · rcases cs h with ⟨c,h⟩ | ⟨_,h⟩
      · obtain ⟨v,e,r⟩:=E.sl i d h
        exact ⟨v,by rw [List.getElem?_append_left (by rw [E.len];exact c)];exact e,r⟩
      · cases h
    · rcases cs h with ⟨c,h⟩ | ⟨c,h⟩
      · obtain ⟨q,e,r⟩:=E.ow i a o' h
        exact ⟨q,by rw [List.getElem?_append_left (by rw [E.len];exact c)];exact e,by rw [if_neg (by omega)];exact r⟩
      · cases h
        subst c
        refine ⟨p,by rw [List.getElem?_append_right (by rw [E.len];exact Nat.le_refl _),E.len,Nat.sub_self];rfl,ha0,by rw [if_pos rfl];exact ho⟩
    · rcases cs h with ⟨c,h⟩ | ⟨c,h⟩
      · rw [if_neg (by omega)] at hb
        exact E.no i a o' h b hb
      · rw [if_pos c] at hb
        exact hf b hb
    · rcases cs hi with ⟨ci,hi⟩ | ⟨ci,hi⟩
      · rw [if_neg (by omega)] at hb
        rcases cs hj with ⟨cj,hj⟩ | ⟨cj,hj⟩
        · rw [if_neg (by omega)] at hb2
          exact E.dj i j a a' o1 o2 hi hj c b hb hb2
        · rw [if_pos cj] at hb2
          exact hd b hb2 i a o1 hi hb
      · rw [if_pos ci] at hb
        rcases cs hj with ⟨cj,hj⟩ | ⟨cj,hj⟩
        · rw [if_neg (by omega)] at hb2
          exact hd b hb j a' o2 hj hb2
        · omega
end
def qcw (ρ:qaE):List Ar→Option (List Sm)
  | []=>some []
  | .t s::as=>(qcw ρ as).map (s::·)
  | .s i::as=>match ρ[i]? with
    | some (some (.ob _ o))=>(qcw ρ as).map (.ob none o::·)
    | _=>none
def qdw (o:Om):Option Sm→Option Sm
  | some (.ob a _)=>some (.ob a o)
  | x=>x
def qb7:qaE→Nat→Om→qaE
  | [],_,_=>[]
  | x::ρ,0,o=>qdw o x::ρ
  | x::ρ,i+1,o=>x::qb7 ρ i o
theorem qdA:∀ (ρ:qaE) (i:Nat) (o:Om),qb7 ρ i o=(match ρ[i]? with
    | some (some (.ob a _))=>ρ.set i (some (.ob a o))
    | _=>ρ)
  | [],_,_=>rfl
  | some (.ob _ _)::_,0,_=>rfl
  | some (.v _)::_,0,_=>rfl
  | none::_,0,_=>rfl
  | x::ρ,i+1,o=>by
    show x::qb7 ρ i o=_
    rw [qdA ρ i o,List.getElem?_cons_succ]
    match ρ[i]? with
    | some (some (.ob _ _))=>rfl
    | some (some (.v _))=>rfl
    | some none=>rfl
    | none=>rfl
def qbR (ρ:qaE):List Ar→List Om→qaE
  | [],_=>ρ
  | .t (.v _)::as,os=>qbR ρ as os
  | .t (.ob _ _)::as,_::os=>qbR ρ as os
  | .t (.ob _ _)::as,[]=>qbR ρ as []
  | .s i::as,o::os=>qbR (qb7 ρ i o) as os
  | .s _::as,[]=>qbR ρ as []
def qbu:List Ar→List Nat
  | []=>[]
  | .t _::as=>qbu as
  | .s i::as=>i::qbu as
def qiU (as:List Ar):Bool:=decide (qbu as).Nodup
def qeI:Nat→List Ar→List Om→List (List Addr)→Nat→Option (Om × List Addr)
  | n,.t (.v _)::as,os,_::Fs,i=>qeI (n+1) as os Fs i
  | n,.t (.ob _ _)::as,o::os,F::Fs,i=>if i=n then some (o,F) else qeI (n+1) as os Fs i
  | n,.s j::as,o::os,F::Fs,i=>if i=j then some (o,F) else qeI n as os Fs i
  | _,_,_,_,_=>none
section
variable {K : PySem.W.Frag} {H0 H H' Φ Φ' Φ0 : Hp} {σ σ2 : St} {ρ : qaE} {fp : Nat → List Addr}
def fpA (fp:Nat→List Addr):Nat→List Ar→List (List Addr)
  | _,[]=>[]
  | n,.t (.v _)::as=>[]::fpA fp (n+1) as
  | n,.t (.ob _ _)::as=>fp n::fpA fp (n+1) as
  | n,.s j::as=>fp j::fpA fp n as
def qa2:Nat→List Ar→List Nat
  | _,[]=>[]
  | n,.t (.v _)::as=>qa2 (n+1) as
  | n,.t (.ob _ _)::as=>n::qa2 (n+1) as
  | n,.s j::as=>j::qa2 n as
theorem fpA_mem:∀ {n:Nat} {as:List Ar} {b:Addr},b∈(fpA fp n as).flatten↔∃ i∈qa2 n as,b∈fp i
  | n,[],b=>by simp [fpA,qa2]
  | n,.t (.v _)::as,b=>by simp only [fpA,qa2,List.flatten_cons,List.nil_append];exact fpA_mem
  | n,.t (.ob _ _)::as,b=>by simp only [fpA,qa2,List.flatten_cons,List.mem_append,List.mem_cons,fpA_mem (n:=n+1) (as:=as),exists_eq_or_imp]
  | n,.s j::as,b=>by simp only [fpA,qa2,List.flatten_cons,List.mem_append,List.mem_cons,fpA_mem (n:=n) (as:=as),exists_eq_or_imp]
theorem qb4:∀ {n:Nat} {as:List Ar} {i:Nat},i∈qa2 n as→i∈qbu as∨(n≤i∧i<n+(tsm as).length)
  | n,[],i,h=>by cases h
  | n,.t (.v d)::as,i,h=>by
    have h:i∈qa2 (n+1) as:=h
    rcases qb4 h with z | z
    · exact .inl z
    · refine .inr ⟨by omega,?_⟩
      show i<n+((tsm as).length+1)
      omega
  | n,.t (.ob a o)::as,i,h=>by
    rcases List.mem_cons.mp h with rfl | h
    · refine .inr ⟨Nat.le_refl _,?_⟩
      show i<i+((tsm as).length+1)
      omega
    · rcases qb4 h with z | z
      · exact .inl z
      · refine .inr ⟨by omega,?_⟩
        show i<n+((tsm as).length+1)
        omega
  | n,.s j::as,i,h=>by
    rcases List.mem_cons.mp h with rfl | h
    · exact .inl List.mem_cons_self
    · rcases qb4 h with z | z
      · exact .inl (List.mem_cons_of_mem _ z)
      · exact .inr z
theorem qbY:∀ {n:Nat} {as:List Ar},(qbu as).Nodup→(∀ i∈qbu as,i<n)→(qa2 n as).Nodup
  | n,[],_,_=>by simp [qa2]
  | n,.t (.v d)::as,h,hl=>qbY (n:=n+1) h fun i hi=>Nat.lt_succ_of_lt (hl i hi)
  | n,.t (.ob a o)::as,h,hl=>by
    refine List.nodup_cons.mpr ⟨fun z=>?_,qbY (n:=n+1) h fun i hi=>Nat.lt_succ_of_lt (hl i hi)⟩
    rcases qb4 z with z | z
    · exact Nat.lt_irrefl _ (hl n z)
    · omega
  | n,.s j::as,h,hl=>by
    obtain ⟨h1,h2⟩:=List.nodup_cons.mp h
    refine List.nodup_cons.mpr ⟨fun z=>?_,qbY h2 fun i hi=>hl i (List.mem_cons_of_mem _ hi)⟩
    rcases qb4 z with z | z
    · exact h1 z
    · have:=hl j List.mem_cons_self
      omega
theorem qh7 {σx:St} {ρx:qaE} (E:EnvM' K H0 Φ H σx ρx fp) (hs:∀ (i:Nat) (x:Sm),ρ[i]?=some (some x)→ρx[i]?=some (some x)) (hs2:∀ (i:Nat) (v:V),σ[i]?=some (some v)→σx[i]?=some (some v)) :
    ∀ {n:Nat} {as:List Ar} {sms:List Sm} {vs:List V} {ts:St},(∀ (j:Nat) x,(tsm as)[j]?=some x→ρx[n+j]?=some x)→(∀ (j:Nat) x,ts[j]?=some x→σx[n+j]?=some x)→qcw ρ as=some sms→ArV σ as vs ts→ArgM K Φ H sms vs (fpA fp n as)
  | n,[],sms,_,_,_,_,hr,.nil=>by cases hr;exact .nil
  | n,.t (.v d)::as,sms,_,_,h1,h2,hr,.t hv=>by
    have hr':(qcw ρ as).map (Sm.v d::·)=some sms:=hr
    cases e:qcw ρ as with
    | none=>rw [e] at hr';cases hr'
    | some sms' =>
      rw [e] at hr'
      cases hr'
      obtain ⟨w,hw,r⟩:=E.sl n d (h1 0 _ rfl)
      have:=h2 0 _ rfl
      rw [show n+0=n from rfl,hw] at this
      cases this
      exact .v r (qh7 E hs hs2 (n:=n+1) (fun j x hx=>by rw [show n+1+j=n+(j+1) by omega];exact h1 (j+1) x hx) (fun j x hx=>by rw [show n+1+j=n+(j+1) by omega];exact h2 (j+1) x hx) e hv)
  | n,.t (.ob a o)::as,sms,_,_,h1,h2,hr,.t hv=>by
    have hr':(qcw ρ as).map (Sm.ob a o::·)=some sms:=hr
    cases e:qcw ρ as with
    | none=>rw [e] at hr';cases hr'
    | some sms' =>
      rw [e] at hr'
      cases hr'
      obtain ⟨w,hw,_,r⟩:=E.ow n a o (h1 0 _ rfl)
      have:=h2 0 _ rfl
      rw [show n+0=n from rfl,hw] at this
      cases this
      exact .o r (qh7 E hs hs2 (n:=n+1) (fun j x hx=>by rw [show n+1+j=n+(j+1) by omega];exact h1 (j+1) x hx) (fun j x hx=>by rw [show n+1+j=n+(j+1) by omega];exact h2 (j+1) x hx) e hv)
  | n,.s i::as,sms,_,_,h1,h2,hr,.s hi hv=>by
    unfold qcw at hr
    split at hr
    · next a o ho =>
      cases e:qcw ρ as with
      | none=>rw [e] at hr;cases hr
      | some sms' =>
        rw [e] at hr
        cases hr
        obtain ⟨w,hw,_,r⟩:=E.ow i a o (hs i _ ho)
        rw [hs2 i _ hi] at hw
        cases hw
        exact .o r (qh7 E hs hs2 h1 h2 e hv)
    · cases hr
theorem qhG {σx:St} {ρx:qaE} (hs:∀ (i:Nat) (x:Sm),ρ[i]?=some (some x)→ρx[i]?=some (some x)) :
    ∀ {n:Nat} {as:List Ar} {sms:List Sm},(∀ (j:Nat) x,(tsm as)[j]?=some x→ρx[n+j]?=some x)→qcw ρ as=some sms→∀ i∈qa2 n as,∃ a o,ρx[i]?=some (some (.ob a o))
  | n,[],sms,_,hr,i,h=>by cases h
  | n,.t (.v d)::as,sms,h1,hr,i,h=>by
    have hr':(qcw ρ as).map (Sm.v d::·)=some sms:=hr
    cases e:qcw ρ as with
    | none=>rw [e] at hr';cases hr'
    | some sms'=>exact qhG (σx:=σx) hs (n:=n+1) (fun j x hx=>by rw [show n+1+j=n+(j+1) by omega];exact h1 (j+1) x hx) e i h
  | n,.t (.ob a o)::as,sms,h1,hr,i,h=>by
    have hr':(qcw ρ as).map (Sm.ob a o::·)=some sms:=hr
    cases e:qcw ρ as with
    | none=>rw [e] at hr';cases hr'
    | some sms' =>
      rcases List.mem_cons.mp h with rfl | h
      · exact ⟨a,o,h1 0 _ rfl⟩
      · exact qhG (σx:=σx) hs (n:=n+1) (fun j x hx=>by rw [show n+1+j=n+(j+1) by omega];exact h1 (j+1) x hx) e i h
  | n,.s j::as,sms,h1,hr,i,h=>by
    unfold qcw at hr
    split at hr
    · next a o ho =>
      cases e:qcw ρ as with
      | none=>rw [e] at hr;cases hr
      | some sms' =>
        rcases List.mem_cons.mp h with rfl | h
        · exact ⟨a,o,hs _ _ ho⟩
        · exact qhG (σx:=σx) hs (n:=n) (as:=as) h1 e i h
    · cases hr
theorem qdf {σx:St} {ρx:qaE} (E:EnvM' K H0 Φ H σx ρx fp):∀ {n:Nat} {as:List Ar},(qa2 n as).Nodup→(∀ i∈qa2 n as,∃ a o,ρx[i]?=some (some (.ob a o)))→(fpA fp n as).flatten.Nodup
  | n,[],_,_=>by simp [fpA]
  | n,.t (.v d)::as,h,ho=>by
    show ([]++(fpA fp (n+1) as).flatten).Nodup
    rw [List.nil_append]
    exact qdf E (n:=n+1) h ho
  | n,.t (.ob a o)::as,h,ho=>by
    show (fp n++(fpA fp (n+1) as).flatten).Nodup
    obtain ⟨h1,h2⟩:=List.nodup_cons.mp h
    obtain ⟨a',o',hn⟩:=ho n List.mem_cons_self
    obtain ⟨_,_,_,r⟩:=E.ow n a' o' hn
    refine List.nodup_append.mpr ⟨r.nodup,qdf E (n:=n+1) h2 fun i hi=>ho i (List.mem_cons_of_mem _ hi),fun b hb c hc e=>?_⟩
    subst e
    obtain ⟨i,hi,hbi⟩:=fpA_mem.mp hc
    obtain ⟨a2,o2,hi2⟩:=ho i (List.mem_cons_of_mem _ hi)
    exact E.dj n i a' a2 o' o2 hn hi2 (fun e=>h1 (e ▸ hi)) b hb hbi
  | n,.s j::as,h,ho=>by
    show (fp j++(fpA fp n as).flatten).Nodup
    obtain ⟨h1,h2⟩:=List.nodup_cons.mp h
    obtain ⟨a',o',hn⟩:=ho j List.mem_cons_self
    obtain ⟨_,_,_,r⟩:=E.ow j a' o' hn
    refine List.nodup_append.mpr ⟨r.nodup,qdf E h2 fun i hi=>ho i (List.mem_cons_of_mem _ hi),fun b hb c hc e=>?_⟩
    subst e
    obtain ⟨i,hi,hbi⟩:=fpA_mem.mp hc
    obtain ⟨a2,o2,hi2⟩:=ho i (List.mem_cons_of_mem _ hi)
    exact E.dj j i a' a2 o' o2 hn hi2 (fun e=>h1 (e ▸ hi)) b hb hbi
theorem qbO:∀ {n:Nat} {as:List Ar} {os:List Om} {Fs:List (List Addr)} {i:Nat} {q:Om × List Addr},qeI n as os Fs i=some q→i∈qa2 n as
  | n,[],_,_,_,_,h=>by cases h
  | n,.t (.v d)::as,os,[],i,q,h=>by cases h
  | n,.t (.v d)::as,os,F::Fs,i,q,h=>qbO (n:=n+1) h
  | n,.t (.ob a o)::as,[],Fs,i,q,h=>by cases Fs <;> cases h
  | n,.t (.ob a o)::as,_::_,[],i,q,h=>by cases h
  | n,.t (.ob a o)::as,o'::os,F::Fs,i,q,h=>by
    have h:(if i=n then some (o',F) else qeI (n+1) as os Fs i)=some q:=h
    split at h
    · next c=>rw [c];exact List.mem_cons_self
    · exact List.mem_cons_of_mem _ (qbO h)
  | n,.s j::as,[],Fs,i,q,h=>by cases Fs <;> cases h
  | n,.s j::as,_::_,[],i,q,h=>by cases h
  | n,.s j::as,o'::os,F::Fs,i,q,h=>by
    have h:(if i=j then some (o',F) else qeI n as os Fs i)=some q:=h
    split at h
    · next c=>rw [c];exact List.mem_cons_self
    · exact List.mem_cons_of_mem _ (qbO h)
theorem qh1 {σx:St} (hs2:∀ (i:Nat) (v:V),σ[i]?=some (some v)→σx[i]?=some (some v)) :
    ∀ {n:Nat} {as:List Ar} {sms:List Sm} {vs:List V} {ts:St} {os:List Om} {Fs:List (List Addr)},(∀ (j:Nat) x,ts[j]?=some x→σx[n+j]?=some x)→qcw ρ as=some sms→ArV σ as vs ts→OutM K Φ H sms vs os Fs→(qa2 n as).Nodup→Fs.flatten.Nodup →
      (∀ i∈qa2 n as,∃ q,qeI n as os Fs i=some q)∧∀ (i:Nat) (q:Om × List Addr),qeI n as os Fs i=some q→(∃ p,σx[i]?=some (some (.ref p))∧OmS K Φ H q.1 p q.2)∧(∀ b∈q.2,b∈Fs.flatten)∧∀ (j:Nat) (r:Om × List Addr),qeI n as os Fs j=some r→i≠j→∀ b∈q.2,b∉r.2
  | n,[],sms,_,_,os,Fs,_,hr,.nil,ho,_,_=>by
    refine ⟨fun i hi=>(by cases hi),fun i q h=>(by cases h)⟩
  | n,.t (.v d)::as,sms,_,_,os,Fs,h2,hr,.t hv,ho,np,nf=>by
    have hr':(qcw ρ as).map (Sm.v d::·)=some sms:=hr
    cases e:qcw ρ as with
    | none=>rw [e] at hr';cases hr'
    | some sms' =>
      rw [e] at hr'
      cases hr'
      cases ho with
      | v ho =>
        have ih:=qh1 hs2 (n:=n+1) (fun j x hx=>by rw [show n+1+j=n+(j+1) by omega];exact h2 (j+1) x hx) e hv ho np (by simpa using nf)
        exact ⟨ih.1,fun i q h=>by obtain ⟨z1,z2,z3⟩:=ih.2 i q h;exact ⟨z1,fun b hb=>by simpa using z2 b hb,z3⟩⟩
  | n,.t (.ob a o)::as,sms,_,_,os,Fs,h2,hr,.t hv,ho,np,nf=>by
    have hr':(qcw ρ as).map (Sm.ob a o::·)=some sms:=hr
    cases e:qcw ρ as with
    | none=>rw [e] at hr';cases hr'
    | some sms' =>
      rw [e] at hr'
      cases hr'
      cases ho with
      | @o _ _ o' p F _ _ os Fs h1 ho =>
        obtain ⟨np1,np2⟩:=List.nodup_cons.mp np
        obtain ⟨nf1,nf2,nf3⟩:=List.nodup_append.mp (show (F++Fs.flatten).Nodup from nf)
        have ih:=qh1 hs2 (n:=n+1) (fun j x hx=>by rw [show n+1+j=n+(j+1) by omega];exact h2 (j+1) x hx) e hv ho np2 nf2
        have u:∀ i,qeI n (.t (.ob a o)::as) (o'::os) (F::Fs) i=if i=n then some (o',F) else qeI (n+1) as os Fs i:=fun i=>rfl
        refine ⟨fun i hi=>?_,fun i q h=>?_⟩
        · rw [u]
          split
          · exact ⟨_,rfl⟩
          · next c=>exact ih.1 i ((List.mem_cons.mp hi).resolve_left c)
        · rw [u] at h
          split at h
          · next c =>
            subst c
            cases h
            refine ⟨⟨p,h2 0 _ rfl,h1⟩,fun b hb=>List.mem_append.mpr (.inl hb),fun j r hj c b hb hb2=>?_⟩
            rw [u,if_neg (Ne.symm c)] at hj
            exact nf3 b hb b ((ih.2 j r hj).2.1 b hb2) rfl
          · next c =>
            obtain ⟨z1,z2,z3⟩:=ih.2 i q h
            refine ⟨z1,fun b hb=>List.mem_append.mpr (.inr (z2 b hb)),fun j r hj c2 b hb hb2=>?_⟩
            rw [u] at hj
            split at hj
            · next c3 =>
              cases hj
              exact nf3 b hb2 b (z2 b hb) rfl
            · exact z3 j r hj c2 b hb hb2
  | n,.s j0::as,sms,_,_,os,Fs,h2,hr,.s hi hv,ho,np,nf=>by
    unfold qcw at hr
    split at hr
    · next a o ho0 =>
      cases e:qcw ρ as with
      | none=>rw [e] at hr;cases hr
      | some sms' =>
        rw [e] at hr
        cases hr
        cases ho with
        | @o _ _ o' p F _ _ os Fs h1 ho =>
          obtain ⟨np1,np2⟩:=List.nodup_cons.mp np
          obtain ⟨nf1,nf2,nf3⟩:=List.nodup_append.mp (show (F++Fs.flatten).Nodup from nf)
          have ih:=qh1 hs2 h2 e hv ho np2 nf2
          have u:∀ i,qeI n (.s j0::as) (o'::os) (F::Fs) i=if i=j0 then some (o',F) else qeI n as os Fs i:=fun i=>rfl
          refine ⟨fun i hi=>?_,fun i q h=>?_⟩
          · rw [u]
            split
            · exact ⟨_,rfl⟩
            · next c=>exact ih.1 i ((List.mem_cons.mp hi).resolve_left c)
          · rw [u] at h
            split at h
            · next c =>
              subst c
              cases h
              refine ⟨⟨p,hs2 _ _ hi,h1⟩,fun b hb=>List.mem_append.mpr (.inl hb),fun j r hj c b hb hb2=>?_⟩
              rw [u,if_neg (Ne.symm c)] at hj
              exact nf3 b hb b ((ih.2 j r hj).2.1 b hb2) rfl
            · next c =>
              obtain ⟨z1,z2,z3⟩:=ih.2 i q h
              refine ⟨z1,fun b hb=>List.mem_append.mpr (.inr (z2 b hb)),fun j r hj c2 b hb hb2=>?_⟩
              rw [u] at hj
              split at hj
              · next c3 =>
                cases hj
                exact nf3 b hb2 b (z2 b hb) rfl
              · exact z3 j r hj c2 b hb hb2
    · cases hr
theorem qmh {ρ:qaE} {i j:Nat} {o:Om} {x:Option Sm} (h:(qb7 ρ i o)[j]?=some x) (c:j≠i):ρ[j]?=some x:=by
  rw [qdA] at h
  split at h
  · rwa [List.getElem?_set_ne (Ne.symm c)] at h
  · exact h
theorem qhP {ρ:qaE} {i:Nat} {o:Om}:(qb7 ρ i o).length=ρ.length:=by
  rw [qdA]
  split
  · rw [List.length_set]
  · rfl
theorem qau:∀ {as:List Ar} {ρ:qaE} {os:List Om},(qbR ρ as os).length=ρ.length
  | [],_,_=>rfl
  | .t (.v _)::as,ρ,os=>qau (as:=as)
  | .t (.ob _ _)::as,ρ,_::os=>qau (as:=as)
  | .t (.ob _ _)::as,ρ,[]=>qau (as:=as)
  | .s i::as,ρ,o::os=>by show (qbR (qb7 ρ i o) as os).length=_;rw [qau,qhP]
  | .s _::as,ρ,[]=>qau (as:=as)
theorem qbG:∀ {as:List Ar} {ρ:qaE} {os:List Om} {i:Nat} {x:Option Sm},i∉qbu as→(qbR ρ as os)[i]?=some x→ρ[i]?=some x
  | [],_,_,_,_,_,h=>h
  | .t (.v _)::as,ρ,os,i,x,hn,h=>qbG (as:=as) (os:=os) hn h
  | .t (.ob _ _)::as,ρ,_::os,i,x,hn,h=>qbG (as:=as) (os:=os) hn h
  | .t (.ob _ _)::as,ρ,[],i,x,hn,h=>qbG (as:=as) (os:=[]) hn h
  | .s j::as,ρ,o::os,i,x,hn,h=>by
    have h':=qbG (as:=as) (fun z=>hn (List.mem_cons_of_mem _ z)) (show (qbR (qb7 ρ j o) as os)[i]?=some x from h)
    exact qmh h' fun e=>hn (by rw [e];exact List.mem_cons_self)
  | .s j::as,ρ,[],i,x,hn,h=>qbG (as:=as) (os:=[]) (fun z=>hn (List.mem_cons_of_mem _ z)) h
theorem qcD {ρ:qaE} {i j:Nat} {o:Om} (c:j≠i):(qb7 ρ i o)[j]?=ρ[j]?:=by
  rw [qdA]
  split
  · rw [List.getElem?_set_ne (Ne.symm c)]
  · rfl
theorem qdM {ρ0:qaE}:∀ {as:List Ar} {ρ:qaE} {sms:List Sm} {vs:List V} {ts:St} {os:List Om} {Fs:List (List Addr)} {n i:Nat} {x:Sm},qcw ρ0 as=some sms→ArV σ as vs ts→OutM K Φ H sms vs os Fs→i∈qbu as→i<n→(qbu as).Nodup→(qbR ρ as os)[i]?=some (some x)→(∀ j∈qbu as,∃ a o,ρ[j]?=some (some (.ob a o))) →
    ∃ a o0 q,x=.ob a q.1∧qeI n as os Fs i=some q∧ρ[i]?=some (some (.ob a o0))
  | [],_,_,_,_,_,_,_,_,_,_,_,_,h,_,_,_,_=>by cases h
  | .t (.v d)::as,ρ,sms,_,_,os,Fs,n,i,x,hr,.t hv,ho,h,hi,nd,hp,hs=>by
    have hr':(qcw ρ0 as).map (Sm.v d::·)=some sms:=hr
    cases e:qcw ρ0 as with
    | none=>rw [e] at hr';cases hr'
    | some sms' =>
      rw [e] at hr'
      cases hr'
      cases ho with
      | v ho=>exact qdM (n:=n+1) (as:=as) e hv ho h (by omega) nd hp hs
  | .t (.ob a1 o1)::as,ρ,sms,_,_,os,Fs,n,i,x,hr,.t hv,ho,h,hi,nd,hp,hs=>by
    have hr':(qcw ρ0 as).map (Sm.ob a1 o1::·)=some sms:=hr
    cases e:qcw ρ0 as with
    | none=>rw [e] at hr';cases hr'
    | some sms' =>
      rw [e] at hr'
      cases hr'
      cases ho with
      | @o _ _ o' p F _ _ os Fs h1 ho =>
        obtain ⟨a,o0,q,e1,e2,e3⟩:=qdM (n:=n+1) (as:=as) (ρ:=ρ) e hv ho h (by omega) nd hp hs
        refine ⟨a,o0,q,e1,?_,e3⟩
        show (if i=n then some (o',F) else qeI (n+1) as os Fs i)=some q
        rw [if_neg (by omega)]
        exact e2
  | .s j::as,ρ,sms,_,_,os,Fs,n,i,x,hr,.s _ hv,ho,h,hi,nd,hp,hs=>by
    unfold qcw at hr
    split at hr
    · next a2 o2 ho0 =>
      cases e:qcw ρ0 as with
      | none=>rw [e] at hr;cases hr
      | some sms' =>
        rw [e] at hr
        cases hr
        cases ho with
        | @o _ _ o' p F _ _ os Fs h1 ho =>
          obtain ⟨nd1,nd2⟩:=List.nodup_cons.mp nd
          have hp':(qbR (qb7 ρ j o') as os)[i]?=some (some x):=hp
          have u:qeI n (.s j::as) (o'::os) (F::Fs) i=if i=j then some (o',F) else qeI n as os Fs i:=rfl
          by_cases c:i=j
          · subst c
            obtain ⟨a,o0,hj⟩:=hs i List.mem_cons_self
            have:=qbG nd1 hp'
            rw [qdA] at this
            rw [hj] at this
            simp only at this
            rw [List.getElem?_set_self (qai hj)] at this
            cases this
            exact ⟨a,o0,(o',F),rfl,by rw [u,if_pos rfl],hj⟩
          · have hi':=(List.mem_cons.mp h).resolve_left c
            obtain ⟨a,o0,q,e1,e2,e3⟩:=qdM (n:=n) (as:=as) (ρ:=qb7 ρ j o') e hv ho hi' hi nd2 hp' fun k hk=>by
              rw [qcD fun z=>nd1 (by rw [← z];exact hk)]
              exact hs k (List.mem_cons_of_mem _ hk)
            exact ⟨a,o0,q,e1,by rw [u,if_neg c];exact e2,by rw [qcD c] at e3;exact e3⟩
    · cases hr
theorem qfE:∀ {as:List Ar} {sms:List Sm},qcw ρ as=some sms→∀ j∈qbu as,∃ a o,ρ[j]?=some (some (.ob a o))
  | [],_,_,j,h=>by cases h
  | .t s::as,sms,hr,j,h=>by
    have hr':(qcw ρ as).map (s::·)=some sms:=hr
    cases e:qcw ρ as with
    | none=>rw [e] at hr';cases hr'
    | some sms'=>exact qfE e j h
  | .s i::as,sms,hr,j,h=>by
    unfold qcw at hr
    split at hr
    · next a o ho =>
      cases e:qcw ρ as with
      | none=>rw [e] at hr;cases hr
      | some sms' =>
        rcases List.mem_cons.mp h with rfl | h
        · exact ⟨a,o,ho⟩
        · exact qfE e j h
    · cases hr
end
section
variable {K : PySem.W.Frag} {X : Cx} {e : Expr} {es : List Expr} {pos p : Pos} {tA : TXA}
def qnd (sp:SpM) (tA:TXA):TX:=fun ρ R Rx=>tA ρ (fun as ρ1=>∃ sms,qcw ρ1 as=some sms∧qiU as=true∧sp sms (fun sm os=>R sm (qbR ρ1 as os)) (fun xd os=>Rx xd (qbR ρ1 as os))) Rx
theorem StM.lend {Φ0 H0 Φ H:Hp} {σ τ ts:St} {ρ κ:qaE} {Rx:XD→qaE→Prop} {as:List Ar} {sms:List Sm} {vs:List V} (S:StM K X Φ0 H0 Φ H σ (τ++ts) ρ (κ++tsm as) Rx) (hl:κ.length=τ.length) (hr:qcw ρ as=some sms) (hv:ArV σ as vs ts) (hs:qiU as=true) :
    ∃ Fs,ArgM K Φ H sms vs Fs∧Fs.flatten.Nodup∧(∀ b∈Fs.flatten,Φ b=none)∧∀ sm os Φ' H' v F Fs',Gr Φ (qbg H Fs.flatten) Φ' H'→ResM K Φ' H' sm v F→OutM K Φ' H' sms vs os Fs'→(F++Fs'.flatten).Nodup→(∀ b∈F++Fs'.flatten,qbg H Fs.flatten b=none∧Φ' b=none) →
      StM K X Φ0 H0 Φ' H' σ (τ++[some v]) (qbR ρ as os) (κ++[some sm]) Rx:=by
  have nd:(qbu as).Nodup:=of_decide_eq_true hs
  obtain ⟨fp,E⟩:=S.E
  have lS:=S.l
  have hlt:(tsm as).length=ts.length:=by have:=S.lk;rw [List.length_append,List.length_append] at this;omega
  have a1:∀ (i:Nat) (x:Sm),ρ[i]?=some (some x)→(ρ++(κ++tsm as))[i]?=some (some x):=fun i x h=>by rw [List.getElem?_append_left (qai h)];exact h
  have a2:∀ (i:Nat) (v:V),σ[i]?=some (some v)→(σ++(τ++ts))[i]?=some (some v):=fun i x h=>by rw [List.getElem?_append_left (qai h)];exact h
  have a3:∀ (j:Nat) x,(tsm as)[j]?=some x→(ρ++(κ++tsm as))[ρ.length+κ.length+j]?=some x:=fun j x h=>by
    rw [List.getElem?_append_right (by omega),List.getElem?_append_right (by omega),show ρ.length+κ.length+j - ρ.length - κ.length=j by omega]
    exact h
  have a4:∀ (j:Nat) x,ts[j]?=some x→(σ++(τ++ts))[ρ.length+κ.length+j]?=some x:=fun j x h=>by
    rw [List.getElem?_append_right (by omega),List.getElem?_append_right (by omega),show ρ.length+κ.length+j - σ.length - τ.length=j by omega]
    exact h
  have sl:=qfE hr
  have slt:∀ i∈qbu as,i<ρ.length:=fun i hi=>let ⟨_,_,h⟩:=sl i hi;qai h
  have pn:(qa2 (ρ.length+κ.length) as).Nodup:=qbY nd fun i hi=>by have:=slt i hi;omega
  have po:=qhG (σx:=σ) a1 a3 hr
  refine ⟨fpA fp (ρ.length+κ.length) as,qh7 E a1 a2 a3 a4 hr hv,qdf E pn po,fun b hb=>?_,fun sm os Φ' H' v F Fs' g hres hout hnd hno=>?_⟩
  · obtain ⟨i,hi,hbi⟩:=fpA_mem.mp hb
    obtain ⟨a,o,ho⟩:=po i hi
    exact (E.no i a o ho b hbi).2
  obtain ⟨nd1,nd2,nd3⟩:=List.nodup_append.mp hnd
  obtain ⟨n1,n2⟩:=qh1 (n:=ρ.length+κ.length) a2 a4 hr hv hout pn nd2
  have B0:∀ b∈(fpA fp (ρ.length+κ.length) as).flatten,H0 b=none:=fun b hb=>by
    obtain ⟨i,hi,hbi⟩:=fpA_mem.mp hb
    obtain ⟨a,o,ho⟩:=po i hi
    exact (E.no i a o ho b hbi).1
  have pl:∀ {i:Nat},i<ρ.length+κ.length→i∉qbu as→qeI (ρ.length+κ.length) as os Fs' i=none:=fun {i} hi hn=>by
    cases e:qeI (ρ.length+κ.length) as os Fs' i with
    | none=>rfl
    | some q =>
      rcases qb4 (qbO e) with z | z
      · exact absurd z hn
      · omega
  have E2:EnvM' K H0 Φ' H' (σ++(τ++ts)) (qbR ρ as os++(κ++List.replicate ts.length none)) (fpN (qeI (ρ.length+κ.length) as os Fs') fp):=by
    have cs:∀ {i:Nat} {x:Sm},(qbR ρ as os++(κ++List.replicate ts.length none))[i]?=some (some x)→(i<ρ.length∧(qbR ρ as os)[i]?=some (some x))∨(ρ.length≤i∧i<ρ.length+κ.length∧κ[i - ρ.length]?=some (some x)):=fun {i x} h=>by
      rcases Nat.lt_or_ge i ρ.length with c | c
      · rw [List.getElem?_append_left (by rw [qau];exact c)] at h
        exact .inl ⟨c,h⟩
      · rw [List.getElem?_append_right (by rw [qau];exact c),qau] at h
        rcases Nat.lt_or_ge (i - ρ.length) κ.length with c2 | c2
        · rw [List.getElem?_append_left c2] at h
          exact .inr ⟨c,by omega,h⟩
        · rw [List.getElem?_append_right c2,List.getElem?_replicate] at h
          split at h
          · cases h
          · cases h
    have kx:∀ {i:Nat} {x:Sm},ρ.length≤i→i<ρ.length+κ.length→κ[i - ρ.length]?=some (some x)→(ρ++(κ++tsm as))[i]?=some (some x):=fun {i x} c1 c2 h=>by
      rw [List.getElem?_append_right c1,List.getElem?_append_left (by omega)]
      exact h
    refine E.lend S.g.h (B:=(fpA fp (ρ.length+κ.length) as).flatten) (new:=qeI (ρ.length+κ.length) as os Fs') (fun b hb=>?_) (fun i q hq b hb=>fpA_mem.mpr ⟨i,qbO hq,hb⟩) g (by rw [List.length_append,List.length_append,List.length_append,List.length_append,List.length_replicate,qau,hlt]) (fun i d h=>?_) (fun i a o h=>?_) (fun i q hq=>(n2 i q hq).1) (fun i q hq b hb=>hno b (List.mem_append.mpr (.inr ((n2 i q hq).2.1 b hb)))) fun i j q r hq hr' c b hb=>(n2 i q hq).2.2 j r hr' c b hb
    · obtain ⟨i,hi,hbi⟩:=fpA_mem.mp hb
      obtain ⟨a,o,ho⟩:=po i hi
      obtain ⟨q,hq⟩:=n1 i hi
      exact ⟨i,a,o,q,hq,ho,hbi⟩
    · rcases cs h with ⟨c,h⟩ | ⟨c1,c2,h⟩
      · rcases Decidable.em (i∈qbu as) with z | z
        · obtain ⟨a,o0,q,e1,_⟩:=qdM (n:=ρ.length+κ.length) hr hv hout z (by omega) nd h sl
          cases e1
        · exact a1 _ _ (qbG z h)
      · exact kx c1 c2 h
    · rcases cs h with ⟨c,h⟩ | ⟨c1,c2,h⟩
      · rcases Decidable.em (i∈qbu as) with z | z
        · obtain ⟨a',o0,q,e1,e2,e3⟩:=qdM (n:=ρ.length+κ.length) hr hv hout z (by omega) nd h sl
          cases e1
          exact .inr ⟨o0,q.2,e2,a1 _ _ e3⟩
        · exact .inl ⟨pl (by omega) z,a1 _ _ (qbG z h)⟩
      · exact .inl ⟨pl c2 fun z=>by have:=slt i z;omega,kx c1 c2 h⟩
  have g0:=S.g.lend g B0
  have E3:=E2.snocG hres (fun b hb=>by
      obtain ⟨z1,z2⟩:=hno b (List.mem_append.mpr (.inl hb))
      refine ⟨?_,z2⟩
      rcases Decidable.em (b∈(fpA fp (ρ.length+κ.length) as).flatten) with c | c
      · exact B0 b c
      · rw [qbt c] at z1
        exact S.g.h.free z1) fun b hb i a o hi hbi=>by
    unfold fpN at hbi
    cases e:qeI (ρ.length+κ.length) as os Fs' i with
    | some q =>
      rw [e] at hbi
      exact nd3 b hb b ((n2 i q e).2.1 b hbi) rfl
    | none =>
      rw [e] at hbi
      obtain ⟨p,_,_,r⟩:=E2.ow i a o hi
      unfold fpN at r
      rw [e] at r
      obtain ⟨z1,z2⟩:=hno b (List.mem_append.mpr (.inl hb))
      have own:∃ o',(ρ++(κ++tsm as))[i]?=some (some (.ob a o')):=by
        rcases Nat.lt_or_ge i ρ.length with c | c
        · rw [List.getElem?_append_left (by rw [qau];exact c)] at hi
          rcases Decidable.em (i∈qbu as) with z | z
          · obtain ⟨a',o0,q,_,e2,_⟩:=qdM (n:=ρ.length+κ.length) hr hv hout z (by omega) nd hi sl
            rw [e] at e2
            cases e2
          · exact ⟨o,a1 _ _ (qbG z hi)⟩
        · rw [List.getElem?_append_right (by rw [qau];exact c),qau] at hi
          rcases Nat.lt_or_ge (i - ρ.length) κ.length with c2 | c2
          · rw [List.getElem?_append_left c2] at hi
            exact ⟨o,by rw [List.getElem?_append_right c,List.getElem?_append_left c2];exact hi⟩
          · rw [List.getElem?_append_right c2,List.getElem?_replicate] at hi
            split at hi
            · cases hi
            · cases hi
      obtain ⟨o',ho'⟩:=own
      obtain ⟨p',_,_,r'⟩:=E.ow i a o' ho'
      obtain ⟨u,hu,_⟩:=r'.at b hbi
      have c:b∉(fpA fp (ρ.length+κ.length) as).flatten:=fun z=>by
        obtain ⟨j,hj,hbj⟩:=fpA_mem.mp z
        obtain ⟨q,hq⟩:=n1 j hj
        have cj:i≠j:=fun z=>by rw [z,hq] at e;cases e
        obtain ⟨a2',o2,hj2⟩:=po j hj
        exact E.dj i j a a2' o' o2 ho' hj2 cj b hbi hbj
      rw [qbt c,hu] at z1
      cases z1
  refine ⟨g0,by rw [qau];exact lS,?_,S.x⟩
  refine E3.re (fun i=>if i<ρ.length+κ.length then i else ρ.length+κ.length+ts.length) (by simp only [List.length_append,List.length_cons,List.length_nil,qau];omega) (fun i x hx=>?_) fun i j a a' o o' hi hj e=>?_
  · rcases Nat.lt_or_ge i (ρ.length+κ.length) with c | c
    · rw [if_pos c]
      constructor
      · rcases Nat.lt_or_ge i ρ.length with c1 | c1
        · rw [List.getElem?_append_left (by rw [qau];exact c1)] at hx
          rw [List.getElem?_append_left (by simp only [List.length_append,qau];omega),List.getElem?_append_left (by rw [qau];exact c1)]
          exact hx
        · rw [List.getElem?_append_right (by rw [qau];exact c1),qau,List.getElem?_append_left (by omega)] at hx
          rw [List.getElem?_append_left (by simp only [List.length_append,qau];omega),List.getElem?_append_right (by rw [qau];exact c1),qau,List.getElem?_append_left (by omega)]
          exact hx
      · rcases Nat.lt_or_ge i σ.length with c1 | c1
        · rw [List.getElem?_append_left c1,List.getElem?_append_left (by simp only [List.length_append];omega),List.getElem?_append_left c1]
        · rw [List.getElem?_append_right c1,List.getElem?_append_left (by omega),List.getElem?_append_left (by simp only [List.length_append];omega),List.getElem?_append_right c1,List.getElem?_append_left (by omega)]
    · have hi:i=ρ.length+κ.length:=by
        have:=qai hx
        simp only [List.length_append,List.length_cons,List.length_nil,qau] at this
        omega
      subst hi
      rw [if_neg (by omega)]
      rw [List.getElem?_append_right (by rw [qau];omega),List.getElem?_append_right (by rw [qau];omega),qau,show ρ.length+κ.length - ρ.length - κ.length=0 by omega] at hx
      cases hx
      constructor
      · rw [List.getElem?_append_right (by simp only [List.length_append,List.length_replicate,qau];omega)]
        simp only [List.length_append,List.length_replicate,qau]
        rw [show ρ.length+κ.length+ts.length - (ρ.length+(κ.length+ts.length))=0 by omega]
        rfl
      · rw [List.getElem?_append_right (by omega),List.getElem?_append_right (by omega),List.getElem?_append_right (by simp only [List.length_append];omega)]
        simp only [List.length_append]
        rw [show ρ.length+κ.length - σ.length - τ.length=0 by omega,show ρ.length+κ.length+ts.length - (σ.length+(τ.length+ts.length))=0 by omega]
  · have hi1:=qai hi
    have hj1:=qai hj
    simp only [List.length_append,List.length_cons,List.length_nil,qau] at hi1 hj1
    have e:(if i<ρ.length+κ.length then i else ρ.length+κ.length+ts.length)=(if j<ρ.length+κ.length then j else ρ.length+κ.length+ts.length):=e
    split at e <;> split at e <;> omega
structure ClM (P:Program) (w:World) (K:PySem.W.Frag) (mg:Str→Option Value) (base:Heap) (n:Nat) (x:Str) (ps:List Str) (z:SpM):Prop where
  ex:∃ (f:Addr) (fd:FuncData),FnOk P w K mg base CX0 n f fd ps (qfA K z)∧Binds K fd ps []∧PySem.W.keepIn K (.ref f)=true∧mg x=some (.ref f)
theorem qaw {n:Nat} {x:Str} {ps:List Str} {z:SpM} (C:ClM X.prog X.w K X.mg X.base n x ps z) (hr:Room n X.A) (hg:Gl X x)
    (ha:PXA K X (e::es) tA) (he:starEach (e::es) X.env=(false,eval e X.env)::starEach es X.env) (hpl:(backTo pos (starEach es X.env)).any (·.1)=false) (hdb:(x == ("__debug__":Str))=false:=by decide) :
    PX K X (.Call (.Name x p) (e::es) [] pos) (qnd z tA):=⟨fun hK=>by
  obtain ⟨f,fd,F,b,k,m⟩:=C.ex
  refine (qgU (dvs:=[]) (ds:=[]) (E:=E0) (hK ▸ F:FnOk X.prog X.w X.K X.mg X.base CX0 n f fd ps (qfA K z)) hr hg m (hK ▸ k) (hK ▸ b) .nil qlZ (ha.pa hK) hdb he hpl).imp fun σ H Q hq0=>?_
  obtain ⟨Φ0,H0,Φ,τ,ρ,κ,R,Rx,S,t,k⟩:=hq0
  refine ⟨Φ0,H0,Φ,τ,ρ,κ,_,Rx,S,t,fun as ρ1 Φ1 H1 vs ts r1 hl hv S1 f1=>?_⟩
  obtain ⟨sms,hres,hsl,r1⟩:=r1
  obtain ⟨Fs,g1,g2,g3,g4⟩:=S1.lend S.lk hres hv hsl
  rw [List.append_nil]
  exact ⟨Φ1,sms,Fs,_,_,S1.g.s,S1.E.tb,g1,g2,g3,r1,fun sm os Φ' H' v F Fs' r gr hr' ho hn hno=>k sm _ Φ' H' v r (g4 sm os Φ' H' v F Fs' gr hr' ho hn hno) (f1.trans gr.f)⟩⟩
end
structure EndsM where
  nx:qaE→Prop
  rt:Sm→qaE→Prop
  bk:qaE→Prop:=fun _=>False
  ct:qaE→Prop:=fun _=>False
  ex:XD→qaE→Prop:=fun _ _=>False
abbrev TSM:=EndsM→qaE→Prop
def qpu (K:PySem.W.Frag) (Φ0 H0:Hp) (P:qaE→Prop) (Q:St→Hp→Prop):Prop:=∀ ρ' Φ' H' σ',P ρ'→Gr Φ0 H0 Φ' H'→EnvM K H0 Φ' H' σ' ρ'→Q σ' H'
structure EndOkM (K:PySem.W.Frag) (X:Cx) (Φ0 H0:Hp) (De:EndsM) (E:Ends):Prop where
  nx:qpu K Φ0 H0 De.nx E.nx
  rt:∀ sm ρ' Φ' H' v σ',De.rt sm ρ'→Gr Φ0 H0 Φ' H'→EnvM K H0 Φ' H' (σ'++[some v]) (ρ'++[some sm])→E.rt v H'
  bk:qpu K Φ0 H0 De.bk E.bk
  ct:qpu K Φ0 H0 De.ct E.ct
  ex:XeOk K X Φ0 H0 De.ex
def lM (K:PySem.W.Frag) (X:Cx) (t:TSM):TS:=fun E σ H=>∃ Φ0 H0 Φ ρ De,Gr Φ0 H0 Φ H∧EnvM K H0 Φ H σ ρ∧t De ρ∧EndOkM K X Φ0 H0 De E
structure PSM (K:PySem.W.Frag) (X:Cx) (st:Stmt) (t:TSM):Prop where ps:X.K=K→PS X st (lM K X t)
structure PSsM (K:PySem.W.Frag) (X:Cx) (st:List Stmt) (t:TSM):Prop where ps:X.K=K→PSs X st (lM K X t)
section
variable {K : PySem.W.Frag} {X : Cx} {Φ0 H0 Φ H Φ1 H1 : Hp} {σ : St} {ρ ρ1 : qaE} {Rx : XD → qaE → Prop} {v : V} {sm : Sm}
theorem st0 (g:Gr Φ0 H0 Φ H) (V:EnvM K H0 Φ H σ ρ) (x:XeOk K X Φ0 H0 Rx):StM K X Φ0 H0 Φ H σ [] ρ [] Rx:=⟨g,V.len.symm,by rw [List.append_nil,List.append_nil];exact V,x⟩
theorem StM.env1 (S:StM K X Φ0 H0 Φ H σ ([]++[some v]) ρ ([]++[some sm]) Rx):EnvM K H0 Φ H (σ++[some v]) (ρ++[some sm]):=S.E
end
section
variable {K : PySem.W.Frag} {X : Cx} {st : Stmt} {rest : List Stmt} {t u : TSM} {e a : Expr} {te : TX} {pos : Pos} {tt : TXB}
def qpN:TSM:=fun De ρ=>De.nx ρ
def qqN (t u:TSM):TSM:=fun De ρ=>t { De with nx:=u De } ρ
def qqF (t u:TSM):TSM:=fun De ρ=>∃ I:qaE→Prop,t { De with nx:=I } ρ∧∀ ρ',I ρ'→u De ρ'
theorem qb2:PSsM K X [] qpN:=⟨fun _=>pss_nil.imp fun E σ H hq0=>by obtain ⟨Φ0,H0,Φ,ρ,De,g,V,t,k⟩:=hq0;exact k.nx ρ Φ H σ t g V⟩
theorem qaq (h1:PSM K X st t) (h2:PSsM K X rest u):PSsM K X (st::rest) (qqN t u):=⟨fun hK=>(qd4 (h1.ps hK) (h2.ps hK)).imp fun E σ H hq0=>by obtain ⟨Φ0,H0,Φ,ρ,De,g,V,t,k⟩:=hq0;exact
  ⟨Φ0,H0,Φ,ρ,_,g,V,t,⟨fun ρ' Φ' H' σ' t' g' V'=>⟨Φ0,H0,Φ',ρ',De,g',V',t',k⟩,k.rt,k.bk,k.ct,k.ex⟩⟩⟩
theorem qcU (h1:PSM K X st t) (h2:PSsM K X rest u):PSsM K X (st::rest) (qqF t u):=⟨fun hK=>(qd4 (h1.ps hK) (h2.ps hK)).imp fun E σ H hq0=>by obtain ⟨Φ0,H0,Φ,ρ,De,g,V,⟨I,t,c⟩,k⟩:=hq0;exact
  ⟨Φ0,H0,Φ,ρ,_,g,V,t,⟨fun ρ' Φ' H' σ' t' g' V'=>⟨Φ0,H0,Φ',ρ',De,g',V',c ρ' t',k⟩,k.rt,k.bk,k.ct,k.ex⟩⟩⟩
theorem qaN (h1:PSM K X st t):PSsM K X [st] t:=⟨fun hK=>qiT (h1.ps hK)⟩
def qoA:TSM:=fun _ _=>False
theorem qi1:PSM K X st qoA:=⟨fun _=>ps_never.imp fun E σ H hq0=>by obtain ⟨Φ0,H0,Φ,ρ,De,g,V,t,k⟩:=hq0;exact t⟩
def qqp (i:Nat) (te:TX):TSM:=fun De ρ=>te ρ (fun s ρ1=>De.nx (ρ1.set i (some s))) De.ex
theorem qj7 {i:Nat} {E:Ends} {σ:St} {H:Hp} (h:lM K X (qqp i te) E σ H):qo3 (lXm K X te) (qkp i) E σ H:=by
  obtain ⟨Φ0,H0,Φ,ρ,De,g,V,t,k⟩:=h
  exact ⟨Φ0,H0,Φ,[],ρ,[],_,De.ex,st0 g V k.ex,t,fun s ρ1 Φ1 H1 v r S1 _=>k.nx _ Φ1 H1 _ r S1.g (S1.env1.store i)⟩
theorem qaO {i:Nat} {x:Str} {pos':Pos} (hN:X.N.Nodup) (hi:X.N[i]?=some x) (hx:Loc X.env.scope x) (he:PX K X e te) (hs:swapsWith e (some (.Name x pos')) pos.line X.env=pure false:=by rfl) (hf:X.fn x=true∨X.env.scope.names.lookup x=some .local:=by first | exact .inl rfl | exact .inr rfl | assumption) :
    PSM K X (.Assign [.Name x pos'] e pos) (qqp i te):=⟨fun hK=>(qlB hN hi hx (he.pe hK) hs hf).imp fun _ _ _=>qj7⟩
def qpt (te:TX):TSM:=fun De ρ=>te ρ (fun _ ρ1=>De.nx ρ1) De.ex
theorem qe4 (he:PX K X e te) (hs:swapsWith e none pos.line X.env=pure false:=by rfl):PSM K X (.Expr e pos) (qpt te) :=
  ⟨fun hK=>(qfu (he.pe hK) hs).imp fun E σ H hq0=>by
    obtain ⟨Φ0,H0,Φ,ρ,De,g,V,t,k⟩:=hq0
    exact ⟨Φ0,H0,Φ,[],ρ,[],_,De.ex,st0 g V k.ex,t,fun s ρ1 Φ1 H1 v r S1 _=>k.nx _ Φ1 H1 σ r S1.g S1.env⟩⟩
def qqQ (te:TX):TSM:=fun De ρ=>te ρ De.rt De.ex
theorem qcS (he:PX K X e te):PSM K X (.Return (some e) pos) (qqQ te) :=
  ⟨fun hK=>(qlp (he.pe hK)).imp fun E σ H hq0=>by
    obtain ⟨Φ0,H0,Φ,ρ,De,g,V,t,k⟩:=hq0
    exact ⟨Φ0,H0,Φ,[],ρ,[],_,De.ex,st0 g V k.ex,t,fun s ρ1 Φ1 H1 v r S1 _=>k.rt s ρ1 Φ1 H1 v σ r S1.g S1.env1⟩⟩
def qoW (i:Nat):TX:=fun ρ R _=>match ρ[i]? with | some (some (.ob none o))=>R (.ob none o) (ρ.set i none) | _=>False
theorem qiP (i:Nat) {x:Str} (hN:X.N[i]?=some x:=by rfl) (hv:Vis X.env.scope x:=by first | exact Or.inl rfl | exact Or.inr (Or.inl rfl) | exact Or.inr (Or.inr rfl)) (hd:(x == ("__debug__":Str))=false:=by decide)
    (hcd:(x == ("__classdict__":Str))=false:=by decide):PX K X (.Name x pos) (qoW i):=⟨fun _=>(pv i hN hv hd hcd).imp fun σ H Q hq0=>by
  obtain ⟨Φ0,H0,Φ,τ,ρ,κ,R,Rx,S,t,k⟩:=hq0
  unfold qoW at t
  split at t
  · next o h =>
    have hi:=qai h
    have hl:=S.l
    obtain ⟨fp,E⟩:=S.env
    obtain ⟨q,e,_⟩:=E.ow i none o h
    refine ⟨_,e,k _ _ Φ H _ t ⟨S.g,by rw [List.length_set];exact hl,?_,S.x⟩ (Same.refl _)⟩
    have hk:=S.lk
    refine S.E.re (fun j=>if j=ρ.length+κ.length then i else j) (by simp only [List.length_append,List.length_set,List.length_cons,List.length_nil];omega) (fun j x hx=>?_) fun j1 j2 a a' o1 o2 h1 h2 e12=>?_
    · have hj:=qai hx
      simp only [List.length_append,List.length_set,List.length_cons,List.length_nil] at hj
      rcases Nat.lt_or_ge j ρ.length with c | c
      · rw [List.getElem?_append_left (by rw [List.length_set];exact c)] at hx
        rw [if_neg (by omega),List.getElem?_append_left c,List.getElem?_append_left (by omega),List.getElem?_append_left (by omega)]
        rcases qev hx with ⟨_,_,z⟩ | ⟨_,z⟩
        · cases z
        · exact ⟨z,rfl⟩
      · rw [List.getElem?_append_right (by rw [List.length_set];exact c),List.length_set] at hx
        rcases Nat.lt_or_ge j (ρ.length+κ.length) with c2 | c2
        · rw [List.getElem?_append_left (by omega)] at hx
          rw [if_neg (by omega)]
          constructor
          · rw [List.getElem?_append_right c]
            exact hx
          · rw [List.getElem?_append_right (by omega),List.getElem?_append_left (by omega),List.getElem?_append_right (by omega)]
        · have ej:j=ρ.length+κ.length:=by omega
          subst ej
          rw [List.getElem?_append_right (by omega),show ρ.length+κ.length - ρ.length - κ.length=0 by omega] at hx
          cases hx
          rw [if_pos rfl,List.getElem?_append_left hi,List.getElem?_append_right (by omega),List.getElem?_append_right (by omega),show ρ.length+κ.length - σ.length - τ.length=0 by omega,List.getElem?_append_left (by omega),e]
          exact ⟨h,rfl⟩
    · have no:∀ {j:Nat} {a:Option Addr} {o:Om},(ρ.set i none++(κ++[some (Sm.ob none o)]))[j]?=some (some (.ob a o))→True:=fun _=>trivial
      have ni:∀ {j:Nat} {x:Sm},(ρ.set i none++(κ++[some (Sm.ob none o)]))[j]?=some (some x)→j≠i:=fun {j x} hx ej=>by
        subst ej
        rw [List.getElem?_append_left (by rw [List.length_set];exact hi),List.getElem?_set_self hi] at hx
        cases hx
      have n1:=ni h1
      have n2:=ni h2
      have e12:(if j1=ρ.length+κ.length then i else j1)=(if j2=ρ.length+κ.length then i else j2):=e12
      split at e12 <;> split at e12 <;> omega
  · exact t.elim⟩
def mIf (c:TXB) (t u:TSM):TSM:=fun De ρ=>c ρ (fun b ρ1=>(b=true→t De ρ1)∧(b=false→u De ρ1)) De.ex
theorem qeS {c:Expr} {a b:List Stmt} (hc:PXB K X c tt) (ha:PSsM K X a t) (hb:PSsM K X b u):PSM K X (.If c a b pos) (mIf tt t u) :=
  ⟨fun hK=>(qnJ (hc.pt hK) (ha.ps hK) (hb.ps hK)).imp fun E σ H hq0=>by
    obtain ⟨Φ0,H0,Φ,ρ,De,g,V,t,k⟩:=hq0
    refine ⟨Φ0,H0,Φ,[],ρ,[],_,De.ex,st0 g V k.ex,t,fun c ρ1 Φ1 H1 r S1 _=>?_⟩
    cases c with
    | true=>refine qnk ?_;exact ⟨Φ0,H0,Φ1,ρ1,De,S1.g,S1.env,r.1 rfl,k⟩
    | false=>refine qni ?_;exact ⟨Φ0,H0,Φ1,ρ1,De,S1.g,S1.env,r.2 rfl,k⟩⟩
abbrev TGM:=D→qaE→(qaE→Prop)→Prop
abbrev qlW:=List D→qaE→(qaE→Prop)→Prop
def lGM (K:PySem.W.Frag) (g:TGM):TG:=fun v σ H Q=>∃ H0 Φ ρ d R,EnvM K H0 Φ H σ ρ∧Rp K Φ d v∧g d ρ R∧∀ ρ' σ',R ρ'→EnvM K H0 Φ H σ' ρ'→Q σ' H
def qqk (K:PySem.W.Frag) (g:qlW):TGs:=fun vs σ H Q=>∃ H0 Φ ρ ds R,EnvM K H0 Φ H σ ρ∧RpL K Φ ds vs∧g ds ρ R∧∀ ρ' σ',R ρ'→EnvM K H0 Φ H σ' ρ'→Q σ' H
structure PGM (K:PySem.W.Frag) (X:Cx) (e:Expr) (g:TGM):Prop where pg:X.K=K→PG X e (lGM K g)
structure PGMs (K:PySem.W.Frag) (X:Cx) (es:List Expr) (g:qlW):Prop where pg:X.K=K→PGs X es (qqk K g)
end
section
variable {K : PySem.W.Frag} {X : Cx} {e : Expr} {es : List Expr} {pos : Pos} {g : TGM} {gs : qlW}
def qq9 (i:Nat):TGM:=fun d ρ R=>R (ρ.set i (some (.v d)))
theorem qbv {i:Nat} {x:Str} (hN:X.N.Nodup) (hi:X.N[i]?=some x) (hx:Loc X.env.scope x) (hf:X.fn x=true∨X.env.scope.names.lookup x=some .local:=by first | exact .inl rfl | exact .inr rfl | assumption):PGM K X (.Name x pos) (qq9 i) :=
  ⟨fun _=>(qjC hN hi hx hf).imp fun v σ H Q hq0=>by obtain ⟨H0,Φ,ρ,d,R,E,r,g,k⟩:=hq0;exact k _ _ g ((E.snocV r).store i)⟩
def qp2:qlW:=fun ds ρ R=>match ds with | []=>R ρ | _=>False
def qop (t:TGM) (u:qlW):qlW:=fun ds ρ R=>match ds with | d::r=>t d ρ fun ρ'=>u r ρ' R | []=>False
theorem qjv:PGMs K X [] qp2:=⟨fun _=>pgs_nil.imp fun v σ H Q hq0=>by
  obtain ⟨H0,Φ,ρ,ds,R,E,r,g,k⟩:=hq0
  cases ds with
  | nil=>exact ⟨List.length_eq_zero_iff.mp r.1,k _ _ g E⟩
  | cons=>exact g.elim⟩
theorem qc6 (h1:PGM K X e g) (h2:PGMs K X es gs) (hs:(assignEach (e::es) X.env).map (·.2)=assign e X.env::(assignEach es X.env).map (·.2):=by rfl):PGMs K X (e::es) (qop g gs) :=
  ⟨fun hK=>(qhI (h1.pg hK) (h2.pg hK) hs).imp fun vs σ H Q hq0=>by
    obtain ⟨H0,Φ,ρ,ds,R,E,r,g,k⟩:=hq0
    cases ds with
    | nil=>exact g.elim
    | cons d ds =>
      cases vs with
      | nil=>exact absurd r.1 (by simp)
      | cons v vs =>
        refine ⟨v,vs,rfl,H0,Φ,ρ,d,_,E,r.2 0 v d rfl rfl,g,fun ρ' σ' g' E'=>⟨H0,Φ,ρ',ds,R,E',⟨by have:=r.1;simpa using this,fun i u f hu hf=>r.2 (i+1) u f hu hf⟩,g',k⟩⟩⟩
def qqA (n:Nat) (t:qlW):TGM:=fun d ρ R=>match d with | .tup ds=>ds.length=n∧t ds ρ R | .lst ds=>ds.length=n∧t ds ρ R | _=>False
def gTL (K:PySem.W.Frag) (n:Nat) (t:TGs):TG:=fun v σ H Q=>qpX K n t v σ H Q∨qpe K n t v σ H Q
theorem qpd {k n:Nat} {t:TGs} (hK:X.K=K) (hc:X.calm=true) (h:PGs X es t) (hn:(assignEach es X.env).length=n) (hst:(assignEach es X.env).findIdx? (·.1)=none):PG X (.Tuple es k pos) (gTL K n t):=fun pins s σ H v u Q I r hw=>by
  rcases hw with hw | hw
  · exact qhu hK hc h hn hst pins s σ H v u Q I r hw
  · exact qh2 hK hc h hn hst pins s σ H v u Q I r hw
theorem qmK {k n:Nat} (hc:X.calm=true) (h:PGMs K X es gs) (hn:(assignEach es X.env).length=n:=by rfl) (hst:(assignEach es X.env).findIdx? (·.1)=none:=by rfl):PGM K X (.Tuple es k pos) (qqA n gs) :=
  ⟨fun hK=>(qpd hK hc (h.pg hK) hn hst:PG X (.Tuple es k pos) (gTL K n (qqk K gs))).imp fun v σ H Q hq0=>by
    obtain ⟨H0,Φ,ρ,d,R,E,r,g,k⟩:=hq0
    cases d with
    | tup ds=>cases r with | tup h1 h2 h3=>exact .inl ⟨_,_,rfl,.of (E.fz _ _ h1),by rw [h2];exact g.1,H0,Φ,ρ,ds,R,E,⟨h2,h3⟩,g.2,k⟩
    | lst ds=>cases r with | lst h1 h2 h3=>exact .inr ⟨_,_,rfl,.of (E.fz _ _ h1),by rw [h2];exact g.1,H0,Φ,ρ,ds,R,E,⟨h2,h3⟩,g.2,k⟩
    | _=>exact g.elim⟩
end
section
variable {K : PySem.W.Frag} {X : Cx} {st : Stmt} {rest : List Stmt} {t u : TSM} {e a : Expr} {te : TX} {pos : Pos} {tt : TXB}
def qqW (te:TX) (g:TGM):TSM:=fun De ρ=>te ρ (xV fun d ρ1=>g d ρ1 De.nx) De.ex
theorem qp5 {tg:Expr} {gd:TGM} (he:PX K X e te) (hg:PGM K X tg gd) (hs:swapsWithSole [tg] e pos.line X.env=pure false:=by rfl) (hw:swappedStores [tg] e X.env=pure none:=by rfl)
    (h1:(assignEach [tg] X.env).map (·.2)=[assign tg X.env]:=by rfl):PSM K X (.Assign [tg] e pos) (qqW te gd) :=
  ⟨fun hK=>(qjU (he.pe hK) (hg.pg hK) hs hw h1).imp fun E σ H hq0=>by
    obtain ⟨Φ0,H0,Φ,ρ,De,g,V,t,k⟩:=hq0
    refine ⟨Φ0,H0,Φ,[],ρ,[],_,De.ex,st0 g V k.ex,t,fun s ρ1 Φ1 H1 v r S1 _=>?_⟩
    obtain ⟨d,rfl,r⟩:=r.get
    exact ⟨H0,Φ1,ρ1,d,_,S1.env,S1.last,r,fun ρ' σ' r' V'=>k.nx ρ' Φ1 H1 σ' r' S1.g V'⟩⟩
def qot (c:TXB) (tb:TSM):TSM:=fun De ρ=>∃ I:Nat→qaE→Prop,(∃ m,I m ρ)∧∀ m ρ',I m ρ'→c ρ' (fun b ρ1=>(b=true→tb { De with nx:=fun ρ2=>∃ m',m'<m∧I m' ρ2,ct:=fun ρ2=>∃ m',m'<m∧I m' ρ2,bk:=De.nx } ρ1)∧(b=false→De.nx ρ1)) De.ex
theorem qlC {c:Expr} {body:List Stmt} {tb:TSM} (hp:PassesOwn (model X.prog X.w) X.A X.env X.xe) (hc:PXB K X c tt) (hb:PSsM K X body tb):PSM K X (.While c body [] pos) (qot tt tb) :=
  ⟨fun hK=>(qkU hp (hc.pt hK) (hb.ps hK)).imp fun E σ H hq0=>by
    obtain ⟨Φ0,H0,Φ,ρ,De,g,V,⟨I,⟨m,h0⟩,hw⟩,k⟩:=hq0
    refine ⟨fun m σ H=>∃ Φ' ρ',Gr Φ0 H0 Φ' H∧EnvM K H0 Φ' H σ ρ'∧I m ρ',⟨m,Φ,ρ,g,V,h0⟩,?_⟩
    rintro m σ' H' ⟨Φ',ρ',g',V',hi⟩
    refine ⟨Φ0,H0,Φ',[],ρ',[],_,De.ex,st0 g' V' k.ex,hw m ρ' hi,fun b ρ1 Φ1 H1 r S1 _=>?_⟩
    cases b with
    | false=>refine qni ?_;exact k.nx ρ1 Φ1 H1 σ' (r.2 rfl) S1.g S1.env
    | true =>
      refine qnk ?_
      refine ⟨fun σ2 H2=>∃ m',m'<m∧∃ Φ' ρ',Gr Φ0 H0 Φ' H2∧EnvM K H0 Φ' H2 σ2 ρ'∧I m' ρ',fun σ2 H2 h=>h,Φ0,H0,Φ1,ρ1,_,S1.g,S1.env,r.1 rfl,⟨?_,k.rt,k.nx,?_,k.ex⟩⟩
      · rintro ρ2 Φ2 H2 σ2 ⟨m',hm,hi'⟩ g2 V2
        exact ⟨m',hm,Φ2,ρ2,g2,V2,hi'⟩
      · rintro ρ2 Φ2 H2 σ2 ⟨m',hm,hi'⟩ g2 V2
        exact ⟨m',hm,Φ2,ρ2,g2,V2,hi'⟩⟩
abbrev TIM:=qaE→(List D→qaE→Prop)→(XD→qaE→Prop)→Prop
def lIM (K:PySem.W.Frag) (X:Cx) (t:TIM):TI:=fun σ H R'=>∃ Φ0 H0 Φ τ ρ κ R Rx,StM K X Φ0 H0 Φ H σ τ ρ κ Rx∧t ρ R Rx∧∀ ds ρ' Φ' H' J,R ds ρ'→StM K X Φ0 H0 Φ' H' σ τ ρ' κ Rx→Same Φ Φ'→SteadyD K J Φ' ds→R' J H'
structure PIM (K:PySem.W.Frag) (X:Cx) (tg e:Expr) (t:TIM):Prop where pi:X.K=K→PI X tg e (lIM K X t)
def iD (t:TDL):TIM:=fun ρ R _=>t (prR ρ) fun ds=>R ds ρ
theorem qeQ {tg:Expr} {t:TDL} (h:PID K X tg e t):PIM K X tg e (iD t):=⟨fun hK=>(h.pi hK).imp fun σ H R' hq0=>by
  obtain ⟨Φ0,H0,Φ,τ,ρ,κ,R,Rx,S,t,k⟩:=hq0
  exact ⟨H0,Φ,prR ρ,_,S.env.toD,t,fun ds Φ' H' J r g Sd=>k ds ρ Φ' H' J r (S.gr g) g.f Sd⟩⟩
def ql9 (t:TXA):TIM:=fun ρ R Rx=>t ρ (xaD fun ds ρ1=>match ds with | [.int j]=>(-(2 ^ 62)≤j∧j<2 ^ 62)∧R (qed 0 j.toNat) ρ1 | _=>False) Rx
theorem qf0 {tg:Expr} {tA:TXA} {p:Pos} (hg:Gl X "range") (hm:X.mg "range"=none) (ha:PXA K X [a] tA) (hs:starEach [a] X.env=[(false,eval a X.env)]:=by rfl):PIM K X tg (.Call (.Name "range" p) [a] [] pos) (ql9 tA) :=
  ⟨fun hK=>(qgy hg hm (ha.pa hK) hs).imp fun σ H R' hq0=>by
    obtain ⟨Φ0,H0,Φ,τ,ρ,κ,R,Rx,S,t,k⟩:=hq0
    refine ⟨Φ0,H0,Φ,τ,ρ,κ,_,Rx,S,t,fun as ρ1 Φ1 H1 vs ts r1 hl hv S1 f1=>?_⟩
    obtain ⟨ds,hd,r1⟩:=r1.get
    have rl:=S1.vals S.lk hd hv
    match ds,r1,rl with
    | [.int j],r,rl =>
      obtain ⟨v,rfl,r1⟩:=rl.one_inv
      cases r1
      exact ⟨j,rfl,r.1.1,r.1.2,k _ ρ1 Φ1 H1 _ r.2 (S1.pop S.lk) f1 qdl⟩⟩
theorem XeOk.join {Φ0 H0 H Φ3:Hp} {Rx:XD→qaE→Prop} (x:XeOk K X Φ0 H0 Rx) (g:Gr Φ0 H0 Φ3 H):XeOk K X Φ3 H0 Rx:=fun xd ρ' Φ' H' σ' e s' pins r g' V h=>x xd ρ' Φ' H' σ' e s' pins r (g.join g') V h
def qrt (ti:TIM) (gd:TGM) (tb:TSM):TSM:=fun De ρ=>ti ρ (fun ds ρ0=>∃ I:Nat→qaE→Prop,I 0 ρ0∧(∀ i d ρ',ds[i]?=some d→I i ρ'→gd d ρ' fun ρ2=>tb { De with nx:=I (i+1),ct:=I (i+1),bk:=De.nx } ρ2)∧∀ ρ',I ds.length ρ'→De.nx ρ') De.ex
theorem qeo {tg iter:Expr} {body:List Stmt} {ti:TIM} {gd:TGM} {tb:TSM} (hp:PassesOwn (model X.prog X.w) X.A X.env X.xe) (hc:X.calm=true) (hi:PIM K X tg iter ti) (hg:PGM K X tg gd) (hb:PSsM K X body tb)
    (hs:∀ x,foldedSetIterable iter X.env x=pure x:=by intro _;rfl):PSM K X (.For tg iter body [] pos) (qrt ti gd tb) :=
  ⟨fun hK=>(qlz hp hc (hi.pi hK) (hg.pg hK) (hb.ps hK) hs).imp fun E σ H hq0=>by
    obtain ⟨Φ0,H0,Φ,ρ,De,g,V,t,k⟩:=hq0
    refine ⟨Φ0,H0,Φ,[],ρ,[],_,De.ex,st0 g V k.ex,t,fun ds ρ0 Φ1 H1 J hq1 S1 _ Sd=>?_⟩
    obtain ⟨I,h0,hst,hend⟩:=hq1
    refine ⟨fun i m σ H'=>m=ds.length - i∧i≤ds.length∧∃ Φ' ρ',Gr Φ0 H0 Φ' H'∧Same Φ1 Φ'∧EnvM K H0 Φ' H' σ ρ'∧I i ρ',⟨ds.length,by simp,Nat.zero_le _,Φ1,ρ0,S1.g,Same.refl _,S1.env,h0⟩,?_⟩
    rintro i m σ' H' ⟨rfl,hi,Φ',ρ',g',s',V',hI⟩
    by_cases hlt:i<ds.length
    · refine .inr ⟨Sd.go i H' (s'.trans V'.fz) hlt,fun σ2 H2=>∃ Φ' ρ',Gr Φ0 H0 Φ' H2∧Same Φ1 Φ'∧EnvM K H0 Φ' H2 σ2 ρ'∧I (i+1) ρ',fun σ2 H2 h2=>⟨ds.length - (i+1),by omega,rfl,hlt,h2⟩,fun x H2 y=>?_⟩
      obtain ⟨Φ3,g3,rx⟩:=Sd.yl i Φ' H' x H2 _ s' V'.fz (qao hlt) y
      refine ⟨H0,Φ3,ρ',_,_,V'.gr g3,rx,hst i _ ρ' (qao hlt) hI,fun ρ2 σ3 t2 V3=>?_⟩
      refine ⟨Φ3,H0,Φ3,ρ2,_,?_,V3,t2,⟨?_,?_,?_,?_,k.ex.join (g'.trans g3)⟩⟩
      · exact ⟨Same.refl _,(g'.trans g3).h,g3.s,fun p u hp hn _=>hn⟩
      · intro ρ4 Φ4 H4 σ4 t4 g4 V4
        exact ⟨Φ4,ρ4,(g'.trans g3).join g4,(s'.trans g3.f).trans g4.f,V4,t4⟩
      · intro sm ρ4 Φ4 H4 v σ4 r g4 V4
        exact k.rt sm ρ4 Φ4 H4 v σ4 r ((g'.trans g3).join g4) V4
      · intro ρ4 Φ4 H4 σ4 t4 g4 V4
        exact k.nx ρ4 Φ4 H4 σ4 t4 ((g'.trans g3).join g4) V4
      · intro ρ4 Φ4 H4 σ4 t4 g4 V4
        exact ⟨Φ4,ρ4,(g'.trans g3).join g4,(s'.trans g3.f).trans g4.f,V4,t4⟩
    · have e:i=ds.length:=by omega
      subst e
      exact .inl ⟨Sd.stop H' (s'.trans V'.fz),k.nx ρ' Φ' H' σ' (hend ρ' hI) g' V'⟩⟩
end
def qaC:List Sm→List Addr→qaE
  | [],_=>[]
  | .v d::as,ps=>some (.v d)::qaC as ps
  | .ob _ o::as,p::ps=>some (.ob (some p) o)::qaC as ps
  | .ob _ _::as,[]=>none::qaC as []
def qcW (N:List Str) (as:List Sm) (ps:List Addr):qaE:=qaC as ps++List.replicate (N.length - as.length) none
def qaJ:List Str→List Sm→List Addr→qaE
  | [],as,ps=>qaC as ps
  | _::N,[],ps=>none::qaJ N [] ps
  | _::N,.v d::as,ps=>some (.v d)::qaJ N as ps
  | _::N,.ob _ o::as,p::ps=>some (.ob (some p) o)::qaJ N as ps
  | _::N,.ob _ _::as,[]=>none::qaJ N as []
theorem qcH:∀ (N:List Str) (as:List Sm) (ps:List Addr),qcW N as ps=qaJ N as ps
  | [],as,ps=>by unfold qcW;rw [List.length_nil,Nat.zero_sub,List.replicate_zero,List.append_nil];rfl
  | n::N,[],ps=>by
    have:=qcH N [] ps
    unfold qcW at this ⊢
    show List.replicate (N.length+1 - 0) none=none::qaJ N [] ps
    rw [← this]
    rfl
  | n::N,.v d::as,ps=>by
    have:=qcH N as ps
    unfold qcW at this ⊢
    rw [List.length_cons,List.length_cons,Nat.add_sub_add_right]
    exact congrArg (some (Sm.v d)::·) this
  | n::N,.ob a o::as,p::ps=>by
    have:=qcH N as ps
    unfold qcW at this ⊢
    rw [List.length_cons,List.length_cons,Nat.add_sub_add_right]
    exact congrArg (some (Sm.ob (some p) o)::·) this
  | n::N,.ob _ _::as,[]=>by
    have:=qcH N as []
    unfold qcW at this ⊢
    rw [List.length_cons,List.length_cons,Nat.add_sub_add_right]
    exact congrArg (none::·) this
def ql7 (k:List Om→Prop):List Sm→List Addr→Nat→qaE→Prop
  | [],_,_,_=>k []
  | .v _::as,ps,i,ρ=>ql7 k as ps (i+1) ρ
  | .ob _ _::as,p::ps,i,ρ=>∃ o,ρ[i]?=some (some (.ob (some p) o))∧ql7 (fun os=>k (o::os)) as ps (i+1) ρ
  | .ob _ _::_,[],_,_=>False
def qm1:List Sm→Nat
  | []=>0
  | .v _::as=>qm1 as
  | .ob _ _::as=>qm1 as+1
def qdh:List Sm→List V→List Addr
  | .v _::as,_::vs=>qdh as vs
  | .ob _ _::as,.ref p::vs=>p::qdh as vs
  | _,_=>[]
section
variable {K : PySem.W.Frag} {Φ H Φ' H' H0 : Hp}
theorem qd9:∀ {as:List Sm} {vs:List V} {Fs:List (List Addr)},ArgM K Φ H as vs Fs→(qdh as vs).length=qm1 as
  | [],_,_,.nil=>rfl
  | _,_,_,.v (as:=as) (vs:=vs) _ t=>show (qdh as vs).length=qm1 as from qd9 t
  | _,_,_,.o _ t=>by show (_::qdh _ _).length=qm1 _+1;rw [List.length_cons,qd9 t]
theorem qcQ:∀ {as:List Sm} {ps:List Addr},(qaC as ps).length=as.length
  | [],_=>rfl
  | .v d::as,ps=>by show (qaC as ps).length+1=_;rw [qcQ];rfl
  | .ob _ o::as,p::ps=>by show (qaC as ps).length+1=_;rw [qcQ];rfl
  | .ob _ _::as,[]=>by show (qaC as []).length+1=_;rw [qcQ];rfl
theorem qb8:∀ {as:List Sm} {vs:List V} {Fs:List (List Addr)},ArgM K Φ H as vs Fs→∀ {i:Nat} {x:Sm},(qaC as (qdh as vs))[i]?=some (some x) →
    (∃ d v,x=.v d∧vs[i]?=some v∧Rp K Φ d v)∨∃ o p F,x=.ob (some p) o∧vs[i]?=some (.ref p)∧Fs[i]?=some F∧OmS K Φ H o p F
  | [],_,_,.nil,i,x,h=>by simp [qaC] at h
  | _,_,_,.v (d:=d) r t,0,x,h=>by cases h;exact .inl ⟨d,_,rfl,rfl,r⟩
  | _,_,_,.v r t,i+1,x,h=>qb8 t (i:=i) h
  | _,_,_,.o (o:=o) (p:=p) (F:=F) r t,0,x,h=>by cases h;exact .inr ⟨o,p,F,rfl,rfl,rfl,r⟩
  | _,_,_,.o r t,i+1,x,h=>qb8 t (i:=i) h
theorem qjt:∀ {Fs:List (List Addr)},Fs.flatten.Nodup→∀ {i j:Nat} {F G:List Addr},Fs[i]?=some F→Fs[j]?=some G→i≠j→∀ b∈F,b∉G
  | [],_,i,j,F,G,h,_,_,_,_=>by simp at h
  | L::Fs,nd,i,j,F,G,hi,hj,c,b,hb=>by
    obtain ⟨n1,n2,n3⟩:=List.nodup_append.mp (show (L++Fs.flatten).Nodup from nd)
    intro hb2
    cases i with
    | zero =>
      cases hi
      cases j with
      | zero=>exact c rfl
      | succ j=>exact n3 b hb b (List.mem_flatten.mpr ⟨G,List.mem_of_getElem? (i:=j) (by simpa using hj),hb2⟩) rfl
    | succ i =>
      cases j with
      | zero =>
        cases hj
        exact n3 b hb2 b (List.mem_flatten.mpr ⟨F,List.mem_of_getElem? (i:=i) (by simpa using hi),hb⟩) rfl
      | succ j=>exact qjt n2 (by simpa using hi) (by simpa using hj) (fun e=>c (by rw [e])) b hb hb2
theorem qin {N:List Str} {as:List Sm} {vs:List V} {Fs:List (List Addr)} (sm:Same Φ H) (tb:TabF K Φ) (ha:ArgM K Φ H as vs Fs) (nd:Fs.flatten.Nodup) (hn:∀ b∈Fs.flatten,Φ b=none):EnvM K (qbg H Fs.flatten) Φ H (start N vs) (qcW N as (qdh as vs)):=by
  have cs:∀ {i:Nat} {x:Sm},(qcW N as (qdh as vs))[i]?=some (some x)→(qaC as (qdh as vs))[i]?=some (some x):=fun {i x} h=>by
    unfold qcW at h
    rcases Nat.lt_or_ge i (qaC as (qdh as vs)).length with c | c
    · rwa [List.getElem?_append_left c] at h
    · rw [List.getElem?_append_right c,List.getElem?_replicate] at h
      split at h <;> cases h
  have sv:∀ {i:Nat} {v:V},vs[i]?=some v→(start N vs)[i]?=some (some v):=fun {i v} h=>by
    unfold start
    rw [List.getElem?_append_left (by rw [List.length_map];exact qai h),List.getElem?_map,h]
    rfl
  obtain ⟨l1,l2⟩:=ha.len
  refine ⟨fun i=>Fs.getD i [],sm,by unfold start qcW;rw [List.length_append,List.length_append,List.length_map,List.length_replicate,List.length_replicate,qcQ,l1],fun i d h=>?_,fun i a o h=>?_,fun i a o h b hb=>?_,fun i j a a' o o' hi hj c b hb=>?_,tb⟩
  · rcases qb8 ha (cs h) with ⟨d',v,e,hv,r⟩ | ⟨o,p,F,e,_⟩
    · cases e;exact ⟨v,sv hv,r⟩
    · cases e
  · rcases qb8 ha (cs h) with ⟨d',v,e,hv,r⟩ | ⟨o',p,F,e,hv,hF,r⟩
    · cases e
    · cases e
      refine ⟨p,sv hv,(fun q e=>by cases e;rfl),?_⟩
      rw [List.getD_eq_getElem?_getD,hF]
      exact r
  · rcases qb8 ha (cs h) with ⟨d',v,e,_⟩ | ⟨o',p,F,e,hv,hF,r⟩
    · cases e
    · rw [List.getD_eq_getElem?_getD,hF] at hb
      have hm:b∈Fs.flatten:=List.mem_flatten.mpr ⟨F,List.mem_of_getElem? hF,hb⟩
      exact ⟨qhE hm,hn b hm⟩
  · rcases qb8 ha (cs hi) with ⟨d',v,e,_⟩ | ⟨o1,p1,F1,e,_,hF1,_⟩
    · cases e
    · rcases qb8 ha (cs hj) with ⟨d',v,e,_⟩ | ⟨o2,p2,F2,e,_,hF2,_⟩
      · cases e
      · rw [List.getD_eq_getElem?_getD,hF1] at hb
        rw [List.getD_eq_getElem?_getD,hF2]
        exact qjt nd hF1 hF2 c b hb
theorem qhi {fp:Nat→List Addr} {σ:St} {ρ:qaE} {k:List Om→Prop} (E:EnvM' K H0 Φ' H' σ ρ fp):∀ {as:List Sm} {vs:List V} {Fs:List (List Addr)} {i:Nat} {k:List Om→Prop},ArgM K Φ H as vs Fs→ql7 k as (qdh as vs) i ρ →
    ∃ os Fs',OutM K Φ' H' as vs os Fs'∧k os∧Fs'.flatten.Nodup∧(∀ b∈Fs'.flatten,H0 b=none∧Φ' b=none)∧∀ b∈Fs'.flatten,∃ j a o,i≤j∧j<i+as.length∧ρ[j]?=some (some (.ob a o))∧b∈fp j
  | [],_,_,i,k,.nil,h=>⟨[],[],.nil,h,by simp,fun b hb=>(by cases hb),fun b hb=>(by cases hb)⟩
  | _,_,_,i,k,.v (as:=as) r t,h=>by
    obtain ⟨os,Fs',h1,h2,h3,h4,h5⟩:=qhi (k:=k) E (i:=i+1) t h
    refine ⟨os,[]::Fs',.v h1,h2,by simpa using h3,fun b hb=>h4 b (by simpa using hb),fun b hb=>?_⟩
    obtain ⟨j,a,o,j1,j2,j3⟩:=h5 b (by simpa using hb)
    exact ⟨j,a,o,by omega,by rw [List.length_cons];omega,j3⟩
  | _,_,_,i,k,.o (p:=p) (as:=as) (vs:=vs) r t,h=>by
    obtain ⟨o',ho,h⟩:=(show ∃ o,ρ[i]?=some (some (.ob (some p) o))∧ql7 (fun os=>k (o::os)) as (qdh as vs) (i+1) ρ from h)
    obtain ⟨os,Fs',h1,h2,h3,h4,h5⟩:=qhi (k:=fun os=>k (o'::os)) E (i:=i+1) t h
    obtain ⟨q,e,ha,rr⟩:=E.ow i _ o' ho
    cases ha p rfl
    refine ⟨o'::os,fp i::Fs',.o rr h1,h2,?_,fun b hb=>?_,fun b hb=>?_⟩
    · refine List.nodup_append.mpr ⟨rr.nodup,h3,fun b hb c hc e=>?_⟩
      subst e
      obtain ⟨j,a,o,j1,j2,j3,j4⟩:=h5 b hc
      exact E.dj i j _ a o' o ho j3 (by omega) b hb j4
    · rcases List.mem_append.mp (show b∈fp i++Fs'.flatten from hb) with z | z
      · exact E.no i _ o' ho b z
      · exact h4 b z
    · rcases List.mem_append.mp (show b∈fp i++Fs'.flatten from hb) with z | z
      · exact ⟨i,_,o',Nat.le_refl _,by rw [List.length_cons];omega,ho,z⟩
      · obtain ⟨j,a,o,j1,j2,j3⟩:=h5 b z
        exact ⟨j,a,o,by omega,by rw [List.length_cons];omega,j3⟩
end
section
variable {P : Program} {w : World} {K : PySem.W.Frag} {mg : Str → Option Value} {base : Heap}
theorem Fun.okM {x qual:Str} {st:Stmt} {f:Addr} {fd:FuncData} {N ps:List Str} {k:Nat} {sp:SpM} (F:Fun K x qual st f fd) (S:FnScope N ps (qah st)) (len:∀ as R Rx,sp as R Rx→as.length=ps.length)
    (hbody:∀ (cdv:Value) (A:Around) (outer:List Env) (s:Shared) (H:Hp) (E:XK) (as:List Sm) (R:Sm→List Om→Prop) (Rx:XD→List Om→Prop) (qs:List Addr),fd.code=cdv→Room k (A.deeper (envOfC qual (qah st) s.heap.objs.size f cdv))→sp as R Rx→qs.length=qm1 as →
      ∃ t,PSsM K (qk9 CX0 P w K mg base N qual (qah st) f cdv A outer s H E).nox (qby st) t∧t { nx:=fun ρ=>ql7 (R (.v .non)) as qs 0 ρ,rt:=fun sm ρ=>ql7 (R sm) as qs 0 ρ } (qaJ N as qs)):FnOk P w K mg base CX0 (k+1) f fd ps (qfA K sp):=by
  refine F.okL S (fun vs H Q E ⟨Φ,as,Fs,R,Rx,sm,tb,ha,nd,hn,h,_⟩=>by rw [ha.len.1];exact len as R Rx h) (fun cdv A outer s H vs Q E hcd hr ⟨Φ,as,Fs,R,Rx,sm,tb,ha,nd,hn,h,kk⟩=>?_)
  obtain ⟨t,ht,hq⟩:=hbody cdv A outer s H E as R Rx (qdh as vs) hcd hr h (qd9 ha)
  rw [← qcH] at hq
  have al:=len as R Rx h
  have nl:ps.length≤N.length:=by have:=congrArg List.length S.pre;rw [List.length_take] at this;omega
  have fin:∀ sm ρ' Φ' H' v σ',ql7 (R sm) as (qdh as vs) 0 ρ'→Gr Φ (qbg H Fs.flatten) Φ' H'→EnvM K (qbg H Fs.flatten) Φ' H' (σ'++[some v]) (ρ'++[some sm])→Q v H':=fun smr ρ' Φ' H' v σ' hk g V=>by
    obtain ⟨fp,E'⟩:=V
    have hl:σ'.length=ρ'.length:=by have:=E'.len;simpa using this
    obtain ⟨os,Fs',h1,h2,h3,h4,h5⟩:=qhi (k:=R smr) (E'.take hl.symm) ha hk
    have hat:(ρ'++[some smr])[ρ'.length]?=some (some smr):=by rw [List.getElem?_append_right (Nat.le_refl _),Nat.sub_self];rfl
    cases smr with
    | v d =>
      obtain ⟨u,hu,r⟩:=E'.sl _ d hat
      rw [← hl,List.getElem?_append_right (Nat.le_refl _),Nat.sub_self] at hu
      cases hu
      exact kk (.v d) os Φ' H' v [] Fs' h2 g (.v r) h1 (by simpa using h3) (fun b hb=>h4 b (by simpa using hb))
    | ob a o =>
      obtain ⟨u,hu,hau,r⟩:=E'.ow _ a o hat
      rw [← hl,List.getElem?_append_right (Nat.le_refl _),Nat.sub_self] at hu
      cases hu
      refine kk (.ob a o) os Φ' H' _ (fp ρ'.length) Fs' h2 g (.o hau r) h1 ?_ fun b hb=>?_
      · refine List.nodup_append.mpr ⟨r.nodup,h3,fun b hb c hc e=>?_⟩
        subst e
        obtain ⟨j,a2,o2,_,_,j3,j4⟩:=h5 b hc
        have hj:=qai j3
        exact E'.dj _ j a a2 o o2 hat (by rw [List.getElem?_append_left hj];exact j3) (by omega) b hb j4
      · rcases List.mem_append.mp hb with z | z
        · exact E'.no _ a o hat b z
        · exact h4 b z
  have g0:Gr Φ (qbg H Fs.flatten) Φ H:=⟨Same.refl _,qiz,sm,fun _ _ _ h _=>h⟩
  refine ⟨lM K _ t,ht.ps rfl,Φ,qbg H Fs.flatten,Φ,_,_,g0,qin sm tb ha nd hn,hq,⟨fun ρ' Φ' H' σ' r g V=>?_,fun smr ρ' Φ' H' v σ' r g V=>fin smr ρ' Φ' H' v σ' r g V,fun _ _ _ _ h=>h.elim,fun _ _ _ _ h=>h.elim,fun _ _ _ _ _ _ _ _ h=>h.elim⟩⟩
  exact fin (.v .non) ρ' Φ' H' .non σ' r g (V.snocV .non)
theorem Fun.clM {x:Str} {st:Stmt} {f:Addr} {fd:FuncData} {ps:List Str} {n:Nat} {z:SpM} (F:Fun K x x st f fd) (m:mg x=some (.ref f)) (H:FnOk P w K mg base CX0 n f fd ps (qfA K z))
    (b:∀ (kV doc pm:Value) (an:Option Addr) (cdv ct:Value) (us:List Value),us.length=ps.length→bindArgs (PySem.W.fnOf x x (qcB st) (qby st) (qah st) .none kV doc pm an cdv ct) ⟨us,[]⟩=pure (ps.zip us)):ClM P w K mg base n x ps z:=⟨f,fd,H,F.binds b,F.kp,m⟩
theorem ClM.mono {n m:Nat} {x:Str} {ps:List Str} {z:SpM} (C:ClM P w K mg base n x ps z) (k:n≤m):ClM P w K mg base m x ps z:=by
  obtain ⟨f,fd,F,r⟩:=C.ex
  exact ⟨f,fd,F.mono k,r⟩
end
section
variable {K : PySem.W.Frag} {X : Cx} {e a b : Expr} {te ta tk : TX} {pos apos cpos npos spos : Pos} {x : Str} {i : Nat}
def ownL (ρ:qaE) (i:Nat) (k:Option Addr→List D→Prop):Prop:=match ρ[i]? with | some (some (.ob a (.lst ds)))=>k a ds | _=>False
theorem ownL.get {ρ:qaE} {i:Nat} {k:Option Addr→List D→Prop} (h:ownL ρ i k):∃ a ds,ρ[i]?=some (some (.ob a (.lst ds)))∧k a ds:=by
  unfold ownL at h
  split at h
  · next a ds e=>exact ⟨a,ds,e,h⟩
  · exact h.elim
theorem StM.list {Φ0 H0 Φ H:Hp} {σ τ:St} {ρ κ:qaE} {Rx:XD→qaE→Prop} {a:Option Addr} {ds:List D} (S:StM K X Φ0 H0 Φ H σ τ ρ κ Rx) (hi:ρ[i]?=some (some (.ob a (.lst ds)))):∃ q vs,σ[i]?=some (some (.ref q))∧H q=some (.lst vs)∧RpL K Φ ds vs ∧
    ∀ (es:List D) (ws:List V),RpL K Φ es ws→StM K X Φ0 H0 Φ (upd H q (.lst ws)) σ τ (ρ.set i (some (.ob a (.lst es)))) κ Rx:=by
  have hlt:=qai hi
  obtain ⟨q,vs,e,h1,h2,h3,h4,h5⟩:=S.E.list (i:=i) (a:=a) (ds:=ds) S.g (by rw [List.getElem?_append_left hlt];exact hi)
  rw [List.getElem?_append_left (by rw [← S.l];exact hlt)] at e
  refine ⟨q,vs,e,h1,h4,fun es ws r=>?_⟩
  obtain ⟨z1,z2⟩:=h5 es ws r
  refine ⟨z2,by rw [List.length_set];exact S.l,?_,S.x⟩
  rw [List.set_append_left _ _ hlt] at z1
  exact z1
def qmm (i:Nat) (te:TX):TSM:=fun De ρ=>ownL ρ i fun _ _=>te ρ (xV fun d ρ1=>ownL ρ1 i fun a ds=>ds.length<sizeLine∧NF (ds++[d]) fun es=>De.nx (ρ1.set i (some (.ob a (.lst es))))) De.ex
theorem qcc (i:Nat) (he:PX K X e te) (hfew:((backTo cpos (starEach [e] X.env)).all (fun x=>!x.1) && (backToKw cpos (keywordEach [] X.env)).all (fun x=>x.1.isSome) && decide (([e]:List Expr).length+([]:List Keyword).length+(if ([]:List Keyword).isEmpty then 0 else 1)<30))=true)
    (hse:starEach [e] X.env=(false,eval e X.env)::starEach [] X.env) (hN:X.N[i]?=some x:=by rfl) (hv:Vis X.env.scope x:=by first | exact Or.inl rfl | exact Or.inr (Or.inl rfl) | exact Or.inr (Or.inr rfl)) (hd:(x == ("__debug__":Str))=false:=by decide) (hcd:(x == ("__classdict__":Str))=false:=by decide)
    (hbase:attributeBase (.Name x npos) "append" X.env (eval (.Name x npos) X.env)=eval (.Name x npos) X.env:=by rfl) (hline:(apos.endLine == cpos.line)=true:=by rfl) (hs:swapsWith (.Call (.Attribute (.Name x npos) "append" apos) [e] [] cpos) none pos.line X.env=pure false:=by rfl) :
    PSM K X (.Expr (.Call (.Attribute (.Name x npos) "append" apos) [e] [] cpos) pos) (qmm i te) :=
  ⟨fun hK=>(qfu (qmj PySem.F.plainAttrs_list PySem.F.slot_list_append PySem.F.type_list_append qgD (pv i hN hv hd hcd) (qbM (he.pe hK) pa_nil hse) hbase hfew hline hse qag) hs).imp fun E σ H hq0=>by
    obtain ⟨Φ0,H0,Φ,ρ,De,g,V,t,k⟩:=hq0
    obtain ⟨a,ds,ho,t⟩:=ownL.get t
    have S:=st0 g V k.ex
    obtain ⟨q,vs,e1,hp,rl,_⟩:=S.list ho
    refine ⟨_,e1,.inl ⟨rfl,vs,SqL.of hp⟩,Φ0,H0,Φ,[],ρ,[],_,De.ex,S,t,fun s ρ1 Φ1 H1 v r S1 _=>?_⟩
    obtain ⟨d,rfl,r⟩:=r.get
    obtain ⟨a1,ds1,ho1,hl,r⟩:=ownL.get r
    obtain ⟨q1,vs1,e2,hp1,rl1,k1⟩:=S1.list ho1
    rw [e1] at e2
    cases e2
    have S2:=k1 _ _ (rl1.append (.one S1.last))
    exact ⟨q,vs1,v,rfl,rfl,hp1,by rw [rl1.1];exact hl,k.nx _ Φ1 _ σ r.get S2.g S2.env⟩⟩
def qq4 (i:Nat):TX:=fun ρ R _=>ownL ρ i fun a ds=>∃ d,ds[ds.length - 1]?=some d∧NF ds.dropLast fun es=>R (.v d) (ρ.set i (some (.ob a (.lst es))))
theorem qpa (i:Nat) (hN:X.N[i]?=some x:=by rfl) (hv:Vis X.env.scope x:=by first | exact Or.inl rfl | exact Or.inr (Or.inl rfl) | exact Or.inr (Or.inr rfl)) (hd:(x == ("__debug__":Str))=false:=by decide) (hcd:(x == ("__classdict__":Str))=false:=by decide)
    (hbase:attributeBase (.Name x npos) "pop" X.env (eval (.Name x npos) X.env)=eval (.Name x npos) X.env:=by rfl) (hline:(apos.endLine == cpos.line)=true:=by rfl):PX K X (.Call (.Attribute (.Name x npos) "pop" apos) [] [] cpos) (qq4 i) :=
  ⟨fun hK=>(qnn PySem.F.plainAttrs_list PySem.F.slot_list_pop PySem.F.type_list_pop qoC (pv i hN hv hd hcd) hbase hline).imp fun σ H Q hq0=>by
    obtain ⟨Φ0,H0,Φ,τ,ρ,κ,R,Rx,S,t,k⟩:=hq0
    obtain ⟨a,ds,ho,d,hdd,t⟩:=ownL.get t
    obtain ⟨q,vs,e1,hp,rl,k1⟩:=S.list ho
    obtain ⟨v,hv,rv⟩:=rl.at hdd
    rw [← rl.1] at hv
    have S2:=k1 _ _ rl.dropLast
    exact ⟨_,e1,.inl ⟨rfl,vs,SqL.of hp⟩,q,vs,v,rfl,rfl,hp,hv,k _ _ Φ _ v t.get (S2.pushV rv) (Same.refl _)⟩⟩
def qqE (i:Nat) (te tk:TX):TSM:=fun De ρ=>te ρ (xV fun d ρ1=>ownL ρ1 i fun _ _=>tk ρ1 (xV fun kk ρ2=>match kk with | .int n=>ownL ρ2 i fun a ds=>∃ j,ixN ds.length n=some j∧NF (ds.set j d) fun es=>De.nx (ρ2.set i (some (.ob a (.lst es)))) | _=>False) De.ex) De.ex
theorem qnj (i:Nat) (he:PX K X e te) (hk:PX K X b tk) (hN:X.N[i]?=some x:=by rfl) (hv:Vis X.env.scope x:=by first | exact Or.inl rfl | exact Or.inr (Or.inl rfl) | exact Or.inr (Or.inr rfl)) (hd:(x == ("__debug__":Str))=false:=by decide) (hcd:(x == ("__classdict__":Str))=false:=by decide)
    (ha:∀ v,assign (.Subscript (.Name x npos) b spos) X.env v=(do
      let ov ← holding [v] (eval (.Name x npos) X.env)
      let iv ← holding [v,ov] (eval b X.env)
      standAt spos
      holding [v,ov,iv] (setItem ov iv v)
      release [v,ov,iv] []):=by intro _;rfl)
    (hs:swapsWithSole [.Subscript (.Name x npos) b spos] e pos.line X.env=pure false:=by rfl) (hw:swappedStores [.Subscript (.Name x npos) b spos] e X.env=pure none:=by rfl)
    (h1:(assignEach [.Subscript (.Name x npos) b spos] X.env).map (·.2)=[assign (.Subscript (.Name x npos) b spos) X.env]:=by rfl) :
    PSM K X (.Assign [.Subscript (.Name x npos) b spos] e pos) (qqE i te tk) :=
  ⟨fun hK=>(qjU (he.pe hK) (qnL (pv i hN hv hd hcd) (hk.pe hK) qhH ha) hs hw h1).imp fun E σ H hq0=>by
    obtain ⟨Φ0,H0,Φ,ρ,De,g,V,t,k⟩:=hq0
    refine ⟨Φ0,H0,Φ,[],ρ,[],_,De.ex,st0 g V k.ex,t,fun s ρ1 Φ1 H1 v r S1 _=>?_⟩
    obtain ⟨d,rfl,r⟩:=r.get
    obtain ⟨a1,ds1,ho1,r⟩:=ownL.get r
    obtain ⟨q,vs,e1,_⟩:=S1.list ho1
    refine ⟨_,e1,Φ0,H0,Φ1,_,ρ1,_,_,De.ex,S1,r,fun s2 ρ2 Φ2 H2 w r2 S2 _=>?_⟩
    obtain ⟨kk,rfl,r2⟩:=r2.get
    obtain ⟨rd,rk⟩:=S2.last2
    cases kk with
    | int n =>
      cases rk
      obtain ⟨a2,ds2,ho2,j,hj,r2⟩:=ownL.get r2
      obtain ⟨q2,vs2,e2,hp2,rl2,k2⟩:=S2.list ho2
      rw [e1] at e2
      cases e2
      have S3:=k2 _ _ (rl2.set rd j)
      exact ⟨q,vs2,n,j,rfl,rfl,hp2,by rw [rl2.1];exact hj,k.nx _ Φ2 _ σ r2.get S3.g S3.env⟩
    | _=>exact r2.elim⟩
def qmA (i:Nat) (f:Int→Int→Int) (tk te:TX):TSM:=fun De ρ=>(ownL ρ i fun _ _=>True)∧tk ρ (xV fun kk ρ1=>match kk with | .int n=>ownL ρ1 i fun a ds=>∃ (j:Nat) (v:Int),n=(j:Int)∧ds[j]?=some (.int v)∧te ρ1 (xV fun d ρ2=>match d with | .int m=>ownL ρ2 i fun a2 ds2=>j<ds2.length∧NF (ds2.set j (.int (f v m))) fun es=>De.nx (ρ2.set i (some (.ob a2 (.lst es)))) | _=>False) De.ex | _=>False) De.ex
theorem qk1 {op:Operator} {f:Int→Int→Int} (i:Nat) (hop:PIp X op (ipI f)) (hk:PX K X b tk) (he:PX K X e te) (hN:X.N[i]?=some x:=by rfl) (hv:Vis X.env.scope x:=by first | exact Or.inl rfl | exact Or.inr (Or.inl rfl) | exact Or.inr (Or.inr rfl)) (hd:(x == ("__debug__":Str))=false:=by decide) (hcd:(x == ("__classdict__":Str))=false:=by decide)
    (ha:∀ ov iv new,augStore b ov iv new=(do holding [new,ov,iv] (setItem ov iv new);release [new,ov,iv] [];pure .next):=by intros;rfl) :
    PSM K X (.AugAssign (.Subscript (.Name x npos) b spos) op e pos) (qmA i f tk te) :=
  ⟨fun hK=>(qmk (pv i hN hv hd hcd) (hk.pe hK) (qjL hK) (he.pe hK) hop qhH ha).imp fun E σ H hq0=>by
    obtain ⟨Φ0,H0,Φ,ρ,De,g,V,⟨ho,t⟩,k⟩:=hq0
    obtain ⟨a,ds,ho,_⟩:=ownL.get ho
    have S:=st0 g V k.ex
    obtain ⟨q,vs,e1,hp,rl,_⟩:=S.list ho
    refine ⟨_,e1,Φ0,H0,Φ,[],ρ,[],_,De.ex,S,t,fun s1 ρ1 Φ1 H1 w r1 S1 _=>?_⟩
    obtain ⟨kk,rfl,r1⟩:=r1.get
    have rk:=S1.last
    cases kk with
    | int n =>
      cases rk
      obtain ⟨a1,ds1,ho1,j,v,rfl,hj,r1⟩:=ownL.get r1
      obtain ⟨q1,vs1,e2,hp1,rl1,_⟩:=S1.list ho1
      rw [e1] at e2
      cases e2
      obtain ⟨u,hu,ru⟩:=rl1.at hj
      cases ru
      refine ⟨q,vs1,_,j,_,rfl,rfl,.of hp1,rfl,hu,Φ0,H0,Φ1,_,ρ1,_,_,De.ex,S1,r1,fun s2 ρ2 Φ2 H2 z r2 S2 _=>?_⟩
      obtain ⟨d,rfl,r2⟩:=r2.get
      have rd:=S2.last
      cases d with
      | int m =>
        cases rd
        obtain ⟨a2,ds2,ho2,hjl,r2⟩:=ownL.get r2
        obtain ⟨q2,vs2,e3,hp2,rl2,k2⟩:=S2.list ho2
        rw [e1] at e3
        cases e3
        have S3:=k2 _ _ (rl2.set (.int (f v m)) j)
        exact ⟨v,m,rfl,rfl,q,vs2,_,j,rfl,rfl,hp2,qmx (by rw [rl2.1];exact hjl),k.nx _ Φ2 _ σ r2.get S3.g S3.env⟩
      | _=>exact r2.elim
    | _=>exact r1.elim⟩
def qdv:Option Sm→Option Sm
  | some (.ob none (.lst ds))=>some (.v (.lst ds))
  | some (.ob none (.map kvs))=>some (.v (.map kvs))
  | x=>x
def qcN:Nat→qaE→qaE
  | _,[]=>[]
  | 0,x::ρ=>qdv x::ρ
  | i+1,x::ρ=>x::qcN i ρ
theorem qiN:∀ (i:Nat) (ρ:qaE),qcN i ρ=(match ρ[i]? with
    | some (some (.ob none (.lst ds)))=>ρ.set i (some (.v (.lst ds)))
    | some (some (.ob none (.map kvs)))=>ρ.set i (some (.v (.map kvs)))
    | _=>ρ)
  | 0,[]=>rfl
  | _+1,[]=>rfl
  | 0,some (.ob none (.lst _))::_=>rfl
  | 0,some (.ob none (.map _))::_=>rfl
  | 0,some (.ob none (.mpT _))::_=>rfl
  | 0,some (.ob none (.obj _ _))::_=>rfl
  | 0,some (.ob (some _) _)::_=>rfl
  | 0,some (.v _)::_=>rfl
  | 0,none::_=>rfl
  | i+1,x::ρ=>by
    show x::qcN i ρ=_
    rw [qiN i ρ,List.getElem?_cons_succ]
    match ρ[i]? with
    | some (some (.ob none (.lst _)))=>rfl
    | some (some (.ob none (.map _)))=>rfl
    | some (some (.ob none (.mpT _)))=>rfl
    | some (some (.ob none (.obj _ _)))=>rfl
    | some (some (.ob (some _) _))=>rfl
    | some (some (.v _))=>rfl
    | some none=>rfl
    | none=>rfl
theorem Rp.map_of {Φ:Hp} {kvs:List (Key × D)} {ws:List (Key × V)} {p:Addr} (h:Φ p=some (.dK ws)) (r:Paired (KvR K Φ) kvs ws):Rp K Φ (.map kvs) (.ref p):=by
  refine .map h ?_ ?_
  · clear h
    induction r with
    | nil=>rfl
    | cons q _ ih=>rw [List.map_cons,List.map_cons,ih,q.1]
  · clear h
    induction r with
    | nil=>intro i w d hw;simp at hw
    | cons q _ ih =>
      intro i w d hw hd
      cases i with
      | zero=>cases hw;cases hd;exact q.2
      | succ i=>exact ih i w d hw hd
theorem EnvM.frz1f {Φ0 H0 Φ H:Hp} {σ:St} {ρ:qaE} {o:Om} {d0:D} (E:EnvM K H0 Φ H σ ρ) (g:Gr Φ0 H0 Φ H) {i:Nat} (ho:ρ[i]?=some (some (.ob none o)))
    (hr:∀ p F,OmS K Φ H o p F→∃ u,H p=some u∧∀ Φ',Same Φ Φ'→Φ' p=some u→Rp K Φ' d0 (.ref p)):∃ Φ',Gr Φ0 H0 Φ' H∧EnvM K H0 Φ' H σ (ρ.set i (some (.v d0)))∧Same Φ Φ':=by
  obtain ⟨fp,E⟩:=E
  obtain ⟨p,e,_,r⟩:=E.ow i none _ ho
  have hp:=r.mem
  have no:=E.no i none _ ho p hp
  obtain ⟨u,h1,h2⟩:=hr p _ r
  have s1:=qaG no.2 u
  have cs:∀ {j:Nat} {x:Sm},(ρ.set i (some (Sm.v d0)))[j]?=some (some x)→(j=i∧x=.v d0)∨(j≠i∧ρ[j]?=some (some x)):=fun {j x} h=>by
    rcases qev h with ⟨e,_,e1⟩ | ⟨e,h⟩
    · cases e1;exact .inl ⟨e,rfl⟩
    · exact .inr ⟨e,h⟩
  refine ⟨upd Φ p u,g.freeze no.1 no.2 h1,⟨fp,fun b u' eb=>?_,by rw [List.length_set,E.len],fun j d h=>?_,fun j a o h=>?_,fun j a o h b hb=>?_,fun j k a a' o o' hj hk c=>?_,E.tb.same s1⟩,s1⟩
  · by_cases c:b=p
    · subst c;rw [qak] at eb;cases eb;exact h1
    · rw [qar c] at eb;exact E.fz b u' eb
  · rcases cs h with ⟨c,h⟩ | ⟨_,h⟩
    · cases h
      subst c
      exact ⟨_,e,h2 _ s1 qak⟩
    · obtain ⟨v,hv,rv⟩:=E.sl j d h
      exact ⟨v,hv,rv.same s1⟩
  · rcases cs h with ⟨_,h⟩ | ⟨_,h⟩
    · cases h
    · obtain ⟨q,hq,ha,rq⟩:=E.ow j a o h
      exact ⟨q,hq,ha,rq.keep s1 fun _ _ _ h=>h⟩
  · rcases cs h with ⟨_,h⟩ | ⟨c,h⟩
    · cases h
    · have:b≠p:=fun z=>E.dj j i a none o _ h ho c b hb (by rw [z];exact hp)
      rw [qar this]
      exact E.no j a o h b hb
  · rcases cs hj with ⟨_,hj⟩ | ⟨_,hj⟩
    · cases hj
    rcases cs hk with ⟨_,hk⟩ | ⟨_,hk⟩
    · cases hk
    exact E.dj j k a a' o o' hj hk c
theorem EnvM.frz1 {Φ0 H0 Φ H:Hp} {σ:St} {ρ:qaE} {o:Om} {d0:D} (E:EnvM K H0 Φ H σ ρ) (g:Gr Φ0 H0 Φ H) {i:Nat} (ho:ρ[i]?=some (some (.ob none o)))
    (hr:∀ p F,OmS K Φ H o p F→∃ u,H p=some u∧∀ Φ',Same Φ Φ'→Φ' p=some u→Rp K Φ' d0 (.ref p)):∃ Φ',Gr Φ0 H0 Φ' H∧EnvM K H0 Φ' H σ (ρ.set i (some (.v d0))) :=
  let ⟨Φ',g',E',_⟩:=E.frz1f g ho hr
  ⟨Φ',g',E'⟩
theorem EnvM.frz {Φ0 H0 Φ H:Hp} {σ:St} {ρ:qaE} (E:EnvM K H0 Φ H σ ρ) (g:Gr Φ0 H0 Φ H) (i:Nat):∃ Φ',Gr Φ0 H0 Φ' H∧EnvM K H0 Φ' H σ (qcN i ρ):=by
  rw [qiN]
  split
  · next ds ho =>
    refine E.frz1 g ho fun p F r=>?_
    obtain ⟨_,vs,h1,h2⟩:=r.lst_inv
    exact ⟨_,h1,fun Φ' s h=>(h2.same s).lst h⟩
  · next kvs ho =>
    refine E.frz1 g ho fun p F r=>?_
    obtain ⟨_,ws,h1,h2⟩:=r.map_inv
    exact ⟨_,h1,fun Φ' s h=>Rp.map_of h (qb6 (fun _ _ r=>⟨r.1,r.2.same s⟩) h2)⟩
  · exact ⟨Φ,g,E⟩
def qra (i:Nat) (t:TSM):TSM:=fun De ρ=>t De (qcN i ρ)
theorem qkE {rest:List Stmt} {t:TSM} (i:Nat) (h:PSsM K X rest t):PSsM K X rest (qra i t):=⟨fun hK=>(h.ps hK).imp fun E σ H hq0=>by
  obtain ⟨Φ0,H0,Φ,ρ,De,g,V,t,k⟩:=hq0
  obtain ⟨Φ',g',V'⟩:=V.frz g i
  exact ⟨Φ0,H0,Φ',qcN i ρ,De,g',V',t,k⟩⟩
end
section
variable {K : PySem.W.Frag} {X : Cx} {tg iter elt e a : Expr} {ifs : List Expr} {scope : Scope} {pos py spos : Pos} {N' : List Str} {cap : List (Option Nat)} {ti : TDL} {g : TGD} {tc : TDB} {te ta tb : TD} {i : Nat} {y : Str}
end
def zM (z:SpD):SpM:=fun as R _=>∃ ds,as=ds.map Sm.v∧z ds fun d=>R (.v d) []
theorem qi5 {H:Hp}:qbg H []=H:=funext fun b=>if_neg (by simp)
theorem qgR {K:PySem.W.Frag} {Φ H:Hp}:∀ {ds:List D} {vs:List V},RpL K Φ ds vs→ArgM K Φ H (ds.map Sm.v) vs (ds.map fun _=>[])
  | [],[],_=>.nil
  | [],_::_,h=>by cases h.1
  | _::_,[],h=>by cases h.1
  | d::ds,v::vs,h=>.v (h.2 0 v d rfl rfl) (qgR ⟨by have:=h.1;simpa using this,fun i u e hu he=>h.2 (i+1) u e hu he⟩)
theorem qd8 {α:Type}:∀ (ds:List α),(ds.map fun _=>([]:List Addr)).flatten=[]
  | []=>rfl
  | _::ds=>by simp
theorem qdF {K:PySem.W.Frag} {z:SpD}:∀ vs H Q E,lSp K z vs H Q E→qfA K (zM z) vs H Q E:=fun vs H Q E h=>by
  obtain ⟨Φ,ds,R,sm,tb,rl,hz,k⟩:=h
  refine ⟨Φ,ds.map Sm.v,ds.map fun _=>[],fun s os=>∃ d,s=.v d∧R d,fun _ _=>False,sm,tb,qgR rl,by rw [qd8];exact List.nodup_nil,fun b hb=>(by rw [qd8] at hb;cases hb),⟨ds,rfl,?_⟩,fun s os Φ' H' v F Fs' r g hr ho hn hno=>?_⟩
  · have e:R=fun d=>∃ d',(Sm.v d:Sm)=.v d'∧R d':=funext fun d=>propext ⟨fun h=>⟨d,rfl,h⟩,fun ⟨d',e,h⟩=>by cases e;exact h⟩
    rw [← e]
    exact hz
  · obtain ⟨d,rfl,r⟩:=r
    cases hr with
    | v rv =>
      rw [qd8,qi5] at g
      exact k d Φ' H' v r g rv
def pinned:Option Sm→Option Sm
  | some (.v d)=>some (.v d)
  | some (.ob (some p) o)=>some (.ob (some p) o)
  | _=>none
def qm6 (cap:List (Option Nat)) (ρ:qaE):qaE:=cap.map fun o=>o.bind fun i=>pinned (ρ[i]?).join
def qlm:List (Option Nat)→qaE→qaE→(qaE→Prop)→Prop
  | [],_,ρ,k=>k ρ
  | none::cap,_::ρc,ρ,k=>qlm cap ρc ρ k
  | some i::cap,x::ρc,ρ,k=>match ρ[i]? with
    | some (some (.ob (some p) _))=>∃ o,x=some (.ob (some p) o)∧qlm cap ρc (qb7 ρ i o) k
    | _=>qlm cap ρc ρ k
  | _::_,[],_,_=>False
def qbW (cap:List (Option Nat)):List Nat:=cap.filterMap id
theorem qds {cap:List (Option Nat)} {j i:Nat} (h:cap[j]?=some (some i)):i∈qbW cap:=List.mem_filterMap.mpr ⟨some i,List.mem_of_getElem? h,rfl⟩
theorem qfr:∀ {cap:List (Option Nat)} {ρc ρ:qaE} {k:qaE→Prop},(qbW cap).Nodup→qlm cap ρc ρ k→∃ ρ2,k ρ2∧ρ2.length=ρ.length∧(∀ (i:Nat) (x:Sm),ρ2[i]?=some (some x)→(∃ (j:Nat) (p:Addr) (o0 o:Om),cap[j]?=some (some i)∧ρ[i]?=some (some (.ob (some p) o0))∧ρc[j]?=some (some (.ob (some p) o))∧x=.ob (some p) o)∨(ρ[i]?=some (some x)∧∀ (j:Nat) (p:Addr) (o0:Om),cap[j]?=some (some i)→ρ[i]?≠some (some (.ob (some p) o0)))) ∧
    ∀ (j i:Nat) (p:Addr) (o0:Om),cap[j]?=some (some i)→ρ[i]?=some (some (.ob (some p) o0))→∃ o:Om,ρc[j]?=some (some (.ob (some p) o))
  | [],ρc,ρ,k,_,h=>⟨ρ,h,rfl,fun i x hx=>.inr ⟨hx,fun j p o0 hj=>(by simp at hj)⟩,fun j i p o0 hj=>(by simp at hj)⟩
  | none::cap,x::ρc,ρ,k,nd,h=>by
    obtain ⟨ρ2,h1,h2,h3,h4⟩:=qfr (cap:=cap) (ρc:=ρc) (ρ:=ρ) (k:=k) nd h
    refine ⟨ρ2,h1,h2,fun i y hy=>?_,fun j i p o0 hj hi=>?_⟩
    · rcases h3 i y hy with ⟨j,p,o0,o,z1,z2,z3,z4⟩ | ⟨z1,z2⟩
      · exact .inl ⟨j+1,p,o0,o,z1,z2,z3,z4⟩
      · refine .inr ⟨z1,fun j p o0 hj=>?_⟩
        cases j with
        | zero=>cases hj
        | succ j=>exact z2 j p o0 hj
    · cases j with
      | zero=>cases hj
      | succ j=>exact h4 j i p o0 hj hi
  | some i0::cap,x::ρc,ρ,k,nd,h=>by
    obtain ⟨nd1,nd2⟩:=List.nodup_cons.mp (show (i0::qbW cap).Nodup from nd)
    have h':(match ρ[i0]? with | some (some (.ob (some p) _))=>∃ o,x=some (.ob (some p) o)∧qlm cap ρc (qb7 ρ i0 o) k | _=>qlm cap ρc ρ k):=h
    by_cases hp:∃ p o0,ρ[i0]?=some (some (.ob (some p) o0))
    · obtain ⟨p,o0,hp⟩:=hp
      rw [hp] at h'
      obtain ⟨o,rfl,h'⟩:=h'
      obtain ⟨ρ2,h1,h2,h3,h4⟩:=qfr nd2 h'
      have ne:∀ {j i:Nat},cap[j]?=some (some i)→i≠i0:=fun hj e=>nd1 (e ▸ qds hj)
      refine ⟨ρ2,h1,by rw [h2,qhP],fun i y hy=>?_,fun j i p' o1 hj hi=>?_⟩
      · rcases h3 i y hy with ⟨j,p',o1,o',z1,z2,z3,z4⟩ | ⟨z1,z2⟩
        · rw [qcD (ne z1)] at z2
          exact .inl ⟨j+1,p',o1,o',z1,z2,z3,z4⟩
        · by_cases c:i=i0
          · subst c
            rw [qdA] at z1
            rw [hp] at z1
            simp only at z1
            rw [List.getElem?_set_self (qai hp)] at z1
            cases z1
            exact .inl ⟨0,p,o0,o,rfl,hp,rfl,rfl⟩
          · rw [qcD c] at z1 z2
            refine .inr ⟨z1,fun j p' o1 hj=>?_⟩
            cases j with
            | zero=>cases hj;exact absurd rfl c
            | succ j=>exact z2 j p' o1 hj
      · cases j with
        | zero=>cases hj;rw [hp] at hi;cases hi;exact ⟨o,rfl⟩
        | succ j=>exact h4 j i p' o1 hj (by rw [qcD (ne hj)];exact hi)
    · have h2':qlm cap ρc ρ k:=by
        split at h'
        · next p o0 e=>exact absurd ⟨p,o0,e⟩ hp
        · exact h'
      obtain ⟨ρ2,h1,h2,h3,h4⟩:=qfr nd2 h2'
      refine ⟨ρ2,h1,h2,fun i y hy=>?_,fun j i p o0 hj hi=>?_⟩
      · rcases h3 i y hy with ⟨j,p,o0,o,z1,z2,z3,z4⟩ | ⟨z1,z2⟩
        · exact .inl ⟨j+1,p,o0,o,z1,z2,z3,z4⟩
        · refine .inr ⟨z1,fun j p o0 hj=>?_⟩
          cases j with
          | zero=>cases hj;exact fun e=>hp ⟨p,o0,e⟩
          | succ j=>exact z2 j p o0 hj
      · cases j with
        | zero=>cases hj;exact absurd ⟨p,o0,hi⟩ hp
        | succ j=>exact h4 j i p o0 hj hi
  | none::_,[],_,_,_,h=>h.elim
  | some _::_,[],_,_,_,h=>h.elim
section
variable {K : PySem.W.Frag} {X : Cx} {H0 H H' Φ Φ' : Hp} {σ : St} {ρ : qaE} {cap : List (Option Nat)}
theorem qj5 {i:Nat} {x:Sm} (h:(qm6 cap ρ)[i]?=some (some x)):∃ j,cap[i]?=some (some j)∧ρ[j]?=some (some x)∧pinned (some x)=some x:=by
  unfold qm6 at h
  rw [List.getElem?_map] at h
  cases e:cap[i]? with
  | none=>rw [e] at h;cases h
  | some o =>
    rw [e] at h
    cases o with
    | none=>cases h
    | some j =>
      have h':pinned (ρ[j]?).join=some x:=Option.some.inj h
      cases e2:(ρ[j]?).join with
      | none=>rw [e2] at h';cases h'
      | some y =>
        rw [e2] at h'
        cases y with
        | v d=>cases h';exact ⟨j,rfl,qes e2,rfl⟩
        | ob a o =>
          cases a with
          | none=>cases h'
          | some p=>cases h';exact ⟨j,rfl,qes e2,rfl⟩
theorem qhX {i j:Nat} {v:V} (hc:cap[i]?=some (some j)) (hs:σ[j]?=some (some v)):(qcJ cap σ)[i]?=some (some v):=by
  unfold qcJ
  rw [List.getElem?_map,hc]
  simp [hs]
theorem EnvM.side {p:Addr} {u u':HO} (E:EnvM K H0 Φ H σ ρ) (h0:H0 p=some u) (hn:Φ p=none):EnvM K (upd H0 p u') Φ (upd H p u') σ ρ:=by
  obtain ⟨fp,E⟩:=E
  have ne:∀ {i:Nat} {a:Option Addr} {o:Om},ρ[i]?=some (some (.ob a o))→∀ b∈fp i,b≠p:=fun h b hb e=>by
    have:=(E.no _ _ _ h b hb).1
    rw [e,h0] at this
    cases this
  exact ⟨fp,fun b w e=>by rw [qar (qat e hn)];exact E.fz b w e,E.len,E.sl,fun i a o h=>let ⟨q,e,ha,r⟩:=E.ow i a o h;⟨q,e,ha,r.keep (Same.refl _) fun b hb w hw=>by rw [qar (ne h b hb)];exact hw⟩,
    fun i a o h b hb=>by rw [qar (ne h b hb)];exact E.no i a o h b hb,E.dj,E.tb⟩
structure StN (K:PySem.W.Frag) (Φ0 H0 Φ H:Hp) (σ τ:St) (ρ κ:qaE):Prop where
  g:Gr Φ0 H0 Φ H
  l:ρ.length=σ.length
  E:EnvM K H0 Φ H (σ++τ) (ρ++κ)
def nox:XD→qaE→Prop:=fun _ _=>False
theorem StM.n {Φ0 H0:Hp} {τ:St} {κ:qaE} {Rx:XD→qaE→Prop} (S:StM K X Φ0 H0 Φ H σ τ ρ κ Rx):StN K Φ0 H0 Φ H σ τ ρ κ:=⟨S.g,S.l,S.E⟩
theorem StN.m {Φ0 H0:Hp} {τ:St} {κ:qaE} (S:StN K Φ0 H0 Φ H σ τ ρ κ):StM K X Φ0 H0 Φ H σ τ ρ κ nox:=⟨S.g,S.l,S.E,fun _ _ _ _ _ _ _ _ h=>h.elim⟩
def lNm (K:PySem.W.Frag) (t:TX):TE:=fun σ H Q=>∃ Φ0 H0 Φ τ ρ κ R,StN K Φ0 H0 Φ H σ τ ρ κ∧t ρ R nox∧∀ sm ρ' Φ' H' v,R sm ρ'→StN K Φ0 H0 Φ' H' σ (τ++[some v]) ρ' (κ++[some sm])→Same Φ Φ'→Q v H'
def lNb (K:PySem.W.Frag) (t:TXB):TT:=fun σ H Q=>∃ Φ0 H0 Φ τ ρ κ R,StN K Φ0 H0 Φ H σ τ ρ κ∧t ρ R nox∧∀ b ρ' Φ' H',R b ρ'→StN K Φ0 H0 Φ' H' σ τ ρ' κ→Same Φ Φ'→Q b H'
theorem lNm.m {t:TX} {Q:VK} (h:lNm K t σ H Q):lXm K X t σ H Q:=by
  obtain ⟨Φ0,H0,Φ,τ,ρ,κ,R,S,t,k⟩:=h
  exact ⟨Φ0,H0,Φ,τ,ρ,κ,R,nox,S.m,t,fun sm ρ' Φ' H' v r S' f=>k sm ρ' Φ' H' v r S'.n f⟩
theorem lNb.m {t:TXB} {Q:Bool→Hp→Prop} (h:lNb K t σ H Q):lXb K X t σ H Q:=by
  obtain ⟨Φ0,H0,Φ,τ,ρ,κ,R,S,t,k⟩:=h
  exact ⟨Φ0,H0,Φ,τ,ρ,κ,R,nox,S.m,t,fun b ρ' Φ' H' r S' f=>k b ρ' Φ' H' r S'.n f⟩
def qoe (ti:TIM) (cap:List (Option Nat)) (gd:TGM) (tc:TXB) (te:TX):TX:=fun ρ R Rx=>ti ρ (fun ds ρ0=>ds.length<sizeLine∧∃ I:Nat→List D→qaE→Prop,I 0 [] (qm6 cap ρ0) ∧
  (∀ i d ys ρc,ds[i]?=some d→I i ys ρc→gd d ρc fun ρ1=>tc ρ1 (fun b ρ2=>(b=true→te ρ2 (xV fun y ρ3=>I (i+1) (ys++[y]) ρ3) nox)∧(b=false→I (i+1) ys ρ2)) nox) ∧
  ∀ ys ρc,I ds.length ys ρc→qlm cap ρc ρ0 fun ρ2=>R (.own ys) ρ2) Rx
def qom:TXB:=fun ρ R _=>R true ρ
structure PIfM (K:PySem.W.Frag) (X:Cx) (ifs:List Expr) (t:TXB):Prop where p:X.K=K→qmY X ifs (lXb K X t)
theorem qmB:PIfM K X [] qom:=⟨fun _ pins s σ H Q I hq0=>by obtain ⟨Φ0,H0,Φ,τ,ρ,κ,R,Rx,S,t,k⟩:=hq0;exact qhr pins s σ H Q I (k true ρ Φ H t S (Same.refl _))⟩
end
section
variable {K : PySem.W.Frag} {X : Cx} {tg iter elt : Expr} {ifs : List Expr} {scope : Scope} {pos : Pos} {N' : List Str} {cap : List (Option Nat)} {ti : TIM} {gd : TGM} {tc : TXB} {te : TX}
theorem qis (hcap:(qbW cap).Nodup) {σ:St} {H:Hp} {Q:VK} {Φ0 H0 Φ:Hp} {ρ:qaE} {R:Sm→qaE→Prop} {Rx:XD→qaE→Prop} {τ:St} {κ:qaE} (S:StM K X Φ0 H0 Φ H σ τ ρ κ Rx) (t:qoe ti cap gd tc te ρ R Rx)
    (k:∀ sm ρ' Φ' H' v,R sm ρ'→StM K X Φ0 H0 Φ' H' σ (τ++[some v]) ρ' (κ++[some sm]) Rx→Same Φ Φ'→Q v H'):qjz (lIM K X ti) cap (lGM K gd) (lNb K tc) (lNm K te) σ H Q:=by
  refine ⟨Φ0,H0,Φ,τ,ρ,κ,_,Rx,S,t,fun ds ρ0 Φ1 H1 J hq1 S1 f1 Sd Dd hD=>?_⟩
  obtain ⟨hlen,I,h0,hst,hend⟩:=hq1
  obtain ⟨fp,Ex⟩:=S1.E
  have E:=Ex.take S1.l
  have up:∀ {i:Nat} {x:Sm},ρ0[i]?=some (some x)→(ρ0++κ)[i]?=some (some x):=fun h=>by rw [List.getElem?_append_left (qai h)];exact h
  have ups:∀ {i:Nat} {x:V},σ[i]?=some (some x)→(σ++τ)[i]?=some (some x):=fun h=>by rw [List.getElem?_append_left (qai h)];exact h
  let lent:Nat→Prop:=fun i=>(∃ j:Nat,cap[j]?=some (some i))∧∃ p o,ρ0[i]?=some (some (.ob (some p) o))
  obtain ⟨B,hB⟩:∃ B:List Addr,∀ b,b∈B↔∃ i,lent i∧b∈fp i:=by
    refine ⟨((qbW cap).filter fun i=>match ρ0[i]? with | some (some (.ob (some _) _))=>true | _=>false).flatMap fp,fun b=>?_⟩
    rw [List.mem_flatMap]
    constructor
    · rintro ⟨i,hi,hb⟩
      obtain ⟨hi,hp⟩:=List.mem_filter.mp hi
      refine ⟨i,⟨?_,?_⟩,hb⟩
      · obtain ⟨o,ho,e⟩:=List.mem_filterMap.mp hi
        cases o with
        | none=>cases e
        | some i'=>cases e;exact List.getElem?_of_mem ho
      · split at hp
        · next p o e=>exact ⟨p,o,e⟩
        · cases hp
    · rintro ⟨i,⟨⟨j,hj⟩,p,o,hp⟩,hb⟩
      exact ⟨i,List.mem_filter.mpr ⟨qds hj,by rw [hp]⟩,hb⟩
  have hDB:Dd∉B:=fun h=>by
    obtain ⟨i,⟨_,p,o,ho⟩,hb⟩:=(hB Dd).mp h
    obtain ⟨_,_,_,r⟩:=E.ow i _ o ho
    obtain ⟨u,hu,_⟩:=r.at Dd hb
    rw [hD] at hu
    cases hu
  have hDΦ:Φ1 Dd=none:=S1.g.s.free hD
  have hDm:qbg H1 B Dd=none:=by rw [qbt hDB];exact hD
  have m2:∀ {b:Addr} {u:HO},qbg H1 B b=some u→b≠Dd:=fun h=>qat h hDm
  have C0:EnvM K (upd (qbg H1 B) Dd (.lst [])) Φ1 (upd H1 Dd (.lst [])) (qcJ cap σ) (qm6 cap ρ0):=by
    have no:∀ {i:Nat} {a:Option Addr} {o:Om},(qm6 cap ρ0)[i]?=some (some (.ob a o))→∃ j:Nat,cap[i]?=some (some j)∧ρ0[j]?=some (some (.ob a o))∧lent j:=fun {i a o} h=>by
      obtain ⟨j,h1,h2,h3⟩:=qj5 h
      cases a with
      | none=>cases h3
      | some p=>exact ⟨j,h1,h2,⟨i,h1⟩,p,o,h2⟩
    have inB:∀ {i j:Nat} {a:Option Addr} {o:Om},ρ0[j]?=some (some (.ob a o))→lent j→∀ b∈fp j,b∈B∧b≠Dd:=fun {i j a o} h hl b hb=>⟨(hB b).mpr ⟨j,hl,hb⟩,fun e=>hDB (e ▸ (hB b).mpr ⟨j,hl,hb⟩)⟩
    have cj:∀ {i j n:Nat},cap[i]?=some (some n)→cap[j]?=some (some n)→i=j:=fun {i j n} h1 h2=>by
      have key:∀ {cap:List (Option Nat)},(qbW cap).Nodup→∀ {i j:Nat},cap[i]?=some (some n)→cap[j]?=some (some n)→i=j:=by
        intro cap
        induction cap with
        | nil=>intro _ i j h;simp at h
        | cons o cap ih =>
          intro nd i j h1 h2
          have nd':(qbW cap).Nodup:=by
            cases o with
            | none=>exact nd
            | some m=>exact (List.nodup_cons.mp (show (m::qbW cap).Nodup from nd)).2
          have one:∀ {i:Nat},o=some n→cap[i]?=some (some n)→False:=fun {i} ho hi=>by
            subst ho
            exact (List.nodup_cons.mp (show (n::qbW cap).Nodup from nd)).1 (qds hi)
          cases i with
          | zero=>cases j with
            | zero=>rfl
            | succ j=>exact (one (by simpa using h1) (by simpa using h2)).elim
          | succ i=>cases j with
            | zero=>exact (one (by simpa using h2) (by simpa using h1)).elim
            | succ j=>exact congrArg Nat.succ (ih nd' (by simpa using h1) (by simpa using h2))
      exact key hcap h1 h2
    refine ⟨fun i=>match cap[i]? with | some (some j)=>fp j | _=>[],fun b u e=>?_,by unfold qcJ qm6;rw [List.length_map,List.length_map],fun i d h=>?_,fun i a o h=>?_,fun i a o h b hb=>?_,fun i j a a' o o' hi hj c b hb hb2=>?_,S1.E.tb⟩
    · rw [qar (qat e hDΦ)]
      exact S1.g.s b u e
    · obtain ⟨j,h1,h2,_⟩:=qj5 h
      obtain ⟨v,hv,r⟩:=E.sl j d h2
      exact ⟨v,qhX h1 hv,r⟩
    · obtain ⟨j,h1,h2,hl⟩:=no h
      obtain ⟨p,hp,ha,r⟩:=E.ow j a o h2
      refine ⟨p,qhX h1 hp,ha,?_⟩
      rw [h1]
      exact r.keep (Same.refl _) fun b hb u hu=>by rw [qar (inB (i:=i) h2 hl b hb).2];exact hu
    · obtain ⟨j,h1,h2,hl⟩:=no h
      rw [h1] at hb
      obtain ⟨z1,z2⟩:=inB (i:=i) h2 hl b hb
      exact ⟨by rw [qar z2];exact qhE z1,(E.no j a o h2 b hb).2⟩
    · obtain ⟨i',h1,h2,_⟩:=no hi
      obtain ⟨j',h3,h4,_⟩:=no hj
      rw [h1] at hb
      rw [h3] at hb2
      exact E.dj i' j' a a' o o' h2 h4 (fun e=>c (by subst e;exact cj h1 h3)) b hb hb2
  refine ⟨fun i m σ' H'=>m=ds.length - i∧i≤ds.length∧∃ (Φ':Hp) (ρc:qaE) (vs:List V) (ys:List D),EnvM K (upd (qbg H1 B) Dd (.lst vs)) Φ' H' σ' ρc∧Gr Φ1 (qbg H1 B) Φ' H'∧Φ' Dd=none∧H' Dd=some (.lst vs)∧RpL K Φ' ys vs∧ys.length≤i∧I i ys ρc,⟨ds.length,by simp,Nat.zero_le _,Φ1,_,[],[],C0,⟨Same.refl _,fun b u e=>by rw [qar (m2 e)];exact (qeW e).2,fun b u e=>by rw [qar (qat e hDΦ)];exact S1.g.s b u e,fun _ _ _ h _=>h⟩,hDΦ,qak,.nil,Nat.zero_le _,h0⟩,?_⟩
  rintro i m σ' H' ⟨rfl,hi,Φ',ρc,vs,ys,Ei,gi,hDi,hDl,hrl,hyl,hI⟩
  by_cases hlt:i<ds.length
  · refine .inr ⟨Sd.go i H' (gi.f.trans gi.s) hlt,fun σ2 H2=>∃ (Φ':Hp) (ρc:qaE) (vs:List V) (ys:List D),EnvM K (upd (qbg H1 B) Dd (.lst vs)) Φ' H2 σ2 ρc∧Gr Φ1 (qbg H1 B) Φ' H2∧Φ' Dd=none∧H2 Dd=some (.lst vs)∧RpL K Φ' ys vs∧ys.length≤i+1∧I (i+1) ys ρc,fun σ2 H2 h2=>⟨ds.length - (i+1),by omega,rfl,hlt,h2⟩,fun x H2 y=>?_⟩
    obtain ⟨Φ3,g3,rx⟩:=Sd.yl i Φ' H' x H2 _ gi.f gi.s (qao hlt) y
    have E3:=Ei.gr g3
    refine ⟨_,Φ3,ρc,_,_,E3,rx,hst i _ ys ρc (qao hlt) hI,fun ρ1 σ3 t1 E4=>?_⟩
    have hD3:Φ3 Dd=none:=g3.o _ _ hDl hDi
    have hDl3:=g3.h _ _ hDl
    have gt:Gr Φ3 (upd (qbg H1 B) Dd (.lst vs)) Φ3 H2:=⟨Same.refl _,fun b u e=>by
      by_cases c:b=Dd
      · subst c;rw [qak] at e;cases e;exact hDl3
      · rw [qar c] at e;exact g3.h b u (gi.h b u e),g3.s,fun _ _ _ h _=>h⟩
    have join:∀ {Φ5 H5:Hp},Gr Φ3 (upd (qbg H1 B) Dd (.lst vs)) Φ5 H5→Gr Φ1 (qbg H1 B) Φ5 H5∧Φ5 Dd=none∧H5 Dd=some (.lst vs):=fun {Φ5 H5} g5=>by
      refine ⟨⟨(gi.f.trans g3.f).trans g5.f,fun b u e=>g5.h b u (by rw [qar (m2 e)];exact e),g5.s,fun b u h1 h2 kk=>?_⟩,g5.o _ _ qak hD3 trivial,g5.h _ _ qak⟩
      have z1:=gi.o b u h1 h2 kk
      have z2:=g3.o b u (gi.h b u h1) z1 kk
      exact g5.o b u (by rw [qar (m2 h1)];exact h1) z2 kk
    refine ⟨Φ3,_,Φ3,[],ρ1,[],_,⟨gt,E4.len.symm,by rw [List.append_nil,List.append_nil];exact E4⟩,t1,fun b ρ2 Φ4 H4 rb S4 f4=>?_⟩
    cases b with
    | false =>
      refine qni ?_
      obtain ⟨j1,j2,j3⟩:=join S4.g
      exact ⟨Φ4,ρ2,vs,ys,(S4.m (X:=X)).env,j1,j2,j3,(hrl.same g3.f).same f4,by omega,rb.2 rfl⟩
    | true =>
      refine qnk ?_
      refine ⟨Φ3,_,Φ4,[],ρ2,[],_,S4,rb.1 rfl,fun s ρ3 Φ5 H5 v rs S5' f5=>?_⟩
      have S5:=S5'.m (X:=X)
      obtain ⟨d,rfl,rs⟩:=rs.get
      obtain ⟨j1,j2,j3⟩:=join S5.g
      have rl5:=(hrl.same g3.f).same (f4.trans f5)
      refine ⟨vs,j3,by rw [hrl.1];omega,Φ5,ρ3,vs++[v],ys++[d],?_,?_,j2,qak,rl5.append (.one S5.last),by rw [List.length_append];exact Nat.succ_le_succ hyl,rs⟩
      · have:=S5.env.side (p:=Dd) (u:=.lst vs) (u':=.lst (vs++[v])) qak j2
        rw [qmV] at this
        exact this
      · exact ⟨j1.f,fun b u e=>by rw [qar (m2 e)];exact j1.h b u e,fun b u e=>by rw [qar (qat e j2)];exact j1.s b u e,fun b u h1 h2 kk=>j1.o b u h1 h2 kk⟩
  · have e:i=ds.length:=by omega
    subst e
    refine .inl ⟨Sd.stop H' (gi.f.trans gi.s),?_⟩
    obtain ⟨ρ2,hR,hl2,h3,h4⟩:=qfr hcap (hend ys ρc hI)
    obtain ⟨fc,Ec⟩:=Ei
    have inj:∀ {i j n:Nat},cap[i]?=some (some n)→cap[j]?=some (some n)→i=j:=fun {i j n} h1 h2=>by
      have key:∀ {cap:List (Option Nat)},(qbW cap).Nodup→∀ {i j:Nat},cap[i]?=some (some n)→cap[j]?=some (some n)→i=j:=by
        intro cap
        induction cap with
        | nil=>intro _ i j h;simp at h
        | cons o cap ih =>
          intro nd i j h1 h2
          have nd':(qbW cap).Nodup:=by
            cases o with
            | none=>exact nd
            | some m=>exact (List.nodup_cons.mp (show (m::qbW cap).Nodup from nd)).2
          have one:∀ {i:Nat},o=some n→cap[i]?=some (some n)→False:=fun {i} ho hi=>by
            subst ho
            exact (List.nodup_cons.mp (show (n::qbW cap).Nodup from nd)).1 (qds hi)
          cases i with
          | zero=>cases j with
            | zero=>rfl
            | succ j=>exact (one (by simpa using h1) (by simpa using h2)).elim
          | succ i=>cases j with
            | zero=>exact (one (by simpa using h2) (by simpa using h1)).elim
            | succ j=>exact congrArg Nat.succ (ih nd' (by simpa using h1) (by simpa using h2))
      exact key hcap h1 h2
    have ex:∀ i,lent i→∃ (j:Nat) (p:Addr) (o0 o:Om),cap[j]?=some (some i)∧ρ0[i]?=some (some (.ob (some p) o0))∧ρc[j]?=some (some (.ob (some p) o)):=fun i hl=>by
      obtain ⟨⟨j,hj⟩,p,o0,ho⟩:=hl
      obtain ⟨o,h⟩:=h4 j i p o0 hj ho
      exact ⟨j,p,o0,o,hj,ho,h⟩
    obtain ⟨new,hnew,hnone⟩:∃ new:Nat→Option (Om × List Addr),(∀ i q,new i=some q→∃ (j:Nat) (p:Addr) (o0:Om),cap[j]?=some (some i)∧ρ0[i]?=some (some (.ob (some p) o0))∧ρc[j]?=some (some (.ob (some p) q.1))∧q.2=fc j)∧∀ i,new i=none↔¬ lent i:=by
      have dec:∀ i,Decidable (lent i):=fun i=>Classical.propDecidable _
      refine ⟨fun i=>if h:lent i then some ((ex i h).choose_spec.choose_spec.choose_spec.choose,fc (ex i h).choose) else none,fun i q hq=>?_,fun i=>?_⟩
      · by_cases h:lent i
        · simp only [h,dif_pos] at hq
          cases hq
          obtain ⟨z1,z2,z3⟩:=(ex i h).choose_spec.choose_spec.choose_spec.choose_spec
          exact ⟨_,_,_,z1,z2,z3,rfl⟩
        · simp only [h,dif_neg,not_false_eq_true] at hq
          cases hq
      · by_cases h:lent i
        · simp [h]
        · simp [h]
    have Dfc:∀ {j:Nat} {a:Option Addr} {o:Om},ρc[j]?=some (some (.ob a o))→∀ b∈fc j,b≠Dd∧qbg H1 B b=none∧Φ' b=none:=fun {j a o} h b hb=>by
      obtain ⟨z1,z2⟩:=Ec.no j a o h b hb
      have c:b≠Dd:=fun e=>by rw [e,qak] at z1;cases z1
      rw [qar c] at z1
      exact ⟨c,z1,z2⟩
    have adr:∀ {j i:Nat} {p:Addr} {o0 o:Om},ρ0[i]?=some (some (.ob (some p) o0))→ρc[j]?=some (some (.ob (some p) o))→σ[i]?=some (some (.ref p))∧OmS K Φ' H' o p (fc j):=fun {j i p o0 o} h1 h2=>by
      obtain ⟨q1,e1,a1,_⟩:=E.ow i _ o0 h1
      obtain ⟨q2,e2,a2,r⟩:=Ec.ow j _ o h2
      cases a1 p rfl
      cases a2 p rfl
      exact ⟨e1,r⟩
    have lnt:∀ {i:Nat},ρ0.length≤i→new i=none:=fun {i} c=>(hnone i).mpr fun hl=>by
      obtain ⟨_,p,o,ho⟩:=hl
      have:=qai ho
      omega
    have cs:∀ {i:Nat} {x:Sm},(ρ2++κ)[i]?=some (some x)→(i<ρ0.length∧ρ2[i]?=some (some x))∨(ρ0.length≤i∧(ρ0++κ)[i]?=some (some x)):=fun {i x} h=>by
      rcases Nat.lt_or_ge i ρ0.length with c | c
      · rw [List.getElem?_append_left (by omega)] at h
        exact .inl ⟨c,h⟩
      · rw [List.getElem?_append_right (by omega),hl2] at h
        exact .inr ⟨c,by rw [List.getElem?_append_right c];exact h⟩
    have E2:EnvM' K H0 Φ' H' (σ++τ) (ρ2++κ) (fpN new fp):=by
      refine Ex.lend S1.g.h (B:=B) (fun b hb=>?_) (fun i q hq b hb=>(hB b).mpr ⟨i,(Classical.byContradiction fun z=>by rw [(hnone i).mpr z] at hq;cases hq),hb⟩) gi (by rw [List.length_append,List.length_append,hl2]) (fun i d h=>?_) (fun i a o h=>?_) (fun i q hq=>?_) (fun i q hq b hb=>?_) fun i j q r hq hr c b hb hb2=>?_
      · obtain ⟨i,hl,hbi⟩:=(hB b).mp hb
        obtain ⟨_,p,o,ho⟩:=id hl
        cases e:new i with
        | none=>exact absurd hl ((hnone i).mp e)
        | some q=>exact ⟨i,_,o,q,e,up ho,hbi⟩
      · rcases cs h with ⟨_,h⟩ | ⟨_,h⟩
        · rcases h3 i _ h with ⟨_,_,_,_,_,_,_,z⟩ | ⟨z,_⟩
          · cases z
          · exact up z
        · exact h
      · rcases cs h with ⟨_,h⟩ | ⟨c,h⟩
        · rcases h3 i _ h with ⟨j,p,o0,o',z1,z2,z3,z4⟩ | ⟨z1,z2⟩
          · cases z4
            cases e:new i with
            | none=>exact absurd ⟨⟨j,z1⟩,p,o0,z2⟩ ((hnone i).mp e)
            | some q =>
              obtain ⟨j',p',o1,y1,y2,y3,y4⟩:=hnew i q e
              cases inj z1 y1
              rw [z3] at y3
              cases y3
              exact .inr ⟨o0,q.2,rfl,up z2⟩
          · refine .inl ⟨(hnone i).mpr fun hl=>?_,up z1⟩
            obtain ⟨⟨j,hj⟩,p,o0,ho⟩:=hl
            exact z2 j p o0 hj ho
        · exact .inl ⟨lnt c,h⟩
      · obtain ⟨j,p,o0,z1,z2,z3,z4⟩:=hnew i q hq
        obtain ⟨y1,y2⟩:=adr z2 z3
        exact ⟨p,ups y1,by rw [z4];exact y2⟩
      · obtain ⟨j,p,o0,z1,z2,z3,z4⟩:=hnew i q hq
        rw [z4] at hb
        exact (Dfc z3 b hb).2
      · obtain ⟨j1,p1,o1,z1,z2,z3,z4⟩:=hnew i q hq
        obtain ⟨j2,p2,o2,y1,y2,y3,y4⟩:=hnew j r hr
        rw [z4] at hb
        rw [y4] at hb2
        exact Ec.dj j1 j2 _ _ _ _ z3 y3 (fun e=>c (by rw [e,y1] at z1;cases z1;rfl)) b hb hb2
    have B0:∀ b∈B,H0 b=none:=fun b hb=>by
      obtain ⟨i,⟨_,p,o,ho⟩,hbi⟩:=(hB b).mp hb
      exact (E.no i _ o ho b hbi).1
    have g0:=S1.g.lend gi B0
    have E3:=E2.snocG (sm:=.own ys) (F:=[Dd]) (.o (fun q e=>by cases e) (.lst hDl hrl)) (fun b hb=>by rw [List.mem_singleton.mp hb];exact ⟨S1.g.h.free hD,hDi⟩) fun b hb i a o ho hbi=>by
      rw [List.mem_singleton.mp hb] at hbi
      unfold fpN at hbi
      cases e:new i with
      | some q =>
        rw [e] at hbi
        obtain ⟨j,p,o0,z1,z2,z3,z4⟩:=hnew i q e
        have hbi:Dd∈q.2:=hbi
        rw [z4] at hbi
        exact (Dfc z3 Dd hbi).1 rfl
      | none =>
        rw [e] at hbi
        have old:(ρ0++κ)[i]?=some (some (.ob a o)):=by
          rcases cs ho with ⟨_,ho⟩ | ⟨_,ho⟩
          · rcases h3 i _ ho with ⟨j,p,o0,o',z1,z2,_⟩ | ⟨z1,_⟩
            · exact absurd ⟨⟨j,z1⟩,p,o0,z2⟩ ((hnone i).mp e)
            · exact up z1
          · exact ho
        obtain ⟨_,_,_,r⟩:=Ex.ow i a o old
        obtain ⟨u,hu,_⟩:=r.at Dd hbi
        rw [hD] at hu
        cases hu
    rw [List.append_assoc,List.append_assoc] at E3
    exact k _ ρ2 Φ' H' _ hR ⟨g0,by rw [hl2];exact S1.l,E3,S1.x⟩ (f1.trans gi.f)
theorem qoY (hcalm:X.calm=true) (Sc:CompScope X.N X.env.scope scope N' cap) (hcap:(qbW cap).Nodup) (hi:PIM K X tg iter ti)
    (hg:∀ (cl:List (Str × Addr)) (fp:List Addr) (C:Addr) (s0:Shared) (H0:Hp),PGM K (qa7 X scope N' cl C s0 H0 fp) tg gd) (ht:∀ (cl:List (Str × Addr)) (fp:List Addr) (C:Addr) (s0:Shared) (H0:Hp),PIfM K (qa7 X scope N' cl C s0 H0 fp) ifs tc)
    (he:∀ (cl:List (Str × Addr)) (fp:List Addr) (C:Addr) (s0:Shared) (H0:Hp),PX K (qa7 X scope N' cl C s0 H0 fp) elt te) (hs:∀ x,foldedSetIterable iter X.env x=pure x:=by intro _;rfl):PX K X (.ListComp elt [⟨tg,iter,ifs,0⟩] scope pos) (qoe ti cap gd tc te) :=
  ⟨fun hK=>(qhm hcalm Sc (hi.pi hK) (fun cl fp C s0 H0=>(hg cl fp C s0 H0).pg hK) (fun cl fp C s0 H0 pins s σ H Q I h=>(ht cl fp C s0 H0).p hK pins s σ H Q I (lNb.m h)) (fun cl fp C s0 H0=>((he cl fp C s0 H0).pe hK).imp fun _ _ _ h=>lNm.m h) hs).imp fun σ H Q hq0=>by
    obtain ⟨Φ0,H0,Φ,τ,ρ,κ,R,Rx,S,t,k⟩:=hq0
    exact qis hcap S t k⟩
end
theorem qmz {qs:List Addr} (h:qs.length=0):qs=[]:=List.length_eq_zero_iff.mp h
theorem qoG {qs:List Addr} (h:qs.length=1):∃ a,qs=[a]:=by
  match qs,h with
  | [a],_=>exact ⟨a,rfl⟩
theorem qqj {qs:List Addr} (h:qs.length=2):∃ a b,qs=[a,b]:=by
  match qs,h with
  | [a,b],_=>exact ⟨a,b,rfl⟩
section
variable {K : PySem.W.Frag} {X : Cx} {e a b : Expr} {es : List Expr} {pos p : Pos} {ta tb te : TX} {tA : TXA}
theorem qn3 (ha:PX K X a ta) (hb:PX K X b tb) (hs:qhn b):PX K X (.Subscript a b pos) (xOp zIx ta tb) :=
  ⟨fun hK=>(qoo (qqa hK) (ha.pe hK) (hb.pe hK) hs).imp fun _ _ _=>qfM⟩
end
section
variable {κ : Type} [DecidableEq κ] {K : PySem.W.Frag} {Φ : Hp}
def qdU (kvs:List (κ × D)) (k:κ):Option D:=(kvs.find? fun kv=>decide (kv.1=k)).map (·.2)
def qiC (kvs:List (κ × D)) (k:κ) (d:D):List (κ × D):=if kvs.any (fun kv=>decide (kv.1=k)) then kvs.map (fun kv=>if kv.1=k then (kv.1,d) else kv) else kvs++[(k,d)]
theorem qcP:∀ {kvs:List (κ × D)} {ws:List (κ × V)},Paired (KvR K Φ) kvs ws→∀ k,(qdU kvs k=none∧qfY ws k=none)∨∃ d v,qdU kvs k=some d∧qfY ws k=some v∧Rp K Φ d v
  | _,_,.nil,k=>.inl ⟨rfl,rfl⟩
  | _,_,.cons (a:=x) (b:=y) (l₁:=l) r t,k=>by
    by_cases c:x.1=k
    · refine .inr ⟨x.2,y.2,?_,?_,r.2⟩
      · unfold qdU;rw [List.find?_cons_of_pos (by simpa using c)];rfl
      · exact qd2 (by rw [← r.1];exact c)
    · have e1:qdU (x::l) k=qdU l k:=by unfold qdU;rw [List.find?_cons_of_neg (by simpa using c)]
      rw [e1,qd1 (by rw [← r.1];exact c)]
      exact qcP t k
theorem qhv:∀ {kvs:List (κ × D)} {ws:List (κ × V)},Paired (KvR K Φ) kvs ws→∀ k,(ws.any fun kv=>decide (kv.1=k))=kvs.any fun kv=>decide (kv.1=k)
  | _,_,.nil,k=>rfl
  | _,_,.cons r t,k=>by rw [List.any_cons,List.any_cons,qhv t k,r.1]
theorem qeb {α β:Type} {F:α→β→Prop} {f:α→α} {g:β→β} (h:∀ x y,F x y→F (f x) (g y)):∀ {l:List α} {m:List β},Paired F l m→Paired F (l.map f) (m.map g)
  | _,_,.nil=>.nil
  | _,_,.cons r t=>.cons (h _ _ r) (qeb h t)
theorem qfC {kvs:List (κ × D)} {ws:List (κ × V)} (h:Paired (KvR K Φ) kvs ws) (k:κ) {d:D} {v:V} (r:Rp K Φ d v):Paired (KvR K Φ) (qiC kvs k d) (qfN ws k v):=by
  unfold qiC qfN
  rw [qhv h k]
  split
  · refine qeb (fun x y q=>?_) h
    rw [← q.1]
    split
    · exact ⟨rfl,r⟩
    · exact q
  · exact Paired.snoc h ⟨rfl,r⟩
theorem qc4 (kvs:List (κ × D)) (k:κ):(qdU kvs k).isSome=kvs.any fun kv=>decide (kv.1=k):=by
  unfold qdU
  induction kvs with
  | nil=>rfl
  | cons x r ih =>
    rw [List.any_cons]
    by_cases c:x.1=k
    · rw [List.find?_cons_of_pos (by simpa using c),decide_eq_true c];rfl
    · rw [List.find?_cons_of_neg (by simpa using c),decide_eq_false c,ih];rfl
theorem qkM {kvs:List (κ × D)} {k:κ} {d:D} (h:qdU kvs k=none):qiC kvs k d=kvs++[(k,d)]:=by
  have:=qc4 kvs k
  rw [h] at this
  unfold qiC
  rw [← this]
  rfl
theorem qdK {α β:Type} {F:α→β→Prop}:∀ {l:List α} {m:List β},Paired F l m→l.length=m.length:=Paired.length
end
section
variable {K : PySem.W.Frag} {X : Cx} {e a b ev : Expr} {tk tv : TD} {pos apos cpos npos spos : Pos} {x : Str} {i : Nat}
def qql (o:Om):TX:=fun ρ R _=>R (.ob none o) ρ
theorem qmU:PX K X (.Dict [] [] pos) (qql (.map [])):=⟨fun hK=>pe_dnewK.imp fun σ H Q hq0=>by
  obtain ⟨Φ0,H0,Φ,τ,ρ,κ,R,Rx,S,t,k⟩:=hq0
  intro p hp
  exact k _ ρ Φ _ _ t (S.pushO (Gr.fresh S.g.s hp _) (.map qak .nil) fun b hb=>by rw [List.mem_singleton.mp hb];exact ⟨hp,S.g.s.free hp⟩) (Same.refl _)⟩
theorem qlE:PX K X (.Dict [] [] pos) (qql (.mpT [])):=⟨fun hK=>pe_dnewT.imp fun σ H Q hq0=>by
  obtain ⟨Φ0,H0,Φ,τ,ρ,κ,R,Rx,S,t,k⟩:=hq0
  intro p hp
  exact k _ ρ Φ _ _ t (S.pushO (Gr.fresh S.g.s hp _) (.mpT qak .nil) fun b hb=>by rw [List.mem_singleton.mp hb];exact ⟨hp,S.g.s.free hp⟩) (Same.refl _)⟩
theorem EnvM.dict {Φ0 H0 Φ H:Hp} {σ:St} {ρ:qaE} {a:Option Addr} {kvs:List (Key × D)} (E:EnvM K H0 Φ H σ ρ) (g:Gr Φ0 H0 Φ H) (hi:ρ[i]?=some (some (.ob a (.map kvs)))):∃ q ws,σ[i]?=some (some (.ref q))∧H q=some (.dK ws)∧Paired (KvR K Φ) kvs ws ∧
    ∀ (kvs':List (Key × D)) (ws':List (Key × V)),Paired (KvR K Φ) kvs' ws'→EnvM K H0 Φ (upd H q (.dK ws')) σ (ρ.set i (some (.ob a (.map kvs'))))∧Gr Φ0 H0 Φ (upd H q (.dK ws')):=by
  obtain ⟨fp,E⟩:=E
  obtain ⟨q,e,_,r⟩:=E.ow i a _ hi
  have hq:=r.mem
  obtain ⟨_,ws,h1,h2⟩:=r.map_inv
  refine ⟨q,ws,e,h1,h2,fun kvs' ws' r'=>?_⟩
  have hH:∀ b u,H b=some u→b∉fp i→upd H q (.dK ws') b=some u:=fun b u e hn=>by
    rw [qar fun z=>hn (by rw [z];exact hq)]
    exact e
  exact ⟨⟨_,E.put hi e hH (F':=[q]) (.map qak r') fun b hb=>.inl (by rw [List.mem_singleton.mp hb];exact hq)⟩,E.grput g hi hH⟩
theorem EnvM.dictT {Φ0 H0 Φ H:Hp} {σ:St} {ρ:qaE} {a:Option Addr} {kvs:List (List Key × D)} (E:EnvM K H0 Φ H σ ρ) (g:Gr Φ0 H0 Φ H) (hi:ρ[i]?=some (some (.ob a (.mpT kvs)))):∃ q ws,σ[i]?=some (some (.ref q))∧H q=some (.dT ws)∧Paired (KvR K Φ) kvs ws ∧
    ∀ (kvs':List (List Key × D)) (ws':List (List Key × V)),Paired (KvR K Φ) kvs' ws'→EnvM K H0 Φ (upd H q (.dT ws')) σ (ρ.set i (some (.ob a (.mpT kvs'))))∧Gr Φ0 H0 Φ (upd H q (.dT ws')):=by
  obtain ⟨fp,E⟩:=E
  obtain ⟨q,e,_,r⟩:=E.ow i a _ hi
  have hq:=r.mem
  obtain ⟨_,ws,h1,h2⟩:=r.mpT_inv
  refine ⟨q,ws,e,h1,h2,fun kvs' ws' r'=>?_⟩
  have hH:∀ b u,H b=some u→b∉fp i→upd H q (.dT ws') b=some u:=fun b u e hn=>by
    rw [qar fun z=>hn (by rw [z];exact hq)]
    exact e
  exact ⟨⟨_,E.put hi e hH (F':=[q]) (.mpT qak r') fun b hb=>.inl (by rw [List.mem_singleton.mp hb];exact hq)⟩,E.grput g hi hH⟩
def ownD (ρ:qaE) (i:Nat) (k:Option Addr→List (Key × D)→Prop):Prop:=match ρ[i]? with | some (some (.ob a (.map kvs)))=>k a kvs | _=>False
theorem ownD.get {ρ:qaE} {i:Nat} {k:Option Addr→List (Key × D)→Prop} (h:ownD ρ i k):∃ a kvs,ρ[i]?=some (some (.ob a (.map kvs)))∧k a kvs:=by
  unfold ownD at h
  split at h
  · next a ds e=>exact ⟨a,ds,e,h⟩
  · exact h.elim
def ownT (ρ:qaE) (i:Nat) (k:Option Addr→List (List Key × D)→Prop):Prop:=match ρ[i]? with | some (some (.ob a (.mpT kvs)))=>k a kvs | _=>False
theorem ownT.get {ρ:qaE} {i:Nat} {k:Option Addr→List (List Key × D)→Prop} (h:ownT ρ i k):∃ a kvs,ρ[i]?=some (some (.ob a (.mpT kvs)))∧k a kvs:=by
  unfold ownT at h
  split at h
  · next a ds e=>exact ⟨a,ds,e,h⟩
  · exact h.elim
theorem qjR {Φ:Hp} {ks:List Key} {v:V} (r:Rp K Φ (.tup (ks.map qeJ)) v):∃ q,v=.ref q∧Φ q=some (.tup (ks.map kV)):=by
  cases r with
  | tup h1 h2 h3 =>
    cases qfw ⟨h2,h3⟩
    exact ⟨_,rfl,h1⟩
def qpW (neg:Bool) (i:Nat) (tk:TD):TXB:=fun ρ R _=>tk (prR ρ) fun d=>∃ k,d=qeJ k∧ownD ρ i fun _ kvs=>R (neg != (qdU kvs k).isSome) ρ
def qnO (neg:Bool) (i:Nat) (tk:TD):TXB:=fun ρ R _=>tk (prR ρ) fun d=>∃ ks:List Key,d=.tup (ks.map qeJ)∧ownT ρ i fun _ kvs=>R (neg != (qdU kvs ks).isSome) ρ
theorem qht {neg:Bool} {σ:St} {H:Hp} {Q:Bool→Hp→Prop} (h:lXb K X (qpW neg i tk) σ H Q):lE K tk σ H fun y H1=>qm5 i σ H1 fun x H2=>∃ a o,x=.ref a∧DGet H2 a y o∧Q (neg != o.isSome) H2:=by
  obtain ⟨Φ0,H0,Φ,τ,ρ,κ,R,Rx,S,t,k⟩:=h
  refine ⟨H0,Φ,prR ρ,_,S.env.toD,t,fun d Φ1 H1 v r g rv=>?_⟩
  obtain ⟨kk,rfl,r⟩:=r
  obtain ⟨a,kvs,ho,r⟩:=ownD.get r
  cases qdR rv
  have S1:=S.gr g
  obtain ⟨q,ws,e1,hq,rel,_⟩:=S1.env.dict S1.g ho
  refine ⟨_,e1,q,_,rfl,DGet.k hq,?_⟩
  have e:(qfY ws kk).isSome=(qdU kvs kk).isSome:=by
    rcases qcP rel kk with ⟨h1,h2⟩ | ⟨d,v,h1,h2,_⟩ <;> rw [h1,h2] <;> rfl
  rw [e]
  exact k _ ρ Φ1 H1 r S1 g.f
theorem qje {neg:Bool} {σ:St} {H:Hp} {Q:Bool→Hp→Prop} (h:lXb K X (qnO neg i tk) σ H Q):lE K tk σ H fun y H1=>qm5 i σ H1 fun x H2=>∃ a o,x=.ref a∧DGet H2 a y o∧Q (neg != o.isSome) H2:=by
  obtain ⟨Φ0,H0,Φ,τ,ρ,κ,R,Rx,S,t,k⟩:=h
  refine ⟨H0,Φ,prR ρ,_,S.env.toD,t,fun d Φ1 H1 v r g rv=>?_⟩
  obtain ⟨kk,rfl,r⟩:=r
  obtain ⟨a,kvs,ho,r⟩:=ownT.get r
  obtain ⟨p,rfl,hp⟩:=qjR rv
  have S1:=S.gr g
  obtain ⟨q,ws,e1,hq,rel,_⟩:=S1.env.dictT S1.g ho
  refine ⟨_,e1,q,_,rfl,DGet.t hq (g.s _ _ hp),?_⟩
  have e:(qfY ws kk).isSome=(qdU kvs kk).isSome:=by
    rcases qcP rel kk with ⟨h1,h2⟩ | ⟨d,v,h1,h2,_⟩ <;> rw [h1,h2] <;> rfl
  rw [e]
  exact k _ ρ Φ1 H1 r S1 g.f
theorem qbh (b:Bool):(false != b)=b:=by cases b <;> rfl
theorem qdx (b:Bool):(true != b)=!b:=by cases b <;> rfl
theorem qc5 {t:TD} {σ:St} {H:Hp} {Q Q':VK} (h:lE K t σ H Q) (hq:∀ v H',Q v H'→Q' v H'):lE K t σ H Q':=by
  obtain ⟨H0,Φ,ρ,R,E,t,k⟩:=h
  exact ⟨H0,Φ,ρ,R,E,t,fun d Φ' H' v r g rv=>hq _ _ (k d Φ' H' v r g rv)⟩
theorem qeu {j:Nat} {σ:St} {H:Hp} {Q Q':VK} (h:qm5 j σ H Q) (hq:∀ v H',Q v H'→Q' v H'):qm5 j σ H Q':=let ⟨v,e,q⟩:=h;⟨v,e,hq _ _ q⟩
theorem qlg (i:Nat) (hu:X.A.units+64<cLine) (he:PD K X e tk) (hN:X.N[i]?=some x:=by rfl) (hv:Vis X.env.scope x:=by first | exact Or.inl rfl | exact Or.inr (Or.inl rfl) | exact Or.inr (Or.inr rfl)) (hd:(x == ("__debug__":Str))=false:=by decide) (hcd:(x == ("__classdict__":Str))=false:=by decide)
    (hm:behindInMarks .In (.Name x npos)=false:=by rfl):PXB K X (.Compare e [.In] [.Name x npos] pos) (qpW false i tk) :=
  ⟨fun hK=>(qfU (qjr (by omega) (he.pe hK) (pv i hN hv hd hcd)) hm).imp fun σ H Q hq0=>qc5 (qht hq0) fun v H' q=>qeu q fun w H2 z=>by
    obtain ⟨a,o,e1,e2,e3⟩:=z
    rw [qbh] at e3
    exact ⟨a,o,e1,e2,_,rfl,e3⟩⟩
theorem qgo (i:Nat) (hu:X.A.units+64<cLine) (he:PD K X e tk) (hN:X.N[i]?=some x:=by rfl) (hv:Vis X.env.scope x:=by first | exact Or.inl rfl | exact Or.inr (Or.inl rfl) | exact Or.inr (Or.inr rfl)) (hd:(x == ("__debug__":Str))=false:=by decide) (hcd:(x == ("__classdict__":Str))=false:=by decide)
    (hm:behindInMarks .NotIn (.Name x npos)=false:=by rfl):PXB K X (.Compare e [.NotIn] [.Name x npos] pos) (qpW true i tk) :=
  ⟨fun hK=>(qfU (qgr (by omega) (he.pe hK) (pv i hN hv hd hcd)) hm).imp fun σ H Q hq0=>qc5 (qht hq0) fun v H' q=>qeu q fun w H2 z=>by
    obtain ⟨a,o,e1,e2,e3⟩:=z
    rw [qdx] at e3
    exact ⟨a,o,e1,e2,_,rfl,e3⟩⟩
theorem qmp (i:Nat) (hu:X.A.units+64<cLine) (he:PD K X e tk) (hN:X.N[i]?=some x:=by rfl) (hv:Vis X.env.scope x:=by first | exact Or.inl rfl | exact Or.inr (Or.inl rfl) | exact Or.inr (Or.inr rfl)) (hd:(x == ("__debug__":Str))=false:=by decide) (hcd:(x == ("__classdict__":Str))=false:=by decide)
    (hm:behindInMarks .In (.Name x npos)=false:=by rfl):PXB K X (.Compare e [.In] [.Name x npos] pos) (qnO false i tk) :=
  ⟨fun hK=>(qfU (qjr (by omega) (he.pe hK) (pv i hN hv hd hcd)) hm).imp fun σ H Q hq0=>qc5 (qje hq0) fun v H' q=>qeu q fun w H2 z=>by
    obtain ⟨a,o,e1,e2,e3⟩:=z
    rw [qbh] at e3
    exact ⟨a,o,e1,e2,_,rfl,e3⟩⟩
def qpk (i:Nat) (tk:TD):TX:=fun ρ R _=>ownD ρ i fun _ _=>tk (prR ρ) fun d=>∃ k,d=qeJ k∧ownD ρ i fun _ kvs=>∃ y,qdU kvs k=some y∧R (.v y) ρ
theorem qls (i:Nat) (hu:X.A.units+64<cLine) (he:PD K X e tk) (hs:qo0 e) (hN:X.N[i]?=some x:=by rfl) (hv:Vis X.env.scope x:=by first | exact Or.inl rfl | exact Or.inr (Or.inl rfl) | exact Or.inr (Or.inr rfl)) (hd:(x == ("__debug__":Str))=false:=by decide) (hcd:(x == ("__classdict__":Str))=false:=by decide) :
    PX K X (.Subscript (.Name x npos) e pos) (qpk i tk) :=
  ⟨fun hK=>(qiQ (by omega) (pv i hN hv hd hcd) (he.pe hK) hs).imp fun σ H Q hq0=>by
    obtain ⟨Φ0,H0,Φ,τ,ρ,κ,R,Rx,S,t,k⟩:=hq0
    obtain ⟨a,kvs,ho,t⟩:=ownD.get t
    obtain ⟨q,ws,e1,hq,rel,_⟩:=S.env.dict S.g ho
    refine ⟨_,e1,H0,Φ,prR ρ,_,S.env.toD,t,fun d Φ1 H1 v r g rv=>?_⟩
    obtain ⟨kk,rfl,r⟩:=r
    obtain ⟨a2,kvs2,ho2,y,hy,r⟩:=ownD.get r
    rw [ho] at ho2
    cases ho2
    cases qdR rv
    rcases qcP rel kk with ⟨h1,_⟩ | ⟨d,w,h1,h2,rd⟩
    · rw [hy] at h1;cases h1
    · rw [hy] at h1
      cases h1
      refine ⟨q,w,rfl,by rw [← h2];exact DGet.k (g.h _ _ hq),k _ ρ Φ1 H1 w r ((S.gr g).pushV (rd.same g.f)) g.f⟩⟩
def qpx (i:Nat) (tk:TD) (tv:TD):TSM:=fun De ρ=>tv (prR ρ) fun d=>tk (prR ρ) fun kd=>∃ k,kd=qeJ k∧ownD ρ i fun a kvs=>kvs.length<sizeLine∧NF (qiC kvs k d) fun kvs'=>De.nx (ρ.set i (some (.ob a (.map kvs'))))
theorem qjh (i:Nat) (hu:X.A.units+64<cLine) (hk:PD K X e tk) (he:PD K X ev tv) (hN:X.N[i]?=some x:=by rfl) (hv:Vis X.env.scope x:=by first | exact Or.inl rfl | exact Or.inr (Or.inl rfl) | exact Or.inr (Or.inr rfl)) (hd:(x == ("__debug__":Str))=false:=by decide) (hcd:(x == ("__classdict__":Str))=false:=by decide)
    (hs:swapsWith ev (some (.Subscript (.Name x npos) e spos)) pos.line X.env=pure false:=by rfl):PSM K X (.Assign [.Subscript (.Name x npos) e spos] ev pos) (fun De ρ=>(ownD ρ i fun _ _=>True)∧qpx i tk tv De ρ) :=
  ⟨fun hK=>(qgZ (by omega) (pv i hN hv hd hcd) (hk.pe hK) (he.pe hK) hs).imp fun E σ H hq0=>by
    obtain ⟨Φ0,H0,Φ,ρ,De,g,V,⟨ho,t⟩,k⟩:=hq0
    obtain ⟨a,kvs,ho,_⟩:=ownD.get ho
    refine ⟨H0,Φ,prR ρ,_,V.toD,t,fun d Φ1 H1 v r1 g1 rv=>?_⟩
    have V1:=V.gr g1
    obtain ⟨q,ws,e1,hq,rel,_⟩:=V1.dict (g.trans g1) ho
    refine ⟨_,e1,H0,Φ1,prR ρ,_,V1.toD,r1,fun kd Φ2 H2 w r2 g2 rw=>?_⟩
    obtain ⟨kk,rfl,r2⟩:=r2
    obtain ⟨a2,kvs2,ho2,hl,r2⟩:=ownD.get r2
    rw [ho] at ho2
    cases ho2
    cases qdR rw
    obtain ⟨q2,ws2,e2,hq2,rel2,k2⟩:=(V1.gr g2).dict ((g.trans g1).trans g2) ho
    rw [e1] at e2
    cases e2
    obtain ⟨z1,z2⟩:=k2 _ _ (qfC rel2 kk (rv.same g2.f))
    exact ⟨q,_,rfl,DPut.k hq2 (by rw [← qdK rel2];exact hl),k.nx _ Φ2 _ σ r2.get z2 z1⟩⟩
def qnT (i:Nat) (tk:TD) (tv:TD):TSM:=fun De ρ=>tv (prR ρ) fun d=>tk (prR ρ) fun kd=>∃ ks:List Key,kd=.tup (ks.map qeJ)∧ownT ρ i fun a kvs=>kvs.length<sizeLine∧NF (qiC kvs ks d) fun kvs'=>De.nx (ρ.set i (some (.ob a (.mpT kvs'))))
theorem qmT (i:Nat) (hu:X.A.units+64<cLine) (hk:PD K X e tk) (he:PD K X ev tv) (hN:X.N[i]?=some x:=by rfl) (hv:Vis X.env.scope x:=by first | exact Or.inl rfl | exact Or.inr (Or.inl rfl) | exact Or.inr (Or.inr rfl)) (hd:(x == ("__debug__":Str))=false:=by decide) (hcd:(x == ("__classdict__":Str))=false:=by decide)
    (hs:swapsWith ev (some (.Subscript (.Name x npos) e spos)) pos.line X.env=pure false:=by rfl):PSM K X (.Assign [.Subscript (.Name x npos) e spos] ev pos) (fun De ρ=>(ownT ρ i fun _ _=>True)∧qnT i tk tv De ρ) :=
  ⟨fun hK=>(qgZ (by omega) (pv i hN hv hd hcd) (hk.pe hK) (he.pe hK) hs).imp fun E σ H hq0=>by
    obtain ⟨Φ0,H0,Φ,ρ,De,g,V,⟨ho,t⟩,k⟩:=hq0
    obtain ⟨a,kvs,ho,_⟩:=ownT.get ho
    refine ⟨H0,Φ,prR ρ,_,V.toD,t,fun d Φ1 H1 v r1 g1 rv=>?_⟩
    have V1:=V.gr g1
    obtain ⟨q,ws,e1,hq,rel,_⟩:=V1.dictT (g.trans g1) ho
    refine ⟨_,e1,H0,Φ1,prR ρ,_,V1.toD,r1,fun kd Φ2 H2 w r2 g2 rw=>?_⟩
    obtain ⟨kk,rfl,r2⟩:=r2
    obtain ⟨a2,kvs2,ho2,hl,r2⟩:=ownT.get r2
    rw [ho] at ho2
    cases ho2
    obtain ⟨pk,rfl,hpk⟩:=qjR rw
    obtain ⟨q2,ws2,e2,hq2,rel2,k2⟩:=(V1.gr g2).dictT ((g.trans g1).trans g2) ho
    rw [e1] at e2
    cases e2
    obtain ⟨z1,z2⟩:=k2 _ _ (qfC rel2 kk (rv.same g2.f))
    exact ⟨q,_,rfl,DPut.t hq2 (g2.s _ _ hpk) (by rw [← qdK rel2];exact hl),k.nx _ Φ2 _ σ r2.get z2 z1⟩⟩
end
section
variable {K : PySem.W.Frag} {X : Cx}
def qoT (i j:Int):Prop:=0≤j∧∃ m:Nat,0<m∧i.natAbs<2 ^ m∧(m:Int)*j≤134217728
theorem qmo:OpR X (binaryOp .Pow) (rI qoT fun i j=>.int (i ^ j.toNat)):=opI fun i j _ _ _ _ _ hc q=>by
  obtain ⟨h0,m,hm,hi,hj⟩:=hc
  refine pow_int h0 ?_ q
  have h1:((PySem.Builtin.Int.intBits i:Nat):Int)≤(m:Int):=Int.ofNat_le.mpr (qiv hm hi)
  exact Int.le_trans (Int.mul_le_mul_of_nonneg_right h1 h0) hj
theorem qhJ:OpD K X (binaryOp .Pow) (zI qoT fun i j=>.int (i ^ j.toNat)):=qkt qmo
end
section
variable {K : PySem.W.Frag} {X : Cx} {e a b ev : Expr} {tk tv td : TD} {pos apos cpos npos spos : Pos} {x : Str} {i : Nat}
theorem qec {Φ:Hp}:∀ {kvs:List (Key × D)} {ws:List (Key × V)},ws.map (·.1)=kvs.map (·.1)→(∀ (i:Nat) (w:Key × V) (d:Key × D),ws[i]?=some w→kvs[i]?=some d→Rp K Φ d.2 w.2)→Paired (KvR K Φ) kvs ws
  | [],[],_,_=>.nil
  | [],_::_,h,_=>by cases h
  | _::_,[],h,_=>by cases h
  | k::kvs,w::ws,h,r=>by
    rw [List.map_cons,List.map_cons] at h
    injection h with h1 h2
    exact .cons ⟨h1.symm,r 0 w k rfl rfl⟩ (qec h2 fun i w d hw hd=>r (i+1) w d hw hd)
theorem Rp.map_inv {Φ:Hp} {kvs:List (Key × D)} {v:V} (h:Rp K Φ (.map kvs) v):∃ p ws,v=.ref p∧Φ p=some (.dK ws)∧Paired (KvR K Φ) kvs ws:=by
  cases h with
  | map h1 h2 h3=>exact ⟨_,_,rfl,h1,qec h2 h3⟩
def qpl (td tk:TD):TD:=fun ρ R=>td ρ fun d=>tk ρ fun kd=>match d with | .map kvs=>∃ k y,kd=qeJ k∧qdU kvs k=some y∧R y | _=>False
theorem qc1 (hu:X.A.units+64<cLine) (ha:PD K X a td) (he:PD K X e tk) (hs:qo0 e):PD K X (.Subscript a e pos) (qpl td tk) :=
  ⟨fun hK=>(qiQ (by omega) (ha.pe hK) (he.pe hK) hs).imp fun σ H Q hq0=>by
    obtain ⟨H0,Φ,ρ,R,E,t,k⟩:=hq0
    refine ⟨H0,Φ,ρ,_,E,t,fun d Φ1 H1 v r1 g1 rv=>⟨H0,Φ1,ρ,_,E.gr g1,r1,fun kd Φ2 H2 w r2 g2 rw=>?_⟩⟩
    cases d with
    | map kvs =>
      obtain ⟨kk,y,rfl,hy,r2⟩:=r2
      obtain ⟨p,ws,rfl,hp,rel⟩:=rv.map_inv
      cases qdR rw
      rcases qcP rel kk with ⟨h1,_⟩ | ⟨d,w,h1,h2,rd⟩
      · rw [hy] at h1;cases h1
      · rw [hy] at h1
        cases h1
        exact ⟨p,w,rfl,by rw [← h2];exact DGet.k (g2.s _ _ (g2.f _ _ hp)),k _ Φ2 H2 w r2 (g1.trans g2) (rd.same g2.f)⟩
    | _=>exact r2.elim⟩
def qpM (neg:Bool) (tk td:TD):TDB:=fun ρ R=>tk ρ fun kd=>td ρ fun d=>match d with | .map kvs=>∃ k,kd=qeJ k∧R (neg != (qdU kvs k).isSome) | _=>False
theorem qhw {neg:Bool} {σ:St} {H:Hp} {Q:Bool→Hp→Prop} (h:lT K (qpM neg tk td) σ H Q):lE K tk σ H fun y H1=>lE K td σ H1 fun x H2=>∃ a o,x=.ref a∧DGet H2 a y o∧Q (neg != o.isSome) H2:=by
  obtain ⟨H0,Φ,ρ,R,E,t,k⟩:=h
  refine ⟨H0,Φ,ρ,_,E,t,fun kd Φ1 H1 w r1 g1 rw=>⟨H0,Φ1,ρ,_,E.gr g1,r1,fun d Φ2 H2 v r2 g2 rv=>?_⟩⟩
  cases d with
  | map kvs =>
    obtain ⟨kk,rfl,r2⟩:=r2
    obtain ⟨p,ws,rfl,hp,rel⟩:=rv.map_inv
    cases qdR rw
    refine ⟨p,_,rfl,DGet.k (g2.s _ _ hp),?_⟩
    have e:(qfY ws kk).isSome=(qdU kvs kk).isSome:=by
      rcases qcP rel kk with ⟨h1,h2⟩ | ⟨d,v,h1,h2,_⟩ <;> rw [h1,h2] <;> rfl
    rw [e]
    exact k _ Φ2 H2 r2 (g1.trans g2)
  | _=>exact r2.elim
theorem qiJ (hu:X.A.units+64<cLine) (he:PD K X e tk) (ha:PD K X a td) (hm:behindInMarks .In a=false:=by rfl):PTD K X (.Compare e [.In] [a] pos) (qpM false tk td) :=
  ⟨fun hK=>(qfU (qjr (by omega) (he.pe hK) (ha.pe hK)) hm).imp fun σ H Q hq0=>qc5 (qhw hq0) fun v H' q=>qc5 q fun w H2 z=>by
    obtain ⟨a,o,e1,e2,e3⟩:=z
    rw [qbh] at e3
    exact ⟨a,o,e1,e2,_,rfl,e3⟩⟩
theorem qkf (hu:X.A.units+64<cLine) (he:PD K X e tk) (ha:PD K X a td) (hm:behindInMarks .NotIn a=false:=by rfl):PTD K X (.Compare e [.NotIn] [a] pos) (qpM true tk td) :=
  ⟨fun hK=>(qfU (qgr (by omega) (he.pe hK) (ha.pe hK)) hm).imp fun σ H Q hq0=>qc5 (qhw hq0) fun v H' q=>qc5 q fun w H2 z=>by
    obtain ⟨a,o,e1,e2,e3⟩:=z
    rw [qdx] at e3
    exact ⟨a,o,e1,e2,_,rfl,e3⟩⟩
theorem Gr.late {Φ H Φ2 H2:Hp} {p:Addr} {u o:HO} (s:Same Φ H) (hp:H p=none) (g:Gr Φ (upd H p u) Φ2 H2) (hn:Φ2 p=none):Gr Φ H Φ2 (upd H2 p o) :=
  ⟨g.f,fun b w e=>by
    have c:b≠p:=qat e hp
    rw [qar c]
    exact g.h b w (by rw [qar c];exact e),fun b w e=>by
    have c:b≠p:=qat e hn
    rw [qar c]
    exact g.s b w e,fun q w hq hqn k=>g.o q w (by rw [qar (qat hq hp)];exact hq) hqn k⟩
def qpZ (tk tv:TD):TD:=fun ρ R=>tk ρ fun kd=>tv ρ fun d=>∃ k,kd=qeJ k∧R (.map [(k,d)])
theorem qgm {σ:St} {H:Hp} {Q:V→Hp→Prop} {H0 Φ:Hp} {ρ:Rho} (E:EnvD K H0 Φ H σ ρ) (s:Same Φ H) {R:Key→D→Prop} (t:tk ρ fun kd=>tv ρ fun d=>∃ k,kd=qeJ k∧R k d)
    (q:∀ p Φ2 H2 k d v,R k d→H p=none→Φ2 p=none→Gr Φ H Φ2 (upd H2 p (.dK [(k,v)]))→Rp K Φ2 d v→Q (.ref p) (upd H2 p (.dK [(k,v)]))):qoc [(lE K tk,lE K tv)] σ H Q:=by
  intro p hp
  have g0:=Gr.fresh s hp (.dK [])
  refine ⟨H0,Φ,ρ,_,E.gr g0,t,fun kd Φ1 H1 w r1 g1 rw=>⟨H0,Φ1,ρ,_,(E.gr g0).gr g1,r1,fun d Φ2 H2 v r2 g2 rv=>?_⟩⟩
  obtain ⟨k,rfl,r2⟩:=r2
  cases qdR rw
  have g:=g1.trans g2
  have e:=g.h p _ qak
  have hn:Φ2 p=none:=g.o p _ qak (s.free hp) trivial
  exact ⟨e,[(k,v)],rfl,by show 1≤15;decide,q p Φ2 H2 k d v r2 hp hn (Gr.late s hp g hn) rv⟩
theorem qlV (hk:PD K X e tk) (hv:PD K X ev tv):PD K X (.Dict [some e] [ev] pos) (qpZ tk tv) :=
  ⟨fun hK=>(qjy (qh8 (hk.pe hK) (hv.pe hK) qjl) rfl rfl (List.cons_ne_nil _ _) (by show 1≤15;decide)).imp fun σ H Q hq0=>by
    obtain ⟨H0,Φ,ρ,R,E,t,k⟩:=hq0
    refine qgm E E.fz t fun p Φ2 H2 kk d v r hp hn g rv=>?_
    have g3:=g.freeze hp hn qak
    refine k _ _ _ _ r g3 (Rp.map_of qak (.cons ⟨rfl,rv.same (qaG hn _)⟩ .nil))⟩
def qpU (tk tv:TD):TX:=fun ρ R _=>tk (prR ρ) fun kd=>tv (prR ρ) fun d=>∃ k,kd=qeJ k∧R (.ob none (.map [(k,d)])) ρ
theorem qjk (hk:PD K X e tk) (hv:PD K X ev tv):PX K X (.Dict [some e] [ev] pos) (qpU tk tv) :=
  ⟨fun hK=>(qjy (qh8 (hk.pe hK) (hv.pe hK) qjl) rfl rfl (List.cons_ne_nil _ _) (by show 1≤15;decide)).imp fun σ H Q hq0=>by
    obtain ⟨Φ0,H0,Φ,τ,ρ,κ,R,Rx,S,t,k⟩:=hq0
    refine qgm (R:=fun k d=>R (.ob none (.map [(k,d)])) ρ) S.env.toD S.g.s t fun p Φ2 H2 kk d v r hp hn g rv=>?_
    exact k _ ρ Φ2 _ _ r (S.pushO g (.map qak (.cons ⟨rfl,rv⟩ .nil)) fun b hb=>by rw [List.mem_singleton.mp hb];exact ⟨hp,hn⟩) g.f⟩
theorem qfQ:qep X (.type "dict") (fun xs H Q=>∃ p ws,xs=[.ref p]∧H p=some (.dK ws)∧∀ l,H l=none→Q (.ref l) (upd H l (.dK ws))):=by
  intro pins s σ H xs us Q I r h
  obtain ⟨p,ws,rfl,hq,q⟩:=h
  obtain ⟨u,rfl,rx⟩:=qgT r
  cases rx
  obtain ⟨hl,hs,vs,kv,hd⟩:=ql5 I.hok hq
  have hlen:vs.length=ws.length:=(Paired.length kv).symm
  refine kt_call_dict hs hd (by omega) fun h' hd' sb=>?_
  have kp:∀ b o,s.heap.get? b=some o→h'.get? b=some o:=fun b o e=>by
    have c:b≠s.heap.objs.size:=fun z=>absurd (Heap.lt_size e) (by rw [z];exact Nat.lt_irrefl _)
    rw [sb.2 b c]
    exact Heap.get?_push_of_some _ e
  refine ⟨.ref s.heap.objs.size,_,I.laid (t':=s.toks) kp (Nat.le_refl _) (show ObjOk X.prog X.w _ h' _ (.dK ws) from ⟨hl,beq_eq_false_iff_ne.mpr (Ne.symm (Nat.ne_of_lt I.big)),vs,kv,hd'⟩),rfl,q _ (I.hok.fresh (Nat.le_refl _))⟩
def qpK (td:TD):TX:=fun ρ R _=>td (prR ρ) fun d=>match d with | .map kvs=>R (.ob none (.map kvs)) ρ | _=>False
theorem qnN (hg:Gl X "dict") (hm:X.mg "dict"=none) (ha:PD K X e td) (he:starEach [e] X.env=(false,eval e X.env)::starEach [] X.env):PX K X (.Call (.Name "dict" npos) [e] [] pos) (qpK td) :=
  ⟨fun hK=>(qfS qfQ hg hm boot_dict (qbM (ha.pe hK) pa_nil he) (by decide) (by decide) he qag).imp fun σ H Q hq0=>by
    obtain ⟨Φ0,H0,Φ,τ,ρ,κ,R,Rx,S,t,k⟩:=hq0
    refine ⟨H0,Φ,prR ρ,_,S.env.toD,t,fun d Φ1 H1 v r g rv=>?_⟩
    cases d with
    | map kvs =>
      obtain ⟨p,ws,rfl,hp,rel⟩:=rv.map_inv
      refine ⟨p,ws,rfl,g.s _ _ hp,fun l hl=>?_⟩
      have S1:=S.gr g
      exact k _ ρ Φ1 _ _ r (S1.pushO (Gr.fresh S1.g.s hl _) (.map qak rel) fun b hb=>by rw [List.mem_singleton.mp hb];exact ⟨hl,S1.g.s.free hl⟩) g.f
    | _=>exact r.elim⟩
def qqD (t:TX):TX:=fun ρ R Rx=>t ρ (fun s ρ1=>match s with | .ob none (.map kvs)=>R (.v (.map kvs)) ρ1 | _=>False) Rx
theorem qkX {α:Type} (l m:List α) (x y:α):(l++(m++[x])).set (l.length+m.length) y=l++(m++[y]):=by
  rw [List.set_append_right _ _ (by omega),Nat.add_sub_cancel_left,List.set_append_right _ _ (by omega),Nat.sub_self]
  rfl
theorem StM.fz1 {Φ0 H0 Φ H:Hp} {σ τ:St} {ρ κ:qaE} {Rx:XD→qaE→Prop} {v:V} {o:Om} {d0:D} (S:StM K X Φ0 H0 Φ H σ (τ++[some v]) ρ (κ++[some (.ob none o)]) Rx)
    (hr:∀ p F,OmS K Φ H o p F→∃ u,H p=some u∧∀ Φ',Same Φ Φ'→Φ' p=some u→Rp K Φ' d0 (.ref p)):∃ Φ',StM K X Φ0 H0 Φ' H σ (τ++[some v]) ρ (κ++[some (.v d0)]) Rx∧Same Φ Φ':=by
  have hat:(ρ++(κ++[some (Sm.ob none o)]))[ρ.length+κ.length]?=some (some (.ob none o)):=by rw [← List.append_assoc,List.getElem?_append_right (by rw [List.length_append];omega),List.length_append,Nat.sub_self];rfl
  obtain ⟨Φ',g,E,f⟩:=S.E.frz1f S.g hat hr
  rw [qkX] at E
  exact ⟨Φ',⟨g,S.l,E,S.x⟩,f⟩
theorem qn7 {t:TX} (h:PX K X e t):PX K X e (qqD t):=⟨fun hK=>(h.pe hK).imp fun σ H Q hq0=>by
  obtain ⟨Φ0,H0,Φ,τ,ρ,κ,R,Rx,S,t,k⟩:=hq0
  refine ⟨Φ0,H0,Φ,τ,ρ,κ,_,Rx,S,t,fun s1 ρ1 Φ1 H1 v r1 S1 f1=>?_⟩
  split at r1
  · next kvs =>
    obtain ⟨Φ2,S2,f2⟩:=S1.fz1 (d0:=.map kvs) fun p F r=>by
      obtain ⟨_,ws,h1,h2⟩:=r.map_inv
      exact ⟨_,h1,fun Φ' s h=>Rp.map_of h (qb6 (fun _ _ r=>⟨r.1,r.2.same s⟩) h2)⟩
    exact k _ ρ1 Φ2 H1 v r1 S2 (f1.trans f2)
  · exact r1.elim⟩
theorem StM.dict {Φ0 H0 Φ H:Hp} {σ τ:St} {ρ κ:qaE} {Rx:XD→qaE→Prop} {a:Option Addr} {kvs:List (Key × D)} (S:StM K X Φ0 H0 Φ H σ τ ρ κ Rx) (hi:ρ[i]?=some (some (.ob a (.map kvs)))):∃ q ws,σ[i]?=some (some (.ref q))∧H q=some (.dK ws)∧Paired (KvR K Φ) kvs ws ∧
    ∀ (kvs':List (Key × D)) (ws':List (Key × V)),Paired (KvR K Φ) kvs' ws'→StM K X Φ0 H0 Φ (upd H q (.dK ws')) σ τ (ρ.set i (some (.ob a (.map kvs')))) κ Rx:=by
  have hlt:=qai hi
  obtain ⟨q,ws,e,h1,h2,h3⟩:=S.E.dict (i:=i) (a:=a) (kvs:=kvs) S.g (by rw [List.getElem?_append_left hlt];exact hi)
  rw [List.getElem?_append_left (by rw [← S.l];exact hlt)] at e
  refine ⟨q,ws,e,h1,h2,fun kvs' ws' r=>?_⟩
  obtain ⟨z1,z2⟩:=h3 kvs' ws' r
  refine ⟨z2,by rw [List.length_set];exact S.l,?_,S.x⟩
  rw [List.set_append_left _ _ hlt] at z1
  exact z1
def qnE (i:Nat) (tk:TD) (te:TX):TSM:=fun De ρ=>te ρ (xV fun d ρ1=>(ownD ρ1 i fun _ _=>True)∧tk (prR ρ1) fun kd=>∃ k,kd=qeJ k∧ownD ρ1 i fun a kvs=>kvs.length<sizeLine∧NF (qiC kvs k d) fun kvs'=>De.nx (ρ1.set i (some (.ob a (.map kvs'))))) De.ex
theorem qlT {te:TX} (i:Nat) (hu:X.A.units+64<cLine) (hk:PD K X e tk) (he:PX K X ev te) (hN:X.N[i]?=some x:=by rfl) (hv:Vis X.env.scope x:=by first | exact Or.inl rfl | exact Or.inr (Or.inl rfl) | exact Or.inr (Or.inr rfl)) (hd:(x == ("__debug__":Str))=false:=by decide) (hcd:(x == ("__classdict__":Str))=false:=by decide)
    (hs:swapsWith ev (some (.Subscript (.Name x npos) e spos)) pos.line X.env=pure false:=by rfl):PSM K X (.Assign [.Subscript (.Name x npos) e spos] ev pos) (qnE i tk te) :=
  ⟨fun hK=>(qgZ (by omega) (pv i hN hv hd hcd) (hk.pe hK) (he.pe hK) hs).imp fun E σ H hq0=>by
    obtain ⟨Φ0,H0,Φ,ρ,De,g,V,t,k⟩:=hq0
    refine ⟨Φ0,H0,Φ,[],ρ,[],_,De.ex,st0 g V k.ex,t,fun s ρ1 Φ1 H1 v r S1 _=>?_⟩
    obtain ⟨d,rfl,ho,r⟩:=r.get
    obtain ⟨a1,kvs1,ho1,_⟩:=ownD.get ho
    obtain ⟨q,ws,e1,hq,rel,_⟩:=S1.dict ho1
    refine ⟨_,e1,H0,Φ1,prR ρ1,_,S1.env.toD,r,fun kd Φ2 H2 w r2 g2 rw=>?_⟩
    obtain ⟨kk,rfl,r2⟩:=r2
    obtain ⟨a2,kvs2,ho2,hl,r2⟩:=ownD.get r2
    rw [ho1] at ho2
    cases ho2
    cases qdR rw
    have S2:=S1.gr g2
    obtain ⟨q2,ws2,e2,hq2,rel2,k2⟩:=S2.dict ho1
    rw [e1] at e2
    cases e2
    have S3:=k2 _ _ (qfC rel2 kk S2.last)
    exact ⟨q,_,rfl,DPut.k hq2 (by rw [← qdK rel2];exact hl),k.nx _ Φ2 _ σ r2.get S3.g S3.env⟩⟩
def qnr (t:TDL):TDL:=fun ρ R=>t ρ fun ds=>match ds with | [d]=>∃ xs,qfc d=some xs∧R (qdW xs) | _=>False
theorem qhl {ets:List Expr} {ek:Nat} {tl:TDL} {tp p:Pos} (hg:Gl X "enumerate") (hm:X.mg "enumerate"=none) (ha:PAD K X [a] tl) (hs:starEach [a] X.env=[(false,eval a X.env)]:=by rfl):PID K X (.Tuple ets ek tp) (.Call (.Name "enumerate" p) [a] [] pos) (qnr tl) :=
  ⟨fun hK=>(qkQ hK hg hm (ha.pa hK) hs).imp fun σ H R' hq0=>by obtain ⟨H0,Φ,ρ,R,E,t,k⟩:=hq0;exact ⟨H0,Φ,ρ,_,E,t,fun ds Φ1 H1 vs r g rv _=>by
    match ds,r with
    | [d],⟨xs,hx,r⟩ =>
      obtain ⟨v,rfl,r1⟩:=rv.one_inv
      obtain ⟨q,a,ws,rfl,h1,h2⟩:=r1.seq hx
      exact ⟨q,a,ws,rfl,SqB.same g.s h1,k _ Φ1 H1 _ r g (qgh h1 h2)⟩⟩⟩
end
section
variable {g : TGD} {tc : TDB} {te : TD} {ρ : Rho} {R : List D → Prop}
theorem qiF {α:Type} (c:α→Bool) (h:α→D) (xs:List α):(xs.map fun x=>if c x=true then some (h x) else none).filterMap id=(xs.filter c).map h:=by
  induction xs with
  | nil=>rfl
  | cons x xs ih =>
    rw [List.map_cons,List.filter_cons]
    by_cases e:c x=true
    · rw [if_pos e,if_pos e,List.map_cons,← ih];rfl
    · rw [if_neg e,if_neg e,← ih];rfl
def qli {α:Type} (c:α→Bool) (h:α→D) (x:Option α) (y:Option D):Prop:=match x with | some x=>(match y with | some z=>c x=true∧z=h x | none=>c x=false) | none=>False
theorem qdj {α:Type} {f:α→D} {xs:List α} {c:α→Bool} {h:α→D} (hb:∀ x∈xs,g (f x) ρ fun ρ1=>tc ρ1 fun b=>(b=true→te ρ1 fun y=>c x=true∧y=h x)∧(b=false→c x=false)) :
    ∀ (i:Nat) (d:D),(xs.map f)[i]?=some d→g d ρ fun ρ1=>tc ρ1 fun b=>(b=true→te ρ1 fun y=>qli c h xs[i]? (some y))∧(b=false→qli c h xs[i]? none):=by
  intro i d hd
  rw [List.getElem?_map] at hd
  cases e:xs[i]? with
  | none=>rw [e] at hd;cases hd
  | some x =>
    rw [e] at hd
    cases hd
    exact hb x (List.mem_of_getElem? e)
theorem qeB {α:Type} {f:α→D} {xs:List α} {c:α→Bool} {h:α→D} {ys:List (Option D)} (hl:ys.length=(xs.map f).length) (hy:∀ (i:Nat) (y:Option D),ys[i]?=some y→qli c h xs[i]? y):ys.filterMap id=(xs.filter c).map h:=by
  rw [← qiF]
  have:ys=xs.map fun x=>if c x=true then some (h x) else none:=by
    refine List.ext_getElem? fun i=>?_
    rw [List.getElem?_map]
    cases e:ys[i]? with
    | some y =>
      have:=hy i y e
      cases e2:xs[i]? with
      | none=>rw [e2] at this;exact this.elim
      | some x =>
        rw [e2] at this
        cases y with
        | some z=>have z2:c x=true∧z=h x:=this;rw [Option.map_some,if_pos z2.1,z2.2]
        | none=>have z2:c x=false:=this;rw [Option.map_some,if_neg (by rw [z2];decide)]
    | none =>
      have:=List.getElem?_eq_none_iff.mp e
      rw [hl,List.length_map] at this
      rw [List.getElem?_eq_none this]
      rfl
  rw [this]
theorem qke {α:Type} (f:α→D) (xs:List α):qdW (xs.map f)=xs.zipIdx.map fun x=>D.tup [.int (x.2:Nat),f x.1]:=by
  refine List.ext_getElem? fun i=>?_
  unfold qdW
  rw [List.getElem?_map,List.getElem?_map,List.getElem?_zipIdx,List.getElem?_zipIdx,List.getElem?_map]
  cases xs[i]? <;> rfl
end
end L2
namespace PySem.SeqAt
open AutoSeq1 (wpAny_loadPart')
open MeetsSeq MeetsSeq2 MeetsSeq3 SeqRoads2
theorem qgG {M:Model} {A:Around} {E:Value→Shared→Prop} {s:Shared} {β:Type} (r:Std.Legacy.Range) (b:β) (f:Nat→β→Sem (ForInStep β)) (Q:β→Shared→Prop) (h:wpAny M A (forIn (List.range' r.start r.size r.step) b f) Q E s):wpAny M A (forIn r b f) Q E s:=by
  rw [Std.Legacy.Range.forIn_eq_forIn_range']
  exact h
theorem tuple_indexAtX (l:Addr) (items:Array Value) (n:Nat) (dd:Option Addr) (sl:Array (Option Value)) (x:Value) (e:Value→Bool) (j:Nat) (hj:j<items.size)
    (hit:e items[j]=true) (hno:∀ m (hm:m<items.size),m<j→e items[m]=false) :
    Meets (Builtin.«tuple.index» ⟨[.ref l,x],[]⟩)
      (fun A R s=>s.heap.get? l=some { cls:=.type "tuple",dict:=dd,data:=.seq items n,slots:=sl }∧(∀ y,y∈items→EqAt A.in1 s y x (e y))∧R (.ok (.ret (.int j s.toks))) { s with toks:=s.toks+1 }) :=
  .of_wp fun prog w A R s h=>by
    obtain ⟨hp,g,d,tk,os⟩:=s;obtain ⟨hl,he,h⟩:=h
    wp_walk using wpAny_loadPart' hl,qgG,wpAny_forIn_list _ (fun rest b s'=>b.1=none∧s'=⟨hp,g,d,tk,os⟩∧∃ i,i≤j∧rest=List.range' i (items.size - i) 1) _
    case turn =>
      rintro m rest b s' ⟨hb,rfl,i,hi,hrest⟩
      have hlt:i<items.size:=by omega
      rw [show items.size - i=(items.size - i - 1)+1 by omega,List.range'_succ] at hrest
      injection hrest with h1 h2
      subst h1
      have hm:items[m]?=some items[m]:=by simp [hlt]
      rw [hm]
      refine wpAny_bind (he _ (Array.getElem_mem hlt) prog w _ _ ?_)
      rcases Nat.lt_or_ge m j with c | c
      · rw [hno m hlt c]
        wp_walk
        exact ⟨rfl,rfl,m+1,c,by rw [h2];congr 1⟩
      · have:m=j:=by omega
        subst this
        rw [hit]
        wp_walk
        exact ⟨_,rfl,h⟩
    case fin =>
      rintro ⟨b1,b2⟩ s' ⟨hb,rfl,i,hi,hrest⟩
      exfalso
      have:=congrArg List.length hrest
      rw [List.length_range'] at this
      have:items.size - i=0:=by simpa using this.symm
      omega
    case h =>
      exact ⟨rfl,rfl,0,Nat.zero_le _,by simp [Std.Legacy.Range.size]⟩
end PySem.SeqAt
namespace L2
open PySem PySem.Spec PyProof.Rows
@[irreducible] def qd7 (x:D) (y:D) (R:D→Prop):Prop:=match x with
  | .tup ds=>ds.length≤1000∧∃ (bs:List Bool) (j:Nat),bs.length=ds.length∧(∀ (i:Nat) d b,ds[i]?=some d→bs[i]?=some b→cmB 39 d y=some b)∧bs[j]?=some true∧(∀ i,i<j→bs[i]?=some false)∧R (.int (j:Int))
  | _=>False
section
variable {K : PySem.W.Frag} {X : Cx} {a b : Expr} {ta tb : TD} {apos cpos : Pos}
open Classical in
theorem qjK (hK:X.K=K) (hu:X.A.units+64<cLine):MtR X "tuple.index" (fun x xs H Q=>∃ Φ dx dy R y,Same Φ H∧xs=[y]∧RpQ K Φ H dx x∧RpQ K Φ H dy y∧qd7 dx dy R∧∀ d Φ' H' v,R d→Gr Φ H Φ' H'→Rp K Φ' d v→Q v H'):=by
  intro pins s σ H x xs v us Q I rx rs ⟨Φ,dx,dy,R,y,sm,e,hx,hy,h,k⟩
  subst e
  obtain ⟨u,rfl,ru⟩:=qgT rs
  unfold qd7 at h
  cases dx with
  | tup ds =>
    obtain ⟨hl,bs,j,hbl,hb,hj,hno,r⟩:=h
    obtain ⟨a,vs,rfl,h1,_,h2⟩:=hx.tup sm
    cases rx
    obtain ⟨its,rv,⟨⟨oc,od,odt,os⟩,ho,hoc,n,hz⟩,_⟩:=I.tuple (hK ▸ h1)
    cases hoc
    cases hz
    have l1:=Vals.length rv
    have hjl:j<bs.length:=qai hj
    let e:Value→Bool:=fun z=>decide (∃ m:Nat,its[m]?=some z∧bs[m]?=some true)
    have at_:∀ (m:Nat) z,its[m]?=some z→∃ (w:V) (d:D) (b:Bool),RelV w z∧Rp K H d w∧ds[m]?=some d∧bs[m]?=some b∧cmB 39 d dy=some b:=fun m z hm=>by
      have i0:m<its.length:=qai hm
      have i1:m<vs.length:=by omega
      have i2:m<ds.length:=by rw [← h2.1];exact i1
      have i3:m<bs.length:=by omega
      obtain ⟨u',hu',r'⟩:=Vals.get (i:=m) (x:=vs[m]) rv (qao i1)
      rw [hm] at hu'
      cases hu'
      exact ⟨vs[m],ds[m],bs[m],r',(h2.2 m _ _ (qao i1) (qao i2)).same sm,qao i2,qao i3,hb m _ _ (qao i2) (qao i3)⟩
    have det:∀ (m m':Nat) z b b',its[m]?=some z→its[m']?=some z→bs[m]?=some b→bs[m']?=some b'→b=b':=fun m m' z b b' hm hm' q q'=>by
      obtain ⟨w,d,c,r1,p1,_,q1,c1⟩:=at_ m z hm
      obtain ⟨w',d',c',r1',p1',_,q1',c1'⟩:=at_ m' z hm'
      rw [q] at q1
      rw [q'] at q1'
      cases q1
      cases q1'
      have:=r1.inj r1'
      subst this
      exact qnA hK I (Same.refl H) 39 p1 p1' c1 c1'
    have eval_e:∀ (m:Nat) z b,its[m]?=some z→bs[m]?=some b→e z=b:=fun m z b hm q=>by
      show decide (∃ m:Nat,its[m]?=some z∧bs[m]?=some true)=b
      cases b with
      | true=>exact decide_eq_true ⟨m,hm,q⟩
      | false=>exact decide_eq_false fun ⟨m',h1,h2⟩=>by cases det m m' z _ _ hm h1 q h2
    have hj0:j<its.length:=by have:=h2.1;omega
    refine call_meets PySem.F.slot_tuple_index ⟨_,ho,rfl⟩ PySem.F.entry_tuple_index (PySem.F.args_tuple_index_2 _ _)
      (PySem.SeqAt.tuple_indexAtX a its.toArray n od os u e j (by simpa using hj0) ?_ ?_) ⟨ho,fun z hz=>?_,?_⟩
    · simp only [List.getElem_toArray]
      exact eval_e j _ true (qao hj0) hj
    · intro m hm hlt
      simp only [List.size_toArray] at hm
      simp only [List.getElem_toArray]
      exact eval_e m _ false (qao hm) (hno m hlt)
    · have hz':z∈its:=by simpa using hz
      obtain ⟨m,hm⟩:=List.getElem?_of_mem hz'
      obtain ⟨w,d,b,r1,p1,q1,q2,q3⟩:=at_ m z hm
      rw [eval_e m z b hm q2]
      exact (qj1 hK I (Same.refl H) 39 q3 p1 (hy.any sm) X.A.in1 z u (by show X.A.units+1+39<cLine;omega) r1 ru).1
    · exact ⟨.int j,H,I.tok _,⟨_,rfl⟩,k _ Φ H _ r (.refl sm) (.int _)⟩
  | _=>exact h.elim
def qmq (ta tb:TD):TD:=fun ρ R=>ta ρ fun x=>(match x with | .tup _=>True | _=>False)∧tb ρ fun y=>qd7 x y R
theorem qd5 (hu:X.A.units+64<cLine) (ha:PQ K X a ta) (hb:PD K X b tb) (hbase:attributeBase a "index" X.env (eval a X.env)=eval a X.env:=by rfl) (hfew:((backTo cpos (starEach [b] X.env)).all (fun x=>!x.1) && (backToKw cpos (keywordEach [] X.env)).all (fun x=>x.1.isSome) && decide (([b]:List Expr).length+([]:List Keyword).length+(if ([]:List Keyword).isEmpty then 0 else 1)<30))=true)
    (hse:starEach [b] X.env=(false,eval b X.env)::starEach [] X.env) (hline:(apos.endLine == cpos.line)=true:=by rfl):PD K X (.Call (.Attribute a "index" apos) [b] [] cpos) (qmq ta tb) :=
  ⟨fun hK=>(qmj PySem.F.plainAttrs_tuple PySem.F.slot_tuple_index PySem.F.type_tuple_index (qjK hK hu) (ha.pe hK) (qbM (hb.pe hK) pa_nil hse) hbase hfew hline hse qag).imp fun σ H Q hq0=>by obtain ⟨H0,Φ,ρ,R,E,t,k⟩:=hq0;exact ⟨H0,Φ,ρ,_,E,t,fun dx Φ1 H1 x t1 g1 rx=>by
    cases dx with
    | tup ds =>
      obtain ⟨a,vs,rfl,_,q1,q2⟩:=rx.tup g1.s
      refine ⟨.inr (.inl ⟨rfl,.inl ⟨vs,g1.s _ _ q1⟩⟩),H0,Φ1,ρ,_,E.gr g1,t1.2,fun dy Φ2 H2 y t2 g2 ry=>⟨Φ2,.tup ds,dy,R,y,g2.s,rfl,rx.gr g2,.inl ry,t2,fun d Φ' H' v r g rr=>k d Φ' H' v r ((g1.trans g2).trans g) rr⟩⟩
    | _=>exact t1.1.elim⟩⟩
end
end L2
namespace L2
open PySem PySem.Spec PyProof.Rows
section
variable {K : PySem.W.Frag} {X : Cx} {e e2 : Expr} {te te2 : TX} {pos apos cpos npos : Pos} {x : Str} {i : Nat}
def qlS (i:Nat) (te te2:TX):TSM:=fun De ρ=>ownL ρ i fun _ _=>te ρ (xV fun d ρ1=>match d with | .int n=>te2 ρ1 (xV fun d2 ρ2=>ownL ρ2 i fun a ds=>∃ k:Nat,n=(k:Int)∧k≤ds.length∧ds.length<sizeLine∧NF (ds.take k++d2::ds.drop k) fun es=>De.nx (ρ2.set i (some (.ob a (.lst es))))) De.ex | _=>False) De.ex
theorem qkl (i:Nat) (he:PX K X e te) (he2:PX K X e2 te2)
    (hfew:((backTo cpos (starEach [e,e2] X.env)).all (fun x=>!x.1) && (backToKw cpos (keywordEach [] X.env)).all (fun x=>x.1.isSome) && decide (([e,e2]:List Expr).length+([]:List Keyword).length+(if ([]:List Keyword).isEmpty then 0 else 1)<30))=true)
    (hse:starEach [e,e2] X.env=(false,eval e X.env)::starEach [e2] X.env) (hse2:starEach [e2] X.env=(false,eval e2 X.env)::starEach [] X.env) (hpl:(backTo cpos (starEach [e2] X.env)).any (·.1)=false)
    (hN:X.N[i]?=some x:=by rfl) (hv:Vis X.env.scope x:=by first | exact Or.inl rfl | exact Or.inr (Or.inl rfl) | exact Or.inr (Or.inr rfl)) (hd:(x == ("__debug__":Str))=false:=by decide) (hcd:(x == ("__classdict__":Str))=false:=by decide)
    (hbase:attributeBase (.Name x npos) "insert" X.env (eval (.Name x npos) X.env)=eval (.Name x npos) X.env:=by rfl) (hline:(apos.endLine == cpos.line)=true:=by rfl) (hs:swapsWith (.Call (.Attribute (.Name x npos) "insert" apos) [e,e2] [] cpos) none pos.line X.env=pure false:=by rfl) :
    PSM K X (.Expr (.Call (.Attribute (.Name x npos) "insert" apos) [e,e2] [] cpos) pos) (qlS i te te2) :=
  ⟨fun hK=>(qfu (qmj PySem.F.plainAttrs_list PySem.F.slot_list_insert PySem.F.type_list_insert qjj (pv i hN hv hd hcd) (qbM (he.pe hK) (qbM (he2.pe hK) pa_nil hse2) hse) hbase hfew hline hse hpl) hs).imp fun E σ H hq0=>by
    obtain ⟨Φ0,H0,Φ,ρ,De,g,V,t,k⟩:=hq0
    obtain ⟨a,ds,ho,t⟩:=ownL.get t
    have S:=st0 g V k.ex
    obtain ⟨q,vs,e1,hp,rl,_⟩:=S.list ho
    refine ⟨_,e1,.inl ⟨rfl,vs,SqL.of hp⟩,Φ0,H0,Φ,[],ρ,[],_,De.ex,S,t,fun s ρ1 Φ1 H1 v r S1 _=>?_⟩
    obtain ⟨d,rfl,r⟩:=r.get
    cases d with
    | int n =>
      refine ⟨Φ0,H0,Φ1,_,ρ1,_,_,De.ex,S1,r,fun s2 ρ2 Φ2 H2 w r2 S2 _=>?_⟩
      obtain ⟨d2,rfl,r2⟩:=r2.get
      obtain ⟨rd,rk⟩:=S2.last2
      cases rd
      obtain ⟨a2,ds2,ho2,j,rfl,hj,hl,r2⟩:=ownL.get r2
      obtain ⟨q2,vs2,e2',hp2,rl2,k2⟩:=S2.list ho2
      rw [e1] at e2'
      cases e2'
      have S3:=k2 _ _ ((rl2.take j).append (.cons rk (rl2.drop j)))
      exact ⟨q,vs2,_,j,w,rfl,rfl,rfl,hp2,by rw [rl2.1];exact hj,by rw [rl2.1];exact hl,k.nx _ Φ2 _ σ r2.get S3.g S3.env⟩
    | _=>exact r.elim⟩
end
end L2
namespace Wl
section
variable {κ β : Type} [DecidableEq κ]
def qam (l:List (κ × β)) (k:κ):Option β:=(l.find? fun kv=>decide (kv.1=k)).map (·.2)
def qcu (l:List (κ × β)) (k:κ) (v:β):List (κ × β):=if l.any (fun kv=>decide (kv.1=k)) then l.map (fun kv=>if kv.1=k then (kv.1,v) else kv) else l++[(k,v)]
theorem qd6 (k:κ):qam ([]:List (κ × β)) k=none:=rfl
theorem qaA (x:κ × β) (l:List (κ × β)) (k:κ):qam (x::l) k=if x.1=k then some x.2 else qam l k:=by
  unfold qam
  by_cases c:x.1=k
  · rw [List.find?_cons_of_pos (by simpa using c),if_pos c];rfl
  · rw [List.find?_cons_of_neg (by simpa using c),if_neg c]
theorem qnh (l:List (κ × β)) (k:κ):l.any (fun kv=>decide (kv.1=k))=(qam l k).isSome:=by
  induction l with
  | nil=>rfl
  | cons x l ih =>
    rw [List.any_cons,qaA,ih]
    by_cases c:x.1=k
    · rw [if_pos c,decide_eq_true c];rfl
    · rw [if_neg c,decide_eq_false c];rfl
theorem qfp {l:List (κ × β)} {k:κ} {v:β} (h:qam l k=none):qcu l k v=l++[(k,v)]:=by
  unfold qcu
  rw [qnh,h]
  rfl
theorem qlb (l m:List (κ × β)) (k:κ):qam (l++m) k=match qam l k with | some v=>some v | none=>qam m k:=by
  induction l with
  | nil=>rfl
  | cons x l ih =>
    rw [List.cons_append,qaA,qaA,ih]
    by_cases c:x.1=k
    · rw [if_pos c,if_pos c]
    · rw [if_neg c,if_neg c]
theorem qjw (l:List (κ × β)) (k j:κ) (v:β):qam (l.map (fun kv=>if kv.1=k then (kv.1,v) else kv)) j=if j=k then (qam l k).map (fun _=>v) else qam l j:=by
  induction l with
  | nil=>rw [List.map_nil,qd6,qd6];by_cases c:j=k <;> simp [c,qd6]
  | cons x l ih =>
    rw [List.map_cons,qaA,qaA,qaA,ih]
    by_cases c:x.1=k
    · simp only [if_pos c]
      by_cases d:j=k
      · rw [if_pos d,if_pos (c.trans d.symm)];rw [if_pos d];rfl
      · have e:¬ x.1=j:=fun e=>d (e.symm.trans c)
        rw [if_neg e,if_neg d,if_neg d,if_neg e]
    · simp only [if_neg c]
      by_cases d:j=k
      · rw [if_pos d,if_pos d,if_neg (fun e=>c (e.trans d))]
      · rw [if_neg d,if_neg d]
theorem qa0 (l:List (κ × β)) (k j:κ) (v:β):qam (qcu l k v) j=if j=k then some v else qam l j:=by
  unfold qcu
  rw [qnh]
  cases h:qam l k with
  | some y =>
    rw [if_pos (show (some y).isSome=true from rfl),qjw,h]
    rfl
  | none =>
    rw [if_neg (by simp),qlb]
    by_cases c:j=k
    · rw [if_pos c,c,h]
      show qam [(k,v)] k=some v
      rw [qaA,if_pos rfl]
    · rw [if_neg c]
      cases qam l j with
      | some y=>rfl
      | none=>show qam [(k,v)] j=none;rw [qaA,if_neg (fun e=>c e.symm),qd6]
end
section
variable {α : Type} [DecidableEq α]
abbrev Rds (α:Type):=List (α × α × Int)
inductive Rch (rs:Rds α) (a:α):α→Prop where
  | refl:Rch rs a a
  | step {b:α} {r:α × α × Int}:Rch rs a b→r∈rs→r.1=b→Rch rs a r.2.1
theorem Rch.trans {rs:Rds α} {a b c:α} (h:Rch rs a b) (h2:Rch rs b c):Rch rs a c:=by
  induction h2 with
  | refl=>exact h
  | step _ hr e ih=>exact .step ih hr e
theorem Rch.one {rs:Rds α} {r:α × α × Int} (h:r∈rs):Rch rs r.1 r.2.1:=.step .refl h rfl
def qaj (rs:Rds α):α→List Nat→Option α
  | a,[]=>some a
  | a,n::l=>match rs[n]? with
    | some r=>if r.1=a then qaj rs r.2.1 l else none
    | none=>none
theorem qd0 (rs:Rds α):∀ (l m:List Nat) (a:α),qaj rs a (l++m)=(qaj rs a l).bind fun b=>qaj rs b m
  | [],m,a=>rfl
  | n::l,m,a=>by
    rw [List.cons_append]
    show (match rs[n]? with | some r=>if r.1=a then qaj rs r.2.1 (l++m) else none | none=>none)=Option.bind (match rs[n]? with | some r=>if r.1=a then qaj rs r.2.1 l else none | none=>none) _
    cases rs[n]? with
    | none=>rfl
    | some r =>
      show (if r.1=a then qaj rs r.2.1 (l++m) else none)=Option.bind (if r.1=a then qaj rs r.2.1 l else none) _
      by_cases c:r.1=a
      · rw [if_pos c,if_pos c,qd0 rs l m]
      · rw [if_neg c,if_neg c];rfl
theorem qki {rs:Rds α} {n:Nat} {r:α × α × Int} (h:rs[n]?=some r):qaj rs r.1 [n]=some r.2.1:=by
  show (match rs[n]? with | some r'=>if r'.1=r.1 then qaj rs r'.2.1 [] else none | none=>none)=_
  rw [h]
  show (if r.1=r.1 then qaj rs r.2.1 [] else none)=_
  rw [if_pos rfl]
  rfl
theorem qdr {rs:Rds α} {a:α} {l:List Nat} {n:Nat} {r:α × α × Int} (h:qaj rs a l=some r.1) (hn:rs[n]?=some r):qaj rs a (l++[n])=some r.2.1:=by
  rw [qd0,h]
  exact qki hn
theorem qbJ {rs:Rds α}:∀ {l:List Nat} {a b:α},qaj rs a l=some b→Rch rs a b
  | [],a,b,h=>by cases h;exact .refl
  | n::l,a,b,h=>by
    have h':(match rs[n]? with | some r=>if r.1=a then qaj rs r.2.1 l else none | none=>none)=some b:=h
    cases e:rs[n]? with
    | none=>rw [e] at h';cases h'
    | some r =>
      rw [e] at h'
      have h2:(if r.1=a then qaj rs r.2.1 l else none)=some b:=h'
      by_cases c:r.1=a
      · rw [if_pos c] at h2
        have:=Rch.one (List.mem_of_getElem? e)
        rw [c] at this
        exact this.trans (qbJ h2)
      · rw [if_neg c] at h2;cases h2
def qaT (p:α) (s:List (α × List Nat) × List α) (x:(α × α × Int) × Nat):List (α × List Nat) × List α :=
  if x.1.1=p∧qam s.1 x.1.2.1=none then (qcu s.1 x.1.2.1 ((qam s.1 p).getD []++[x.2]),s.2++[x.1.2.1]) else s
def qdS (rs:Rds α) (p:α) (s:List (α × List Nat) × List α):List (α × List Nat) × List α:=rs.zipIdx.foldl (qaT p) s
def qcR (rs:Rds α):Nat→List (α × List Nat) × List α→List (α × List Nat)
  | 0,s=>s.1
  | n+1,s=>match s.2.getLast? with
    | none=>s.1
    | some p=>qcR rs n (qdS rs p (s.1,s.2.dropLast))
def qaL (rs:Rds α) (a:α):List (α × List Nat):=qcR rs (rs.length+1) ([(a,[])],[a])
def qb3 (rs:Rds α) (W:List (α × List Nat)):Nat:=(rs.filter fun r=>(qam W r.2.1).isNone).length
structure Wv (rs:Rds α) (a:α) (s:List (α × List Nat) × List α):Prop where
  s0:qam s.1 a≠none
  w:∀ p l,qam s.1 p=some l→qaj rs a l=some p
  q:∀ p∈s.2,qam s.1 p≠none
theorem qfi {γ:Type} {p q:γ→Bool} {l:List γ} (h:∀ x∈l,q x=true→p x=true):(l.filter q).length≤(l.filter p).length:=by
  induction l with
  | nil=>exact Nat.le_refl _
  | cons x l ih =>
    have ih:=ih fun y hy=>h y (List.mem_cons_of_mem _ hy)
    have hx:=h x List.mem_cons_self
    rw [List.filter_cons,List.filter_cons]
    cases hq:q x with
    | true=>rw [if_pos rfl,if_pos (hx hq),List.length_cons,List.length_cons];omega
    | false =>
      rw [if_neg (by simp)]
      split
      · rw [List.length_cons];omega
      · exact ih
theorem qci {γ:Type} {p q:γ→Bool} {l:List γ} (h:∀ x∈l,q x=true→p x=true) {y:γ} (hy:y∈l) (hp:p y=true) (hq:q y=false):(l.filter q).length+1≤(l.filter p).length:=by
  induction l with
  | nil=>cases hy
  | cons x l ih =>
    have hx:=h x List.mem_cons_self
    rw [List.filter_cons,List.filter_cons]
    rcases List.mem_cons.mp hy with rfl | hy
    · rw [hq,hp,if_neg (by simp),if_pos rfl,List.length_cons]
      exact Nat.succ_le_succ (qfi fun z hz=>h z (List.mem_cons_of_mem _ hz))
    · have ih:=ih (fun z hz=>h z (List.mem_cons_of_mem _ hz)) hy
      cases hq:q x with
      | true=>rw [if_pos rfl,if_pos (hx hq),List.length_cons,List.length_cons];omega
      | false =>
        rw [if_neg (by simp)]
        split
        · rw [List.length_cons];omega
        · exact ih
theorem qdG {p x:α} {l:List Nat} {s:List (α × List Nat) × List α} {y:(α × α × Int) × Nat} (h:qam s.1 x=some l):qam (qaT p s y).1 x=some l:=by
  unfold qaT
  split
  · next c =>
    rw [qa0]
    split
    · next e=>rw [← e,h] at c;cases c.2
    · exact h
  · exact h
theorem qcE {rs:Rds α} {a p:α}:∀ (l:List ((α × α × Int) × Nat)) (s:List (α × List Nat) × List α),(∀ x∈l,rs[x.2]?=some x.1)→Wv rs a s→qam s.1 p≠none →
    Wv rs a (l.foldl (qaT p) s)∧(∀ x w,qam s.1 x=some w→qam (l.foldl (qaT p) s).1 x=some w)∧(∀ x∈l,x.1.1=p→qam (l.foldl (qaT p) s).1 x.1.2.1≠none) ∧
    (∀ x,qam (l.foldl (qaT p) s).1 x≠none→qam s.1 x=none→x∈(l.foldl (qaT p) s).2)∧(∀ x∈s.2,x∈(l.foldl (qaT p) s).2)∧(l.foldl (qaT p) s).2.length+qb3 rs (l.foldl (qaT p) s).1≤s.2.length+qb3 rs s.1
  | [],s,_,h,hp=>⟨h,fun _ _ h=>h,fun _ hx=>(by cases hx),fun x h1 h2=>absurd h2 h1,fun _ h=>h,Nat.le_refl _⟩
  | y::l,s,hl,h,hp=>by
    have hy:=hl y List.mem_cons_self
    have hmem:=List.mem_of_getElem? hy
    obtain ⟨W,q⟩:=s
    rw [List.foldl_cons]
    have key:Wv rs a (qaT p (W,q) y)∧(y.1.1=p→qam (qaT p (W,q) y).1 y.1.2.1≠none)∧(∀ x,qam (qaT p (W,q) y).1 x≠none→qam W x=none→x∈(qaT p (W,q) y).2)∧(∀ x∈q,x∈(qaT p (W,q) y).2)∧(qaT p (W,q) y).2.length+qb3 rs (qaT p (W,q) y).1≤q.length+qb3 rs W:=by
      unfold qaT
      split
      · next c =>
        have c1:y.1.1=p:=c.1
        have c2:qam W y.1.2.1=none:=c.2
        refine ⟨⟨?_,?_,?_⟩,?_,?_,?_,?_⟩
        · show qam (qcu W _ _) a≠none
          rw [qa0];split
          · simp
          · exact h.s0
        · intro x w hw
          have hw:qam (qcu W y.1.2.1 ((qam W p).getD []++[y.2])) x=some w:=hw
          rw [qa0] at hw
          by_cases e:x=y.1.2.1
          · rw [if_pos e] at hw
            cases hw
            cases hg:qam W p with
            | none=>exact absurd hg hp
            | some wp =>
              have:=h.w p wp hg
              rw [e]
              exact qdr (by rw [c1];exact this) hy
          · rw [if_neg e] at hw;exact h.w x w hw
        · intro x hx
          show qam (qcu W _ _) x≠none
          rw [qa0]
          split
          · simp
          · next e =>
            rcases List.mem_append.mp hx with hx | hx
            · exact h.q x hx
            · exact absurd (List.mem_singleton.mp hx) e
        · intro _
          show qam (qcu W _ _) y.1.2.1≠none
          rw [qa0,if_pos rfl];simp
        · intro x h1 h2
          have h1:qam (qcu W y.1.2.1 ((qam W p).getD []++[y.2])) x≠none:=h1
          rw [qa0] at h1
          by_cases e:x=y.1.2.1
          · rw [e];exact List.mem_append_right _ (List.mem_singleton.mpr rfl)
          · rw [if_neg e] at h1;exact absurd h2 h1
        · intro x hx;exact List.mem_append_left _ hx
        · show (q++[y.1.2.1]).length+qb3 rs (qcu W y.1.2.1 ((qam W p).getD []++[y.2]))≤_
          have:qb3 rs (qcu W y.1.2.1 ((qam W p).getD []++[y.2]))+1≤qb3 rs W:=by
            unfold qb3
            refine qci (y:=y.1) (fun x _ hq=>?_) hmem ?_ ?_
            · rw [qa0] at hq
              by_cases e:x.2.1=y.1.2.1
              · rw [if_pos e] at hq;cases hq
              · rw [if_neg e] at hq;exact hq
            · rw [c2];rfl
            · rw [qa0,if_pos rfl];rfl
          rw [List.length_append]
          show q.length+1+_≤_
          omega
      · next c =>
        refine ⟨h,fun e=>?_,fun x h1 h2=>absurd h2 h1,fun _ hx=>hx,Nat.le_refl _⟩
        intro hn
        exact c ⟨e,hn⟩
    obtain ⟨k1,k2,k3,k4,k5⟩:=key
    have hp':qam (qaT p (W,q) y).1 p≠none:=by
      cases hg:qam W p with
      | none=>exact absurd hg hp
      | some w=>rw [qdG (s:=(W,q)) hg];simp
    obtain ⟨r1,r2,r3,r4,r5,r6⟩:=qcE l (qaT p (W,q) y) (fun x hx=>hl x (List.mem_cons_of_mem _ hx)) k1 hp'
    refine ⟨r1,fun x w hw=>r2 x w (qdG (s:=(W,q)) hw),fun x hx e=>?_,fun x h1 h2=>?_,fun x hx=>r5 x (k4 x hx),Nat.le_trans r6 k5⟩
    · rcases List.mem_cons.mp hx with rfl | hx
      · have:=k2 e
        cases hg:qam (qaT p (W,q) x).1 x.1.2.1 with
        | none=>exact absurd hg this
        | some w=>rw [r2 _ _ hg];simp
      · exact r3 x hx e
    · by_cases hs:qam (qaT p (W,q) y).1 x=none
      · exact r4 x h1 hs
      · exact r5 x (k3 x hs h2)
theorem qcK {γ:Type} {l:List γ} {x:γ × Nat} (h:x∈l.zipIdx):l[x.2]?=some x.1:=by
  obtain ⟨i,hi⟩:=List.getElem?_of_mem h
  rw [List.getElem?_zipIdx] at hi
  cases e:l[i]? with
  | none=>rw [e] at hi;cases hi
  | some y=>rw [e] at hi;cases hi;simpa using e
theorem qik {γ:Type} {l:List γ} {x:γ} (h:x∈l):∃ n,(x,n)∈l.zipIdx:=by
  obtain ⟨i,hi⟩:=List.getElem?_of_mem h
  exact ⟨i,List.mem_of_getElem? (i:=i) (by rw [List.getElem?_zipIdx,hi];simp)⟩
def Cl (rs:Rds α) (s:List (α × List Nat) × List α):Prop:=∀ p,qam s.1 p≠none→p∉s.2→∀ r∈rs,r.1=p→qam s.1 r.2.1≠none
theorem qku {rs:Rds α} {a p:α} {W:List (α × List Nat)} {q:List α} (h:Wv rs a (W,q)) (hc:Cl rs (W,q)) (hq:q.getLast?=some p):Cl rs (qdS rs p (W,q.dropLast)):=by
  have hq':q=q.dropLast++[p]:=by
    have hne:q≠[]:=fun e=>by rw [e] at hq;cases hq
    rw [List.getLast?_eq_some_getLast hne] at hq
    cases hq
    exact (List.dropLast_concat_getLast hne).symm
  have hpq:p∈q:=by rw [hq'];exact List.mem_append_right _ (List.mem_singleton.mpr rfl)
  have h0:Wv rs a (W,q.dropLast):=⟨h.s0,h.w,fun x hx=>h.q x (by rw [hq'];exact List.mem_append_left _ hx)⟩
  obtain ⟨r1,r2,r3,r4,r5,r6⟩:=qcE (p:=p) rs.zipIdx (W,q.dropLast) (fun x hx=>qcK hx) h0 (h.q p hpq)
  intro x hx hn r hr e
  by_cases c:x=p
  · obtain ⟨n,hn⟩:=qik hr
    exact r3 (r,n) hn (e.trans c)
  · cases hW:qam W x with
    | none=>exact absurd (r4 x hx hW) hn
    | some w =>
      have hxq:x∉q:=fun z=>by
        rw [hq'] at z
        rcases List.mem_append.mp z with z | z
        · exact hn (r5 x z)
        · exact c (List.mem_singleton.mp z)
      have:=hc x (by rw [hW];simp) hxq r hr e
      cases hg:qam W r.2.1 with
      | none=>exact absurd hg this
      | some w=>show qam (rs.zipIdx.foldl (qaT p) (W,q.dropLast)).1 r.2.1≠none;rw [r2 _ _ hg];simp
theorem qfz {rs:Rds α} {a:α}:∀ (n:Nat) (s:List (α × List Nat) × List α),Wv rs a s→Cl rs s→s.2.length+qb3 rs s.1≤n →
    (∀ p l,qam (qcR rs n s) p=some l→qaj rs a l=some p)∧qam (qcR rs n s) a≠none∧(∀ x w,qam s.1 x=some w→qam (qcR rs n s) x=some w)∧∀ r∈rs,qam (qcR rs n s) r.1≠none→qam (qcR rs n s) r.2.1≠none
  | 0,s,h,hc,hm=>by
    have:s.2=[]:=List.length_eq_zero_iff.mp (by omega)
    exact ⟨h.w,h.s0,fun _ _ h=>h,fun r hr hx=>hc r.1 hx (by rw [this];exact List.not_mem_nil) r hr rfl⟩
  | n+1,(W,q),h,hc,hm=>by
    cases hq:q.getLast? with
    | none =>
      have e:qcR rs (n+1) (W,q)=W:=by unfold qcR;rw [show (W,q).2.getLast?=none from hq]
      have:q=[]:=List.getLast?_eq_none_iff.mp hq
      rw [e]
      exact ⟨h.w,h.s0,fun _ _ h=>h,fun r hr hx=>hc r.1 hx (by show r.1∉q;rw [this];exact List.not_mem_nil) r hr rfl⟩
    | some p =>
      have e:qcR rs (n+1) (W,q)=qcR rs n (qdS rs p (W,q.dropLast)):=by conv=>lhs;unfold qcR;rw [show (W,q).2.getLast?=some p from hq]
      have hne:q≠[]:=fun e=>by rw [e] at hq;cases hq
      have hq':q=q.dropLast++[p]:=by
        rw [List.getLast?_eq_some_getLast hne] at hq
        cases hq
        exact (List.dropLast_concat_getLast hne).symm
      have hpq:p∈q:=by rw [hq'];exact List.mem_append_right _ (List.mem_singleton.mpr rfl)
      have h0:Wv rs a (W,q.dropLast):=⟨h.s0,h.w,fun x hx=>h.q x (by rw [hq'];exact List.mem_append_left _ hx)⟩
      obtain ⟨r1,r2,r3,r4,r5,r6⟩:=qcE (p:=p) rs.zipIdx (W,q.dropLast) (fun x hx=>qcK hx) h0 (h.q p hpq)
      have hlen:q.dropLast.length+1=q.length:=by rw [List.length_dropLast];have:=List.length_pos_iff.mpr hne;omega
      rw [e]
      have r6':(qdS rs p (W,q.dropLast)).2.length+qb3 rs (qdS rs p (W,q.dropLast)).1≤q.dropLast.length+qb3 rs W:=r6
      have hm':q.length+qb3 rs W≤n+1:=hm
      obtain ⟨z1,z2,z3,z4⟩:=qfz n (qdS rs p (W,q.dropLast)) r1 (qku h hc hq) (by omega)
      exact ⟨z1,z2,fun x w hx=>z3 x w (r2 x w hx),z4⟩
theorem qfo (rs:Rds α) (a:α):Wv rs a ([(a,[])],[a])∧Cl rs ([(a,[])],[a])∧([a]:List α).length+qb3 rs [(a,[])]≤rs.length+1:=by
  refine ⟨⟨?_,fun p l h=>?_,fun p hp=>?_⟩,fun p hp hn=>?_,?_⟩
  · rw [qaA,if_pos rfl];simp
  · rw [qaA] at h
    by_cases c:a=p
    · rw [if_pos c] at h;cases h;rw [c];rfl
    · rw [if_neg c] at h;cases h
  · rw [List.mem_singleton.mp hp,qaA,if_pos rfl];simp
  · exfalso
    rw [qaA] at hp
    by_cases c:a=p
    · exact hn (List.mem_singleton.mpr c.symm)
    · rw [if_neg c] at hp;exact hp rfl
  · have:qb3 rs ([(a,[])]:List (α × List Nat))≤rs.length:=List.length_filter_le _ _
    show 1+_≤_
    omega
theorem qhk {rs:Rds α} {a p:α} {l:List Nat} (h:qam (qaL rs a) p=some l):qaj rs a l=some p:=by
  obtain ⟨h1,h2,h3⟩:=qfo rs a
  exact (qfz _ _ h1 h2 h3).1 p l h
theorem walksF_some {rs:Rds α} {a p:α}:(qam (qaL rs a) p).isSome=true↔Rch rs a p:=by
  obtain ⟨h1,h2,h3⟩:=qfo rs a
  obtain ⟨z1,z2,_,z4⟩:=qfz _ _ h1 h2 h3
  constructor
  · intro h
    obtain ⟨l,hl⟩:=Option.isSome_iff_exists.mp h
    exact qbJ (z1 p l hl)
  · intro h
    have:qam (qaL rs a) p≠none:=by
      induction h with
      | refl=>exact z2
      | step _ hr e ih=>exact z4 _ hr (by rw [e];exact ih)
    cases hg:qam (qaL rs a) p with
    | none=>exact absurd hg this
    | some l=>rfl
def qbw (seen:List α) (r:α × α × Int):List α:=if r.1∈seen∧r.2.1∉seen then seen++[r.2.1] else seen
def qnH (fs:Rds α) (seen:List α):List α:=fs.foldl qbw seen
def itS (fs:Rds α) (b:α):Nat→List α
  | 0=>[b]
  | k+1=>qnH fs (itS fs b k)
def unS (fs:Rds α) (seen:List α):Nat:=(fs.filter fun r=>decide (r.2.1∉seen)).length
def ClS (fs:Rds α) (seen:List α):Prop:=∀ r∈fs,r.1∈seen→r.2.1∈seen
theorem qgn {seen:List α} {r:α × α × Int} {x:α} (h:x∈seen):x∈qbw seen r:=by
  unfold qbw
  split
  · exact List.mem_append_left _ h
  · exact h
theorem qdm:∀ (l:Rds α) {seen:List α} {x:α},x∈seen→x∈l.foldl qbw seen
  | [],_,_,h=>h
  | r::l,_,_,h=>qdm l (qgn h)
theorem qge:∀ (l:Rds α) {seen:List α} {r:α × α × Int},r∈l→r.1∈seen→r.2.1∈l.foldl qbw seen
  | y::l,seen,r,hr,h=>by
    rw [List.foldl_cons]
    rcases List.mem_cons.mp hr with rfl | hr
    · refine qdm l ?_
      unfold qbw
      split
      · exact List.mem_append_right _ (List.mem_singleton.mpr rfl)
      · next c =>
        by_cases c2:r.2.1∈seen
        · exact c2
        · exact absurd ⟨h,c2⟩ c
    · exact qge l hr (qgn h)
theorem qfD {fs:Rds α} {seen:List α} (h:ClS fs seen):∀ (l:Rds α),(∀ r∈l,r∈fs)→l.foldl qbw seen=seen
  | [],_=>rfl
  | y::l,hl=>by
    have:qbw seen y=seen:=by
      unfold qbw
      rw [if_neg]
      rintro ⟨h1,h2⟩
      exact h2 (h y (hl y List.mem_cons_self) h1)
    rw [List.foldl_cons,this]
    exact qfD h l fun r hr=>hl r (List.mem_cons_of_mem _ hr)
theorem qet {fs:Rds α}:∀ (l:Rds α) (seen:List α),(∀ r∈l,r∈fs)→(l.foldl qbw seen).length+unS fs (l.foldl qbw seen)≤seen.length+unS fs seen
  | [],_,_=>Nat.le_refl _
  | y::l,seen,hl=>by
    rw [List.foldl_cons]
    refine Nat.le_trans (qet l _ fun r hr=>hl r (List.mem_cons_of_mem _ hr)) ?_
    unfold qbw
    split
    · next c =>
      have:unS fs (seen++[y.2.1])+1≤unS fs seen:=by
        unfold unS
        refine qci (y:=y) (fun r _ hq=>?_) (hl y List.mem_cons_self) (decide_eq_true c.2) (decide_eq_false fun h=>h (List.mem_append_right _ (List.mem_singleton.mpr rfl)))
        have:=of_decide_eq_true hq
        exact decide_eq_true fun c=>this (List.mem_append_left _ c)
      rw [List.length_append]
      show seen.length+1+_≤_
      omega
    · exact Nat.le_refl _
theorem qeC {fs:Rds α} {b:α}:∀ (l:Rds α) (seen:List α),(∀ r∈l,r∈fs)→(∀ x∈seen,Rch fs b x)→∀ x∈l.foldl qbw seen,Rch fs b x
  | [],_,_,h=>h
  | y::l,seen,hl,h=>by
    rw [List.foldl_cons]
    refine qeC l _ (fun r hr=>hl r (List.mem_cons_of_mem _ hr)) ?_
    intro x hx
    unfold qbw at hx
    split at hx
    · next c =>
      rcases List.mem_append.mp hx with hx | hx
      · exact h x hx
      · rw [List.mem_singleton.mp hx]
        exact .step (h _ c.1) (hl y List.mem_cons_self) rfl
    · exact h x hx
theorem qf4 (fs:Rds α) (b:α):∀ (k:Nat),∀ x∈itS fs b k,Rch fs b x
  | 0,x,hx=>by rw [List.mem_singleton.mp hx];exact .refl
  | k+1,x,hx=>qeC fs _ (fun _ h=>h) (qf4 fs b k) x hx
theorem qgj (fs:Rds α) (b:α):∀ (k:Nat),b∈itS fs b k
  | 0=>List.mem_singleton.mpr rfl
  | k+1=>qdm fs (qgj fs b k)
theorem qhf (fs:Rds α) (b:α):∀ (k:Nat),(itS fs b k).length+unS fs (itS fs b k)≤1+fs.length
  | 0=>by
    have:unS fs (itS fs b 0)≤fs.length:=List.length_filter_le _ _
    show 1+_≤_
    omega
  | k+1=>Nat.le_trans (qet fs _ fun _ h=>h) (qhf fs b k)
theorem qlk (fs:Rds α) (b:α):∀ (k:Nat),ClS fs (itS fs b k)∨unS fs (itS fs b k)+k≤fs.length
  | 0=>.inr (List.length_filter_le _ _)
  | k+1=>by
    rcases qlk fs b k with h | h
    · left
      have:itS fs b (k+1)=itS fs b k:=qfD h fs fun _ h=>h
      rw [this]
      exact h
    · by_cases c:ClS fs (itS fs b k)
      · left
        have:itS fs b (k+1)=itS fs b k:=qfD c fs fun _ h=>h
        rw [this]
        exact c
      · right
        obtain ⟨r,hr,h1,h2⟩:∃ r,r∈fs∧r.1∈itS fs b k∧r.2.1∉itS fs b k:=by
          refine Classical.byContradiction fun hn=>c fun r hr h1=>Classical.byContradiction fun h2=>hn ⟨r,hr,h1,h2⟩
        have:unS fs (itS fs b (k+1))+1≤unS fs (itS fs b k):=by
          unfold unS
          refine qci (y:=r) (fun x _ hq=>?_) hr (decide_eq_true h2) (decide_eq_false fun h=>h (qge fs hr h1))
          have:=of_decide_eq_true hq
          exact decide_eq_true fun c=>this (qdm fs c)
        omega
theorem qmC (fs:Rds α) (b p:α):p∈itS fs b fs.length↔Rch fs b p:=by
  refine ⟨qf4 fs b _ p,fun h=>?_⟩
  have hc:ClS fs (itS fs b fs.length):=by
    rcases qlk fs b fs.length with h | h
    · exact h
    · intro r hr _
      refine Classical.byContradiction fun hn=>?_
      have:0<unS fs (itS fs b fs.length):=List.length_pos_of_mem (List.mem_filter.mpr ⟨hr,decide_eq_true hn⟩)
      omega
  induction h with
  | refl=>exact qgj fs b _
  | step _ hr e ih=>exact hc _ hr (by rw [e];exact ih)
def qlH (r:α × α × Int):α × α × Int:=(r.2.1,r.1,r.2.2)
theorem qiS {rs:Rds α} {a b:α} (h:Rch (rs.map qlH) a b):Rch rs b a:=by
  induction h with
  | refl=>exact .refl
  | @step c r _ hr e ih =>
    obtain ⟨r',hr',rfl⟩:=List.mem_map.mp hr
    have:Rch rs r'.1 r'.2.1:=.one hr'
    have e':r'.2.1=c:=e
    rw [e'] at this
    exact this.trans ih
theorem qle {rs:Rds α} {a b:α} (h:Rch rs a b):Rch (rs.map qlH) b a:=by
  have e:(rs.map qlH).map qlH=rs:=by rw [List.map_map];exact (List.map_congr_left fun r _=>rfl).trans (List.map_id _)
  exact qiS (by rw [e];exact h)
end
end Wl
namespace Wl
section
variable {α : Type} [DecidableEq α]
def qnS (rs:Rds α) (n:Nat):Int:=match rs[n]? with | some r=>r.2.2 | none=>0
theorem qhp {rs:Rds α} {n:Nat} {r:α × α × Int} (h:rs[n]?=some r):qnS rs n=r.2.2:=by unfold qnS;rw [h]
def qaU (rs:Rds α) (l:List Nat):Int:=(l.map (qnS rs)).sum
theorem qkz (rs:Rds α):qaU rs []=0:=rfl
theorem qhs:∀ (l m:List Int),(l++m).sum=l.sum+m.sum
  | [],m=>by simp
  | x::l,m=>by rw [List.cons_append,List.sum_cons,List.sum_cons,qhs l m];omega
theorem qdy (rs:Rds α) (l m:List Nat):qaU rs (l++m)=qaU rs l+qaU rs m:=by
  unfold qaU
  rw [List.map_append,qhs]
theorem qhM {rs:Rds α} {n:Nat} {r:α × α × Int} (h:rs[n]?=some r):qaU rs [n]=r.2.2:=by
  unfold qaU
  rw [List.map_cons,qhp h]
  simp
theorem qdu {rs:Rds α} {l:List Nat} {n:Nat} {r:α × α × Int} (h:rs[n]?=some r):qaU rs (l++[n])=qaU rs l+r.2.2:=by rw [qdy,qhM h]
theorem qa6 {rs:Rds α} {a b:α} {l m:List Nat} (h:qaj rs a (l++m)=some b):∃ q,qaj rs a l=some q∧qaj rs q m=some b:=by
  rw [qd0] at h
  cases e:qaj rs a l with
  | none=>rw [e] at h;cases h
  | some q=>rw [e] at h;exact ⟨q,rfl,h⟩
theorem qbs {rs:Rds α} {a b:α} {n:Nat} (h:qaj rs a [n]=some b):∃ r,rs[n]?=some r∧r.1=a∧r.2.1=b:=by
  have h':(match rs[n]? with | some r=>if r.1=a then qaj rs r.2.1 [] else none | none=>none)=some b:=h
  cases e:rs[n]? with
  | none=>rw [e] at h';cases h'
  | some r =>
    rw [e] at h'
    have h2:(if r.1=a then some r.2.1 else none)=some b:=h'
    by_cases c:r.1=a
    · rw [if_pos c] at h2;cases h2;exact ⟨r,rfl,c,rfl⟩
    · rw [if_neg c] at h2;cases h2
theorem qbI {rs:Rds α} {a b:α} {l:List Nat} {n:Nat} (h:qaj rs a (l++[n])=some b):∃ r,rs[n]?=some r∧qaj rs a l=some r.1∧r.2.1=b:=by
  obtain ⟨q,h1,h2⟩:=qa6 h
  obtain ⟨r,h3,h4,h5⟩:=qbs h2
  exact ⟨r,h3,by rw [h1,h4],h5⟩
def qbH (rs:Rds α) (W S:List (α × List Nat)) (n:Nat):List (α × List Nat) :=
  match rs[n]? with
  | none=>S
  | some r=>match qam W r.1 with
    | none=>S
    | some w=>match qam S r.2.1 with
      | none=>qcu S r.2.1 (w++[n])
      | some v=>if qaU rs (w++[n])<qaU rs v then qcu S r.2.1 (w++[n]) else S
def qlA (rs:Rds α) (ns:List Nat) (W:List (α × List Nat)):List (α × List Nat):=ns.foldl (qbH rs W) W
def itH (rs:Rds α) (ns:List Nat) (a:α):Nat→List (α × List Nat)
  | 0=>[(a,[])]
  | k+1=>qlA rs ns (itH rs ns a k)
theorem qf2 {rs:Rds α} {W S:List (α × List Nat)} {n:Nat} {r:α × α × Int} (h:rs[n]?=some r) (hw:qam W r.1=none):qbH rs W S n=S:=by
  unfold qbH;rw [h]
  show (match qam W r.1 with | none=>S | some w=>_)=S
  rw [hw]
theorem qgd {rs:Rds α} {W S:List (α × List Nat)} {n:Nat} {r:α × α × Int} {w:List Nat} (h:rs[n]?=some r) (hw:qam W r.1=some w) (hs:qam S r.2.1=none):qbH rs W S n=qcu S r.2.1 (w++[n]):=by
  unfold qbH;rw [h]
  show (match qam W r.1 with | none=>S | some w=>match qam S r.2.1 with | none=>qcu S r.2.1 (w++[n]) | some v=>_)=_
  rw [hw]
  show (match qam S r.2.1 with | none=>qcu S r.2.1 (w++[n]) | some v=>_)=_
  rw [hs]
theorem qdo {rs:Rds α} {W S:List (α × List Nat)} {n:Nat} {r:α × α × Int} {w v:List Nat} (h:rs[n]?=some r) (hw:qam W r.1=some w) (hs:qam S r.2.1=some v):qbH rs W S n=if qaU rs (w++[n])<qaU rs v then qcu S r.2.1 (w++[n]) else S:=by
  unfold qbH;rw [h]
  show (match qam W r.1 with | none=>S | some w=>match qam S r.2.1 with | none=>qcu S r.2.1 (w++[n]) | some v=>if qaU rs (w++[n])<qaU rs v then qcu S r.2.1 (w++[n]) else S)=_
  rw [hw]
  show (match qam S r.2.1 with | none=>qcu S r.2.1 (w++[n]) | some v=>if qaU rs (w++[n])<qaU rs v then qcu S r.2.1 (w++[n]) else S)=_
  rw [hs]
theorem qck (rs:Rds α) (W S:List (α × List Nat)) (n:Nat) :
    (qbH rs W S n=S∧∀ r w,rs[n]?=some r→qam W r.1=some w→∃ v,qam S r.2.1=some v∧qaU rs v≤qaU rs (w++[n])) ∨
    ∃ r w,rs[n]?=some r∧qam W r.1=some w∧qbH rs W S n=qcu S r.2.1 (w++[n])∧∀ v,qam S r.2.1=some v→qaU rs (w++[n])<qaU rs v:=by
  cases h:rs[n]? with
  | none=>exact .inl ⟨by unfold qbH;rw [h],fun r w h2=>(by cases h2)⟩
  | some r =>
    cases hw:qam W r.1 with
    | none=>exact .inl ⟨qf2 h hw,fun r' w h2 h3=>by cases h2;rw [hw] at h3;cases h3⟩
    | some w =>
      cases hs:qam S r.2.1 with
      | none=>exact .inr ⟨r,w,rfl,hw,qgd h hw hs,fun v hv=>by rw [hs] at hv;cases hv⟩
      | some v =>
        by_cases c:qaU rs (w++[n])<qaU rs v
        · exact .inr ⟨r,w,rfl,hw,by rw [qdo h hw hs,if_pos c],fun v' hv=>by rw [hs] at hv;cases hv;exact c⟩
        · exact .inl ⟨by rw [qdo h hw hs,if_neg c],fun r' w' h2 h3=>by cases h2;rw [hw] at h3;cases h3;exact ⟨v,hs,by omega⟩⟩
theorem qcg {rs:Rds α} {W:List (α × List Nat)}:∀ (l:List Nat) (S:List (α × List Nat)),
    (∀ x v,qam S x=some v→∃ v',qam (l.foldl (qbH rs W) S) x=some v'∧qaU rs v'≤qaU rs v) ∧
    (∀ x,qam (l.foldl (qbH rs W) S) x=qam S x∨∃ n∈l,∃ r w,rs[n]?=some r∧r.2.1=x∧qam W r.1=some w∧qam (l.foldl (qbH rs W) S) x=some (w++[n])∧∀ v,qam S x=some v→qaU rs (w++[n])<qaU rs v) ∧
    (∀ n∈l,∀ r w,rs[n]?=some r→qam W r.1=some w→∃ v',qam (l.foldl (qbH rs W) S) r.2.1=some v'∧qaU rs v'≤qaU rs (w++[n]))
  | [],S=>⟨fun x v h=>⟨v,h,Int.le_refl _⟩,fun x=>.inl rfl,fun n hn=>(by cases hn)⟩
  | n::l,S=>by
    obtain ⟨A,B,C⟩:=qcg (rs:=rs) (W:=W) l (qbH rs W S n)
    rw [List.foldl_cons]
    have A1:∀ x v,qam S x=some v→∃ v',qam (qbH rs W S n) x=some v'∧qaU rs v'≤qaU rs v:=by
      intro x v hv
      rcases qck rs W S n with ⟨h,_⟩ | ⟨r,w,h1,h2,h3,h4⟩
      · rw [h];exact ⟨v,hv,Int.le_refl _⟩
      · rw [h3,qa0]
        by_cases c:x=r.2.1
        · rw [if_pos c]
          exact ⟨_,rfl,Int.le_of_lt (h4 v (by rw [← c];exact hv))⟩
        · rw [if_neg c];exact ⟨v,hv,Int.le_refl _⟩
    refine ⟨fun x v hv=>?_,fun x=>?_,fun m hm r w hr hw=>?_⟩
    · obtain ⟨v1,h1,l1⟩:=A1 x v hv
      obtain ⟨v2,h2,l2⟩:=A x v1 h1
      exact ⟨v2,h2,Int.le_trans l2 l1⟩
    · rcases B x with h | ⟨m,hm,r,w,h1,h2,h3,h4,h5⟩
      · rcases qck rs W S n with ⟨e,_⟩ | ⟨r,w,h1,h2,h3,h4⟩
        · left;rw [h,e]
        · by_cases c:x=r.2.1
          · right
            refine ⟨n,List.mem_cons_self,r,w,h1,c.symm,h2,?_,fun v hv=>h4 v (by rw [← c];exact hv)⟩
            rw [h,h3,qa0,if_pos c]
          · left;rw [h,h3,qa0,if_neg c]
      · right
        refine ⟨m,List.mem_cons_of_mem _ hm,r,w,h1,h2,h3,h4,fun v hv=>?_⟩
        obtain ⟨v1,h6,l1⟩:=A1 x v hv
        exact Int.lt_of_lt_of_le (h5 v1 h6) l1
    · rcases List.mem_cons.mp hm with rfl | hm
      · rcases qck rs W S m with ⟨e,h⟩ | ⟨r',w',h1,h2,h3,h4⟩
        · obtain ⟨v,hv,lv⟩:=h r w hr hw
          obtain ⟨v2,h2,l2⟩:=A r.2.1 v (by rw [e];exact hv)
          exact ⟨v2,h2,Int.le_trans l2 lv⟩
        · rw [hr] at h1;cases h1
          rw [hw] at h2;cases h2
          exact A r.2.1 (w++[m]) (by rw [h3,qa0,if_pos rfl])
      · exact C m hm r w hr hw
variable {rs : Rds α} {ns : List Nat} {a : α}
theorem qbz:∀ (k:Nat) {x:α} {l:List Nat},qam (itH rs ns a k) x=some l→qaj rs a l=some x∧l.length≤k∧∀ n∈l,n∈ns
  | 0,x,l,h=>by
    have h:qam [(a,[])] x=some l:=h
    rw [qaA] at h
    by_cases c:a=x
    · rw [if_pos c] at h;cases h
      exact ⟨by rw [c];rfl,Nat.le_refl _,fun n hn=>(by cases hn)⟩
    · rw [if_neg c] at h;cases h
  | k+1,x,l,h=>by
    have h:qam (ns.foldl (qbH rs (itH rs ns a k)) (itH rs ns a k)) x=some l:=h
    rcases (qcg (rs:=rs) (W:=itH rs ns a k) ns (itH rs ns a k)).2.1 x with e | ⟨n,hn,r,w,h1,h2,h3,h4,h5⟩
    · rw [e] at h
      obtain ⟨z1,z2,z3⟩:=qbz k h
      exact ⟨z1,by omega,z3⟩
    · rw [h4] at h;cases h
      obtain ⟨z1,z2,z3⟩:=qbz k h3
      refine ⟨by rw [← h2];exact qdr z1 h1,by rw [List.length_append];show _+1≤_;omega,fun m hm=>?_⟩
      rcases List.mem_append.mp hm with hm | hm
      · exact z3 m hm
      · rw [List.mem_singleton.mp hm];exact hn
theorem qlo (k:Nat) {x:α} {v:List Nat} (h:qam (itH rs ns a k) x=some v):∃ v',qam (itH rs ns a (k+1)) x=some v'∧qaU rs v'≤qaU rs v :=
  (qcg (rs:=rs) (W:=itH rs ns a k) ns (itH rs ns a k)).1 x v h
theorem qfl (k:Nat) {n:Nat} {r:α × α × Int} {w:List Nat} (hn:n∈ns) (hr:rs[n]?=some r) (hw:qam (itH rs ns a k) r.1=some w):∃ v',qam (itH rs ns a (k+1)) r.2.1=some v'∧qaU rs v'≤qaU rs w+r.2.2:=by
  obtain ⟨v,h1,h2⟩:=(qcg (rs:=rs) (W:=itH rs ns a k) ns (itH rs ns a k)).2.2 n hn r w hr hw
  rw [qdu hr] at h2
  exact ⟨v,h1,h2⟩
theorem qeq (k:Nat):∃ v,qam (itH rs ns a k) a=some v∧qaU rs v≤0:=by
  induction k with
  | zero=>exact ⟨[],by show qam [(a,[])] a=_;rw [qaA,if_pos rfl],Int.le_refl _⟩
  | succ k ih =>
    obtain ⟨v,h1,h2⟩:=ih
    obtain ⟨v',h3,h4⟩:=qlo k h1
    exact ⟨v',h3,Int.le_trans h4 h2⟩
theorem qiG:∀ (k:Nat) {x:α},qam (itH rs ns a (k+1)) x≠qam (itH rs ns a k) x→∃ l,qam (itH rs ns a (k+1)) x=some l∧l.length=k+1∧∀ v,qam (itH rs ns a k) x=some v→qaU rs l<qaU rs v
  | 0,x,h=>by
    rcases (qcg (rs:=rs) (W:=itH rs ns a 0) ns (itH rs ns a 0)).2.1 x with e | ⟨n,hn,r,w,h1,h2,h3,h4,h5⟩
    · exact absurd e h
    · refine ⟨_,h4,?_,h5⟩
      have:=(qbz 0 h3).2.1
      rw [List.length_append]
      show w.length+1=1
      omega
  | k+1,x,h=>by
    rcases (qcg (rs:=rs) (W:=itH rs ns a (k+1)) ns (itH rs ns a (k+1))).2.1 x with e | ⟨n,hn,r,w,h1,h2,h3,h4,h5⟩
    · exact absurd e h
    · refine ⟨_,h4,?_,h5⟩
      rw [List.length_append]
      show w.length+1=_
      by_cases c:qam (itH rs ns a (k+1)) r.1=qam (itH rs ns a k) r.1
      · exfalso
        rw [c] at h3
        obtain ⟨v,hv,lv⟩:=qfl k hn h1 h3
        rw [h2] at hv
        have:=h5 v hv
        rw [qdu h1] at this
        omega
      · obtain ⟨l,z1,z2,_⟩:=qiG k c
        rw [h3] at z1;cases z1
        omega
theorem qh0:∀ (k:Nat) {x:α} {l:List Nat},qaj rs a l=some x→(∀ n∈l,n∈ns)→l.length≤k→∃ v,qam (itH rs ns a k) x=some v∧qaU rs v≤qaU rs l:=by
  intro k
  induction k with
  | zero =>
    intro x l h _ hl
    have:l=[]:=List.length_eq_zero_iff.mp (by omega)
    subst this
    cases h
    exact qeq 0
  | succ k ih =>
    intro x l h hn hl
    rcases List.eq_nil_or_concat l with rfl | ⟨l',n,rfl⟩
    · cases h;exact qeq _
    · rw [List.concat_eq_append] at h hn hl ⊢
      obtain ⟨r,h1,h2,h3⟩:=qbI h
      rw [List.length_append] at hl
      have hl:l'.length+1≤k+1:=hl
      obtain ⟨v,h4,h5⟩:=ih h2 (fun m hm=>hn m (List.mem_append_left _ hm)) (by omega)
      obtain ⟨v',h6,h7⟩:=qfl k (hn n (List.mem_append_right _ (List.mem_singleton.mpr rfl))) h1 h4
      refine ⟨v',by rw [← h3];exact h6,?_⟩
      rw [qdu h1]
      omega
def qbQ (rs:Rds α):List (α × Nat)→Nat→List Nat→Option (Nat × Nat)
  | _,_,[]=>none
  | came,i,n::l=>match rs[n]? with
    | none=>none
    | some r=>match qam came r.2.1 with
      | some c=>some (c,i+1)
      | none=>qbQ rs (qcu came r.2.1 (i+1)) (i+1) l
theorem qef {came:List (α × Nat)} {i n c:Nat} {l:List Nat} {r:α × α × Int} (hr:rs[n]?=some r) (h:qam came r.2.1=some c):qbQ rs came i (n::l)=some (c,i+1):=by
  unfold qbQ;rw [hr]
  show (match qam came r.2.1 with | some c=>some (c,i+1) | none=>_)=_
  rw [h]
theorem qfJ {came:List (α × Nat)} {i n:Nat} {l:List Nat} {r:α × α × Int} (hr:rs[n]?=some r) (h:qam came r.2.1=none):qbQ rs came i (n::l)=qbQ rs (qcu came r.2.1 (i+1)) (i+1) l:=by
  conv=>lhs;unfold qbQ
  rw [hr]
  show (match qam came r.2.1 with | some c=>some (c,i+1) | none=>qbQ rs (qcu came r.2.1 (i+1)) (i+1) l)=_
  rw [h]
theorem qek {γ:Type} {w:List γ} {i:Nat} {n:γ} {l:List γ} (h:w.drop i=n::l):w[i]?=some n∧w.drop (i+1)=l∧w.take (i+1)=w.take i++[n]∧i<w.length:=by
  have h1:w[i]?=some n:=by
    have:=congrArg (fun z=>z[0]?) h
    simpa using this
  refine ⟨h1,?_,by rw [List.take_add_one,h1];rfl,(List.getElem?_eq_some_iff.mp h1).1⟩
  rw [← List.tail_drop,h];rfl
theorem qjs {w:List Nat} {b:α} (hw:qaj rs a w=some b) {i n:Nat} {l:List Nat} (h:w.drop i=n::l):∃ r,rs[n]?=some r∧qaj rs a (w.take i)=some r.1∧qaj rs a (w.take (i+1))=some r.2.1:=by
  obtain ⟨_,h2,h3,_⟩:=qek h
  have e:w=w.take (i+1)++w.drop (i+1):=(List.take_append_drop _ _).symm
  rw [e] at hw
  obtain ⟨q,h4,_⟩:=qa6 hw
  rw [h3] at h4
  obtain ⟨r,z1,z2,z3⟩:=qbI h4
  exact ⟨r,z1,z2,by rw [h3,h4,z3]⟩
theorem qe7 {w:List Nat} {b:α} (hw:qaj rs a w=some b):∀ (l:List Nat) (i:Nat) (came:List (α × Nat)),w.drop i=l→(∀ e c,qam came e=some c→c≤i∧qaj rs a (w.take c)=some e)→∀ {c e:Nat},qbQ rs came i l=some (c,e)→c<e∧e≤w.length∧∃ p,qaj rs a (w.take c)=some p∧qaj rs a (w.take e)=some p
  | [],_,_,_,_,_,_,h=>by cases h
  | n::l,i,came,hd,hc,c,e,h=>by
    obtain ⟨_,h2,h3,h4⟩:=qek hd
    obtain ⟨r,z1,z2,z3⟩:=qjs hw hd
    cases hg:qam came r.2.1 with
    | some c' =>
      rw [qef z1 hg] at h
      cases h
      obtain ⟨y1,y2⟩:=hc _ _ hg
      exact ⟨by omega,h4,r.2.1,y2,z3⟩
    | none =>
      rw [qfJ z1 hg] at h
      refine qe7 hw l (i+1) _ h2 (fun e' c' hg'=>?_) h
      rw [qa0] at hg'
      by_cases ce:e'=r.2.1
      · rw [if_pos ce] at hg';cases hg';exact ⟨Nat.le_refl _,by rw [ce];exact z3⟩
      · rw [if_neg ce] at hg'
        obtain ⟨y1,y2⟩:=hc _ _ hg'
        exact ⟨by omega,y2⟩
theorem qgf {γ:Type} [DecidableEq γ]:∀ {l m:List γ},l.Nodup→(∀ x∈l,x∈m)→l.length≤m.length
  | [],_,_,_=>Nat.zero_le _
  | x::l,m,h,hs=>by
    have hx:=hs x List.mem_cons_self
    obtain ⟨h1,h2⟩:=List.nodup_cons.mp h
    have:=qgf (m:=m.erase x) h2 fun y hy=>by
      have hne:y≠x:=fun e=>h1 (e ▸ hy)
      exact (List.mem_erase_of_ne hne).mpr (hs y (List.mem_cons_of_mem _ hy))
    rw [List.length_erase_of_mem hx] at this
    have:=List.length_pos_of_mem hx
    rw [List.length_cons]
    omega
theorem qkI {β:Type} (l:List (α × β)) (k:α):qam l k=none→k∉l.map (·.1):=by
  intro h hk
  obtain ⟨x,hx,rfl⟩:=List.mem_map.mp hk
  have:l.any (fun kv=>decide (kv.1=x.1))=true:=List.any_eq_true.mpr ⟨x,hx,decide_eq_true rfl⟩
  rw [qnh,h] at this
  cases this
theorem qe2 {us:List α} {w:List Nat} {b:α} (hw:qaj rs a w=some b) (hu:∀ n∈w,∀ r,rs[n]?=some r→r.2.1∈us):∀ (l:List Nat) (i:Nat) (came:List (α × Nat)),w.drop i=l→i≤w.length→(came.map (·.1)).Nodup→(∀ k∈came.map (·.1),k∈us)→came.length=i+1→qbQ rs came i l=none→w.length+1≤us.length
  | [],i,came,hd,hi,hn,hk,hl,_=>by
    have:w.length≤i:=List.drop_eq_nil_iff.mp hd
    have:=qgf hn hk
    rw [List.length_map] at this
    omega
  | n::l,i,came,hd,hi,hn,hk,hl,h=>by
    obtain ⟨h1,h2,h3,h4⟩:=qek hd
    obtain ⟨r,z1,z2,z3⟩:=qjs hw hd
    cases hg:qam came r.2.1 with
    | some c'=>rw [qef z1 hg] at h;cases h
    | none =>
      rw [qfJ z1 hg,qfp hg] at h
      have hnm:=qkI came _ hg
      refine qe2 hw hu l (i+1) _ h2 h4 ?_ ?_ ?_ h
      · rw [List.map_append]
        refine List.nodup_append.mpr ⟨hn,by simp,fun x hx y hy=>?_⟩
        have:y=r.2.1:=by simpa using hy
        rw [this]
        exact fun e=>hnm (e ▸ hx)
      · intro k hk'
        rw [List.map_append] at hk'
        rcases List.mem_append.mp hk' with hk' | hk'
        · exact hk k hk'
        · have:k=r.2.1:=by simpa using hk'
          rw [this]
          exact hu n (List.mem_of_getElem? h1) r z1
      · rw [List.length_append,hl];rfl
theorem qjq {us:List α} {w:List Nat} {b:α} (ha:a∈us) (hw:qaj rs a w=some b) (hu:∀ n∈w,∀ r,rs[n]?=some r→r.2.1∈us) (hl:us.length≤w.length):∃ c e p,qbQ rs [(a,0)] 0 w=some (c,e)∧c<e∧e≤w.length∧qaj rs a (w.take c)=some p∧qaj rs a (w.take e)=some p:=by
  cases h:qbQ rs [(a,0)] 0 w with
  | none =>
    have:=qe2 (us:=us) hw hu w 0 [(a,0)] rfl (Nat.zero_le _) (by simp) (fun k hk=>by have e:k=a:=(by simpa using hk);rw [e];exact ha) rfl h
    omega
  | some x =>
    obtain ⟨c,e⟩:=x
    obtain ⟨h1,h2,p,h3,h4⟩:=qe7 hw w 0 [(a,0)] rfl (fun e' c' hg=>by
      rw [qaA] at hg
      by_cases ce:a=e'
      · rw [if_pos ce] at hg;cases hg;exact ⟨Nat.le_refl _,by rw [ce];rfl⟩
      · rw [if_neg ce] at hg;cases hg) h
    exact ⟨c,e,p,rfl,h1,h2,h3,h4⟩
theorem qhy {w:List Nat} {b p:α} {c e:Nat} (hw:qaj rs a w=some b) (hce:c<e) (he:e≤w.length) (h1:qaj rs a (w.take c)=some p) (h2:qaj rs a (w.take e)=some p) :
    qaj rs p ((w.take e).drop c)=some p∧((w.take e).drop c).length=e - c∧qaj rs a (w.take c++w.drop e)=some b∧qaU rs w=qaU rs (w.take c++w.drop e)+qaU rs ((w.take e).drop c)∧(w.take c++w.drop e).length+(e - c)=w.length:=by
  have t1:w.take e=w.take c++(w.take e).drop c:=by
    have:=(List.take_append_drop c (w.take e)).symm
    rw [List.take_take,Nat.min_eq_left (Nat.le_of_lt hce)] at this
    exact this
  have t2:w=w.take e++w.drop e:=(List.take_append_drop e w).symm
  have hl:((w.take e).drop c).length=e - c:=by rw [List.length_drop,List.length_take];omega
  refine ⟨?_,hl,?_,?_,?_⟩
  · rw [t1] at h2
    obtain ⟨q,y1,y2⟩:=qa6 h2
    rw [h1] at y1;cases y1
    exact y2
  · rw [t2] at hw
    obtain ⟨q,y1,y2⟩:=qa6 hw
    rw [h2] at y1;cases y1
    rw [qd0,h1]
    exact y2
  · conv=>lhs;rw [t2,qdy,t1,qdy]
    rw [qdy]
    omega
  · rw [List.length_append,List.length_take,List.length_drop];omega
theorem qi7 {w:List Nat} {c e:Nat} {n:Nat} (h:n∈w.take c++w.drop e):n∈w:=by
  rcases List.mem_append.mp h with h | h
  · exact List.mem_of_mem_take h
  · exact List.mem_of_mem_drop h
structure Inn (rs:Rds α) (ns:List Nat) (us:List α) (a:α):Prop where
  st:a∈us
  n:∀ n∈ns,∃ r,rs[n]?=some r∧r.1∈us∧r.2.1∈us
  w:∀ v∈us,∃ l,qaj rs a l=some v∧∀ n∈l,n∈ns
theorem Inn.e {us:List α} (h:Inn rs ns us a) {w:List Nat} (hw:∀ n∈w,n∈ns):∀ n∈w,∀ r,rs[n]?=some r→r.2.1∈us:=by
  intro n hn r hr
  obtain ⟨r',h1,_,h2⟩:=h.n n (hw n hn)
  rw [hr] at h1;cases h1
  exact h2
theorem Inn.short {us:List α} (h:Inn rs ns us a):∀ (m:Nat) (l:List Nat) {v:α},l.length≤m→qaj rs a l=some v→(∀ n∈l,n∈ns)→∃ l',qaj rs a l'=some v∧(∀ n∈l',n∈ns)∧l'.length+1≤us.length
  | 0,l,v,hm,hw,hn=>⟨l,hw,hn,by have:=List.length_pos_of_mem h.st;omega⟩
  | m+1,l,v,hm,hw,hn=>by
    by_cases c:l.length+1≤us.length
    · exact ⟨l,hw,hn,c⟩
    · obtain ⟨c,e,p,_,h1,h2,h3,h4⟩:=qjq h.st hw (h.e hn) (by omega)
      obtain ⟨_,_,y3,_,y5⟩:=qhy hw h1 h2 h3 h4
      exact Inn.short h m _ (by omega) y3 fun n z=>hn n (qi7 z)
theorem Inn.all {us:List α} (h:Inn rs ns us a) {v:α} (hv:v∈us):∃ w,qam (itH rs ns a (us.length - 1)) v=some w:=by
  obtain ⟨l,h1,h2⟩:=h.w v hv
  obtain ⟨l',h3,h4,h5⟩:=h.short l.length l (Nat.le_refl _) h1 h2
  obtain ⟨w,h6,_⟩:=qh0 (us.length - 1) h3 h4 (by omega)
  exact ⟨w,h6⟩
theorem Inn.key {us:List α} (h:Inn rs ns us a) {k:Nat} {v:α} {w:List Nat} (hv:qam (itH rs ns a k) v=some w):v∈us:=by
  obtain ⟨h1,_,h3⟩:=qbz k hv
  rcases List.eq_nil_or_concat w with rfl | ⟨l',n,rfl⟩
  · cases h1;exact h.st
  · rw [List.concat_eq_append] at h1 h3
    obtain ⟨r,z1,_,z3⟩:=qbI h1
    rw [← z3]
    exact h.e h3 n (List.mem_append_right _ (List.mem_singleton.mpr rfl)) r z1
theorem Inn.ring {us:List α} (h:Inn rs ns us a) {v:α} (hv:v∈us) (hc:qam (itH rs ns a (us.length - 1+1)) v≠qam (itH rs ns a (us.length - 1)) v) :
    ∃ w c e p,qam (itH rs ns a (us.length - 1+1)) v=some w∧qbQ rs [(a,0)] 0 w=some (c,e)∧c<e∧e≤w.length∧qaj rs a (w.take c)=some p∧qaj rs p ((w.take e).drop c)=some p∧qaU rs ((w.take e).drop c)<0∧(∀ n∈w,n∈ns)∧w.length≤us.length:=by
  have hpos:=List.length_pos_of_mem h.st
  obtain ⟨w,h1,h2,h3⟩:=qiG _ hc
  obtain ⟨y1,y2,y3⟩:=qbz _ h1
  obtain ⟨c,e,p,z1,z2,z3,z4,z5⟩:=qjq h.st y1 (h.e y3) (by omega)
  obtain ⟨x1,x2,x3,x4,x5⟩:=qhy y1 z2 z3 z4 z5
  obtain ⟨b,b1,b2⟩:=qh0 (us.length - 1) x3 (fun n z=>y3 n (qi7 z)) (by omega)
  have:=h3 b b1
  exact ⟨w,c,e,p,h1,z1,z2,z3,z4,x1,by omega,y3,by omega⟩
theorem pot {h:α→Int}:∀ (l:List Nat) {x y:α},(∀ n∈l,∀ r,rs[n]?=some r→h r.2.1≤h r.1+r.2.2)→qaj rs x l=some y→h y - h x≤qaU rs l
  | [],x,y,_,hw=>by cases hw;rw [qkz];omega
  | n::l,x,y,hp,hw=>by
    obtain ⟨q,h1,h2⟩:=qa6 (l:=[n]) (m:=l) hw
    obtain ⟨r,z1,z2,z3⟩:=qbs h1
    have e1:=pot l (fun m hm=>hp m (List.mem_cons_of_mem _ hm)) h2
    have e2:=hp n List.mem_cons_self r z1
    have e3:qaU rs (n::l)=qaU rs [n]+qaU rs l:=qdy rs [n] l
    rw [qhM z1] at e3
    rw [z2,z3] at e2
    omega
theorem Inn.still {us:List α} (h:Inn rs ns us a) (hs:∀ v∈us,qam (itH rs ns a (us.length - 1+1)) v=qam (itH rs ns a (us.length - 1)) v) :
    (∀ n∈ns,∀ r,rs[n]?=some r→qaU rs ((qam (itH rs ns a (us.length - 1)) r.2.1).getD [])≤qaU rs ((qam (itH rs ns a (us.length - 1)) r.1).getD [])+r.2.2)∧qaU rs ((qam (itH rs ns a (us.length - 1)) a).getD [])=0:=by
  have hp:∀ n∈ns,∀ r,rs[n]?=some r→qaU rs ((qam (itH rs ns a (us.length - 1)) r.2.1).getD [])≤qaU rs ((qam (itH rs ns a (us.length - 1)) r.1).getD [])+r.2.2:=by
    intro n hn r hr
    obtain ⟨r',h1,h2,h3⟩:=h.n n hn
    rw [hr] at h1;cases h1
    obtain ⟨w,hw⟩:=h.all h2
    obtain ⟨v,z1,z2⟩:=qfl _ hn hr hw
    rw [hs _ h3] at z1
    rw [z1,hw]
    exact z2
  refine ⟨hp,?_⟩
  obtain ⟨v,h1,h2⟩:=qeq (rs:=rs) (ns:=ns) (a:=a) (us.length - 1)
  obtain ⟨y1,y2,y3⟩:=qbz _ h1
  have:=pot (h:=fun x=>qaU rs ((qam (itH rs ns a (us.length - 1)) x).getD [])) v (fun n hn=>hp n (y3 n hn)) y1
  rw [h1]
  show qaU rs v=0
  omega
theorem walk_of {b:α} (h:Rch rs a b):∃ l,qaj rs a l=some b:=by
  induction h with
  | refl=>exact ⟨[],rfl⟩
  | step _ hr e ih =>
    obtain ⟨l,hl⟩:=ih
    obtain ⟨n,hn⟩:=List.getElem?_of_mem hr
    exact ⟨l++[n],qdr (by rw [hl,e]) hn⟩
theorem qh4 {l:List Nat} {b:α} (hw:qaj rs a l=some b) {n:Nat} (hn:n∈l):∃ r,rs[n]?=some r∧Rch rs a r.1∧Rch rs r.2.1 b:=by
  obtain ⟨l1,l2,rfl⟩:=List.append_of_mem hn
  obtain ⟨q,h1,h2⟩:=qa6 hw
  obtain ⟨q2,h3,h4⟩:=qa6 (l:=[n]) (m:=l2) h2
  obtain ⟨r,z1,z2,z3⟩:=qbs h3
  exact ⟨r,z1,by rw [z2];exact qbJ h1,by rw [z3];exact qbJ h4⟩
theorem qnM {us:List α} {g:α} (hn:∀ n,n∈ns↔∃ r,rs[n]?=some r∧r.1∈us∧r.2.1∈us) (hu:∀ (n:Nat) (r:α × α × Int),rs[n]?=some r→Rch rs a r.1→Rch rs r.2.1 g→r.1∈us∧r.2.1∈us) (ha:a∈us) (hv:∀ v∈us,Rch rs a v∧Rch rs v g):Inn rs ns us a where
  st:=ha
  n n h:=(hn n).mp h
  w v h:=by
    obtain ⟨h1,h2⟩:=hv v h
    obtain ⟨l,hl⟩:=walk_of h1
    refine ⟨l,hl,fun n hm=>?_⟩
    obtain ⟨r,z1,z2,z3⟩:=qh4 hl hm
    exact (hn n).mpr ⟨r,z1,hu n r z1 z2 (z3.trans h2)⟩
end
end Wl
namespace Kx
open PySem L2
section
variable {P : Program} {w : World} {K : PySem.W.Frag} {mg : Str → Option Value} {base : Heap}
def top (i:Nat):Stmt:=PySem.Challenge.pw_cutyard_k64_whole_roads_from_heights.main.body.getD i (.Pass ⟨0,0,0,0⟩)
abbrev qbC:Stmt:=top 6
theorem qeL:FnScope ["count","most"] ["count","most"] (qah qbC):=⟨rfl,rfl,rfl,by decide +kernel,rfl,by decide +kernel,by decide +kernel⟩
abbrev qbq:Stmt:=top 7
theorem sc_refuse_twice:FnScope ["names","came","name"] ["names"] (qah qbq):=⟨rfl,rfl,rfl,by decide +kernel,rfl,by decide +kernel,by decide +kernel⟩
abbrev qbd:Stmt:=top 8
theorem sc_refuse_strange:FnScope ["names","known","name"] ["names","known"] (qah qbd):=⟨rfl,rfl,rfl,by decide +kernel,rfl,by decide +kernel,by decide +kernel⟩
abbrev qbi:Stmt:=top 12
theorem qeK:FnScope ["roads","walk"] ["roads","walk"] (qah qbi):=⟨rfl,rfl,rfl,by decide +kernel,rfl,by decide +kernel,by decide +kernel⟩
abbrev qbX:Stmt:=top 13
theorem sc_walks_from:FnScope ["roads","start","walks","waiting","place","number","road"] ["roads","start"] (qah qbX):=⟨rfl,rfl,rfl,by decide +kernel,rfl,by decide +kernel,by decide +kernel⟩
abbrev qa5:Stmt:=top 14
theorem sc_useful_places:FnScope ["places","roads","start","goal","reached"] ["places","roads","start","goal"] (qah qa5):=⟨rfl,rfl,rfl,by decide +kernel,rfl,by decide +kernel,by decide +kernel⟩
abbrev qba:Stmt:=top 15
theorem qej:FnScope ["roads","places"] ["roads","places"] (qah qba):=⟨rfl,rfl,rfl,by decide +kernel,rfl,by decide +kernel,by decide +kernel⟩
abbrev qcl:Stmt:=top 16
theorem sc_shortened:FnScope ["roads","numbers","walks","shorter","number","road","walk"] ["roads","numbers","walks"] (qah qcl):=⟨rfl,rfl,rfl,by decide +kernel,rfl,by decide +kernel,by decide +kernel⟩
abbrev qbV:Stmt:=top 17
theorem sc_ring_parts:FnScope ["roads","start","walk","came","place","number","end"] ["roads","start","walk"] (qah qbV):=⟨rfl,rfl,rfl,by decide +kernel,rfl,by decide +kernel,by decide +kernel⟩
abbrev qbe:Stmt:=top 18
theorem sc_shortest_walks:FnScope ["roads","places","start","numbers","walks","turn","last","place"] ["roads","places","start"] (qah qbe):=⟨rfl,rfl,rfl,by decide +kernel,rfl,by decide +kernel,by decide +kernel⟩
abbrev qbo:Stmt:=top 20
theorem sc_refuse_roads:FnScope ["places","roads","start","goal","leg"] ["places","roads","start","goal"] (qah qbo):=⟨rfl,rfl,rfl,by decide +kernel,rfl,by decide +kernel,by decide +kernel⟩
abbrev qe6:Stmt:=top 21
theorem sc_road:FnScope ["places","roads","start","goal","reached","told","ring","walks","heights"] ["places","roads","start","goal"] (qah qe6):=⟨rfl,rfl,rfl,by decide +kernel,rfl,by decide +kernel,by decide +kernel⟩
abbrev qb9:Stmt:=top 23
theorem sc__law_pool:FnScope ["_law_script","_law_at","_law_rest"] ["_law_script","_law_at"] (qah qb9):=⟨rfl,rfl,rfl,by decide +kernel,rfl,by decide +kernel,by decide +kernel⟩
abbrev qcj:Stmt:=top 24
theorem sc__law_next:FnScope ["_law_pool_here","_law_size","_law_drawn","_law_cell","_law_stir"] ["_law_pool_here","_law_size"] (qah qcj):=⟨rfl,rfl,rfl,by decide +kernel,rfl,by decide +kernel,by decide +kernel⟩
abbrev qca:Stmt:=top 25
theorem qgz:FnScope ["_law_pool_here","_law_size"] ["_law_pool_here","_law_size"] (qah qca):=⟨rfl,rfl,rfl,by decide +kernel,rfl,by decide +kernel,by decide +kernel⟩
abbrev qb0:Stmt:=top 26
theorem sc__law_names:FnScope ["_law_pool_here","_law_count","_law_way","_law_turn","_law_at","_law_names_here","_law_k","_law_letter","_law_odd"] ["_law_pool_here","_law_count"] (qah qb0):=⟨rfl,rfl,rfl,by decide +kernel,rfl,by decide +kernel,by decide +kernel⟩
abbrev qbc:Stmt:=top 27
theorem sc__law_heights:FnScope ["_law_pool_here","_law_many","_law_size"] ["_law_pool_here","_law_many"] (qah qbc):=⟨rfl,rfl,rfl,by decide +kernel,rfl,by decide +kernel,by decide +kernel⟩
abbrev qcb:Stmt:=top 28
theorem qgb:FnScope ["_law_pool_here","_law_roads","_law_one"] ["_law_pool_here","_law_roads","_law_one"] (qah qcb):=⟨rfl,rfl,rfl,by decide +kernel,rfl,by decide +kernel,by decide +kernel⟩
abbrev qcm:Stmt:=top 29
theorem sc__law_ring:FnScope ["_law_pool_here","_law_roads","_law_places","_law_heights_here","_law_begin","_law_at","_law_rest","_law_short","_law_k","_law_end"] ["_law_pool_here","_law_roads","_law_places","_law_heights_here","_law_begin"] (qah qcm):=⟨rfl,rfl,rfl,by decide +kernel,rfl,by decide +kernel,by decide +kernel⟩
abbrev qbp:Stmt:=top 30
theorem sc__law_planted:FnScope ["_law_pool_here","_law_heights_here","_law_many","_law_places","_law_roads","_law_at","_law_passed","_law_k","_law_end","_law_one","_law_other","_law_size","_law_slack","_law_way","_law_pair","_law_asked"] ["_law_pool_here"] (qah qbp):=⟨rfl,rfl,rfl,by decide +kernel,rfl,by decide +kernel,by decide +kernel⟩
abbrev qbA:Stmt:=top 31
theorem sc__law_spread:FnScope ["_law_roads","_law_begin","_law_side","_law_seen","_law_k","_law_one"] ["_law_roads","_law_begin","_law_side"] (qah qbA):=⟨rfl,rfl,rfl,by decide +kernel,rfl,by decide +kernel,by decide +kernel⟩
abbrev qbk:Stmt:=top 32
theorem sc__law_useful:FnScope ["_law_places","_law_roads","_law_start","_law_goal","_law_ahead","_law_behind"] ["_law_places","_law_roads","_law_start","_law_goal"] (qah qbk):=⟨rfl,rfl,rfl,by decide +kernel,rfl,by decide +kernel,by decide +kernel⟩
abbrev qbS:Stmt:=top 33
theorem qfe:FnScope ["_law_told"] ["_law_told"] (qah qbS):=⟨rfl,rfl,rfl,by decide +kernel,rfl,by decide +kernel,by decide +kernel⟩
abbrev qbE:Stmt:=top 34
theorem sc__law_walked:FnScope ["_law_roads","_law_walk","_law_place","_law_number"] ["_law_roads","_law_walk","_law_place"] (qah qbE):=⟨rfl,rfl,rfl,by decide +kernel,rfl,by decide +kernel,by decide +kernel⟩
abbrev qbN:Stmt:=top 35
theorem qf8:FnScope ["_law_roads","_law_walk"] ["_law_roads","_law_walk"] (qah qbN):=⟨rfl,rfl,rfl,by decide +kernel,rfl,by decide +kernel,by decide +kernel⟩
abbrev qcp:Stmt:=top 36
theorem sc__law_high:FnScope ["_law_places","_law_roads","_law_useful_here","_law_heights_here","_law_place","_law_height","_law_one","_law_low","_law_high_here"] ["_law_places","_law_roads","_law_useful_here","_law_heights_here"] (qah qcp):=⟨rfl,rfl,rfl,by decide +kernel,rfl,by decide +kernel,by decide +kernel⟩
abbrev qbr:Stmt:=top 37
theorem sc__law_right:FnScope ["_law_asked","_law_told","_law_places","_law_roads","_law_start","_law_goal","_law_ahead","_law_place","_law_useful_here"] ["_law_asked","_law_told"] (qah qbr):=⟨rfl,rfl,rfl,by decide +kernel,rfl,by decide +kernel,by decide +kernel⟩
abbrev qk0:Stmt:=top 38
theorem sc_law:FnScope ["_law_script","_law_asked","_law_ring_here","_law_rise","_law_told"] ["_law_script"] (qah qk0):=⟨rfl,rfl,rfl,by decide +kernel,rfl,by decide +kernel,by decide +kernel⟩
theorem toB {R:D→Prop} {a b:Bool} (q:R (.bl a)) (e:b=a):R (.bl b):=e ▸ q
def qdz:SpD:=fun ds R=>∃ (a b:Int),ds=[.int a,.int b]∧a≤b∧R .non
theorem qeN {n:Nat} {f:Addr} {fd:FuncData} (F:Fun K "refuse_more" "refuse_more" qbC f fd) :FnOk P w K mg base CX0 (n+1) f fd ["count","most"] (lSp K qdz):=by
  refine F.okD qeL (fun ds R h=>?_) (fun cdv A outer s H E ds R hr h=>?_)
  · obtain ⟨a,b,rfl,_⟩:=h;rfl
  obtain ⟨a,b,rfl,h,q⟩:=h
  refine ⟨_,(qaX (qfb (qaS qlX (dvq 0) (dvq 1) (qaz _)) (qaX qjW) qb5)),?_⟩
  exact ⟨fun e=>by have:=dP e;omega,fun _=>q⟩
theorem qa8 (xs:List Str):xs.map D.str=(xs.map Sum.inr).map qeJ:=by rw [List.map_map];rfl
theorem qcd {x:Str} {xs:List Str}:qfV (.inr x) (xs.map Sum.inr)=decide (x∈xs):=by
  by_cases c:x∈xs
  · rw [decide_eq_true c,(qhT _ _).mpr (List.mem_map.mpr ⟨x,c,rfl⟩)]
  · rw [decide_eq_false c]
    cases h:qfV (.inr x) (xs.map Sum.inr) with
    | false=>rfl
    | true =>
      obtain ⟨y,hy,e⟩:=List.mem_map.mp ((qhT _ _).mp h)
      cases e
      exact absurd hy c
theorem qfm {d:D} {ds:List D} {R:List D→Prop} {ρ:Rho} (h:qfc d=some ds) (q:R ds):qqq (fun _ k=>k d) ρ R:=by
  cases d with
  | lst _=>cases h;exact q
  | tup _=>cases h;exact q
  | fzl _=>cases h;exact q
  | _=>cases h
def qct:SpD:=fun ds R=>∃ (d e:D) (xs ys:List Str),ds=[d,e]∧qfc d=some (xs.map D.str)∧qfc e=some (ys.map D.str)∧(∀ x∈xs,x∈ys)∧R .non
theorem qdJ {n:Nat} {f:Addr} {fd:FuncData} (F:Fun K "refuse_strange" "refuse_strange" qbd f fd) :FnOk P w K mg base CX0 (n+1) f fd ["names","known"] (lSp K qct):=by
  refine F.okD sc_refuse_strange (fun ds R h=>?_) (fun cdv A outer s H E ds R hr h=>?_)
  · obtain ⟨d,e,xs,ys,rfl,_⟩:=h;rfl
  obtain ⟨d,e,xs,ys,rfl,hd,he,hx,q⟩:=h
  refine ⟨_,(qaX (qg1 PassesOwn.never rfl (qcT (dv 0)) (qbb (i:=2) sc_refuse_strange.nd rfl (Or.inl rfl)) (qaX (qfb (qaS qfq (dvq 2) (dvq 1) (by with_unfolding_all rfl)) (qaX qjW) qb5)))),?_⟩
  refine qfm (ρ:=[]) hd ?_
  refine ⟨fun i ρ=>∃ u2:Option Sl,ρ=[some (.v d),some (.v e),u2],⟨_,rfl⟩,?_,?_⟩
  · rintro i f ρ hf ⟨u2,rfl⟩
    obtain ⟨x,rfl,hx2⟩:=qbf hf
    have hm:=hx x (List.mem_of_getElem? hx2)
    refine ⟨.inr x,ys.map Sum.inr,rfl,by rw [← qa8];exact he,?_⟩
    rw [qcd,decide_eq_true hm]
    exact ⟨fun h=>(by cases h),fun _=>⟨_,rfl⟩⟩
  · rintro ρ ⟨u2,rfl⟩
    exact q
open Wl
abbrev Rod:=Str × Str × Int
def rdD (r:Rod):D:=.tup [.str r.1,.str r.2.1,.int r.2.2]
def qaW (l:List Nat):D:=.tup (l.map fun n=>D.int (n:Nat))
def wKV (x:Str × List Nat):Key × D:=(.inr x.1,qaW x.2)
theorem qbZ (W:List (Str × List Nat)) (p:Str):qdU (W.map wKV) (.inr p)=(qam W p).map qaW:=by
  induction W with
  | nil=>rfl
  | cons x W ih =>
    rw [qaA]
    unfold qdU at ih ⊢
    rw [List.map_cons]
    by_cases c:x.1=p
    · rw [List.find?_cons_of_pos (by simp [wKV,c]),if_pos c];rfl
    · rw [List.find?_cons_of_neg (by simp [wKV,c]),if_neg c,ih]
theorem qiR (W:List (Str × List Nat)) (p:Str) (l:List Nat):qiC (W.map wKV) (.inr p) (qaW l)=(qcu W p l).map wKV:=by
  have h1:=qc4 (W.map wKV) (.inr p)
  rw [qbZ,Option.isSome_map,← qnh] at h1
  unfold qiC qcu
  rw [← h1]
  split
  · rw [List.map_map,List.map_map]
    refine List.map_congr_left fun x _=>?_
    show (if (Sum.inr x.1:Key)=Sum.inr p then _ else _)=wKV (if x.1=p then _ else _)
    by_cases c:x.1=p
    · rw [if_pos (by rw [c]),if_pos c];rfl
    · rw [if_neg (fun e=>c (Sum.inr.inj e)),if_neg c]
  · rw [List.map_append];rfl
theorem qe1 {α β:Type} (f:β→α→β) (l:List α) (s:β) {i:Nat} {x:α} (h:l[i]?=some x):(l.take (i+1)).foldl f s=f ((l.take i).foldl f s) x:=by
  rw [List.take_add_one,h,List.foldl_append]
  rfl
theorem qhx {κ β:Type} [DecidableEq κ] (l:List (κ × β)) (k:κ) (v:β):(qcu l k v).length≤l.length+1:=by
  unfold qcu
  split
  · rw [List.length_map];omega
  · rw [List.length_append];exact Nat.le_refl _
theorem qjZ (p:Str) (s:List (Str × List Nat) × List Str) (x:Rod × Nat):(qaT p s x).1.length+s.2.length=s.1.length+(qaT p s x).2.length:=by
  unfold qaT
  split
  · next c =>
    show (qcu s.1 _ _).length+s.2.length=s.1.length+(s.2++[x.1.2.1]).length
    rw [qfp c.2,List.length_append,List.length_append]
    show s.1.length+1+_=_+(_+1)
    omega
  · rfl
theorem qfG (p:Str):∀ (l:List (Rod × Nat)) (s:List (Str × List Nat) × List Str),(l.foldl (qaT p) s).1.length+s.2.length=s.1.length+(l.foldl (qaT p) s).2.length
  | [],s=>rfl
  | x::l,s=>by
    have h1:=qjZ p s x
    have h2:=qfG p l (qaT p s x)
    rw [List.foldl_cons]
    omega
def qi2 (s:List (Str × List Nat)):Prop:=∀ x l,qam s x=some l→l.length<s.length
theorem qia {p:Str} {s:List (Str × List Nat) × List Str} {x:Rod × Nat} (h:qi2 s.1) (hp:qam s.1 p≠none):qi2 (qaT p s x).1:=by
  unfold qaT
  split
  · next c =>
    intro y l hl
    have hl:qam (qcu s.1 x.1.2.1 ((qam s.1 p).getD []++[x.2])) y=some l:=hl
    show l.length<(qcu s.1 _ _).length
    rw [qfp c.2,List.length_append]
    rw [qa0] at hl
    by_cases e:y=x.1.2.1
    · rw [if_pos e] at hl
      cases hl
      cases hg:qam s.1 p with
      | none=>exact absurd hg hp
      | some w =>
        have:=h p w hg
        show (w++[x.2]).length<_
        rw [List.length_append]
        show w.length+1<_+1
        omega
    · rw [if_neg e] at hl
      have:=h y l hl
      omega
  · exact h
theorem qdD {p:Str}:∀ (l:List (Rod × Nat)) (s:List (Str × List Nat) × List Str),qi2 s.1→qam s.1 p≠none→qi2 (l.foldl (qaT p) s).1
  | [],_,h,_=>h
  | x::l,s,h,hp=>by
    rw [List.foldl_cons]
    refine qdD l _ (qia h hp) ?_
    cases hg:qam s.1 p with
    | none=>exact absurd hg hp
    | some w=>rw [qdG hg];simp
def qcz:SpD:=fun ds R=>∃ (d:D) (rs:List Rod) (a:Str),ds=[d,.str a]∧qfc d=some (rs.map rdD)∧rs.length≤100∧R (.map ((qaL rs a).map wKV))
theorem qhC (l:List Nat) (n:Nat):(l.map fun n=>D.int (n:Nat))++[D.int (n:Nat)]=(l++[n]).map fun n=>D.int (n:Nat):=by rw [List.map_append];rfl
theorem qfj {n:Nat} {f:Addr} {fd:FuncData} (F:Fun K "walks_from" "walks_from" qbX f fd) (z_len:mg "len"=none) (z_enumerate:mg "enumerate"=none):FnOk P w K mg base CX0 (n+1) f fd ["roads","start"] (qfA K (zM qcz)):=by
  refine F.okM sc_walks_from (fun as R Rx h=>?_) (fun cdv A outer s H E as R Rx qs hcd hr h hqs=>?_)
  · obtain ⟨_,rfl,d,rs,a,rfl,_⟩:=h;rfl
  obtain ⟨_,rfl,d,rs,a,rfl,hd,hl,q⟩:=h
  obtain rfl:=qmz hqs
  refine ⟨_,(qaq (qaO (i:=2) sc_walks_from.nd rfl (Or.inl rfl) (qjk (dv 1) (qbK qav)))
      (qaq (qaO (i:=3) sc_walks_from.nd rfl (Or.inl rfl) (qmZ (qip (qad (dv 1) qav qaa))))
      (qaq (qlC PassesOwn.never (qcv (qaS qlX (PD.q (qaR qb1 rfl z_len PySem.boot_len (qaB (dvq 3) qaQ qaa) qaa qag)) (PD.q qaf) (qaz _))) (qaq (qaO (i:=4) sc_walks_from.nd rfl (Or.inl rfl) (qpa 3))
      (qaN (qeo PassesOwn.never rfl (qeQ (qhl rfl z_enumerate (qad (dv 0) qav qaa))) (qmK (n:=2) rfl (qc6 (qbv (i:=5) sc_walks_from.nd rfl (Or.inl rfl)) (qc6 (qbv (i:=6) sc_walks_from.nd rfl (Or.inl rfl)) qjv))) (qaN (qeS (PXW.toB (qov (qcv (qaS (qfO hr.units) (PD.q (qaI (dvq 6) (PD.q qaf) (fun _ _=>rfl))) (dvq 4) (qaz _))) (qlO (qgo 2 hr.units (qaI (dvq 6) (PD.q qaf) (fun _ _=>rfl)))))) (qaq (qlT 2 hr.units (qaI (dvq 6) (PD.q qaf) (fun _ _=>rfl)) (qks qbF (qls 2 hr.units (dv 4) (fun _ _=>rfl)) (qaP (qbK (qad (dv 5) qav qaa)))))
      (qaN (qcc 3 (qaP (qaI (dvq 6) (PD.q qaf) (fun _ _=>rfl))) (qcA qab) qab))) qb2))))))
      (qaN (qcS (qn7 (qiP 2))))))),?_⟩
  obtain ⟨s1,s2,s3⟩:=qfo rs a
  have hop:qb3 rs ([(a,[])]:List (Str × List Nat))≤rs.length:=List.length_filter_le _ _
  refine ⟨.inr a,rfl,?_⟩
  refine ⟨fun m ρ=>∃ (W:List (Str × List Nat)) (qs:List Str) (u4 u5 u6:Option Sm),ρ=[some (.v d),some (.v (.str a)),some (.ob none (.map (W.map wKV))),some (.own (qs.map D.str)),u4,u5,u6]∧Wv rs a (W,qs)∧qcR rs m (W,qs)=qaL rs a∧qs.length+qb3 rs W≤m∧qi2 W∧W.length+qb3 rs W≤rs.length+1∧qs.length≤W.length,
    ⟨rs.length+1,[(a,[])],[a],_,_,_,rfl,s1,rfl,s3,?_,(by show 1+_≤_;omega),Nat.le_refl _⟩,?_⟩
  · intro x l h
    rw [qaA] at h
    by_cases c:a=x
    · rw [if_pos c] at h;cases h;exact Nat.zero_lt_one
    · rw [if_neg c] at h;cases h
  rintro m ρ ⟨W,qs,u4,u5,u6,rfl,hW,hF,hm,hS,hB,hqW⟩
  refine ⟨fun c=>?_,fun c=>?_⟩
  · have c:=dP c
    rw [List.length_map] at c
    have hne:qs≠[]:=fun e=>by rw [e] at c;exact absurd c (by decide)
    have hq':=(List.dropLast_concat_getLast hne).symm
    have hlen:qs.dropLast.length+1=qs.length:=by rw [List.length_dropLast];omega
    generalize hp:qs.getLast hne=p at hq'
    have hpq:p∈qs:=by rw [hq'];exact List.mem_append_right _ (List.mem_singleton.mpr rfl)
    have h0:Wv rs a (W,qs.dropLast):=⟨hW.s0,hW.w,fun x hx=>hW.q x (by rw [hq'];exact List.mem_append_left _ hx)⟩
    have hgp:=hW.q p hpq
    obtain ⟨m,rfl⟩:∃ m',m=m'+1:=⟨m - 1,by omega⟩
    have hstep:qcR rs (m+1) (W,qs)=qcR rs m (qdS rs p (W,qs.dropLast)):=by
      have:(W,qs).2.getLast?=some p:=by show qs.getLast?=some p;rw [List.getLast?_eq_some_getLast hne,hp]
      conv=>lhs;unfold qcR;rw [this]
    have hz:∀ i,(∀ x∈rs.zipIdx.take i,rs[x.2]?=some x.1):=fun i x hx=>qcK (List.mem_of_mem_take hx)
    refine ⟨.str p,?_,qs.dropLast.map D.str,by rw [List.map_dropLast],?_⟩
    · rw [hq',List.map_append]
      rw [List.getElem?_append_right (by rw [List.length_append];show _≤_+1 - 1;omega)]
      rw [List.length_append]
      show [D.str p][_+1 - 1 - _]?=_
      rw [Nat.add_sub_cancel,Nat.sub_self];rfl
    refine ⟨_,hd,fun i ρ=>∃ (u5 u6:Option Sm),ρ=[some (.v d),some (.v (.str a)),some (.ob none (.map (((rs.zipIdx.take i).foldl (qaT p) (W,qs.dropLast)).1.map wKV))),some (.own (((rs.zipIdx.take i).foldl (qaT p) (W,qs.dropLast)).2.map D.str)),some (.v (.str p)),u5,u6],⟨_,_,rfl⟩,?_,?_⟩
    · rintro i e ρ he ⟨u5,u6,rfl⟩
      obtain ⟨r',hr',rfl⟩:=qfB he
      obtain ⟨r,rfl,hr⟩:=qbf hr'
      have hxi:rs.zipIdx[i]?=some (r,i):=by rw [List.getElem?_zipIdx,hr];simp
      have hf:=qe1 (qaT p) rs.zipIdx (W,qs.dropLast) hxi
      obtain ⟨r1,r2,_,_,_,r6⟩:=qcE (p:=p) (rs.zipIdx.take i) (W,qs.dropLast) (hz i) h0 hgp
      have hfl:=qfG p (rs.zipIdx.take i) (W,qs.dropLast)
      have hsh:=qdD (p:=p) (rs.zipIdx.take i) (W,qs.dropLast) hS hgp
      generalize (rs.zipIdx.take i).foldl (qaT p) (W,qs.dropLast)=s' at hf r1 r2 r6 hfl hsh
      obtain ⟨W',q'⟩:=s'
      have r6:q'.length+qb3 rs W'≤qs.dropLast.length+qb3 rs W:=r6
      have hfl:W'.length+qs.dropLast.length=W.length+q'.length:=hfl
      refine ⟨rfl,_,rfl,fun c=>?_,fun c=>?_⟩
      · have c1:r.1=p:=eq_of_beq c
        refine ⟨_,rfl,.inr r.2.1,rfl,fun c2=>?_,fun c2=>?_⟩
        · rw [qbZ,qdx,Option.isSome_map] at c2
          have c3:qam W' r.2.1=none:=by
            cases hg:qam W' r.2.1 with
            | none=>rfl
            | some w=>rw [hg] at c2;cases c2
          cases hg:qam W p with
          | none=>exact absurd hg hgp
          | some w =>
            have hg':=r2 p w hg
            have hst:qaT p (W',q') (r,i)=(qcu W' r.2.1 (w++[i]),q'++[r.2.1]):=by
              unfold qaT
              rw [if_pos ⟨c1,c3⟩]
              show (qcu W' r.2.1 ((qam W' p).getD []++[i]),_)=_
              rw [hg'];rfl
            have hwl:w.length<W'.length:=hsh p w hg'
            refine ⟨.inr p,rfl,qaW w,by rw [qbZ,hg'];rfl,qeO (by rw [List.length_map];show _+1≤1000;omega),_,qhC w i,trivial,_,rfl,.inr r.2.1,rfl,?_,_,qiR W' r.2.1 (w++[i]),_,rfl,?_,_,qkJ D.str q' r.2.1,some (.v (.int (i:Int))),some (.v (rdD r)),?_⟩
            · rw [List.length_map];exact qay (by show W'.length≤1000;omega)
            · rw [List.length_map];exact qay (by show q'.length≤1000;omega)
            · rw [hf,hst];rfl
        · rw [qbZ,qdx,Option.isSome_map] at c2
          have hst:qaT p (W',q') (r,i)=(W',q'):=by
            unfold qaT
            rw [if_neg fun z=>?_]
            have z2:qam W' r.2.1=none:=z.2
            rw [z2] at c2;cases c2
          refine ⟨some (.v (.int (i:Int))),some (.v (rdD r)),?_⟩
          rw [hf,hst];rfl
      · have hst:qaT p (W',q') (r,i)=(W',q'):=by
          unfold qaT
          rw [if_neg fun z=>?_]
          have z1:r.1=p:=z.1
          have:(r.1 == p)=false:=c
          rw [z1,beq_self_eq_true] at this;cases this
        refine ⟨fun h=>(by cases h),fun _=>⟨some (.v (.int (i:Int))),some (.v (rdD r)),?_⟩⟩
        rw [hf,hst];rfl
    · rintro ρ ⟨u5,u6,rfl⟩
      have hLl:(qdW (rs.map rdD)).length=rs.zipIdx.length:=by unfold qdW;simp
      rw [hLl,List.take_length]
      obtain ⟨r1,r2,_,_,_,r6⟩:=qcE (p:=p) rs.zipIdx (W,qs.dropLast) (fun x hx=>qcK hx) h0 hgp
      have hfl:=qfG p rs.zipIdx (W,qs.dropLast)
      have hsh:=qdD (p:=p) rs.zipIdx (W,qs.dropLast) hS hgp
      have hro:qdS rs p (W,qs.dropLast)=rs.zipIdx.foldl (qaT p) (W,qs.dropLast):=rfl
      rw [hstep,hro] at hF
      generalize rs.zipIdx.foldl (qaT p) (W,qs.dropLast)=s' at r1 r2 r6 hfl hsh hF
      obtain ⟨W',q'⟩:=s'
      have r6:q'.length+qb3 rs W'≤qs.dropLast.length+qb3 rs W:=r6
      have hfl:W'.length+qs.dropLast.length=W.length+q'.length:=hfl
      exact ⟨m,by omega,W',q',_,_,_,rfl,r1,hF,by omega,hsh,by omega,by omega⟩
  · have c:=of_decide_eq_false c
    rw [List.length_map] at c
    have hq0:qs=[]:=List.length_eq_zero_iff.mp (by omega)
    subst hq0
    have:W=qaL rs a:=by
      rw [← hF]
      cases m with
      | zero=>rfl
      | succ m=>rfl
    rw [← this] at q
    exact q
section
variable {κ : Type} [DecidableEq κ]
theorem qft {l:List κ} {x:κ} {d:D} (h:x∉l):qdU (l.map fun k=>(k,d)) x=none:=by
  unfold qdU
  rw [List.find?_eq_none.mpr fun kv hkv=>?_]
  · rfl
  obtain ⟨k,hk,rfl⟩:=List.mem_map.mp hkv
  intro e
  have:=of_decide_eq_true e
  exact h (this ▸ hk)
theorem qdL {l:List κ} {i:Nat} {x:κ} (hn:l.Nodup) (hx:l[i]?=some x):x∉l.take i:=fun hm=>by
  obtain ⟨j,hj⟩:=List.getElem?_of_mem hm
  have hji:j<i:=by have:=qai hj;rw [List.length_take] at this;omega
  rw [List.getElem?_take_of_lt hji] at hj
  have hi:=qai hx
  have:=(List.getElem?_inj (by omega) hn).mp (hj.trans hx.symm)
  omega
theorem qgx {l:List κ} {i:Nat} {x:κ} {d:D} (hn:l.Nodup) (hx:l[i]?=some x):qiC ((l.take i).map fun k=>(k,d)) x d=(l.take (i+1)).map fun k=>(k,d):=by
  rw [qkM (qft (qdL hn hx)),List.take_add_one,hx,List.map_append]
  rfl
end
def qqc (ks:List Key):D:=.tup (ks.map qeJ)
def qcZ:SpD:=fun ds R=>∃ d:D,ds=[d]∧((∃ xs:List Key,qfc d=some (xs.map qeJ)∧xs.Nodup∧xs.length≤1000)∨∃ xs:List (List Key),qfc d=some (xs.map qqc)∧xs.Nodup∧xs.length≤1000)∧R .non
theorem qeG {n:Nat} {f:Addr} {fd:FuncData} (F:Fun K "refuse_twice" "refuse_twice" qbq f fd) :FnOk P w K mg base CX0 (n+1) f fd ["names"] (qfA K (zM qcZ)):=by
  refine F.okM sc_refuse_twice (fun as R Rx h=>?_) (fun cdv A outer s H E as R Rx qs hcd hr h hqs=>?_)
  · obtain ⟨_,rfl,d,rfl,_⟩:=h;rfl
  obtain ⟨_,rfl,d,rfl,hd,q⟩:=h
  obtain rfl:=qmz hqs
  rcases hd with ⟨xs,hd,hn,hl⟩ | ⟨xs,hd,hn,hl⟩
  · refine ⟨_,(qaq (qaO (i:=1) sc_refuse_twice.nd rfl (Or.inl rfl) qmU)
      (qaN (qeo PassesOwn.never rfl (qeQ (qcT (dv 0))) (qbv (i:=2) sc_refuse_twice.nd rfl (Or.inl rfl)) (qcU (qeS (qlg 1 hr.units (dv 2)) (qaN qi1) qb2)
      (qaN (qjh 1 hr.units (dv 2) qdE)))))),?_⟩
    refine qfm (ρ:=[]) hd ?_
    refine ⟨fun i ρ=>∃ u2:Option Sm,ρ=[some (.v d),some (.ob none (.map ((xs.take i).map fun k=>(k,D.bl true)))),u2],⟨_,rfl⟩,?_,?_⟩
    · rintro i e ρ he ⟨u2,rfl⟩
      obtain ⟨x,rfl,hx⟩:=qbf he
      have hi:=qai hx
      have hf:=qft (d:=.bl true) (qdL hn hx)
      refine ⟨fun ρ=>ρ=[some (.v d),some (.ob none (.map ((xs.take i).map fun k=>(k,D.bl true)))),some (.v (qeJ x))],⟨x,rfl,fun h=>?_,fun _=>rfl⟩,?_⟩
      · rw [hf] at h;cases h
      rintro ρ rfl
      exact ⟨trivial,x,rfl,by rw [List.length_map,List.length_take];exact qay (by omega),_,qgx hn hx,_,rfl⟩
    · rintro ρ ⟨u2,rfl⟩
      exact q
  · refine ⟨_,(qaq (qaO (i:=1) sc_refuse_twice.nd rfl (Or.inl rfl) qlE)
      (qaN (qeo PassesOwn.never rfl (qeQ (qcT (dv 0))) (qbv (i:=2) sc_refuse_twice.nd rfl (Or.inl rfl)) (qcU (qeS (qmp 1 hr.units (dv 2)) (qaN qi1) qb2)
      (qaN (qmT 1 hr.units (dv 2) qdE)))))),?_⟩
    refine qfm (ρ:=[]) hd ?_
    refine ⟨fun i ρ=>∃ u2:Option Sm,ρ=[some (.v d),some (.ob none (.mpT ((xs.take i).map fun k=>(k,D.bl true)))),u2],⟨_,rfl⟩,?_,?_⟩
    · rintro i e ρ he ⟨u2,rfl⟩
      obtain ⟨x,rfl,hx⟩:=qbf he
      have hi:=qai hx
      have hf:=qft (d:=.bl true) (qdL hn hx)
      refine ⟨fun ρ=>ρ=[some (.v d),some (.ob none (.mpT ((xs.take i).map fun k=>(k,D.bl true)))),some (.v (qqc x))],⟨x,rfl,fun h=>?_,fun _=>rfl⟩,?_⟩
      · rw [hf] at h;cases h
      rintro ρ rfl
      exact ⟨trivial,x,rfl,by rw [List.length_map,List.length_take];exact qay (by omega),_,qgx hn hx,_,rfl⟩
    · rintro ρ ⟨u2,rfl⟩
      exact q
open Wl
def qal (ps:List Str) (rs:List Rod) (a g:Str):List Str:=ps.filter fun p=>(qam (qaL rs a) p).isSome && (qam (qaL rs p) g).isSome
theorem useful_mem {ps:List Str} {rs:List Rod} {a g p:Str}:p∈qal ps rs a g↔p∈ps∧Rch rs a p∧Rch rs p g:=by
  unfold qal
  rw [List.mem_filter,Bool.and_eq_true,walksF_some,walksF_some]
theorem qdk (W:List (Str × List Nat)) (p:Str):(qdU (W.map wKV) (.inr p)).isSome=(qam W p).isSome:=by rw [qbZ,Option.isSome_map]
def qcG:SpD:=fun ds R=>∃ (d e:D) (ps:List Str) (rs:List Rod) (a g:Str),ds=[d,e,.str a,.str g]∧qfc d=some (ps.map D.str)∧qfc e=some (rs.map rdD)∧ps.length≤100∧rs.length≤100∧R (.tup ((qal ps rs a g).map D.str))
theorem qdX {n:Nat} {f:Addr} {fd:FuncData} (F:Fun K "useful_places" "useful_places" qa5 f fd) (Q_walks_from:Cl P w K mg base n "walks_from" ["roads","start"] qcz) (z_tuple:mg "tuple"=none):FnOk P w K mg base CX0 (n+1) f fd ["places","roads","start","goal"] (lSp K qcG):=by
  refine F.okD sc_useful_places (fun ds R h=>?_) (fun cdv A outer s H E ds R hr h=>?_)
  · obtain ⟨d,e,ps,rs,a,g,rfl,_⟩:=h;rfl
  obtain ⟨d,e,ps,rs,a,g,rfl,hd,he,hl,hr',q⟩:=h
  refine ⟨_,(qaZ (qcx (i:=4) sc_useful_places.nd rfl (Or.inr rfl) (qaK Q_walks_from hr rfl (qad (dv 1) (qad (dv 2) qav qaa) qaa) qaa (qac qaa qag)))
      (qaX (qbm (qbT qc9 rfl z_tuple PyProof.Rows.boot_tuple (qaB (PD.q (PF.d (qgQ (k:=1) (N':=["place","reached","goal","roads"]) (cap:=[none,some 4,some 3,some 1]) rfl (.ok (show qcy ["places","roads","start","goal","reached"] (qah qa5) _ ["place","reached","goal","roads"] [none,some 4,some 3,some 1]=true by decide +kernel)) (by decide +kernel) (qdn (by decide)) (qcT (dv 0)) (fun _ _ _ _ _=>(qbb (i:=0) (show List.Nodup (["place","reached","goal","roads"]:List Str) by decide +kernel) rfl (Or.inl rfl))) (fun _ _ _ _ _=>(qfX (PWD.td (qgL (qiJ hr.units (dv 0) (dv 1)) (qdQ (qiJ hr.units (dv 2) (qaK Q_walks_from hr rfl (qad (dv 3) (qad (dv 0) qav qaa) qaa) qaa (qac qaa qag)))))))) (fun _ _ _ _ _=>(dv 0))))) qaQ qaF) qaF qag)))),?_⟩
  refine ⟨e,rs,a,rfl,he,hr',?_⟩
  refine qfm (ρ:=[]) hd ?_
  refine ⟨by rw [List.length_map];exact qay (by omega),fun i y=>qli (fun p=>(qam (qaL rs a) p).isSome && (qam (qaL rs p) g).isSome) D.str ps[i]? y,qdj (fun p _=>?_),fun ys hl hy=>by rw [qeB hl hy];exact q⟩
  refine ⟨.inr p,rfl,fun h=>?_,fun h=>?_⟩
  · rw [qbh,qdk] at h
    refine ⟨e,rs,p,rfl,he,hr',.inr g,rfl,fun h2=>?_,fun h2=>?_⟩
    · rw [qbh,qdk] at h2
      exact ⟨by rw [h,h2];rfl,rfl⟩
    · rw [qbh,qdk] at h2
      show ((qam (qaL rs a) p).isSome && (qam (qaL rs p) g).isSome)=false
      rw [h2,Bool.and_false]
  · rw [qbh,qdk] at h
    exact ⟨fun h2=>(by cases h2),fun _=>by show ((qam (qaL rs a) p).isSome && (qam (qaL rs p) g).isSome)=false;rw [h];rfl⟩
def qan (rs:List Rod) (us:List Str):List Nat:=(rs.zipIdx.filter fun x=>decide (x.1.1∈us) && decide (x.1.2.1∈us)).map (·.2)
theorem within_mem {rs:List Rod} {us:List Str} {n:Nat}:n∈qan rs us↔∃ r,rs[n]?=some r∧r.1∈us∧r.2.1∈us:=by
  unfold qan
  rw [List.mem_map]
  constructor
  · rintro ⟨x,hx,rfl⟩
    obtain ⟨h1,h2⟩:=List.mem_filter.mp hx
    rw [Bool.and_eq_true] at h2
    exact ⟨x.1,qcK h1,of_decide_eq_true h2.1,of_decide_eq_true h2.2⟩
  · rintro ⟨r,hr,h1,h2⟩
    refine ⟨(r,n),List.mem_filter.mpr ⟨List.mem_of_getElem? (i:=n) (by rw [List.getElem?_zipIdx,hr];simp),?_⟩,rfl⟩
    rw [Bool.and_eq_true]
    exact ⟨decide_eq_true h1,decide_eq_true h2⟩
def qc0:SpD:=fun ds R=>∃ (d e:D) (rs:List Rod) (us:List Str),ds=[d,e]∧qfc d=some (rs.map rdD)∧qfc e=some (us.map D.str)∧rs.length≤100∧R (.tup ((qan rs us).map fun n=>D.int (n:Nat)))
theorem qqK (rs:List Rod) (us:List Str):((rs.zipIdx.filter fun x:Rod × Nat=>decide (x.1.1∈us) && decide (x.1.2.1∈us)).map fun x=>D.int (x.2:Nat))=(qan rs us).map fun n=>D.int (n:Nat):=by unfold qan;rw [List.map_map];rfl
theorem qeH {n:Nat} {f:Addr} {fd:FuncData} (F:Fun K "roads_within" "roads_within" qba f fd) (z_tuple:mg "tuple"=none) (z_enumerate:mg "enumerate"=none):FnOk P w K mg base CX0 (n+1) f fd ["roads","places"] (lSp K qc0):=by
  refine F.okD qej (fun ds R h=>?_) (fun cdv A outer s H E ds R hr h=>?_)
  · obtain ⟨d,e,rs,us,rfl,_⟩:=h;rfl
  obtain ⟨d,e,rs,us,rfl,hd,he,hl,q⟩:=h
  refine ⟨_,(qaX (qbm (qbT qc9 rfl z_tuple PyProof.Rows.boot_tuple (qaB (PD.q (PF.d (qgQ (k:=2) (N':=["number","road","places"]) (cap:=[none,none,some 1]) rfl (.ok (show qcy ["roads","places"] (qah qba) _ ["number","road","places"] [none,none,some 1]=true by decide +kernel)) (by decide +kernel) (qok (n:=2) (qiK (qdn (by decide)) (qiK (qdn (by decide)) qoR))) (qhl rfl z_enumerate (qad (dv 0) qav qaa)) (fun _ _ _ _ _=>(qlK (n:=2) rfl (qcI (qbb (i:=0) (show List.Nodup (["number","road","places"]:List Str) by decide +kernel) rfl (Or.inl rfl)) (qcI (qbb (i:=1) (show List.Nodup (["number","road","places"]:List Str) by decide +kernel) rfl (Or.inl rfl)) qjY)))) (fun _ _ _ _ _=>(qfX (PWD.td (qgL (qaS qla (PD.q (qaI (dvq 1) (PD.q qaf) (fun _ _=>rfl))) (dvq 2) (by with_unfolding_all rfl)) (qdQ (qaS qla (PD.q (qaI (dvq 1) (PD.q qaf) (fun _ _=>rfl))) (dvq 2) (by with_unfolding_all rfl))))))) (fun _ _ _ _ _=>(dv 0))))) qaQ qaF) qaF qag))),?_⟩
  refine ⟨_,hd,?_⟩
  rw [qke]
  refine ⟨by rw [List.length_map,List.length_zipIdx];exact qay (by omega),fun i y=>qli (fun x:Rod × Nat=>decide (x.1.1∈us) && decide (x.1.2.1∈us)) (fun x=>D.int (x.2:Nat)) rs.zipIdx[i]? y,qdj (fun x _=>?_),fun ys hl hy=>by rw [qeB hl hy,qqK];exact q⟩
  obtain ⟨r,i⟩:=x
  have hm:∀ x:Str,qfV (.inr x) (us.map Sum.inr)=decide (x∈us):=fun x=>qcd
  refine ⟨rfl,_,rfl,.inr r.1,us.map Sum.inr,rfl,by rw [← qa8];exact he,fun h=>?_,fun h=>?_⟩
  · rw [qbh,hm] at h
    refine ⟨_,rfl,.inr r.2.1,us.map Sum.inr,rfl,by rw [← qa8];exact he,fun h2=>?_,fun h2=>?_⟩
    · rw [qbh,hm] at h2
      exact ⟨by show (decide (r.1∈us) && decide (r.2.1∈us))=true;rw [h,h2];rfl,rfl⟩
    · rw [qbh,hm] at h2
      show (decide (r.1∈us) && decide (r.2.1∈us))=false
      rw [h2,Bool.and_false]
  · rw [qbh,hm] at h
    exact ⟨fun h2=>(by cases h2),fun _=>by show (decide (r.1∈us) && decide (r.2.1∈us))=false;rw [h];rfl⟩
structure MapOk (ps:List Str) (rs:List Rod) (a g:Str):Prop where
  pn:ps.Nodup
  pl:ps.length≤8
  rl:rs.length≤12
  r:∀ r∈rs,r.1∈ps∧r.2.1∈ps
  a:a∈ps
  g:g∈ps
theorem qlN {xs:List Str} (h:xs.Nodup):(xs.map (Sum.inr:Str→Key)).Nodup:=by
  unfold List.Nodup at h ⊢
  rw [List.pairwise_map]
  exact List.Pairwise.imp (fun hne e=>hne (Sum.inr.inj e)) h
def qc2:SpD:=fun ds R=>∃ (ps:List Str) (rs:List Rod) (a g:Str),ds=[.tup (ps.map D.str),.tup (rs.map rdD),.str a,.str g]∧MapOk ps rs a g∧R .non
theorem qeE {n:Nat} {f:Addr} {fd:FuncData} (F:Fun K "refuse_roads" "refuse_roads" qbo f fd) (Q_refuse_more:Cl P w K mg base n "refuse_more" ["count","most"] qdz) (Q_refuse_twice:Cl P w K mg base n "refuse_twice" ["names"] qcZ) (Q_refuse_strange:Cl P w K mg base n "refuse_strange" ["names","known"] qct) (z_MOST_UNKNOWNS:∃ tk,mg "MOST_UNKNOWNS"=some (.int 8 tk)) (z_MOST_ROWS:∃ tk,mg "MOST_ROWS"=some (.int 12 tk)) (z_len:mg "len"=none):FnOk P w K mg base CX0 (n+1) f fd ["places","roads","start","goal"] (lSp K qc2):=by
  refine F.okD sc_refuse_roads (fun ds R h=>?_) (fun cdv A outer s H E ds R hr h=>?_)
  · obtain ⟨ps,rs,a,g,rfl,_⟩:=h;rfl
  obtain ⟨ps,rs,a,g,rfl,hc,q⟩:=h
  refine ⟨_,(qaZ (qeV (qaK Q_refuse_more hr rfl (qad (qaR qb1 rfl z_len PySem.boot_len (qaB (dvq 0) qaQ qaa) qaa qag) (qad (qj4 rfl z_MOST_UNKNOWNS.choose_spec) qav qaa) qaM) qaM (qac qaa qag)))
      (qaZ (qeV (qaK Q_refuse_more hr rfl (qad (qaR qb1 rfl z_len PySem.boot_len (qaB (dvq 1) qaQ qaa) qaa qag) (qad (qj4 rfl z_MOST_ROWS.choose_spec) qav qaa) qaM) qaM (qac qaa qag)))
      (qaZ (qeV (qaK Q_refuse_twice hr rfl (qad (dv 0) qav qaa) qaa qag))
      (qaZ (qg1 PassesOwn.never rfl (qcT (dv 1)) (qbb (i:=4) sc_refuse_roads.nd rfl (Or.inl rfl)) (qaX (qeV (qaK Q_refuse_strange hr rfl (qad (qbK (qad (qaI (dvq 4) (PD.q qaf) (fun _ _=>rfl)) (qad (qaI (dvq 4) (PD.q qaf) (fun _ _=>rfl)) qav qab) qab)) (qad (dv 0) qav qaa) qa3) qa3 (qac qaa qag)))))
      (qaX (qeV (qaK Q_refuse_strange hr rfl (qad (qbK (qad (dv 2) (qad (dv 3) qav qaa) qaa)) (qad (dv 0) qav qaa) qa3) qa3 (qac qaa qag)))))))),?_⟩
  have hpl:=hc.pl
  have hrl:=hc.rl
  refine ⟨_,_,rfl,by rw [List.length_map];omega,_,_,rfl,by rw [List.length_map];omega,?_⟩
  refine ⟨_,rfl,.inl ⟨ps.map Sum.inr,by rw [← qa8];rfl,qlN hc.pn,by rw [List.length_map];omega⟩,?_⟩
  refine ⟨fun i ρ=>∃ u4:Option Sl,ρ=[some (.v (.tup (ps.map D.str))),some (.v (.tup (rs.map rdD))),some (.v (.str a)),some (.v (.str g)),u4],⟨_,rfl⟩,?_,?_⟩
  · rintro i e ρ he ⟨u4,rfl⟩
    obtain ⟨r,rfl,hr'⟩:=qbf he
    have hm:=hc.r r (List.mem_of_getElem? hr')
    refine ⟨_,rfl,_,rfl,_,_,[r.1,r.2.1],ps,rfl,rfl,rfl,fun x hx=>?_,_,rfl⟩
    rcases List.mem_cons.mp hx with rfl | hx
    · exact hm.1
    · rw [List.mem_singleton.mp hx];exact hm.2
  rintro ρ ⟨u4,rfl⟩
  refine ⟨_,_,[a,g],ps,rfl,rfl,rfl,fun x hx=>?_,q⟩
  rcases List.mem_cons.mp hx with rfl | hx
  · exact hc.a
  · rw [List.mem_singleton.mp hx];exact hc.g
open Wl
theorem qkd {rs:List Rod} {n:Nat} (h:n<rs.length):∃ r,rs[n]?=some r:=⟨rs[n],qao h⟩
def qcn:SpD:=fun ds R=>∃ (rs:List Rod) (l:List Nat),ds=[.tup (rs.map rdD),qaW l]∧l.length≤100∧(∀ n∈l,n<rs.length)∧R (.int (qaU rs l))
theorem qeU {n:Nat} {f:Addr} {fd:FuncData} (F:Fun K "walk_length" "walk_length" qbi f fd) (z_sum:mg "sum"=none):FnOk P w K mg base CX0 (n+1) f fd ["roads","walk"] (lSp K qcn):=by
  refine F.okD qeK (fun ds R h=>?_) (fun cdv A outer s H E ds R hr h=>?_)
  · obtain ⟨rs,l,rfl,_⟩:=h;rfl
  obtain ⟨rs,l,rfl,hl,hn,q⟩:=h
  refine ⟨_,(qaX (qbm (qaR (qnC rfl) rfl z_sum PyProof.Rows.boot_sum (qaB (PD.q (PF.d (qho (k:=1) (N':=["number","roads"]) (cap:=[none,some 0]) rfl (.ok (show qcy ["roads","walk"] (qah qbi) _ ["number","roads"] [none,some 0]=true by decide +kernel)) (by decide +kernel) (qdn (by decide)) (qcT (dv 1)) (fun _ _ _ _ _=>(qbb (i:=0) (show List.Nodup (["number","roads"]:List Str) by decide +kernel) rfl (Or.inl rfl))) (fun _ _ _ _ _=>(qaI (PD.q (qaI (dvq 1) (dvq 0) (fun _ _=>rfl))) (PD.q qaf) (fun _ _=>rfl)))))) qaQ qaF) qaF qag))),?_⟩
  refine qgv (f:=fun n=>D.int (n:Nat)) (qnS rs) (qay (by omega)) (fun n hm=>?_) ?_
  · obtain ⟨r,hr'⟩:=qkd (hn n hm)
    refine ⟨rdD r,qax hr' rfl,_,rfl,?_⟩
    rw [qhp hr']
  · exact ⟨_,rfl,q⟩
theorem qjb (rs:List Rod) (W S:List (Str × List Nat)) (n:Nat):(qbH rs W S n).length≤S.length+1:=by
  rcases qck rs W S n with ⟨e,_⟩ | ⟨r,w,_,_,e,_⟩
  · rw [e];omega
  · rw [e];exact qhx _ _ _
theorem qer (rs:List Rod) (W:List (Str × List Nat)):∀ (l:List Nat) (S:List (Str × List Nat)),(l.foldl (qbH rs W) S).length≤S.length+l.length
  | [],S=>Nat.le_refl _
  | n::l,S=>by
    have h1:=qjb rs W S n
    have h2:=qer rs W l (qbH rs W S n)
    rw [List.foldl_cons,List.length_cons]
    omega
def qeh:SpD:=fun ds R=>∃ (rs:List Rod) (ns:List Nat) (W:List (Str × List Nat)),ds=[.tup (rs.map rdD),qaW ns,.map (W.map wKV)]∧ns.length≤100∧(∀ n∈ns,n<rs.length)∧W.length≤200∧(∀ p l,qam W p=some l→l.length≤50∧∀ n∈l,n<rs.length)∧R (.map ((qlA rs ns W).map wKV))
theorem qf6 {n:Nat} {f:Addr} {fd:FuncData} (F:Fun K "shortened" "shortened" qcl f fd) (Q_walk_length:Cl P w K mg base n "walk_length" ["roads","walk"] qcn) (z_dict:mg "dict"=none):FnOk P w K mg base CX0 (n+1) f fd ["roads","numbers","walks"] (qfA K (zM qeh)):=by
  refine F.okM sc_shortened (fun as R Rx h=>?_) (fun cdv A outer s H E as R Rx qs hcd hr h hqs=>?_)
  · obtain ⟨_,rfl,rs,ns,W,rfl,_⟩:=h;rfl
  obtain ⟨_,rfl,rs,ns,W,rfl,hnl,hn,hWl,hW,q⟩:=h
  obtain rfl:=qmz hqs
  refine ⟨_,(qaq (qaO (i:=3) sc_shortened.nd rfl (Or.inl rfl) (qnN rfl z_dict (dv 2) qaa))
      (qaq (qeo PassesOwn.never rfl (qeQ (qcT (dv 1))) (qbv (i:=4) sc_shortened.nd rfl (Or.inl rfl)) (qaq (qaO (i:=5) sc_shortened.nd rfl (Or.inl rfl) (qaP (qaI (dvq 0) (dvq 4) (fun _ _=>rfl))))
      (qaN (qeS (qcv (qiJ hr.units (qaI (dvq 5) (PD.q qaf) (fun _ _=>rfl)) (dv 2))) (qaq (qaO (i:=6) sc_shortened.nd rfl (Or.inl rfl) (qaP (qbn qbF (PD.q (qc1 hr.units (dv 2) (qaI (dvq 5) (PD.q qaf) (fun _ _=>rfl)) (fun _ _=>rfl))) (PD.q (qbK (qad (dv 4) qav qaa))))))
      (qaN (qeS (PXW.toB (qpR (qgo 3 hr.units (qaI (dvq 5) (PD.q qaf) (fun _ _=>rfl))) (qnU (qoj qm2 (qaP (qaK Q_walk_length hr rfl (qad (dv 0) (qad (dv 6) qav qaa) qaa) qaa (qac qaa qag))) (qlR Q_walk_length hr rfl (qap (qaP (dv 0)) (qap (qls 3 hr.units (qaI (dvq 5) (PD.q qaf) (fun _ _=>rfl)) (fun _ _=>rfl)) qaD qab) qaa) qaa (qac qab qag)) (qaz _))))) (qaN (qjh 3 hr.units (qaI (dvq 5) (PD.q qaf) (fun _ _=>rfl)) (dv 6))) qb2))) qb2))))
      (qaN (qcS (qn7 (qiP 3)))))),?_⟩
  refine ⟨fun i ρ=>∃ (u4 u5 u6:Option Sm),ρ=[some (.v (.tup (rs.map rdD))),some (.v (qaW ns)),some (.v (.map (W.map wKV))),some (.ob none (.map (((ns.take i).foldl (qbH rs W) W).map wKV))),u4,u5,u6],⟨_,_,_,rfl⟩,?_,?_⟩
  · rintro i e ρ he ⟨u4,u5,u6,rfl⟩
    obtain ⟨n,rfl,hni⟩:=qbf he
    have hnm:=List.mem_of_getElem? hni
    obtain ⟨r,hr'⟩:=qkd (hn n hnm)
    have hf:=qe1 (qbH rs W) ns W hni
    obtain ⟨_,B,_⟩:=qcg (rs:=rs) (W:=W) (ns.take i) W
    have hlen:=qer rs W (ns.take i) W
    have hti:(ns.take i).length≤100:=by rw [List.length_take];omega
    have hS:∀ p l,qam ((ns.take i).foldl (qbH rs W) W) p=some l→l.length≤51∧∀ n∈l,n<rs.length:=by
      intro p l hp
      rcases B p with h | ⟨m,hm,r',w',h1,h2,h3,h4,_⟩
      · rw [h] at hp
        obtain ⟨z1,z2⟩:=hW p l hp
        exact ⟨by omega,z2⟩
      · rw [h4] at hp
        cases hp
        obtain ⟨z1,z2⟩:=hW _ _ h3
        refine ⟨by rw [List.length_append];show _+1≤_;omega,fun k hk=>?_⟩
        rcases List.mem_append.mp hk with hk | hk
        · exact z2 k hk
        · rw [List.mem_singleton.mp hk];exact hn m (List.mem_of_mem_take hm)
    generalize (ns.take i).foldl (qbH rs W) W=S at hf hS hlen
    refine ⟨rdD r,qax hr' rfl,_,rfl,.inr r.1,rfl,fun c=>?_,fun c=>?_⟩
    · rw [qbh,qdk] at c
      obtain ⟨w',hw'⟩:=Option.isSome_iff_exists.mp c
      obtain ⟨wl,wn⟩:=hW _ _ hw'
      refine ⟨_,rfl,.inr r.1,qaW w',rfl,by rw [qbZ,hw'];rfl,qeO (by rw [List.length_map];show _+1≤1000;omega),_,qhC w' n,_,rfl,.inr r.2.1,rfl,fun c2=>?_,fun c2=>?_⟩
      · rw [qdx,qdk] at c2
        have hs0:qam S r.2.1=none:=by
          cases hg:qam S r.2.1 with
          | none=>rfl
          | some v=>rw [hg] at c2;cases c2
        refine ⟨fun _=>⟨trivial,_,rfl,.inr r.2.1,rfl,?_,_,qiR S r.2.1 (w'++[n]),some (.v (.int (n:Nat))),some (.v (rdD r)),some (.v (qaW (w'++[n]))),?_⟩,fun h=>(by cases h)⟩
        · rw [List.length_map];exact qay (by omega)
        · rw [hf,qgd hr' hw' hs0];rfl
      · rw [qdx,qdk] at c2
        cases hg:qam S r.2.1 with
        | none=>rw [hg] at c2;cases c2
        | some v =>
          obtain ⟨vl,vn⟩:=hS _ _ hg
          refine ⟨rs,w'++[n],rfl,by rw [List.length_append];show _+1≤_;omega,fun k hk=>?_,_,rfl,.inr r.2.1,rfl,qaW v,by rw [qbZ,hg];rfl,rs,v,rfl,by omega,vn,fun c3=>?_,fun c3=>?_⟩
          · rcases List.mem_append.mp hk with hk | hk
            · exact wn k hk
            · rw [List.mem_singleton.mp hk];exact hn n hnm
          · refine ⟨trivial,_,rfl,.inr r.2.1,rfl,?_,_,qiR S r.2.1 (w'++[n]),some (.v (.int (n:Nat))),some (.v (rdD r)),some (.v (qaW (w'++[n]))),?_⟩
            · rw [List.length_map];exact qay (by omega)
            · rw [hf,qdo hr' hw' hg,if_pos (dP c3)];rfl
          · refine ⟨some (.v (.int (n:Nat))),some (.v (rdD r)),some (.v (qaW (w'++[n]))),?_⟩
            rw [hf,qdo hr' hw' hg,if_neg (of_decide_eq_false c3)];rfl
    · rw [qbh,qdk] at c
      refine ⟨some (.v (.int (n:Nat))),some (.v (rdD r)),u6,?_⟩
      have hw0:qam W r.1=none:=by
        cases hg:qam W r.1 with
        | none=>rfl
        | some v=>rw [hg] at c;cases c
      rw [hf,qf2 hr' hw0];rfl
  · rintro ρ ⟨u4,u5,u6,rfl⟩
    rw [List.length_map,List.take_length]
    exact q
def qpy (w:List Nat):Option (Nat × Nat)→D
  | none=>.non
  | some (c,e)=>.tup [qaW (w.take c),qaW ((w.take e).drop c)]
def qdN:SpD:=fun ds R=>∃ (rs:List Rod) (a:Str) (w:List Nat),ds=[.tup (rs.map rdD),.str a,qaW w]∧w.length≤100∧(∀ n∈w,n<rs.length)∧R (qpy w (qbQ rs [(a,0)] 0 w))
def kvF {β:Type} (f:β→D) (x:Str × β):Key × D:=(.inr x.1,f x.2)
theorem qkZ {β:Type} (f:β→D) (W:List (Str × β)) (p:Str):qdU (W.map (kvF f)) (.inr p)=(qam W p).map f:=by
  induction W with
  | nil=>rfl
  | cons x W ih =>
    rw [qaA]
    unfold qdU at ih ⊢
    rw [List.map_cons]
    by_cases c:x.1=p
    · rw [List.find?_cons_of_pos (by simp [kvF,c]),if_pos c];rfl
    · rw [List.find?_cons_of_neg (by simp [kvF,c]),if_neg c,ih]
theorem qpY {β:Type} (f:β→D) (W:List (Str × β)) (p:Str) (l:β):qiC (W.map (kvF f)) (.inr p) (f l)=(qcu W p l).map (kvF f):=by
  have h1:=qc4 (W.map (kvF f)) (.inr p)
  rw [qkZ,Option.isSome_map,← qnh] at h1
  unfold qiC qcu
  rw [← h1]
  split
  · rw [List.map_map,List.map_map]
    refine List.map_congr_left fun x _=>?_
    show (if (Sum.inr x.1:Key)=Sum.inr p then _ else _)=kvF f (if x.1=p then _ else _)
    by_cases c:x.1=p
    · rw [if_pos (by rw [c]),if_pos c];rfl
    · rw [if_neg (fun e=>c (Sum.inr.inj e)),if_neg c]
  · rw [List.map_append];rfl
theorem qkF (w:List Nat) {k:Nat} (h:k≤w.length):qeM (w.map fun n=>D.int (n:Nat)) none (some (k:Int))=(w.take k).map fun n=>D.int (n:Nat):=by
  rw [qhW]
  unfold qeM
  rw [HT.sIx_none,HT.sIx_nat,Nat.min_eq_left h,List.drop_zero,Nat.sub_zero]
theorem qmu (w:List Nat) {k e:Nat} (h:k≤w.length) (he:e≤w.length):qeM (w.map fun n=>D.int (n:Nat)) (some (k:Int)) (some (e:Int))=((w.take e).drop k).map fun n=>D.int (n:Nat):=by
  rw [qhW]
  unfold qeM
  rw [HT.sIx_nat,HT.sIx_nat,Nat.min_eq_left h,Nat.min_eq_left he,List.drop_take]
def nD (n:Nat):D:=.int (n:Int)
theorem qfv {n:Nat} {f:Addr} {fd:FuncData} (F:Fun K "ring_parts" "ring_parts" qbV f fd) (z_enumerate:mg "enumerate"=none):FnOk P w K mg base CX0 (n+1) f fd ["roads","start","walk"] (qfA K (zM qdN)):=by
  refine F.okM sc_ring_parts (fun as R Rx h=>?_) (fun cdv A outer s H E as R Rx qs hcd hr h hqs=>?_)
  · obtain ⟨_,rfl,rs,a,w0,rfl,_⟩:=h;rfl
  obtain ⟨_,rfl,rs,a,w0,rfl,hl,hn,q⟩:=h
  obtain rfl:=qmz hqs
  refine ⟨_,(qaq (qaO (i:=3) sc_ring_parts.nd rfl (Or.inl rfl) (qjk (dv 1) qaf))
      (qaq (qeo PassesOwn.never rfl (qeQ (qhl rfl z_enumerate (qad (dv 2) qav qaa))) (qmK (n:=2) rfl (qc6 (qbv (i:=4) sc_ring_parts.nd rfl (Or.inl rfl)) (qc6 (qbv (i:=5) sc_ring_parts.nd rfl (Or.inl rfl)) qjv))) (qaq (qaO (i:=6) sc_ring_parts.nd rfl (Or.inl rfl) (qaP (qaI (PD.q (qaI (dvq 0) (dvq 5) (fun _ _=>rfl))) (PD.q qaf) (fun _ _=>rfl))))
      (qcU (qeS (qlg 3 hr.units (dv 6)) (qkE 3 (qaN (qcS (qaP (qbK (qad (qo1 (dvq 2) qjI (qfT (PD.q (qc1 hr.units (dv 3) (dv 6) (fun _ _=>rfl))))) (qad (qo1 (dvq 2) (qfT (PD.q (qc1 hr.units (dv 3) (dv 6) (fun _ _=>rfl)))) (qfT (PD.q (qbn qbF (dvq 4) (PD.q qaf))))) qav qab) qab)))))) qb2)
      (qaN (qjh 3 hr.units (dv 6) (qbn qbF (dvq 4) (PD.q qaf)))))))
      (qaN (qcS (qaP qex))))),?_⟩
  refine ⟨.inr a,rfl,_,rfl,fun i ρ=>∃ (cm:List (Str × Nat)) (u4 u5 u6:Option Sm),ρ=[some (.v (.tup (rs.map rdD))),some (.v (.str a)),some (.v (qaW w0)),some (.ob none (.map (cm.map (kvF nD)))),u4,u5,u6]∧qbQ rs cm i (w0.drop i)=qbQ rs [(a,0)] 0 w0∧(∀ e c,qam cm e=some c→c≤i)∧cm.length≤i+1,⟨[(a,0)],_,_,_,rfl,rfl,fun e c h=>?_,Nat.le_refl _⟩,?_,?_⟩
  · rw [qaA] at h
    by_cases z:a=e
    · rw [if_pos z] at h;cases h;exact Nat.le_refl _
    · rw [if_neg z] at h;cases h
  · rintro i e ρ he ⟨cm,u4,u5,u6,rfl,hF,hc,hcl⟩
    obtain ⟨e',he',rfl⟩:=qfB he
    obtain ⟨n,rfl,hni⟩:=qbf he'
    have hi:=qai hni
    obtain ⟨r,hr'⟩:=qkd (hn n (List.mem_of_getElem? hni))
    have hdr:w0.drop i=n::w0.drop (i+1):=by rw [List.drop_eq_getElem_cons hi];congr 1;rw [qao hi] at hni;exact Option.some.inj hni
    rw [hdr] at hF
    refine ⟨rfl,rdD r,qax hr' rfl,_,rfl,fun ρ=>ρ=[some (.v (.tup (rs.map rdD))),some (.v (.str a)),some (.v (qaW w0)),some (.ob none (.map (cm.map (kvF nD)))),some (.v (.int (i:Nat))),some (.v (.int (n:Nat))),some (.v (.str r.2.1))]∧qam cm r.2.1=none,⟨.inr r.2.1,rfl,fun c=>?_,fun c=>?_⟩,?_⟩
    · rw [qbh,qkZ,Option.isSome_map] at c
      obtain ⟨k,hk⟩:=Option.isSome_iff_exists.mp c
      have hki:=hc _ _ hk
      rw [qef hr' hk] at hF
      rw [← hF] at q
      have hg1:qdU (cm.map (kvF nD)) (.inr r.2.1)=some (.int (k:Nat)):=by rw [qkZ,hk];rfl
      refine ⟨.inr r.2.1,_,rfl,hg1,_,qkF w0 (by omega),.inr r.2.1,_,rfl,hg1,_,qmu w0 (k:=k) (e:=i+1) (by omega) (by omega),q⟩
    · rw [qbh,qkZ,Option.isSome_map] at c
      refine ⟨rfl,?_⟩
      cases hg:qam cm r.2.1 with
      | none=>rfl
      | some k=>rw [hg] at c;cases c
    · rintro ρ ⟨rfl,hg⟩
      rw [qfJ hr' hg] at hF
      refine ⟨trivial,.inr r.2.1,rfl,?_,_,qpY nD cm r.2.1 (i+1),_,_,_,_,rfl,hF,fun e c h=>?_,?_⟩
      · rw [List.length_map];exact qay (by omega)
      · rw [qa0] at h
        by_cases z:e=r.2.1
        · rw [if_pos z] at h;cases h;exact Nat.le_refl _
        · rw [if_neg z] at h;have:=hc e c h;omega
      · have:=qhx cm r.2.1 (i+1);omega
  · rintro ρ ⟨cm,u4,u5,u6,rfl,hF,hc,hcl⟩
    have hLl:(qdW (w0.map fun n=>D.int (n:Nat))).length=w0.length:=by unfold qdW;simp
    rw [hLl,List.drop_length] at hF
    rw [← hF] at q
    exact q
open Wl
theorem qi3 (n:Nat):∀ (xs ys:List Int),cmL (cmB n) (xs.map D.int) (ys.map D.int)=some (decide (xs=ys))
  | [],[]=>rfl
  | [],y::ys=>rfl
  | x::xs,[]=>rfl
  | x::xs,y::ys=>by
    have e:cmB n (D.int x) (D.int y)=some (x == y):=by cases n <;> rfl
    show ((cmB n (D.int x) (D.int y)).bind fun b=>(cmL (cmB n) (xs.map D.int) (ys.map D.int)).map (b && ·))=_
    rw [e,qi3 n xs ys]
    show some ((x == y) && decide (xs=ys))=_
    congr 1
    rw [Bool.eq_iff_iff,Bool.and_eq_true,decide_eq_true_iff,decide_eq_true_iff,beq_iff_eq,List.cons.injEq]
theorem qiA {l m:List Nat} (h:l.map (fun n:Nat=>(n:Int))=m.map (fun n:Nat=>(n:Int))):l=m:=by
  induction l generalizing m with
  | nil=>cases m with
    | nil=>rfl
    | cons=>cases h
  | cons x l ih=>cases m with
    | nil=>cases h
    | cons y m =>
      rw [List.map_cons,List.map_cons] at h
      injection h with h1 h2
      rw [ih h2]
      congr 1
      exact Int.ofNat.inj h1
theorem qhN (l:List Nat):qaW l=.tup ((l.map fun n:Nat=>(n:Int)).map D.int):=by unfold qaW;rw [List.map_map];rfl
theorem qq5 {l m:List Nat} {X Y:Prop} (k1:l≠m→X) (k2:l=m→Y):zNe (qaW l) (qaW m) fun d=>match d with | .bl b=>(b=true→X)∧(b=false→Y) | _=>False:=by
  rw [qhN,qhN]
  unfold zNe
  show (match cmL (cmB 39) _ _ with | some b=>_ | none=>False)
  rw [qi3]
  by_cases c:l=m
  · rw [decide_eq_true (by rw [c])]
    exact ⟨fun h=>ff h,fun _=>k2 c⟩
  · rw [decide_eq_false fun h=>c (qiA h)]
    exact ⟨fun _=>k1 c,fun h=>tf h⟩
def qg7 (rs:List Rod) (us:List Str) (a:Str):Option Str:=us.find? fun p=>decide (qam (itH rs (qan rs us) a (us.length - 1+1)) p≠qam (itH rs (qan rs us) a (us.length - 1)) p)
def qde (w:List Nat):Option (Nat × Nat)→List D
  | none=>[]
  | some (c,e)=>[qaW (w.take c),qaW ((w.take e).drop c)]
def qbl (rs:List Rod) (us:List Str) (a:Str):D:=match qg7 rs us a with
  | some p=>.tup (.str "ring"::qde ((qam (itH rs (qan rs us) a (us.length - 1+1)) p).getD []) (qbQ rs [(a,0)] 0 ((qam (itH rs (qan rs us) a (us.length - 1+1)) p).getD [])))
  | none=>.tup [.str "short",.map ((itH rs (qan rs us) a (us.length - 1)).map wKV)]
theorem qbP {rs:List Rod} {us:List Str} {n:Nat} (h:n∈qan rs us):n<rs.length:=by
  obtain ⟨r,hr,_⟩:=within_mem.mp h
  exact qai hr
theorem qhb (rs:List Rod) (us:List Str):(qan rs us).length≤rs.length:=by
  unfold qan
  rw [List.length_map]
  refine Nat.le_trans (List.length_filter_le _ _) ?_
  rw [List.length_zipIdx]
  exact Nat.le_refl _
theorem qjx (rs:List Rod) (ns:List Nat) (a:Str):∀ k,(itH rs ns a k).length≤1+k*ns.length
  | 0=>by rw [Nat.zero_mul];exact Nat.le_refl _
  | k+1=>by
    have h1:=qjx rs ns a k
    have h2:=qer rs (itH rs ns a k) ns (itH rs ns a k)
    have h3:(itH rs ns a (k+1)).length≤(itH rs ns a k).length+ns.length:=h2
    rw [Nat.succ_mul]
    omega
theorem qmg {α:Type} {p:α→Bool} {l:List α} {i:Nat} {x:α} (h:l[i]?=some x) (hp:p x=true) (hn:∀ y∈l.take i,p y=false):l.find? p=some x:=by
  have hi:=(List.getElem?_eq_some_iff.mp h).1
  have e:l=l.take i++(x::l.drop (i+1)):=by
    have:l.drop i=x::l.drop (i+1):=by rw [List.drop_eq_getElem_cons hi];congr 1;exact (List.getElem?_eq_some_iff.mp h).2
    rw [← this,List.take_append_drop]
  rw [e,List.find?_append]
  have:(l.take i).find? p=none:=List.find?_eq_none.mpr fun y hy=>by rw [hn y hy];simp
  rw [this,List.find?_cons_of_pos hp]
  rfl
def qcs:SpD:=fun ds R=>∃ (rs:List Rod) (us:List Str) (a:Str),ds=[.tup (rs.map rdD),.tup (us.map D.str),.str a]∧us.length≤8∧rs.length≤12∧Inn rs (qan rs us) us a∧R (qbl rs us a)
theorem qdC {n:Nat} {f:Addr} {fd:FuncData} (F:Fun K "shortest_walks" "shortest_walks" qbe f fd) (Q_roads_within:Cl P w K mg base n "roads_within" ["roads","places"] qc0) (Q_shortened:Cl P w K mg base n "shortened" ["roads","numbers","walks"] qeh) (Q_ring_parts:Cl P w K mg base n "ring_parts" ["roads","start","walk"] qdN) (z_range:mg "range"=none) (z_len:mg "len"=none):FnOk P w K mg base CX0 (n+1) f fd ["roads","places","start"] (lSp K qcs):=by
  refine F.okD sc_shortest_walks (fun ds R h=>?_) (fun cdv A outer s H E ds R hr h=>?_)
  · obtain ⟨rs,us,a,rfl,_⟩:=h;rfl
  obtain ⟨rs,us,a,rfl,hul,hrl,hi,q⟩:=h
  refine ⟨_,(qaZ (qcx (i:=3) sc_shortest_walks.nd rfl (Or.inl rfl) (qaK Q_roads_within hr rfl (qad (dv 0) (qad (dv 1) qav qaa) qaa) qaa (qac qaa qag)))
      (qaZ (qcx (i:=4) sc_shortest_walks.nd rfl (Or.inl rfl) (qlV (dv 2) (qbK qav)))
      (qaZ (qg1 PassesOwn.never rfl (qdq rfl z_range (qad (qbn qcC (PD.q (qaR qb1 rfl z_len PySem.boot_len (qaB (dvq 1) qaQ qaa) qaa qag)) (PD.q qaf)) qav qaH)) (qbb (i:=5) sc_shortest_walks.nd rfl (Or.inl rfl)) (qaX (qcx (i:=4) sc_shortest_walks.nd rfl (Or.inl rfl) (qaK Q_shortened hr rfl (qad (dv 0) (qad (dv 3) (qad (dv 4) qav qaa) qaa) qaa) qaa (qac qaa (qac qaa qag))))))
      (qaZ (qcx (i:=6) sc_shortest_walks.nd rfl (Or.inl rfl) (qaK Q_shortened hr rfl (qad (dv 0) (qad (dv 3) (qad (dv 4) qav qaa) qaa) qaa) qaa (qac qaa (qac qaa qag))))
      (qaZ (qg1 PassesOwn.never rfl (qcT (dv 1)) (qbb (i:=7) sc_shortest_walks.nd rfl (Or.inl rfl)) (qaX (qfb (qaS (qlv hr.units) (PD.q (qc1 hr.units (dv 6) (dv 7) (fun _ _=>rfl))) (PD.q (qc1 hr.units (dv 4) (dv 7) (fun _ _=>rfl))) (qaz _)) (qaX (qbm (qbn qbF (PD.q (qbK (qad qaV qav qae))) (PD.q (qaK Q_ring_parts hr rfl (qad (dv 0) (qad (dv 2) (qad (qc1 hr.units (dv 6) (dv 7) (fun _ _=>rfl)) qav qab) qaa) qaa) qaa (qac qaa (qac qab qag))))))) qb5)))
      (qaX (qbm (qbK (qad qaV (qad (dv 4) qav qaa) qae))))))))),?_⟩
  have hnl:=qhb rs us
  have hpos:=List.length_pos_of_mem hi.st
  have hW:∀ k,k≤8→(itH rs (qan rs us) a k).length≤200:=fun k hk=>by
    have h1:=qjx rs (qan rs us) a k
    have h2:k*(qan rs us).length≤8*12:=Nat.mul_le_mul hk (by omega)
    omega
  have hWw:∀ k,k≤8→∀ p l,qam (itH rs (qan rs us) a k) p=some l→l.length≤50∧∀ n∈l,n<rs.length:=fun k hk p l h=>by
    obtain ⟨_,z2,z3⟩:=qbz k h
    exact ⟨by omega,fun n hn=>qbP (z3 n hn)⟩
  refine ⟨_,_,rs,us,rfl,rfl,rfl,by omega,.inr a,rfl,?_⟩
  have hul':((us.map D.str).length:Int)=us.length:=by rw [List.length_map]
  refine ⟨⟨by omega,by omega⟩,fun k ρ=>∃ u5:Option Sl,ρ=[some (.v (.tup (rs.map rdD))),some (.v (.tup (us.map D.str))),some (.v (.str a)),some (.v (qaW (qan rs us))),some (.v (.map ((itH rs (qan rs us) a k).map wKV))),u5,none,none],⟨_,rfl⟩,?_,?_⟩
  · rintro k e ρ he ⟨u5,rfl⟩
    obtain ⟨hk,rfl⟩:=qbx he
    have hk:k<us.length - 1:=by omega
    exact ⟨rs,qan rs us,itH rs (qan rs us) a k,rfl,by omega,fun n hn=>qbP hn,hW k (by omega),hWw k (by omega),_,rfl⟩
  rintro ρ ⟨u5,rfl⟩
  rw [qaY]
  have hlen:(((us.map D.str).length:Int) - 1).toNat=us.length - 1:=by omega
  rw [hlen]
  refine ⟨rs,qan rs us,itH rs (qan rs us) a (us.length - 1),rfl,by omega,fun n hn=>qbP hn,hW _ (by omega),hWw _ (by omega),?_⟩
  refine ⟨fun i ρ=>(∃ u7:Option Sl,ρ=[some (.v (.tup (rs.map rdD))),some (.v (.tup (us.map D.str))),some (.v (.str a)),some (.v (qaW (qan rs us))),some (.v (.map ((itH rs (qan rs us) a (us.length - 1)).map wKV))),u5,some (.v (.map ((itH rs (qan rs us) a (us.length - 1+1)).map wKV))),u7])∧∀ p∈us.take i,qam (itH rs (qan rs us) a (us.length - 1+1)) p=qam (itH rs (qan rs us) a (us.length - 1)) p,⟨⟨_,rfl⟩,fun _ h=>(by cases h)⟩,?_,?_⟩
  · rintro i e ρ he ⟨⟨u7,rfl⟩,hu⟩
    obtain ⟨p,rfl,hp⟩:=qbf he
    have hpm:=List.mem_of_getElem? hp
    obtain ⟨v,hv⟩:=hi.all hpm
    obtain ⟨v',hv',_⟩:=qlo _ hv
    refine ⟨.inr p,qaW v',rfl,by rw [qbZ,hv'];rfl,.inr p,qaW v,rfl,by rw [qbZ,hv];rfl,?_⟩
    refine qq5 (fun c=>?_) (fun c=>?_)
    · have hne:qam (itH rs (qan rs us) a (us.length - 1+1)) p≠qam (itH rs (qan rs us) a (us.length - 1)) p:=by rw [hv,hv'];exact fun h=>c (Option.some.inj h)
      have ht:qg7 rs us a=some p:=qmg hp (decide_eq_true hne) fun y hy=>decide_eq_false fun h=>h (hu y hy)
      obtain ⟨w',c',e',pl,z1,z2,z3,z4,z5,z6,z7,z8,z9⟩:=hi.ring hpm hne
      cases hv'.symm.trans z1
      have hq:qbl rs us a=.tup [.str "ring",qaW (v'.take c'),qaW ((v'.take e').drop c')]:=by
        unfold qbl
        rw [ht]
        show D.tup (.str "ring"::qde ((qam (itH rs (qan rs us) a (us.length - 1+1)) p).getD []) (qbQ rs [(a,0)] 0 ((qam (itH rs (qan rs us) a (us.length - 1+1)) p).getD [])))=_
        rw [hv']
        show D.tup (.str "ring"::qde v' (qbQ rs [(a,0)] 0 v'))=_
        rw [z2]
        rfl
      rw [hq] at q
      refine ⟨.inr p,qaW v',rfl,by rw [qbZ,hv'];rfl,rs,a,v',rfl,by omega,fun n hn=>qbP (z8 n hn),?_⟩
      rw [z2]
      exact ⟨by show 1+2≤sizeLine;rw [sizeLine_eq];decide,_,rfl,q⟩
    · refine ⟨⟨_,rfl⟩,fun x hx=>?_⟩
      rw [qgO hp] at hx
      rcases List.mem_append.mp hx with hx | hx
      · exact hu x hx
      · rw [List.mem_singleton.mp hx,hv,hv',c]
  · rintro ρ ⟨⟨u7,rfl⟩,hu⟩
    rw [List.length_map,List.take_length] at hu
    have ht:qg7 rs us a=none:=List.find?_eq_none.mpr fun y hy=>by rw [decide_eq_false fun h=>h (hu y hy)];simp
    have hq:qbl rs us a=.tup [.str "short",.map ((itH rs (qan rs us) a (us.length - 1)).map wKV)]:=by unfold qbl;rw [ht]
    rw [hq] at q
    exact q
open Wl
def qh6 (rs:List Rod):List Nat→Str
  | n::_=>((rs[n]?).map (·.1)).getD ""
  | []=>""
def qc3 (rs:List Rod) (a g:Str) (w:List Nat):D:=match qbQ rs [(a,0)] 0 w with
  | some (c,e)=>.tup [.str "ring",qaW (w.take c),qaW ((w.take e).drop c),qaW ((qam (qaL rs (qh6 rs ((w.take e).drop c))) g).getD [])]
  | none=>.non
def qkT (rs:List Rod) (W:List (Str × List Nat)) (p:Str):D:=match qam W p with
  | some l=>.int (qaU rs l)
  | none=>.non
def qce (ps:List Str) (rs:List Rod) (a g:Str):D:=if (qam (qaL rs a) g).isSome=true then (match qg7 rs (qal ps rs a g) a with
    | some p=>qc3 rs a g ((qam (itH rs (qan rs (qal ps rs a g)) a ((qal ps rs a g).length - 1+1)) p).getD [])
    | none=>.tup [.str "road",qaW ((qam (itH rs (qan rs (qal ps rs a g)) a ((qal ps rs a g).length - 1)) g).getD []),.int (qaU rs ((qam (itH rs (qan rs (qal ps rs a g)) a ((qal ps rs a g).length - 1)) g).getD [])),.tup (ps.map (qkT rs (itH rs (qan rs (qal ps rs a g)) a ((qal ps rs a g).length - 1))))])
  else .tup [.str "wall",.tup ((ps.filter fun p=>(qam (qaL rs a) p).isSome).map D.str)]
theorem qhd {ps:List Str} {rs:List Rod} {a g:Str} (hc:MapOk ps rs a g) (h:Rch rs a g):Inn rs (qan rs (qal ps rs a g)) (qal ps rs a g) a :=
  qnM (g:=g) (fun n=>within_mem) (fun n r hr h1 h2=>by
    have hm:=List.mem_of_getElem? hr
    obtain ⟨p1,p2⟩:=hc.r r hm
    have h3:Rch rs r.1 r.2.1:=.one hm
    exact ⟨useful_mem.mpr ⟨p1,h1,h3.trans h2⟩,useful_mem.mpr ⟨p2,h1.trans h3,h2⟩⟩) (useful_mem.mpr ⟨hc.a,.refl,h⟩) (fun v hv=>(useful_mem.mp hv).2)
theorem qmv {rs:List Rod} {ns:List Nat} {us:List Str} {a v:Str} {w:List Nat} (h:Inn rs ns us a) (h1:qaj rs a w=some v) (h3:∀ n∈w,n∈ns):v∈us:=by
  rcases List.eq_nil_or_concat w with rfl | ⟨l',n,rfl⟩
  · cases h1;exact h.st
  · rw [List.concat_eq_append] at h1 h3
    obtain ⟨r,z1,_,z3⟩:=qbI h1
    rw [← z3]
    exact h.e h3 n (List.mem_append_right _ (List.mem_singleton.mpr rfl)) r z1
structure RingW (rs:List Rod) (us:List Str) (a g:Str) (w:List Nat) (c e:Nat) (p:Str) (n0:Nat) (r0:Rod) (l3:List Nat):Prop where
  ring:qbQ rs [(a,0)] 0 w=some (c,e)
  e1:qaj rs a (w.take c)=some p
  e2:qaj rs p ((w.take e).drop c)=some p
  neg:qaU rs ((w.take e).drop c)<0
  hd:((w.take e).drop c)[0]?=some n0
  at0:rs[n0]?=some r0
  rp:r0.1=p
  to:qam (qaL rs p) g=some l3
  w3:qaj rs p l3=some g
  len:w.length≤8
  lt:∀ n∈w,n<rs.length
  pl:qh6 rs ((w.take e).drop c)=p
  pu:p∈us
theorem qe0 {ps:List Str} {rs:List Rod} {a g:Str} (hc:MapOk ps rs a g) (h:Rch rs a g) {p:Str} (ht:qg7 rs (qal ps rs a g) a=some p) :
    ∃ w c e pl n0 r0 l3,qam (itH rs (qan rs (qal ps rs a g)) a ((qal ps rs a g).length - 1+1)) p=some w∧RingW rs (qal ps rs a g) a g w c e pl n0 r0 l3:=by
  have hi:=qhd hc h
  have hul:(qal ps rs a g).length≤8:=Nat.le_trans (List.length_filter_le _ _) hc.pl
  generalize hus:qal ps rs a g=us at ht hi hul
  have hpm:p∈us:=List.mem_of_find?_eq_some ht
  have ht':us.find? (fun p=>decide (qam (itH rs (qan rs us) a (us.length - 1+1)) p≠qam (itH rs (qan rs us) a (us.length - 1)) p))=some p:=ht
  have hne:qam (itH rs (qan rs us) a (us.length - 1+1)) p≠qam (itH rs (qan rs us) a (us.length - 1)) p:=by
    have h5:=List.find?_some ht'
    exact of_decide_eq_true h5
  obtain ⟨w,c,e,pl,z1,z2,z3,z4,z5,z6,z7,z8,z9⟩:=hi.ring hpm hne
  have hlen:((w.take e).drop c).length=e - c:=by rw [List.length_drop,List.length_take];omega
  cases hd:(w.take e).drop c with
  | nil=>rw [hd] at hlen;have:0=e - c:=hlen;omega
  | cons n0 rest =>
    have z6':=z6
    rw [hd] at z6'
    obtain ⟨q,h1,_⟩:=qa6 (l:=[n0]) (m:=rest) z6'
    obtain ⟨r0,y1,y2,_⟩:=qbs h1
    have hpu:pl∈us:=qmv hi z5 fun n hn=>z8 n (List.mem_of_mem_take hn)
    have hpg:Rch rs pl g:=by rw [← hus] at hpu;exact (useful_mem.mp hpu).2.2
    obtain ⟨l3,hl3⟩:=Option.isSome_iff_exists.mp (walksF_some.mpr hpg)
    refine ⟨w,c,e,pl,n0,r0,l3,z1,z2,z5,z6,z7,by rw [hd];rfl,y1,y2,hl3,qhk hl3,by omega,fun n hn=>qbP (z8 n hn),?_,hpu⟩
    rw [hd]
    show ((rs[n0]?).map (·.1)).getD ("":Str)=pl
    rw [y1]
    exact y2
def qly:SpD:=fun ds R=>∃ (ps:List Str) (rs:List Rod) (a g:Str),ds=[.tup (ps.map D.str),.tup (rs.map rdD),.str a,.str g]∧MapOk ps rs a g∧R (qce ps rs a g)
theorem qmE {n:Nat} {f:Addr} {fd:FuncData} (F:Fun K "road" "road" qe6 f fd) (Q_refuse_roads:Cl P w K mg base n "refuse_roads" ["places","roads","start","goal"] qc2) (Q_walks_from:Cl P w K mg base n "walks_from" ["roads","start"] qcz) (Q_shortest_walks:Cl P w K mg base n "shortest_walks" ["roads","places","start"] qcs) (Q_useful_places:Cl P w K mg base n "useful_places" ["places","roads","start","goal"] qcG) (Q_walk_length:Cl P w K mg base n "walk_length" ["roads","walk"] qcn) (z_tuple:mg "tuple"=none):FnOk P w K mg base CX0 (n+1) f fd ["places","roads","start","goal"] (lSp K qly):=by
  refine F.okD sc_road (fun ds R h=>?_) (fun cdv A outer s H E ds R hr h=>?_)
  · obtain ⟨ps,rs,a,g,rfl,_⟩:=h;rfl
  obtain ⟨ps,rs,a,g,rfl,hc,q⟩:=h
  refine ⟨_,(qaZ (qeV (qaK Q_refuse_roads hr rfl (qad (dv 0) (qad (dv 1) (qad (dv 2) (qad (dv 3) qav qaa) qaa) qaa) qaa) qaa (qac qaa (qac qaa (qac qaa qag)))))
      (qaZ (qcx (i:=4) sc_road.nd rfl (Or.inr rfl) (qaK Q_walks_from hr rfl (qad (dv 1) (qad (dv 2) qav qaa) qaa) qaa (qac qaa qag)))
      (qdg (qfb (qkf hr.units (dv 3) (dv 4)) (qaX (qbm (qbK (qad qaV (qad (qbT qc9 rfl z_tuple PyProof.Rows.boot_tuple (qaB (PD.q (PF.d (qgQ (k:=1) (N':=["place","reached"]) (cap:=[none,some 4]) rfl (.ok (show qcy ["places","roads","start","goal","reached","told","ring","walks","heights"] (qah qe6) _ ["place","reached"] [none,some 4]=true by decide +kernel)) (by decide +kernel) (qdn (by decide)) (qcT (dv 0)) (fun _ _ _ _ _=>(qbb (i:=0) (show List.Nodup (["place","reached"]:List Str) by decide +kernel) rfl (Or.inl rfl))) (fun _ _ _ _ _=>(qfX (qiJ hr.units (dv 0) (dv 1)))) (fun _ _ _ _ _=>(dv 0))))) qaQ qaF) qaF qag) qav qaM) qae)))) qb5)
      (qaZ (qcx (i:=5) sc_road.nd rfl (Or.inl rfl) (qaK Q_shortest_walks hr rfl (qad (dv 1) (qad (qaK Q_useful_places hr rfl (qad (dv 0) (qad (dv 1) (qad (dv 2) (qad (dv 3) qav qaa) qaa) qaa) qaa) qaa (qac qaa (qac qaa (qac qaa qag)))) (qad (dv 2) qav qaa) qaM) qaa) qaa (qac qaM (qac qaa qag))))
      (qdg (qfb (qaS (qfO hr.units) (PD.q (qaI (dvq 5) (PD.q qaf) (fun _ _=>rfl))) (PD.q qaV) (qaz _)) (qaZ (qcx (i:=6) sc_road.nd rfl (Or.inl rfl) (qaI (dvq 5) (PD.q qaf) (fun _ _=>rfl)))
      (qaX (qbm (qbn qbF (dvq 5) (PD.q (qbK (qad (qc1 hr.units (qaK Q_walks_from hr rfl (qad (dv 1) (qad (qaI (PD.q (qaI (dvq 1) (PD.q (qaI (dvq 6) (PD.q qaf) (fun _ _=>rfl))) (fun _ _=>rfl))) (PD.q qaf) (fun _ _=>rfl)) qav qab) qaa) qaa (qac qab qag)) (dv 3) (fun _ _=>rfl)) qav qab))))))) qb5)
      (qaZ (qcx (i:=7) sc_road.nd rfl (Or.inr rfl) (qaI (dvq 5) (PD.q qaf) (fun _ _=>rfl)))
      (qaZ (qcx (i:=8) sc_road.nd rfl (Or.inl rfl) (qbT qc9 rfl z_tuple PyProof.Rows.boot_tuple (qaB (PD.q (PF.d (qho (k:=1) (N':=["place","walks","roads"]) (cap:=[none,some 7,some 1]) rfl (.ok (show qcy ["places","roads","start","goal","reached","told","ring","walks","heights"] (qah qe6) _ ["place","walks","roads"] [none,some 7,some 1]=true by decide +kernel)) (by decide +kernel) (qdn (by decide)) (qcT (dv 0)) (fun _ _ _ _ _=>(qbb (i:=0) (show List.Nodup (["place","walks","roads"]:List Str) by decide +kernel) rfl (Or.inl rfl))) (fun _ _ _ _ _=>(qrs (qiJ hr.units (dv 0) (dv 1)) (qaK Q_walk_length hr rfl (qad (dv 2) (qad (qc1 hr.units (dv 1) (dv 0) (fun _ _=>rfl)) qav qab) qaa) qaa (qac qab qag)) qex))))) qaQ qaF) qaF qag))
      (qaX (qbm (qbK (qad qaV (qad (qc1 hr.units (dv 7) (dv 3) (fun _ _=>rfl)) (qad (qaK Q_walk_length hr rfl (qad (dv 1) (qad (qc1 hr.units (dv 7) (dv 3) (fun _ _=>rfl)) qav qab) qaa) qaa (qac qab qag)) (qad (dv 8) qav qaa) qaM) qab) qae))))))))))),?_⟩
  have hpl:=hc.pl
  have hrl:=hc.rl
  have hul:(qal ps rs a g).length≤8:=Nat.le_trans (List.length_filter_le _ _) hpl
  refine ⟨ps,rs,a,g,rfl,hc,_,rs,a,rfl,rfl,by omega,?_⟩
  refine ⟨fun ρ=>(qam (qaL rs a) g).isSome=true∧ρ=[some (.v (.tup (ps.map D.str))),some (.v (.tup (rs.map rdD))),some (.v (.str a)),some (.v (.str g)),some (.v (.map ((qaL rs a).map wKV))),none,none,none,none],⟨.inr g,rfl,fun c=>?_,fun c=>?_⟩,?_⟩
  · rw [qdx,qdk] at c
    have hq:qce ps rs a g=.tup [.str "wall",.tup ((ps.filter fun p=>(qam (qaL rs a) p).isSome).map D.str)]:=by unfold qce;rw [if_neg (fun h=>by rw [h] at c;cases c)]
    rw [hq] at q
    refine ⟨by rw [List.length_map];exact qay (by omega),fun i y=>qli (fun p=>(qam (qaL rs a) p).isSome) D.str ps[i]? y,qdj (fun p _=>?_),fun ys hl hy=>by rw [qeB hl hy];exact q⟩
    refine ⟨.inr p,rfl,fun h=>?_,fun h=>?_⟩
    · rw [qbh,qdk] at h
      exact ⟨h,rfl⟩
    · rw [qbh,qdk] at h
      exact h
  · rw [qdx,qdk] at c
    refine ⟨?_,rfl⟩
    cases h:(qam (qaL rs a) g).isSome with
    | true=>rfl
    | false=>rw [h] at c;cases c
  rintro ρ ⟨hg,rfl⟩
  have hr0:=walksF_some.mp hg
  have hi:=qhd hc hr0
  have hgu:g∈qal ps rs a g:=useful_mem.mpr ⟨hc.g,hr0,.refl⟩
  refine ⟨_,_,ps,rs,a,g,rfl,rfl,rfl,by omega,by omega,rs,qal ps rs a g,a,rfl,hul,by omega,hi,?_⟩
  cases ht:qg7 rs (qal ps rs a g) a with
  | some p =>
    obtain ⟨w',c,e,pl,n0,r0,l3,hw,k⟩:=qe0 hc hr0 ht
    have hs:qbl rs (qal ps rs a g) a=.tup [.str "ring",qaW (w'.take c),qaW ((w'.take e).drop c)]:=by
      unfold qbl
      rw [ht]
      show D.tup (.str "ring"::qde ((qam _ p).getD []) (qbQ rs [(a,0)] 0 ((qam _ p).getD [])))=_
      rw [hw]
      show D.tup (.str "ring"::qde w' (qbQ rs [(a,0)] 0 w'))=_
      rw [k.ring]
      rfl
    have hq:qce ps rs a g=.tup [.str "ring",qaW (w'.take c),qaW ((w'.take e).drop c),qaW l3]:=by
      unfold qce
      rw [if_pos hg,ht]
      show qc3 rs a g ((qam _ p).getD [])=_
      rw [hw]
      show qc3 rs a g w'=_
      unfold qc3
      rw [k.ring]
      show D.tup [.str "ring",qaW (w'.take c),qaW ((w'.take e).drop c),qaW ((qam (qaL rs (qh6 rs ((w'.take e).drop c))) g).getD [])]=_
      rw [k.pl,k.to]
      rfl
    rw [hs]
    rw [hq] at q
    refine ⟨fun ρ=>False,⟨_,rfl,fun _=>?_,fun h=>(by cases h)⟩,?_⟩
    · refine ⟨_,rfl,.int (n0:Nat),qax k.hd rfl,rdD r0,qax k.at0 rfl,_,rfl,.tup (rs.map rdD),rs,pl,?_,rfl,by omega,.inr g,qaW l3,rfl,by rw [qbZ,k.to];rfl,by show 3+1≤sizeLine;rw [sizeLine_eq];decide,_,rfl,q⟩
      rw [k.rp]
    · rintro ρ ⟨⟩
  | none =>
    have hs:qbl rs (qal ps rs a g) a=.tup [.str "short",.map ((itH rs (qan rs (qal ps rs a g)) a ((qal ps rs a g).length - 1)).map wKV)]:=by unfold qbl;rw [ht]
    obtain ⟨v,hv⟩:=hi.all hgu
    have hWw:∀ p l,qam (itH rs (qan rs (qal ps rs a g)) a ((qal ps rs a g).length - 1)) p=some l→l.length≤50∧∀ n∈l,n<rs.length:=fun p l h=>by
      obtain ⟨_,z2,z3⟩:=qbz _ h
      exact ⟨by omega,fun n hn=>qbP (z3 n hn)⟩
    have hq:qce ps rs a g=.tup [.str "road",qaW v,.int (qaU rs v),.tup (ps.map (qkT rs (itH rs (qan rs (qal ps rs a g)) a ((qal ps rs a g).length - 1))))]:=by
      unfold qce
      rw [if_pos hg,ht,hv]
      rfl
    rw [hs]
    rw [hq] at q
    generalize itH rs (qan rs (qal ps rs a g)) a ((qal ps rs a g).length - 1)=W at hv hWw q
    obtain ⟨vl,vn⟩:=hWw _ _ hv
    refine ⟨fun ρ=>ρ=[some (.v (.tup (ps.map D.str))),some (.v (.tup (rs.map rdD))),some (.v (.str a)),some (.v (.str g)),some (.v (.map ((qaL rs a).map wKV))),some (.v (.tup [.str "short",.map (W.map wKV)])),none,none,none],⟨_,rfl,fun h=>(by cases h),fun _=>rfl⟩,?_⟩
    rintro ρ rfl
    refine ⟨_,rfl,?_⟩
    refine qgM (f:=D.str) (qkT rs W) (qay (by omega)) (fun p _=>?_) ?_
    · refine ⟨.inr p,rfl,fun c=>?_,fun c=>?_⟩
      · rw [qbh,qdk] at c
        obtain ⟨l,hl⟩:=Option.isSome_iff_exists.mp c
        obtain ⟨ll,ln⟩:=hWw _ _ hl
        refine ⟨.inr p,qaW l,rfl,by rw [qbZ,hl];rfl,rs,l,rfl,by omega,ln,?_⟩
        unfold qkT
        rw [hl]
      · rw [qbh,qdk] at c
        unfold qkT
        cases hl:qam W p with
        | none=>rfl
        | some l=>rw [hl] at c;cases c
    · exact ⟨.inr g,qaW v,rfl,by rw [qbZ,hv];rfl,.inr g,qaW v,rfl,by rw [qbZ,hv];rfl,rs,v,rfl,by omega,vn,q⟩
def Pl (n:Nat) (o:Om):Prop:=∃ (ns:List Int) (r st c:Int),o=.lst [.fzl (ns.map D.int),.int r,.int st,.int c]∧ns.length≤63∧0≤c∧c≤n
theorem Pl.mono {n m:Nat} {o:Om} (h:Pl n o) (hm:n≤m):Pl m o:=by
  obtain ⟨ns,r,st,c,e,h1,h2,h3⟩:=h
  exact ⟨ns,r,st,c,e,h1,h2,by omega⟩
def qem:SpM:=fun as R _=>∃ (ns:List Int) (k:Int),as=[.v (.fzl (ns.map D.int)),.v (.int k)]∧ns.length≤63∧0≤k∧∀ o,Pl 0 o→R (.ob none o) []
theorem qgE {n:Nat} {f:Addr} {fd:FuncData} (F:Fun K "_law_pool" "_law_pool" qb9 f fd) (z_len:mg "len"=none):FnOk P w K mg base CX0 (n+1) f fd ["_law_script","_law_at"] (qfA K qem):=by
  refine F.okM sc__law_pool (fun as R Rx h=>?_) (fun cdv A outer s H E as R Rx qs hcd hr h hqs=>?_)
  · obtain ⟨ns,k,rfl,_⟩:=h;rfl
  obtain ⟨ns,k,rfl,hl,hk,q⟩:=h
  obtain rfl:=qmz hqs
  refine ⟨_,(qaq (qaO (i:=2) sc__law_pool.nd rfl (Or.inl rfl) (qaP qaf))
      (qcU (qeS (qcv (PWD.td (qgL (qaS qm2 (dvq 1) (PD.q (qaR qb1 rfl z_len PySem.boot_len (qaB (dvq 0) qaQ qaa) qaa qag)) (qaz _)) (qdQ (qaS qqe (PD.q (qaI (dvq 0) (dvq 1) (fun _ _=>rfl))) (PD.q (qbn qoN (PD.q qaf) (PD.q qaf))) (qaz _)))))) (qaN (qaO (i:=2) sc__law_pool.nd rfl (Or.inl rfl) (qaP (qaI (dvq 0) (dvq 1) (fun _ _=>rfl))))) qb2)
      (qaN (qcS (qmZ (qip (qad (dv 0) (qad (dv 2) (qad (qbn qbF (PD.q qaf) (dvq 1)) (qad qaf qav qae) qaH) qaa) qaa))))))),?_⟩
  have hl63:(ns.map D.int).length≤63:=by rw [List.length_map];exact hl
  have fin:∀ r:Int,Pl 0 (.lst [.fzl (ns.map D.int),.int r,.int (7+k),.int 0]):=fun r=>⟨ns,r,7+k,0,rfl,hl,by omega,by omega⟩
  refine ⟨fun ρ=>∃ r:Int,ρ=[some (.v (.fzl (ns.map D.int))),some (.v (.int k)),some (.v (.int r))],⟨fun h=>?_,fun h=>?_⟩,?_⟩
  · have h:=dP h
    obtain ⟨v,hv⟩:=qjO (ns:=ns) (k:=k) hk (by rw [List.length_map] at h;exact h)
    exact ⟨_,hv,⟨by decide,by decide,by decide⟩,fun _=>⟨_,hv,_,rfl⟩,fun _=>⟨_,rfl⟩⟩
  · exact ⟨fun c=>(by cases c),fun _=>⟨_,rfl⟩⟩
  rintro ρ ⟨r,rfl⟩
  exact q _ (fin r)
def qa4:SpM:=fun as R _=>∃ (a:Option Addr) (o:Om) (z:Int) (n:Nat),as=[.ob a o,.v (.int z)]∧Pl n o∧n<2 ^ 20∧0<z∧z<2 ^ 9000∧∀ (x:Int) (o':Om),0≤x→x<z→Pl (n+1) o'→R (.v (.int x)) [o']
theorem qf5 {n:Nat} {f:Addr} {fd:FuncData} (F:Fun K "_law_next" "_law_next" qcj f fd) (z_len:mg "len"=none):FnOk P w K mg base CX0 (n+1) f fd ["_law_pool_here","_law_size"] (qfA K qa4):=by
  refine F.okM sc__law_next (fun as R Rx h=>?_) (fun cdv A outer s H E as R Rx qs hcd hr h hqs=>?_)
  · obtain ⟨a,o,z,n,rfl,_⟩:=h;rfl
  obtain ⟨a,o,z,n,rfl,hp,hn,h0,hz,q⟩:=h
  obtain ⟨pa,rfl⟩:=qoG hqs
  refine ⟨_,(qcU (qeS (qcv (qaS qlX (PD.q (qaI (dvq 0) (PD.q qaf) (fun _ _=>rfl))) (PD.q qaf) (qaz _))) (qaq (qaO (i:=2) sc__law_next.nd rfl (Or.inl rfl) (qaP (qbn qgw (PD.q (qaI (dvq 0) (PD.q qaf) (fun _ _=>rfl))) (dvq 1))))
      (qaq (qnj 0 (qaP (qbn qlx (PD.q (qaI (dvq 0) (PD.q qaf) (fun _ _=>rfl))) (dvq 1))) (qaP qaf))
      (qaN (qcS (qaP (dv 2)))))) qb2)
      (qaq (qk1 0 qm9 (qaP qaf) (qaP qaf))
      (qaq (qaO (i:=3) sc__law_next.nd rfl (Or.inl rfl) (qaP (qaI (dvq 0) (PD.q qaf) (fun _ _=>rfl))))
      (qcU (qeS (qcv (qaS qlX (PD.q (qaR qb1 rfl z_len PySem.boot_len (qaB (PD.q (qaI (dvq 0) (PD.q qaf) (fun _ _=>rfl))) qaQ qab) qab qag)) (PD.q qaf) (qaz _))) (qaN (qaO (i:=3) sc__law_next.nd rfl (Or.inl rfl) (qaP (qaI (PD.q (qaI (dvq 0) (PD.q qaf) (fun _ _=>rfl))) (PD.q (qbn qgw (PD.q (qaI (dvq 0) (PD.q qaf) (fun _ _=>rfl))) (PD.q (qaR qb1 rfl z_len PySem.boot_len (qaB (PD.q (qaI (dvq 0) (PD.q qaf) (fun _ _=>rfl))) qaQ qab) qab qag)))) (fun _ _=>rfl))))) qb2)
      (qaq (qaO (i:=4) sc__law_next.nd rfl (Or.inl rfl) (qaP (qbn qbF (PD.q (qbn qbF (PD.q (qbn qbF (PD.q (qbn qbF (PD.q (qaI (dvq 0) (PD.q qaf) (fun _ _=>rfl))) (dvq 3))) (PD.q (qbn qf1 (PD.q (qbn qf1 (PD.q qaf) (PD.q (qaI (dvq 0) (PD.q qaf) (fun _ _=>rfl))))) (PD.q (qaI (dvq 0) (PD.q qaf) (fun _ _=>rfl))))))) (PD.q (qbn qf1 (PD.q qaf) (PD.q (qaI (dvq 0) (PD.q qaf) (fun _ _=>rfl))))))) (PD.q qaf))))
      (qaq (qnj 0 (qaP (qbn qgw (PD.q (qbn qf1 (dvq 4) (PD.q qaf))) (PD.q qaf))) (qaP qaf))
      (qaN (qcS (qaP (qbn qgw (PD.q (qbn qgw (PD.q (qbn qf1 (PD.q (qaI (dvq 0) (PD.q qaf) (fun _ _=>rfl))) (PD.q qaf))) (PD.q qaf))) (dvq 1))))))))))),?_⟩
  obtain ⟨ns,r,st,c,rfl,hl,hc0,hcn⟩:=hp
  refine ⟨fun ρ=>ρ=[some (.ob (some pa) (.lst [.fzl (ns.map D.int),.int r,.int st,.int c])),some (.v (.int z)),none,none,none],⟨_,rfl,fun h=>?_,fun _=>rfl⟩,?_⟩
  · exact ⟨_,rfl,h0,_,rfl,CDivB.of h0 hz,_,rfl,_,rfl,_,rfl,q _ _ (Int.emod_nonneg _ (by omega)) (Int.emod_lt_of_pos _ h0) ⟨ns,_,st,c,rfl,hl,hc0,by omega⟩⟩
  rintro ρ rfl
  refine ⟨trivial,3,c,rfl,rfl,(by show 3<4;decide),_,rfl,_,rfl,?_⟩
  refine ⟨fun ρ=>∃ v:Int,ρ=[some (.ob (some pa) (.lst [.fzl (ns.map D.int),.int r,.int st,.int (c+1)])),some (.v (.int z)),none,some (.v (.int v)),none],⟨_,rfl,fun h=>?_,fun _=>⟨_,rfl⟩⟩,?_⟩
  · have h:=dP h
    have hp:(0:Int)<((ns.map D.int).length:Int):=by omega
    obtain ⟨v,hv⟩:=qjO (ns:=ns) (k:=(c+1) % ((ns.map D.int).length:Int)) (Int.emod_nonneg _ (by omega)) (by have:=Int.emod_lt_of_pos (c+1) hp;rw [List.length_map] at this ⊢;exact this)
    exact ⟨_,rfl,_,rfl,_,rfl,hp,_,hv,_,rfl⟩
  rintro ρ ⟨v,rfl⟩
  have b1:-(2 ^ 64)<c+1:=by omega
  have b2:c+1<2 ^ 64:=by omega
  refine ⟨_,rfl,_,rfl,qgY (by decide) (by decide),_,rfl,qgX b1 b2,_,rfl,qgY (by decide) (by decide),qgX (by decide) (by decide),(by decide:(0:Int)<2147483647),_,rfl,_,rfl,_,rfl,qgX (by decide) (by decide),(by decide:(0:Int)<1000000007),h0,_,rfl,?_⟩
  exact q _ _ (Int.emod_nonneg _ (by omega)) (Int.emod_lt_of_pos _ h0) ⟨ns,r,_,c+1,rfl,hl,by omega,by omega⟩
theorem lt9 {z:Int} (h:z<2 ^ 64):z<2 ^ 9000:=by
  have h1:(2:Nat) ^ 64≤2 ^ 9000:=Nat.pow_le_pow_right (by decide) (by omega)
  have h2:(2:Int) ^ 64≤2 ^ 9000:=by exact_mod_cast h1
  omega
def qc7:SpM:=qa4
theorem qfZ {n:Nat} {f:Addr} {fd:FuncData} (F:Fun K "_law_wide" "_law_wide" qca f fd) (R__law_next:ClM P w K mg base n "_law_next" ["_law_pool_here","_law_size"] qa4):FnOk P w K mg base CX0 (n+1) f fd ["_law_pool_here","_law_size"] (qfA K qc7):=by
  refine F.okM qgz (fun as R Rx h=>?_) (fun cdv A outer s H E as R Rx qs hcd hr h hqs=>?_)
  · obtain ⟨a,o,z,n,rfl,_⟩:=h;rfl
  obtain ⟨a,o,z,n,rfl,hp,hn,h0,hz,q⟩:=h
  obtain ⟨pa,rfl⟩:=qoG hqs
  refine ⟨_,(qcU (qeS (qcv (qaS qlX (PD.q (qaI (dvq 0) (PD.q qaf) (fun _ _=>rfl))) (PD.q qaf) (qaz _))) (qaN (qcS (qaw R__law_next hr rfl (qas 0 (qap (qaP (dv 1)) qaD qaa) qaa) qaa (qac qaa qag)))) qb2)
      (qaN (qcS (qks qgw (qks qoN (qks qbF (qaw R__law_next hr rfl (qas 0 (qap (qaP qaf) qaD qae) qaa) qaa (qac qae qag)) (qaP qaf)) (qaP qaf)) (qaP (dv 1)))))),?_⟩
  obtain ⟨ns,r,st,c,rfl,hl,hc0,hcn⟩:=hp
  refine ⟨fun ρ=>ρ=[some (.ob (some pa) (.lst [.fzl (ns.map D.int),.int r,.int st,.int c])),some (.v (.int z))],⟨_,rfl,fun h=>?_,fun _=>rfl⟩,?_⟩
  · exact ⟨⟨_,_,rfl⟩,_,rfl,rfl,_,_,z,n,rfl,⟨ns,r,st,c,rfl,hl,hc0,hcn⟩,hn,h0,hz,fun x o' hx0 hx1 hp=>⟨_,rfl,q _ _ hx0 hx1 hp⟩⟩
  rintro ρ rfl
  refine ⟨⟨_,_,rfl⟩,_,rfl,rfl,_,_,1000000007,n,rfl,⟨ns,r,st,c,rfl,hl,hc0,hcn⟩,hn,by decide,lt9 (by decide),fun x o' hx0 hx1 hp=>?_⟩
  exact ⟨⟨by decide,by decide,by show (x+3).natAbs<2 ^ 64;omega⟩,h0,_,rfl,q _ _ (Int.emod_nonneg _ (by omega)) (Int.emod_lt_of_pos _ h0) hp⟩
def nmA (t k:Nat):Str:=⟨#[97+(t+k) % 13]⟩
def nm0 (a t k:Nat):Str:=qjp "noon" none (some (a:Int))++nmA t k++qjp "noon" (some (a:Int)) none
def odds:List Str:=[""," ","-","0","A","a","a "," a","~","B1","None","a b","-1"]
def nm3 (t k:Nat):Str:=odds.getD ((t+k) % 13) ""
def nmF (w t a c k:Nat):Str:=if w=0 then nm0 a t k else if w=1 then qg9 "a" (k+1) else if w=2 then qg9 "a" (c - k) else nm3 t k
theorem qlU:∀ a<4,∀ x<13,∀ y<13,nm0 a 0 x=nm0 a 0 y→x=y:=by decide +kernel
theorem qkL:∀ x<13,∀ y<13,odds.getD x ""=odds.getD y ""→x=y:=by decide +kernel
theorem qmS {w t a c k j:Nat} (hw:w<4) (ha:a<4) (hc:c≤13) (hk:k<c) (hj:j<c) (h:nmF w t a c k=nmF w t a c j):k=j:=by
  unfold nmF at h
  by_cases h0:w=0
  · rw [if_pos h0,if_pos h0] at h
    have:=qlU a ha ((t+k) % 13) (by omega) ((t+j) % 13) (by omega) (by unfold nm0 nmA at h ⊢;simpa using h)
    omega
  rw [if_neg h0,if_neg h0] at h
  by_cases h1:w=1
  · rw [if_pos h1,if_pos h1] at h
    have:=congrArg Str.length h
    rw [qco,qco] at this
    have e:("a":Str).length=1:=rfl
    rw [e] at this
    omega
  rw [if_neg h1,if_neg h1] at h
  by_cases h2:w=2
  · rw [if_pos h2,if_pos h2] at h
    have:=congrArg Str.length h
    rw [qco,qco] at this
    have e:("a":Str).length=1:=rfl
    rw [e] at this
    omega
  rw [if_neg h2,if_neg h2] at h
  have:=qkL ((t+k) % 13) (by omega) ((t+j) % 13) (by omega) h
  omega
def nmL (w t a c i:Nat):List Str:=(List.range i).map (nmF w t a c)
theorem qi9 {w t a c i:Nat} (hw:w<4) (ha:a<4) (hc:c≤13) (hi:i≤c):(nmL w t a c i).Nodup:=by
  unfold nmL List.Nodup
  rw [List.pairwise_map]
  refine List.Pairwise.imp_of_mem ?_ (List.nodup_range (n:=i))
  intro x y hx hy hne e
  rw [List.mem_range] at hx hy
  exact hne (qmS hw ha hc (by omega) (by omega) e)
theorem qkO (w t a c i:Nat):nmL w t a c (i+1)=nmL w t a c i++[nmF w t a c i]:=by
  unfold nmL
  rw [List.range_succ,List.map_append]
  rfl
theorem qo2 {a b:Int} (h:(a == b)=true):a=b:=eq_of_beq h
theorem qoZ {a b:Int} (h:(a == b)=false):a≠b:=fun e=>by subst e;rw [beq_self_eq_true] at h;cases h
theorem qlf (a b:Str):(a++b).length=a.length+b.length:=by
  show (a.cps++b.cps).size=a.cps.size+b.cps.size
  rw [Array.size_append]
theorem qoI:∀ x:Nat,x<13→atI ("abcdefghijklm":Str).cps.toList (x:Int)=some (97+x):=by decide +kernel
theorem qnz:∀ x:Nat,x<13→atI (odds.map D.str) (x:Int)=some (.str (odds.getD x "")):=by
  intro x hx
  have:x=0∨x=1∨x=2∨x=3∨x=4∨x=5∨x=6∨x=7∨x=8∨x=9∨x=10∨x=11∨x=12:=by omega
  rcases this with rfl | rfl | rfl | rfl | rfl | rfl | rfl | rfl | rfl | rfl | rfl | rfl | rfl <;> rfl
theorem qoD {w t a c k:Nat} (hw:w<4) (ha:a<4) (hc:c≤13) (hk:k<c):(nmF w t a c k).length≤20:=by
  unfold nmF
  split
  · have:∀ a<4,∀ x<13,(nm0 a 0 x).length≤20:=by decide +kernel
    have:=this a ha ((t+k) % 13) (by omega)
    unfold nm0 nmA at this ⊢
    simpa using this
  · split
    · rw [qco];have e:("a":Str).length=1:=rfl;rw [e];omega
    · split
      · rw [qco];have e:("a":Str).length=1:=rfl;rw [e];omega
      · have:∀ x<13,(odds.getD x "").length≤20:=by decide +kernel
        exact this ((t+k) % 13) (by omega)
def qdO:SpM:=fun as R _=>∃ (a:Option Addr) (o:Om) (c:Int) (n:Nat),as=[.ob a o,.v (.int c)]∧Pl n o∧n+3<2 ^ 20∧0≤c∧c≤13∧∀ (xs:List Str) (o':Om),xs.Nodup→(xs.length:Int)=c→(∀ x∈xs,x.length≤20)→Pl (n+3) o'→R (.own (xs.map D.str)) [o']
theorem qfk {n:Nat} {f:Addr} {fd:FuncData} (F:Fun K "_law_names" "_law_names" qb0 f fd) (R__law_next:ClM P w K mg base n "_law_next" ["_law_pool_here","_law_size"] qa4) (z_range:mg "range"=none):FnOk P w K mg base CX0 (n+1) f fd ["_law_pool_here","_law_count"] (qfA K qdO):=by
  refine F.okM sc__law_names (fun as R Rx h=>?_) (fun cdv A outer s H E as R Rx qs hcd hr h hqs=>?_)
  · obtain ⟨a,o,c,n,rfl,_⟩:=h;rfl
  obtain ⟨a,o,c,n,rfl,hp,hn,h0,hc,q⟩:=h
  obtain ⟨pa,rfl⟩:=qoG hqs
  refine ⟨_,(qaq (qaO (i:=2) sc__law_names.nd rfl (Or.inl rfl) (qaw R__law_next hr rfl (qas 0 (qap (qaP qaf) qaD qae) qaa) qaa (qac qae qag)))
      (qaq (qaO (i:=3) sc__law_names.nd rfl (Or.inl rfl) (qaw R__law_next hr rfl (qas 0 (qap (qaP qaf) qaD qae) qaa) qaa (qac qae qag)))
      (qaq (qaO (i:=4) sc__law_names.nd rfl (Or.inl rfl) (qaw R__law_next hr rfl (qas 0 (qap (qaP qaf) qaD qae) qaa) qaa (qac qae qag)))
      (qaq (qaO (i:=5) sc__law_names.nd rfl (Or.inl rfl) (qmZ (qip qav)))
      (qaq (qeo PassesOwn.never rfl (qeQ (qdq rfl z_range (qad (dv 1) qav qaa))) (qbv (i:=6) sc__law_names.nd rfl (Or.inl rfl)) (qcU (qeS (qcv (qaS (qfO hr.units) (dvq 2) (PD.q qaf) (qaz _))) (qaq (qaO (i:=7) sc__law_names.nd rfl (Or.inl rfl) (qaP (qaI (PD.q qaV) (PD.q (qbn qgw (PD.q (qbn qbF (dvq 3) (dvq 6))) (PD.q qaf))) (fun _ _=>rfl))))
      (qaN (qcc 5 (qaP (qbn qbF (PD.q (qbn qbF (PD.q (qo1 (PD.q qaV) qjI (qfT (dvq 4)))) (dvq 7))) (PD.q (qo1 (PD.q qaV) (qfT (dvq 4)) qjI)))) (qcA qaH) qaH))) qb2)
      (qcU (qeS (qcv (qaS (qfO hr.units) (dvq 2) (PD.q qaf) (qaz _))) (qaN (qcc 5 (qaP (qbn qf1 (PD.q qaV) (PD.q (qbn qbF (dvq 6) (PD.q qaf))))) (qcA qaH) qaH)) qb2)
      (qcU (qeS (qcv (qaS (qfO hr.units) (dvq 2) (PD.q qaf) (qaz _))) (qaN (qcc 5 (qaP (qbn qf1 (PD.q qaV) (PD.q (qbn qcC (dvq 1) (dvq 6))))) (qcA qaH) qaH)) qb2)
      (qaN (qeS (qcv (qaS (qfO hr.units) (dvq 2) (PD.q qaf) (qaz _))) (qaq (qaO (i:=8) sc__law_names.nd rfl (Or.inl rfl) (qaP (qbK (qad qaV (qad qaV (qad qaV (qad qaV (qad qaV (qad qaV (qad qaV qav qae) qae) qae) qae) qae) qae) qae))))
      (qaq (qaO (i:=8) sc__law_names.nd rfl (Or.inl rfl) (qaP (qbn qbF (dvq 8) (PD.q (qbK (qad qaV (qad qaV (qad qaV (qad qaV (qad qaV (qad qaV qav qae) qae) qae) qae) qae) qae))))))
      (qaN (qcc 5 (qaP (qaI (dvq 8) (PD.q (qbn qgw (PD.q (qbn qbF (dvq 3) (dvq 6))) (PD.q qaf))) (fun _ _=>rfl))) (qcA qab) qab)))) qb2))))))
      (qaN (qcS (qiP 5)))))))),?_⟩
  refine ⟨⟨_,_,rfl⟩,_,rfl,rfl,_,_,4,n,rfl,hp,by omega,by decide,lt9 (by decide),fun w o1 hw0 hw1 hp1=>?_⟩
  refine ⟨⟨_,_,rfl⟩,_,rfl,rfl,_,_,13,n+1,rfl,hp1,by omega,by decide,lt9 (by decide),fun t o2 ht0 ht1 hp2=>?_⟩
  refine ⟨⟨_,_,rfl⟩,_,rfl,rfl,_,_,4,n+2,rfl,hp2,by omega,by decide,lt9 (by decide),fun b o3 hb0 hb1 hp3=>?_⟩
  obtain ⟨w,rfl⟩:=Int.eq_ofNat_of_zero_le hw0
  obtain ⟨t,rfl⟩:=Int.eq_ofNat_of_zero_le ht0
  obtain ⟨b,rfl⟩:=Int.eq_ofNat_of_zero_le hb0
  obtain ⟨c,rfl⟩:=Int.eq_ofNat_of_zero_le h0
  have hw:w<4:=by omega
  have hb:b<4:=by omega
  have hc13:c≤13:=by omega
  have hcast:∀ i:Nat,((t:Int)+(0+(i:Int))) % 13=(((t+i) % 13:Nat):Int):=fun i=>by omega
  refine ⟨⟨by omega,by omega⟩,fun i ρ=>∃ (u6 u7 u8:Option Sm),ρ=[some (.ob (some pa) o3),some (.v (.int (c:Int))),some (.v (.int (w:Int))),some (.v (.int (t:Int))),some (.v (.int (b:Int))),some (.own ((nmL w t b c i).map D.str)),u6,u7,u8],⟨_,_,_,rfl⟩,?_,?_⟩
  · rintro i d ρ hd ⟨u6,u7,u8,rfl⟩
    obtain ⟨hi,rfl⟩:=qbx hd
    have hi:i<c:=by omega
    have sm:∀ j,j≤i+1→((nmL w t b c j).map D.str).length<sizeLine:=fun j hj=>by
      unfold nmL
      rw [List.length_map,List.length_map,List.length_range]
      exact qay (by omega)
    have go:∀ x:Str,x=nmF w t b c i→(nmL w t b c i).map D.str++[D.str x]=(nmL w t b c (i+1)).map D.str:=fun x e=>by rw [qkJ,qkO,e]
    refine ⟨fun ρ=>∃ (u7 u8:Option Sm),ρ=[some (.ob (some pa) o3),some (.v (.int (c:Int))),some (.v (.int (w:Int))),some (.v (.int (t:Int))),some (.v (.int (b:Int))),some (.own ((nmL w t b c (if w<1 then i+1 else i)).map D.str)),some (.v (.int (0+(i:Int)))),u7,u8],⟨fun h=>?_,fun h=>?_⟩,?_⟩
    · have h:w=0:=by have:=qo2 h;omega
      subst h
      have l1:=qjJ "noon" none (some (b:Int))
      have l2:=qjJ "noon" (some (b:Int)) none
      have l0:("noon":Str).length=4:=rfl
      have l3:(nmA t i).length=1:=rfl
      have l4:(qjp "noon" none (some (b:Int))++nmA t i).length=(qjp "noon" none (some (b:Int))).length+1:=qlf _ _
      exact ⟨(by decide:(0:Int)<13),(by decide),_,by rw [hcast];exact qoI _ (by omega),(by decide),_,rfl,qeO (by show _+(nmA t i).length≤1000;omega),(by decide),_,rfl,qeO (by show (qjp "noon" none (some (b:Int))++nmA t i).length+_≤1000;omega),sm i (by omega),_,go _ rfl,_,_,rfl⟩
    · have h:=qoZ h
      rw [if_neg (by omega)]
      exact ⟨_,_,rfl⟩
    rintro ρ ⟨u7,u8,rfl⟩
    refine ⟨fun ρ=>∃ (u7 u8:Option Sm),ρ=[some (.ob (some pa) o3),some (.v (.int (c:Int))),some (.v (.int (w:Int))),some (.v (.int (t:Int))),some (.v (.int (b:Int))),some (.own ((nmL w t b c (if w<2 then i+1 else i)).map D.str)),some (.v (.int (0+(i:Int)))),u7,u8],⟨fun h=>?_,fun h=>?_⟩,?_⟩
    · have h:w=1:=by have:=qo2 h;omega
      subst h
      have e:(0+(i:Int)+1).toNat=i+1:=by omega
      refine ⟨⟨by show -(2 ^ 62)≤0+(i:Int)+1;omega,by show 0+(i:Int)+1<2 ^ 62;omega,qeO (by show 1*(0+(i:Int)+1).toNat≤1000;omega),by decide⟩,qg9 "a" (i+1),by rw [e],sm i (by omega),_,go _ rfl,_,_,rfl⟩
    · have h:=qoZ h
      have:(if w<2 then i+1 else i)=(if w<1 then i+1 else i):=by by_cases c:w<1 <;> simp [c] <;> omega
      rw [this]
      exact ⟨_,_,rfl⟩
    rintro ρ ⟨u7,u8,rfl⟩
    refine ⟨fun ρ=>∃ (u7 u8:Option Sm),ρ=[some (.ob (some pa) o3),some (.v (.int (c:Int))),some (.v (.int (w:Int))),some (.v (.int (t:Int))),some (.v (.int (b:Int))),some (.own ((nmL w t b c (if w<3 then i+1 else i)).map D.str)),some (.v (.int (0+(i:Int)))),u7,u8],⟨fun h=>?_,fun h=>?_⟩,?_⟩
    · have h:w=2:=by have:=qo2 h;omega
      subst h
      have e:((c:Int) - (0+(i:Int))).toNat=c - i:=by omega
      refine ⟨⟨by show -(2 ^ 62)≤(c:Int) - (0+(i:Int));omega,by show (c:Int) - (0+(i:Int))<2 ^ 62;omega,qeO (by show 1*((c:Int) - (0+(i:Int))).toNat≤1000;omega),by decide⟩,qg9 "a" (c - i),by rw [e],sm i (by omega),_,go _ rfl,_,_,rfl⟩
    · have h:=qoZ h
      have:(if w<3 then i+1 else i)=(if w<2 then i+1 else i):=by by_cases c:w<2 <;> simp [c] <;> omega
      rw [this]
      exact ⟨_,_,rfl⟩
    rintro ρ ⟨u7,u8,rfl⟩
    refine ⟨fun h=>?_,fun h=>?_⟩
    · have h:w=3:=by have:=qo2 h;omega
      subst h
      exact ⟨qeO (by decide),odds.map D.str,rfl,(by decide:(0:Int)<13),_,by rw [hcast];exact qnz _ (by omega),sm i (by omega),_,go _ rfl,_,_,_,rfl⟩
    · have h:=qoZ h
      rw [if_pos (by omega)]
      exact ⟨_,_,_,rfl⟩
  · rintro ρ ⟨u6,u7,u8,rfl⟩
    rw [qaY,Int.toNat_natCast]
    refine ⟨_,rfl,q _ _ (qi9 hw hb hc13 (Nat.le_refl _)) ?_ ?_ hp3⟩
    · unfold nmL;rw [List.length_map,List.length_range]
    · intro x hx
      obtain ⟨k,hk,rfl⟩:=List.mem_map.mp hx
      exact qoD hw hb hc13 (List.mem_range.mp hk)
theorem qqg {z:Int} (h:z<2 ^ 800):z<2 ^ 9000:=by
  have h1:(2:Nat) ^ 800≤2 ^ 9000:=Nat.pow_le_pow_right (by decide) (by omega)
  have h2:(2:Int) ^ 800≤2 ^ 9000:=by exact_mod_cast h1
  exact Int.lt_of_lt_of_le h h2
def qcX:SpM:=fun as R _=>∃ (a:Option Addr) (o:Om) (m:Int) (n:Nat),as=[.ob a o,.v (.int m)]∧Pl n o∧n+20<2 ^ 20∧0≤m∧m≤10∧∀ (hs:List Int) (o':Om),(hs.length:Int)=m→(∀ h∈hs,h.natAbs<2 ^ 680)→Pl (n+20) o'→R (.v (.lst (hs.map D.int))) [o']
theorem s38:((10:Int) ^ (38:Int).toNat).natAbs<2 ^ 200:=by decide
theorem qqH:0<2*((10:Int) ^ (38:Int).toNat) ^ (5:Int).toNat+1∧2*((10:Int) ^ (38:Int).toNat) ^ (5:Int).toNat+1<2 ^ 680:=by decide
theorem qpF {x t:Int} (h0:0≤x) (h1:x<3):∃ s:Int,atI [D.int 3,D.int 19,D.int t] x=some (.int s)∧(s=3∨s=19∨s=t):=by
  have:x=0∨x=1∨x=2:=by omega
  rcases this with rfl | rfl | rfl
  · exact ⟨_,rfl,.inl rfl⟩
  · exact ⟨_,rfl,.inr (.inl rfl)⟩
  · exact ⟨_,rfl,.inr (.inr rfl)⟩
theorem qk8 {x s:Int} (h0:0≤x) (h1:x<s) (hs:s<2 ^ 680):(x - s / 2).natAbs<2 ^ 680:=by omega
theorem qen {n:Nat} {f:Addr} {fd:FuncData} (F:Fun K "_law_heights" "_law_heights" qbc f fd) (R__law_next:ClM P w K mg base n "_law_next" ["_law_pool_here","_law_size"] qa4) (R__law_wide:ClM P w K mg base n "_law_wide" ["_law_pool_here","_law_size"] qc7) (z_range:mg "range"=none):FnOk P w K mg base CX0 (n+1) f fd ["_law_pool_here","_law_many"] (qfA K qcX):=by
  refine F.okM sc__law_heights (fun as R Rx h=>?_) (fun cdv A outer s H E as R Rx qs hcd hr h hqs=>?_)
  · obtain ⟨a,o,m,n,rfl,_⟩:=h;rfl
  obtain ⟨a,o,m,n,rfl,hp,hn,hm0,hm1,q⟩:=h
  obtain ⟨pa,rfl⟩:=qoG hqs
  refine ⟨_,(qaq (qaO (i:=2) sc__law_heights.nd rfl (Or.inr rfl) (qn3 (qaP (qbK (qad qaf (qad qaf (qad (qbn qbF (PD.q (qbn qf1 (PD.q qaf) (PD.q (qbn qhJ (PD.q (qbn qhJ (PD.q qaf) (PD.q qaf))) (PD.q qaf))))) (PD.q qaf)) qav qaH) qae) qae))) (qaw R__law_next hr rfl (qas 0 (qap (qaP qaf) qaD qae) qaa) qaa (qac qae qag)) (fun _ _=>rfl)))
      (qaN (qcS (qqn (qoY (N':=["_law_k","_law_pool_here","_law_size"]) (cap:=[none,some 0,some 2]) rfl (.ok (show qcy ["_law_pool_here","_law_many","_law_size"] (qah qbc) _ ["_law_k","_law_pool_here","_law_size"] [none,some 0,some 2]=true by decide +kernel)) (by decide +kernel) (qeQ (qdq rfl z_range (qad (dv 1) qav qaa))) (fun _ _ _ _ _=>(qbv (i:=0) (show List.Nodup (["_law_k","_law_pool_here","_law_size"]:List Str) by decide +kernel) rfl (Or.inl rfl))) (fun _ _ _ _ _=>qmB) (fun _ _ _ _ _=>(qks qcC (qaw R__law_wide hr rfl (qas 1 (qap (qaP (dv 2)) qaD qaa) qaa) qaa (qac qaa qag)) (qaP (qbn qlx (dvq 2) (PD.q qaf)))))))))),?_⟩
  refine ⟨⟨by decide,200,by decide,by decide,by decide⟩,⟨by decide,200,by decide,s38,by decide⟩,qgY (by decide) (by decide),?_⟩
  refine ⟨⟨_,_,rfl⟩,_,rfl,rfl,_,_,3,n,rfl,hp,by omega,by decide,lt9 (by decide),fun x o1 hx0 hx1 hp1=>?_⟩
  obtain ⟨sz,hsz,hcs⟩:=qpF (t:=2*((10:Int) ^ (38:Int).toNat) ^ (5:Int).toNat+1) hx0 hx1
  have hs0:0<sz∧sz<2 ^ 680:=by
    rcases hcs with rfl | rfl | rfl
    · exact ⟨by decide,by decide⟩
    · exact ⟨by decide,by decide⟩
    · exact qqH
  obtain ⟨m,rfl⟩:=Int.eq_ofNat_of_zero_le hm0
  refine ⟨_,hsz,⟨by omega,by omega⟩,qay (by rw [qaY];omega),fun i ys ρc=>∃ (hs:List Int) (op:Om) (u0:Option Sm),ys=hs.map D.int∧hs.length=i∧(∀ h∈hs,h.natAbs<2 ^ 680)∧Pl (n+1+i) op∧ρc=[u0,some (.ob (some pa) op),some (.v (.int sz))],⟨[],o1,_,rfl,rfl,fun _ h=>(by cases h),hp1,rfl⟩,?_,?_⟩
  · rintro i d ys ρc hd ⟨hs,op,u0,rfl,hl,hb,hpi,rfl⟩
    obtain ⟨hi,rfl⟩:=qbx hd
    refine ⟨fun _=>?_,fun h=>(by cases h)⟩
    refine ⟨⟨_,_,rfl⟩,_,rfl,rfl,_,_,sz,n+1+i,rfl,hpi,by omega,hs0.1,qqg (Int.lt_trans hs0.2 (by decide)),fun x o2 hx0 hx1 hp2=>?_⟩
    refine ⟨⟨by decide,by decide⟩,hs++[x - sz / 2],o2,_,by rw [List.map_append];rfl,by rw [List.length_append,hl];rfl,fun h hh=>?_,hp2,rfl⟩
    rcases List.mem_append.mp hh with hh | hh
    · exact hb h hh
    · rw [List.mem_singleton.mp hh];exact qk8 hx0 hx1 hs0.2
  · rintro ys ρc ⟨hs,op,u0,rfl,hl,hb,hpi,rfl⟩
    rw [qaY] at hl hpi
    exact ⟨_,rfl,_,rfl,q hs op (by omega) hb (hpi.mono (by omega))⟩
open Wl
def qbD (s:Nat) (rs:List Rod):List Rod:=if s=0 then rs else rs.map qlH
def qcq:SpD:=fun ds R=>∃ (rs:List Rod) (b:Str) (s:Nat),ds=[.tup (rs.map rdD),.str b,.int (s:Int)]∧rs.length≤100∧s<2∧∀ xs:List Str,(∀ p,p∈xs↔Rch (qbD s rs) b p)→xs.length≤200→R (.lst (xs.map D.str))
theorem qmF {s:Nat} {rs:List Rod} {i:Nat} {r:Rod} (hs:s<2) (h:rs[i]?=some r):∃ r',(qbD s rs)[i]?=some r'∧atI [D.str r.1,D.str r.2.1,D.int r.2.2] (s:Int)=some (.str r'.1)∧atI [D.str r.1,D.str r.2.1,D.int r.2.2] (1 - (s:Int))=some (.str r'.2.1):=by
  have:s=0∨s=1:=by omega
  rcases this with rfl | rfl
  · exact ⟨r,h,rfl,rfl⟩
  · exact ⟨qlH r,by show (rs.map qlH)[i]?=_;rw [List.getElem?_map,h];rfl,rfl,rfl⟩
theorem qld (s:Nat) (rs:List Rod):(qbD s rs).length=rs.length:=by unfold qbD;split <;> simp
theorem qeP {n:Nat} {f:Addr} {fd:FuncData} (F:Fun K "_law_spread" "_law_spread" qbA f fd) (z_range:mg "range"=none) (z_len:mg "len"=none):FnOk P w K mg base CX0 (n+1) f fd ["_law_roads","_law_begin","_law_side"] (qfA K (zM qcq)):=by
  refine F.okM sc__law_spread (fun as R Rx h=>?_) (fun cdv A outer s H E as R Rx qs hcd hr h hqs=>?_)
  · obtain ⟨_,rfl,rs,b,s0,rfl,_⟩:=h;rfl
  obtain ⟨_,rfl,rs,b,s0,rfl,hl,hs,q⟩:=h
  obtain rfl:=qmz hqs
  refine ⟨_,(qaq (qaO (i:=3) sc__law_spread.nd rfl (Or.inl rfl) (qmZ (qip (qad (dv 1) qav qaa))))
      (qaq (qeo PassesOwn.never rfl (qeQ (qdq rfl z_range (qad (qaR qb1 rfl z_len PySem.boot_len (qaB (dvq 0) qaQ qaa) qaa qag) qav qaM))) (qbv (i:=4) sc__law_spread.nd rfl (Or.inl rfl)) (qaN (qeo PassesOwn.never rfl (qeQ (qcT (dv 0))) (qbv (i:=5) sc__law_spread.nd rfl (Or.inl rfl)) (qaN (qeS (qcv (PWD.td (qgL (qaS qla (PD.q (qaI (dvq 5) (dvq 2) (fun _ _=>rfl))) (dvq 3) (by with_unfolding_all rfl)) (qdQ (qaS qfq (PD.q (qaI (dvq 5) (PD.q (qbn qcC (PD.q qaf) (dvq 2))) (fun _ _=>rfl))) (dvq 3) (by with_unfolding_all rfl)))))) (qaN (qcc 3 (qaP (qaI (dvq 5) (PD.q (qbn qcC (PD.q qaf) (dvq 2))) (fun _ _=>rfl))) (qcA qab) qab)) qb2)))))
      (qkE 3 (qaN (qcS (qaP (dv 3))))))),?_⟩
  have hfl:=qld s0 rs
  refine ⟨⟨by rw [List.length_map];omega,by rw [List.length_map];omega⟩,fun k ρ=>∃ u4 u5:Option Sm,ρ=[some (.v (.tup (rs.map rdD))),some (.v (.str b)),some (.v (.int (s0:Int))),some (.own ((itS (qbD s0 rs) b k).map D.str)),u4,u5],⟨_,_,rfl⟩,?_,?_⟩
  · rintro k e ρ he ⟨u4,u5,rfl⟩
    obtain ⟨hk,rfl⟩:=qbx he
    refine ⟨fun i ρ=>∃ u5:Option Sm,ρ=[some (.v (.tup (rs.map rdD))),some (.v (.str b)),some (.v (.int (s0:Int))),some (.own ((((qbD s0 rs).take i).foldl qbw (itS (qbD s0 rs) b k)).map D.str)),some (.v (.int (0+(k:Nat)))),u5],⟨_,rfl⟩,?_,?_⟩
    · rintro i e ρ he ⟨u5,rfl⟩
      obtain ⟨r,rfl,hri⟩:=qbf he
      obtain ⟨r',hf,h1,h2⟩:=qmF hs hri
      have hfo:((qbD s0 rs).take (i+1)).foldl qbw (itS (qbD s0 rs) b k)=qbw (((qbD s0 rs).take i).foldl qbw (itS (qbD s0 rs) b k)) r':=by rw [qgO hf,List.foldl_append];rfl
      have hle:(((qbD s0 rs).take i).foldl qbw (itS (qbD s0 rs) b k)).length≤101:=by
        have e1:=qet (fs:=qbD s0 rs) ((qbD s0 rs).take i) (itS (qbD s0 rs) b k) fun r hr=>List.mem_of_mem_take hr
        have e2:=qhf (qbD s0 rs) b k
        omega
      generalize ((qbD s0 rs).take i).foldl qbw (itS (qbD s0 rs) b k)=se at hfo hle
      have hm:∀ x:Str,qfV (.inr x) (se.map Sum.inr)=decide (x∈se):=fun x=>qcd
      refine ⟨_,h1,.inr r'.1,se.map Sum.inr,rfl,by rw [← qa8];rfl,fun c=>?_,fun c=>?_⟩
      · rw [qbh,hm] at c
        refine ⟨_,h2,.inr r'.2.1,se.map Sum.inr,rfl,by rw [← qa8];rfl,fun c2=>?_,fun c2=>?_⟩
        · rw [qdx,hm] at c2
          refine ⟨_,h2,?_,_,qkJ D.str se r'.2.1,some (.v (rdD r)),?_⟩
          · rw [List.length_map];exact qay (by omega)
          have:qbw se r'=se++[r'.2.1]:=by
            unfold qbw
            rw [if_pos ⟨of_decide_eq_true c,fun h=>by rw [decide_eq_true h] at c2;cases c2⟩]
          rw [hfo,this]
          rfl
        · rw [qdx,hm] at c2
          refine ⟨some (.v (rdD r)),?_⟩
          have:qbw se r'=se:=by
            unfold qbw
            rw [if_neg]
            rintro ⟨_,h⟩
            rw [decide_eq_false h] at c2
            cases c2
          rw [hfo,this]
          rfl
      · rw [qbh,hm] at c
        refine ⟨fun h=>(by cases h),fun _=>⟨some (.v (rdD r)),?_⟩⟩
        have:qbw se r'=se:=by
          unfold qbw
          rw [if_neg]
          rintro ⟨h,_⟩
          rw [decide_eq_true h] at c
          cases c
        rw [hfo,this]
        rfl
    · rintro ρ ⟨u5,rfl⟩
      rw [List.length_map,← hfl,List.take_length]
      exact ⟨_,_,rfl⟩
  · rintro ρ ⟨u4,u5,rfl⟩
    rw [qaY,List.length_map,Int.toNat_natCast,← hfl]
    refine q _ (qmC (qbD s0 rs) b) ?_
    have e2:=qhf (qbD s0 rs) b (qbD s0 rs).length
    omega
def qdt:SpD:=fun ds R=>∃ (ps:List Str) (rs:List Rod) (a g:Str),ds=[.tup (ps.map D.str),.tup (rs.map rdD),.str a,.str g]∧ps.length≤100∧rs.length≤100∧R (.lst ((qal ps rs a g).map D.str))
theorem qiI {ps:List Str} {rs:List Rod} {a g:Str} {xs ys:List Str} (h1:∀ p,p∈xs↔Rch (qbD 0 rs) a p) (h2:∀ p,p∈ys↔Rch (qbD 1 rs) g p):(ps.filter fun p=>decide (p∈xs) && decide (p∈ys))=qal ps rs a g:=by
  unfold qal
  refine List.filter_congr fun p _=>?_
  have e1:decide (p∈xs)=(qam (qaL rs a) p).isSome:=by
    rw [Bool.eq_iff_iff,decide_eq_true_iff,h1,walksF_some]
    exact Iff.rfl
  have e2:decide (p∈ys)=(qam (qaL rs p) g).isSome:=by
    rw [Bool.eq_iff_iff,decide_eq_true_iff,h2,walksF_some]
    exact ⟨fun h=>qiS h,fun h=>qle h⟩
  rw [e1,e2]
theorem qeT {n:Nat} {f:Addr} {fd:FuncData} (F:Fun K "_law_useful" "_law_useful" qbk f fd) (Q__law_spread:Cl P w K mg base n "_law_spread" ["_law_roads","_law_begin","_law_side"] qcq):FnOk P w K mg base CX0 (n+1) f fd ["_law_places","_law_roads","_law_start","_law_goal"] (lSp K qdt):=by
  refine F.okD sc__law_useful (fun ds R h=>?_) (fun cdv A outer s H E ds R hr h=>?_)
  · obtain ⟨ps,rs,a,g,rfl,_⟩:=h;rfl
  obtain ⟨ps,rs,a,g,rfl,hl,hr',q⟩:=h
  refine ⟨_,(qaZ (qcx (i:=4) sc__law_useful.nd rfl (Or.inr rfl) (qaK Q__law_spread hr rfl (qad (dv 1) (qad (dv 2) (qad qaf qav qae) qaa) qaa) qaa (qac qaa (qac qae qag))))
      (qaZ (qcx (i:=5) sc__law_useful.nd rfl (Or.inr rfl) (qaK Q__law_spread hr rfl (qad (dv 1) (qad (dv 3) (qad qaf qav qae) qaa) qaa) qaa (qac qaa (qac qae qag))))
      (qaX (qbm (PF.d (qgQ (k:=1) (N':=["_law_one","_law_ahead","_law_behind"]) (cap:=[none,some 4,some 5]) rfl (.ok (show qcy ["_law_places","_law_roads","_law_start","_law_goal","_law_ahead","_law_behind"] (qah qbk) _ ["_law_one","_law_ahead","_law_behind"] [none,some 4,some 5]=true by decide +kernel)) (by decide +kernel) (qdn (by decide)) (qcT (dv 0)) (fun _ _ _ _ _=>(qbb (i:=0) (show List.Nodup (["_law_one","_law_ahead","_law_behind"]:List Str) by decide +kernel) rfl (Or.inl rfl))) (fun _ _ _ _ _=>(qfX (PWD.td (qgL (qaS qla (dvq 0) (dvq 1) (by with_unfolding_all rfl)) (qdQ (qaS qla (dvq 0) (dvq 2) (by with_unfolding_all rfl))))))) (fun _ _ _ _ _=>(dv 0)))))))),?_⟩
  refine ⟨rs,a,0,rfl,hr',by decide,fun xs h1 l1=>?_⟩
  refine ⟨rs,g,1,rfl,hr',by decide,fun ys h2 l2=>?_⟩
  have hm1:∀ x:Str,qfV (.inr x) (xs.map Sum.inr)=decide (x∈xs):=fun x=>qcd
  have hm2:∀ x:Str,qfV (.inr x) (ys.map Sum.inr)=decide (x∈ys):=fun x=>qcd
  refine ⟨by rw [List.length_map];exact qay (by omega),fun i y=>qli (fun p=>decide (p∈xs) && decide (p∈ys)) D.str ps[i]? y,qdj (fun p _=>?_),fun zs hl hy=>by rw [qeB hl hy,qiI h1 h2];exact q⟩
  refine ⟨.inr p,xs.map Sum.inr,rfl,by rw [← qa8];rfl,fun h=>?_,fun h=>?_⟩
  · rw [qbh,hm1] at h
    refine ⟨.inr p,ys.map Sum.inr,rfl,by rw [← qa8];rfl,fun h2=>?_,fun h2=>?_⟩
    · rw [qbh,hm2] at h2
      exact ⟨by show (decide (p∈xs) && decide (p∈ys))=true;rw [h,h2];rfl,rfl⟩
    · rw [qbh,hm2] at h2
      show (decide (p∈xs) && decide (p∈ys))=false
      rw [h2,Bool.and_false]
  · rw [qbh,hm1] at h
    exact ⟨fun h2=>(by cases h2),fun _=>by show (decide (p∈xs) && decide (p∈ys))=false;rw [h];rfl⟩
open Wl
def qdZ:Option Int→D
  | some z=>.int z
  | none=>.non
structure Hts (rs:List Rod) (us ps:List Str) (h:Str→Option Int):Prop where
  some:∀ p∈ps,(h p).isSome=true↔p∈us
  road:∀ r∈rs,r.1∈us→r.2.1∈us→∀ x y,h r.1=.some x→h r.2.1=.some y→y - x≤r.2.2
theorem qmP (rs:List Rod) (W:List (Str × List Nat)) (p:Str):qkT rs W p=qdZ ((qam W p).map (qaU rs)):=by
  unfold qkT
  cases qam W p <;> rfl
theorem qgK {ps:List Str} {rs:List Rod} {a g:Str} (hc:MapOk ps rs a g) :
    (¬ Rch rs a g∧qce ps rs a g=.tup [.str "wall",.tup ((ps.filter fun p=>(qam (qaL rs a) p).isSome).map D.str)]) ∨
    (Rch rs a g∧∃ w c e pl n0 r0 l3,RingW rs (qal ps rs a g) a g w c e pl n0 r0 l3∧qce ps rs a g=.tup [.str "ring",qaW (w.take c),qaW ((w.take e).drop c),qaW l3]) ∨
    (Rch rs a g∧∃ (l:List Nat) (h:Str→Option Int),qce ps rs a g=.tup [.str "road",qaW l,.int (qaU rs l),.tup (ps.map fun p=>qdZ (h p))]∧qaj rs a l=some g∧l.length≤50∧(∀ n∈l,n<rs.length)∧Hts rs (qal ps rs a g) ps h∧h a=some 0∧h g=some (qaU rs l)):=by
  by_cases hg:(qam (qaL rs a) g).isSome=true
  · have hr0:=walksF_some.mp hg
    right
    have hi:=qhd hc hr0
    cases ht:qg7 rs (qal ps rs a g) a with
    | some p =>
      left
      obtain ⟨w,c,e,pl,n0,r0,l3,hw,k⟩:=qe0 hc hr0 ht
      refine ⟨hr0,w,c,e,pl,n0,r0,l3,k,?_⟩
      unfold qce
      rw [if_pos hg,ht]
      show qc3 rs a g ((qam _ p).getD [])=_
      rw [hw]
      show qc3 rs a g w=_
      unfold qc3
      rw [k.ring]
      show D.tup [.str "ring",qaW (w.take c),qaW ((w.take e).drop c),qaW ((qam (qaL rs (qh6 rs ((w.take e).drop c))) g).getD [])]=_
      rw [k.pl,k.to]
      rfl
    | none =>
      right
      have hul:(qal ps rs a g).length≤8:=Nat.le_trans (List.length_filter_le _ _) hc.pl
      have hgu:g∈qal ps rs a g:=useful_mem.mpr ⟨hc.g,hr0,.refl⟩
      obtain ⟨v,hv⟩:=hi.all hgu
      have hst:=fun p hp=>Classical.byContradiction fun h=>absurd (decide_eq_true h) (List.find?_eq_none.mp ht p hp)
      obtain ⟨s1,s2⟩:=hi.still hst
      have hq:qce ps rs a g=.tup [.str "road",qaW v,.int (qaU rs v),.tup (ps.map (qkT rs (itH rs (qan rs (qal ps rs a g)) a ((qal ps rs a g).length - 1))))]:=by
        unfold qce
        rw [if_pos hg,ht,hv]
        rfl
      obtain ⟨y1,y2,y3⟩:=qbz _ hv
      obtain ⟨va,hva⟩:=hi.all hi.st
      refine ⟨hr0,v,fun p=>(qam (itH rs (qan rs (qal ps rs a g)) a ((qal ps rs a g).length - 1)) p).map (qaU rs),?_,y1,by omega,fun n hn=>qbP (y3 n hn),⟨fun p hp=>?_,fun r hr h1 h2 x y hx hy=>?_⟩,?_,?_⟩
      · have hf:qkT rs (itH rs (qan rs (qal ps rs a g)) a ((qal ps rs a g).length - 1))=fun p=>qdZ ((qam (itH rs (qan rs (qal ps rs a g)) a ((qal ps rs a g).length - 1)) p).map (qaU rs)):=funext fun p=>qmP _ _ _
        rw [hq,hf]
      · rw [Option.isSome_map]
        constructor
        · intro h
          obtain ⟨l,hl⟩:=Option.isSome_iff_exists.mp h
          exact hi.key hl
        · intro h
          obtain ⟨l,hl⟩:=hi.all h
          rw [hl];rfl
      · obtain ⟨n,hn⟩:=List.getElem?_of_mem hr
        have:=s1 n (within_mem.mpr ⟨r,hn,h1,h2⟩) r hn
        obtain ⟨l1,e1⟩:=hi.all h1
        obtain ⟨l2,e2⟩:=hi.all h2
        have hx:(qam (itH rs (qan rs (qal ps rs a g)) a ((qal ps rs a g).length - 1)) r.1).map (qaU rs)=some x:=hx
        have hy:(qam (itH rs (qan rs (qal ps rs a g)) a ((qal ps rs a g).length - 1)) r.2.1).map (qaU rs)=some y:=hy
        rw [e1] at hx this
        rw [e2] at hy this
        cases hx
        cases hy
        have this:qaU rs l2≤qaU rs l1+r.2.2:=this
        omega
      · show (qam _ a).map (qaU rs)=some 0
        rw [hva] at s2 ⊢
        exact congrArg some s2
      · show (qam _ g).map (qaU rs)=_
        rw [hv];rfl
  · left
    refine ⟨fun h=>hg (walksF_some.mpr h),?_⟩
    unfold qce
    rw [if_neg hg]
theorem qhS {f:D→D→Option Bool}:∀ {xs:List D},(∀ x∈xs,f x x=some true)→cmL f xs xs=some true
  | [],_=>rfl
  | x::xs,h=>by
    show ((f x x).bind fun b=>(cmL f xs xs).map (b && ·))=_
    rw [h x List.mem_cons_self,qhS fun y hy=>h y (List.mem_cons_of_mem _ hy)]
    rfl
theorem qjf {n:Nat} {xs:List D} (h:∀ x∈xs,cmB n x x=some true):cmB (n+1) (.tup xs) (.tup xs)=some true:=qhS h
theorem qqf (n:Nat) (i:Str):cmB n (.str i) (.str i)=some true:=by cases n <;> (show some (i == i)=_;rw [beq_self_eq_true])
theorem qpw (n:Nat) (l:List Str):cmB (n+1) (.tup (l.map D.str)) (.tup (l.map D.str))=some true:=qjf fun x hx=>by obtain ⟨k,_,rfl⟩:=List.mem_map.mp hx;exact qqf _ _
theorem qmt (l:List Str):cmB 40 (.tup [.str "wall",.tup (l.map D.str)]) (.tup [.str "wall",.tup (l.map D.str)])=some true:=by
  refine qjf fun x hx=>?_
  rcases List.mem_cons.mp hx with rfl | hx
  · exact qqf _ _
  · rw [List.mem_singleton.mp hx];exact qpw _ _
theorem qkP {d:D} {R:D→Prop} (h:cmB 40 d d=some true) (q:R (.bl true)):zEq d d R:=by
  unfold zEq
  rw [h]
  exact q
theorem qcM {xs:List Str} {x:Str} (h:x∈xs) (hl:xs.length≤1000) {R:D→Prop} (k:∀ j:Nat,j<xs.length→xs[j]?=some x→R (.int (j:Int))):qd7 (.tup (xs.map D.str)) (.str x) R:=by
  have hj:xs.findIdx (fun s=>s == x)<xs.length:=List.findIdx_lt_length_of_exists ⟨x,h,beq_self_eq_true x⟩
  unfold qd7
  refine ⟨by rw [List.length_map];exact hl,xs.map (fun s=>s == x),xs.findIdx (fun s=>s == x),by simp,fun i d b hd hb=>?_,?_,fun i hi=>?_,k _ hj ?_⟩
  · obtain ⟨s,rfl,hs⟩:=qbf hd
    rw [List.getElem?_map,hs] at hb
    cases hb
    rfl
  · rw [List.getElem?_map,qao hj]
    exact congrArg some (List.findIdx_getElem (p:=fun s=>s == x))
  · have hi':i<xs.length:=by omega
    rw [List.getElem?_map,qao hi']
    have:=List.not_of_lt_findIdx hi
    show some (xs[i] == x)=some false
    simpa using this
  · have:=List.findIdx_getElem (p:=fun s=>s == x) (w:=hj)
    rw [qao hj]
    exact congrArg some (eq_of_beq this)
def qbU:SpD:=fun ds R=>∃ i:Int,ds=[.int i]∧R (.bl true)
theorem qfx {n:Nat} {f:Addr} {fd:FuncData} (F:Fun K "_law_whole" "_law_whole" qbS f fd) (z_isinstance:mg "isinstance"=none) (z_int:mg "int"=none) (z_bool:mg "bool"=none):FnOk P w K mg base CX0 (n+1) f fd ["_law_told"] (lSp K qbU):=by
  refine F.okD qfe (fun ds R h=>?_) (fun cdv A outer s H E ds R hr h=>?_)
  · obtain ⟨i,rfl,_⟩:=h;rfl
  obtain ⟨i,rfl,q⟩:=h
  refine ⟨_,(qaX (qbm (qmf (qiO rfl z_isinstance (dvq 0) (qeD (v:=.ty "int") rfl z_int PyProof.Rows.boot_int rfl) qaa qaa) (qmI (qpz (PD.q (qiO rfl z_isinstance (dvq 0) (qeD (v:=.ty "bool") rfl z_bool PyProof.Rows.boot_bool rfl) qaa qaa))))))),?_⟩
  exact ⟨true,qn0 i,fun _=>⟨false,qnK i,q⟩,fun h=>tf h⟩
def qdd:SpD:=fun ds R=>∃ (rs:List Rod) (l:List Nat) (p q:Str),ds=[.tup (rs.map rdD),qaW l,.str p]∧qaj rs p l=some q∧R (.str q)
theorem qeR {n:Nat} {f:Addr} {fd:FuncData} (F:Fun K "_law_walked" "_law_walked" qbE f fd) (Q__law_whole:Cl P w K mg base n "_law_whole" ["_law_told"] qbU) (z_isinstance:mg "isinstance"=none) (z_tuple:mg "tuple"=none) (z_len:mg "len"=none):FnOk P w K mg base CX0 (n+1) f fd ["_law_roads","_law_walk","_law_place"] (lSp K qdd):=by
  refine F.okD sc__law_walked (fun ds R h=>?_) (fun cdv A outer s H E ds R hr h=>?_)
  · obtain ⟨rs,l,p,e,rfl,_⟩:=h;rfl
  obtain ⟨rs,l,p,e,rfl,hw,q⟩:=h
  refine ⟨_,(qdg (qfb (qgc (qfH (PD.q (qiO rfl z_isinstance (dvq 1) (qeD (v:=.ty "tuple") rfl z_tuple PyProof.Rows.boot_tuple rfl) qaa qaa)) (fun _=>rfl))) (qaX (qbm qex)) qb5)
      (qaZ (qg1 PassesOwn.never rfl (qcT (dv 1)) (qbb (i:=3) sc__law_walked.nd rfl (Or.inl rfl)) (qdg (qfb (PWD.td (qkY (qgc (qfH (PD.q (qaK Q__law_whole hr rfl (qad (dv 3) qav qaa) qaa qag)) (fun _=>rfl))) (qkY (qaS qm2 (dvq 3) (PD.q qaf) (qaz _)) (qim (qaS qqe (dvq 3) (PD.q (qaR qb1 rfl z_len PySem.boot_len (qaB (dvq 0) qaQ qaa) qaa qag)) (qaz _)))))) (qaX (qbm qex)) qb5)
      (qdg (qfb (qaS (qlv hr.units) (PD.q (qaI (PD.q (qaI (dvq 0) (dvq 3) (fun _ _=>rfl))) (PD.q qaf) (fun _ _=>rfl))) (dvq 2) (qaz _)) (qaX (qbm qex)) qb5)
      (qaX (qcx (i:=2) sc__law_walked.nd rfl (Or.inl rfl) (qaI (PD.q (qaI (dvq 0) (dvq 3) (fun _ _=>rfl))) (PD.q qaf) (fun _ _=>rfl)))))))
      (qaX (qbm (dv 2))))),?_⟩
  refine ⟨fun ρ=>ρ=[some (.v (.tup (rs.map rdD))),some (.v (qaW l)),some (.v (.str p)),none],⟨true,qgJ _,fun h=>(by cases h),fun _=>rfl⟩,?_⟩
  rintro ρ rfl
  refine ⟨fun i ρ=>∃ (x:Str) (u3:Option Sl),ρ=[some (.v (.tup (rs.map rdD))),some (.v (qaW l)),some (.v (.str x)),u3]∧qaj rs x (l.drop i)=some e,⟨p,_,rfl,hw⟩,?_,?_⟩
  · rintro i d ρ hd ⟨x,u3,rfl,hx⟩
    obtain ⟨n,rfl,hn⟩:=qbf hd
    have hi:=qai hn
    have hdr:l.drop i=n::l.drop (i+1):=by rw [List.drop_eq_getElem_cons hi];congr 1;rw [qao hi] at hn;exact Option.some.inj hn
    rw [hdr] at hx
    obtain ⟨y,h1,h2⟩:=qa6 (l:=[n]) (m:=l.drop (i+1)) hx
    obtain ⟨r,z1,z2,z3⟩:=qbs h1
    have hnl:=qai z1
    have hL:((rs.map rdD).length:Int)=rs.length:=by rw [List.length_map]
    refine ⟨fun ρ=>ρ=[some (.v (.tup (rs.map rdD))),some (.v (qaW l)),some (.v (.str x)),some (.v (.int (n:Nat)))],⟨n,rfl,fun h=>(by cases h),fun _=>⟨fun h=>absurd (dP h) (by omega),fun _=>⟨fun h=>absurd (dP h) (by omega),fun _=>rfl⟩⟩⟩,?_⟩
    rintro ρ rfl
    refine ⟨fun ρ=>ρ=[some (.v (.tup (rs.map rdD))),some (.v (qaW l)),some (.v (.str x)),some (.v (.int (n:Nat)))],⟨rdD r,qax z1 rfl,_,rfl,fun h=>?_,fun _=>rfl⟩,?_⟩
    · exfalso
      have h:(!(r.1 == x))=true:=h
      rw [z2,beq_self_eq_true] at h
      cases h
    rintro ρ rfl
    refine ⟨rdD r,qax z1 rfl,_,rfl,r.2.1,_,rfl,?_⟩
    rw [z3];exact h2
  · rintro ρ ⟨x,u3,rfl,hx⟩
    rw [List.length_map,List.drop_length] at hx
    cases hx
    exact q
def qei:SpD:=fun ds R=>∃ (rs:List Rod) (l:List Nat),ds=[.tup (rs.map rdD),qaW l]∧l.length≤100∧(∀ n∈l,n<rs.length)∧R (.int (qaU rs l))
theorem qgi {n:Nat} {f:Addr} {fd:FuncData} (F:Fun K "_law_long" "_law_long" qbN f fd) (z_sum:mg "sum"=none):FnOk P w K mg base CX0 (n+1) f fd ["_law_roads","_law_walk"] (lSp K qei):=by
  refine F.okD qf8 (fun ds R h=>?_) (fun cdv A outer s H E ds R hr h=>?_)
  · obtain ⟨rs,l,rfl,_⟩:=h;rfl
  obtain ⟨rs,l,rfl,hl,hn,q⟩:=h
  refine ⟨_,(qaX (qbm (qaR (qnC rfl) rfl z_sum PyProof.Rows.boot_sum (qaB (PD.q (PF.d (qho (k:=1) (N':=["_law_number","_law_roads"]) (cap:=[none,some 0]) rfl (.ok (show qcy ["_law_roads","_law_walk"] (qah qbN) _ ["_law_number","_law_roads"] [none,some 0]=true by decide +kernel)) (by decide +kernel) (qdn (by decide)) (qcT (dv 1)) (fun _ _ _ _ _=>(qbb (i:=0) (show List.Nodup (["_law_number","_law_roads"]:List Str) by decide +kernel) rfl (Or.inl rfl))) (fun _ _ _ _ _=>(qaI (PD.q (qaI (dvq 1) (dvq 0) (fun _ _=>rfl))) (PD.q qaf) (fun _ _=>rfl)))))) qaQ qaF) qaF qag))),?_⟩
  refine qgv (f:=fun n=>D.int (n:Nat)) (qnS rs) (qay (by omega)) (fun n hm=>?_) ?_
  · obtain ⟨r,hr'⟩:=qkd (hn n hm)
    refine ⟨rdD r,qax hr' rfl,_,rfl,?_⟩
    rw [qhp hr']
  · exact ⟨_,rfl,q⟩
theorem qmi {a b:Int} (h:a=b):(!(a == b))=false:=by rw [h,beq_self_eq_true];rfl
def qeg:SpD:=fun ds R=>∃ (ps:List Str) (rs:List Rod) (us:List Str) (h:Str→Option Int),ds=[.tup (ps.map D.str),.tup (rs.map rdD),.lst (us.map D.str),.tup (ps.map fun p=>qdZ (h p))]∧ps.length≤100∧rs.length≤100∧(∀ p∈us,p∈ps)∧Hts rs us ps h∧R (.bl true)
theorem qfP {n:Nat} {f:Addr} {fd:FuncData} (F:Fun K "_law_high" "_law_high" qcp f fd) (Q__law_whole:Cl P w K mg base n "_law_whole" ["_law_told"] qbU) (z_zip:mg "zip"=none) (z_isinstance:mg "isinstance"=none) (z_tuple:mg "tuple"=none) (z_len:mg "len"=none):FnOk P w K mg base CX0 (n+1) f fd ["_law_places","_law_roads","_law_useful_here","_law_heights_here"] (lSp K qeg):=by
  refine F.okD sc__law_high (fun ds R h=>?_) (fun cdv A outer s H E ds R hr h=>?_)
  · obtain ⟨ps,rs,us,h,rfl,_⟩:=h;rfl
  obtain ⟨ps,rs,us,h,rfl,hpl,hrl,hup,hh,q⟩:=h
  refine ⟨_,(qdg (qfb (PWD.td (qkY (qgc (qfH (PD.q (qiO rfl z_isinstance (dvq 3) (qeD (v:=.ty "tuple") rfl z_tuple PyProof.Rows.boot_tuple rfl) qaa qaa)) (fun _=>rfl))) (qim (qaS (qlv hr.units) (PD.q (qaR qb1 rfl z_len PySem.boot_len (qaB (dvq 3) qaQ qaa) qaa qag)) (PD.q (qaR qb1 rfl z_len PySem.boot_len (qaB (dvq 0) qaQ qaa) qaa qag)) (qaz _))))) (qaX (qbm qdE)) qb5)
      (qaZ (qg1 PassesOwn.never rfl (qn4 rfl z_zip (qad (dv 0) (qad (dv 3) qav qaa) qaa)) (qlK (n:=2) rfl (qcI (qbb (i:=4) sc__law_high.nd rfl (Or.inl rfl)) (qcI (qbb (i:=5) sc__law_high.nd rfl (Or.inl rfl)) qjY))) (qdg (qfb (PWD.td (qgL (qaS qla (dvq 4) (dvq 2) (by with_unfolding_all rfl)) (qdQ (qgc (qfH (PD.q (qaK Q__law_whole hr rfl (qad (dv 5) qav qaa) qaa qag)) (fun _=>rfl)))))) (qaX (qbm qdE)) qb5)
      (qaX (qfb (PWD.td (qgL (qaS qfq (dvq 4) (dvq 2) (by with_unfolding_all rfl)) (qdQ (qaS qlY (dvq 5) (PD.q qex) (qaz _))))) (qaX (qbm qdE)) qb5))))
      (qaZ (qg1 PassesOwn.never rfl (qcT (dv 1)) (qbb (i:=6) sc__law_high.nd rfl (Or.inl rfl)) (qaX (qfb (PWD.td (qgL (qaS qla (PD.q (qaI (dvq 6) (PD.q qaf) (fun _ _=>rfl))) (dvq 2) (by with_unfolding_all rfl)) (qdQ (qaS qla (PD.q (qaI (dvq 6) (PD.q qaf) (fun _ _=>rfl))) (dvq 2) (by with_unfolding_all rfl))))) (qaZ (qcx (i:=7) sc__law_high.nd rfl (Or.inl rfl) (qaI (dvq 3) (PD.q (qd5 hr.units (dvq 0) (qaI (dvq 6) (PD.q qaf) (fun _ _=>rfl)) rfl (qcA qab) qab)) (fun _ _=>rfl)))
      (qaZ (qcx (i:=8) sc__law_high.nd rfl (Or.inl rfl) (qaI (dvq 3) (PD.q (qd5 hr.units (dvq 0) (qaI (dvq 6) (PD.q qaf) (fun _ _=>rfl)) rfl (qcA qab) qab)) (fun _ _=>rfl)))
      (qaX (qfb (qaS qlX (PD.q (qbn qcC (dvq 8) (dvq 7))) (PD.q (qaI (dvq 6) (PD.q qaf) (fun _ _=>rfl))) (qaz _)) (qaX (qbm qdE)) qb5)))) qb5)))
      (qaX (qbm qdE))))),?_⟩
  have hm:∀ x:Str,qfV (.inr x) (us.map Sum.inr)=decide (x∈us):=fun x=>qcd
  have hL:(((ps.map fun p=>qdZ (h p)).length:Nat):Int)=((ps.map D.str).length:Nat):=by rw [List.length_map,List.length_map]
  refine ⟨fun ρ=>ρ=[some (.v (.tup (ps.map D.str))),some (.v (.tup (rs.map rdD))),some (.v (.lst (us.map D.str))),some (.v (.tup (ps.map fun p=>qdZ (h p)))),none,none,none,none,none],⟨true,qgJ _,fun h=>(by cases h),fun _=>⟨fun z=>absurd z (by rw [qmi hL];decide),fun _=>rfl⟩⟩,?_⟩
  rintro ρ rfl
  refine ⟨_,_,rfl,rfl,?_⟩
  refine ⟨fun i ρ=>∃ u4 u5:Option Sl,ρ=[some (.v (.tup (ps.map D.str))),some (.v (.tup (rs.map rdD))),some (.v (.lst (us.map D.str))),some (.v (.tup (ps.map fun p=>qdZ (h p)))),u4,u5,none,none,none],⟨_,_,rfl⟩,?_,?_⟩
  · rintro i d ρ hd ⟨u4,u5,rfl⟩
    obtain ⟨x,y,hx,hy,rfl⟩:=qj3 hd
    obtain ⟨p,rfl,hp⟩:=qbf hx
    obtain ⟨p',rfl,hp'⟩:=qbf hy
    cases hp.symm.trans hp'
    have hs:=hh.some p (List.mem_of_getElem? hp)
    refine ⟨rfl,fun ρ=>ρ=[some (.v (.tup (ps.map D.str))),some (.v (.tup (rs.map rdD))),some (.v (.lst (us.map D.str))),some (.v (.tup (ps.map fun p=>qdZ (h p)))),some (.v (.str p)),some (.v (qdZ (h p))),none,none,none],⟨.inr p,us.map Sum.inr,rfl,by rw [← qa8];rfl,fun c=>?_,fun c=>?_⟩,?_⟩
    · rw [qbh,hm] at c
      obtain ⟨z,hz⟩:=Option.isSome_iff_exists.mp (hs.mpr (of_decide_eq_true c))
      exact ⟨z,by rw [hz];rfl,fun h=>(by cases h),fun _=>rfl⟩
    · exact ⟨fun h=>(by cases h),fun _=>rfl⟩
    rintro ρ rfl
    refine ⟨.inr p,us.map Sum.inr,rfl,by rw [← qa8];rfl,fun c=>?_,fun c=>?_⟩
    · rw [qdx,hm] at c
      have hn:h p=none:=by
        cases hz:h p with
        | none=>rfl
        | some z=>rw [hz] at hs;rw [decide_eq_true (hs.mp rfl)] at c;cases c
      rw [hn]
      exact ⟨fun h=>(by cases h),fun _=>⟨_,_,rfl⟩⟩
    · exact ⟨fun h=>(by cases h),fun _=>⟨_,_,rfl⟩⟩
  rintro ρ ⟨u4,u5,rfl⟩
  refine ⟨fun i ρ=>∃ u6 u7 u8:Option Sl,ρ=[some (.v (.tup (ps.map D.str))),some (.v (.tup (rs.map rdD))),some (.v (.lst (us.map D.str))),some (.v (.tup (ps.map fun p=>qdZ (h p)))),u4,u5,u6,u7,u8],⟨_,_,_,rfl⟩,?_,?_⟩
  · rintro i d ρ hd ⟨u6,u7,u8,rfl⟩
    obtain ⟨r,rfl,hri⟩:=qbf hd
    refine ⟨_,rfl,.inr r.1,us.map Sum.inr,rfl,by rw [← qa8];rfl,fun c=>?_,fun c=>?_⟩
    · rw [qbh,hm] at c
      refine ⟨_,rfl,.inr r.2.1,us.map Sum.inr,rfl,by rw [← qa8];rfl,fun c2=>?_,fun c2=>?_⟩
      · rw [qbh,hm] at c2
        have c:=of_decide_eq_true c
        have c2:=of_decide_eq_true c2
        obtain ⟨x,hx⟩:=Option.isSome_iff_exists.mp ((hh.some _ (hup _ c)).mpr c)
        obtain ⟨y,hy⟩:=Option.isSome_iff_exists.mp ((hh.some _ (hup _ c2)).mpr c2)
        have hle:=hh.road r (List.mem_of_getElem? hri) c c2 x y hx hy
        refine ⟨trivial,_,rfl,?_⟩
        refine qcM (hup _ c) (by omega) fun j1 _ he1=>?_
        refine ⟨.int x,(qax (f:=fun p=>qdZ (h p)) he1 rfl).trans (congrArg (fun o=>some (qdZ o)) hx),trivial,_,rfl,?_⟩
        refine qcM (hup _ c2) (by omega) fun j2 _ he2=>?_
        refine ⟨.int y,(qax (f:=fun p=>qdZ (h p)) he2 rfl).trans (congrArg (fun o=>some (qdZ o)) hy),_,rfl,fun z=>absurd (dP z) (by omega),fun _=>⟨_,_,_,rfl⟩⟩
      · exact ⟨_,_,_,rfl⟩
    · exact ⟨fun h=>(by cases h),fun _=>⟨_,_,_,rfl⟩⟩
  · rintro ρ ⟨u6,u7,u8,rfl⟩
    exact q
def qdP:SpD:=fun ds R=>∃ (ps:List Str) (rs:List Rod) (a g:Str),ds=[.tup [.tup (ps.map D.str),.tup (rs.map rdD),.str a,.str g],qce ps rs a g]∧MapOk ps rs a g∧R (.bl true)
theorem qff {n:Nat} {f:Addr} {fd:FuncData} (F:Fun K "_law_right" "_law_right" qbr f fd) (Q__law_spread:Cl P w K mg base n "_law_spread" ["_law_roads","_law_begin","_law_side"] qcq) (Q__law_walked:Cl P w K mg base n "_law_walked" ["_law_roads","_law_walk","_law_place"] qdd) (Q__law_useful:Cl P w K mg base n "_law_useful" ["_law_places","_law_roads","_law_start","_law_goal"] qdt) (Q__law_whole:Cl P w K mg base n "_law_whole" ["_law_told"] qbU) (Q__law_high:Cl P w K mg base n "_law_high" ["_law_places","_law_roads","_law_useful_here","_law_heights_here"] qeg) (Q__law_long:Cl P w K mg base n "_law_long" ["_law_roads","_law_walk"] qei) (z_len:mg "len"=none) (z_isinstance:mg "isinstance"=none) (z_tuple:mg "tuple"=none):FnOk P w K mg base CX0 (n+1) f fd ["_law_asked","_law_told"] (lSp K qdP):=by
  refine F.okD sc__law_right (fun ds R h=>?_) (fun cdv A outer s H E ds R hr h=>?_)
  · obtain ⟨ps,rs,a,g,rfl,_⟩:=h;rfl
  obtain ⟨ps,rs,a,g,rfl,hc,q⟩:=h
  refine ⟨_,(qaZ (qpO (dv 0) (qlK (n:=4) rfl (qcI (qbb (i:=2) sc__law_right.nd rfl (Or.inl rfl)) (qcI (qbb (i:=3) sc__law_right.nd rfl (Or.inl rfl)) (qcI (qbb (i:=4) sc__law_right.nd rfl (Or.inl rfl)) (qcI (qbb (i:=5) sc__law_right.nd rfl (Or.inl rfl)) qjY))))))
      (qdg (qfb (PWD.td (qkY (qgc (qfH (PD.q (qiO rfl z_isinstance (dvq 1) (qeD (v:=.ty "tuple") rfl z_tuple PyProof.Rows.boot_tuple rfl) qaa qaa)) (fun _=>rfl))) (qim (qaS qm2 (PD.q (qaR qb1 rfl z_len PySem.boot_len (qaB (dvq 1) qaQ qaa) qaa qag)) (PD.q qaf) (qaz _))))) (qaX (qbm qdE)) qb5)
      (qaZ (qcx (i:=6) sc__law_right.nd rfl (Or.inr rfl) (qaK Q__law_spread hr rfl (qad (dv 3) (qad (dv 4) (qad qaf qav qae) qaa) qaa) qaa (qac qaa (qac qae qag))))
      (qdg (qfb (qaS qfq (dvq 5) (dvq 6) (by with_unfolding_all rfl)) (qaX (qbm (qfn (qfO hr.units) (dvq 1) (PD.q (qbK (qad qaV (qad (qbT qc9 rfl z_tuple PyProof.Rows.boot_tuple (qaB (PD.q (PF.d (qgQ (k:=1) (N':=["_law_one","_law_ahead"]) (cap:=[none,some 6]) rfl (.ok (show qcy ["_law_asked","_law_told","_law_places","_law_roads","_law_start","_law_goal","_law_ahead","_law_place","_law_useful_here"] (qah qbr) _ ["_law_one","_law_ahead"] [none,some 6]=true by decide +kernel)) (by decide +kernel) (qdn (by decide)) (qcT (dv 2)) (fun _ _ _ _ _=>(qbb (i:=0) (show List.Nodup (["_law_one","_law_ahead"]:List Str) by decide +kernel) rfl (Or.inl rfl))) (fun _ _ _ _ _=>(qfX (qaS qla (dvq 0) (dvq 1) (by with_unfolding_all rfl)))) (fun _ _ _ _ _=>(dv 0))))) qaQ qaF) qaF qag) qav qaM) qae))) (qaz _)))) qb5)
      (qdg (qfb (qaS (qlv hr.units) (PD.q (qaR qb1 rfl z_len PySem.boot_len (qaB (dvq 1) qaQ qaa) qaa qag)) (PD.q qaf) (qaz _)) (qaX (qbm qdE)) qb5)
      (qaZ (qcx (i:=7) sc__law_right.nd rfl (Or.inl rfl) (qaK Q__law_walked hr rfl (qad (dv 3) (qad (qaI (dvq 1) (PD.q qaf) (fun _ _=>rfl)) (qad (dv 4) qav qaa) qab) qaa) qaa (qac qab (qac qaa qag))))
      (qdg (qfb (qaS (qfO hr.units) (PD.q (qaI (dvq 1) (PD.q qaf) (fun _ _=>rfl))) (PD.q qaV) (qaz _)) (qdg (qfb (PWD.td (qkY (qaS qqB (dvq 7) (PD.q qex) (qaz _)) (qkY (qaS (qlv hr.units) (PD.q (qaK Q__law_walked hr rfl (qad (dv 3) (qad (qaI (dvq 1) (PD.q qaf) (fun _ _=>rfl)) (qad (dv 7) qav qaa) qab) qaa) qaa (qac qab (qac qaa qag)))) (dvq 7) (qaz _)) (qim (qaS (qfO hr.units) (PD.q (qaR qb1 rfl z_len PySem.boot_len (qaB (PD.q (qaI (dvq 1) (PD.q qaf) (fun _ _=>rfl))) qaQ qab) qab qag)) (PD.q qaf) (qaz _)))))) (qaX (qbm qdE)) qb5)
      (qaX (qbm (qmf (qfn qm2 (PD.q (qaK Q__law_long hr rfl (qad (dv 3) (qad (qaI (dvq 1) (PD.q qaf) (fun _ _=>rfl)) qav qab) qaa) qaa (qac qab qag))) (PD.q qaf) (qaz _)) (qmI (qfn (qfO hr.units) (PD.q (qaK Q__law_walked hr rfl (qad (dv 3) (qad (qaI (dvq 1) (PD.q qaf) (fun _ _=>rfl)) (qad (dv 7) qav qaa) qab) qaa) qaa (qac qab (qac qaa qag)))) (dvq 5) (qaz _))))))) qb5)
      (qdg (qfb (PWD.td (qkY (qaS (qlv hr.units) (PD.q (qaI (dvq 1) (PD.q qaf) (fun _ _=>rfl))) (PD.q qaV) (qaz _)) (qkY (qaS (qlv hr.units) (dvq 7) (dvq 5) (qaz _)) (qim (qgc (qfH (PD.q (qaK Q__law_whole hr rfl (qad (qaI (dvq 1) (PD.q qaf) (fun _ _=>rfl)) qav qab) qab qag)) (fun _=>rfl))))))) (qaX (qbm qdE)) qb5)
      (qaZ (qcx (i:=8) sc__law_right.nd rfl (Or.inl rfl) (qaK Q__law_useful hr rfl (qad (dv 2) (qad (dv 3) (qad (dv 4) (qad (dv 5) qav qaa) qaa) qaa) qaa) qaa (qac qaa (qac qaa (qac qaa qag)))))
      (qdg (qfb (PWD.td (qkY (qgc (qfH (PD.q (qaK Q__law_high hr rfl (qad (dv 2) (qad (dv 3) (qad (dv 8) (qad (qaI (dvq 1) (PD.q qaf) (fun _ _=>rfl)) qav qab) qaa) qaa) qaa) qaa (qac qaa (qac qaa (qac qab qag))))) (fun _=>rfl))) (qim (qaS (qlv hr.units) (PD.q (qaK Q__law_long hr rfl (qad (dv 3) (qad (qaI (dvq 1) (PD.q qaf) (fun _ _=>rfl)) qav qab) qaa) qaa (qac qab qag))) (PD.q (qaI (dvq 1) (PD.q qaf) (fun _ _=>rfl))) (qaz _))))) (qaX (qbm qdE)) qb5)
      (qaX (qbm (qfn (qfO hr.units) (PD.q (qbn qcC (PD.q (qaI (PD.q (qaI (dvq 1) (PD.q qaf) (fun _ _=>rfl))) (PD.q (qd5 hr.units (dvq 2) (dv 5) rfl (qcA qaa) qaa)) (fun _ _=>rfl))) (PD.q (qaI (PD.q (qaI (dvq 1) (PD.q qaf) (fun _ _=>rfl))) (PD.q (qd5 hr.units (dvq 2) (dv 4) rfl (qcA qaa) qaa)) (fun _ _=>rfl))))) (PD.q (qaI (dvq 1) (PD.q qaf) (fun _ _=>rfl))) (qaz _)))))))))))))),?_⟩
  have hpl:=hc.pl
  have hrl:=hc.rl
  have htd:=qgK hc
  generalize qce ps rs a g=d at htd
  rcases htd with ⟨hn,rfl⟩ | ⟨hy,w',c,e,pl,n0,r0,l3,k,rfl⟩ | ⟨hy,l,h,rfl,e1,hl,hnl,hh,ha,hgg⟩
  · refine ⟨rfl,fun ρ=>ρ=[some (.v (.tup [.tup (ps.map D.str),.tup (rs.map rdD),.str a,.str g])),some (.v (.tup [.str "wall",.tup ((ps.filter fun p=>(qam (qaL rs a) p).isSome).map D.str)])),some (.v (.tup (ps.map D.str))),some (.v (.tup (rs.map rdD))),some (.v (.str a)),some (.v (.str g)),none,none,none],⟨true,qgJ _,fun h=>(by cases h),fun _=>⟨fun h=>absurd (dP h) (by show ¬ ((2:Nat):Int)<2;decide),fun _=>rfl⟩⟩,?_⟩
    rintro ρ rfl
    refine ⟨rs,a,0,rfl,by omega,by decide,fun xs hx hxl=>?_⟩
    have hm:∀ x:Str,qfV (.inr x) (xs.map Sum.inr)=decide (x∈xs):=fun x=>qcd
    refine ⟨fun ρ=>False,⟨.inr g,xs.map Sum.inr,rfl,by rw [← qa8];rfl,fun c=>?_,fun c=>?_⟩,?_⟩
    · refine ⟨by rw [List.length_map];exact qay (by omega),fun i y=>qli (fun p=>decide (p∈xs)) D.str ps[i]? y,qdj (fun p _=>?_),fun ys hl hy=>?_⟩
      · refine ⟨.inr p,xs.map Sum.inr,rfl,by rw [← qa8];rfl,fun h=>?_,fun h=>?_⟩
        · rw [qbh,hm] at h
          exact ⟨h,rfl⟩
        · rw [qbh,hm] at h
          exact h
      · rw [qeB hl hy]
        have he:(ps.filter fun p=>decide (p∈xs))=ps.filter fun p=>(qam (qaL rs a) p).isSome:=List.filter_congr fun p _=>by
          rw [Bool.eq_iff_iff,decide_eq_true_iff,hx,walksF_some]
          exact Iff.rfl
        rw [he]
        exact qkP (qmt _) q
    · exfalso
      rw [qdx,hm] at c
      refine hn ((hx g).mp (Classical.byContradiction fun z=>?_))
      rw [decide_eq_false z] at c
      cases c
    · rintro ρ ⟨⟩
  · have hlen:=k.len
    have hwl:∀ n∈w',n<rs.length:=k.lt
    refine ⟨rfl,fun ρ=>ρ=[some (.v (.tup [.tup (ps.map D.str),.tup (rs.map rdD),.str a,.str g])),some (.v (.tup [.str "ring",qaW (w'.take c),qaW ((w'.take e).drop c),qaW l3])),some (.v (.tup (ps.map D.str))),some (.v (.tup (rs.map rdD))),some (.v (.str a)),some (.v (.str g)),none,none,none],⟨true,qgJ _,fun h=>(by cases h),fun _=>⟨fun h=>absurd (dP h) (by show ¬ ((4:Nat):Int)<2;decide),fun _=>rfl⟩⟩,?_⟩
    rintro ρ rfl
    refine ⟨rs,a,0,rfl,by omega,by decide,fun xs hx hxl=>?_⟩
    have hm:∀ x:Str,qfV (.inr x) (xs.map Sum.inr)=decide (x∈xs):=fun x=>qcd
    refine ⟨fun ρ=>ρ=[some (.v (.tup [.tup (ps.map D.str),.tup (rs.map rdD),.str a,.str g])),some (.v (.tup [.str "ring",qaW (w'.take c),qaW ((w'.take e).drop c),qaW l3])),some (.v (.tup (ps.map D.str))),some (.v (.tup (rs.map rdD))),some (.v (.str a)),some (.v (.str g)),some (.v (.lst (xs.map D.str))),none,none],⟨.inr g,xs.map Sum.inr,rfl,by rw [← qa8];rfl,fun c=>?_,fun c=>rfl⟩,?_⟩
    · exfalso
      rw [qdx,hm,decide_eq_true ((hx g).mpr hy)] at c
      cases c
    rintro ρ rfl
    refine ⟨fun ρ=>ρ=[some (.v (.tup [.tup (ps.map D.str),.tup (rs.map rdD),.str a,.str g])),some (.v (.tup [.str "ring",qaW (w'.take c),qaW ((w'.take e).drop c),qaW l3])),some (.v (.tup (ps.map D.str))),some (.v (.tup (rs.map rdD))),some (.v (.str a)),some (.v (.str g)),some (.v (.lst (xs.map D.str))),none,none],⟨fun h=>absurd h (show ¬ ((!(((4:Nat):Int) == 4))=true) by decide),fun _=>rfl⟩,?_⟩
    rintro ρ rfl
    refine ⟨_,rfl,rs,w'.take c,a,pl,rfl,k.e1,?_⟩
    refine ⟨fun ρ=>False,⟨_,rfl,fun _=>?_,fun h=>(by cases h)⟩,?_⟩
    · have hle:((w'.take e).drop c).length≤100:=by rw [List.length_drop,List.length_take];omega
      have hpos:=qai k.hd
      refine ⟨fun ρ=>ρ=[some (.v (.tup [.tup (ps.map D.str),.tup (rs.map rdD),.str a,.str g])),some (.v (.tup [.str "ring",qaW (w'.take c),qaW ((w'.take e).drop c),qaW l3])),some (.v (.tup (ps.map D.str))),some (.v (.tup (rs.map rdD))),some (.v (.str a)),some (.v (.str g)),some (.v (.lst (xs.map D.str))),some (.v (.str pl)),none],⟨fun h=>(by cases h),fun _=>⟨_,rfl,rs,(w'.take e).drop c,pl,pl,rfl,k.e2,fun h=>?_,fun _=>⟨_,rfl,fun h=>?_,fun _=>rfl⟩⟩⟩,?_⟩
      · have h:(!(pl == pl))=true:=h
        rw [beq_self_eq_true] at h
        cases h
      · have h:=eq_of_beq h
        rw [List.length_map] at h
        omega
      rintro ρ rfl
      refine ⟨_,rfl,rs,(w'.take e).drop c,rfl,hle,fun n hn=>hwl n (List.mem_of_mem_take (List.mem_of_mem_drop hn)),fun _=>⟨_,rfl,rs,l3,pl,g,rfl,k.w3,toB q (beq_self_eq_true g)⟩,fun h=>absurd k.neg (of_decide_eq_false h)⟩
    · rintro ρ ⟨⟩
  · refine ⟨rfl,fun ρ=>ρ=[some (.v (.tup [.tup (ps.map D.str),.tup (rs.map rdD),.str a,.str g])),some (.v (.tup [.str "road",qaW l,.int (qaU rs l),.tup (ps.map fun p=>qdZ (h p))])),some (.v (.tup (ps.map D.str))),some (.v (.tup (rs.map rdD))),some (.v (.str a)),some (.v (.str g)),none,none,none],⟨true,qgJ _,fun h=>(by cases h),fun _=>⟨fun h=>absurd (dP h) (by show ¬ ((4:Nat):Int)<2;decide),fun _=>rfl⟩⟩,?_⟩
    rintro ρ rfl
    refine ⟨rs,a,0,rfl,by omega,by decide,fun xs hx hxl=>?_⟩
    have hm:∀ x:Str,qfV (.inr x) (xs.map Sum.inr)=decide (x∈xs):=fun x=>qcd
    refine ⟨fun ρ=>ρ=[some (.v (.tup [.tup (ps.map D.str),.tup (rs.map rdD),.str a,.str g])),some (.v (.tup [.str "road",qaW l,.int (qaU rs l),.tup (ps.map fun p=>qdZ (h p))])),some (.v (.tup (ps.map D.str))),some (.v (.tup (rs.map rdD))),some (.v (.str a)),some (.v (.str g)),some (.v (.lst (xs.map D.str))),none,none],⟨.inr g,xs.map Sum.inr,rfl,by rw [← qa8];rfl,fun c=>?_,fun c=>rfl⟩,?_⟩
    · exfalso
      rw [qdx,hm,decide_eq_true ((hx g).mpr hy)] at c
      cases c
    rintro ρ rfl
    refine ⟨fun ρ=>ρ=[some (.v (.tup [.tup (ps.map D.str),.tup (rs.map rdD),.str a,.str g])),some (.v (.tup [.str "road",qaW l,.int (qaU rs l),.tup (ps.map fun p=>qdZ (h p))])),some (.v (.tup (ps.map D.str))),some (.v (.tup (rs.map rdD))),some (.v (.str a)),some (.v (.str g)),some (.v (.lst (xs.map D.str))),none,none],⟨fun h=>absurd h (show ¬ ((!(((4:Nat):Int) == 4))=true) by decide),fun _=>rfl⟩,?_⟩
    rintro ρ rfl
    refine ⟨_,rfl,rs,l,a,g,rfl,e1,?_⟩
    refine ⟨fun ρ=>ρ=[some (.v (.tup [.tup (ps.map D.str),.tup (rs.map rdD),.str a,.str g])),some (.v (.tup [.str "road",qaW l,.int (qaU rs l),.tup (ps.map fun p=>qdZ (h p))])),some (.v (.tup (ps.map D.str))),some (.v (.tup (rs.map rdD))),some (.v (.str a)),some (.v (.str g)),some (.v (.lst (xs.map D.str))),some (.v (.str g)),none],⟨_,rfl,fun h=>(by cases h),fun _=>rfl⟩,?_⟩
    rintro ρ rfl
    refine ⟨fun ρ=>ρ=[some (.v (.tup [.tup (ps.map D.str),.tup (rs.map rdD),.str a,.str g])),some (.v (.tup [.str "road",qaW l,.int (qaU rs l),.tup (ps.map fun p=>qdZ (h p))])),some (.v (.tup (ps.map D.str))),some (.v (.tup (rs.map rdD))),some (.v (.str a)),some (.v (.str g)),some (.v (.lst (xs.map D.str))),some (.v (.str g)),none],⟨_,rfl,fun h=>(by cases h),fun _=>⟨fun h=>?_,fun _=>⟨_,rfl,qaU rs l,rfl,fun h=>(by cases h),fun _=>rfl⟩⟩⟩,?_⟩
    · have h:(!(g == g))=true:=h
      rw [beq_self_eq_true] at h
      cases h
    rintro ρ rfl
    refine ⟨ps,rs,a,g,rfl,by omega,by omega,?_⟩
    refine ⟨fun ρ=>ρ=[some (.v (.tup [.tup (ps.map D.str),.tup (rs.map rdD),.str a,.str g])),some (.v (.tup [.str "road",qaW l,.int (qaU rs l),.tup (ps.map fun p=>qdZ (h p))])),some (.v (.tup (ps.map D.str))),some (.v (.tup (rs.map rdD))),some (.v (.str a)),some (.v (.str g)),some (.v (.lst (xs.map D.str))),some (.v (.str g)),some (.v (.lst ((qal ps rs a g).map D.str)))],⟨_,rfl,ps,rs,qal ps rs a g,h,rfl,by omega,by omega,fun p hp=>(useful_mem.mp hp).1,hh,fun h=>(by cases h),fun _=>⟨_,rfl,rs,l,rfl,by omega,hnl,_,rfl,fun h=>?_,fun _=>rfl⟩⟩,?_⟩
    · have h:(!(qaU rs l == qaU rs l))=true:=h
      rw [beq_self_eq_true] at h
      cases h
    rintro ρ rfl
    refine ⟨_,rfl,trivial,?_⟩
    refine qcM hc.g (by omega) fun j1 _ he1=>?_
    refine ⟨.int (qaU rs l),(qax (f:=fun p=>qdZ (h p)) he1 rfl).trans (congrArg (fun o=>some (qdZ o)) hgg),_,rfl,trivial,?_⟩
    refine qcM hc.a (by omega) fun j2 _ he2=>?_
    refine ⟨.int 0,(qax (f:=fun p=>qdZ (h p)) he2 rfl).trans (congrArg (fun o=>some (qdZ o)) ha),_,rfl,?_⟩
    refine toB q ?_
    show (qaU rs l - 0 == qaU rs l)=true
    rw [Int.sub_zero,beq_self_eq_true]
open Wl
inductive Wlk (rs:List Rod) (a:Str):Str→Int→Prop where
  | nil:Wlk rs a a 0
  | snoc {b:Str} {z:Int} {r:Rod}:Wlk rs a b z→r∈rs→r.1=b→Wlk rs a r.2.1 (z+r.2.2)
theorem Wlk.mono {rs rs':List Rod} {a b:Str} {z:Int} (h:Wlk rs a b z) (hs:∀ r∈rs,r∈rs'):Wlk rs' a b z:=by
  induction h with
  | nil=>exact .nil
  | snoc _ hr e ih=>exact .snoc ih (hs _ hr) e
theorem Wlk.rch {rs:List Rod} {a b:Str} {z:Int} (h:Wlk rs a b z):Rch rs a b:=by
  induction h with
  | nil=>exact .refl
  | snoc _ hr e ih=>exact .step ih hr e
theorem qbB {rs rs':List Rod} {a b:Str} (h:Rch rs a b) (hs:∀ r∈rs,r∈rs'):Rch rs' a b:=by
  induction h with
  | refl=>exact .refl
  | step _ hr e ih=>exact .step ih (hs _ hr) e
theorem Wlk.walk {rs:List Rod} {a b:Str} {z:Int} (h:Wlk rs a b z):∃ l,qaj rs a l=some b∧qaU rs l=z:=by
  induction h with
  | nil=>exact ⟨[],rfl,rfl⟩
  | snoc _ hr e ih =>
    obtain ⟨l,h1,h2⟩:=ih
    obtain ⟨n,hn⟩:=List.getElem?_of_mem hr
    exact ⟨l++[n],qdr (by rw [h1,e]) hn,by rw [qdu hn,h2]⟩
theorem Wlk.to {rs:List Rod} {a b c:Str} {z y:Int} (h:Wlk rs a b z) (e:b=c) (e2:z=y):Wlk rs a c y:=by subst e;subst e2;exact h
structure PlantOk (ps:List Str) (rs:List Rod) (a g:Str) (b:Bool) (rise:Int):Prop where
  map:MapOk ps rs a g
  to:Rch rs a g
  ring:b=true→∃ p z,Rch rs a p∧Rch rs p g∧z<0∧Wlk rs p p z
  road:b=false→∃ H:Str→Int,(∀ r∈rs,Rch rs a r.1→Rch rs r.2.1 g→H r.2.1≤H r.1+r.2.2)∧rise=H g - H a∧Wlk rs a g rise
theorem qhR {rs:List Rod} {a g x y:Str} {H:Str→Int} (hH:∀ r∈rs,Rch rs a r.1→Rch rs r.2.1 g→H r.2.1≤H r.1+r.2.2) {l:List Nat} (hx:Rch rs a x) (hy:Rch rs y g) (hw:qaj rs x l=some y):H y - H x≤qaU rs l:=by
  refine pot l (fun n hn r hr=>?_) hw
  obtain ⟨r',z1,z2,z3⟩:=qh4 hw hn
  rw [hr] at z1;cases z1
  exact hH r (List.mem_of_getElem? hr) (hx.trans z2) (z3.trans hy)
theorem qmr {ps:List Str} {rs:List Rod} {a g:Str} (hc:MapOk ps rs a g) {h:Str→Option Int} (hh:Hts rs (qal ps rs a g) ps h):∀ r∈rs,Rch rs a r.1→Rch rs r.2.1 g→(h r.2.1).getD 0≤(h r.1).getD 0+r.2.2:=by
  intro r hr h1 h2
  obtain ⟨p1,p2⟩:=hc.r r hr
  have h3:Rch rs r.1 r.2.1:=.one hr
  have u1:r.1∈qal ps rs a g:=useful_mem.mpr ⟨p1,h1,h3.trans h2⟩
  have u2:r.2.1∈qal ps rs a g:=useful_mem.mpr ⟨p2,h1.trans h3,h2⟩
  obtain ⟨x,hx⟩:=Option.isSome_iff_exists.mp ((hh.some _ p1).mpr u1)
  obtain ⟨y,hy⟩:=Option.isSome_iff_exists.mp ((hh.some _ p2).mpr u2)
  have:=hh.road r hr u1 u2 x y hx hy
  rw [hx,hy]
  show y≤x+r.2.2
  omega
theorem qfR {ps:List Str} {rs:List Rod} {a g:Str} {b:Bool} {rise:Int} (k:PlantOk ps rs a g b rise) :
    (b=true→∃ l1 l2 l3,qce ps rs a g=.tup [.str "ring",qaW l1,qaW l2,qaW l3])∧(b=false→∃ l hd,qce ps rs a g=.tup [.str "road",qaW l,.int rise,hd]):=by
  rcases qgK k.map with ⟨hn,_⟩ | ⟨_,w,c,e,pl,n0,r0,l3,kr,ed⟩ | ⟨_,l,h,ed,e1,hl,hnl,hh,ha,hg⟩
  · exact absurd k.to hn
  · refine ⟨fun _=>⟨_,_,_,ed⟩,fun hb=>?_⟩
    obtain ⟨H,hH,_,_⟩:=k.road hb
    have:=qhR hH (qbJ kr.e1) (qbJ kr.w3) kr.e2
    have:=kr.neg
    omega
  · have hw:=qmr k.map hh
    refine ⟨fun hb=>?_,fun hb=>?_⟩
    · obtain ⟨p,z,h1,h2,hz,h3⟩:=k.ring hb
      obtain ⟨l',y1,y2⟩:=h3.walk
      have:=qhR (H:=fun x=>(h x).getD 0) hw h1 h2 y1
      omega
    · obtain ⟨H,hH,hr,hk⟩:=k.road hb
      obtain ⟨l',y1,y2⟩:=hk.walk
      have e2:=qhR (H:=fun x=>(h x).getD 0) hw .refl .refl y1
      have e2:(h g).getD 0 - (h a).getD 0≤qaU rs l':=e2
      have e3:=qhR hH .refl .refl e1
      rw [ha,hg] at e2
      have e2:qaU rs l - 0≤qaU rs l':=e2
      have:qaU rs l=rise:=by omega
      rw [this] at ed
      exact ⟨l,_,ed⟩
def qgs (rs:List Rod) (k:Nat) (r:Rod):List Rod:=rs.take k++r::rs.drop k
theorem insR_mem {rs:List Rod} {k:Nat} {r x:Rod}:x∈qgs rs k r↔x=r∨x∈rs:=by
  unfold qgs
  rw [List.mem_append,List.mem_cons]
  constructor
  · rintro (h | h | h)
    · exact .inr (List.mem_of_mem_take h)
    · exact .inl h
    · exact .inr (List.mem_of_mem_drop h)
  · rintro (h | h)
    · exact .inr (.inl h)
    · have:x∈rs.take k++rs.drop k:=by rw [List.take_append_drop];exact h
      rcases List.mem_append.mp this with h | h
      · exact .inl h
      · exact .inr (.inr h)
theorem qcL (rs:List Rod) (k:Nat) (r:Rod):(qgs rs k r).length=rs.length+1:=by
  unfold qgs
  rw [List.length_append,List.length_cons,← Nat.add_assoc,← List.length_append,List.take_append_drop]
theorem qkV (rs:List Rod) (k:Nat) (r:Rod):(rs.map rdD).take k++rdD r::(rs.map rdD).drop k=(qgs rs k r).map rdD:=by
  unfold qgs
  rw [List.map_append,List.map_cons,List.map_take,List.map_drop]
def qdc:SpM:=fun as R _=>∃ (a b:Option Addr) (o:Om) (rs:List Rod) (r:Rod) (n:Nat),as=[.ob a o,.ob b (.lst (rs.map rdD)),.v (rdD r)]∧Pl n o∧n+1<2 ^ 20∧rs.length≤100∧∀ (k:Nat) (o':Om),Pl (n+1) o'→R (.v .non) [o',.lst ((qgs rs k r).map rdD)]
theorem qgB {n:Nat} {f:Addr} {fd:FuncData} (F:Fun K "_law_laid" "_law_laid" qcb f fd) (R__law_next:ClM P w K mg base n "_law_next" ["_law_pool_here","_law_size"] qa4) (z_len:mg "len"=none):FnOk P w K mg base CX0 (n+1) f fd ["_law_pool_here","_law_roads","_law_one"] (qfA K qdc):=by
  refine F.okM qgb (fun as R Rx h=>?_) (fun cdv A outer s H E as R Rx qs hcd hr h hqs=>?_)
  · obtain ⟨a,b,o,rs,r,n,rfl,_⟩:=h;rfl
  obtain ⟨a,b,o,rs,r,n,rfl,hp,hn,hl,q⟩:=h
  obtain ⟨pa,pb,rfl⟩:=qqj hqs
  refine ⟨_,(qaN (qkl 1 (qaw R__law_next hr rfl (qas 0 (qap (qaP (qbn qbF (PD.q (qaR qb1 rfl z_len PySem.boot_len (qaB (dvq 1) qaQ qaa) qaa qag)) (PD.q qaf))) qaD qaH) qaa) qaa (qac qaH qag)) (qaP (dv 2)) (qmM qaM qaa) qaM qaa (qac qaa qag))),?_⟩
  have hL:((rs.map rdD).length:Int)=rs.length:=by rw [List.length_map]
  refine ⟨⟨_,_,rfl⟩,_,rfl,rfl,_,_,_,n,rfl,hp,by omega,by omega,lt9 (by omega),fun x o1 hx0 hx1 hp1=>?_⟩
  dsimp only [qaJ,qaC,qbR,qb7,qdw,qcN,qdv,List.set]
  obtain ⟨k,rfl⟩:=Int.eq_ofNat_of_zero_le hx0
  refine ⟨k,rfl,by omega,by rw [List.length_map];exact qay (by omega),_,qkV rs k r,_,rfl,_,rfl,q k o1 hp1⟩
def qeA:SpM:=fun as R _=>∃ (a b:Option Addr) (o:Om) (rs:List Rod) (ps:List Str) (hs:List Int) (bg:Nat) (p:Str) (n:Nat),as=[.ob a o,.ob b (.lst (rs.map rdD)),.v (.lst (ps.map D.str)),.v (.lst (hs.map D.int)),.v (.int (bg:Nat))]∧Pl n o∧n+20<2 ^ 20∧rs.length≤50∧bg<hs.length∧hs.length<ps.length∧hs.length≤10∧ps[bg]?=some p ∧
  ∀ (rs':List Rod) (o':Om),(∀ r∈rs,r∈rs')→rs'.length≤rs.length+3→(∀ r∈rs',r∈rs∨r.1∈ps∧r.2.1∈ps)→Wlk rs' p p (-1)→Pl (n+20) o'→R (.v .non) [o',.lst (rs'.map rdD)]
theorem qgF {n:Nat} {f:Addr} {fd:FuncData} (F:Fun K "_law_ring" "_law_ring" qcm f fd) (R__law_next:ClM P w K mg base n "_law_next" ["_law_pool_here","_law_size"] qa4) (R__law_laid:ClM P w K mg base n "_law_laid" ["_law_pool_here","_law_roads","_law_one"] qdc) (z_range:mg "range"=none) (z_len:mg "len"=none) (z_int:mg "int"=none):FnOk P w K mg base CX0 (n+1) f fd ["_law_pool_here","_law_roads","_law_places","_law_heights_here","_law_begin"] (qfA K qeA):=by
  refine F.okM sc__law_ring (fun as R Rx h=>?_) (fun cdv A outer s H E as R Rx qs hcd hr h hqs=>?_)
  · obtain ⟨a,b,o,rs,ps,hs,bg,p,n,rfl,_⟩:=h;rfl
  obtain ⟨a,b,o,rs,ps,hs,bg,p,n,rfl,hp,hn,hl,hbg,hhp,hh10,hpb,q⟩:=h
  obtain ⟨pa,pb,rfl⟩:=qqj hqs
  refine ⟨_,(qaq (qaO (i:=5) sc__law_ring.nd rfl (Or.inl rfl) (qaP (dv 4)))
      (qaq (qaO (i:=6) sc__law_ring.nd rfl (Or.inl rfl) (qks qbF (qaP qaf) (qaw R__law_next hr rfl (qas 0 (qap (qaP qaf) qaD qae) qaa) qaa (qac qae qag))))
      (qaq (qaO (i:=7) sc__law_ring.nd rfl (Or.inl rfl) (qaw R__law_next hr rfl (qas 0 (qap (qaP (dv 6)) qaD qaa) qaa) qaa (qac qaa qag)))
      (qaN (qeo PassesOwn.never rfl (qeQ (qdq rfl z_range (qad (dv 6) qav qaa))) (qbv (i:=8) sc__law_ring.nd rfl (Or.inl rfl)) (qaq (qaO (i:=9) sc__law_ring.nd rfl (Or.inl rfl) (qaP (dv 4)))
      (qcU (qeS (qcv (qaS qm2 (dvq 8) (PD.q (qbn qcC (dvq 6) (PD.q qaf))) (qaz _))) (qaN (qaO (i:=9) sc__law_ring.nd rfl (Or.inl rfl) (qaw R__law_next hr rfl (qas 0 (qap (qaP (qaR qb1 rfl z_len PySem.boot_len (qaB (dvq 3) qaQ qaa) qaa qag)) qaD qaM) qaa) qaa (qac qaM qag)))) qb2)
      (qaq (qe4 (qaw R__law_laid hr rfl (qas 0 (qas 1 (qap (qaP (qbK (qad (qaI (dvq 2) (dvq 5) (fun _ _=>rfl)) (qad (qaI (dvq 2) (dvq 9) (fun _ _=>rfl)) (qad (qbn qcC (PD.q (qbn qcC (PD.q (qaI (dvq 3) (dvq 9) (fun _ _=>rfl))) (PD.q (qaI (dvq 3) (dvq 5) (fun _ _=>rfl))))) (PD.q (qbT qpi rfl z_int PyProof.Rows.boot_int (qaB (PD.q (qfn (qfO hr.units) (dvq 8) (dvq 7) (qaz _))) qaQ qdB) qdB qag))) qav qaH) qab) qab))) qaD qa3) qaa) qaa) qaa (qac qaa (qac qa3 qag))))
      (qaN (qaO (i:=5) sc__law_ring.nd rfl (Or.inl rfl) (qaP (dv 9)))))))))))),?_⟩
  obtain ⟨hb,hhb⟩:∃ hb,hs[bg]?=some hb:=⟨hs[bg],qao hbg⟩
  have hL:((hs.map D.int).length:Int)=hs.length:=by rw [List.length_map]
  refine ⟨⟨_,_,rfl⟩,_,rfl,rfl,_,_,3,n,rfl,hp,by omega,by decide,lt9 (by decide),fun x o1 hx0 hx1 hp1=>?_⟩
  dsimp only [qaJ,qaC,qbR,qb7,qdw,qcN,qdv,List.set]
  refine ⟨⟨_,_,rfl⟩,_,rfl,rfl,_,_,1+x,n+1,rfl,hp1,by omega,by omega,lt9 (by omega),fun sh o2 hs0 hs1 hp2=>?_⟩
  dsimp only [qaJ,qaC,qbR,qb7,qdw,qcN,qdv,List.set]
  refine ⟨⟨by omega,by omega⟩,fun i ρ=>∃ (t:Nat) (pt:Str) (ht:Int) (rs':List Rod) (op:Om) (u8 u9:Option Sm),ρ=[some (.ob (some pa) op),some (.ob (some pb) (.lst (rs'.map rdD))),some (.v (.lst (ps.map D.str))),some (.v (.lst (hs.map D.int))),some (.v (.int (bg:Nat))),some (.v (.int (t:Nat))),some (.v (.int (1+x))),some (.v (.int sh)),u8,u9]∧ps[t]?=some pt∧hs[t]?=some ht∧((i:Int)=1+x→t=bg)∧(∀ r∈rs,r∈rs')∧rs'.length≤rs.length+i∧(∀ r∈rs',r∈rs∨r.1∈ps∧r.2.1∈ps)∧Wlk rs' p pt (ht - hb - if sh<(i:Int) then 1 else 0)∧Pl (n+2+2*i) op,
    ⟨bg,p,hb,rs,o2,_,_,rfl,hpb,hhb,fun _=>rfl,fun _ h=>h,Nat.le_refl _,fun r h=>.inl h,Wlk.nil.to rfl (by rw [if_neg (by omega)];omega),hp2⟩,?_,?_⟩
  · rintro i d ρ hd ⟨t,pt,ht,rs',op,u8,u9,rfl,hpt,hht,_,hsub,hlen,hin,hw,hpi⟩
    obtain ⟨hi,rfl⟩:=qbx hd
    have hi':(i:Int)<1+x:=by omega
    refine ⟨fun ρ=>∃ (en:Nat) (pe:Str) (he:Int) (op:Om),ρ=[some (.ob (some pa) op),some (.ob (some pb) (.lst (rs'.map rdD))),some (.v (.lst (ps.map D.str))),some (.v (.lst (hs.map D.int))),some (.v (.int (bg:Nat))),some (.v (.int (t:Nat))),some (.v (.int (1+x))),some (.v (.int sh)),some (.v (.int (0+(i:Nat)))),some (.v (.int (en:Nat)))]∧ps[en]?=some pe∧hs[en]?=some he∧((i:Int)+1=1+x→en=bg)∧Pl (n+2+2*i+1) op,⟨fun c=>?_,fun c=>?_⟩,?_⟩
    · have c:=dP c
      refine ⟨⟨_,_,rfl⟩,_,rfl,rfl,_,_,_,n+2+2*i,rfl,hpi,by omega,by omega,lt9 (by omega),fun y o3 hy0 hy1 hp3=>?_⟩
      dsimp only [qaJ,qaC,qbR,qb7,qdw,qcN,qdv,List.set]
      obtain ⟨en,rfl⟩:=Int.eq_ofNat_of_zero_le hy0
      have hen:en<hs.length:=by omega
      exact ⟨en,ps[en],hs[en],o3,rfl,qao (by omega),qao hen,fun h=>by omega,hp3⟩
    · exact ⟨bg,p,hb,op,rfl,hpb,hhb,fun _=>rfl,hpi.mono (by omega)⟩
    rintro ρ ⟨en,pe,he,op,rfl,hpe,hhe,hlast,hpj⟩
    refine ⟨⟨_,_,rfl⟩,⟨_,_,rfl⟩,_,qax hpt rfl,_,qax hpe rfl,_,qax hhe rfl,_,qax hht rfl,_,rfl,rfl,_,_,_,rs',(pt,pe,he - ht - if (0+(i:Int) == sh)=true then 1 else 0),n+2+2*i+1,rfl,hpj,by omega,by omega,fun k o3 hp3=>?_⟩
    dsimp only [qaJ,qaC,qbR,qb7,qdw,qcN,qdv,List.set]
    refine ⟨en,pe,he,qgs rs' k (pt,pe,he - ht - if (0+(i:Int) == sh)=true then 1 else 0),o3,_,_,rfl,hpe,hhe,fun h=>hlast (by omega),fun r hr=>insR_mem.mpr (.inr (hsub r hr)),by rw [qcL];omega,fun r hr=>?_,?_,hp3.mono (by omega)⟩
    · rcases insR_mem.mp hr with rfl | hr
      · exact .inr ⟨List.mem_of_getElem? hpt,List.mem_of_getElem? hpe⟩
      · exact hin r hr
    · refine (Wlk.snoc (hw.mono fun r hr=>insR_mem.mpr (.inr hr)) (insR_mem.mpr (.inl rfl)) rfl).to rfl ?_
      show ht - hb - (if sh<(i:Int) then 1 else 0)+(he - ht - if (0+(i:Int) == sh)=true then 1 else 0)=he - hb - if sh<((i+1:Nat):Int) then 1 else 0
      by_cases c:sh<(i:Int)
      · rw [if_pos c,if_neg (by rw [beq_iff_eq];omega),if_pos (by omega)];omega
      · by_cases c2:0+(i:Int)=sh
        · rw [if_neg c,if_pos (by rw [beq_iff_eq];exact c2),if_pos (by omega)];omega
        · rw [if_neg c,if_neg (by rw [beq_iff_eq];exact c2),if_neg (by omega)];omega
  · rintro ρ ⟨t,pt,ht,rs',op,u8,u9,rfl,hpt,hht,hend,hsub,hlen,hin,hw,hpi⟩
    rw [qaY] at hend hlen hw hpi
    have htb:=hend (by omega)
    subst htb
    rw [hpb] at hpt;cases hpt
    rw [hhb] at hht;cases hht
    exact ⟨_,rfl,_,rfl,q rs' op hsub (by omega) hin (hw.to rfl (by rw [if_pos (by omega)];omega)) (hpi.mono (by omega))⟩
open Wl
theorem qlQ {ps:List Str} (hn:ps.Nodup) {i j:Nat} {p:Str} (hi:ps[i]?=some p) (hj:ps[j]?=some p):i=j:=(List.getElem?_inj (qai hi) hn).mp (by rw [hi,hj])
def qm4 (ps:List Str) (hs:List Int) (p:Str):Int:=(qam (ps.zip hs) p).getD 0
theorem qjE:∀ {ps:List Str} {hs:List Int} (_:ps.Nodup) {i:Nat} {p:Str} {h:Int},ps[i]?=some p→hs[i]?=some h→qam (ps.zip hs) p=some h
  | [],_,_,_,_,_,hi,_=>by cases hi
  | _::_,[],_,_,_,_,_,hh=>by cases hh
  | q::ps,z::hs,hn,0,p,h,hi,hh=>by
    cases hi
    cases hh
    rw [List.zip_cons_cons,qaA,if_pos rfl]
  | q::ps,z::hs,hn,i+1,p,h,hi,hh=>by
    obtain ⟨h1,h2⟩:=List.nodup_cons.mp hn
    have hi:ps[i]?=some p:=hi
    have hh:hs[i]?=some h:=hh
    rw [List.zip_cons_cons,qaA,if_neg fun e=>h1 (by have e:q=p:=e;rw [e];exact List.mem_of_getElem? hi)]
    exact qjE h2 hi hh
theorem qie {ps:List Str} {hs:List Int} (hn:ps.Nodup) {i:Nat} {p:Str} {h:Int} (hi:ps[i]?=some p) (hh:hs[i]?=some h):qm4 ps hs p=h:=by
  unfold qm4
  rw [qjE hn hi hh]
  rfl
structure Nr (ps:List Str) (hs:List Int) (r:Rod):Prop where
  ex:∃ (i j:Nat) (hi hj:Int),ps[i]?=some r.1∧ps[j]?=some r.2.1∧hs[i]?=some hi∧hs[j]?=some hj∧hj - hi≤r.2.2
theorem Nr.ht {ps:List Str} {hs:List Int} {r:Rod} (k:Nr ps hs r) (hn:ps.Nodup):qm4 ps hs r.2.1≤qm4 ps hs r.1+r.2.2:=by
  obtain ⟨i,j,hi,hj,e1,e2,e3,e4,e5⟩:=k.ex
  rw [qie hn e1 e3,qie hn e2 e4]
  omega
structure Pt (ps:List Str) (hs:List Int) (rs:List Rod) (xs:List Nat) (x0 xl:Nat) (st g:Str) (h0 hl:Int):Prop where
  f:xs[0]?=some x0
  l:xs[xs.length - 1]?=some xl
  p0:ps[x0]?=some st
  pl:ps[xl]?=some g
  q0:hs[x0]?=some h0
  ql:hs[xl]?=some hl
  lt:∀ x∈xs,x<hs.length
  on:∀ x∈xs,∀ p,ps[x]?=some p→Rch rs st p∧Rch rs p g
  nr:∀ r∈rs,Nr ps hs r
  wk:Wlk rs st g (hl - h0)
theorem Pt.start {ps:List Str} {hs:List Int} {x:Nat} {p:Str} {h:Int} (hp:ps[x]?=some p) (hh:hs[x]?=some h):Pt ps hs [] [x] x x p p h h where
  f:=rfl
  l:=rfl
  p0:=hp
  pl:=hp
  q0:=hh
  ql:=hh
  lt y hy:=by rw [List.mem_singleton.mp hy];exact qai hh
  on y hy q hq:=by rw [List.mem_singleton.mp hy,hp] at hq;cases hq;exact ⟨.refl,.refl⟩
  nr r hr:=by cases hr
  wk:=Wlk.nil.to rfl (by omega)
theorem Pt.go {ps:List Str} {hs:List Int} {rs:List Rod} {xs:List Nat} {x0 xl y k:Nat} {st g p:Str} {h0 hl h:Int} (P:Pt ps hs rs xs x0 xl st g h0 hl) (hp:ps[y]?=some p) (hh:hs[y]?=some h):Pt ps hs (qgs rs k (g,p,h - hl)) (xs++[y]) x0 y st p h0 h where
  f:=by rw [List.getElem?_append_left (qai P.f)];exact P.f
  l:=by
    rw [List.length_append]
    show (xs++[y])[xs.length+1 - 1]?=some y
    rw [Nat.add_sub_cancel,List.getElem?_append_right (Nat.le_refl _),Nat.sub_self]
    rfl
  p0:=P.p0
  pl:=hp
  q0:=P.q0
  ql:=hh
  lt x hx:=by
    rcases List.mem_append.mp hx with hx | hx
    · exact P.lt x hx
    · rw [List.mem_singleton.mp hx];exact qai hh
  on x hx q hq:=by
    have hm:∀ r∈rs,r∈qgs rs k (g,p,h - hl):=fun r hr=>insR_mem.mpr (.inr hr)
    have hr:Rch (qgs rs k (g,p,h - hl)) g p:=Rch.one (r:=(g,p,h - hl)) (insR_mem.mpr (.inl rfl))
    rcases List.mem_append.mp hx with hx | hx
    · obtain ⟨z1,z2⟩:=P.on x hx q hq
      exact ⟨qbB z1 hm,(qbB z2 hm).trans hr⟩
    · rw [List.mem_singleton.mp hx,hp] at hq
      cases hq
      exact ⟨(qbB P.wk.rch hm).trans hr,.refl⟩
  nr r hr:=by
    rcases insR_mem.mp hr with rfl | hr
    · exact ⟨xl,y,hl,h,P.pl,hp,P.ql,hh,Int.le_refl _⟩
    · exact P.nr r hr
  wk:=by
    refine (Wlk.snoc (r:=(g,p,h - hl)) (P.wk.mono fun r hr=>insR_mem.mpr (.inr hr)) (insR_mem.mpr (.inl rfl)) rfl).to rfl ?_
    show hl - h0+(h - hl)=h - h0
    omega
theorem Pt.add {ps:List Str} {hs:List Int} {rs:List Rod} {xs:List Nat} {x0 xl k:Nat} {st g:Str} {h0 hl:Int} (P:Pt ps hs rs xs x0 xl st g h0 hl) {r:Rod} (hr:Nr ps hs r):Pt ps hs (qgs rs k r) xs x0 xl st g h0 hl where
  f:=P.f
  l:=P.l
  p0:=P.p0
  pl:=P.pl
  q0:=P.q0
  ql:=P.ql
  lt:=P.lt
  on x hx q hq:=by
    have hm:∀ r'∈rs,r'∈qgs rs k r:=fun r' hr'=>insR_mem.mpr (.inr hr')
    obtain ⟨z1,z2⟩:=P.on x hx q hq
    exact ⟨qbB z1 hm,qbB z2 hm⟩
  nr r' hr':=by
    rcases insR_mem.mp hr' with rfl | hr'
    · exact hr
    · exact P.nr r' hr'
  wk:=P.wk.mono fun r' hr'=>insR_mem.mpr (.inr hr')
section
variable {ps : List Str} {hs : List Int} {rs : List Rod} {xs : List Nat} {x0 xl : Nat} {st g : Str} {h0 hl : Int}
theorem Nr.mem {r:Rod} (k:Nr ps hs r):r.1∈ps∧r.2.1∈ps:=by
  obtain ⟨i,j,hi,hj,e1,e2,_⟩:=k.ex
  exact ⟨List.mem_of_getElem? e1,List.mem_of_getElem? e2⟩
theorem Pt.map (P:Pt ps hs rs xs x0 xl st g h0 hl) {rs':List Rod} (hn:ps.Nodup) (hpl:ps.length≤8) (hl':rs'.length≤12) (hr:∀ r∈rs',r∈rs∨r.1∈ps∧r.2.1∈ps):MapOk ps rs' st g :=
  ⟨hn,hpl,hl',fun r h=>(hr r h).elim (fun h=>(P.nr r h).mem) id,List.mem_of_getElem? P.p0,List.mem_of_getElem? P.pl⟩
theorem Pt.plain (P:Pt ps hs rs xs x0 xl st g h0 hl) (hn:ps.Nodup) (hpl:ps.length≤8) (hr:rs.length≤12):PlantOk ps rs st g false (hl - h0) where
  map:=P.map hn hpl hr fun r h=>.inl h
  to:=P.wk.rch
  ring h:=by cases h
  road _:=⟨qm4 ps hs,fun r hr _ _=>(P.nr r hr).ht hn,by rw [qie hn P.pl P.ql,qie hn P.p0 P.q0],P.wk⟩
theorem Pt.ringed (P:Pt ps hs rs xs x0 xl st g h0 hl) (hn:ps.Nodup) (hpl:ps.length≤8) {rs':List Rod} (hl':rs'.length≤12) (hsub:∀ r∈rs,r∈rs') (hin:∀ r∈rs',r∈rs∨r.1∈ps∧r.2.1∈ps) {x:Nat} {p:Str} (hx:x∈xs) (hp:ps[x]?=some p) (hw:Wlk rs' p p (-1)) {z:Int}:PlantOk ps rs' st g true z where
  map:=P.map hn hpl hl' hin
  to:=qbB P.wk.rch hsub
  ring _:=by
    obtain ⟨z1,z2⟩:=P.on x hx p hp
    exact ⟨p,-1,qbB z1 hsub,qbB z2 hsub,by decide,hw⟩
  road h:=by cases h
theorem Pt.dead (P:Pt ps hs rs xs x0 xl st g h0 hl) (hn:ps.Nodup) (hpl:ps.length≤8) {rs':List Rod} (hl':rs'.length≤12) {X q:Str} {z1 z2:Int} (hX:ps[hs.length]?=some X) (hq:q∈ps) (c:Bool) (hm:∀ r,r∈rs'↔r∈rs∨r=(X,X,z1)∨r=(if c=true then (q,X,z2) else (X,q,z2))):PlantOk ps rs' st g false (hl - h0):=by
  have hXm:=List.mem_of_getElem? hX
  have hsub:∀ r∈rs,r∈rs':=fun r hr=>(hm r).mpr (.inl hr)
  have hne:∀ {i:Nat} {p:Str} {h:Int},ps[i]?=some p→hs[i]?=some h→p≠X:=fun {i p h} h1 h2 e=>by
    subst e
    have:=qlQ hn h1 hX
    have:=qai h2
    omega
  refine ⟨P.map hn hpl hl' fun r hr=>?_,qbB P.wk.rch hsub,fun h=>(by cases h),fun _=>⟨qm4 ps hs,fun r hr a1 a2=>?_,by rw [qie hn P.pl P.ql,qie hn P.p0 P.q0],P.wk.mono hsub⟩⟩
  · rcases (hm r).mp hr with h | rfl | h
    · exact .inl h
    · exact .inr ⟨hXm,hXm⟩
    · right
      cases c with
      | true=>rw [if_pos rfl] at h;rw [h];exact ⟨hq,hXm⟩
      | false=>rw [if_neg (by decide)] at h;rw [h];exact ⟨hXm,hq⟩
  · cases c with
    | true =>
      have out:∀ v,Rch rs' X v→v=X:=fun v h=>by
        induction h with
        | refl=>rfl
        | @step b r _ hr e ih =>
          rcases (hm r).mp hr with h | rfl | h
          · obtain ⟨i,j,hi,hj,e1,e2,e3,e4,_⟩:=(P.nr r h).ex
            exact absurd (e.trans ih) (hne e1 e3)
          · rfl
          · rw [if_pos rfl] at h;rw [h]
      have hgX:=hne P.pl P.ql
      rcases (hm r).mp hr with h | rfl | h
      · exact (P.nr r h).ht hn
      · exact absurd (out _ a2) hgX
      · rw [if_pos rfl] at h
        rw [h] at a2
        exact absurd (out _ a2) hgX
    | false =>
      have into:∀ v,Rch rs' st v→v≠X:=fun v h=>by
        induction h with
        | refl=>exact hne P.p0 P.q0
        | @step b r _ hr e ih =>
          rcases (hm r).mp hr with h | rfl | h
          · obtain ⟨i,j,hi,hj,e1,e2,e3,e4,_⟩:=(P.nr r h).ex
            exact hne e2 e4
          · exact absurd e.symm ih
          · rw [if_neg (by decide)] at h
            rw [h] at e
            exact absurd e.symm ih
      rcases (hm r).mp hr with h | rfl | h
      · exact (P.nr r h).ht hn
      · exact absurd rfl (into _ a1)
      · rw [if_neg (by decide)] at h
        rw [h] at a1
        exact absurd rfl (into _ a1)
end
def qcV:SpM:=fun as R _=>∃ (a:Option Addr) (o:Om) (n:Nat),as=[.ob a o]∧Pl n o∧n+300<2 ^ 20∧∀ (ps:List Str) (rs:List Rod) (st g:Str) (b:Bool) (rise:Int) (o':Om),PlantOk ps rs st g b rise→R (.v (.tup [.tup [.tup (ps.map D.str),.tup (rs.map rdD),.str st,.str g],.bl b,.int rise])) [o']
theorem qnm {x t:Int} (h0:0≤x) (h1:x<3):∃ s:Int,atI [D.int 1,D.int 3,D.int t] x=some (.int s)∧(s=1∨s=3∨s=t):=by
  have:x=0∨x=1∨x=2:=by omega
  rcases this with rfl | rfl | rfl
  · exact ⟨_,rfl,.inl rfl⟩
  · exact ⟨_,rfl,.inr (.inl rfl)⟩
  · exact ⟨_,rfl,.inr (.inr rfl)⟩
theorem qqM:0<((10:Int) ^ (38:Int).toNat) ^ (5:Int).toNat∧((10:Int) ^ (38:Int).toNat) ^ (5:Int).toNat<2 ^ 680:=by decide
theorem qno {α:Type} {f:α→D} {xs:List α} {y:Int} (h0:0≤y) (h1:y<(xs.length:Int)):∃ (j:Nat) (x:α),y=(j:Int)∧xs[j]?=some x∧atI (xs.map f) y=some (f x):=by
  obtain ⟨j,rfl⟩:=Int.eq_ofNat_of_zero_le h0
  have hj:j<xs.length:=by omega
  exact ⟨j,xs[j],rfl,qao hj,qax (qao hj) rfl⟩
abbrev nDl (xs:List Nat):List D:=xs.map fun n=>D.int (n:Nat)
theorem qea {n:Nat} {f:Addr} {fd:FuncData} (F:Fun K "_law_planted" "_law_planted" qbp f fd) (R__law_heights:ClM P w K mg base n "_law_heights" ["_law_pool_here","_law_many"] qcX) (R__law_names:ClM P w K mg base n "_law_names" ["_law_pool_here","_law_count"] qdO) (R__law_next:ClM P w K mg base n "_law_next" ["_law_pool_here","_law_size"] qa4) (R__law_laid:ClM P w K mg base n "_law_laid" ["_law_pool_here","_law_roads","_law_one"] qdc) (R__law_wide:ClM P w K mg base n "_law_wide" ["_law_pool_here","_law_size"] qc7) (R__law_ring:ClM P w K mg base n "_law_ring" ["_law_pool_here","_law_roads","_law_places","_law_heights_here","_law_begin"] qeA) (z_len:mg "len"=none) (z_range:mg "range"=none) (z_tuple:mg "tuple"=none):FnOk P w K mg base CX0 (n+1) f fd ["_law_pool_here"] (qfA K qcV):=by
  refine F.okM sc__law_planted (fun as R Rx h=>?_) (fun cdv A outer s H E as R Rx qs hcd hr h hqs=>?_)
  · obtain ⟨a,o,n,rfl,_⟩:=h;rfl
  obtain ⟨a,o,n,rfl,hp,hn,q⟩:=h
  obtain ⟨pa,rfl⟩:=qoG hqs
  refine ⟨_,(qaq (qaO (i:=1) sc__law_planted.nd rfl (Or.inl rfl) (qaw R__law_heights hr rfl (qas 0 (qap (qks qbF (qaP qaf) (qaw R__law_next hr rfl (qas 0 (qap (qaP qaf) qaD qae) qaa) qaa (qac qae qag))) qaD qaH) qaa) qaa (qac qaH qag)))
      (qaq (qaO (i:=2) sc__law_planted.nd rfl (Or.inl rfl) (qaP (qaR qb1 rfl z_len PySem.boot_len (qaB (dvq 1) qaQ qaa) qaa qag)))
      (qaq (qaO (i:=3) sc__law_planted.nd rfl (Or.inl rfl) (qqn (qaw R__law_names hr rfl (qas 0 (qap (qaP (qbn qbF (dvq 2) (PD.q qaf))) qaD qaH) qaa) qaa (qac qaH qag))))
      (qaq (qaO (i:=4) sc__law_planted.nd rfl (Or.inl rfl) (qmZ (qip qav)))
      (qaq (qaO (i:=5) sc__law_planted.nd rfl (Or.inl rfl) (qaw R__law_next hr rfl (qas 0 (qap (qaP (dv 2)) qaD qaa) qaa) qaa (qac qaa qag)))
      (qaq (qaO (i:=6) sc__law_planted.nd rfl (Or.inl rfl) (qmZ (qip (qad (dv 5) qav qaa))))
      (qaq (qeo PassesOwn.never rfl (qf0 rfl z_range (qap (qaw R__law_next hr rfl (qas 0 (qap (qaP qaf) qaD qae) qaa) qaa (qac qae qag)) qaD qaM)) (qbv (i:=7) sc__law_planted.nd rfl (Or.inl rfl)) (qaq (qaO (i:=8) sc__law_planted.nd rfl (Or.inl rfl) (qaw R__law_next hr rfl (qas 0 (qap (qaP (dv 2)) qaD qaa) qaa) qaa (qac qaa qag)))
      (qaq (qe4 (qaw R__law_laid hr rfl (qas 0 (qas 4 (qap (qaP (qbK (qad (qaI (dvq 3) (dvq 5) (fun _ _=>rfl)) (qad (qaI (dvq 3) (dvq 8) (fun _ _=>rfl)) (qad (qbn qcC (PD.q (qaI (dvq 1) (dvq 8) (fun _ _=>rfl))) (PD.q (qaI (dvq 1) (dvq 5) (fun _ _=>rfl)))) qav qaH) qab) qab))) qaD qa3) qaa) qaa) qaa (qac qaa (qac qa3 qag))))
      (qaq (qaO (i:=5) sc__law_planted.nd rfl (Or.inl rfl) (qaP (dv 8)))
      (qaN (qcc 6 (qaP (dv 5)) (qcA qaa) qaa))))))
      (qaq (qeo PassesOwn.never rfl (qf0 rfl z_range (qap (qaw R__law_next hr rfl (qas 0 (qap (qaP qaf) qaD qae) qaa) qaa (qac qae qag)) qaD qaM)) (qbv (i:=7) sc__law_planted.nd rfl (Or.inl rfl)) (qaq (qaO (i:=9) sc__law_planted.nd rfl (Or.inl rfl) (qaw R__law_next hr rfl (qas 0 (qap (qaP (dv 2)) qaD qaa) qaa) qaa (qac qaa qag)))
      (qaq (qaO (i:=10) sc__law_planted.nd rfl (Or.inl rfl) (qaw R__law_next hr rfl (qas 0 (qap (qaP (dv 2)) qaD qaa) qaa) qaa (qac qaa qag)))
      (qaq (qaO (i:=11) sc__law_planted.nd rfl (Or.inl rfl) (qn3 (qaP (qbK (qad qaf (qad qaf (qad (qbn qhJ (PD.q (qbn qhJ (PD.q qaf) (PD.q qaf))) (PD.q qaf)) qav qaH) qae) qae))) (qaw R__law_next hr rfl (qas 0 (qap (qaP qaf) qaD qae) qaa) qaa (qac qae qag)) (fun _ _=>rfl)))
      (qaq (qaO (i:=12) sc__law_planted.nd rfl (Or.inl rfl) (qaw R__law_wide hr rfl (qas 0 (qap (qaP (dv 11)) qaD qaa) qaa) qaa (qac qaa qag)))
      (qaN (qe4 (qaw R__law_laid hr rfl (qas 0 (qas 4 (qap (qaP (qbK (qad (qaI (dvq 3) (dvq 9) (fun _ _=>rfl)) (qad (qaI (dvq 3) (dvq 10) (fun _ _=>rfl)) (qad (qbn qbF (PD.q (qbn qcC (PD.q (qaI (dvq 1) (dvq 10) (fun _ _=>rfl))) (PD.q (qaI (dvq 1) (dvq 9) (fun _ _=>rfl))))) (dvq 12)) qav qaH) qab) qab))) qaD qa3) qaa) qaa) qaa (qac qaa (qac qa3 qag))))))))))
      (qaq (qaO (i:=13) sc__law_planted.nd rfl (Or.inl rfl) (qaw R__law_next hr rfl (qas 0 (qap (qaP qaf) qaD qae) qaa) qaa (qac qae qag)))
      (qcU (qeS (qcv (qaS (qfO hr.units) (dvq 13) (PD.q qaf) (qaz _))) (qkE 6 (qaN (qe4 (qaw R__law_ring hr rfl (qas 0 (qas 4 (qap (qaP (dv 3)) (qap (qaP (dv 1)) (qap (qn3 (qaP (dv 6)) (qaw R__law_next hr rfl (qas 0 (qap (qaP (qaR qb1 rfl z_len PySem.boot_len (qaB (dvq 6) qaQ qaa) qaa qag)) qaD qaM) qaa) qaa (qac qaM qag)) (fun _ _=>rfl)) qaD qab) qaa) qaa) qaa) qaa) qaa (qac qaa (qac qaa (qac qaa (qac qab qag)))))))) qb2)
      (qcU (qeS (qcv (qaS qlX (dvq 13) (PD.q qaf) (qaz _))) (qaq (qe4 (qaw R__law_laid hr rfl (qas 0 (qas 4 (qap (ql6 (qap (qaP (qaI (dvq 3) (dvq 2) (fun _ _=>rfl))) (qap (qaP (qaI (dvq 3) (dvq 2) (fun _ _=>rfl))) (qap (qks qcC (qaP (qpB (PD.q qaf))) (qaw R__law_next hr rfl (qas 0 (qap (qaP qaf) qaD qae) qaa) qaa (qac qae qag))) qaD qaH) qab) qab)) qaD qa3) qaa) qaa) qaa (qac qaa (qac qa3 qag))))
      (qkE 6 (qaq (qaO (i:=14) sc__law_planted.nd rfl (Or.inl rfl) (ql6 (qap (qaP (qaI (dvq 3) (dvq 2) (fun _ _=>rfl))) (qap (qn3 (qaP (dv 3)) (qn3 (qaP (dv 6)) (qaw R__law_next hr rfl (qas 0 (qap (qaP (qaR qb1 rfl z_len PySem.boot_len (qaB (dvq 6) qaQ qaa) qaa qag)) qaD qaM) qaa) qaa (qac qaM qag)) (fun _ _=>rfl)) (fun _ _=>rfl)) qaD qab) qab)))
      (qcU (qeS (qcv (qaS (qfO hr.units) (dvq 13) (PD.q qaf) (qaz _))) (qaN (qaO (i:=14) sc__law_planted.nd rfl (Or.inl rfl) (qaP (qbK (qad (qaI (dvq 14) (PD.q qaf) (fun _ _=>rfl)) (qad (qaI (dvq 14) (PD.q qaf) (fun _ _=>rfl)) qav qab) qab))))) qb2)
      (qaN (qe4 (qaw R__law_laid hr rfl (qas 0 (qas 4 (qap (ql6 (qap (qaP (qaI (dvq 14) (PD.q qaf) (fun _ _=>rfl))) (qap (qaP (qaI (dvq 14) (PD.q qaf) (fun _ _=>rfl))) (qap (qks qcC (qaw R__law_next hr rfl (qas 0 (qap (qaP qaf) qaD qae) qaa) qaa (qac qae qag)) (qaP qaf)) qaD qaH) qab) qab)) qaD qa3) qaa) qaa) qaa (qac qaa (qac qa3 qag))))))))) qb2)
      (qaq (qaO (i:=15) sc__law_planted.nd rfl (Or.inl rfl) (qaP (qbK (qad (qbT qc9 rfl z_tuple PyProof.Rows.boot_tuple (qaB (dvq 3) qaQ qaa) qaa qag) (qad (qbT qc9 rfl z_tuple PyProof.Rows.boot_tuple (qaB (dvq 4) qaQ qaa) qaa qag) (qad (qaI (dvq 3) (PD.q (qaI (dvq 6) (PD.q qaf) (fun _ _=>rfl))) (fun _ _=>rfl)) (qad (qaI (dvq 3) (PD.q (qaI (dvq 6) (PD.q (qbn qcC (PD.q (qaR qb1 rfl z_len PySem.boot_len (qaB (dvq 6) qaQ qaa) qaa qag)) (PD.q qaf))) (fun _ _=>rfl))) (fun _ _=>rfl)) qav qab) qab) qaM) qaM))))
      (qaN (qcS (qaP (qbK (qad (dv 15) (qad (qfn (qfO hr.units) (dvq 13) (PD.q qaf) (qaz _)) (qad (qbn qcC (PD.q (qaI (dvq 1) (PD.q (qaI (dvq 6) (PD.q (qbn qcC (PD.q (qaR qb1 rfl z_len PySem.boot_len (qaB (dvq 6) qaQ qaa) qaa qag)) (PD.q qaf))) (fun _ _=>rfl))) (fun _ _=>rfl))) (PD.q (qaI (dvq 1) (PD.q (qaI (dvq 6) (PD.q qaf) (fun _ _=>rfl))) (fun _ _=>rfl)))) qav qaH) qdB) qaa))))))))))))))))),?_⟩
  refine ⟨⟨_,_,rfl⟩,⟨_,_,rfl⟩,_,rfl,rfl,_,_,6,n,rfl,hp,by omega,by decide,lt9 (by decide),fun x o1 hx0 hx1 hp1=>?_⟩
  dsimp only [qaJ,qaC,qbR,qb7,qdw,qcN,qdv,List.set]
  refine ⟨_,rfl,rfl,_,_,1+x,n+1,rfl,hp1,by omega,by omega,by omega,fun hs o2 hhl _ hp2=>?_⟩
  dsimp only [qaJ,qaC,qbR,qb7,qdw,qcN,qdv,List.set]
  have hL:((hs.map D.int).length:Int)=hs.length:=by rw [List.length_map]
  refine ⟨⟨_,_,rfl⟩,_,rfl,rfl,_,_,_,n+21,rfl,hp2,by omega,by omega,by omega,fun ps o3 hpn hpl _ hp3=>?_⟩
  rw [hL] at hpl ⊢
  dsimp only [qaJ,qaC,qbR,qb7,qdw,qcN,qdv,List.set]
  have hplN:ps.length=hs.length+1:=by omega
  have hmpos:0<hs.length:=by omega
  have hps:∀ j:Nat,j<hs.length→∃ p h,ps[j]?=some p∧hs[j]?=some h:=fun j hj=>⟨ps[j],hs[j],qao (by omega),qao hj⟩
  refine ⟨⟨_,_,rfl⟩,_,rfl,rfl,_,_,_,n+24,rfl,hp3,by omega,by omega,lt9 (by omega),fun y o4 hy0 hy1 hp4=>?_⟩
  dsimp only [qaJ,qaC,qbR,qb7,qdw,qcN,qdv,List.set]
  obtain ⟨x0,rfl⟩:=Int.eq_ofNat_of_zero_le hy0
  obtain ⟨st,h0,hst,hh0⟩:=hps x0 (by omega)
  refine ⟨⟨_,_,rfl⟩,_,rfl,rfl,_,_,6,n+25,rfl,hp4,by omega,by decide,lt9 (by decide),fun ct o5 hc0 hc1 hp5=>⟨⟨by omega,by omega⟩,?_⟩⟩
  dsimp only [qaJ,qaC,qbR,qb7,qdw,qcN,qdv,List.set]
  refine ⟨fun i ρ=>∃ (xs:List Nat) (xl:Nat) (g:Str) (hl:Int) (rs:List Rod) (op:Om) (u7 u8:Option Sm),ρ=[some (.ob (some pa) op),some (.v (.lst (hs.map D.int))),some (.v (.int (hs.length:Nat))),some (.v (.lst (ps.map D.str))),some (.own (rs.map rdD)),some (.v (.int (xl:Nat))),some (.own (nDl xs)),u7,u8,none,none,none,none,none,none,none]∧Pt ps hs rs xs x0 xl st g h0 hl∧xs.length=i+1∧rs.length=i∧Pl (n+26+2*i) op,
    ⟨[x0],x0,st,h0,[],o5,_,_,rfl,Pt.start hst hh0,rfl,rfl,hp5⟩,?_,?_⟩
  · rintro i d ρ hd ⟨xs,xl,g,hl,rs,op,u7,u8,rfl,P,hxl,hrl,hpi⟩
    obtain ⟨hi,rfl⟩:=qbx hd
    refine ⟨⟨_,_,rfl⟩,_,rfl,rfl,_,_,_,n+26+2*i,rfl,hpi,by omega,by omega,lt9 (by omega),fun y o6 hy0 hy1 hp6=>?_⟩
    dsimp only [qaJ,qaC,qbR,qb7,qdw,qcN,qdv,List.set]
    obtain ⟨en,rfl⟩:=Int.eq_ofNat_of_zero_le hy0
    obtain ⟨pe,he,hpe,hhe⟩:=hps en (by omega)
    refine ⟨⟨_,_,rfl⟩,⟨_,_,rfl⟩,_,qax P.pl rfl,_,qax hpe rfl,_,qax hhe rfl,_,qax P.ql rfl,_,rfl,rfl,_,_,_,rs,(g,pe,he - hl),n+26+2*i+1,rfl,hp6,by omega,by omega,fun k o7 hp7=>?_⟩
    dsimp only [qaJ,qaC,qbR,qb7,qdw,qcN,qdv,List.set]
    refine ⟨by rw [List.length_map];exact qay (by omega),_,qkJ (fun n:Nat=>D.int (n:Nat)) xs en,xs++[en],en,pe,he,_,o7,_,_,rfl,P.go hpe hhe,by rw [List.length_append,hxl];rfl,by rw [qcL,hrl],hp7⟩
  rintro ρ ⟨xs,xl,g,hl,rs,op,u7,u8,rfl,P,hxl,hrl,hpi⟩
  rw [qaY] at hxl hrl hpi
  have hxL:((nDl xs).length:Int)=xs.length:=by rw [List.length_map]
  have hpi:=hpi.mono (m:=n+36) (by omega)
  refine ⟨⟨_,_,rfl⟩,_,rfl,rfl,_,_,4,n+36,rfl,hpi,by omega,by decide,lt9 (by decide),fun ct2 o6 hd0 hd1 hp6=>⟨⟨by omega,by omega⟩,?_⟩⟩
  dsimp only [qaJ,qaC,qbR,qb7,qdw,qcN,qdv,List.set]
  refine ⟨fun i ρ=>∃ (rs:List Rod) (op:Om) (u7 u9 u10 u11 u12:Option Sm),ρ=[some (.ob (some pa) op),some (.v (.lst (hs.map D.int))),some (.v (.int (hs.length:Nat))),some (.v (.lst (ps.map D.str))),some (.own (rs.map rdD)),some (.v (.int (xl:Nat))),some (.own (nDl xs)),u7,u8,u9,u10,u11,u12,none,none,none]∧Pt ps hs rs xs x0 xl st g h0 hl∧rs.length≤5+i∧Pl (n+37+5*i) op,
    ⟨rs,o6,_,_,_,_,_,rfl,P,by omega,hp6⟩,?_,?_⟩
  · rintro i d ρ hd ⟨rs,op,u7,u9,u10,u11,u12,rfl,P,hrl,hpi⟩
    obtain ⟨hi,rfl⟩:=qbx hd
    refine ⟨⟨_,_,rfl⟩,_,rfl,rfl,_,_,_,n+37+5*i,rfl,hpi,by omega,by omega,lt9 (by omega),fun y o7 hy0 hy1 hp7=>?_⟩
    dsimp only [qaJ,qaC,qbR,qb7,qdw,qcN,qdv,List.set]
    obtain ⟨e1,rfl⟩:=Int.eq_ofNat_of_zero_le hy0
    obtain ⟨p1,h1,hp1',hh1⟩:=hps e1 (by omega)
    refine ⟨⟨_,_,rfl⟩,_,rfl,rfl,_,_,_,n+37+5*i+1,rfl,hp7,by omega,by omega,lt9 (by omega),fun y o8 hy0 hy1 hp8=>?_⟩
    dsimp only [qaJ,qaC,qbR,qb7,qdw,qcN,qdv,List.set]
    obtain ⟨e2,rfl⟩:=Int.eq_ofNat_of_zero_le hy0
    obtain ⟨p2,h2,hp2',hh2⟩:=hps e2 (by omega)
    refine ⟨⟨by decide,200,by decide,by decide,by decide⟩,⟨by decide,200,by decide,s38,by decide⟩,?_⟩
    refine ⟨⟨_,_,rfl⟩,_,rfl,rfl,_,_,3,n+37+5*i+2,rfl,hp8,by omega,by decide,lt9 (by decide),fun y o9 hy0 hy1 hp9=>?_⟩
    obtain ⟨sz,hsz,hcs⟩:=qnm (t:=((10:Int) ^ (38:Int).toNat) ^ (5:Int).toNat) hy0 hy1
    have hs0:0<sz∧sz<2 ^ 680:=by
      rcases hcs with rfl | rfl | rfl
      · exact ⟨by decide,by decide⟩
      · exact ⟨by decide,by decide⟩
      · exact qqM
    refine ⟨_,hsz,?_⟩
    dsimp only [qaJ,qaC,qbR,qb7,qdw,qcN,qdv,List.set]
    refine ⟨⟨_,_,rfl⟩,_,rfl,rfl,_,_,sz,n+37+5*i+3,rfl,hp9,by omega,hs0.1,qqg (Int.lt_trans hs0.2 (by decide)),fun sl o10 hl0 hl1 hp10=>?_⟩
    dsimp only [qaJ,qaC,qbR,qb7,qdw,qcN,qdv,List.set]
    refine ⟨⟨_,_,rfl⟩,⟨_,_,rfl⟩,_,qax hp1' rfl,_,qax hp2' rfl,_,qax hh2 rfl,_,qax hh1 rfl,_,rfl,rfl,_,_,_,rs,(p1,p2,h2 - h1+sl),n+37+5*i+4,rfl,hp10,by omega,by omega,fun k o11 hp11=>?_⟩
    dsimp only [qaJ,qaC,qbR,qb7,qdw,qcN,qdv,List.set]
    exact ⟨_,o11,_,_,_,_,_,rfl,P.add ⟨e1,e2,h1,h2,hp1',hp2',hh1,hh2,by show h2 - h1≤h2 - h1+sl;omega⟩,by rw [qcL];omega,hp11⟩
  rintro ρ ⟨rs,op,u7,u9,u10,u11,u12,rfl,P,hrl,hpi⟩
  rw [qaY] at hrl hpi
  have hpi:=hpi.mono (m:=n+60) (by omega)
  refine ⟨⟨_,_,rfl⟩,_,rfl,rfl,_,_,4,n+60,rfl,hpi,by omega,by decide,lt9 (by decide),fun wy o7 hw0 hw1 hp7=>?_⟩
  dsimp only [qaJ,qaC,qbR,qb7,qdw,qcN,qdv,List.set]
  have hxpos:0<xs.length:=by omega
  refine ⟨fun ρ=>∃ (rs':List Rod) (op:Om) (s6:Sm),ρ=[some (.ob (some pa) op),some (.v (.lst (hs.map D.int))),some (.v (.int (hs.length:Nat))),some (.v (.lst (ps.map D.str))),some (.own (rs'.map rdD)),some (.v (.int (xl:Nat))),some s6,u7,u8,u9,u10,u11,u12,some (.v (.int wy)),none,none]∧(wy=1∧s6=.v (.lst (nDl xs))∧PlantOk ps rs' st g true (hl - h0)∨wy≠1∧s6=.own (nDl xs)∧rs'=rs)∧Pl (n+90) op,⟨fun c=>?_,fun c=>?_⟩,?_⟩
  · have c:wy=1:=eq_of_beq c
    dsimp only [qaJ,qaC,qbR,qb7,qdw,qcN,qdv,List.set]
    refine ⟨⟨_,_,rfl⟩,⟨_,_,rfl⟩,⟨_,_,rfl⟩,_,rfl,rfl,_,_,_,n+61,rfl,hp7,by omega,by omega,lt9 (by omega),fun y o8 hy0 hy1 hp8=>?_⟩
    dsimp only [qaJ,qaC,qbR,qb7,qdw,qcN,qdv,List.set]
    obtain ⟨j,x,rfl,hj,hat⟩:=qno (f:=fun n:Nat=>D.int (n:Nat)) (xs:=xs) hy0 (by omega)
    have hxm:=List.mem_of_getElem? hj
    have hxlt:=P.lt x hxm
    obtain ⟨p,_,hpx,_⟩:=hps x hxlt
    refine ⟨_,hat,_,rfl,rfl,_,_,_,rs,ps,hs,x,p,n+62,rfl,hp8,by omega,by omega,hxlt,by omega,by omega,hpx,fun rs' o9 hsub hlen hin hwk hp9=>?_⟩
    dsimp only [qaJ,qaC,qbR,qb7,qdw,qcN,qdv,List.set]
    exact ⟨rs',o9,_,rfl,.inl ⟨c,rfl,P.ringed hpn (by omega) (by omega) hsub hin hxm hpx hwk⟩,hp9.mono (by omega)⟩
  · have c:wy≠1:=fun e=>by rw [e] at c;cases c
    exact ⟨rs,o7,_,rfl,.inr ⟨c,rfl,rfl⟩,hp7.mono (by omega)⟩
  rintro ρ ⟨rs',op,s6,rfl,hor,hpj⟩
  refine ⟨fun ρ=>∃ (rs':List Rod) (op:Om) (s6:Sm) (u14:Option Sm),ρ=[some (.ob (some pa) op),some (.v (.lst (hs.map D.int))),some (.v (.int (hs.length:Nat))),some (.v (.lst (ps.map D.str))),some (.own (rs'.map rdD)),some (.v (.int (xl:Nat))),some s6,u7,u8,u9,u10,u11,u12,some (.v (.int wy)),u14,none]∧(s6=.v (.lst (nDl xs))∨s6=.own (nDl xs))∧PlantOk ps rs' st g (wy == 1) (hl - h0),⟨fun c=>?_,fun c=>?_⟩,?_⟩
  · have c:1<wy:=dP c
    rcases hor with ⟨hw,_,_⟩ | ⟨hw,rfl,rfl⟩
    · omega
    obtain ⟨X,hX⟩:∃ X,ps[hs.length]?=some X:=⟨ps[hs.length],qao (by omega)⟩
    refine ⟨⟨_,_,rfl⟩,⟨_,_,rfl⟩,_,qax hX rfl,_,qax hX rfl,⟨_,_,rfl⟩,_,rfl,rfl,_,_,3,n+90,rfl,hpj,by omega,by decide,lt9 (by decide),fun y o8 hy0 hy1 hp8=>?_⟩
    dsimp only [qaJ,qaC,qbR,qb7,qdw,qcN,qdv,List.set]
    refine ⟨_,rfl,rfl,_,_,_,rs',(X,X,-1 - y),n+91,rfl,hp8,by omega,by omega,fun k1 o9 hp9=>?_⟩
    dsimp only [qaJ,qaC,qbR,qb7,qdw,qcN,qdv,List.set]
    refine ⟨_,qax hX rfl,⟨_,_,rfl⟩,_,rfl,rfl,_,_,_,n+92,rfl,hp9,by omega,by omega,lt9 (by omega),fun y2 o10 hy20 hy21 hp10=>?_⟩
    dsimp only [qaJ,qaC,qbR,qb7,qdw,qcN,qdv,List.set]
    obtain ⟨j,x,rfl,hj,hat⟩:=qno (f:=fun n:Nat=>D.int (n:Nat)) (xs:=xs) hy20 (by omega)
    have hxm:=List.mem_of_getElem? hj
    obtain ⟨p,_,hpx,_⟩:=hps x (P.lt x hxm)
    refine ⟨_,hat,_,qax hpx rfl,?_⟩
    dsimp only [qaJ,qaC,qbR,qb7,qdw,qcN,qdv,List.set]
    refine ⟨fun ρ=>∃ (pr:Str × Str),ρ=[some (.ob (some pa) o10),some (.v (.lst (hs.map D.int))),some (.v (.int (hs.length:Nat))),some (.v (.lst (ps.map D.str))),some (.own ((qgs rs' k1 (X,X,-1 - y)).map rdD)),some (.v (.int (xl:Nat))),some (.v (.lst (nDl xs))),u7,u8,u9,u10,u11,u12,some (.v (.int wy)),some (.v (.tup [.str pr.1,.str pr.2])),none]∧pr=(if (wy == 2)=true then (p,X) else (X,p)),⟨fun c2=>?_,fun c2=>?_⟩,?_⟩
    · exact ⟨_,rfl,_,rfl,(p,X),rfl,by rw [if_pos c2]⟩
    · exact ⟨(X,p),rfl,by rw [if_neg (by rw [c2];decide)]⟩
    rintro ρ ⟨⟨pr1,pr2⟩,rfl,hpr⟩
    refine ⟨⟨_,_,rfl⟩,⟨_,_,rfl⟩,_,rfl,_,rfl,⟨_,_,rfl⟩,_,rfl,rfl,_,_,5,n+93,rfl,hp10,by omega,by decide,lt9 (by decide),fun y3 o11 hy30 hy31 hp11=>?_⟩
    dsimp only [qaJ,qaC,qbR,qb7,qdw,qcN,qdv,List.set]
    refine ⟨_,rfl,rfl,_,_,_,qgs rs' k1 (X,X,-1 - y),(pr1,pr2,y3 - 4),n+94,rfl,hp11,by omega,by rw [qcL];omega,fun k2 o12 hp12=>?_⟩
    dsimp only [qaJ,qaC,qbR,qb7,qdw,qcN,qdv,List.set]
    have hw1':(wy == 1)=false:=by
      cases h:(wy == 1) with
      | false=>rfl
      | true=>exact absurd (eq_of_beq h) hw
    refine ⟨qgs (qgs rs' k1 (X,X,-1 - y)) k2 (pr1,pr2,y3 - 4),o12,_,_,rfl,.inl rfl,?_⟩
    rw [hw1']
    refine P.dead hpn (by omega) (by rw [qcL,qcL];omega) (X:=X) (q:=p) (z1:=-1 - y) (z2:=y3 - 4) hX (List.mem_of_getElem? hpx) (wy == 2) fun r=>?_
    have hre:(pr1,pr2,y3 - 4)=(if (wy == 2)=true then (p,X,y3 - 4) else (X,p,y3 - 4)):=by
      cases h:(wy == 2) with
      | true=>rw [h,if_pos rfl] at hpr;cases hpr;rfl
      | false=>rw [h,if_neg (by decide)] at hpr;cases hpr;rfl
    rw [insR_mem,insR_mem,hre]
    constructor
    · rintro (h | h | h)
      · exact .inr (.inr h)
      · exact .inr (.inl h)
      · exact .inl h
    · rintro (h | h | h)
      · exact .inr (.inr h)
      · exact .inr (.inl h)
      · exact .inl h
  · have c:¬ 1<wy:=of_decide_eq_false c
    rcases hor with ⟨hw,rfl,k⟩ | ⟨hw,rfl,rfl⟩
    · exact ⟨rs',op,_,_,rfl,.inl rfl,by rw [hw];exact k⟩
    · have:wy=0:=by omega
      subst this
      exact ⟨rs',op,_,_,rfl,.inr rfl,P.plain hpn (by omega) (by omega)⟩
  rintro ρ ⟨rs2,op2,s62,u14,rfl,h6,k⟩
  have hlast:((nDl xs).length:Int) - 1=((xs.length - 1:Nat):Int):=by omega
  have hatl:atI (nDl xs) (((nDl xs).length:Int) - 1)=some (.int (xl:Nat)):=by rw [hlast];exact qax P.l rfl
  rcases h6 with rfl | rfl
  · refine ⟨_,qax P.f rfl,_,qax P.p0 rfl,_,hatl,_,qax P.pl rfl,_,hatl,_,qax P.ql rfl,_,qax P.f rfl,_,qax P.q0 rfl,?_⟩
    exact ⟨_,rfl,q ps rs2 st g _ _ op2 k⟩
  · refine ⟨_,qax P.f rfl,_,qax P.p0 rfl,_,hatl,_,qax P.pl rfl,_,hatl,_,qax P.ql rfl,_,qax P.f rfl,_,qax P.q0 rfl,?_⟩
    exact ⟨_,rfl,q ps rs2 st g _ _ op2 k⟩
open Wl
abbrev sp_law:=qnQ
abbrev qp9:=qlu
theorem qm8 {n:Nat} {f:Addr} {fd:FuncData} (F:Fun K "law" "law" qk0 f fd) (R__law_planted:ClM P w K mg base n "_law_planted" ["_law_pool_here"] qcV) (Q_road:Cl P w K mg base n "road" ["places","roads","start","goal"] qly) (R__law_pool:ClM P w K mg base n "_law_pool" ["_law_script","_law_at"] qem) (Q__law_right:Cl P w K mg base n "_law_right" ["_law_asked","_law_told"] qdP):FnOk P w K mg base CX0 (n+1) f fd ["_law_script"] (qfA K (zM qp9)):=by
  refine F.okM sc_law (fun as R Rx h=>?_) (fun cdv A outer s H E as R Rx qs hcd hr h hqs=>?_)
  · obtain ⟨_,rfl,ns,rfl,_⟩:=h;rfl
  obtain ⟨_,rfl,ns,rfl,hz,q⟩:=h
  obtain rfl:=qmz hqs
  refine ⟨_,(qaq (qp5 (qaw R__law_planted hr rfl (qap (qaw R__law_pool hr rfl (qap (qaP (dv 0)) (qap (qaP qaf) qaD qae) qaa) qaa (qac qae qag)) qaD qaM) qaM qag) (qmK (n:=3) rfl (qc6 (qbv (i:=1) sc_law.nd rfl (Or.inl rfl)) (qc6 (qbv (i:=2) sc_law.nd rfl (Or.inl rfl)) (qc6 (qbv (i:=3) sc_law.nd rfl (Or.inl rfl)) qjv)))))
      (qaq (qaO (i:=4) sc_law.nd rfl (Or.inl rfl) (qaP (qaK Q_road hr rfl (qad (qaI (dvq 1) (PD.q qaf) (fun _ _=>rfl)) (qad (qaI (dvq 1) (PD.q qaf) (fun _ _=>rfl)) (qad (qaI (dvq 1) (PD.q qaf) (fun _ _=>rfl)) (qad (qaI (dvq 1) (PD.q qaf) (fun _ _=>rfl)) qav qab) qab) qab) qab) qab (qac qab (qac qab (qac qab qag))))))
      (qcU (qeS (qcv (qgc (qfH (PD.q (qaK Q__law_right hr rfl (qad (dv 1) (qad (dv 4) qav qaa) qaa) qaa (qac qaa qag))) (fun _=>rfl)))) (qaN (qcS (qaP qdE))) qb2)
      (qcU (qeS (qcv (qfH (dvq 2) (fun _=>rfl))) (qaN (qcS (qaP (qfn (qfO hr.units) (PD.q (qaI (dvq 4) (PD.q qaf) (fun _ _=>rfl))) (PD.q qaV) (qaz _))))) qb2)
      (qaN (qcS (qaP (qmf (qfn (qfO hr.units) (PD.q (qaI (dvq 4) (PD.q qaf) (fun _ _=>rfl))) (PD.q qaV) (qaz _)) (qmI (qfn (qfO hr.units) (PD.q (qaI (dvq 4) (PD.q qaf) (fun _ _=>rfl))) (dvq 3) (qaz _))))))))))),?_⟩
  refine ⟨_,rfl,rfl,ns,0,rfl,hz,by decide,fun o hp=>?_⟩
  refine ⟨_,rfl,rfl,none,o,0,rfl,hp,by decide,fun ps rs st g b rise o' kp=>?_⟩
  have hc:=kp.map
  obtain ⟨t1,t2⟩:=qfR kp
  refine ⟨rfl,?_⟩
  refine ⟨_,rfl,_,rfl,_,rfl,_,rfl,ps,rs,st,g,rfl,hc,?_⟩
  refine ⟨fun ρ=>ρ=[some (.v (.fzl (ns.map D.int))),some (.v (.tup [.tup (ps.map D.str),.tup (rs.map rdD),.str st,.str g])),some (.v (.bl b)),some (.v (.int rise)),some (.v (qce ps rs st g))],⟨ps,rs,st,g,rfl,hc,fun h=>(by cases h),fun _=>rfl⟩,?_⟩
  rintro ρ rfl
  cases b with
  | true =>
    obtain ⟨l1,l2,l3,hd⟩:=t1 rfl
    rw [hd]
    refine ⟨fun ρ=>False,⟨fun _=>?_,fun h=>(by cases h)⟩,?_⟩
    · exact ⟨_,rfl,q⟩
    · rintro ρ ⟨⟩
  | false =>
    obtain ⟨l,hdd,hd⟩:=t2 rfl
    rw [hd]
    refine ⟨fun ρ=>ρ=[some (.v (.fzl (ns.map D.int))),some (.v (.tup [.tup (ps.map D.str),.tup (rs.map rdD),.str st,.str g])),some (.v (.bl false)),some (.v (.int rise)),some (.v (.tup [.str "road",qaW l,.int rise,hdd]))],⟨fun h=>(by cases h),fun _=>rfl⟩,?_⟩
    rintro ρ rfl
    refine ⟨_,rfl,fun _=>⟨_,rfl,?_⟩,fun h=>(by cases h)⟩
    show R (Sm.v (.bl (rise == rise))) []
    rw [beq_self_eq_true]
    exact q
end
theorem qp3 {A:Type} {p:List A→Prop} (h:∀ a0,p [a0]):∀ us:List A,us.length=1→p us
  | [a0],_=>h a0
theorem qiB {A:Type} {p:List A→Prop} (h:∀ a0 a1,p [a0,a1]):∀ us:List A,us.length=2→p us
  | [a0,a1],_=>h a0 a1
theorem qm3 {A:Type} {p:List A→Prop} (h:∀ a0 a1 a2,p [a0,a1,a2]):∀ us:List A,us.length=3→p us
  | [a0,a1,a2],_=>h a0 a1 a2
theorem qn8 {A:Type} {p:List A→Prop} (h:∀ a0 a1 a2 a3,p [a0,a1,a2,a3]):∀ us:List A,us.length=4→p us
  | [a0,a1,a2,a3],_=>h a0 a1 a2 a3
theorem qqR {A:Type} {p:List A→Prop} (h:∀ a0 a1 a2 a3 a4,p [a0,a1,a2,a3,a4]):∀ us:List A,us.length=5→p us
  | [a0,a1,a2,a3,a4],_=>h a0 a1 a2 a3 a4
theorem all_mk {l:PySem.W.OpenLaw} {w:World} {K:PySem.W.Frag} {h:Heap} {mg:Str→Option Value} {fa:Addr} (X:K.In h) (G:h.Ns mainGlobals mg) (hfa:mg "law"=some (.ref fa))

    (a1:Has K qbC "refuse_more")
    (a2:Has K qbq "refuse_twice")
    (a3:Has K qbd "refuse_strange")
    (a4:Has K qbi "walk_length")
    (a5:Has K qbX "walks_from")
    (a6:Has K qa5 "useful_places")
    (a7:Has K qba "roads_within")
    (a8:Has K qcl "shortened")
    (a9:Has K qbV "ring_parts")
    (a10:Has K qbe "shortest_walks")
    (a11:Has K qbo "refuse_roads")
    (a12:Has K qe6 "road")
    (a13:Has K qb9 "_law_pool")
    (a14:Has K qcj "_law_next")
    (a15:Has K qca "_law_wide")
    (a16:Has K qb0 "_law_names")
    (a17:Has K qbc "_law_heights")
    (a18:Has K qcb "_law_laid")
    (a19:Has K qcm "_law_ring")
    (a20:Has K qbp "_law_planted")
    (a21:Has K qbA "_law_spread")
    (a22:Has K qbk "_law_useful")
    (a23:Has K qbS "_law_whole")
    (a24:Has K qbE "_law_walked")
    (a25:Has K qbN "_law_long")
    (a26:Has K qcp "_law_high")
    (a27:Has K qbr "_law_right")
    (a28:Has K qk0 "law")
    (y_sum:PySem.W.nsIn K mainGlobals "sum"=some none)
    (y_len:PySem.W.nsIn K mainGlobals "len"=some none)
    (y_enumerate:PySem.W.nsIn K mainGlobals "enumerate"=some none)
    (y_tuple:PySem.W.nsIn K mainGlobals "tuple"=some none)
    (y_dict:PySem.W.nsIn K mainGlobals "dict"=some none)
    (y_range:PySem.W.nsIn K mainGlobals "range"=some none)
    {tk_MOST_UNKNOWNS:Tok} (y_MOST_UNKNOWNS:PySem.W.nsIn K mainGlobals "MOST_UNKNOWNS"=some (some (.int 8 tk_MOST_UNKNOWNS)))
    {tk_MOST_ROWS:Tok} (y_MOST_ROWS:PySem.W.nsIn K mainGlobals "MOST_ROWS"=some (some (.int 12 tk_MOST_ROWS)))
    (y_int:PySem.W.nsIn K mainGlobals "int"=some none)
    (y_isinstance:PySem.W.nsIn K mainGlobals "isinstance"=some none)
    (y_bool:PySem.W.nsIn K mainGlobals "bool"=some none)
    (y_zip:PySem.W.nsIn K mainGlobals "zip"=some none) :
    ∃ fd:FuncData,(∀ (s:Shared) (v:Value),BindsTo s fd ⟨[v],[]⟩ [("_law_script",v)])∧∀ base:Heap,K.In base→base.Ns mainGlobals mg→FnOk l.prog w K mg base CX0 5 fa fd ["_law_script"] (sp_law K):=by
  obtain ⟨f1,d1,F1,m1,_⟩:=a1.fn X G
  obtain ⟨f2,d2,F2,m2,_⟩:=a2.fn X G
  obtain ⟨f3,d3,F3,m3,_⟩:=a3.fn X G
  obtain ⟨f4,d4,F4,m4,_⟩:=a4.fn X G
  obtain ⟨f5,d5,F5,m5,_⟩:=a5.fn X G
  obtain ⟨f6,d6,F6,m6,_⟩:=a6.fn X G
  obtain ⟨f7,d7,F7,m7,_⟩:=a7.fn X G
  obtain ⟨f8,d8,F8,m8,_⟩:=a8.fn X G
  obtain ⟨f9,d9,F9,m9,_⟩:=a9.fn X G
  obtain ⟨f10,d10,F10,m10,_⟩:=a10.fn X G
  obtain ⟨f11,d11,F11,m11,_⟩:=a11.fn X G
  obtain ⟨f12,d12,F12,m12,_⟩:=a12.fn X G
  obtain ⟨f13,d13,F13,m13,_⟩:=a13.fn X G
  obtain ⟨f14,d14,F14,m14,_⟩:=a14.fn X G
  obtain ⟨f15,d15,F15,m15,_⟩:=a15.fn X G
  obtain ⟨f16,d16,F16,m16,_⟩:=a16.fn X G
  obtain ⟨f17,d17,F17,m17,_⟩:=a17.fn X G
  obtain ⟨f18,d18,F18,m18,_⟩:=a18.fn X G
  obtain ⟨f19,d19,F19,m19,_⟩:=a19.fn X G
  obtain ⟨f20,d20,F20,m20,_⟩:=a20.fn X G
  obtain ⟨f21,d21,F21,m21,_⟩:=a21.fn X G
  obtain ⟨f22,d22,F22,m22,_⟩:=a22.fn X G
  obtain ⟨f23,d23,F23,m23,_⟩:=a23.fn X G
  obtain ⟨f24,d24,F24,m24,_⟩:=a24.fn X G
  obtain ⟨f25,d25,F25,m25,_⟩:=a25.fn X G
  obtain ⟨f26,d26,F26,m26,_⟩:=a26.fn X G
  obtain ⟨f27,d27,F27,m27,_⟩:=a27.fn X G
  obtain ⟨f28,d28,F28,m28,_,_,_,e⟩:=a28.fn X G
  cases hfa.symm.trans m28
  refine ⟨d28,fun s v=>by rw [e];exact .of_eq rfl,fun base _ _=>?_⟩
  have z_sum:=PySem.W.mg_none_of X G y_sum
  have z_len:=PySem.W.mg_none_of X G y_len
  have z_enumerate:=PySem.W.mg_none_of X G y_enumerate
  have z_tuple:=PySem.W.mg_none_of X G y_tuple
  have z_dict:=PySem.W.mg_none_of X G y_dict
  have z_range:=PySem.W.mg_none_of X G y_range
  have z_MOST_UNKNOWNS:∃ tk,mg "MOST_UNKNOWNS"=some (.int 8 tk):=⟨_,PySem.W.mg_of X G y_MOST_UNKNOWNS⟩
  have z_MOST_ROWS:∃ tk,mg "MOST_ROWS"=some (.int 12 tk):=⟨_,PySem.W.mg_of X G y_MOST_ROWS⟩
  have z_int:=PySem.W.mg_none_of X G y_int
  have z_isinstance:=PySem.W.mg_none_of X G y_isinstance
  have z_bool:=PySem.W.mg_none_of X G y_bool
  have z_zip:=PySem.W.mg_none_of X G y_zip
  have H1:=qeN (P:=l.prog) (w:=w) (mg:=mg) (base:=base) (n:=0) F1
  have Q1:=F1.cl m1 H1 <| fun _ _ _ _ _ _=>qiB fun _ _=>rfl
  have H2:=qeG (P:=l.prog) (w:=w) (mg:=mg) (base:=base) (n:=0) F2
  have Q2:=F2.cl m2 (H2.imp qdF) <| fun _ _ _ _ _ _=>qp3 fun _=>rfl
  have H3:=qdJ (P:=l.prog) (w:=w) (mg:=mg) (base:=base) (n:=0) F3
  have Q3:=F3.cl m3 H3 <| fun _ _ _ _ _ _=>qiB fun _ _=>rfl
  have H4:=qeU (P:=l.prog) (w:=w) (mg:=mg) (base:=base) (n:=0) F4 z_sum
  have Q4:=F4.cl m4 H4 <| fun _ _ _ _ _ _=>qiB fun _ _=>rfl
  have H5:=qfj (P:=l.prog) (w:=w) (mg:=mg) (base:=base) (n:=0) F5 z_len z_enumerate
  have Q5:=F5.cl m5 (H5.imp qdF) <| fun _ _ _ _ _ _=>qiB fun _ _=>rfl
  have H6:=qdX (n:=1) F6 (Q5.mono (by decide)) z_tuple
  have Q6:=F6.cl m6 H6 <| fun _ _ _ _ _ _=>qn8 fun _ _ _ _=>rfl
  have H7:=qeH (P:=l.prog) (w:=w) (mg:=mg) (base:=base) (n:=0) F7 z_tuple z_enumerate
  have Q7:=F7.cl m7 H7 <| fun _ _ _ _ _ _=>qiB fun _ _=>rfl
  have H8:=qf6 (n:=1) F8 (Q4.mono (by decide)) z_dict
  have Q8:=F8.cl m8 (H8.imp qdF) <| fun _ _ _ _ _ _=>qm3 fun _ _ _=>rfl
  have H9:=qfv (P:=l.prog) (w:=w) (mg:=mg) (base:=base) (n:=0) F9 z_enumerate
  have Q9:=F9.cl m9 (H9.imp qdF) <| fun _ _ _ _ _ _=>qm3 fun _ _ _=>rfl
  have H10:=qdC (n:=2) F10 (Q7.mono (by decide)) (Q8.mono (by decide)) (Q9.mono (by decide)) z_range z_len
  have Q10:=F10.cl m10 H10 <| fun _ _ _ _ _ _=>qm3 fun _ _ _=>rfl
  have H11:=qeE (n:=1) F11 (Q1.mono (by decide)) (Q2.mono (by decide)) (Q3.mono (by decide)) z_MOST_UNKNOWNS z_MOST_ROWS z_len
  have Q11:=F11.cl m11 H11 <| fun _ _ _ _ _ _=>qn8 fun _ _ _ _=>rfl
  have H12:=qmE (n:=3) F12 (Q11.mono (by decide)) (Q5.mono (by decide)) (Q10.mono (by decide)) (Q6.mono (by decide)) (Q4.mono (by decide)) z_tuple
  have Q12:=F12.cl m12 H12 <| fun _ _ _ _ _ _=>qn8 fun _ _ _ _=>rfl
  have H13:=qgE (P:=l.prog) (w:=w) (mg:=mg) (base:=base) (n:=0) F13 z_len
  have R13:=F13.clM m13 H13 <| fun _ _ _ _ _ _=>qiB fun _ _=>rfl
  have H14:=qf5 (P:=l.prog) (w:=w) (mg:=mg) (base:=base) (n:=0) F14 z_len
  have R14:=F14.clM m14 H14 <| fun _ _ _ _ _ _=>qiB fun _ _=>rfl
  have H15:=qfZ (n:=1) F15 (R14.mono (by decide))
  have R15:=F15.clM m15 H15 <| fun _ _ _ _ _ _=>qiB fun _ _=>rfl
  have H16:=qfk (n:=1) F16 (R14.mono (by decide)) z_range
  have R16:=F16.clM m16 H16 <| fun _ _ _ _ _ _=>qiB fun _ _=>rfl
  have H17:=qen (n:=2) F17 (R14.mono (by decide)) (R15.mono (by decide)) z_range
  have R17:=F17.clM m17 H17 <| fun _ _ _ _ _ _=>qiB fun _ _=>rfl
  have H18:=qgB (n:=1) F18 (R14.mono (by decide)) z_len
  have R18:=F18.clM m18 H18 <| fun _ _ _ _ _ _=>qm3 fun _ _ _=>rfl
  have H19:=qgF (n:=2) F19 (R14.mono (by decide)) (R18.mono (by decide)) z_range z_len z_int
  have R19:=F19.clM m19 H19 <| fun _ _ _ _ _ _=>qqR fun _ _ _ _ _=>rfl
  have H20:=qea (n:=3) F20 (R17.mono (by decide)) (R16.mono (by decide)) (R14.mono (by decide)) (R18.mono (by decide)) (R15.mono (by decide)) (R19.mono (by decide)) z_len z_range z_tuple
  have R20:=F20.clM m20 H20 <| fun _ _ _ _ _ _=>qp3 fun _=>rfl
  have H21:=qeP (P:=l.prog) (w:=w) (mg:=mg) (base:=base) (n:=0) F21 z_range z_len
  have Q21:=F21.cl m21 (H21.imp qdF) <| fun _ _ _ _ _ _=>qm3 fun _ _ _=>rfl
  have H22:=qeT (n:=1) F22 (Q21.mono (by decide))
  have Q22:=F22.cl m22 H22 <| fun _ _ _ _ _ _=>qn8 fun _ _ _ _=>rfl
  have H23:=qfx (P:=l.prog) (w:=w) (mg:=mg) (base:=base) (n:=0) F23 z_isinstance z_int z_bool
  have Q23:=F23.cl m23 H23 <| fun _ _ _ _ _ _=>qp3 fun _=>rfl
  have H24:=qeR (n:=1) F24 (Q23.mono (by decide)) z_isinstance z_tuple z_len
  have Q24:=F24.cl m24 H24 <| fun _ _ _ _ _ _=>qm3 fun _ _ _=>rfl
  have H25:=qgi (P:=l.prog) (w:=w) (mg:=mg) (base:=base) (n:=0) F25 z_sum
  have Q25:=F25.cl m25 H25 <| fun _ _ _ _ _ _=>qiB fun _ _=>rfl
  have H26:=qfP (n:=1) F26 (Q23.mono (by decide)) z_zip z_isinstance z_tuple z_len
  have Q26:=F26.cl m26 H26 <| fun _ _ _ _ _ _=>qn8 fun _ _ _ _=>rfl
  have H27:=qff (n:=2) F27 (Q21.mono (by decide)) (Q24.mono (by decide)) (Q22.mono (by decide)) (Q23.mono (by decide)) (Q26.mono (by decide)) (Q25.mono (by decide)) z_len z_isinstance z_tuple
  have Q27:=F27.cl m27 H27 <| fun _ _ _ _ _ _=>qiB fun _ _=>rfl
  have H28:=qm8 (n:=4) F28 (R20.mono (by decide)) (Q12.mono (by decide)) (R13.mono (by decide)) (Q27.mono (by decide))
  exact (H28.imp qdF).imp qkb
theorem walk {l:PySem.W.OpenLaw} {q:Program} {loose:List Str} {XP:(Str→Option Value)→Heap→Prop} {YP:World→Heap→Prop} {d:DefRec} {K:Params→PySem.W.Frag} (hn:l.most=some 63) (hdf:d.params.defaults=[]) (him:PyProof.Rows.importsNone q=true)
    (hY:∀ (w:World) (h:Heap),YP w h→(K w.params).In h) (hN:∀ w:World,PySem.W.nsIn (K w.params) mainGlobals "least_grown"=some none∧PySem.W.nsIn (K w.params) mainGlobals "greatest_first"=some none)
    (F:∀ (w:World) (mg:Str→Option Value) (fa:Addr) (h:Heap),(K w.params).In h→h.Ns mainGlobals mg→mg d.name=some (.ref fa) →
      ∃ fd:FuncData,(∀ (s:Shared) (u:Value),BindsTo s fd ⟨[u],[]⟩ [("_law_script",u)])∧∀ base:Heap,(K w.params).In base→base.Ns mainGlobals mg→FnOk l.prog w (K w.params) mg base CX0 5 fa fd ["_law_script"] (sp_law (K w.params))) :
    PySem.W.WalkO q loose XP YP l.row.toRowW d [] (fun f vs=>PySem.call f vs) :=
  L2.walk_of (n:=63) (k:=5) (x:="_law_script") (CX:=fun _=>CX0) (sp:=fun w=>sp_law (K w.params)) hn (by decide) hdf him ⟨rfl,by decide,by decide⟩ hY F (fun w H a ns hl _ hS=>⟨a,ns,rfl,hS,hl,(fun t ht=>by rw [qiX (hN w)] at ht;cases ht),fun _=>rfl⟩) fun _ _ _ _ _ z=>z
end Kx
namespace Kx
open PySem PySem.W L2
def KK:Params→Frag:=fun P =>
  (nat_lit 2,⟨.none,none,(.dict #[] 0),#[]⟩) ::
  (nat_lit 3,⟨(.type "dict"),none,(.dict #[dE P "__name__" 165 ((.str "law_cutyard_k64_whole_roads_from_heights" 406)),dE P "__doc__" 166 (.none),dE P "__package__" 167 (.none),dE P "__loader__" 168 ((.builtin "__main__.__loader__#opaque")),dE P "__spec__" 169 (.none),dE P "__annotations__" 170 ((.ref 6)),dE P "__builtins__" 171 ((.ref 4)),dE P "__file__" 173 ((.str "/claim/cut.py" 172)),dE P "__cached__" 174 (.none),dE P "YardError" 206 ((.ref 24)),dE P "NoName" 231 ((.ref 44)),dE P "Twice" 256 ((.ref 63)),dE P "TooGreat" 281 ((.ref 82)),dE P "refuse_more" 291 ((.ref 91)),dE P "refuse_twice" 300 ((.ref 98)),dE P "refuse_strange" 309 ((.ref 105)),dE P "MOST_UNKNOWNS" 311 ((.int 8 310)),dE P "MOST_ROWS" 313 ((.int 12 312)),dE P "walk_length" 321 ((.ref 110)),dE P "walks_from" 334 ((.ref 117)),dE P "useful_places" 340 ((.ref 122)),dE P "roads_within" 346 ((.ref 127)),dE P "shortened" 359 ((.ref 134)),dE P "ring_parts" 372 ((.ref 141)),dE P "shortest_walks" 386 ((.ref 148)),dE P "refuse_roads" 399 ((.ref 155)),dE P "road" 405 ((.ref 160)),dE P "_law_pool" 416 ((.ref 167)),dE P "_law_next" 427 ((.ref 174)),dE P "_law_wide" 435 ((.ref 181)),dE P "_law_names" 450 ((.ref 188)),dE P "_law_heights" 456 ((.ref 193)),dE P "_law_laid" 465 ((.ref 200)),dE P "_law_ring" 481 ((.ref 207)),dE P "_law_planted" 503 ((.ref 214)),dE P "_law_spread" 515 ((.ref 221)),dE P "_law_useful" 521 ((.ref 226)),dE P "_law_whole" 528 ((.ref 233)),dE P "_law_walked" 538 ((.ref 240)),dE P "_law_long" 544 ((.ref 245)),dE P "_law_high" 559 ((.ref 252)),dE P "_law_right" 565 ((.ref 257)),dE P "law" 576 ((.ref 264))] 43),#[]⟩) ::
(nat_lit 40,cO "__init__" 219 "NoName.__init__" 220 221 6 2 3 35 181 36 (.ref 37) (.ref 38) 39 224 225) ::
(nat_lit 59,cO "__init__" 244 "Twice.__init__" 245 246 10 2 3 54 181 55 (.ref 56) (.ref 57) 58 249 250) ::
(nat_lit 78,cO "__init__" 269 "TooGreat.__init__" 270 271 14 2 3 73 181 74 (.ref 75) (.ref 76) 77 274 275) ::
(nat_lit 90,cO "refuse_more" 284 "refuse_more" 285 286 17 2 3 85 181 86 (.ref 87) (.ref 88) 89 289 290) ::
  (nat_lit 91,fO qbC "refuse_more" "refuse_more" "cutyard.doors" 282 90) ::
(nat_lit 97,cO "refuse_twice" 292 "refuse_twice" 293 294 20 1 3 92 181 93 (.ref 94) (.ref 95) 96 298 299) ::
  (nat_lit 98,fO qbq "refuse_twice" "refuse_twice" "cutyard.doors" 282 97) ::
(nat_lit 104,cO "refuse_strange" 301 "refuse_strange" 302 303 26 2 3 99 181 100 (.ref 101) (.ref 102) 103 307 308) ::
  (nat_lit 105,fO qbd "refuse_strange" "refuse_strange" "cutyard.doors" 282 104) ::
(nat_lit 109,cO "walk_length" 316 "walk_length" 317 318 33 2 3 106 181 107 .none .none 108 319 320) ::
  (nat_lit 110,fO qbi "walk_length" "walk_length" "cutyard.walks" 314 109) ::
(nat_lit 116,cO "walks_from" 322 "walks_from" 323 324 35 2 3 111 181 112 (.ref 113) (.ref 114) 115 332 333) ::
  (nat_lit 117,fO qbX "walks_from" "walks_from" "cutyard.walks" 314 116) ::
(nat_lit 121,cO "useful_places" 335 "useful_places" 336 337 45 4 3 118 181 119 .none .none 120 338 339) ::
  (nat_lit 122,fO qa5 "useful_places" "useful_places" "cutyard.walks" 314 121) ::
(nat_lit 126,cO "roads_within" 341 "roads_within" 342 343 48 2 3 123 181 124 .none .none 125 344 345) ::
  (nat_lit 127,fO qba "roads_within" "roads_within" "cutyard.walks" 314 126) ::
(nat_lit 133,cO "shortened" 347 "shortened" 348 349 50 3 3 128 181 129 (.ref 130) (.ref 131) 132 357 358) ::
  (nat_lit 134,fO qcl "shortened" "shortened" "cutyard.walks" 314 133) ::
(nat_lit 140,cO "ring_parts" 360 "ring_parts" 361 362 59 3 3 135 181 136 (.ref 137) (.ref 138) 139 370 371) ::
  (nat_lit 141,fO qbV "ring_parts" "ring_parts" "cutyard.walks" 314 140) ::
(nat_lit 147,cO "shortest_walks" 373 "shortest_walks" 374 375 67 3 3 142 181 143 (.ref 144) (.ref 145) 146 384 385) ::
  (nat_lit 148,fO qbe "shortest_walks" "shortest_walks" "cutyard.walks" 314 147) ::
(nat_lit 154,cO "refuse_roads" 389 "refuse_roads" 390 391 78 4 3 149 181 150 (.ref 151) (.ref 152) 153 397 398) ::
  (nat_lit 155,fO qbo "refuse_roads" "refuse_roads" "cutyard.roads" 387 154) ::
(nat_lit 159,cO "road" 400 "road" 401 402 85 4 3 156 181 157 .none .none 158 403 404) ::
  (nat_lit 160,fO qe6 "road" "road" "cutyard.roads" 387 159) ::
(nat_lit 166,cO "_law_pool" 408 "_law_pool" 409 410 98 2 3 161 181 162 (.ref 163) (.ref 164) 165 414 415) ::
  (nat_lit 167,fO qb9 "_law_pool" "_law_pool" "law_cutyard_k64_whole_roads_from_heights" 406 166) ::
(nat_lit 173,cO "_law_next" 417 "_law_next" 418 419 103 2 3 168 181 169 (.ref 170) (.ref 171) 172 425 426) ::
  (nat_lit 174,fO qcj "_law_next" "_law_next" "law_cutyard_k64_whole_roads_from_heights" 406 173) ::
(nat_lit 180,cO "_law_wide" 428 "_law_wide" 429 430 115 2 3 175 181 176 (.ref 177) (.ref 178) 179 433 434) ::
  (nat_lit 181,fO qca "_law_wide" "_law_wide" "law_cutyard_k64_whole_roads_from_heights" 406 180) ::
(nat_lit 187,cO "_law_names" 436 "_law_names" 437 438 119 2 3 182 181 183 (.ref 184) (.ref 185) 186 448 449) ::
  (nat_lit 188,fO qb0 "_law_names" "_law_names" "law_cutyard_k64_whole_roads_from_heights" 406 187) ::
(nat_lit 192,cO "_law_heights" 451 "_law_heights" 452 453 137 2 3 189 181 190 .none .none 191 454 455) ::
  (nat_lit 193,fO qbc "_law_heights" "_law_heights" "law_cutyard_k64_whole_roads_from_heights" 406 192) ::
(nat_lit 199,cO "_law_laid" 457 "_law_laid" 458 459 140 3 3 194 181 195 (.ref 196) (.ref 197) 198 463 464) ::
  (nat_lit 200,fO qcb "_law_laid" "_law_laid" "law_cutyard_k64_whole_roads_from_heights" 406 199) ::
(nat_lit 206,cO "_law_ring" 466 "_law_ring" 467 468 142 5 3 201 181 202 (.ref 203) (.ref 204) 205 479 480) ::
  (nat_lit 207,fO qcm "_law_ring" "_law_ring" "law_cutyard_k64_whole_roads_from_heights" 406 206) ::
(nat_lit 213,cO "_law_planted" 482 "_law_planted" 483 484 152 1 3 208 181 209 (.ref 210) (.ref 211) 212 501 502) ::
  (nat_lit 214,fO qbp "_law_planted" "_law_planted" "law_cutyard_k64_whole_roads_from_heights" 406 213) ::
(nat_lit 220,cO "_law_spread" 504 "_law_spread" 505 506 181 3 3 215 181 216 (.ref 217) (.ref 218) 219 513 514) ::
  (nat_lit 221,fO qbA "_law_spread" "_law_spread" "law_cutyard_k64_whole_roads_from_heights" 406 220) ::
(nat_lit 225,cO "_law_useful" 516 "_law_useful" 517 518 188 4 3 222 181 223 .none .none 224 519 520) ::
  (nat_lit 226,fO qbk "_law_useful" "_law_useful" "law_cutyard_k64_whole_roads_from_heights" 406 225) ::
(nat_lit 232,cO "_law_whole" 522 "_law_whole" 523 524 192 1 3 227 181 228 (.ref 229) (.ref 230) 231 526 527) ::
  (nat_lit 233,fO qbS "_law_whole" "_law_whole" "law_cutyard_k64_whole_roads_from_heights" 406 232) ::
(nat_lit 239,cO "_law_walked" 529 "_law_walked" 530 531 194 3 3 234 181 235 (.ref 236) (.ref 237) 238 536 537) ::
  (nat_lit 240,fO qbE "_law_walked" "_law_walked" "law_cutyard_k64_whole_roads_from_heights" 406 239) ::
(nat_lit 244,cO "_law_long" 539 "_law_long" 540 541 204 2 3 241 181 242 .none .none 243 542 543) ::
  (nat_lit 245,fO qbN "_law_long" "_law_long" "law_cutyard_k64_whole_roads_from_heights" 406 244) ::
(nat_lit 251,cO "_law_high" 545 "_law_high" 546 547 206 4 3 246 181 247 (.ref 248) (.ref 249) 250 557 558) ::
  (nat_lit 252,fO qcp "_law_high" "_law_high" "law_cutyard_k64_whole_roads_from_heights" 406 251) ::
(nat_lit 256,cO "_law_right" 560 "_law_right" 561 562 221 2 3 253 181 254 .none .none 255 563 564) ::
  (nat_lit 257,fO qbr "_law_right" "_law_right" "law_cutyard_k64_whole_roads_from_heights" 406 256) ::
(nat_lit 263,cO "law" 566 "law" 567 568 241 1 3 258 181 259 (.ref 260) (.ref 261) 262 574 575) ::
  (nat_lit 264,fO qk0 "law" "law" "law_cutyard_k64_whole_roads_from_heights" 406 263)::[]
end Kx
def PySem.W.Fast.tw12870205398354320340:=PySem.Challenge.pw_cutyard_k64_whole_roads_from_heights
theorem PySem.W.Fast.te12870205398354320340:PySem.Challenge.pw_cutyard_k64_whole_roads_from_heights=PySem.W.Fast.tw12870205398354320340:=rfl
def PySem.W.Fast.tw5385739360559341639:=Kx.KK
theorem PySem.W.Fast.te5385739360559341639:Kx.KK=PySem.W.Fast.tw5385739360559341639:=rfl
theorem PySem.W.Fast.tw10085889462338603401:True:=trivial
theorem PySem.W.Fast.tw10410796856605202255:True:=trivial
theorem PySem.W.Fast.tw10791226454216226237:True:=trivial
theorem PySem.W.Fast.tw11935585047433134126:True:=trivial
theorem PySem.W.Fast.tw13067234326650297899:True:=trivial
theorem PySem.W.Fast.tw13477383493840385914:True:=trivial
theorem PySem.W.Fast.tw13728833904361590997:True:=trivial
theorem PySem.W.Fast.tw14177564664923222595:True:=trivial
theorem PySem.W.Fast.tw14446558645394584036:True:=trivial
theorem PySem.W.Fast.tw2708161865328318649:True:=trivial
theorem PySem.W.Fast.tw3624748120165469174:True:=trivial
theorem PySem.W.Fast.tw3627332572881734865:True:=trivial
theorem PySem.W.Fast.tw3865729902837545858:True:=trivial
theorem PySem.W.Fast.tw4480643937610907261:True:=trivial
theorem PySem.W.Fast.tw4828037565786519566:True:=trivial
theorem PySem.W.Fast.tw5299306718593361228:True:=trivial
theorem PySem.W.Fast.tw571236716953028307:True:=trivial
theorem PySem.W.Fast.tw6017511747479016502:True:=trivial
theorem PySem.W.Fast.tw608187093425264715:True:=trivial
theorem PySem.W.Fast.tw8558093564440904038:True:=trivial
open PySem PySem.W PyProof.Rows
set_option maxRecDepth 100000 in
set_option maxHeartbeats 0 in
theorem PySem.Challenge.cw_cutyard_k64_whole_roads_from_heights_holds : PySem.Challenge.rw_cutyard_k64_whole_roads_from_heights.Holds := by
  w_on;o_law;o_head (kHook Kx.KK (2::3::40::59::78::90::91::97::98::104::105::109::110::116::117::121::122::126::127::133::134::140::141::147::148::154::155::159::160::166::167::173::174::180::181::187::188::192::193::199::200::206::207::213::214::220::221::225::226::232::233::239::240::244::245::251::252::256::257::263::264::[]) (fun _=>by kernel_rfl));(case hw=>w_witness2)
  k_fill
  refine Kx.walk (l:=PySem.Challenge.rw_cutyard_k64_whole_roads_from_heights) rfl rfl (by decide +kernel) (fun w h Y=>PySem.W.kIn_of Y) (fun w=>⟨?N1,?N2⟩) ?F
  (case N1=>k_is);(case N2=>k_is)
  case F =>
    intro w mg fa h KX G hmg
    refine' Kx.all_mk KX G hmg ?a1 ?a2 ?a3 ?a4 ?a5 ?a6 ?a7 ?a8 ?a9 ?a10 ?a11 ?a12 ?a13 ?a14 ?a15 ?a16 ?a17 ?a18 ?a19 ?a20 ?a21 ?a22 ?a23 ?a24 ?a25 ?a26 ?a27 ?a28 ?y_sum ?y_len ?y_enumerate ?y_tuple ?y_dict ?y_range ?y_MOST_UNKNOWNS ?y_MOST_ROWS ?y_int ?y_isinstance ?y_bool ?y_zip
    (case y_sum=>k_is)
    (case y_len=>k_is)
    (case y_enumerate=>k_is)
    (case y_tuple=>k_is)
    (case y_dict=>k_is)
    (case y_range=>k_is)
    (case y_MOST_UNKNOWNS=>k_is)
    (case y_MOST_ROWS=>k_is)
    (case y_int=>k_is)
    (case y_isinstance=>k_is)
    (case y_bool=>k_is)
    (case y_zip=>k_is)
    all_goals (refine' L2.Has.of ?a ?l ?c;(case a=>k_is);(case l=>k_is);(case c=>k_is))

