import PyProof.Rows.All
import Wide.All
import OpenK.AllK
import Wide.FinOn
import Lean
import PyProof.EqAt
import PyProof.EqKinds
import PyProof.TupleCall
import PyProof.NeKinds
import KE.KLam
import KE.KMinKey
import KE.KSortTup
import PyProof.AutoListH
import PyProof.MeetsStr
import PyProof.StrLawsJoin
import PyProof.FitsReplace
import PyProof.Rows.TupDisplay
import PyProof.ListRange
import PyProof.ZipIter
import PyProof.ListNew
import KE.KSortKey
import PyProof.StationsW
import PyProof.ExcClass2
import PyProof.ExcInit
import PyProof.ExcBaseAll.ValueError
import PyProof.RulesAs
import PyProof.NsDelKeeps
import PyProof.ExcAttrAll.ValueError
import PyProof.IsiBase
import KE.KIsAll
import PyProof.InstStoreFacts
import PyProof.Rows.SetFrom
import PyProof.SetRoads
import KE.KRevIter
import PyProof.StrLawsChain
import PyProof.StrLawsTight
import PyProof.Rows.StrItems
import PyProof.Rows.StrSplitCount
import KE.KIntText
import PyProof.StrCalls2
import PyProof.StrLoop
import PyProof.StrWalks
import PyProof.StrOps
import PyProof.StrLawsIn
import PyProof.Rows.FStr
import PyProof.Rows.StrSplitAre
import PyProof.CallStr
import PyProof.IsiNone
import PyProof.Rows.Range3
import PyProof.Rows.ChunkLeaf
import PySem.Challenge.RW_cutyard_k07_read
set_option Elab.async false
set_option linter.all false
set_option maxRecDepth 100000
namespace L2
open PySem PySem.Spec PyProof.Rows
abbrev Key:=Sum Int Str
def qhO:Key→Value→Bool
  | .inl k,v=>Value.isInt k v
  | .inr x,v=>Value.isStrOf x v
def qsn (w:World):Key→Int
  | .inl k=>hashInt k
  | .inr x=>hashStr w x
theorem qaT:∀ {k:Key} {v:Value},qhO k v=true→(∃ i t,k=Sum.inl i∧v=Value.int i t)∨(∃ x t,k=Sum.inr x∧v=Value.str x t)
  | .inl i,v,h=>by
    obtain ⟨t,e⟩:=Value.isInt_shape (k:=i) (v:=v) h
    exact .inl ⟨i,t,rfl,e⟩
  | .inr x,v,h=>by
    obtain ⟨t,e⟩:=Value.isStrOf_shape (x:=x) (v:=v) h
    exact .inr ⟨x,t,rfl,e⟩
theorem qj7 (i:Int) (t:Tok):qhO (.inl i) (.int i t)=true:=by simp [qhO,Value.isInt]
theorem qin (x:Str) (t:Tok):qhO (.inr x) (.str x t)=true:=by simp [qhO,Value.isStrOf]
theorem qnR (a b:Int):decide ((Sum.inl a:Key)=Sum.inl b)=(a == b):=by
  by_cases e:a=b
  · subst e;simp
  · have h:¬ (Sum.inl a:Key)=Sum.inl b:=fun q=>e (Sum.inl.inj q)
    rw [decide_eq_false h]
    exact (beq_eq_false_iff_ne.mpr e).symm
theorem qn9 (a b:Str):decide ((Sum.inr a:Key)=Sum.inr b)=decide (a=b):=by
  by_cases e:a=b
  · subst e;simp
  · have h:¬ (Sum.inr a:Key)=Sum.inr b:=fun q=>e (Sum.inr.inj q)
    rw [decide_eq_false h,decide_eq_false e]
theorem qnT (a:Int) (b:Str):decide ((Sum.inl a:Key)=Sum.inr b)=false:=decide_eq_false (fun q=>nomatch q)
theorem qoW (a:Str) (b:Int):decide ((Sum.inr a:Key)=Sum.inl b)=false:=decide_eq_false (fun q=>nomatch q)
def qbe (prog:Program) (w:World):PySem.KeyKind prog w Key where
  is:=qhO
  hash:=qsn w
  inj:=fun v a b ha hb=>by
    rcases qaT ha with ⟨i,t,rfl,rfl⟩ | ⟨x,t,rfl,rfl⟩
    · rcases qaT hb with ⟨j,u,rfl,e⟩ | ⟨y,u,rfl,e⟩
      · injection e with e1 _;rw [e1]
      · exact nomatch e
    · rcases qaT hb with ⟨j,u,rfl,e⟩ | ⟨y,u,rfl,e⟩
      · exact nomatch e
      · injection e with e1 _;rw [e1]
  byValue:=fun k v h=>by
    rcases qaT h with ⟨i,t,rfl,rfl⟩ | ⟨x,t,rfl,rfl⟩ <;> rfl
  pyHash:=fun hv h=>by
    rcases qaT hv with ⟨i,t,rfl,rfl⟩ | ⟨x,t,rfl,rfl⟩
    · exact wpAny_pyHash_int h
    · exact wpAny_pyHash_str h
  eqBool:=fun hu hv h=>by
    rcases qaT hu with ⟨i,t,rfl,rfl⟩ | ⟨x,t,rfl,rfl⟩
    · rcases qaT hv with ⟨j,u,rfl,rfl⟩ | ⟨y,u,rfl,rfl⟩
      · rw [qnR] at h;exact wpAny_eqBool_int h
      · rw [qnT] at h;exact SeqAt.EqAt.int_str i t y u _ _ _ _ h
    · rcases qaT hv with ⟨j,u,rfl,rfl⟩ | ⟨y,u,rfl,rfl⟩
      · rw [qoW] at h;exact SeqAt.EqAt.str_int x t j u _ _ _ _ h
      · rw [qn9] at h;exact wpAny_eqBool_str h
  «strs»:=fun k x t v h=>by
    rcases qaT h with ⟨i,u,rfl,e⟩ | ⟨y,u,rfl,e⟩
    · exact nomatch e
    · injection e with e1 _
      subst e1
      cases v <;> rfl
theorem qgR (prog:Program) (w:World) (i:Int) (t:Tok):(qbe prog w).is (.inl i) (.int i t)=true:=qj7 i t
theorem qgJ (prog:Program) (w:World) (x:Str) (t:Tok):(qbe prog w).is (.inr x) (.str x t)=true:=qin x t
inductive V where
  | non | bl (b:Bool) | int (i:Int) | str (x:Str) | byt (b:Array UInt8) | flt (b:UInt64) | ref (a:Addr) | ty (n:String)
  deriving DecidableEq
def RelV:V→Value→Prop
  | .non,u=>u=Value.none
  | .bl b,u=>u=Value.bool b
  | .int i,u=>∃ t,u=Value.int i t
  | .str x,u=>∃ t,u=Value.str x t
  | .byt b,u=>∃ t,u=Value.bytes b t
  | .flt b,u=>∃ t,u=Value.float b t
  | .ref a,u=>u=Value.ref a
  | .ty n,u=>u=Value.type n
abbrev Vals:List V→List Value→Prop:=Paired RelV
theorem Vals.length {xs:List V} {us:List Value} (r:Vals xs us):xs.length=us.length:=Paired.length r
theorem Vals.get:∀ {xs:List V} {us:List Value} {i:Nat} {x:V},Vals xs us→xs[i]?=some x→∃ u,us[i]?=some u∧RelV x u
  | _,_,_,_,.nil,e=>by simp at e
  | _,_,0,_,.cons r _,e=>by simp at e;subst e;exact ⟨_,rfl,r⟩
  | _,_,i+1,x,.cons _ t,e=>by
    obtain ⟨u,h1,h2⟩:=Vals.get (i:=i) (x:=x) t (by simpa using e)
    exact ⟨u,by simpa using h1,h2⟩
theorem Vals.set {x:V} {u:Value} (r:RelV x u):∀ {xs:List V} {us:List Value} (i:Nat),Vals xs us→Vals (xs.set i x) (us.set i u)
  | _,_,_,.nil=>.nil
  | _,_,0,.cons _ t=>.cons r t
  | _,_,i+1,.cons q t=>.cons q (Vals.set r i t)
theorem Vals.append:∀ {xs ys:List V} {us ws:List Value},Vals xs us→Vals ys ws→Vals (xs++ys) (us++ws)
  | _,_,_,_,.nil,s=>s
  | _,_,_,_,.cons r t,s=>.cons r (Vals.append t s)
theorem Vals.take:∀ {xs:List V} {us:List Value} (n:Nat),Vals xs us→Vals (xs.take n) (us.take n)
  | _,_,0,_=>.nil
  | _,_,_+1,.nil=>.nil
  | _,_,n+1,.cons r t=>.cons r (Vals.take n t)
theorem Vals.drop:∀ {xs:List V} {us:List Value} (n:Nat),Vals xs us→Vals (xs.drop n) (us.drop n)
  | _,_,0,r=>r
  | _,_,_+1,.nil=>.nil
  | _,_,n+1,.cons _ t=>Vals.drop n t
def RelO:Option V→Option Value→Prop
  | some v,some u=>RelV v u
  | none,none=>True
  | _,_=>False
def KV {κ:Type}:List (κ × V)→List (κ × Value)→Prop:=Paired fun (p:κ × V) (q:κ × Value)=>p.1=q.1∧RelV p.2 q.2
def kV:Key→V
  | .inl i=>.int i
  | .inr x=>.str x
inductive HO where
    | lst (xs:List V)
    | tup (xs:List V)
    | dK (kvs:List (Key × V)) | dT (kvs:List (List Key × V))
    | set (S:Int→Bool) (n:Nat)
    | ins (C dx:Addr) (fs:List (Str × V))
    | own (x:Addr)
    | xd (fs:List (Str × V))
    | met (f x:Addr)
    | rng (lo hi:Int)
    | frz (o:Obj) (u:HO)
    | tbl (ps:Array Value)
    | ext (φ:Heap→Prop)
abbrev Hp:=Addr→Option HO
def upd (H:Hp) (a:Addr) (o:HO):Hp:=fun b=>if b=a then some o else H b
theorem qai {H:Hp} {a:Addr} {o:HO}:upd H a o a=some o:=by unfold upd;rw [if_pos rfl]
theorem qak {H:Hp} {a b:Addr} {o:HO} (h:b≠a):upd H a o b=H b:=by unfold upd;rw [if_neg h]
theorem qmh {H:Hp} {a:Addr} {o u:HO}:upd (upd H a o) a u=upd H a u:=by
  funext b;unfold upd;split <;> rfl
theorem qp1 {H:Hp} {a b:Addr} {o u:HO} (h:H a=some o) (h':H b=some u) (d:o≠u):a≠b:=by
  intro e;subst e;rw [h] at h';exact d (Option.some.inj h')
theorem qap {H:Hp} {a b:Addr} {o:HO} (h:H a=some o) (h':H b=none):a≠b:=by
  intro e;subst e;rw [h] at h';cases h'
def IsTupD (h:Heap) (a:Addr) (items:Array Value):Prop:=∃ o,h.get? a=some o∧(o.cls=.type "tuple"∧o.dict=none)∧∃ n,o.data=.seq items n
theorem IsTupD.tup {h:Heap} {a:Addr} {items:Array Value} (x:IsTupD h a items):IsTup h a items:=let ⟨o,e,c,d⟩:=x;⟨o,e,c.1,d⟩
theorem IsTupD.lt {h:Heap} {a:Addr} {items:Array Value} (x:IsTupD h a items):a<h.objs.size:=x.tup.lt
theorem IsTupD.new (h:Heap) (items:Array Value):IsTupD (h.push { cls:=.type "tuple",data:=.seq items }) h.objs.size items:=⟨_,Heap.get?_push_size _ rfl,⟨rfl,rfl⟩,_,rfl⟩
section
variable (P : Program) (w : World)
def ObjOk (H:Hp) (h:Heap) (a:Addr):HO→Prop
  | .lst xs=>xs.length≤sizeLine∧∃ (its:List Value) (n:Nat),Vals xs its∧h.get? a=some { cls:=.type "list",data:=.seq its.toArray n }
  | .tup xs=>xs.length≤sizeLine∧∃ its:List Value,Vals xs its∧IsTupD h a its.toArray
  | .dK kvs=>kvs.length≤sizeLine∧(a == sysModules)=false∧∃ vs,KV kvs vs∧h.DictOf (qbe P w) a vs
  | .dT kvs=>kvs.length≤sizeLine∧(a == sysModules)=false∧∃ xs:List (List Key × Addr × Value),
      Paired (fun (p:List Key × V) (q:List Key × Addr × Value)=>p.1=q.1∧H q.2.1=some (.tup (p.1.map kV))∧RelV p.2 q.2.2) kvs xs ∧
      ∃ o es ep,h.get? a=some o∧o.ExactDict∧o.data=.dict es ep∧es.toList=xs.map (entryOfKey (tupleKind (qbe P w)))∧(xs.map (·.1)).Nodup
  | .set S n=>h.SetOf (intKind P w) a S n
  | .ins C dx fs=>H dx=some (.own a)∧fs.length≤1000∧dx≠a∧h.get? a=some (PySem.W.instObj C dx) ∧
      ∃ mA,h.Ns1 dx mA∧(∀ f,RelO (fs.lookup f) (mA f))∧PySem.Within mA (fs.map (·.1))
  | .own _=>∃ o,h.get? a=some o
  | .xd fs=>∃ mA,h.Ns1 a mA∧∀ f,RelO (fs.lookup f) (mA f)
  | .rng lo hi=>∃ t u v,h.get? a=some { cls:=.type "range",data:=.fields #[.int lo t,.int hi u,.int 1 v] }
  | .frz o u=>h.get? a=some o∧ObjOk H h a u
  | .tbl ps=>h.get? a=some { cls:=.none,data:=.fields #[] }∨∃ (c:Addr) (o:Obj) (vs:Array Value) (x y:Value) (q:Str) (t t':Tok),ps=#[x,y,.str q t]∧H c=some (.frz o (.own a)) ∧
      h.get? a=some { cls:=.none,data:=.fields #[x,y,.ref c] }∧o.data=.fields vs∧vs[1]?=some (.str q t')
  | .met f x=>h.get? a=some (PySem.W.methodObj (.ref f) (.ref x))
  | .ext φ=>φ h∧(∃ o,h.get? a=some o)∧∀ h1 h2:Heap,φ h1→(∀ o,h1.get? a=some o→h2.get? a=some o)→φ h2
def HOk (H:Hp) (h:Heap):Prop:=∀ a o,H a=some o→ObjOk P w H h a o
end
section
variable {P : Program} {w : World} {H H' : Hp} {h h' : Heap} {a : Addr} {o : HO}
theorem ObjOk.lt (x:ObjOk P w H h a o):a<h.objs.size:=by
  cases o with
  | lst xs=>obtain ⟨_,_,_,_,e⟩:=x;exact Heap.lt_size e
  | tup xs=>obtain ⟨_,_,_,p⟩:=x;exact p.lt
  | dK kvs=>obtain ⟨_,_,_,_,o,_,_,e,_⟩:=x;exact Heap.lt_size e
  | dT kvs=>obtain ⟨_,_,_,_,o,_,_,e,_⟩:=x;exact Heap.lt_size e
  | set S n=>obtain ⟨o,_,_,_,e,_⟩:=x;exact Heap.lt_size e
  | ins C dx fs=>obtain ⟨_,_,_,e,_⟩:=x;exact Heap.lt_size e
  | own y=>obtain ⟨_,e⟩:=x;exact Heap.lt_size e
  | xd fs=>obtain ⟨_,⟨_,_,_,e,_⟩,_⟩:=x;exact Heap.lt_size e
  | rng lo hi=>obtain ⟨_,_,_,e⟩:=x;exact Heap.lt_size e
  | frz ob u=>obtain ⟨e,_⟩:=x;exact Heap.lt_size e
  | tbl ps=>rcases x with x | ⟨_,_,_,_,_,_,_,_,_,_,x,_⟩ <;> exact Heap.lt_size x
  | met f y=>exact Heap.lt_size (show h.get? a=some _ from x)
  | ext φ=>obtain ⟨_,⟨_,e⟩,_⟩:=x;exact Heap.lt_size e
theorem Paired.mapP {α β:Type} {F G:α→β→Prop}:∀ {l₁:List α} {l₂:List β},Paired F l₁ l₂→(∀ a b,F a b→G a b)→Paired G l₁ l₂
  | _,_,.nil,_=>.nil
  | _,_,.cons r t,f=>.cons (f _ _ r) (Paired.mapP t f)
theorem ObjOk.stay (x:ObjOk P w H h a o) (k:∀ b u,(b=a∨H b=some (.own a))→h.get? b=some u→h'.get? b=some u)
    (ho:∀ b,H b=some (.own a)→H' b=some (.own a)) (ht:∀ b xs,H b=some (.tup xs)→H' b=some (.tup xs)) (hf:∀ b o u,H b=some (.frz o u)→H' b=some (.frz o u)):ObjOk P w H' h' a o:=by
  induction o with
  | lst xs=>obtain ⟨z,its,n,r,e⟩:=x;exact ⟨z,its,n,r,k _ _ (.inl rfl) e⟩
  | tup xs=>obtain ⟨z,its,r,ob,e,c⟩:=x;exact ⟨z,its,r,ob,k _ _ (.inl rfl) e,c⟩
  | dK kvs=>obtain ⟨z,y,vs,r,ob,es,ep,e,c⟩:=x;exact ⟨z,y,vs,r,ob,es,ep,k _ _ (.inl rfl) e,c⟩
  | dT kvs =>
    obtain ⟨z,y,xs,r,ob,es,ep,e,c⟩:=x
    exact ⟨z,y,xs,Paired.mapP r fun p q z=>⟨z.1,ht _ _ z.2.1,z.2.2⟩,ob,es,ep,k _ _ (.inl rfl) e,c⟩
  | set S n=>obtain ⟨ob,es,ep,t,e,c⟩:=x;exact ⟨ob,es,ep,t,k _ _ (.inl rfl) e,c⟩
  | ins C dx fs =>
    obtain ⟨d,z,ne,e,mA,⟨od,es,ep,e2,c⟩,r⟩:=x
    exact ⟨ho _ d,z,ne,k _ _ (.inl rfl) e,mA,⟨od,es,ep,k _ _ (.inr d) e2,c⟩,r⟩
  | own y=>obtain ⟨ob,e⟩:=x;exact ⟨ob,k _ _ (.inl rfl) e⟩
  | xd fs=>obtain ⟨mA,⟨od,es,ep,e,c⟩,r⟩:=x;exact ⟨mA,⟨od,es,ep,k _ _ (.inl rfl) e,c⟩,r⟩
  | rng lo hi=>obtain ⟨t,u,v,e⟩:=x;exact ⟨t,u,v,k _ _ (.inl rfl) e⟩
  | frz ob u ih=>obtain ⟨e,q⟩:=x;exact ⟨k _ _ (.inl rfl) e,ih q⟩
  | tbl ps =>
    rcases x with x | ⟨c,o,vs,y,z,q,t,t',e1,e2,e3,e4⟩
    · exact .inl (k a _ (.inl rfl) x)
    · exact .inr ⟨c,o,vs,y,z,q,t,t',e1,hf _ _ _ e2,k a _ (.inl rfl) e3,e4⟩
  | met f y =>
    have e:h.get? a=some (PySem.W.methodObj (.ref f) (.ref y)):=x
    show h'.get? a=some (PySem.W.methodObj (.ref f) (.ref y))
    exact k a _ (.inl rfl) e
  | ext φ=>obtain ⟨p,⟨o,e⟩,st⟩:=x;exact ⟨st _ _ p fun o q=>k _ _ (.inl rfl) q,⟨o,k _ _ (.inl rfl) e⟩,st⟩
theorem HOk.lt (x:HOk P w H h) (e:H a=some o):a<h.objs.size:=(x a o e).lt
theorem HOk.fresh (x:HOk P w H h) (e:h.objs.size≤a):H a=none:=by
  cases q:H a with
  | none=>rfl
  | some u=>exact absurd (Nat.lt_of_lt_of_le (x.lt q) e) (Nat.lt_irrefl _)
theorem HOk.kept (x:HOk P w H h) (k:∀ b u,h.get? b=some u→h'.get? b=some u):HOk P w H h':=fun a o e =>
  (x a o e).stay (fun b u _ q=>k b u q) (fun _ q=>q) (fun _ _ q=>q) fun _ _ _ q=>q
theorem HOk.laid (x:HOk P w H h) (k:∀ b u,h.get? b=some u→h'.get? b=some u) (hp:h.objs.size≤a) (new:ObjOk P w (upd H a o) h' a o):HOk P w (upd H a o) h':=fun b u e=>by
  have hn:=x.fresh hp
  by_cases hb:b=a
  · subst hb;rw [qai] at e;cases e;exact new
  · rw [qak hb] at e
    exact (x b u e).stay (fun c v _ q=>k c v q) (fun c q=>by rw [qak (qap q hn)];exact q) (fun c xs q=>by rw [qak (qap q hn)];exact q) fun c ob w' q=>by rw [qak (qap q hn)];exact q
end
def Rd (H:Hp) (a:Addr) (u:HO):Prop:=H a=some u∨∃ o,H a=some (.frz o u)
theorem Rd.ok {P:Program} {w:World} {H:Hp} {h:Heap} {a:Addr} {u:HO} (r:Rd H a u) (x:HOk P w H h):ObjOk P w H h a u:=by
  rcases r with r | ⟨o,r⟩
  · exact x a u r
  · obtain ⟨_,q⟩:=x a _ r
    exact q
def Mut:Option HO→Prop
  | some (.lst _)=>True
  | some (.dK _)=>True
  | some (.dT _)=>True
  | some (.set _ _)=>True
  | some (.ins _ _ _)=>True
  | some (.ext _)=>True
  | _=>False
section
variable {P : Program} {w : World} {H : Hp} {h h' : Heap} {x e : Addr} {o' : HO}
theorem HOk.write (ok:HOk P w H h) (mu:Mut (H x)) (he:e=x∨H e=some (.own x)) (k:∀ b u,b≠e→h.get? b=some u→h'.get? b=some u) (heo:∃ u,h'.get? e=some u)
    (new:ObjOk P w (upd H x o') h' x o'):HOk P w (upd H x o') h':=fun b u q=>by
  have nown:∀ c y,H c=some (.own y)→c≠x:=fun c y r z=>by subst z;rw [r] at mu;exact mu
  have ntup:∀ c xs,H c=some (.tup xs)→c≠x:=fun c xs r z=>by subst z;rw [r] at mu;exact mu
  have nfrz:∀ c ob w',H c=some (.frz ob w')→c≠x:=fun c ob w' r z=>by subst z;rw [r] at mu;exact mu
  by_cases hb:b=x
  · subst hb;rw [qai] at q;cases q;exact new
  · rw [qak hb] at q
    by_cases hbe:b=e
    · have q':H b=some (.own x):=by
        rcases he with z | z
        · exact absurd (hbe.trans z) hb
        · rw [hbe];exact z
      rw [q] at q';cases q'
      obtain ⟨v,hv⟩:=heo
      exact ⟨v,by rw [hbe];exact hv⟩
    · refine (ok b u q).stay (fun c v hc r=>k c v ?_ r) (fun c r=>by rw [qak (nown c b r)];exact r) (fun c xs r=>by rw [qak (ntup c xs r)];exact r) fun c ob w' r=>by rw [qak (nfrz c ob w' r)];exact r
      rcases hc with rfl | hc
      · exact hbe
      · rintro rfl
        rcases he with z | z
        · exact nown c b hc z
        · rw [hc] at z;cases z;exact hb rfl
end
structure Un (fs ex:List Addr) (H H':Hp) (h h':Heap):Prop where
  keep:∀ b o,h.get? b=some o→H b=none→b∉fs→b∉ex→h'.get? b=some o
  slot:∀ b o,h.get? b=some o→H b=none→b∈fs→b∉ex→∃ sl,h'.get? b=some { o with slots:=sl }
  free:∀ b o,h.get? b=some o→H b=none→b∉ex→H' b=none
  there:∀ b o,h.get? b=some o→b∉ex→∃ o',h'.get? b=some o'
  tups:∀ b xs,H b=some (.tup xs)→H' b=some (.tup xs)
  frzs:∀ b o u,H b=some (.frz o u)→H' b=some (.frz o u)
  tbls:∀ b ps,H b=some (.tbl ps)→H' b=some (.tbl ps)
section
variable {fs fs' ex ex' : List Addr} {H H1 H2 : Hp} {h h1 h2 h' : Heap} {a x e : Addr} {o : HO}
theorem Un.any (u:Un fs ex H H1 h h1) {b:Addr} {ob:Obj} (q:h.get? b=some ob) (n:H b=none) (hx:b∉ex):∃ sl,h1.get? b=some { ob with slots:=sl }:=by
  by_cases hb:b∈fs
  · exact u.slot b ob q n hb hx
  · exact ⟨ob.slots,u.keep b ob q n hb hx⟩
theorem Un.kept (k:∀ b u,h.get? b=some u→h'.get? b=some u):Un fs ex H H h h' :=
  ⟨fun b ob q _ _ _=>k b ob q,fun b ob q _ _ _=>⟨ob.slots,k b ob q⟩,fun _ _ _ n _=>n,fun b ob q _=>⟨ob,k b ob q⟩,fun _ _ q=>q,fun _ _ _ q=>q,fun _ _ q=>q⟩
theorem Un.refl:Un fs ex H H h h:=Un.kept fun _ _ q=>q
theorem Un.laid (k:∀ b u,h.get? b=some u→h'.get? b=some u) (hp:h.objs.size≤a) (hn:H a=none):Un fs ex H (upd H a o) h h' where
  keep:=fun b u q _ _ _=>k b u q
  slot:=fun b u q _ _ _=>⟨u.slots,k b u q⟩
  free:=fun b u q n _=>by rw [qak (Nat.ne_of_lt (Nat.lt_of_lt_of_le (Heap.lt_size q) hp))];exact n
  there:=fun b u q _=>⟨u,k b u q⟩
  tups:=fun b xs q=>by rw [qak (qap q hn)];exact q
  frzs:=fun b u xs q=>by rw [qak (qap q hn)];exact q
  tbls:=fun b ps q=>by rw [qak (qap q hn)];exact q
theorem Un.write (mu:Mut (H x)) (he:e=x∨H e=some (.own x)) (k:∀ b u,b≠e→h.get? b=some u→h'.get? b=some u) (heo:∃ u,h'.get? e=some u):Un fs ex H (upd H x o) h h':=by
  have hx:∀ b,H b=none→b≠x:=fun b n z=>by subst z;rw [n] at mu;exact mu
  have hb:∀ b,H b=none→b≠e:=fun b n z=>by
    subst z
    rcases he with r | r
    · exact hx b n r
    · rw [n] at r;cases r
  have hm:∀ b u,H b=some u→¬ Mut (some u)→b≠x:=fun b u q nm z=>by subst z;rw [q] at mu;exact nm mu
  refine ⟨fun b u q n _ _=>k b u (hb b n) q,fun b u q n _ _=>⟨u.slots,k b u (hb b n) q⟩,fun b u q n _=>by rw [qak (hx b n)];exact n,fun b u q _=>?_,
    fun b xs q=>by rw [qak (hm b _ q fun z=>z)];exact q,fun b u xs q=>by rw [qak (hm b _ q fun z=>z)];exact q,fun b ps q=>by rw [qak (hm b _ q fun z=>z)];exact q⟩
  by_cases hbe:b=e
  · subst hbe;exact heo
  · exact ⟨u,k b u hbe q⟩
end
def trk (h:Heap) (H:Hp):List Addr:=(List.range h.objs.size).filter fun a=>(H a).isSome
def qkh (h:Heap) (H:Hp):Heap:=PySem.W.hideAll h (trk h H)
theorem qjh (h:Heap) (H:Hp):(qkh h H).objs.size=h.objs.size:=PySem.W.hideAll_size _ _
theorem qke {h:Heap} {H:Hp} {b:Addr} {o:Obj} (e:h.get? b=some o) (n:H b=none):(qkh h H).get? b=some o :=
  PySem.W.hideAll_get _ e fun hm=>by
    have q:(H b).isSome=true:=(List.mem_filter.mp hm).2
    rw [n] at q;simp at q
theorem qmR {h:Heap} {H:Hp} {b:Addr} {o:Obj} (e:(qkh h H).get? b=some o):h.get? b=some o∧H b=none:=by
  have e':h.get? b=some o:=PySem.W.of_hideAll (trk h H) e
  refine ⟨e',?_⟩
  cases q:H b with
  | none=>rfl
  | some x =>
    have hm:b∈trk h H:=List.mem_filter.mpr ⟨List.mem_range.mpr (Heap.lt_size e'),by simp [q]⟩
    have z:(qkh h H).get? b=none:=PySem.W.hideAll_none (trk h H) hm
    rw [z] at e;cases e
structure Mod (K:PySem.W.Frag) (mg:Str→Option Value) (base:Heap):Prop where
  kin:K.In base
  glob:base.Ns mainGlobals mg
  blt:∃ mb,base.Ns builtinsNs mb∧∀ x:Str,x≠"__name__"→mb x=bootBuiltins x
  nolimit:base.NoLimit
  bmod:∃ bm ob,mg "__builtins__"=some (.ref bm)∧bm≠builtinsNs∧base.get? bm=some ob∧ob.cls=.type "module"∧ob.dict=some builtinsNs∧ob.data=.plain
  seer:base.NoSeer
  dig:∃ mc,base.Ns cStatics mc∧mc "sys.int_max_str_digits"=none
structure Cx where
  prog:Program
  w:World
  K:PySem.W.Frag
  mg:Str→Option Value
  base:Heap
  A:Around
  N:List Str
  s₀:Shared
  H₀:Hp
  env:Env
  outer:List Env
  stack:List Env
  ex:List Addr
  fn:Str→Bool
  calm:Bool
  pn:List (Addr × Obj)
  xe:Value→Shared→Prop
def frs (l:List Env):List Addr:=l.filterMap (·.frame)
abbrev Cx.fs (X:Cx):List Addr:=frs X.outer
def Vis (sc:Scope) (x:Str):Prop:=sc.names.lookup x=some .local∨sc.names.lookup x=some .cell∨sc.names.lookup x=some .free
def Loc (sc:Scope) (x:Str):Prop:=sc.names.lookup x=some .local∨sc.names.lookup x=some .cell
def qsC (env:Env) (h:Heap) (m:Str→Option Value) (x:Str) (u:Value):Prop :=
  (env.kindOf x=some .local∧m x=some u)∨((env.kindOf x=some .cell∨env.kindOf x=some .free)∧∃ c,env.cells.lookup x=some c∧h.IsCell c (some u))
structure Cx.Ok (X:Cx):Prop where
  mod:Mod X.K X.mg X.base
  kind:X.env.scope.kind=.function
  glob:X.env.globals=mainGlobals
  blt:X.env.builtins=builtinsNs
  above:X.s₀.heap.objs.size≤X.env.locals
  inj:∀ x y c,X.env.cells.lookup x=some c→X.env.cells.lookup y=some c→x=y
  has:∀ x,(X.env.kindOf x=some .cell∨X.env.kindOf x=some .free)→∃ c,X.env.cells.lookup x=some c
  cab:∀ x c,X.fn x=true→X.env.cells.lookup x=some c→X.s₀.heap.objs.size≤c
  hd:X.calm=true→X.A.handled=none
  frames:X.A.frames=some X.stack
  stk:X.stack=X.outer∨(X.stack=X.env::X.outer∧X.env.frame=some X.env.locals)
  exf:∀ b∈X.ex,b≠X.env.locals∧∀ x c,X.env.cells.lookup x=some c→c≠b
  bs:∀ b o,X.base.get? b=some o→X.s₀.heap.get? b=some o∧X.H₀ b=none
  bsz:X.base.objs.size≤X.s₀.heap.objs.size
  noex:∀ b o,X.base.get? b=some o→b∉X.ex
  exfs:∀ b∈X.ex,b∉X.fs
  funs:X.s₀.heap.FunFrames X.base X.outer
  frf:∀ b∈X.fs,X.H₀ b=none
structure Inv (X:Cx) (pins:List (Addr × Obj)) (σ:List (Option V)) (H:Hp) (s:Shared):Prop where
  ok:X.Ok
  os:s.os=X.s₀.os
  bare:AllBare s.gens
  base:Un X.fs X.ex X.H₀ H X.s₀.heap s.heap
  loc:∃ m,s.heap.Ns X.env.locals m∧∀ (i:Nat) (x:Str) (v:V),X.N[i]?=some x→σ[i]?=some (some v)→Vis X.env.scope x→∃ u,RelV v u∧qsC X.env s.heap m x u
  cell:∀ x c,X.env.cells.lookup x=some c→∃ v,s.heap.IsCell c v
  free:H X.env.locals=none
  freeC:∀ x c,X.env.cells.lookup x=some c→H c=none
  pin:∀ p∈X.pn++pins,s.heap.get? p.1=some p.2∧H p.1=none∧p.1≠X.env.locals∧p.1∉X.fs∧∀ v,p.2.data≠.cell v
  hok:HOk X.prog X.w H s.heap
  len:σ.length=X.N.length
section
variable {X : Cx} {pins : List (Addr × Obj)} {σ : List (Option V)} {H H' : Hp} {s : Shared} {h' : Heap}
theorem Cx.Ok.nofr (ok:X.Ok) {b:Addr} {o:Obj} (e:X.base.get? b=some o):b∉X.fs:=fun hb=>by
  have:=(ok.funs.mem hb).1
  rw [e] at this;cases this
theorem Inv.bs (I:Inv X pins σ H s):∀ b o,X.base.get? b=some o→s.heap.get? b=some o∧H b=none:=fun b o e =>
  ⟨I.base.keep b o (I.ok.bs b o e).1 (I.ok.bs b o e).2 (I.ok.nofr e) (I.ok.noex b o e),I.base.free b o (I.ok.bs b o e).1 (I.ok.bs b o e).2 (I.ok.noex b o e)⟩
theorem Inv.bk (I:Inv X pins σ H s):∀ b o,X.base.get? b=some o→s.heap.get? b=some o:=fun b o e=>(I.bs b o e).1
theorem Inv.mod (I:Inv X pins σ H s):Mod X.K X.mg X.base:=I.ok.mod
theorem Inv.kIn (I:Inv X pins σ H s):X.K.In s.heap:=I.ok.mod.kin.keeps I.bk
theorem Inv.lt (I:Inv X pins σ H s):X.env.locals<s.heap.objs.size:=let ⟨_,hn,_⟩:=I.loc;hn.lt
theorem Inv.sz (I:Inv X pins σ H s):X.s₀.heap.objs.size≤s.heap.objs.size:=Nat.le_trans I.ok.above (Nat.le_of_lt I.lt)
theorem Inv.nofs (I:Inv X pins σ H s) {a:Addr} (h:s.heap.objs.size≤a):a∉X.fs:=fun hb=>by
  obtain ⟨_,o,ho,_⟩:=I.ok.funs.mem hb
  exact absurd (Nat.lt_of_lt_of_le (Heap.lt_size ho) (Nat.le_trans I.sz h)) (Nat.lt_irrefl _)
theorem Inv.cne (I:Inv X pins σ H s):∀ x c,X.env.cells.lookup x=some c→c≠X.env.locals:=fun x c e z=>by
  obtain ⟨v,o,ho,hd⟩:=I.cell x c e
  obtain ⟨m,⟨o',es,ep,ho',hd',_⟩,_⟩:=I.loc
  rw [z,ho'] at ho;cases ho;rw [hd'] at hd;cases hd
theorem Inv.funs (I:Inv X pins σ H s):s.heap.FunFrames X.base X.outer:=by
  have all:∀ (l:List Env),(∀ b∈frs l,b∈X.fs)→X.s₀.heap.FunFrames X.base l→s.heap.FunFrames X.base l:=by
    intro l
    induction l with
    | nil=>intro _ _;trivial
    | cons env r ih =>
      intro hs hl
      obtain ⟨hk,⟨L,o,hf,hn,ho,hd⟩,hr⟩:=hl
      have hL:L∈X.fs:=hs L (by unfold frs;rw [List.filterMap_cons,hf];exact List.mem_cons_self)
      obtain ⟨sl,e⟩:=I.base.slot L o ho (I.ok.frf L hL) hL fun z=>I.ok.exfs L z hL
      exact ⟨hk,⟨L,_,hf,hn,e,hd⟩,ih (fun b hb=>hs b (by unfold frs;rw [List.filterMap_cons,hf];exact List.mem_cons_of_mem _ hb)) hr⟩
  exact all X.outer (fun _ hb=>hb) I.ok.funs
theorem Inv.stack (I:Inv X pins σ H s):s.heap.FunFrames X.base X.stack:=by
  rcases I.ok.stk with e | ⟨e,hf⟩
  · rw [e];exact I.funs
  · rw [e]
    obtain ⟨m,hn,_⟩:=I.loc
    refine .cons (by rw [I.ok.kind];decide) hf hn ?_ I.funs
    exact Heap.get?_none_of_le (Nat.le_trans I.ok.bsz I.ok.above)
theorem Inv.stkSub (I:Inv X pins σ H s):∀ b∈frs X.stack,b∈X.env.locals::X.fs:=fun b hb=>by
  rcases I.ok.stk with e | ⟨e,hf⟩
  · rw [e] at hb;exact List.mem_cons_of_mem _ hb
  · rw [e] at hb
    unfold frs at hb
    rw [List.filterMap_cons,hf] at hb
    exact hb
theorem Inv.stkFree (I:Inv X pins σ H s):∀ b∈frs X.stack,H b=none:=fun b hb=>by
  rcases List.mem_cons.mp (I.stkSub b hb) with e | hb
  · rw [e];exact I.free
  · obtain ⟨_,o,ho,_⟩:=I.ok.funs.mem hb
    exact I.base.free b o ho (I.ok.frf b hb) fun z=>I.ok.exfs b z hb
theorem Inv.step {g':Array GenState} {t':Nat} {d':Drawn} {ch:List Addr} (I:Inv X pins σ H s)
    (hch:∀ b∈ch,(b∈X.ex∨X.s₀.heap.objs.size≤b)∧b≠X.env.locals∧(∀ x c,X.env.cells.lookup x=some c→c≠b)∧∀ p∈X.pn++pins,p.1≠b)
    (keep:∀ b o,b≠X.env.locals→b∉X.fs→b∉ch→s.heap.get? b=some o→H b=none→h'.get? b=some o)
    (slot:∀ b o,b≠X.env.locals→b∈X.fs→b∉ch→s.heap.get? b=some o→H b=none→∃ sl,h'.get? b=some { o with slots:=sl }) (free:∀ b o,b∉ch→s.heap.get? b=some o→H b=none→H' b=none)
    (there:∀ b o,b∉ch→s.heap.get? b=some o→∃ o',h'.get? b=some o')
    (tups:∀ b xs,H b=some (.tup xs)→H' b=some (.tup xs)) (frzs:∀ b o u,H b=some (.frz o u)→H' b=some (.frz o u)) (tbls:∀ b ps,H b=some (.tbl ps)→H' b=some (.tbl ps))
    (ns:∀ m,s.heap.Ns X.env.locals m→h'.Ns X.env.locals m) (hok:HOk X.prog X.w H' h') (hg:AllBare g') :
    Inv X pins σ H' { s with heap:=h',gens:=g',drawn:=d',toks:=t' }:=by
  have neL:∀ b o,X.s₀.heap.get? b=some o→b≠X.env.locals:=fun b o e=>Nat.ne_of_lt (Nat.lt_of_lt_of_le (Heap.lt_size e) I.ok.above)
  have neC:∀ b o,X.s₀.heap.get? b=some o→b∉X.ex→b∉ch:=fun b o e hx hb=>by
    rcases (hch b hb).1 with z | z
    · exact hx z
    · exact absurd (Nat.lt_of_lt_of_le (Heap.lt_size e) z) (Nat.lt_irrefl _)
  have cellK:∀ x c,X.env.cells.lookup x=some c→∀ v,s.heap.IsCell c v→h'.IsCell c v:=fun x c e v hq0=>by
    obtain ⟨o,ho,hd⟩:=hq0
    have nch:c∉ch:=fun z=>(hch c z).2.2.1 x c e rfl
    by_cases hc:c∈X.fs
    · obtain ⟨sl,q⟩:=slot c o (I.cne x c e) hc nch ho (I.freeC x c e)
      exact ⟨_,q,hd⟩
    · exact ⟨o,keep c o (I.cne x c e) hc nch ho (I.freeC x c e),hd⟩
  refine ⟨I.ok,I.os,hg,⟨fun b o e n hb hx=>?_,fun b o e n hb hx=>?_,fun b o e n hx=>?_,fun b o e hx=>?_,fun b xs e=>tups b xs (I.base.tups b xs e),fun b o xs e=>frzs b o xs (I.base.frzs b o xs e),fun b ps e=>tbls b ps (I.base.tbls b ps e)⟩,?_,fun x c e=>?_,?_,fun x c e=>?_,fun p hp=>?_,hok,I.len⟩
  · exact keep b o (neL b o e) hb (neC b o e hx) (I.base.keep b o e n hb hx) (I.base.free b o e n hx)
  · obtain ⟨sl,e1⟩:=I.base.slot b o e n hb hx
    obtain ⟨sl',e2⟩:=slot b _ (neL b o e) hb (neC b o e hx) e1 (I.base.free b o e n hx)
    exact ⟨sl',e2⟩
  · obtain ⟨o',e1⟩:=I.base.there b o e hx
    exact free b o' (neC b o e hx) e1 (I.base.free b o e n hx)
  · obtain ⟨o',e1⟩:=I.base.there b o e hx
    exact there b o' (neC b o e hx) e1
  · obtain ⟨m,hn,hl⟩:=I.loc
    refine ⟨m,ns m hn,fun i x v e1 e2 e3=>?_⟩
    obtain ⟨u,r,l⟩:=hl i x v e1 e2 e3
    refine ⟨u,r,?_⟩
    rcases l with l | ⟨k,c,e,z⟩
    · exact .inl l
    · exact .inr ⟨k,c,e,cellK x c e _ z⟩
  · obtain ⟨v,z⟩:=I.cell x c e
    exact ⟨v,cellK x c e v z⟩
  · obtain ⟨m,⟨o,_,_,ho,_⟩,_⟩:=I.loc
    exact free _ o (fun z=>(hch _ z).2.1 rfl) ho I.free
  · obtain ⟨v,o,ho,hd⟩:=I.cell x c e
    exact free c o (fun z=>(hch c z).2.2.1 x c e rfl) ho (I.freeC x c e)
  · obtain ⟨e,n,ne,nf,d⟩:=I.pin p hp
    have nch:p.1∉ch:=fun z=>(hch p.1 z).2.2.2 p hp rfl
    exact ⟨keep p.1 p.2 ne nf nch e n,free p.1 p.2 nch e n,ne,nf,d⟩
theorem Inv.un {t':Nat} (I:Inv X pins σ H s) (u:Un X.fs [] H H' s.heap h') (hok:HOk X.prog X.w H' h'):Inv X pins σ H' { s with heap:=h',toks:=t' }:=by
  obtain ⟨m,⟨o,es,ep,ho,r⟩,_⟩:=id I.loc
  obtain ⟨sl,hL⟩:=u.any ho I.free (by simp)
  exact I.step (g':=s.gens) (d':=s.drawn) (ch:=[]) (fun _ z=>nomatch z) (fun b o _ hb _ e n=>u.keep b o e n hb (by simp)) (fun b o _ hb _ e n=>u.slot b o e n hb (by simp)) (fun b o _ e n=>u.free b o e n (by simp)) (fun b o _ e=>u.there b o e (by simp)) u.tups u.frzs u.tbls (fun m' hm=>by
    obtain ⟨o',es',ep',ho',r'⟩:=hm
    rw [ho] at ho';cases ho'
    exact ⟨_,es',ep',hL,r'⟩) hok I.bare
theorem Inv.call {g':Array GenState} {t':Nat} {d':Drawn} {ch:List Addr} (I:Inv X pins σ H s) (u:Un (frs X.stack) ch H H' s.heap h') (hok:HOk X.prog X.w H' h') (hg:AllBare g')
    (hch:∀ b∈ch,(b∈X.ex∨X.s₀.heap.objs.size≤b)∧b≠X.env.locals∧(∀ x c,X.env.cells.lookup x=some c→c≠b)∧∀ p∈X.pn++pins,p.1≠b) :
    Inv X pins σ H' { s with heap:=h',gens:=g',drawn:=d',toks:=t' }:=by
  obtain ⟨m,⟨o,es,ep,ho,r⟩,_⟩:=id I.loc
  obtain ⟨sl,hL⟩:=u.any ho I.free fun z=>(hch _ z).2.1 rfl
  exact I.step (ch:=ch) hch (fun b o hL hb hc e n=>u.keep b o e n (fun z=>(List.mem_cons.mp (I.stkSub b z)).elim hL hb) hc) (fun b o _ _ hc e n=>u.any e n hc) (fun b o hc e n=>u.free b o e n hc) (fun b o hc e=>u.there b o e hc) u.tups u.frzs u.tbls (fun m' hm=>by
    obtain ⟨o',es',ep',ho',r'⟩:=hm
    rw [ho] at ho';cases ho'
    exact ⟨_,es',ep',hL,r'⟩) hok hg
theorem Inv.turned {t':Nat} {it:Addr} (I:Inv X pins σ H s) (k:∀ b o,b≠it→s.heap.get? b=some o→h'.get? b=some o) (hn:H it=none) (hL:it≠X.env.locals)
    (h1:it∈X.ex∨X.s₀.heap.objs.size≤it) (h2:∀ x c,X.env.cells.lookup x=some c→c≠it) (h3:∀ p∈X.pn++pins,p.1≠it):Inv X pins σ H { s with heap:=h',toks:=t' }:=by
  have nit:∀ b u,H b=some u→b≠it:=fun b u e z=>by rw [z,hn] at e;cases e
  refine I.step (g':=s.gens) (d':=s.drawn) (ch:=[it]) (fun b hb=>?_) (fun b o _ _ hc e _=>k b o (fun z=>hc (by simp [z])) e) (fun b o _ _ hc e _=>⟨o.slots,k b o (fun z=>hc (by simp [z])) e⟩) (fun _ _ _ _ n=>n)
    (fun b o hc e=>⟨o,k b o (fun z=>hc (by simp [z])) e⟩) (fun _ _ e=>e) (fun _ _ _ e=>e) (fun b ps e=>e) (fun m hm=>?_) (fun b u e=>?_) I.bare
  · have e:b=it:=by simpa using hb
    subst e
    exact ⟨h1,hL,h2,h3⟩
  · obtain ⟨o,es,ep,ho,r⟩:=hm
    exact ⟨o,es,ep,k _ o (Ne.symm hL) ho,r⟩
  · refine (I.hok b u e).stay (fun c v hc q=>k c v ?_ q) (fun _ q=>q) (fun _ _ q=>q) fun _ _ _ q=>q
    rcases hc with z | z
    · rw [z];exact nit b u e
    · exact nit c _ z
theorem Inv.tok (I:Inv X pins σ H s) (t:Nat):Inv X pins σ H { s with toks:=t }:=I.un (h':=s.heap) (t':=t) Un.refl I.hok
theorem Inv.kept {t':Nat} (I:Inv X pins σ H s) (k:∀ b u,s.heap.get? b=some u→h'.get? b=some u):Inv X pins σ H { s with heap:=h',toks:=t' }:=I.un (Un.kept k) (I.hok.kept k)
theorem Inv.laid {a:Addr} {o:HO} {t':Nat} (I:Inv X pins σ H s) (k:∀ b u,s.heap.get? b=some u→h'.get? b=some u) (hp:s.heap.objs.size≤a) (new:ObjOk X.prog X.w (upd H a o) h' a o) :
    Inv X pins σ (upd H a o) { s with heap:=h',toks:=t' }:=I.un (Un.laid k hp (I.hok.fresh hp)) (I.hok.laid k hp new)
theorem Inv.write {x e:Addr} {o:HO} {t':Nat} (I:Inv X pins σ H s) (mu:Mut (H x)) (he:e=x∨H e=some (.own x)) (k:∀ b u,b≠e→s.heap.get? b=some u→h'.get? b=some u) (heo:∃ u,h'.get? e=some u)
    (new:ObjOk X.prog X.w (upd H x o) h' x o):Inv X pins σ (upd H x o) { s with heap:=h',toks:=t' }:=I.un (Un.write mu he k heo) (I.hok.write mu he k heo new)
theorem Inv.pins_of {pins':List (Addr × Obj)} (I:Inv X pins σ H s) (h:∀ p∈pins',s.heap.get? p.1=some p.2∧H p.1=none∧p.1≠X.env.locals∧p.1∉X.fs∧∀ v,p.2.data≠.cell v):Inv X pins' σ H s :=
  ⟨I.ok,I.os,I.bare,I.base,I.loc,I.cell,I.free,I.freeC,fun p hp=>(List.mem_append.mp hp).elim (fun z=>I.pin p (List.mem_append_left _ z)) (h p),I.hok,I.len⟩
theorem qhd {N:List Str} (hN:N.Nodup) {i j:Nat} {x:Str} (a:N[i]?=some x) (b:N[j]?=some x):i=j:=by
  obtain ⟨h1,e1⟩:=List.getElem?_eq_some_iff.mp a
  obtain ⟨h2,e2⟩:=List.getElem?_eq_some_iff.mp b
  exact (List.getElem_inj hN).mp (e1.trans e2.symm)
theorem qgh {M:Model} {A:Around} {E:Value→Shared→Prop} {i:Nat} {x:Str} {v:V} {u:Value} {Q:Unit→Shared→Prop} (I:Inv X pins σ H s) (hN:X.N.Nodup) (hi:X.N[i]?=some x) (hx:Loc X.env.scope x) (r:RelV v u)
    (h:∀ s',Inv X pins (σ.set i (some v)) H s'→(∃ a,Heap.SameBut a s.heap s'.heap∧(a=X.env.locals∨X.env.cells.lookup x=some a))→Q () s') (hf:X.fn x=true∨X.env.scope.names.lookup x=some .local:=by first | exact .inl rfl | exact .inr rfl | assumption):wpAny M A (storeName X.env x u) Q E s:=by
  obtain ⟨m,hn,hl⟩:=id I.loc
  have hcls:(X.env.scope.kind == .class || (X.env.scope.kind == .module && X.env.locals != X.env.globals))=false:=by rw [I.ok.kind];rfl
  have hiσ:i<σ.length:=by rw [I.len];exact (List.getElem?_eq_some_iff.mp hi).1
  have cne:=I.cne
  have tracked:∀ {a:Addr} {h':Heap},(∃ o,s.heap.get? a=some o∧H a=none)→Heap.SameBut a s.heap h'→HOk X.prog X.w H h':=fun {a h'} ha hs b ob e=>by
    obtain ⟨_,_,hfree⟩:=ha
    refine (I.hok b ob e).stay (fun c w' hc q=>(hs.2 c ?_).trans q) (fun _ q=>q) (fun _ _ q=>q) fun _ _ _ q=>q
    rintro rfl
    rcases hc with rfl | hc
    · rw [hfree] at e;cases e
    · rw [hfree] at hc;cases hc
  rcases hx with hk | hk
  · refine wpAny_storeName_local hk hn (fun h' hn' hs=>?_) hcls
    obtain ⟨oL,_,_,hoL,_⟩:=id hn
    refine h _ ⟨I.ok,I.os,I.bare,⟨fun b o e n hb hx=>?_,fun b o e n hb hx=>?_,I.base.free,fun b o e hx=>?_,I.base.tups,I.base.frzs,I.base.tbls⟩,⟨_,hn',fun j y v' e1 e2 e3=>?_⟩,fun y c e=>?_,I.free,I.freeC,fun p hp=>?_,tracked ⟨oL,hoL,I.free⟩ hs,by simpa using I.len⟩ ⟨_,hs,.inl rfl⟩
    · exact (hs.2 b (Nat.ne_of_lt (Nat.lt_of_lt_of_le (Heap.lt_size e) I.ok.above))).trans (I.base.keep b o e n hb hx)
    · obtain ⟨sl,e1⟩:=I.base.slot b o e n hb hx
      exact ⟨sl,(hs.2 b (Nat.ne_of_lt (Nat.lt_of_lt_of_le (Heap.lt_size e) I.ok.above))).trans e1⟩
    · obtain ⟨o',e1⟩:=I.base.there b o e hx
      exact ⟨o',(hs.2 b (Nat.ne_of_lt (Nat.lt_of_lt_of_le (Heap.lt_size e) I.ok.above))).trans e1⟩
    · by_cases hj:j=i
      · subst hj
        rw [hi] at e1;cases e1
        rw [List.getElem?_set_self hiσ] at e2
        cases e2
        exact ⟨u,r,.inl ⟨hk,by simp⟩⟩
      · rw [List.getElem?_set_ne (Ne.symm hj)] at e2
        obtain ⟨u',r',q⟩:=hl j y v' e1 e2 e3
        refine ⟨u',r',?_⟩
        rcases q with ⟨k,e⟩ | ⟨k,c,e,z⟩
        · refine .inl ⟨k,?_⟩
          have:y≠x:=fun e=>hj (qhd hN e1 (e ▸ hi))
          simp [this,e]
        · exact .inr ⟨k,c,e,z.sameBut hs (cne y c e)⟩
    · obtain ⟨w',z⟩:=I.cell y c e
      exact ⟨w',z.sameBut hs (cne y c e)⟩
    · obtain ⟨e,n,ne,nf,d⟩:=I.pin p hp
      exact ⟨(hs.2 p.1 ne).trans e,n,ne,nf,d⟩
  · have hfn:X.fn x=true:=by
      rcases hf with z | z
      · exact z
      · rw [z] at hk;cases hk
    obtain ⟨c,hc⟩:=I.ok.has x (.inl hk)
    obtain ⟨w',z⟩:=I.cell x c hc
    refine wpAny_storeName_cell I.ok.kind hk hc z (fun h' hc' hs=>?_)
    obtain ⟨oc,hoc,hocd⟩:=id z
    refine h { s with heap:=h' } ⟨I.ok,I.os,I.bare,⟨fun b o e n hb hx=>?_,fun b o e n hb hx=>?_,I.base.free,fun b o e hx=>?_,I.base.tups,I.base.frzs,I.base.tbls⟩,⟨m,hn.sameBut hs (Ne.symm (cne x c hc)),fun j y v' e1 e2 e3=>?_⟩,fun y c' e=>?_,I.free,I.freeC,fun p hp=>?_,tracked ⟨oc,hoc,I.freeC x c hc⟩ hs,by simpa using I.len⟩ ⟨c,hs,.inr hc⟩
    · exact (hs.2 b (Nat.ne_of_lt (Nat.lt_of_lt_of_le (Heap.lt_size e) (I.ok.cab x c hfn hc)))).trans (I.base.keep b o e n hb hx)
    · obtain ⟨sl,e1⟩:=I.base.slot b o e n hb hx
      exact ⟨sl,(hs.2 b (Nat.ne_of_lt (Nat.lt_of_lt_of_le (Heap.lt_size e) (I.ok.cab x c hfn hc)))).trans e1⟩
    · obtain ⟨o',e1⟩:=I.base.there b o e hx
      exact ⟨o',(hs.2 b (Nat.ne_of_lt (Nat.lt_of_lt_of_le (Heap.lt_size e) (I.ok.cab x c hfn hc)))).trans e1⟩
    · by_cases hj:j=i
      · subst hj
        rw [hi] at e1;cases e1
        rw [List.getElem?_set_self hiσ] at e2
        cases e2
        exact ⟨u,r,.inr ⟨.inl hk,c,hc,hc'⟩⟩
      · rw [List.getElem?_set_ne (Ne.symm hj)] at e2
        obtain ⟨u',r',q⟩:=hl j y v' e1 e2 e3
        refine ⟨u',r',?_⟩
        rcases q with q | ⟨k,c',e,z'⟩
        · exact .inl q
        · refine .inr ⟨k,c',e,z'.sameBut hs ?_⟩
          rintro rfl
          exact hj (qhd hN e1 (I.ok.inj _ _ _ e hc ▸ hi))
    · by_cases hcc:c'=c
      · subst hcc;exact ⟨_,hc'⟩
      · obtain ⟨w2,z2⟩:=I.cell y c' e
        exact ⟨w2,z2.sameBut hs hcc⟩
    · obtain ⟨e,n,ne,nf,d⟩:=I.pin p hp
      refine ⟨(hs.2 p.1 ?_).trans e,n,ne,nf,d⟩
      intro q
      rw [q,hoc] at e
      have q':oc=p.2:=Option.some.inj e
      exact d w' (by rw [← q'];exact hocd)
theorem qhk {M:Model} {A:Around} {E:Value→Shared→Prop} {i:Nat} {x:Str} {v:V} {u:Value} {Q:Unit→Shared→Prop} (I:Inv X pins σ H s) (hN:X.N.Nodup) (hi:X.N[i]?=some x) (hx:Loc X.env.scope x) (r:RelV v u)
    (h:∀ s',Inv X pins (σ.set i (some v)) H s'→Q () s') (hf:X.fn x=true∨X.env.scope.names.lookup x=some .local:=by first | exact .inl rfl | exact .inr rfl | assumption):wpAny M A (storeName X.env x u) Q E s :=
  qgh I hN hi hx r (fun s' I' _=>h s' I') hf
theorem Inv.call' {s':Shared} {ch:List Addr} (I:Inv X pins σ H s) (ho:s'.os=s.os) (u:Un (frs X.stack) ch H H' s.heap s'.heap) (hok:HOk X.prog X.w H' s'.heap) (hg:AllBare s'.gens)
    (hch:∀ b∈ch,(b∈X.ex∨X.s₀.heap.objs.size≤b)∧b≠X.env.locals∧(∀ x c,X.env.cells.lookup x=some c→c≠b)∧∀ p∈X.pn++pins,p.1≠b):Inv X pins σ H' s':=by
  obtain ⟨h',g',d',t',o'⟩:=s'
  have e:o'=s.os:=ho
  subst e
  exact I.call (g':=g') (t':=t') (d':=d') u hok hg hch
end
abbrev XK:=Value→Option Addr→Hp→Prop
abbrev St:=List (Option V)
abbrev VK:=V→Hp→Prop
abbrev TE:=St→Hp→VK→Prop
abbrev TT:=St→Hp→(Bool→Hp→Prop)→Prop
abbrev TA:=St→Hp→(List V→Hp→Prop)→Prop
structure Ends where
  nx:St→Hp→Prop
  rt:VK
  bk:St→Hp→Prop:=fun _ _=>False
  ct:St→Hp→Prop:=fun _ _=>False
abbrev TS:=Ends→St→Hp→Prop
def EP (X:Cx) (pins:List (Addr × Obj)) (σ:St) (Q:VK) (u:Value) (s':Shared):Prop:=∃ v H',Inv X pins σ H' s'∧RelV v u∧Q v H'
def TP (X:Cx) (pins:List (Addr × Obj)) (σ:St) (Q:Bool→Hp→Prop) (b:Bool) (s':Shared):Prop:=∃ H',Inv X pins σ H' s'∧Q b H'
def AP (X:Cx) (pins:List (Addr × Obj)) (σ:St) (Q:List V→Hp→Prop) (us:List Value) (s':Shared):Prop:=∃ vs H',Inv X pins σ H' s'∧Vals vs us∧Q vs H'
def SP (X:Cx) (pins:List (Addr × Obj)) (D:Ends) (f:Flow) (s':Shared):Prop :=
  match f with
  | .next=>∃ σ' H',Inv X pins σ' H' s'∧D.nx σ' H'
  | .brk=>∃ σ' H',Inv X pins σ' H' s'∧D.bk σ' H'
  | .cont=>∃ σ' H',Inv X pins σ' H' s'∧D.ct σ' H'
  | .ret u=>∃ v σ' H',Inv X pins σ' H' s'∧RelV v u∧D.rt v H'
def PE (X:Cx) (e:Expr) (t:TE):Prop :=
  ∀ (pins:List (Addr × Obj)) (s:Shared) (σ:St) (H:Hp) (Q:VK),Inv X pins σ H s→t σ H Q→wpAny (model X.prog X.w) X.A (eval e X.env) (EP X pins σ Q) X.xe s
def PT (X:Cx) (e:Expr) (t:TT):Prop :=
  ∀ (pins:List (Addr × Obj)) (s:Shared) (σ:St) (H:Hp) (Q:Bool→Hp→Prop),Inv X pins σ H s→t σ H Q→wpAny (model X.prog X.w) X.A (isTrue e X.env (eval e X.env)) (TP X pins σ Q) X.xe s
def PW (X:Cx) (e:Expr) (t:TT):Prop :=
  ∀ (whole:Sem Value) (pins:List (Addr × Obj)) (s:Shared) (σ:St) (H:Hp) (Q:Bool→Hp→Prop),Inv X pins σ H s→t σ H Q→wpAny (model X.prog X.w) X.A (isTrue e X.env whole) (TP X pins σ Q) X.xe s
theorem PW.pt {X:Cx} {e:Expr} {t:TT} (h:PW X e t):PT X e t:=h _
def PA (X:Cx) (es:List Expr) (t:TA):Prop :=
  ∀ (pos:Pos) (pins:List (Addr × Obj)) (s:Shared) (σ:St) (H:Hp) (Q:List V→Hp→Prop),Inv X pins σ H s→t σ H Q→wpAny (model X.prog X.w) X.A (spliced (backTo pos (starEach es X.env))) (AP X pins σ Q) X.xe s
def PS (X:Cx) (st:Stmt) (t:TS):Prop :=
  ∀ (pins:List (Addr × Obj)) (s:Shared) (σ:St) (H:Hp) (D:Ends),Inv X pins σ H s→t D σ H→wpAny (model X.prog X.w) X.A (exec st X.env) (SP X pins D) X.xe s
def PSs (X:Cx) (st:List Stmt) (t:TS):Prop :=
  ∀ (pins:List (Addr × Obj)) (s:Shared) (σ:St) (H:Hp) (D:Ends),Inv X pins σ H s→t D σ H→wpAny (model X.prog X.w) X.A (execs st X.env) (SP X pins D) X.xe s
theorem thn {α:Type} {t:Sem α} {Q Q':α→Shared→Prop} {M:Model} {A:Around} {E:Value→Shared→Prop} {s:Shared} (h:wpAny M A t Q E s) (hQ:∀ a s,Q a s→Q' a s):wpAny M A t Q' E s:=wpAny_mono h hQ fun _ _ x=>x
section
variable {X : Cx}
def qrH (i:Nat):TE:=fun σ H Q=>∃ v,σ[i]?=some (some v)∧Q v H
def tC (v:V):TE:=fun _ H Q=>Q v H
theorem qo0 {i:Nat} {x:Str} {pos:Pos} (hN:X.N[i]?=some x) (hv:Vis X.env.scope x) (hd:(x == ("__debug__":Str))=false:=by decide) (hcd:(x == ("__classdict__":Str))=false:=by decide):PE X (.Name x pos) (qrH i):=by
  intro pins s σ H Q I h
  obtain ⟨v,e,h⟩:=h
  obtain ⟨m,hn,hl⟩:=I.loc
  obtain ⟨u,r,l⟩:=hl i x v hN e hv
  have fin:EP X pins σ Q u s:=⟨v,H,I,r,h⟩
  rcases l with ⟨hk,hm⟩ | ⟨hk,c,hc,hcell⟩
  · exact wpAny_Name (wpAny_loadName_local I.ok.kind hk hn hm fin) hd
  · rcases hk with hk | hk
    · exact wpAny_Name (wpAny_loadName_cell I.ok.kind hk hc hcell fin) hd
    · exact wpAny_Name (wpAny_loadName_free I.ok.kind hk hc hcell fin hcd) hd
theorem qo3 {i j pos}:PE X (.Constant (.int i) j pos) (tC (.int i)):=fun _ _ _ H _ I h=>wpAny_Constant_int ⟨.int i,H,I.tok _,⟨_,rfl⟩,h⟩
theorem qp6 {b j pos}:PE X (.Constant (.bool b) j pos) (tC (.bl b)):=fun _ _ _ H _ I h=>Constant_bool ⟨.bl b,H,I,rfl,h⟩
theorem qoh {j pos}:PE X (.Constant .none j pos) (tC .non):=fun _ _ _ H _ I h=>Constant_none ⟨.non,H,I,rfl,h⟩
theorem qlz {x j pos}:PE X (.Constant (.str x) j pos) (tC (.str x)):=fun _ _ _ H _ I h=>Calls.Constant_str ⟨.str x,H,I.tok _,⟨_,rfl⟩,h⟩
def Gl (X:Cx) (x:Str):Prop:=X.env.kindOf x=some .globalImplicit
theorem qgD {E:Value→Shared→Prop} {pins:List (Addr × Obj)} {s:Shared} {σ:St} {H:Hp} {x:Str} {u:Value} {pos:Pos} {Q:Value→Shared→Prop} (I:Inv X pins σ H s) (hg:Gl X x) (hm:X.mg x=some u) (h:Q u s)
    (hd:(x == ("__debug__":Str))=false:=by decide):wpAny (model X.prog X.w) X.A (eval (.Name x pos) X.env) Q E s :=
  Calls.Name_function_global I.ok.kind hg (Calls.loadGlobal_global (by rw [I.ok.glob];exact I.mod.glob.keeps I.bk) hm h) hd
theorem qeq {E:Value→Shared→Prop} {pins:List (Addr × Obj)} {s:Shared} {σ:St} {H:Hp} {x:Str} {u:Value} {pos:Pos} {Q:Value→Shared→Prop} (I:Inv X pins σ H s) (hg:Gl X x) (hm:X.mg x=none) (hv:bootBuiltins x=some u) (h:Q u s)
    (hn:x≠"__name__":=by decide) (hd:(x == ("__debug__":Str))=false:=by decide):wpAny (model X.prog X.w) X.A (eval (.Name x pos) X.env) Q E s:=by
  obtain ⟨mb,h1,h2⟩:=I.mod.blt
  exact Calls.Name_function_global I.ok.kind hg (Calls.loadGlobal_builtin (by rw [I.ok.glob];exact I.mod.glob.keeps I.bk) hm (by rw [I.ok.blt];exact h1.keeps I.bk) ((h2 x hn).trans hv) h) hd
theorem qjv {x:Str} {v:V} {u:Value} {pos:Pos} (hg:Gl X x) (hm:X.mg x=some u) (r:RelV v u) (hd:(x == ("__debug__":Str))=false:=by decide):PE X (.Name x pos) (tC v) :=
  fun _ _ _ H _ I h=>qgD I hg hm ⟨v,H,I,r,h⟩ hd
theorem qdq {x:Str} {v:V} {u:Value} {pos:Pos} (hg:Gl X x) (hm:X.mg x=none) (hv:bootBuiltins x=some u) (r:RelV v u) (hn:x≠"__name__":=by decide) (hd:(x == ("__debug__":Str))=false:=by decide):PE X (.Name x pos) (tC v) :=
  fun _ _ _ H _ I h=>qeq I hg hm hv ⟨v,H,I,r,h⟩ hn hd
variable {a b : Expr} {ta tb : TE} {pos : Pos}
def PC (X:Cx) (op:CmpOp) (a b:Expr) (t:TE):Prop :=
  ∀ (pins:List (Addr × Obj)) (s:Shared) (σ:St) (H:Hp) (Q:VK),Inv X pins σ H s→t σ H Q →
    wpAny (model X.prog X.w) X.A (eval a X.env) (fun v s₁=>wpAny (model X.prog X.w) X.A (eval b X.env) (fun u s₂=>wpAny (model X.prog X.w) X.A (compareOp op v u) (EP X pins σ Q) X.xe s₂) X.xe s₁) X.xe s
def tB (t:TE):TT:=fun σ H Q=>t σ H fun x H1=>∃ c,x=.bl c∧Q c H1
theorem qoc {op:CmpOp} {t:TE} (h:PC X op a b t) (h1:behindInMarks op b=false:=by first | exact nobehind _ (by decide) (by decide) | rfl):PT X (.Compare a [op] [b] pos) (tB t):=by
  intro pins s σ H Q I hw
  refine wpAny_isTrue_Compare1 (thn (h pins s σ H _ I hw) fun v s1 h1=>thn h1 fun u s2 h2=>thn h2 fun c s3 hq0=>?_) h1
  obtain ⟨x,H1,I1,r1,q1⟩:=hq0
  obtain ⟨d,rfl,q⟩:=q1
  cases r1
  exact wpAny_truthy_bool ⟨H1,I1,q⟩
variable {tA tB' : TT} {rest : List Expr}
def qsH (t u:TT):TT:=fun σ H Q=>t σ H fun c H1=>if c=true then u σ H1 Q else Q false H1
def tOr (t u:TT):TT:=fun σ H Q=>t σ H fun c H1=>if c=true then Q true H1 else u σ H1 Q
def qsS (t:TT):TT:=fun σ H Q=>t σ H fun c H1=>Q (!c) H1
theorem qmv (ha:PT X a tA):PW X (.BoolOp .And [a] pos) tA:=by
  intro wh pins s σ H Q I h
  refine isTrue_and (thn (ha pins s σ H Q I h) fun c s1 e=>?_)
  cases c with
  | true=>exact isTrue_and_nil e
  | false=>exact e
theorem qoq (ha:PT X a tA):PW X (.BoolOp .Or [a] pos) tA:=by
  intro wh pins s σ H Q I h
  refine isTrue_or (thn (ha pins s σ H Q I h) fun c s1 e=>?_)
  cases c with
  | false=>exact isTrue_or_nil e
  | true=>exact e
theorem qoP (ha:PT X a tA) (hb:PW X (.BoolOp .And (b::rest) pos) tB'):PW X (.BoolOp .And (a::b::rest) pos) (qsH tA tB'):=by
  intro wh pins s σ H Q I h
  refine isTrue_and (thn (ha pins s σ H _ I h) fun c s1 hq0=>?_)
  obtain ⟨H1,I1,q1⟩:=hq0
  cases c with
  | true=>exact hb wh pins s1 σ H1 Q I1 q1
  | false=>exact ⟨H1,I1,q1⟩
theorem qpS (ha:PT X a tA) (hb:PW X (.BoolOp .Or (b::rest) pos) tB'):PW X (.BoolOp .Or (a::b::rest) pos) (tOr tA tB'):=by
  intro wh pins s σ H Q I h
  refine isTrue_or (thn (ha pins s σ H _ I h) fun c s1 hq0=>?_)
  obtain ⟨H1,I1,q1⟩:=hq0
  cases c with
  | true=>exact ⟨H1,I1,q1⟩
  | false=>exact hb wh pins s1 σ H1 Q I1 q1
theorem qoE (ha:PT X a tA):PT X (.UnaryOp .Not a pos) (qsS tA):=by
  intro pins s σ H Q I h
  exact isTrue_not (ha pins s σ H (fun c H1=>Q (!c) H1) I h)
def qq4 (ta tb:TE):TE:=fun σ H Q=>ta σ H fun x H1=>∃ c,x=.bl c∧if c=true then tb σ H1 Q else Q (.bl false) H1
def qp9 (ta:TE):TE:=fun σ H Q=>ta σ H fun x H1=>∃ c,x=.bl c∧Q (.bl (!c)) H1
theorem qn7 {op} {t:TE} (h:PE X a t):PE X (.BoolOp op [a] pos) t:=fun pins s σ H Q I hw=>BoolOp_one (h pins s σ H Q I hw)
theorem qpf (ha:PE X a ta) (hb:PE X (.BoolOp .And (b::rest) pos) tb):PE X (.BoolOp .And (a::b::rest) pos) (qq4 ta tb):=by
  intro pins s σ H Q I h
  refine BoolOp_and (thn (ha pins s σ H _ I h) fun v s1 hq0=>?_)
  obtain ⟨x,H1,I1,r1,q1⟩:=hq0
  obtain ⟨c,rfl,q1⟩:=q1
  cases r1
  refine wpAny_truthy_bool ?_
  cases c with
  | true=>exact hb pins s1 σ H1 Q I1 q1
  | false=>exact ⟨.bl false,H1,I1,rfl,q1⟩
theorem qnY (ha:PE X a ta):PE X (.UnaryOp .Not a pos) (qp9 ta):=by
  intro pins s σ H Q I h
  refine UnaryOp_ (thn (ha pins s σ H _ I h) fun v s1 hq0=>?_)
  obtain ⟨x,H1,I1,r1,q1⟩:=hq0
  obtain ⟨c,rfl,q1⟩:=q1
  cases r1
  exact not_of (wpAny_truthy_bool ⟨.bl (!c),H1,I1,rfl,q1⟩)
def tIf (t:TT) (ta tb:TE):TE:=fun σ H Q=>t σ H fun c H1=>if c=true then ta σ H1 Q else tb σ H1 Q
theorem qk9 {c:Expr} (hc:PT X c tA) (ha:PE X a ta) (hb:PE X b tb):PE X (.IfExp c a b pos) (tIf tA ta tb):=by
  intro pins s σ H Q I h
  refine wpAny_IfExp (thn (hc pins s σ H _ I h) fun d s1 hq0=>?_)
  obtain ⟨H1,I1,q1⟩:=hq0
  cases d with
  | true=>exact ha pins s1 σ H1 Q I1 q1
  | false=>exact hb pins s1 σ H1 Q I1 q1
end
def SqL (K:PySem.W.Frag) (H:Hp) (a:Addr) (xs:List V):Prop :=
  Rd H a (.lst xs) ∨
    ∃ (o:Obj) (its:Array Value) (n:Nat),K.lookup a=some o∧o.cls=.type "list"∧o.dict=none∧o.data=.seq its n∧its.size≤sizeLine∧Vals xs its.toList
def SqT (K:PySem.W.Frag) (H:Hp) (a:Addr) (xs:List V):Prop :=
  Rd H a (.tup xs) ∨
    ∃ (o:Obj) (its:Array Value) (n:Nat),K.lookup a=some o∧o.cls=.type "tuple"∧o.data=.seq its n∧its.size≤sizeLine∧Vals xs its.toList
def qrR:Value→Option V
  | .none=>some .non
  | .bool b=>some (.bl b)
  | .int i _=>some (.int i)
  | .str x _=>some (.str x)
  | .bytes b _=>some (.byt b)
  | .float b _=>some (.flt b)
  | .ref a=>some (.ref a)
  | .type n=>some (.ty n)
  | _=>none
theorem RelV.abs {x:V} {u:Value} (r:RelV x u):qrR u=some x:=by
  cases x with
  | non=>cases r;rfl
  | bl _=>cases r;rfl
  | int _=>obtain ⟨t,rfl⟩:=r;rfl
  | str _=>obtain ⟨t,rfl⟩:=r;rfl
  | byt _=>obtain ⟨t,rfl⟩:=r;rfl
  | flt _=>obtain ⟨t,rfl⟩:=r;rfl
  | ref _=>cases r;rfl
  | ty _=>cases r;rfl
theorem RelV.inj {x y:V} {u:Value} (r:RelV x u) (q:RelV y u):x=y:=Option.some.inj (r.abs.symm.trans q.abs)
theorem Vals.inj:∀ {xs ys:List V} {us:List Value},Vals xs us→Vals ys us→xs=ys
  | _,_,_,.nil,.nil=>rfl
  | _,_,_,.cons r t,.cons r' t'=>by rw [r.inj r',Vals.inj t t']
section
variable {X : Cx} {pins : List (Addr × Obj)} {σ : St} {H : Hp} {s : Shared} {a : Addr} {xs ys : List V}
theorem SqL.of {K:PySem.W.Frag} (h:H a=some (.lst xs)):SqL K H a xs:=.inl (.inl h)
theorem SqT.of {K:PySem.W.Frag} (h:H a=some (.tup xs)):SqT K H a xs:=.inl (.inl h)
theorem Inv.list (I:Inv X pins σ H s) (h:SqL X.K H a xs):∃ its:List Value,Vals xs its∧PlainL s.heap a its.toArray∧xs.length≤sizeLine:=by
  rcases h with h | ⟨o,its,n,hk,hc,hd,hs,hz,r⟩
  · obtain ⟨z,its,n,r,e⟩:=h.ok I.hok
    exact ⟨its,r,⟨_,n,e,rfl,rfl,rfl⟩,z⟩
  · refine ⟨its.toList,r,⟨o,n,I.kIn a o hk,hc,hd,by simpa using hs⟩,?_⟩
    have e:=r.length
    simp only [Array.length_toList] at e
    omega
theorem Inv.tuple (I:Inv X pins σ H s) (h:SqT X.K H a xs):∃ its:List Value,Vals xs its∧IsTup s.heap a its.toArray∧xs.length≤sizeLine:=by
  rcases h with h | ⟨o,its,n,hk,hc,hs,hz,r⟩
  · obtain ⟨z,its,r,p⟩:=h.ok I.hok
    exact ⟨its,r,p.tup,z⟩
  · refine ⟨its.toList,r,⟨o,I.kIn a o hk,hc,n,by simpa using hs⟩,?_⟩
    have e:=r.length
    simp only [Array.length_toList] at e
    omega
theorem Inv.list_inj (I:Inv X pins σ H s) (h:SqL X.K H a xs) (h':SqL X.K H a ys):xs=ys:=by
  obtain ⟨its,r,⟨o,n,e,_,_,d⟩,_⟩:=I.list h
  obtain ⟨its',r',⟨o',n',e',_,_,d'⟩,_⟩:=I.list h'
  rw [e] at e';cases e'
  rw [d] at d'
  injection d' with d1 _
  have:its=its':=by simpa using congrArg Array.toList d1
  subst this
  exact r.inj r'
theorem Inv.tuple_inj (I:Inv X pins σ H s) (h:SqT X.K H a xs) (h':SqT X.K H a ys):xs=ys:=by
  obtain ⟨its,r,⟨o,e,_,n,d⟩,_⟩:=I.tuple h
  obtain ⟨its',r',⟨o',e',_,n',d'⟩,_⟩:=I.tuple h'
  rw [e] at e';cases e'
  rw [d] at d'
  injection d' with d1 _
  have:its=its':=by simpa using congrArg Array.toList d1
  subst this
  exact r.inj r'
end
abbrev Cx.wish (X:Cx) (E:Value→Shared→Prop):Cx:={ X with xe:=E }
abbrev Cx.nox (X:Cx):Cx:=X.wish fun _ _=>False
theorem Cx.Ok.wish {X:Cx} (ok:X.Ok) (E:Value→Shared→Prop):(X.wish E).Ok :=
  ⟨ok.mod,ok.kind,ok.glob,ok.blt,ok.above,ok.inj,ok.has,ok.cab,ok.hd,ok.frames,ok.stk,ok.exf,ok.bs,ok.bsz,ok.noex,ok.exfs,ok.funs,ok.frf⟩
theorem Cx.Ok.unwish {X:Cx} {E:Value→Shared→Prop} (ok:(X.wish E).Ok):X.Ok :=
  ⟨ok.mod,ok.kind,ok.glob,ok.blt,ok.above,ok.inj,ok.has,ok.cab,ok.hd,ok.frames,ok.stk,ok.exf,ok.bs,ok.bsz,ok.noex,ok.exfs,ok.funs,ok.frf⟩
section
variable {X : Cx} {pins : List (Addr × Obj)} {σ : St} {H : Hp} {s : Shared} {E : Value → Shared → Prop}
theorem Inv.wish (I:Inv X pins σ H s) (E:Value→Shared→Prop):Inv (X.wish E) pins σ H s:=⟨I.ok.wish E,I.os,I.bare,I.base,I.loc,I.cell,I.free,I.freeC,I.pin,I.hok,I.len⟩
theorem Inv.unwish (I:Inv (X.wish E) pins σ H s):Inv X pins σ H s:=⟨I.ok.unwish,I.os,I.bare,I.base,I.loc,I.cell,I.free,I.freeC,I.pin,I.hok,I.len⟩
theorem SP.unwish {D:Ends} {f:Flow} {s':Shared} (h:SP (X.wish E) pins D f s'):SP X pins D f s':=by
  cases f with
  | next=>obtain ⟨σ',H',I,q⟩:=h;exact ⟨σ',H',I.unwish,q⟩
  | brk=>obtain ⟨σ',H',I,q⟩:=h;exact ⟨σ',H',I.unwish,q⟩
  | cont=>obtain ⟨σ',H',I,q⟩:=h;exact ⟨σ',H',I.unwish,q⟩
  | ret u=>obtain ⟨v,σ',H',I,r,q⟩:=h;exact ⟨v,σ',H',I.unwish,r,q⟩
theorem PSs.nox {st:List Stmt} {t:TS} (h:PSs X.nox st t):PSs X st t:=fun pins s σ H D I hw =>
  wpAny_mono (h pins s σ H D (I.wish _) hw) (fun _ _ q=>q.unwish) fun _ _ z=>False.elim z
end
section
variable {X : Cx} {st : Stmt} {rest : List Stmt} {t u : TS} {e : Expr} {te : TE} {pos : Pos}
def qqH:TS:=fun D σ H=>D.nx σ H
def qsi (t u:TS):TS:=fun D σ H=>t { D with nx:=u D } σ H
theorem pss_nil:PSs X [] qqH:=fun _ _ σ H _ I h=>wpAny_execs_nil ⟨σ,H,I,h⟩
theorem qdU (h1:PS X st t) (h2:PSs X rest u):PSs X (st::rest) (qsi t u):=by
  intro pins s σ H D I h
  refine wpAny_execs_cons (thn (h1 pins s σ H { D with nx:=u D } I h) fun f s1 q=>?_)
  cases f with
  | next =>
    obtain ⟨σ',H',I',q⟩:=q
    exact h2 pins s1 σ' H' D I' q
  | ret v=>exact q
  | brk=>exact q
  | cont=>exact q
theorem qiQ (h1:PS X st t):PSs X [st] t:=by
  intro pins s σ H D I h
  refine wpAny_execs_cons (thn (h1 pins s σ H D I h) fun f s1 q=>?_)
  cases f with
  | next=>exact wpAny_execs_nil q
  | ret v=>exact q
  | brk=>exact q
  | cont=>exact q
theorem Inv.quiet {pins:List (Addr × Obj)} {σ:St} {H:Hp} {s:Shared} (I:Inv X pins σ H s):interactive X.env=false:=by simp [interactive,I.ok.kind]
def qq2 (te:TE):TS:=fun D σ H=>te σ H fun _ H1=>D.nx σ H1
theorem qfA (he:PE X e te) (hs:swapsWith e none pos.line X.env=pure false:=by rfl):PS X (.Expr e pos) (qq2 te):=by
  intro pins s σ H D I h
  exact wpAny_Expr_any (thn (he pins s σ H _ I h) fun v s1 hq0=>by obtain ⟨x,H1,I1,r1,q1⟩:=hq0;exact ⟨σ,H1,I1,q1⟩) I.quiet hs
def qss (te:TE):TS:=fun D σ H=>te σ H D.rt
theorem qlC (he:PE X e te):PS X (.Return (some e) pos) (qss te):=by
  intro pins s σ H D I h
  exact wpAny_Return_some (thn (he pins s σ H _ I h) fun v s1 hq0=>by obtain ⟨x,H1,I1,r1,q1⟩:=hq0;exact ⟨x,σ,H1,I1,r1,q1⟩)
def qsf (c:TT) (t u:TS):TS:=fun D σ H=>c σ H fun b H1=>if b=true then t D σ H1 else u D σ H1
theorem qpx {c:Expr} {a b:List Stmt} {tc:TT} (hc:PT X c tc) (ha:PSs X a t) (hb:PSs X b u):PS X (.If c a b pos) (qsf tc t u):=by
  intro pins s σ H D I h
  refine wpAny_If (thn (hc pins s σ H _ I h) fun d s1 hq0=>?_)
  obtain ⟨H1,I1,q1⟩:=hq0
  cases d with
  | true=>exact ha pins s1 σ H1 D I1 q1
  | false=>exact hb pins s1 σ H1 D I1 q1
def qpA:TS:=fun _ _ _=>False
theorem ps_never:PS X st qpA:=fun _ _ _ _ _ _ h=>h.elim
end
abbrev TG:=V→St→Hp→(St→Hp→Prop)→Prop
abbrev TGs:=List V→St→Hp→(St→Hp→Prop)→Prop
def PG (X:Cx) (target:Expr) (t:TG):Prop :=
  ∀ (pins:List (Addr × Obj)) (s:Shared) (σ:St) (H:Hp) (v:V) (u:Value) (Q:St→Hp→Prop),Inv X pins σ H s→RelV v u→t v σ H Q →
    wpAny (model X.prog X.w) X.A (assign target X.env u) (fun _ s'=>∃ σ' H',Inv X pins σ' H' s'∧Q σ' H') X.xe s
def PGs (X:Cx) (ts:List Expr) (t:TGs):Prop :=
  ∀ (pins:List (Addr × Obj)) (s:Shared) (σ:St) (H:Hp) (vs:List V) (us:List Value) (Q:St→Hp→Prop),Inv X pins σ H s→Vals vs us→t vs σ H Q →
    wpAny (model X.prog X.w) X.A (assignInOrder ((assignEach ts X.env).map (·.2)) us) (fun _ s'=>∃ σ' H',Inv X pins σ' H' s'∧Q σ' H') X.xe s
abbrev qpd:=V→V→V→Hp→(Hp→Prop)→Prop
def qp7 (X:Cx) (t:qpd):Prop :=
  ∀ (pins:List (Addr × Obj)) (s:Shared) (σ:St) (H:Hp) (o i v:V) (ov iv u:Value) (Q:Hp→Prop),Inv X pins σ H s→RelV o ov→RelV i iv→RelV v u→t o i v H Q →
    wpAny (model X.prog X.w) X.A (setItem ov iv u) (fun _ s'=>∃ H',Inv X pins σ H' s'∧Q H') X.xe s
abbrev TIp:=V→V→Hp→VK→Prop
def PIp (X:Cx) (op:Operator) (t:TIp):Prop :=
  ∀ (pins:List (Addr × Obj)) (s:Shared) (σ:St) (H:Hp) (x y:V) (v u:Value) (Q:VK),Inv X pins σ H s→RelV x v→RelV y u→t x y H Q →
    wpAny (model X.prog X.w) X.A (inplaceOp op v u) (EP X pins σ Q) X.xe s
section
variable {X : Cx} {pos : Pos}
def qic (i:Nat):TG:=fun v σ H Q=>Q (σ.set i (some v)) H
theorem qfr {i:Nat} {x:Str} (hN:X.N.Nodup) (hi:X.N[i]?=some x) (hx:Loc X.env.scope x) (hf:X.fn x=true∨X.env.scope.names.lookup x=some .local:=by first | exact .inl rfl | exact .inr rfl | assumption):PG X (.Name x pos) (qic i):=by
  intro pins s σ H v u Q I r h
  exact wpAny_assign_Name (qhk I hN hi hx r (fun s' I'=>⟨_,H,I',h⟩) hf)
def qrP:TGs:=fun vs σ H Q=>vs=[]∧Q σ H
def qp3 (t:TG) (u:TGs):TGs:=fun vs σ H Q=>∃ v r,vs=v::r∧t v σ H fun σ' H'=>u r σ' H' Q
theorem pgs_nil:PGs X [] qrP:=by
  intro pins s σ H vs us Q I r h
  obtain ⟨e,h⟩:=h
  subst e
  cases r
  exact assignInOrder_nil ⟨σ,H,I,h⟩
theorem qcB {e:Expr} {es:List Expr} {t:TG} {u:TGs} (h1:PG X e t) (h2:PGs X es u)
    (hs:(assignEach (e::es) X.env).map (·.2)=assign e X.env::(assignEach es X.env).map (·.2):=by rfl):PGs X (e::es) (qp3 t u):=by
  intro pins s σ H vs us Q I r h
  obtain ⟨v,vr,e1,h⟩:=h
  subst e1
  cases r with
  | cons r rr =>
    rw [hs]
    refine assignInOrder_cons (thn (h1 pins s σ H _ _ _ I r h) fun _ s1 hq0=>?_)
    obtain ⟨σ1,H1,I1,q1⟩:=hq0
    exact h2 pins s1 σ1 H1 _ _ Q I1 rr q1
def qpN (K:PySem.W.Frag) (n:Nat) (t:TGs):TG:=fun v σ H Q=>∃ a xs,v=.ref a∧SqT K H a xs∧xs.length=n∧t xs σ H Q
theorem qly {es:List Expr} {k:Nat} {t:TGs} {n:Nat} (hc:X.calm=true) (h:PGs X es t)
    (hn:(assignEach es X.env).length=n:=by rfl) (hst:(assignEach es X.env).findIdx? (·.1)=none:=by rfl):PG X (.Tuple es k pos) (qpN X.K n t):=by
  intro pins s σ H v u Q I r hw
  obtain ⟨a,xs,e1,hq,hl,hw⟩:=hw
  subst e1
  cases r
  obtain ⟨its,rv,ht,hz⟩:=I.tuple hq
  refine assign_Tuple_tuple (I.ok.hd hc) ht (by simp [hn,← hl,rv.length]) hst fun h' hx=>?_
  have I1:Inv X pins σ H { s with heap:=h' }:=I.kept (t':=s.toks) fun b o e=>hx b o (Nat.ne_of_lt (Heap.lt_size e)) e
  exact h pins _ σ H xs _ Q I1 (by simpa using rv) hw
def qr2 (to ti:TE) (t:qpd):TG:=fun v σ H Q=>to σ H fun o H1=>ti σ H1 fun i H2=>t o i v H2 fun H3=>Q σ H3
theorem qhy {o i:Expr} {to ti:TE} {t:qpd} (ho:PE X o to) (hi:PE X i ti) (hs:qp7 X t)
    (ha:∀ v,assign (.Subscript o i pos) X.env v=(do
      let ov ← holding [v] (eval o X.env)
      let iv ← holding [v,ov] (eval i X.env)
      standAt pos
      holding [v,ov,iv] (setItem ov iv v)
      release [v,ov,iv] []):=by intro _;rfl):PG X (.Subscript o i pos) (qr2 to ti t):=by
  intro pins s σ H v u Q I r h
  rw [ha]
  refine wpAny_bind (wpAny_holding (thn (ho pins s σ H _ I h) fun ov s1 hq0=>?_))
  obtain ⟨x,H1,I1,r1,q1⟩:=hq0
  refine wpAny_bind (wpAny_holding (thn (hi pins s1 σ H1 _ I1 q1) fun iv s2 hq1=>?_))
  obtain ⟨y,H2,I2,r2,q2⟩:=hq1
  refine wpAny_bind (wpAny_standAt (wpAny_bind (wpAny_holding (thn (hs pins s2 σ H2 x y v ov iv u _ I2 r1 r2 r q2) fun _ s3 hq2=>?_))))
  obtain ⟨H3,I3,q3⟩:=hq2
  exact wpAny_release ⟨σ,H3,I3,q3⟩
def qnS (te:TE) (g:TG):TS:=fun D σ H=>te σ H fun x H1=>g x σ H1 D.nx
theorem qgg {tg e:Expr} {te:TE} {g:TG} (he:PE X e te) (hg:PG X tg g) (hs:swapsWithSole [tg] e pos.line X.env=pure false:=by rfl) (hw:swappedStores [tg] e X.env=pure none:=by rfl)
    (h1:(assignEach [tg] X.env).map (·.2)=[assign tg X.env]:=by rfl):PS X (.Assign [tg] e pos) (qnS te g):=by
  intro pins s σ H D I h
  refine wpAny_Assign_stores (thn (he pins s σ H _ I h) fun v s1 hq0=>?_) hs hw
  obtain ⟨x,H1,I1,r1,q1⟩:=hq0
  rw [h1]
  exact thn (hg pins s1 σ H1 x v _ I1 r1 q1) fun _ s2 q=>q
theorem qhz {i:Nat} {x:Str} {e:Expr} {te:TE} {pos':Pos} (hN:X.N.Nodup) (hi:X.N[i]?=some x) (hx:Loc X.env.scope x) (he:PE X e te) (hs:swapsWith e (some (.Name x pos')) pos.line X.env=pure false:=by rfl) (hf:X.fn x=true∨X.env.scope.names.lookup x=some .local:=by first | exact .inl rfl | exact .inr rfl | assumption) :
    PS X (.Assign [.Name x pos'] e pos) (qnS te (qic i)):=by
  intro pins s σ H D I h
  refine wpAny_Assign_Name (thn (he pins s σ H _ I h) fun v s1 hq0=>?_) hs
  obtain ⟨y,H1,I1,r1,q1⟩:=hq0
  exact qhk I1 hN hi hx r1 (fun s2 I2=>⟨_,H1,I2,q1⟩) hf
def qqk (to ti te:TE) (tget:V→V→Hp→VK→Prop) (tip:TIp) (tset:qpd):TS:=fun D σ H=>to σ H fun o H1=>ti σ H1 fun i H2=>tget o i H2 fun x H3=>te σ H3 fun y H4=>tip x y H4 fun z H5=>tset o i z H5 fun H6=>D.nx σ H6
def qqn (X:Cx) (t:V→V→Hp→VK→Prop):Prop :=
  ∀ (pins:List (Addr × Obj)) (s:Shared) (σ:St) (H:Hp) (o i:V) (ov iv:Value) (Q:VK),Inv X pins σ H s→RelV o ov→RelV i iv→t o i H Q →
    wpAny (model X.prog X.w) X.A (getItem ov iv) (EP X pins σ Q) X.xe s
theorem qmX {o i e:Expr} {to ti te:TE} {tget:V→V→Hp→VK→Prop} {tip:TIp} {tset:qpd} {op:Operator} {tpos:Pos} (ho:PE X o to) (hi:PE X i ti) (hg:qqn X tget) (he:PE X e te) (hp:PIp X op tip) (hs:qp7 X tset)
    (ha:∀ ov iv new,augStore i ov iv new=(do holding [new,ov,iv] (setItem ov iv new);release [new,ov,iv] [];pure .next):=by intros;rfl):PS X (.AugAssign (.Subscript o i tpos) op e pos) (qqk to ti te tget tip tset):=by
  intro pins s σ H D I h
  refine wpAny_AugAssign_SubscriptAny (thn (ho pins s σ H _ I h) fun ov s1 hq0=>?_) ha
  obtain ⟨x1,H1,I1,r1,q1⟩:=hq0
  refine thn (hi pins s1 σ H1 _ I1 q1) fun iv s2 hq1=>?_
  obtain ⟨x2,H2,I2,r2,q2⟩:=hq1
  refine thn (hg pins s2 σ H2 x1 x2 ov iv _ I2 r1 r2 q2) fun old s3 hq2=>?_
  obtain ⟨x3,H3,I3,r3,q3⟩:=hq2
  refine thn (he pins s3 σ H3 _ I3 q3) fun v s4 hq3=>?_
  obtain ⟨x4,H4,I4,r4,q4⟩:=hq3
  refine thn (hp pins s4 σ H4 x3 x4 old v _ I4 r3 r4 q4) fun new s5 hq4=>?_
  obtain ⟨x5,H5,I5,r5,q5⟩:=hq4
  exact thn (hs pins s5 σ H5 x1 x2 x5 ov iv new _ I5 r1 r2 r5 q5) fun _ s6 hq5=>by obtain ⟨H6,I6,q6⟩:=hq5;exact ⟨σ,H6,I6,q6⟩
def ipI (f:Int→Int→Int):TIp:=fun x y H Q=>∃ i j,x=.int i∧y=.int j∧Q (.int (f i j)) H
theorem qnN:PIp X .Add (ipI fun i j=>i+j):=by
  intro pins s σ H x y v u Q I r1 r2 h
  obtain ⟨i,j,e1,e2,q⟩:=h
  subst e1;subst e2
  obtain ⟨t,rfl⟩:=r1
  obtain ⟨t',rfl⟩:=r2
  exact iadd_int ⟨.int _,H,I.tok _,⟨_,rfl⟩,q⟩
end
section
variable {X : Cx} {pos : Pos}
end
structure It where
  go:Nat→Hp→Prop
  yld:Nat→Hp→V→Hp→Prop
  stop:Nat→Hp→Prop
def qfK (X:Cx) (pins:List (Addr × Obj)) (H:Hp) (b:Addr):Prop :=
  H b=none∧b≠X.env.locals∧b∉X.fs∧(b∈X.ex∨X.s₀.heap.objs.size≤b)∧(∀ x c,X.env.cells.lookup x=some c→c≠b)∧∀ p∈X.pn++pins,p.1≠b
theorem Inv.fpOk {X:Cx} {pins:List (Addr × Obj)} {σ:St} {H H':Hp} {s:Shared} {b:Addr} (I:Inv X pins σ H s) (hb:s.heap.objs.size≤b) (hn:H' b=none):qfK X pins H' b:=by
  refine ⟨hn,Nat.ne_of_gt (Nat.lt_of_lt_of_le I.lt hb),I.nofs hb,.inr (Nat.le_trans I.sz hb),fun x c e z=>?_,fun p hp z=>?_⟩
  · obtain ⟨v,q⟩:=I.cell x c e
    exact absurd (Nat.lt_of_lt_of_le q.lt (by rw [z];exact hb)) (Nat.lt_irrefl _)
  · exact absurd (Nat.lt_of_lt_of_le (Heap.lt_size (I.pin p hp).1) (by rw [z];exact hb)) (Nat.lt_irrefl _)
structure Turn (P:Program) (w:World) (K:PySem.W.Frag) (tg:Expr) (J:It) (fp:List Addr) (it:Addr) (tn:Nat→Heap→Prop):Prop where
  mem:it∈fp
  obj:∀ i h,tn i h→∀ b∈fp,∃ o,h.get? b=some o∧∀ v,o.data≠.cell v
  keep:∀ i h h',tn i h→(∀ b∈fp,∀ o,h.get? b=some o→h'.get? b=some o)→tn i h'
  item:∀ (X:Cx),X.prog=P→X.w=w→X.K=K→X.calm=true→∀ (i:Nat) (pins:List (Addr × Obj)) (s:Shared) (σ:St) (H:Hp) (E:Value→Shared→Prop),Inv X pins σ H s→(∀ b∈fp,qfK X pins H b)→tn i s.heap→J.go i H →
    wpAny (model P w) X.A (pyNext (.ref it)) (fun r s1=>∃ u,r=some u ∧
      wpAny (model P w) X.A (letOwnedTupleGo tg (.ref it) u) (fun _ s2=>∃ x H',Inv X pins σ H' s2∧RelV x u∧J.yld i H x H'∧tn (i+1) s2.heap∧∀ b∈fp,H' b=none) E s1) E s
  done:∀ (X:Cx),X.prog=P→X.w=w→X.K=K→X.calm=true→∀ (i:Nat) (pins:List (Addr × Obj)) (s:Shared) (σ:St) (H:Hp) (E:Value→Shared→Prop),Inv X pins σ H s→(∀ b∈fp,qfK X pins H b)→tn i s.heap→J.stop i H →
    wpAny (model P w) X.A (pyNext (.ref it)) (fun r s1=>r=none∧Inv X pins σ H s1) E s
  self:∀ (A:Around) (i:Nat) (s:Shared) (Q:Value→Shared→Prop) (E:Value→Shared→Prop),tn i s.heap→Q (.ref it) s→wpAny (model P w) A (pyIter (.ref it)) Q E s
abbrev TI:=St→Hp→(It→Hp→Prop)→Prop
def PIE (X:Cx) (pins:List (Addr × Obj)) (σ:St) (tg:Expr) (R:It→Hp→Prop) (itv:Value) (s2:Shared):Prop :=
  ∃ (it:Addr) (fp:List Addr) (tn:Nat→Heap→Prop) (J:It) (H':Hp),itv=.ref it∧Inv X pins σ H' s2∧Turn X.prog X.w X.K tg J fp it tn∧tn 0 s2.heap∧(∀ b∈fp,qfK X pins H' b)∧R J H'
def PI (X:Cx) (tg iter:Expr) (wi:TI):Prop :=
  ∀ (pins:List (Addr × Obj)) (s:Shared) (σ:St) (H:Hp) (R:It→Hp→Prop),Inv X pins σ H s→wi σ H R →
    wpAny (model X.prog X.w) X.A (eval iter X.env) (fun v s1=>wpAny (model X.prog X.w) X.A (pyIter v) (PIE X pins σ tg R) X.xe s1) X.xe s
theorem qju {M:Model} {A:Around} {E:Value→Shared→Prop} {s:Shared} {tg:Expr} {it:Addr} {u:Value} {o:Obj} {n:String} {vs:Array Value} {Q:Unit→Shared→Prop} (ho:s.heap.get? it=some o) (hc:o.cls=.type n) (hd:o.data=.fields vs)
    (hn:["enumerate","zip","dict_itemiterator","dict_reverseitemiterator","odict_iterator","itertools.zip_longest","itertools.pairwise"].contains n=false) (hQ:Q () s):wpAny M A (letOwnedTupleGo tg (.ref it) u) Q E s:=by
  unfold letOwnedTupleGo
  cases tg <;> first
    | exact wpAny_pure hQ
    | (cases u <;> first
        | exact wpAny_pure hQ
        | (refine wpAny_bind (wpAny_load ho ?_)
           rw [hc,hd]
           show wpAny M A (if (["enumerate","zip","dict_itemiterator","dict_reverseitemiterator","odict_iterator","itertools.zip_longest","itertools.pairwise"].contains n && vs[0]? == some (rawInt _))=true then _ else _) Q E s
           rw [if_neg (by intro h;rw [hn,Bool.false_and] at h;cases h)]
           exact wpAny_pure hQ))
def Itl (K:PySem.W.Frag) (a:Addr):It :=
  ⟨fun i H=>∃ xs x,SqL K H a xs∧xs[i]?=some x,fun i H x H'=>H'=H∧∀ xs,SqL K H a xs→xs[i]?=some x,fun i H=>∃ xs,SqL K H a xs∧xs.length≤i⟩
def Itt (K:PySem.W.Frag) (a:Addr):It :=
  ⟨fun i H=>∃ xs x,SqT K H a xs∧xs[i]?=some x,fun i H x H'=>H'=H∧∀ xs,SqT K H a xs→xs[i]?=some x,fun i H=>∃ xs,SqT K H a xs∧xs.length≤i⟩
def Itr (lo:Int) (n:Nat):It:=⟨fun i _=>i<n,fun i H x H'=>H'=H∧x=.int (lo+i),fun i _=>n≤i⟩
theorem qjb {P:Program} {w:World} {K:PySem.W.Frag} {tg:Expr} (a it:Addr):Turn P w K tg (Itl K a) [it] it (fun i h=>h.IsListIter it a i) where
  mem:=by simp
  obj:=fun i h st b hb=>by
    have e:b=it:=by simpa using hb
    subst e
    obtain ⟨o,e,c,d⟩:=st
    exact ⟨o,e,fun v z=>by rw [d] at z;cases z⟩
  keep:=fun i h h' st k=>st.at fun o e=>k it (by simp) o e
  item:=by
    intro X hP hw hK hc i pins s σ H E I hf st hg
    subst hP hw hK
    obtain ⟨xs,x,hq,hx⟩:=hg
    obtain ⟨its,rv,p,hz⟩:=I.list hq
    obtain ⟨u,hu,ru⟩:=rv.get hx
    obtain ⟨f0,f1,f2,f3,f4,f5⟩:=hf it (by simp)
    refine wpAny_pyNext_list_item st p.isList (x:=u) (by simpa using hu) fun h' st' sb=>?_
    have I1:Inv X pins σ H { s with heap:=h' }:=I.turned (t':=s.toks) (fun b o hb e=>(sb.2 b hb).trans e) f0 f1 f3 f4 f5
    obtain ⟨o,e,c,d⟩:=id st'
    exact ⟨u,rfl,qju (s:={ s with heap:=h' }) e c d (by decide) ⟨x,H,I1,ru,⟨rfl,fun ys hy=>by rw [I.list_inj hy hq];exact hx⟩,st',fun b hb=>(hf b hb).1⟩⟩
  done:=by
    intro X hP hw hK hc i pins s σ H E I hf st hg
    subst hP hw hK
    obtain ⟨xs,hq,hx⟩:=hg
    obtain ⟨its,rv,p,hz⟩:=I.list hq
    obtain ⟨f0,f1,f2,f3,f4,f5⟩:=hf it (by simp)
    have hl:=rv.length
    exact wpAny_pyNext_list_end (I.ok.hd hc) st p.isList (by simp;omega) fun h' eb=>⟨rfl,I.turned (t':=s.toks) (fun b o hb e=>eb b o hb e) f0 f1 f3 f4 f5⟩
  self:=fun _ _ _ _ _ st h=>wpAny_pyIter_listiter st h
theorem qh7 {P:Program} {w:World} {K:PySem.W.Frag} {tg:Expr} (a it:Addr):Turn P w K tg (Itt K a) [it] it (fun i h=>h.IsTupleIter it a i) where
  mem:=by simp
  obj:=fun i h st b hb=>by
    have e:b=it:=by simpa using hb
    subst e
    obtain ⟨o,e,c,d⟩:=st
    exact ⟨o,e,fun v z=>by rw [d] at z;cases z⟩
  keep:=fun i h h' st k=>st.at fun o e=>k it (by simp) o e
  item:=by
    intro X hP hw hK hc i pins s σ H E I hf st hg
    subst hP hw hK
    obtain ⟨xs,x,hq,hx⟩:=hg
    obtain ⟨its,rv,p,hz⟩:=I.tuple hq
    obtain ⟨u,hu,ru⟩:=rv.get hx
    obtain ⟨f0,f1,f2,f3,f4,f5⟩:=hf it (by simp)
    refine wpAny_pyNext_tuple_item st (show s.heap.IsTuple a its.toArray from p) (x:=u) (by simpa using hu) fun h' st' sb=>?_
    have I1:Inv X pins σ H { s with heap:=h' }:=I.turned (t':=s.toks) (fun b o hb e=>(sb.2 b hb).trans e) f0 f1 f3 f4 f5
    obtain ⟨o,e,c,d⟩:=id st'
    exact ⟨u,rfl,qju (s:={ s with heap:=h' }) e c d (by decide) ⟨x,H,I1,ru,⟨rfl,fun ys hy=>by rw [I.tuple_inj hy hq];exact hx⟩,st',fun b hb=>(hf b hb).1⟩⟩
  done:=by
    intro X hP hw hK hc i pins s σ H E I hf st hg
    subst hP hw hK
    obtain ⟨xs,hq,hx⟩:=hg
    obtain ⟨its,rv,p,hz⟩:=I.tuple hq
    obtain ⟨f0,f1,f2,f3,f4,f5⟩:=hf it (by simp)
    have hl:=rv.length
    exact wpAny_pyNext_tuple_end (I.ok.hd hc) st (show s.heap.IsTuple a its.toArray from p) (by simp;omega) fun h' eb=>⟨rfl,I.turned (t':=s.toks) (fun b o hb e=>eb b o hb e) f0 f1 f3 f4 f5⟩
  self:=fun _ _ _ _ _ st h=>wpAny_pyIter_tupleiter st h
theorem qie {P:Program} {w:World} {K:PySem.W.Frag} {tg:Expr} (it:Addr) (lo:Int) (n:Nat):Turn P w K tg (Itr lo n) [it] it (fun i h=>IsRangeIter h it (lo+(i:Nat)*1) ((n:Int) - (i:Nat)) 1) where
  mem:=by simp
  obj:=fun i h st b hb=>by
    have e:b=it:=by simpa using hb
    subst e
    exact ⟨_,st,fun v z=>by
      have z':Data.fields _=Data.cell v:=z
      cases z'⟩
  keep:=fun i h h' st k=>k it (by simp) _ st
  item:=by
    intro X hP hw hK hc i pins s σ H E I hf st hg
    subst hP hw hK
    obtain ⟨f0,f1,f2,f3,f4,f5⟩:=hf it (by simp)
    have W:=Walks.range (prog:=X.prog) (w:=X.w) (I.ok.hd hc) it lo 1 n
    refine W.item i s _ _ hg st fun v h' tk hv st' kk=>?_
    obtain ⟨t,rfl⟩:=hv
    have I1:Inv X pins σ H { s with heap:=h',toks:=tk }:=I.turned (fun b o hb e=>kk b o (by simpa using hb) e) f0 f1 f3 f4 f5
    refine ⟨_,rfl,qju (s:={ s with heap:=h',toks:=tk }) (n:="range_iterator") st' rfl rfl (by decide) ⟨.int (lo+i),H,I1,⟨t,?_⟩,⟨rfl,rfl⟩,st',fun b hb=>(hf b hb).1⟩⟩
    rw [Int.mul_one]
  done:=by
    intro X hP hw hK hc i pins s σ H E I hf st hg
    subst hP hw hK
    obtain ⟨f0,f1,f2,f3,f4,f5⟩:=hf it (by simp)
    exact wpAny_pyNext_range_end (I.ok.hd hc) st (by have:n≤i:=hg;omega) fun h' eb=>⟨rfl,I.turned (t':=s.toks) (fun b o hb e=>eb b o hb e) f0 f1 f3 f4 f5⟩
  self:=fun _ _ _ _ _ st h=>wpAny_pyIter_rangeiter st h
section
variable {X : Cx} {tg : Expr}
theorem qkK {pins:List (Addr × Obj)} {σ:St} {H:Hp} {s:Shared} {R:It→Hp→Prop} {E:Value→Shared→Prop} {lo hi:Int} {t u v:Tok} {tk:Nat} (I:Inv X pins σ H s) (h1:-(2 ^ 62)≤lo) (h2:lo<2 ^ 62) (h3:-(2 ^ 62)≤hi) (h4:hi<2 ^ 62)
    (q:R (Itr lo (hi - lo).toNat) H):wpAny (model X.prog X.w) X.A (pyIter (.ref s.heap.objs.size)) (PIE X pins σ tg R) E { s with heap:=s.heap.push { cls:=.type "range",data:=.fields #[.int lo t,.int hi u,.int 1 v] },toks:=tk }:=by
  refine wpAny_pyIter_range (IsRange.new ..) (small_one h1 h2 h3 h4) ?_
  have I1:Inv X pins σ H { s with heap:=s.heap.push { cls:=.type "range",data:=.fields #[.int lo t,.int hi u,.int 1 v] },toks:=tk }:=I.kept fun b o e=>Heap.get?_push_of_some _ e
  refine ⟨(s.heap.push { cls:=.type "range",data:=.fields #[.int lo t,.int hi u,.int 1 v] }).objs.size,[(s.heap.push { cls:=.type "range",data:=.fields #[.int lo t,.int hi u,.int 1 v] }).objs.size],_,_,H,rfl,
    I1.kept (t':=tk) fun b o e=>Heap.get?_push_of_some _ e,qie _ lo (hi - lo).toNat,?_,fun b hb=>?_,q⟩
  · have e1:lo+((0:Nat):Int)*1=lo:=by simp
    have e2:(((hi - lo).toNat:Nat):Int) - ((0:Nat):Int)=Builtin.Range.rangeSize lo hi 1:=by rw [rangeSize_one];split <;> omega
    show IsRangeIter _ _ (lo+((0:Nat):Int)*1) ((((hi - lo).toNat:Nat):Int) - ((0:Nat):Int)) 1
    rw [e1,e2]
    exact Heap.get?_push_size _ rfl
  · have e:b=(s.heap.push { cls:=.type "range",data:=.fields #[.int lo t,.int hi u,.int 1 v] }).objs.size:=by simpa using hb
    subst e
    exact I1.fpOk (Nat.le_refl _) (I1.hok.fresh (Nat.le_refl _))
def qqB (ta:TA):TI:=fun σ H R=>ta σ H fun vs H1=>∃ j:Int,vs=[.int j]∧-(2 ^ 62)≤j∧j<2 ^ 62∧R (Itr 0 j.toNat) H1
theorem qgm {a:Expr} {ta:TA} {p pos:Pos} (hg:Gl X "range") (hm:X.mg "range"=none) (ha:PA X [a] ta) (hs:starEach [a] X.env=[(false,eval a X.env)]:=by rfl):PI X tg (.Call (.Name "range" p) [a] [] pos) (qqB ta):=by
  intro pins s σ H R I h
  refine Call_ (qeq I hg hm boot_range (PyProof.Rows.callWith_type1 (thn (ha pos pins s σ H _ I h) fun us s1 hq0=>?_) hs rfl))
  obtain ⟨vs,H1,I1,r1,q1⟩:=hq0
  obtain ⟨j,e,q1,q2,q⟩:=q1
  subst e
  cases r1 with
  | cons r rr =>
    cases rr
    obtain ⟨t,rfl⟩:=r
    exact call_range_1 (qkK I1 (by omega) (by omega) q1 q2 (by simpa using q))
def qse (wi:TI) (g:TG) (tb:TS):TS:=fun D σ H=>wi σ H fun J H1=>∃ W:Nat→Nat→St→Hp→Prop,(∃ m,W 0 m σ H1)∧∀ i m σ H,W i m σ H →
  (J.stop i H∧D.nx σ H)∨(J.go i H∧∃ N:St→Hp→Prop,(∀ σ' H',N σ' H'→∃ m',m'<m∧W (i+1) m' σ' H')∧∀ x H',J.yld i H x H'→g x σ H' fun σ2 H2=>tb { D with nx:=N,ct:=N,bk:=D.nx } σ2 H2)
def qf7 (fp:List Addr) (h:Heap):List (Addr × Obj):=fp.filterMap fun b=>(h.get? b).map fun o=>(b,o)
theorem qcF {fp:List Addr} {h:Heap} {b:Addr} {o:Obj} (hb:b∈fp) (e:h.get? b=some o):(b,o)∈qf7 fp h:=List.mem_filterMap.mpr ⟨b,hb,by rw [e];rfl⟩
theorem qjl {fp:List Addr} {h:Heap} {p:Addr × Obj} (hp:p∈qf7 fp h):p.1∈fp∧h.get? p.1=some p.2:=by
  obtain ⟨b,hb,e⟩:=List.mem_filterMap.mp hp
  cases q:h.get? b with
  | none=>rw [q] at e;cases e
  | some o =>
    rw [q] at e
    have e':(b,o)=p:=Option.some.inj e
    subst e'
    exact ⟨hb,q⟩
theorem Inv.pinned {pins:List (Addr × Obj)} {σ:St} {H:Hp} {s:Shared} {fp:List Addr} (I:Inv X pins σ H s) (hf:∀ b∈fp,qfK X pins H b) (ho:∀ b∈fp,∃ o,s.heap.get? b=some o∧∀ v,o.data≠.cell v):Inv X (pins++qf7 fp s.heap) σ H s :=
  I.pins_of fun p hp=>(List.mem_append.mp hp).elim (fun z=>I.pin p (List.mem_append_right _ z)) fun z=>by
    obtain ⟨hb,e⟩:=qjl z
    obtain ⟨f0,f1,f2,_⟩:=hf p.1 hb
    obtain ⟨o,e',d⟩:=ho p.1 hb
    rw [e] at e';cases e'
    exact ⟨e,f0,f1,f2,d⟩
theorem Inv.unpinned {pins pl:List (Addr × Obj)} {σ:St} {H:Hp} {s:Shared} (I:Inv X (pins++pl) σ H s):Inv X pins σ H s:=I.pins_of fun p hp=>I.pin p (List.mem_append_right _ (List.mem_append_left _ hp))
theorem qlI {iter:Expr} {body:List Stmt} {wi:TI} {g:TG} {tb:TS} {pos:Pos} (hp:PassesOwn (model X.prog X.w) X.A X.env X.xe) (hc:X.calm=true) (hi:PI X tg iter wi) (hg:PG X tg g) (hb:PSs X body tb)
    (hs:∀ x,foldedSetIterable iter X.env x=pure x:=by intro _;rfl):PS X (.For tg iter body [] pos) (qse wi g tb):=by
  intro pins s σ H D I h
  refine wpAny_For (thn (hi pins s σ H _ I h) fun v s1 h1=>thn h1 fun itv s2 h2=>?_) hs
  obtain ⟨it,fp,tn,J,H2,e,I2,T,st2,f2,W,⟨m0,w0⟩,turn⟩:=h2
  subst e
  have stat:∀ {H':Hp},(∀ b∈fp,H' b=none)→∀ b∈fp,qfK X pins H' b:=fun hn b hb=>⟨hn b hb,(f2 b hb).2⟩
  refine codeAny_forLoop_any (fun n s'=>∃ i σ' H',Inv X pins σ' H' s'∧tn i s'.heap∧(∀ b∈fp,H' b=none)∧W i n σ' H') ?_ m0 ⟨0,σ,H2,I2,st2,fun b hb=>(f2 b hb).1,w0⟩
  rintro n s3 ⟨i,σ3,H3,I3,st3,fr3,w3⟩
  rcases turn i n σ3 H3 w3 with ⟨stop,qn⟩ | ⟨go,N,hN,step⟩
  · refine wpAny_passesOwn hp (thn (T.done X rfl rfl rfl hc i pins s3 σ3 H3 X.xe I3 (stat fr3) st3 stop) fun r s4 hq0=>?_)
    obtain ⟨hr,I4⟩:=hq0
    subst hr
    exact wpAny_execs_nil ⟨σ3,H3,I4,qn⟩
  · refine wpAny_passesOwn hp (thn (T.item X rfl rfl rfl hc i pins s3 σ3 H3 X.xe I3 (stat fr3) st3 go) fun r s4 hq1=>?_)
    obtain ⟨u,hr,h4⟩:=hq1
    subst hr
    refine wpAny_passesOwn hp (thn h4 fun _ s5 hq2=>?_)
    obtain ⟨x,H5,I5,r5,y5,st5,fr5⟩:=hq2
    have I5':=I5.pinned (stat fr5) (T.obj _ _ st5)
    refine wpAny_passesOwn hp (thn (hg _ s5 σ3 H5 x u _ I5' r5 (step x H5 y5)) fun _ s6 hq3=>?_)
    obtain ⟨σ6,H6,I6,q6⟩:=hq3
    refine wpAny_passesOwn hp (thn (hb _ s6 σ6 H6 _ I6 q6) fun f s7 q7=>?_)
    have again:∀ {σ7:St} {H7:Hp},Inv X (pins++qf7 fp s5.heap) σ7 H7 s7→N σ7 H7→∃ m,m<n∧∃ i σ' H',Inv X pins σ' H' s7∧tn i s7.heap∧(∀ b∈fp,H' b=none)∧W i m σ' H':=fun {σ7 H7} I7 n7=>by
      obtain ⟨m',hm,w7⟩:=hN σ7 H7 n7
      refine ⟨m',hm,i+1,σ7,H7,I7.unpinned,T.keep _ _ _ st5 fun b hb o e=>(I7.pin (b,o) (List.mem_append_right _ (List.mem_append_right _ (qcF hb e)))).1,fun b hb=>?_,w7⟩
      obtain ⟨o,e,d⟩:=T.obj _ _ st5 b hb
      exact (I7.pin (b,o) (List.mem_append_right _ (List.mem_append_right _ (qcF hb e)))).2.1
    cases f with
    | next=>obtain ⟨σ7,H7,I7,n7⟩:=q7;exact again I7 n7
    | cont=>obtain ⟨σ7,H7,I7,n7⟩:=q7;exact again I7 n7
    | brk=>obtain ⟨σ7,H7,I7,q7⟩:=q7;exact ⟨σ7,H7,I7.unpinned,q7⟩
    | ret v=>obtain ⟨x7,σ7,H7,I7,r7,q7⟩:=q7;exact ⟨x7,σ7,H7,I7.unpinned,r7,q7⟩
end
abbrev R2:=V→V→Hp→VK→Prop
def OpR (X:Cx) (f:Value→Value→Sem Value) (r:R2):Prop :=
  ∀ (pins:List (Addr × Obj)) (s:Shared) (σ:St) (H:Hp) (x y:V) (v u:Value) (Q:VK),Inv X pins σ H s→RelV x v→RelV y u→r x y H Q →
    wpAny (model X.prog X.w) X.A (f v u) (EP X pins σ Q) X.xe s
def UnR (X:Cx) (f:Value→Sem Value) (r:V→Hp→VK→Prop):Prop :=
  ∀ (pins:List (Addr × Obj)) (s:Shared) (σ:St) (H:Hp) (x:V) (v:Value) (Q:VK),Inv X pins σ H s→RelV x v→r x H Q →
    wpAny (model X.prog X.w) X.A (f v) (EP X pins σ Q) X.xe s
def qez (X:Cx) (f:Value) (r:List V→Hp→VK→Prop):Prop :=
  ∀ (pins:List (Addr × Obj)) (s:Shared) (σ:St) (H:Hp) (xs:List V) (us:List Value) (Q:VK),Inv X pins σ H s→Vals xs us→r xs H Q →
    wpAny (model X.prog X.w) X.A (call f us) (EP X pins σ Q) X.xe s
def qrX (X:Cx) (r:V→Hp→(Bool→Hp→Prop)→Prop):Prop :=
  ∀ (pins:List (Addr × Obj)) (s:Shared) (σ:St) (H:Hp) (x:V) (v:Value) (Q:Bool→Hp→Prop),Inv X pins σ H s→RelV x v→r x H Q →
    wpAny (model X.prog X.w) X.A (truthy v) (TP X pins σ Q) X.xe s
def tOp (r:R2) (ta tb:TE):TE:=fun σ H Q=>ta σ H fun x H1=>tb σ H1 fun y H2=>r x y H2 Q
def tUn (r:V→Hp→VK→Prop) (ta:TE):TE:=fun σ H Q=>ta σ H fun x H1=>r x H1 Q
def rI (C:Int→Int→Prop) (g:Int→Int→V):R2:=fun x y H Q=>∃ i j,x=.int i∧y=.int j∧C i j∧Q (g i j) H
def rI0 (g:Int→Int→V):R2:=fun x y H Q=>∃ i j,x=.int i∧y=.int j∧Q (g i j) H
def rU (g:Int→V):V→Hp→VK→Prop:=fun x H Q=>∃ i,x=.int i∧Q (g i) H
section
variable {X : Cx} {a b c : Expr} {ta tb tc : TE} {pos : Pos}
theorem qqT (ha:PE X a ta) (hb:PE X b tb) {pins:List (Addr × Obj)} {s:Shared} {σ:St} {H:Hp} {R:V→V→Hp→Prop} (I:Inv X pins σ H s)
    (h:ta σ H fun x H1=>tb σ H1 fun y H2=>R x y H2) {Q:Value→Shared→Prop} {f:Value→Value→Sem Value}
    (hf:∀ v u s2 x y H2,Inv X pins σ H2 s2→RelV x v→RelV y u→R x y H2→wpAny (model X.prog X.w) X.A (f v u) Q X.xe s2) :
    wpAny (model X.prog X.w) X.A (eval a X.env) (fun v s₁=>wpAny (model X.prog X.w) X.A (eval b X.env) (fun u s₂=>wpAny (model X.prog X.w) X.A (f v u) Q X.xe s₂) X.xe s₁) X.xe s:=by
  refine thn (ha pins s σ H _ I h) fun v s1 hq0=>?_
  obtain ⟨x,H1,I1,r1,q1⟩:=hq0
  refine thn (hb pins s1 σ H1 _ I1 q1) fun u s2 hq1=>?_
  obtain ⟨y,H2,I2,r2,q2⟩:=hq1
  exact hf v u s2 x y H2 I2 r1 r2 q2
theorem qnb {op:Operator} {r:R2} (ho:OpR X (binaryOp op) r) (ha:PE X a ta) (hb:PE X b tb):PE X (.BinOp a op b pos) (tOp r ta tb):=by
  intro pins s σ H Q I h
  exact wpAny_BinOp (qqT ha hb I h fun v u s2 x y H2 I2 rx ry q=>ho pins s2 σ H2 x y v u Q I2 rx ry q)
theorem qqC {op:UnaryOp} {r:V→Hp→VK→Prop} (ho:UnR X (unaryOp op) r) (ha:PE X a ta):PE X (.UnaryOp op a pos) (tUn r ta):=by
  intro pins s σ H Q I h
  exact UnaryOp_ (thn (ha pins s σ H _ I h) fun v s1 hq0=>by obtain ⟨x,H1,I1,r1,q1⟩:=hq0;exact ho pins s1 σ H1 x v Q I1 r1 q1)
theorem opI {f:Value→Value→Sem Value} {C:Int→Int→Prop} {g:Int→Int→Int}
    (rule:∀ (i j:Int) (t u:Tok) (s:Shared) (Q:Value→Shared→Prop) (E:Value→Shared→Prop),C i j→Q (.int (g i j) s.toks) { s with toks:=s.toks+1 }→wpAny (model X.prog X.w) X.A (f (.int i t) (.int j u)) Q E s) :
    OpR X f (rI C fun i j=>.int (g i j)):=by
  intro pins s σ H x y v u Q I rx ry h
  obtain ⟨i,j,rfl,rfl,hc,q⟩:=h
  obtain ⟨t,rfl⟩:=rx
  obtain ⟨t',rfl⟩:=ry
  exact rule i j t t' s _ _ hc ⟨.int (g i j),H,I.tok _,⟨_,rfl⟩,q⟩
theorem qrJ {f:Value→Value→Sem Value} {g:Int→Int→Int}
    (rule:∀ (i j:Int) (t u:Tok) (s:Shared) (Q:Value→Shared→Prop) (E:Value→Shared→Prop),Q (.int (g i j) s.toks) { s with toks:=s.toks+1 }→wpAny (model X.prog X.w) X.A (f (.int i t) (.int j u)) Q E s) :
    OpR X f (rI0 fun i j=>.int (g i j)):=by
  intro pins s σ H x y v u Q I rx ry h
  obtain ⟨i,j,rfl,rfl,q⟩:=h
  obtain ⟨t,rfl⟩:=rx
  obtain ⟨t',rfl⟩:=ry
  exact rule i j t t' s _ _ ⟨.int (g i j),H,I.tok _,⟨_,rfl⟩,q⟩
theorem qqo {f:Value→Value→Sem Value} {g:Int→Int→Bool}
    (rule:∀ (i j:Int) (t u:Tok) (s:Shared) (Q:Value→Shared→Prop) (E:Value→Shared→Prop),Q (.bool (g i j)) s→wpAny (model X.prog X.w) X.A (f (.int i t) (.int j u)) Q E s) :
    OpR X f (rI0 fun i j=>.bl (g i j)):=by
  intro pins s σ H x y v u Q I rx ry h
  obtain ⟨i,j,rfl,rfl,q⟩:=h
  obtain ⟨t,rfl⟩:=rx
  obtain ⟨t',rfl⟩:=ry
  exact rule i j t t' s _ _ ⟨.bl (g i j),H,I,rfl,q⟩
def qrC (i j:Int):Prop:=0≤j∧j≤1000000∧i.natAbs<2 ^ 64
theorem qoR:OpR X (binaryOp .Add) (rI0 fun i j=>.int (i+j)):=qrJ fun _ _ _ _ _ _ _ q=>add_int q
theorem qpC:OpR X (binaryOp .Sub) (rI0 fun i j=>.int (i - j)):=qrJ fun _ _ _ _ _ _ _ q=>sub_int q
theorem qps:OpR X (binaryOp .Mod) (rI (fun _ j=>0<j) fun i j=>.int (i % j)):=opI fun i j _ _ _ _ _ hc q=>by
  have h1:(0:Int)<j:=hc
  exact mod_int' (by omega) (by rw [Int.fmod_eq_emod_of_nonneg i (by omega)];exact q)
theorem qpq:OpR X (binaryOp .Pow) (rI qrC fun i j=>.int (i ^ j.toNat)):=opI fun _ _ _ _ _ _ _ hc q=>pow_int_small hc.1 hc.2.1 hc.2.2 q
theorem unI {f:Value→Sem Value} {g:Int→Int}
    (rule:∀ (i:Int) (t:Tok) (s:Shared) (Q:Value→Shared→Prop) (E:Value→Shared→Prop),Q (.int (g i) s.toks) { s with toks:=s.toks+1 }→wpAny (model X.prog X.w) X.A (f (.int i t)) Q E s) :
    UnR X f (rU fun i=>.int (g i)):=by
  intro pins s σ H x v Q I rx h
  obtain ⟨i,rfl,q⟩:=h
  obtain ⟨t,rfl⟩:=rx
  exact rule i t s _ _ ⟨.int (g i),H,I.tok _,⟨_,rfl⟩,q⟩
theorem qoa:UnR X (unaryOp .USub) (rU fun i=>.int (-i)):=unI fun _ _ _ _ _ q=>neg_int q
end
section
variable {X : Cx} {a b c : Expr} {ta tb tc : TE} {pos : Pos}
theorem qg6 {pins:List (Addr × Obj)} {σ:St} {H:Hp} {s:Shared} {Q:VK} {k k':Bool} (I:Inv X pins σ H s) (q:Q (.bl k) H) (e:k=k'):EP X pins σ Q (.bool k') s:=by
  subst e
  exact ⟨.bl k,H,I,rfl,q⟩
theorem qpP:OpR X (compareOp .Lt) (rI0 fun i j=>.bl (decide (i<j))):=qqo fun _ _ _ _ _ _ _ q=>lt_int q
theorem qpM:OpR X (compareOp .Gt) (rI0 fun i j=>.bl (decide (j<i))):=qqo fun _ _ _ _ _ _ _ q=>gt_int q
theorem qqu:OpR X (compareOp .GtE) (rI0 fun i j=>.bl (decide (j≤i))):=qqo fun _ _ _ _ _ _ _ q=>ge_int q
theorem qpc:OpR X (compareOp .Is) (fun x y H Q=>y=.non∧Q (.bl (decide (x=.non))) H):=by
  intro pins s σ H x y v u Q I rx ry h
  obtain ⟨rfl,q⟩:=h
  cases ry
  refine is_none_gen (qg6 I q ?_)
  cases x <;> first
    | (cases rx;rfl)
    | (obtain ⟨t,rfl⟩:=rx;rfl)
theorem qm3:OpR X (compareOp .IsNot) (fun x y H Q=>y=.non∧Q (.bl (!decide (x=.non))) H):=by
  intro pins s σ H x y v u Q I rx ry h
  obtain ⟨rfl,q⟩:=h
  cases ry
  refine isnot_none_gen (qg6 I q ?_)
  cases x <;> first
    | (cases rx;rfl)
    | (obtain ⟨t,rfl⟩:=rx;rfl)
theorem qas (b:Expr) {op:CmpOp} (h:op≠.In:=by decide) (h2:op≠.NotIn:=by decide):behindInMarks op b=false:=by
  have e1:(op == CmpOp.In)=false:=by cases op <;> first | rfl | exact absurd rfl h
  have e2:(op == CmpOp.NotIn)=false:=by cases op <;> first | rfl | exact absurd rfl h2
  cases b <;> simp [behindInMarks,e1,e2]
theorem qnr {op:CmpOp} {r:R2} (ho:OpR X (compareOp op) r) (ha:PE X a ta) (hb:PE X b tb) (hm:behindInMarks op b=false):PE X (.Compare a [op] [b] pos) (tOp r ta tb):=by
  intro pins s σ H Q I h
  exact wpAny_Compare1 (qqT ha hb I h fun v u s2 x y H2 I2 rx ry q=>ho pins s2 σ H2 x y v u Q I2 rx ry q) hm
def qmE (t:TE):TT:=fun σ H Q=>t σ H fun x H'=>∃ k,x=.bl k∧Q k H'
theorem qjV {op:CmpOp} {r:R2} (ho:OpR X (compareOp op) r) (ha:PE X a ta) (hb:PE X b tb) (hm:behindInMarks op b=false):PT X (.Compare a [op] [b] pos) (qmE (tOp r ta tb)):=by
  intro pins s σ H Q I h
  refine wpAny_isTrue_Compare1 (thn (ha pins s σ H _ I h) fun v s1 ⟨x,H1,I1,r1,q1⟩=>thn (hb pins s1 σ H1 _ I1 q1) fun u s2 ⟨y,H2,I2,r2,q2⟩ =>
    thn (ho pins s2 σ H2 x y v u _ I2 r1 r2 q2) fun c s3 ⟨z,H3,I3,r3,k,e,q3⟩=>?_) hm
  subst e
  cases r3
  exact wpAny_truthy_bool ⟨H3,I3,q3⟩
def qpV (K:PySem.W.Frag) (x:V) (H:Hp) (k:Bool):Prop :=
  match x with
  | .non=>k=false
  | .bl b=>k=b
  | .int i=>k=(i != 0)
  | .str y=>y.length≤sizeLine∧k=((y.length:Int) != 0)
  | .byt y=>y.size≤sizeLine∧k=((y.size:Int) != 0)
  | .ref p=>(∃ xs,SqL K H p xs∧k=!xs.isEmpty)∨(∃ xs,SqT K H p xs∧k=!xs.isEmpty)∨∃ kvs,H p=some (.dK kvs)∧k=!kvs.isEmpty
  | _=>False
theorem qif {κ:Type} {kvs:List (κ × V)} {vs:List (κ × Value)} (r:KV kvs vs):(!vs.isEmpty)=!kvs.isEmpty:=by
  cases r <;> rfl
theorem qeL {xs:List V} {its:List Value} (r:Vals xs its):(!its.toArray.isEmpty)=!xs.isEmpty:=by
  cases r <;> simp
theorem qdy:(sizeLine:Nat)<2 ^ 63:=by rw [sizeLine_eq];decide
theorem qpt:qrX X (fun x H Q=>∃ k,qpV X.K x H k∧Q k H):=by
  intro pins s σ H x v Q I rx h
  obtain ⟨k,e,q⟩:=h
  have hl:=qdy
  have hs:sizeLine=16777216:=sizeLine_eq
  cases x with
  | non =>
    cases rx
    have e':k=false:=e
    subst e'
    exact truthy_none ⟨H,I,q⟩
  | bl b =>
    cases rx
    have e':k=b:=e
    subst e'
    exact wpAny_truthy_bool ⟨H,I,q⟩
  | int i =>
    obtain ⟨t,rfl⟩:=rx
    have e':k=(i != 0):=e
    subst e'
    exact PySem.P.truthy_int ⟨H,I,q⟩
  | str y =>
    obtain ⟨t,rfl⟩:=rx
    obtain ⟨hy,e'⟩:y.length≤sizeLine∧k=((y.length:Int) != 0):=e
    subst e'
    exact PySem.P.truthy_str (by omega) ⟨H,I.tok _,q⟩
  | byt y =>
    obtain ⟨t,rfl⟩:=rx
    obtain ⟨hy,e'⟩:y.size≤sizeLine∧k=((y.size:Int) != 0):=e
    subst e'
    exact PySem.W.truthy_bytes (by omega) ⟨H,I.tok _,q⟩
  | ref p =>
    cases rx
    have e':(∃ xs,SqL X.K H p xs∧k=!xs.isEmpty)∨(∃ xs,SqT X.K H p xs∧k=!xs.isEmpty)∨∃ kvs,H p=some (.dK kvs)∧k=!kvs.isEmpty:=e
    rcases e' with ⟨xs,hx,e'⟩ | ⟨xs,hx,e'⟩ | ⟨kvs,hx,e'⟩
    · subst e'
      obtain ⟨its,r,pl,hz⟩:=I.list hx
      have hlen:=r.length
      exact wpAny_truthy_list pl.isList (by simp only [List.size_toArray];omega) ⟨H,I.tok _,by rw [qeL r];exact q⟩
    · subst e'
      obtain ⟨its,r,pl,hz⟩:=I.tuple hx
      have hlen:=r.length
      exact truthy_tuple pl (by simp only [List.size_toArray];omega) ⟨H,I.tok _,by rw [qeL r];exact q⟩
    · subst e'
      obtain ⟨hz,hS,vs,r,m⟩:kvs.length≤sizeLine∧(p == sysModules)=false∧∃ vs,KV kvs vs∧s.heap.DictOf (qbe X.prog X.w) p vs:=I.hok p _ hx
      have hlen:kvs.length=vs.length:=Paired.length r
      exact wpAny_truthy_dict hS m (by omega) ⟨H,I.tok _,by rw [qif r];exact q⟩
  | _=>exact (show False from e).elim
theorem qkJ (ha:PE X a ta) (he:∀ whole,isTrue a X.env whole=(do let v ← whole;standAt a.pos;holding [v] (truthy v))) :
    PT X a (fun σ H Q=>ta σ H fun x H'=>∃ k,qpV X.K x H' k∧Q k H'):=by
  intro pins s σ H Q I h
  exact isTrue_plain (thn (ha pins s σ H _ I h) fun v s1 hq0=>by obtain ⟨x,H1,I1,r1,q1⟩:=hq0;exact qpt pins s1 σ H1 x v Q I1 r1 q1) (he _)
theorem qia:OpR X (binaryOp .Add) (fun x y H Q=>∃ i j,x=.str i∧y=.str j∧i.length+j.length≤sizeLine∧Q (.str (i++j)) H):=by
  intro pins s σ H x y v u Q I rx ry h
  obtain ⟨i,j,rfl,rfl,hz,q⟩:=h
  obtain ⟨t,rfl⟩:=rx
  obtain ⟨t',rfl⟩:=ry
  exact add_str (fun t' tk=>⟨.str (i++j),H,I.tok _,⟨_,rfl⟩,q⟩) hz
theorem qkN {x:V} {us:List Value} (r:Vals [x] us):∃ u,us=[u]∧RelV x u:=by
  cases r with
  | cons r1 r2=>cases r2;exact ⟨_,rfl,r1⟩
end
structure ObjM (h:Heap) (x dx C:Addr) (mA:Str→Option Value):Prop where
  obj:h.get? x=some (PySem.W.instObj C dx)
  ns:h.Ns1 dx mA
  ne:dx≠x
theorem qjC {h:Heap} {dx:Addr} {mA:Str→Option Value} (n:h.Ns1 dx mA):∃ od,h.get? dx=some od∧∀ name,PySem.W.lookIn name od=some (mA name):=by
  obtain ⟨o,es,ep,ho,hd,hk,_,hm⟩:=n
  refine ⟨o,ho,fun name=>?_⟩
  have e:=hm name
  unfold nsFind findBy at e
  rw [← Array.find?_toList] at e
  unfold PySem.W.lookIn
  rw [hd]
  dsimp only
  split
  · rename_i y q
    rw [q] at e
    exact congrArg some e
  · rename_i q
    rw [q] at e
    have a:es.toList.any (·.refKey)=false:=by
      rw [List.any_eq_false]
      intro y hy
      obtain ⟨z,t,hkey⟩:=hk y (Array.mem_toList_iff.mp hy)
      simp [DictEntry.refKey,hkey]
    have a':¬ es.toList.any (·.refKey)=true:=by rw [a];exact Bool.false_ne_true
    rw [if_neg a']
    exact congrArg some e
theorem ObjM.look {h:Heap} {x dx C:Addr} {mA:Str→Option Value} (I:ObjM h x dx C mA):∃ od,PySem.W.InstAt h x (PySem.W.instObj C dx) C (some od)∧∀ name,PySem.W.lookIn name od=some (mA name) :=
  let ⟨od,ho,hl⟩:=qjC I.ns
  ⟨od,⟨I.obj,rfl,rfl,ho⟩,hl⟩
section
variable {prog : Program} {w : World} {A : Around} {E : Value → Shared → Prop} {s : Shared} {K : PySem.W.Frag} {x dx C f : Addr} {mA : Str → Option Value} {name : Str} {v : Value}
theorem qno {expr:Bool} {Q:Value→Shared→Prop} (X:K.In s.heap) (I:ObjM s.heap x dx C mA) (hg:PySem.W.plainGet K C name=true) (hh:PySem.W.hasDictIn K C=true)
    (ha:PySem.W.findIn K (.ref C) name=some none) (hv:mA name=some v) (hv':PySem.W.handedIn v=true) (h:Q v { s with toks:=s.toks+1 }) :
    wpAny (model prog w) A (getAttr (.ref x) name expr) Q E s:=by
  obtain ⟨od,J,hl⟩:=I.look
  exact PySem.W.get_value X J (PySem.W.plainGet_of hg).1 (PySem.W.findObj_own hh ha rfl (by rw [hl,hv])) hv' h
theorem qk7 {pl:Sem Bool} {Q:Value × List Value→Shared→Prop} (X:K.In s.heap) (I:ObjM s.heap x dx C mA) (hg:PySem.W.plainGet K C name=true)
    (hf:PySem.W.findIn K (.ref C) name=some (some (.ref f))) (ht:PySem.W.isFn K (.ref f)=true) (hv:mA name=none) (h:Q (.ref f,[.ref x]) s) :
    wpAny (model prog w) A (getMethod (.ref x) name pl) Q E s:=by
  obtain ⟨od,J,hl⟩:=I.look
  exact PySem.W.method_fn X J (PySem.W.plainGet_of hg).1 (PySem.W.plainGet_of hg).2 hf (beq_iff_eq.mp ht) (by show (PySem.W.lookIn name od).map (·.isSome)=some false;rw [hl,hv];rfl) h
theorem qmq {ns:List Str} {Q:Unit→Shared→Prop} (X:K.In s.heap) (I:ObjM s.heap x dx C mA)
    (hs:PySem.W.findIn K (.ref C) "__setattr__"=some (some (.builtin "object.__setattr__"))) (hp:PySem.W.plainOver K C=true) (ht:PySem.W.takerIn K C name=some none) (hh:PySem.W.hasDictIn K C=true)
    (hw:PySem.Within mA ns) (hsz:ns.length≤sizeLine)
    (h:∀ h',ObjM h' x dx C (fun y=>if y=name then some v else mA y)→Heap.SameBut dx s.heap h'→Q () { s with heap:=h',toks:=s.toks+2 }) :
    wpAny (model prog w) A (setAttr (.ref x) name v) Q E s:=by
  obtain ⟨od,J,hl⟩:=I.look
  refine PySem.W.set_plain X J hs (PySem.W.osa_open (s:={ s with toks:=s.toks+1 }) (r:=none) X J hp ht fun b=>?_)
  obtain ⟨cd,hc,hd'⟩:=PySem.W.any_some hh
  have hx:s.heap.get? x=some ⟨.ref C,some dx,.plain,#[]⟩:=I.obj
  refine wpAny_bind (wpAny_pure (wpAny_bind (wpAny_bind (wpAny_loadPart hx (wpAny_bind (PySem.W.Looks.here (s:={ s with toks:=s.toks+1 }) (PySem.W.looks_clsIn X hc) ?_))))))
  rw [hd']
  refine wpAny_pure (a:=some dx) (wpAny_bind (wpAny_pure (wpAny_bind ?_)))
  refine wpAny_nsSet1 (s:={ s with toks:=s.toks+1 }) I.ns fun h' hn2 hs2=>?_
  obtain ⟨oD,esD,epD,hoD,hdD,hcD⟩:=hn2.count (PySem.Within.cons name v hw)
  refine wpAny_bind (wpAny_lookBehind hoD (by rw [hdD];exact pastItsLine_dict (Nat.le_trans hcD (by rw [List.length_cons];omega))) ?_)
  exact wpAny_pure (h _ ⟨(hs2.2 _ (Ne.symm I.ne)).trans I.obj,hn2,I.ne⟩ hs2)
theorem qlj {R:Result→Shared→Prop} {vs:List Value} {kw:List (Str × Value)} (X:K.In s.heap) (hm:PySem.W.makesIn K C=true)
    (hi:PySem.W.findIn K (.ref C) "__init__"=some (some (.ref f))) (hf:PySem.W.typeIn K (.ref f)=some (.type "function"))
    (h:codeAny (model prog w) (A.under (.builtin "type.__call__" ⟨.ref C::vs,kw⟩)) (.call (.ref f) ⟨.ref (s.heap.objs.size+1)::vs,kw⟩) (PySem.W.InitBack (s.heap.objs.size+1) R)
      { s with heap:=(s.heap.push PySem.W.emptyDict).push (PySem.W.instObj C s.heap.objs.size) }) :
    codeAny (model prog w) A (.call (.ref C) ⟨vs,kw⟩) R s:=by
  obtain ⟨hh,g,d,t,os⟩:=s
  exact PySem.W.make_core (PySem.W.makes_of X hm) (PySem.W.looks_findIn X hi) (fun self=>PySem.W.bind_fn X self hf) (.inl rfl) h
end
def qdT (f:Str) (v:V):List (Str × V)→List (Str × V)
  | []=>[(f,v)]
  | (g,x)::r=>if g=f then (g,v)::r else (g,x)::qdT f v r
theorem qdY (f g:Str) (v:V):∀ fs:List (Str × V),(qdT f v fs).lookup g=if g=f then some v else fs.lookup g
  | []=>by
    show List.lookup g [(f,v)]=_
    by_cases h:g=f
    · have hb:(g == f)=true:=beq_iff_eq.mpr h
      simp only [List.lookup,hb,if_pos h]
    · have hb:(g == f)=false:=beq_eq_false_iff_ne.mpr h
      simp only [List.lookup,hb,if_neg h]
  | (k,x)::r=>by
    have ih:=qdY f g v r
    rw [show qdT f v ((k,x)::r)=(if k=f then (k,v)::r else (k,x)::qdT f v r) from rfl]
    by_cases hk:k=f
    · rw [if_pos hk]
      by_cases h:g=k
      · have hb:(g == k)=true:=beq_iff_eq.mpr h
        simp only [List.lookup,hb,if_pos (h.trans hk)]
      · have hb:(g == k)=false:=beq_eq_false_iff_ne.mpr h
        simp only [List.lookup,hb,if_neg (fun e:g=f=>h (e.trans hk.symm))]
    · rw [if_neg hk]
      by_cases h:g=k
      · have hb:(g == k)=true:=beq_iff_eq.mpr h
        simp only [List.lookup,hb,if_neg (fun e:g=f=>hk (h.symm.trans e))]
      · have hb:(g == k)=false:=beq_eq_false_iff_ne.mpr h
        simp only [List.lookup,hb]
        exact ih
theorem qet (f:Str) (v:V):∀ fs:List (Str × V),f∈(qdT f v fs).map (·.1)∧∀ g,g∈fs.map (·.1)→g∈(qdT f v fs).map (·.1)
  | []=>⟨by simp [qdT],fun g h=>by simp at h⟩
  | (k,x)::r=>by
    obtain ⟨i1,i2⟩:=qet f v r
    rw [show qdT f v ((k,x)::r)=(if k=f then (k,v)::r else (k,x)::qdT f v r) from rfl]
    by_cases hk:k=f
    · rw [if_pos hk]
      subst hk
      exact ⟨by simp,fun g h=>by simpa using h⟩
    · rw [if_neg hk]
      refine ⟨?_,fun g h=>?_⟩
      · rw [List.map_cons]
        exact List.mem_cons_of_mem _ i1
      · rw [List.map_cons] at h ⊢
        rcases List.mem_cons.mp h with e | e
        · exact List.mem_cons.mpr (.inl e)
        · exact List.mem_cons_of_mem _ (i2 g e)
theorem qef (f:Str) (v:V):∀ fs:List (Str × V),(qdT f v fs).length≤fs.length+1
  | []=>by simp [qdT]
  | (k,x)::r=>by
    have ih:=qef f v r
    rw [show qdT f v ((k,x)::r)=(if k=f then (k,v)::r else (k,x)::qdT f v r) from rfl]
    by_cases hk:k=f
    · rw [if_pos hk,List.length_cons,List.length_cons];omega
    · rw [if_neg hk,List.length_cons,List.length_cons];omega
theorem RelO.some_of {v:V} {o:Option Value} (r:RelO (some v) o):∃ u,o=some u∧RelV v u:=by
  cases o with
  | none=>exact (show False from r).elim
  | some u=>exact ⟨u,rfl,r⟩
theorem RelO.none_of {o:Option Value} (r:RelO none o):o=none:=by
  cases o with
  | none=>rfl
  | some u=>exact (show False from r).elim
theorem qiT {v:V} {u:Value} (r:RelV v u):PySem.W.handedIn u=true:=by
  cases v with
  | non=>cases (show u=Value.none from r);rfl
  | bl b=>cases (show u=Value.bool b from r);rfl
  | int i=>obtain ⟨t,e⟩:=(show ∃ t,u=Value.int i t from r);cases e;rfl
  | str x=>obtain ⟨t,e⟩:=(show ∃ t,u=Value.str x t from r);cases e;rfl
  | byt b=>obtain ⟨t,e⟩:=(show ∃ t,u=Value.bytes b t from r);cases e;rfl
  | flt b=>obtain ⟨t,e⟩:=(show ∃ t,u=Value.float b t from r);cases e;rfl
  | ref a=>cases (show u=Value.ref a from r);rfl
  | ty n=>cases (show u=Value.type n from r);rfl
section
variable {P : Program} {w : World} {H H' : Hp} {h h' : Heap} {a C dx : Addr} {fs fs' : List (Str × V)}
theorem qgI (hok:HOk P w H h) (e:H a=some (.ins C dx fs)):∃ mA,ObjM h a dx C mA∧(∀ f,RelO (fs.lookup f) (mA f))∧PySem.Within mA (fs.map (·.1))∧fs.length≤1000∧H dx=some (.own a):=by
  obtain ⟨d,z,ne,ob,mA,n,r,q⟩:=(show ObjOk P w H h a (.ins C dx fs) from hok a _ e)
  exact ⟨mA,⟨ob,n,ne⟩,r,q,z,d⟩
end
structure Cls (K:PySem.W.Frag) (C:Addr):Prop where
  pg:PySem.W.plainGet K C Str.empty=true
  hd:PySem.W.hasDictIn K C=true
  po:PySem.W.plainOver K C=true
  sa:PySem.W.findIn K (.ref C) "__setattr__"=some (some (.builtin "object.__setattr__"))
theorem Cls.get {K:PySem.W.Frag} {C:Addr} (c:Cls K C) (f:Str):PySem.W.plainGet K C f=true:=c.pg
def NoAttr (K:PySem.W.Frag) (C:Addr) (f:Str):Prop:=PySem.W.findIn K (.ref C) f=some none
theorem NoAttr.taker {K:PySem.W.Frag} {C:Addr} {f:Str} (n:NoAttr K C f):PySem.W.takerIn K C f=some none:=by
  unfold PySem.W.takerIn
  rw [show PySem.W.findIn K (.ref C) f=some none from n]
  rfl
structure Meth (K:PySem.W.Frag) (C:Addr) (m:Str) (f:Addr):Prop where
  at_:PySem.W.findIn K (.ref C) m=some (some (.ref f))
  fn:PySem.W.isFn K (.ref f)=true
  kp:PySem.W.keepIn K (.ref f)=true
section
variable {X : Cx} {pins : List (Addr × Obj)} {σ : St} {H : Hp} {s : Shared} {a C dx : Addr} {fs : List (Str × V)} {f : Str} {v : V} {A : Around} {E : Value → Shared → Prop}
theorem qhT {b:Bool} {Q:Value→Shared→Prop} (I:Inv X pins σ H s) (e:H a=some (.ins C dx fs)) (c:Cls X.K C) (n:NoAttr X.K C f) (l:fs.lookup f=some v)
    (h:∀ u s',Inv X pins σ H s'→RelV v u→Q u s'):wpAny (model X.prog X.w) A (getAttr (.ref a) f b) Q E s:=by
  obtain ⟨mA,O,r,_,_,_⟩:=qgI I.hok e
  obtain ⟨u,hu,ru⟩:=RelO.some_of (v:=v) (o:=mA f) (by rw [← l];exact r f)
  exact qno I.kIn O (c.get f) c.hd n hu (qiT ru) (h u _ (I.tok _) ru)
theorem qhS {m:Str} {g:Addr} {pl:Sem Bool} {Q:Value × List Value→Shared→Prop} (I:Inv X pins σ H s) (e:H a=some (.ins C dx fs)) (c:Cls X.K C) (k:Meth X.K C m g) (l:fs.lookup m=none)
    (h:Q (.ref g,[.ref a]) s):wpAny (model X.prog X.w) A (getMethod (.ref a) m pl) Q E s:=by
  obtain ⟨mA,O,r,_,_,_⟩:=qgI I.hok e
  have hn:mA m=none:=RelO.none_of (by rw [← l];exact r m)
  exact qk7 I.kIn O (c.get m) k.at_ k.fn hn h
theorem qid {y:V} {u:Value} {Q:Unit→Shared→Prop} (I:Inv X pins σ H s) (e:H a=some (.ins C dx fs)) (c:Cls X.K C) (n:NoAttr X.K C f) (hl:fs.length<1000) (ry:RelV y u)
    (h:∀ s',Inv X pins σ (upd H a (.ins C dx (qdT f y fs))) s'→Q () s'):wpAny (model X.prog X.w) A (setAttr (.ref a) f u) Q E s:=by
  obtain ⟨mA,O,r,wi,_,ho⟩:=qgI I.hok e
  have hz:(fs.map (·.1)).length≤sizeLine:=by rw [List.length_map,sizeLine_eq];omega
  refine qmq I.kIn O c.sa c.po n.taker c.hd wi hz fun h' O' sb=>h _ ?_
  have hd:∃ o,h'.get? dx=some o:=let ⟨o,_,_,e',_⟩:=O'.ns;⟨o,e'⟩
  refine I.write (x:=a) (e:=dx) (by rw [e];exact True.intro) (.inr ho) (fun b q hb z=>(sb.2 b hb).trans z) hd ?_
  refine ⟨by rw [qak O.ne];exact ho,?_,O.ne,O'.obj,_,O'.ns,fun g=>?_,fun g hg=>?_⟩
  · have:=qef f y fs;omega
  · show RelO ((qdT f y fs).lookup g) (if g=f then some u else mA g)
    rw [qdY]
    by_cases q:g=f
    · rw [if_pos q,if_pos q];exact ry
    · rw [if_neg q,if_neg q];exact r g
  · by_cases q:g=f
    · rw [q];exact (qet f y fs).1
    · refine (qet f y fs).2 g (wi g fun z=>hg ?_)
      show (if g=f then some u else mA g)=none
      rw [if_neg q];exact z
theorem Inv.made (I:Inv X pins σ H s):Inv X pins σ (upd (upd H s.heap.objs.size (.own (s.heap.objs.size+1))) (s.heap.objs.size+1) (.ins C s.heap.objs.size []))
    { s with heap:=(s.heap.push PySem.W.emptyDict).push (PySem.W.instObj C s.heap.objs.size) }:=by
  have e1:(s.heap.push PySem.W.emptyDict).get? s.heap.objs.size=some PySem.W.emptyDict:=Heap.get?_push_size s.heap rfl
  have e2:((s.heap.push PySem.W.emptyDict).push (PySem.W.instObj C s.heap.objs.size)).get? (s.heap.objs.size+1)=some (PySem.W.instObj C s.heap.objs.size):=by
    have:=Heap.get?_push_size (s.heap.push PySem.W.emptyDict) (o:=PySem.W.instObj C s.heap.objs.size) rfl
    rwa [Heap.size_push] at this
  have e3:(s.heap.push PySem.W.emptyDict).Ns s.heap.objs.size (fun _=>none):=⟨PySem.W.emptyDict,#[],_,e1,rfl,(fun e he=>absurd he (by simp)),fun _=>rfl⟩
  have I1:=I.laid (a:=s.heap.objs.size) (o:=.own (s.heap.objs.size+1)) (h':=s.heap.push PySem.W.emptyDict) (t':=s.toks) (fun b u q=>Heap.get?_push_of_some _ q) (Nat.le_refl _) ⟨_,e1⟩
  refine I1.laid (a:=s.heap.objs.size+1) (o:=.ins C s.heap.objs.size []) (t':=s.toks) (fun b u q=>Heap.get?_push_of_some _ q) (Nat.le_of_eq (Heap.size_push _ _)) ?_
  have ne:s.heap.objs.size≠s.heap.objs.size+1:=Nat.ne_of_lt (Nat.lt_succ_self _)
  refine ⟨by rw [qak ne,qai],Nat.zero_le _,ne,e2,fun _=>none,(Heap.Ns1.of_empty e3).at fun o q=>Heap.get?_push_of_some _ q,fun _=>True.intro,fun y hy=>absurd rfl hy⟩
theorem qmd {prog:Program} {w:World} {env:Env} {e:Expr} {f:Str} {pos:Pos} {s:Shared} {Q:Value→Shared→Prop} (hb:attributeBase e f env (eval e env)=eval e env)
    (h:wpAny (model prog w) A (eval e env) (fun o s₁=>wpAny (model prog w) A (getAttr o f true) Q E s₁) E s):wpAny (model prog w) A (eval (.Attribute e f pos) env) Q E s :=
  Attribute_any_ h (by rw [arm_eval_Attribute,hb])
end
def qrM (K:PySem.W.Frag) (ta:TE) (f:Str):TE:=fun σ H Q=>ta σ H fun x H1=>∃ a C dx fs v,x=.ref a∧H1 a=some (.ins C dx fs)∧Cls K C∧NoAttr K C f∧fs.lookup f=some v∧Q v H1
def qsP (K:PySem.W.Frag) (ta tv:TE) (f:Str):TS:=fun D σ H=>tv σ H fun y H1=>ta σ H1 fun x H2=>∃ a C dx fs,x=.ref a∧H2 a=some (.ins C dx fs)∧Cls K C∧NoAttr K C f∧fs.length<1000 ∧
  D.nx σ (upd H2 a (.ins C dx (qdT f y fs)))
section
variable {X : Cx} {o e value : Expr} {f : Str} {pos pos' tpos : Pos} {ta tv : TE}
theorem qnL (he:PE X e ta) (hb:attributeBase e f X.env (eval e X.env)=eval e X.env):PE X (.Attribute e f pos) (qrM X.K ta f):=by
  intro pins s σ H Q I h
  refine qmd hb (thn (he pins s σ H _ I h) fun u s1 hq0=>?_)
  obtain ⟨x,H1,I1,rx,a,C,dx,fs,v,ex,ea,c,n,l,q⟩:=hq0
  subst ex
  obtain rfl:u=Value.ref a:=rx
  exact qhT I1 ea c n l fun u' s2 I2 ru=>⟨v,H1,I2,ru,q⟩
theorem qlX (ha:PE X o ta) (hv:PE X value tv) (hs:swapsWith value (some (.Attribute o f pos')) pos.line X.env=pure false):PS X (.Assign [.Attribute o f pos'] value pos) (qsP X.K ta tv f):=by
  intro pins s σ H D I h
  refine plainObj_wpAny_Assign_Attribute (thn (hv pins s σ H _ I h) fun u s1 ⟨y,H1,I1,ry,q⟩=>thn (ha pins s1 σ H1 _ I1 q) fun ov s2 ⟨x,H2,I2,rx,a,C,dx,fs,ex,ea,c,n,l,q2⟩=>?_) hs
  subst ex
  obtain rfl:ov=Value.ref a:=rx
  exact qid I2 ea c n l ry fun s3 I3=>⟨σ,_,I3,q2⟩
end
section
variable {X : Cx} {pins : List (Addr × Obj)} {σ : St} {H : Hp} {s : Shared} {A : Around} {E : Value → Shared → Prop} {Q : Value → Shared → Prop} {c : Value} {b : Bool}
end
structure Room (k:Nat) (A:Around):Prop where
  hd:A.handled=none
  dp:A.depth+3*k+5<recursionLimit
  un:A.units+16*k+200<cLine
theorem Room.mono {j k:Nat} {A:Around} (r:Room k A) (h:j≤k):Room j A:=⟨r.hd,by have:=r.dp;omega,by have:=r.un;omega⟩
theorem Room.deeper {k:Nat} {A:Around} (r:Room (k+1) A) (env:Env):Room k (A.deeper env) :=
  ⟨r.hd,by have:=r.dp;show A.depth+1+3*k+5<_;omega,by have:=r.un;show A.units+3+16*k+200<_;omega⟩
theorem qhQ {A:Around} {C:Addr} {us:List Value} {kw:List (Str × Value)}:(A.under (.builtin "type.__call__" ⟨.ref C::us,kw⟩)).depth=A.depth+1:=by
  first | rfl | simp [Around.under,Code.weight,Code.isCreation,Code.isGuard,Code.isCaller,Code.frames,Code.isFrame,guardIds]
theorem qhM {A:Around} {C:Addr} {us:List Value} {kw:List (Str × Value)}:(A.under (.builtin "type.__call__" ⟨.ref C::us,kw⟩)).units=A.units+1:=by
  first | rfl | simp [Around.under,Code.cUnits,Code.frames,Code.isFrame]
theorem Room.make {k:Nat} {A:Around} (r:Room (k+1) A) (C:Addr) (us:List Value) (kw:List (Str × Value)):Room k (A.under (.builtin "type.__call__" ⟨.ref C::us,kw⟩)) :=
  ⟨r.hd,by have:=r.dp;rw [qhQ];omega,by have:=r.un;rw [qhM];omega⟩
theorem Room.depth {k:Nat} {A:Around} (r:Room k A):A.depth<recursionLimit:=by have:=r.dp;omega
theorem Room.units {k:Nat} {A:Around} (r:Room k A):A.units+64<cLine:=by have:=r.un;omega
def qrf:TA:=fun _ H Q=>Q [] H
def qpT (ta:TE) (tr:TA):TA:=fun σ H Q=>ta σ H fun x H1=>tr σ H1 fun xs H2=>Q (x::xs) H2
section
variable {X : Cx} {e : Expr} {es : List Expr} {te : TE} {t : TA} {pos : Pos}
theorem pa_nil:PA X [] qrf:=fun _ _ _ _ H Q I h=>Calls.spliced_nil ⟨[],H,I,.nil,h⟩
theorem qa8 (ha:PE X e te) (hr:PA X es t) (hs:starEach (e::es) X.env=(false,eval e X.env)::starEach es X.env:=by rfl):PA X (e::es) (qpT te t):=by
  intro pos pins s σ H Q I h
  rw [hs]
  show wpAny _ _ (spliced ((false,eval e X.env)::backTo pos (starEach es X.env))) _ _ s
  refine Calls.spliced_cons (thn (ha pins s σ H _ I h) fun u s1 hq0=>?_)
  obtain ⟨x,H1,I1,r1,q1⟩:=hq0
  exact thn (hr pos pins s1 σ H1 _ I1 q1) fun us s2 hq1=>by obtain ⟨xs,H2,I2,r2,q2⟩:=hq1;exact ⟨x::xs,H2,I2,.cons r1 r2,q2⟩
def qsh (t:TA):TE:=fun σ H Q=>t σ H fun xs H1=>xs.length≤sizeLine∧∀ p,H1 p=none→Q (.ref p) (upd H1 p (.tup xs))
def qr7 (t:TA):TE:=fun σ H Q=>t σ H fun xs H1=>xs.length≤sizeLine∧∀ p,H1 p=none→Q (.ref p) (upd H1 p (.lst xs))
theorem qjA {x1} (h:PA X es t):PE X (.Tuple es x1 pos) (qsh t):=by
  intro pins s σ H Q I hq
  refine wpAny_Tuple_spliced (thn (h pos pins s σ H _ I hq) fun us s1 ⟨xs,H1,I1,r,z,q⟩=>⟨by rw [← r.length];exact z,?_⟩)
  have hf:H1 s1.heap.objs.size=none:=I1.hok.fresh (Nat.le_refl _)
  refine ⟨.ref s1.heap.objs.size,upd H1 s1.heap.objs.size (.tup xs),I1.laid (t':=s1.toks) (fun b u e=>Heap.get?_push_of_some _ e) (Nat.le_refl _) ?_,rfl,q _ hf⟩
  exact ⟨z,us,r,⟨_,Heap.get?_push_size _ rfl,⟨rfl,rfl⟩,_,rfl⟩⟩
theorem qpe (h:PA X es t):PE X (.List es pos) (qr7 t):=by
  intro pins s σ H Q I hq
  refine wpAny_List_spliced (thn (h pos pins s σ H _ I hq) fun us s1 ⟨xs,H1,I1,r,z,q⟩=>⟨by rw [← r.length];exact z,?_⟩)
  have hf:H1 s1.heap.objs.size=none:=I1.hok.fresh (Nat.le_refl _)
  refine ⟨.ref s1.heap.objs.size,upd H1 s1.heap.objs.size (.lst xs),I1.laid (t':=s1.toks) (fun b u e=>Heap.get?_push_of_some _ e) (Nat.le_refl _) ?_,rfl,q _ hf⟩
  exact ⟨z,us,0,r,Heap.get?_push_size _ rfl⟩
end
abbrev Sp:=List V→Hp→VK→XK→Prop
abbrev CXT:=List Env→Hp→Shared→XK→Value→Shared→Prop
structure Env0 (P:Program) (w:World) (K:PySem.W.Frag) (mg:Str→Option Value) (base:Heap) (A:Around) (outer:List Env) (s:Shared) (H:Hp):Prop where
  frames:A.frames=some outer
  mod:Mod K mg base
  bs:∀ b o,base.get? b=some o→s.heap.get? b=some o∧H b=none
  bsz:base.objs.size≤s.heap.objs.size
  funs:s.heap.FunFrames base outer
  frf:∀ b∈frs outer,H b=none
  hok:HOk P w H s.heap
  bare:AllBare s.gens
def CE (outer:List Env) (P:Program) (w:World) (H:Hp) (s:Shared) (Q:VK) (u:Value) (s':Shared):Prop :=
  ∃ v H',s'.os=s.os∧AllBare s'.gens∧Un (frs outer) [] H H' s.heap s'.heap∧HOk P w H' s'.heap∧RelV v u∧Q v H'
def CR (CX:CXT) (outer:List Env) (P:Program) (w:World) (H:Hp) (s:Shared) (Q:VK) (E:XK) (r:Result) (s':Shared):Prop :=
  match r with
  | .ok (.ret u)=>CE outer P w H s Q u s'
  | .ok _=>False
  | .error e=>CX outer H s E e s'
structure FnOk (P:Program) (w:World) (K:PySem.W.Frag) (mg:Str→Option Value) (base:Heap) (CX:CXT) (k:Nat) (f:Addr) (fd:FuncData) (ps:List Str) (sp:Sp):Prop where
  len:∀ vs H Q E,sp vs H Q E→vs.length=ps.length
  run:∀ (A:Around) (outer:List Env) (s:Shared) (H:Hp) (args:Args) (us:List Value) (vs:List V) (Q:VK) (E:XK),Room k A→Env0 P w K mg base A outer s H→BindsTo s fd args (ps.zip us)→Vals vs us→sp vs H Q E →
    codeAny (model P w) A (.call (.ref f) args) (CR CX outer P w H s Q E) s
theorem FnOk.mono {P:Program} {w:World} {K:PySem.W.Frag} {mg:Str→Option Value} {base:Heap} {CX:CXT} {j k:Nat} {f:Addr} {fd:FuncData} {ps:List Str} {sp:Sp} (F:FnOk P w K mg base CX j f fd ps sp) (h:j≤k) :
    FnOk P w K mg base CX k f fd ps sp:=⟨F.len,fun A outer s H args us vs Q E hr=>F.run A outer s H args us vs Q E (hr.mono h)⟩
theorem FnOk.imp {P:Program} {w:World} {K:PySem.W.Frag} {mg:Str→Option Value} {base:Heap} {CX:CXT} {k:Nat} {f:Addr} {fd:FuncData} {ps:List Str} {sp sp':Sp} (F:FnOk P w K mg base CX k f fd ps sp)
    (h:∀ vs H Q E,sp' vs H Q E→sp vs H Q E):FnOk P w K mg base CX k f fd ps sp' :=
  ⟨fun vs H Q E q=>F.len vs H Q E (h _ _ _ _ q),fun A outer s H args us vs Q E hr he hb hv hs=>F.run A outer s H args us vs Q E hr he hb hv (h _ _ _ _ hs)⟩
theorem Env0.make {P:Program} {w:World} {K:PySem.W.Frag} {mg:Str→Option Value} {base:Heap} {A:Around} {outer:List Env} {s:Shared} {H:Hp} (e:Env0 P w K mg base A outer s H) (C:Addr) (us:List Value) (kw:List (Str × Value)) :
    Env0 P w K mg base (A.under (.builtin "type.__call__" ⟨.ref C::us,kw⟩)) outer s H:=⟨by first | exact e.frames | (simpa [Around.under,Code.envs,Code.isFrame,pushEnvs] using e.frames),e.mod,e.bs,e.bsz,e.funs,e.frf,e.hok,e.bare⟩
section
variable {X : Cx} {pins : List (Addr × Obj)} {σ : St} {H : Hp} {s s' : Shared}
theorem Inv.env0 (I:Inv X pins σ H s):Env0 X.prog X.w X.K X.mg X.base X.A X.stack s H :=
  ⟨I.ok.frames,I.ok.mod,I.bs,Nat.le_trans I.ok.bsz I.sz,I.stack,I.stkFree,I.hok,I.bare⟩
theorem Inv.after {Q:VK} {u:Value} (I:Inv X pins σ H s) (h:CE X.stack X.prog X.w H s Q u s'):EP X pins σ Q u s':=by
  obtain ⟨v,H',os,bare,un,hok,r,q⟩:=h
  obtain ⟨hh,g,d,t,os'⟩:=s'
  obtain rfl:os'=s.os:=os
  exact ⟨v,H',I.call (h':=hh) (g':=g) (d':=d) (t':=t) (ch:=[]) un hok bare (fun b z=>absurd z (by simp)),r,q⟩
end
def qpQ (sp:Sp) (dvs:List V) (E:XK) (t:TA):TE:=fun σ H Q=>t σ H fun vs H1=>sp (vs++dvs) H1 Q E
def qpK (C:Addr) (m:Str) (sp:Sp) (dvs:List V) (E:XK) (ta:TE) (t:TA):TE:=fun σ H Q=>ta σ H fun x H1=>∃ a dx fs,x=.ref a∧H1 a=some (.ins C dx fs)∧fs.lookup m=none ∧
  t σ H1 fun vs H2=>sp (x::(vs++dvs)) H2 Q E
def qpU (C:Addr) (sp:Sp) (dvs:List V) (E:XK) (t:TA):TE:=fun σ H Q=>t σ H fun vs H1=>∀ x dx,H1 x=none→H1 dx=none→dx≠x →
  sp (.ref x::(vs++dvs)) (upd (upd H1 dx (.own x)) x (.ins C dx [])) (fun v H2=>v=.non∧Q (.ref x) H2) E
def Binds (K:PySem.W.Frag) (fd:FuncData) (ps:List Str) (ds:List Value):Prop :=
  ∀ (s:Shared) (us:List Value),K.In s.heap→(us++ds).length=ps.length→BindsTo s fd ⟨us,[]⟩ (ps.zip (us++ds))
theorem Binds.all {K:PySem.W.Frag} {fd:FuncData} {ps:List Str} (h:∀ us:List Value,us.length=ps.length→bindArgs fd ⟨us,[]⟩=pure (ps.zip us)):Binds K fd ps []:=fun s us _ hl=>by
  rw [List.append_nil] at hl ⊢
  exact .of_eq (h us hl)
def qdV (CX:CXT) (X:Cx) (E:XK):Prop:=∀ (pins:List (Addr × Obj)) (σ:St) (H:Hp) (s:Shared) (e:Value) (s':Shared),Inv X pins σ H s→CX X.stack H s E e s'→X.xe e s'
section
variable {X : Cx} {CX : CXT} {k : Nat} {f C : Addr} {fd : FuncData} {ps : List Str} {sp : Sp} {dvs : List V} {ds : List Value} {E : XK} {x m : Str} {p pos apos : Pos} {e o : Expr} {es : List Expr} {ta : TE} {t : TA}
theorem qlQ {pins:List (Addr × Obj)} {σ:St} {H:Hp} {s:Shared} {Q:VK} {us:List Value} {vs:List V} (F:FnOk X.prog X.w X.K X.mg X.base CX k f fd ps sp) (hr:Room k X.A) (hb:Binds X.K fd ps ds) (hd:Vals dvs ds) (hx:qdV CX X E)
    (I:Inv X pins σ H s) (r:Vals vs us) (h:sp (vs++dvs) H Q E):wpAny (model X.prog X.w) X.A (call (.ref f) us) (EP X pins σ Q) X.xe s:=by
  have r2:Vals (vs++dvs) (us++ds):=r.append hd
  have hl:(us++ds).length=ps.length:=by rw [← r2.length];exact F.len _ _ _ _ h
  refine wpAny_call (codeAny_mono (F.run X.A X.stack s H ⟨us,[]⟩ (us++ds) (vs++dvs) Q E hr I.env0 (hb s us I.kIn hl) r2 h) fun r s' hq=>?_)
  cases r with
  | error e=>exact hx pins σ H s e s' I hq
  | ok fl =>
    cases fl with
    | ret u=>exact I.after hq
    | next=>exact False.elim hq
    | brk=>exact False.elim hq
    | cont=>exact False.elim hq
theorem qiP (F:FnOk X.prog X.w X.K X.mg X.base CX k f fd ps sp) (hr:Room k X.A) (hg:Gl X x) (hm:X.mg x=some (.ref f)) (hk:PySem.W.keepIn X.K (.ref f)=true) (hb:Binds X.K fd ps ds) (hd:Vals dvs ds) (hx:qdV CX X E)
    (ha:PA X (e::es) t) (hdb:(x == ("__debug__":Str))=false:=by decide) (he:starEach (e::es) X.env=(false,eval e X.env)::starEach es X.env:=by rfl) (hpl:(backTo pos (starEach es X.env)).any (·.1)=false:=by rfl) :
    PE X (.Call (.Name x p) (e::es) [] pos) (qpQ sp dvs E t):=by
  intro pins s σ H Q I h
  refine wpAny_Call_Name_kw (qgD I hg hm ?_ hdb)
  refine PySem.W.callWith_K (h₀:=X.base) I.ok.mod.kin hk (thn (ha pos pins s σ H _ I h) fun us s1 ⟨vs,H1,I1,r,q⟩=>⟨I1.kIn,?_⟩) he hpl
  exact qlQ F hr hb hd hx I1 r q
theorem ql0 {pl:Sem Bool} (he:PE X o ta) (c:Cls X.K C) (hm:Meth X.K C m f) (F:FnOk X.prog X.w X.K X.mg X.base CX k f fd ps sp) (hr:Room k X.A) (hb:Binds X.K fd ps ds) (hd:Vals dvs ds) (hx:qdV CX X E) (ha:PA X (e::es) t)
    (hst:starEach (e::es) X.env=(false,eval e X.env)::starEach es X.env:=by rfl) (hpl:(backTo pos (starEach es X.env)).any (·.1)=false:=by rfl)
    (ht:eval (.Call (.Attribute o m apos) (e::es) [] pos) X.env=(do
      let ov ← eval o X.env
      standAt apos.atName
      let (f,first) ← holding [ov] (getMethod ov m pl)
      callWith pos f first (backTo pos (starEach (e::es) X.env)) (backToKw pos (keywordEach [] X.env))):=by rfl) :
    PE X (.Call (.Attribute o m apos) (e::es) [] pos) (qpK C m sp dvs E ta t):=by
  intro pins s σ H Q I h
  refine PySem.W.methodCall_KW (pl:=pl) (thn (he pins s σ H _ I h) fun u s1 ⟨x,H1,I1,rx,a,dx,fs,ex,ea,l,q⟩=>?_) ht
  subst ex
  obtain rfl:u=Value.ref a:=rx
  refine qhS I1 ea c hm l ?_
  refine PySem.W.callWith_K (first:=[.ref a]) (h₀:=X.base) I.ok.mod.kin hm.kp (thn (ha pos pins s1 σ H1 _ I1 q) fun us s2 ⟨vs,H2,I2,r,q2⟩=>⟨I2.kIn,?_⟩) hst hpl
  exact qlQ (us:=.ref a::us) (vs:=.ref a::vs) F hr hb hd hx I2 (.cons rfl r) q2
structure Mk (K:PySem.W.Frag) (C f:Addr):Prop where
  makes:PySem.W.makesIn K C=true
  init:PySem.W.findIn K (.ref C) "__init__"=some (some (.ref f))
  fn:PySem.W.isFn K (.ref f)=true
  kp:PySem.W.keepIn K (.ref C)=true
theorem qk0 {pins:List (Addr × Obj)} {σ:St} {H:Hp} {s:Shared} {Q:VK} {us:List Value} {vs:List V} (M:Mk X.K C f) (F:FnOk X.prog X.w X.K X.mg X.base CX k f fd ps sp) (hr:Room (k+1) X.A) (hb:Binds X.K fd ps ds) (hd:Vals dvs ds)
    (hx:qdV CX X E) (I:Inv X pins σ H s) (r:Vals vs us)
    (h:∀ x dx,H x=none→H dx=none→dx≠x→sp (.ref x::(vs++dvs)) (upd (upd H dx (.own x)) x (.ins C dx [])) (fun v H2=>v=.non∧Q (.ref x) H2) E) :
    wpAny (model X.prog X.w) X.A (call (.ref C) us) (EP X pins σ Q) X.xe s:=by
  have hq:=h (s.heap.objs.size+1) s.heap.objs.size (I.hok.fresh (Nat.le_succ _)) (I.hok.fresh (Nat.le_refl _)) (Nat.ne_of_lt (Nat.lt_succ_self _))
  have I2:=Inv.made (C:=C) I
  have r2:Vals (V.ref (s.heap.objs.size+1)::(vs++dvs)) (Value.ref (s.heap.objs.size+1)::(us++ds)):=.cons rfl (r.append hd)
  have hl:(Value.ref (s.heap.objs.size+1)::us++ds).length=ps.length:=by
    have e:=r2.length
    rw [F.len _ _ _ _ hq] at e
    exact e.symm
  refine wpAny_call (qlj (f:=f) I.kIn M.makes M.init (beq_iff_eq.mp M.fn) (codeAny_mono (F.run _ X.stack _ _ ⟨Value.ref (s.heap.objs.size+1)::us,[]⟩ (Value.ref (s.heap.objs.size+1)::(us++ds)) _ _ E (hr.make C us [])
    (I2.env0.make C us []) (hb _ (Value.ref (s.heap.objs.size+1)::us) I2.kIn hl) r2 hq) fun r s' hq'=>?_))
  cases r with
  | error e=>exact hx pins σ _ _ e s' I2 hq'
  | ok fl =>
    cases fl with
    | ret u =>
      obtain ⟨v,H',I3,rv,ev,q3⟩:=I2.after hq'
      subst ev
      exact ⟨rv,⟨V.ref (s.heap.objs.size+1),H',I3,rfl,q3⟩⟩
    | next=>exact False.elim hq'
    | brk=>exact False.elim hq'
    | cont=>exact False.elim hq'
theorem qla (M:Mk X.K C f) (F:FnOk X.prog X.w X.K X.mg X.base CX k f fd ps sp) (hr:Room (k+1) X.A) (hg:Gl X x) (hm:X.mg x=some (.ref C)) (hb:Binds X.K fd ps ds) (hd:Vals dvs ds) (hx:qdV CX X E)
    (hdb:(x == ("__debug__":Str))=false:=by decide):PE X (.Call (.Name x p) [] [] pos) (qpU C sp dvs E qrf):=by
  intro pins s σ H Q I h
  refine wpAny_Call_Name_kw (qgD I hg hm ?_ hdb)
  exact PySem.W.callWith_K0 I.kIn M.kp (qk0 (us:=[]) M F hr hb hd hx I .nil h)
end
section
variable {X : Cx} {CX : CXT} {k : Nat} {f C : Addr} {fd : FuncData} {ps ks : List Str} {sp : Sp} {E : XK} {x m : Str} {p pos apos kpos : Pos} {e o : Expr} {es : List Expr} {kws : List Keyword} {te ta : TE} {t tk : TA} {nm : Option Str}
variable {g : List Value → List Value → List Value} {gV : List V → List V → List V}
end
structure FnScope (N P:List Str) (sc:Scope):Prop where
  kind:sc.kind=.function
  co:sc.isCoroutine=false
  gen:sc.isGenerator=false
  nd:N.Nodup
  pre:N.take P.length=P
  par:∀ x∈P,sc.names.lookup x=some .local∨sc.names.lookup x=some .cell
  nofree:∀ y∈sc.names,y.2≠.free
theorem qf4 {kindOf:Str→Option NameKind} {x:Str}:∀ {binds:List (Str × Value)} {m:Str→Option Value},(∀ v,(x,v)∉binds)→bindL kindOf binds m x=m x
  | [],_,_=>rfl
  | (n,v)::r,m,h=>by
    unfold bindL
    rw [qf4 fun w hw=>h w (List.mem_cons_of_mem _ hw)]
    split
    · have:x≠n:=by rintro rfl;exact h v List.mem_cons_self
      simp [this]
    · rfl
theorem qfS {kindOf:Str→Option NameKind} {x:Str}:∀ {binds:List (Str × Value)} {m:Str→Option Value},(∀ v,(x,v)∉binds)→bindC kindOf binds m x=m x
  | [],_,_=>rfl
  | (n,v)::r,m,h=>by
    unfold bindC
    rw [qfS fun w hw=>h w (List.mem_cons_of_mem _ hw)]
    split
    · rfl
    · have:x≠n:=by rintro rfl;exact h v List.mem_cons_self
      simp [this]
theorem qge {kindOf:Str→Option NameKind} {x:Str} {v:Value}:∀ {P:List Str} {vs:List Value} {i:Nat} {m:Str→Option Value},P.Nodup→P[i]?=some x→vs[i]?=some v→kindOf x=some .local →
    bindL kindOf (P.zip vs) m x=some v
  | [],_,_,_,_,h,_,_=>by simp at h
  | _::_,[],_,_,_,_,h,_=>by simp at h
  | p::P,w::vs,0,m,nd,h1,h2,hk=>by
    simp at h1 h2;subst h1;subst h2
    show bindL kindOf ((p,w)::P.zip vs) m p=_
    unfold bindL
    rw [qf4 fun v hv=>(List.nodup_cons.mp nd).1 (List.of_mem_zip hv).1,if_pos hk]
    simp
  | p::P,w::vs,i+1,m,nd,h1,h2,hk=>by
    show bindL kindOf ((p,w)::P.zip vs) m x=_
    unfold bindL
    exact qge (i:=i) (List.nodup_cons.mp nd).2 (by simpa using h1) (by simpa using h2) hk
theorem qfV {kindOf:Str→Option NameKind} {x:Str} {v:Value}:∀ {P:List Str} {vs:List Value} {i:Nat} {m:Str→Option Value},P.Nodup→P[i]?=some x→vs[i]?=some v→kindOf x≠some .local →
    bindC kindOf (P.zip vs) m x=some v
  | [],_,_,_,_,h,_,_=>by simp at h
  | _::_,[],_,_,_,_,h,_=>by simp at h
  | p::P,w::vs,0,m,nd,h1,h2,hk=>by
    simp at h1 h2;subst h1;subst h2
    show bindC kindOf ((p,w)::P.zip vs) m p=_
    unfold bindC
    rw [qfS fun v hv=>(List.nodup_cons.mp nd).1 (List.of_mem_zip hv).1,if_neg hk]
    simp
  | p::P,w::vs,i+1,m,nd,h1,h2,hk=>by
    show bindC kindOf ((p,w)::P.zip vs) m x=_
    unfold bindC
    exact qfV (i:=i) (List.nodup_cons.mp nd).2 (by simpa using h1) (by simpa using h2) hk
def qcK (N:List Str) (vs:List V):St:=vs.map some++List.replicate (N.length - vs.length) none
def qkf (CX:CXT) (P:Program) (w:World) (K:PySem.W.Frag) (mg:Str→Option Value) (base:Heap) (N:List Str) (qual:Str) (scope:Scope) (f:Addr) (cd:Value) (A:Around) (outer:List Env) (s:Shared) (H:Hp) (E:XK):Cx where
  prog:=P
  w:=w
  K:=K
  mg:=mg
  base:=base
  A:=A.deeper (envOfC qual scope s.heap.objs.size f cd)
  N:=N
  s₀:=s
  H₀:=H
  env:=envOfC qual scope s.heap.objs.size f cd
  outer:=outer
  stack:=envOfC qual scope s.heap.objs.size f cd::outer
  ex:=[]
  calm:=true
  fn:=fun _=>true
  pn:=[]
  xe:=fun e s'=>wpAny (model P w) (A.deeper (envOfC qual scope s.heap.objs.size f cd)) (leaving (envOfC qual scope s.heap.objs.size f cd) e) (fun _ s''=>CX outer H s E e s'') (fun e' s''=>CX outer H s E e' s'') s'
theorem qe9 {sc:Scope} {n:Nat} {x:Str} (h:sc.names.lookup x=some .cell):∃ c,(cellsFrom n sc.names []).lookup x=some c:=by
  have q:=PySem.W.cellsFrom_some sc.names n [] (.inl h)
  exact Option.isSome_iff_exists.mp q
theorem qjj {CX:CXT} {P:Program} {w:World} {K:PySem.W.Frag} {mg:Str→Option Value} {base:Heap} {N ps:List Str} {qual:Str} {scope:Scope} {f:Addr} {cd:Value} {A:Around} {outer:List Env} {s s1:Shared} {H:Hp} {E:XK} {us:List Value} {vs:List V}
    (S:FnScope N ps scope) (hd:A.handled=none) (e0:Env0 P w K mg base A outer s H) (hl:vs.length=ps.length) (r:Vals vs us)
    (x:InCallC s s.heap.objs.size (bindL (envOfC qual scope s.heap.objs.size f cd).kindOf (ps.zip us) fun _=>none) (cellsFrom (s.heap.objs.size+1) scope.names []) (bindC (envOfC qual scope s.heap.objs.size f cd).kindOf (ps.zip us) fun _=>none) s1) :
    Inv (qkf CX P w K mg base N qual scope f cd A outer s H E) [] (qcK N vs) H s1:=by
  have hpl:ps.length≤N.length:=by have:=congrArg List.length S.pre;rw [List.length_take] at this;omega
  obtain ⟨h1,tk,rfl,hk⟩:=x.done
  have noA:∀ b:Addr,b∉(qkf CX P w K mg base N qual scope f cd A outer s H E).ex:=fun b z=>absurd (show b∈([]:List Addr) from z) (by simp)
  refine ⟨⟨e0.mod,S.kind,rfl,rfl,Nat.le_refl _,fun y z c h1 h2=>?_,fun y hy=>?_,fun y c _ h=>?_,fun _=>hd,Around.frames_deeper e0.frames,.inr ⟨rfl,rfl⟩,fun b z=>absurd z (noA b),e0.bs,e0.bsz,fun b _ _=>noA b,fun b z=>absurd z (noA b),e0.funs,e0.frf⟩,
    rfl,e0.bare,Un.kept hk,⟨_,x.toInCall.ns,fun i y v h1 h2 h3=>?_⟩,fun y c h=>⟨_,x.cell y c h⟩,e0.hok.fresh (Nat.le_refl _),fun y c h=>?_,fun p hp=>absurd (show p∈([]:List (Addr × Obj)) from hp) (by simp),e0.hok.kept hk,?_⟩
  · exact name_of_addr x.apart (PySem.mem_of_lookup h1) (PySem.mem_of_lookup h2)
  · have hy:scope.names.lookup y=some .cell∨scope.names.lookup y=some .free:=hy
    rcases hy with hy | hy
    · exact qe9 hy
    · exact absurd rfl (S.nofree _ (PySem.mem_of_lookup hy))
  · exact Nat.le_of_lt (x.above y c (PySem.mem_of_lookup h))
  · have hi:i<vs.length:=by
      unfold qcK at h2
      by_cases hi:i<vs.length
      · exact hi
      · rw [List.getElem?_append_right (by simpa using hi)] at h2
        rw [List.getElem?_replicate] at h2
        split at h2 <;> cases h2
    have ha:vs[i]?=some v:=by
      unfold qcK at h2
      rw [List.getElem?_append_left (by simpa using hi),List.getElem?_map] at h2
      cases e:vs[i]? with
      | none=>rw [e] at h2;cases h2
      | some a=>rw [e] at h2;cases h2;rfl
    obtain ⟨u,hu,rv⟩:=r.get ha
    have hp:ps[i]?=some y:=by
      rw [← S.pre,List.getElem?_take_of_lt (by omega)];exact h1
    have ndP:ps.Nodup:=by rw [← S.pre];exact S.nd.sublist (List.take_sublist _ _)
    refine ⟨u,rv,?_⟩
    rcases S.par y (List.mem_of_getElem? hp) with k | k
    · exact .inl ⟨k,qge ndP hp hu k⟩
    · obtain ⟨c,e⟩:=qe9 (n:=s.heap.objs.size+1) k
      refine .inr ⟨.inl k,c,e,?_⟩
      have q:=x.cell y c e
      rw [qfV ndP hp hu (by show scope.names.lookup y≠_;rw [k];decide)] at q
      exact q
  · exact e0.hok.fresh (Nat.le_of_lt (x.above y c (PySem.mem_of_lookup h)))
  · unfold qcK
    show _=N.length
    rw [List.length_append,List.length_map,List.length_replicate]
    omega
theorem qob {CX:CXT} {P:Program} {w:World} {K:PySem.W.Frag} {mg:Str→Option Value} {base:Heap} {k:Nat} {f:Addr} {name qual:Str} {params:Arguments} {body:List Stmt} {scope:Scope} {dV kV doc pm cdv ct oc:Value} {an od:Option Addr}
    {osl:Array (Option Value)} {N ps:List Str} {sp:Sp} (lk:K.lookup f=some ⟨oc,od,.func (PySem.W.fnOf name qual params body scope dV kV doc pm an cdv ct),osl⟩) (hcd:PySem.W.codeIn K cdv qual=true) (S:FnScope N ps scope)
    (len:∀ vs H Q E,sp vs H Q E→vs.length=ps.length)
    (hbody:∀ (A:Around) (outer:List Env) (s:Shared) (H:Hp) (vs:List V) (Q:VK) (E:XK),Room k (A.deeper (envOfC qual scope s.heap.objs.size f cdv))→sp vs H Q E →
      ∃ t,PSs (qkf CX P w K mg base N qual scope f cdv A outer s H E) body t∧t { nx:=fun _ H'=>Q .non H',rt:=Q } (qcK N vs) H) :
    FnOk P w K mg base CX (k+1) f (PySem.W.fnOf name qual params body scope dV kV doc pm an cdv ct) ps sp:=by
  refine ⟨len,fun A outer s H args us vs Q E hr e0 hb r hsp=>?_⟩
  have hl:=len _ _ _ _ hsp
  have KX:K.In s.heap:=e0.mod.kin.keeps fun b o e=>(e0.bs b o e).1
  have lim:s.heap.NoLimit:=e0.mod.nolimit.keeps fun b o e=>(e0.bs b o e).1
  have hkind:∀ y∈ps.zip us,scope.names.lookup y.1=some .local∨(scope.names.lookup y.1=some .cell∧((cellsFrom (s.heap.objs.size+1) scope.names []).lookup y.1).isSome=true):=fun hq0 hy=>by
    obtain ⟨n,v⟩:=hq0
    rcases S.par n (List.of_mem_zip hy).1 with q | q
    · exact .inl q
    · exact .inr ⟨q,PySem.W.cellsFrom_some _ _ _ (.inl q)⟩
  refine codeAny_call_function hr.depth (KX _ _ lk) rfl S.co S.gen rfl (PySem.W.codeRec_of KX hcd) (hb _ _ _ _ ?_)
  refine wpAny_newFunctionEnv_cells S.kind hkind fun env he s1 x=>?_
  subst he
  refine ⟨lim.keeps x.toInCall.keep,codeAny_func ?_⟩
  obtain ⟨t,ht,hq⟩:=hbody A outer s H vs Q E (hr.deeper _) hsp
  have I:Inv (qkf CX P w K mg base N qual scope f cdv A outer s H E) [] (qcK N vs) H s1:=qjj S hr.hd e0 hl r x
  refine wpAny_mono (ht [] s1 (qcK N vs) H _ I hq) (fun fl s' hs=>?_) fun e s' hs=>hs
  have fin:∀ {σ':St} {H':Hp} {v:V} {u:Value},Inv (qkf CX P w K mg base N qual scope f cdv A outer s H E) [] σ' H' s'→RelV v u→Q v H'→CE outer P w H s Q u s' :=
    fun {σ' H' v u} J rv q=>⟨v,H',J.os,J.bare,J.base,J.hok,rv,q⟩
  cases fl with
  | ret u =>
    obtain ⟨v,σ',H',J,rv,q⟩:=hs
    exact fin J rv q
  | next =>
    obtain ⟨σ',H',J,q⟩:=hs
    exact fin (v:=V.non) (u:=Value.none) J rfl q
  | brk =>
    obtain ⟨_,_,_,q⟩:=hs
    exact False.elim q
  | cont =>
    obtain ⟨_,_,_,q⟩:=hs
    exact False.elim q
section
variable {X : Cx} {x : Str} {p pos : Pos} {e : Expr} {es : List Expr} {t : TA} {id T : String} {r : List V → Hp → VK → Prop}
def tCB (r:List V→Hp→VK→Prop) (t:TA):TE:=fun σ H Q=>t σ H fun vs H1=>r vs H1 Q
theorem qe0 (hc:qez X (.builtin id) r) (hg:Gl X x) (hm:X.mg x=none) (hv:bootBuiltins x=some (.builtin id)) (ha:PA X (e::es) t) (hn:x≠"__name__":=by decide) (hdb:(x == ("__debug__":Str))=false:=by decide)
    (he:starEach (e::es) X.env=(false,eval e X.env)::starEach es X.env:=by rfl) (hpl:(backTo pos (starEach es X.env)).any (·.1)=false:=by rfl):PE X (.Call (.Name x p) (e::es) [] pos) (tCB r t):=by
  intro pins s σ H Q I h
  refine wpAny_Call_Name_kw (qeq I hg hm hv ?_ hn hdb)
  exact PyProof.Rows.callWith_builtin1 (thn (ha pos pins s σ H _ I h) fun us s1 hq0=>by obtain ⟨vs,H1,I1,r1,q1⟩:=hq0;exact hc pins s1 σ H1 vs us Q I1 r1 q1) he hpl
theorem qj4 (hc:qez X (.type T) r) (hg:Gl X x) (hm:X.mg x=none) (hv:bootBuiltins x=some (.type T)) (ha:PA X (e::es) t) (hn:x≠"__name__":=by decide) (hdb:(x == ("__debug__":Str))=false:=by decide)
    (he:starEach (e::es) X.env=(false,eval e X.env)::starEach es X.env:=by rfl) (hpl:(backTo pos (starEach es X.env)).any (·.1)=false:=by rfl):PE X (.Call (.Name x p) (e::es) [] pos) (tCB r t):=by
  intro pins s σ H Q I h
  refine wpAny_Call_Name_kw (qeq I hg hm hv ?_ hn hdb)
  exact PyProof.Rows.callWith_type1 (thn (ha pos pins s σ H _ I h) fun us s1 hq0=>by obtain ⟨vs,H1,I1,r1,q1⟩:=hq0;exact hc pins s1 σ H1 vs us Q I1 r1 q1) he hpl
end
end L2
namespace HT
open PySem PyProof.Rows
section
open PySem.SeqAt
open PySem.AutoSeq1 (wpAny_loadPart')
open PySem.MeetsSeq PySem.MeetsSeq2 PySem.MeetsSeq3
end
section
variable {prog : Program} {w : World} {A : Around} {E : Value → Shared → Prop} {s : Shared}
theorem cat_tup {t b:Addr} {vs ws:List Value} {Q:Value→Shared→Prop} (ht:IsTup s.heap t vs.toArray) (hb:IsTup s.heap b ws.toArray) (hv:vs≠[])
    (h1:ws=[]→Q (.ref t) s) (h2:ws≠[]→Q (.ref s.heap.objs.size) { s with heap:=s.heap.push { cls:=.type "tuple",data:=.seq (vs++ws).toArray } })
    (hsz:vs.length+ws.length≤sizeLine):wpAny (model prog w) A (binaryOp .Add (.ref t) (.ref b)) Q E s:=by
  obtain ⟨⟨cls,dd,data,sl⟩,ho,hc,n,hd⟩:=id ht
  obtain ⟨⟨cls2,dd2,data2,sl2⟩,ho2,hc2,n2,hd2⟩:=id hb
  simp only at hc hd hc2 hd2
  subst hc hd hc2 hd2
  have e:vs.toArray++ws.toArray=(vs++ws).toArray:=by simp
  by_cases hw:ws=[]
  · exact concat_meets ⟨_,ho,rfl⟩ ⟨_,ho2,rfl⟩ noFill_tuple_add seq_tuple_add PySem.F.slot_tuple_add PySem.F.entry_tuple_add (PySem.F.args_tuple_add_2 _ _)
      (tuple_addW1 t b vs.toArray ws.toArray n n2 dd dd2 sl sl2 (by simpa using hv) (by simp [hw])) ⟨ho,ho2,h1 hw⟩
  · refine concat_meets ⟨_,ho,rfl⟩ ⟨_,ho2,rfl⟩ noFill_tuple_add seq_tuple_add PySem.F.slot_tuple_add PySem.F.entry_tuple_add (PySem.F.args_tuple_add_2 _ _)
      (tuple_addW2 t b vs.toArray ws.toArray n n2 dd dd2 sl sl2 (by simpa using hv) (by simpa using hw) (by rw [List.size_toArray,List.size_toArray];exact hsz)) ⟨ho,ho2,?_⟩
    rw [e]
    exact h2 hw
def sIx (n d:Nat):Option Int→Nat
  | none=>d
  | some v=>if v<0 then (v+(n:Int)).toNat else min v.toNat n
theorem sIx_none (n d:Nat):sIx n d none=d:=rfl
theorem sIx_nat (n d k:Nat):sIx n d (some (k:Int))=min k n:=by
  show (if (k:Int)<0 then ((k:Int)+(n:Int)).toNat else min (k:Int).toNat n)=min k n
  rw [if_neg (by omega),Int.toNat_natCast]
theorem qpw (n d:Nat) (hd:d≤n) (o:Option Int):sIx n d o≤n:=by
  cases o with
  | none=>exact hd
  | some v =>
    show (if v<0 then (v+(n:Int)).toNat else min v.toNat n)≤n
    by_cases hv:v<0
    · rw [if_pos hv];omega
    · rw [if_neg hv];exact Nat.min_le_right _ _
theorem qio (v:Int) (n d:Nat):(if v<0 then max (v+(n:Int)) 0 else min v (n:Int))=((sIx n d (some v):Nat):Int):=by
  show (if v<0 then max (v+(n:Int)) 0 else min v (n:Int))=(((if v<0 then (v+(n:Int)).toNat else min v.toNat n):Nat):Int)
  by_cases hv:v<0
  · simp only [if_pos hv];omega
  · simp only [if_neg hv];omega
theorem qhR (lo hi:Option Int) (n:Nat):Builtin.Slice.sliceAdjust lo hi 1 (n:Int)=(((sIx n 0 lo:Nat):Int),((sIx n n hi:Nat):Int)):=by
  have h1:¬ ((1:Int)<0):=by omega
  unfold Builtin.Slice.sliceAdjust
  simp only [h1,if_false]
  refine Prod.ext ?_ ?_
  · cases lo with
    | none=>rfl
    | some v=>exact qio v n 0
  · cases hi with
    | none=>rfl
    | some v=>exact qio v n n
theorem qh3 (i j:Nat):Builtin.Slice.slicePlaces (i:Int) (j:Int) 1=j - i:=by
  unfold Builtin.Slice.slicePlaces
  have h1:(1:Int)>0:=by omega
  simp only [h1,if_true,Int.ediv_one]
  split <;> omega
theorem qeT {v:Value} {o:Option Int} {Q:Option Int→Shared→Prop} (p:IsPart v o) (h:Q o s):wpAny (model prog w) A (Builtin.Slice.slicePartIndex v) Q E s:=by
  cases p with
  | none=>exact slicePart_none h
  | int i t=>exact slicePart_int h
theorem qcg {sl:Addr} {vl vu:Value} {lo hi:Option Int} {n:Nat} {Q:Int × Int × Nat→Shared→Prop} (hs:s.heap.IsSliceOf sl vl vu .none) (pl:IsPart vl lo) (pu:IsPart vu hi)
    (h:Q (((sIx n 0 lo:Nat):Int),1,sIx n n hi - sIx n 0 lo) s):wpAny (model prog w) A (Builtin.Slice.sliceApplied (.ref sl) (pure (n:Int))) Q E s:=by
  obtain ⟨os,hos,hcs,hds⟩:=id hs
  unfold Builtin.Slice.sliceApplied Builtin.Slice.sliceFields
  refine wpAny_bind (wpAny_bind (wpAny_field hos hds (x:=vl) rfl (wpAny_bind (wpAny_field hos hds (x:=vu) rfl (wpAny_bind (wpAny_field hos hds (x:=.none) rfl (wpAny_pure ?_)))))))
  refine wpAny_bind (slicePart_none ?_)
  show wpAny _ _ (if ((1:Int) == 0)=true then _ else _) _ _ s
  rw [if_neg (by decide)]
  refine wpAny_bind (qeT pl (wpAny_bind (qeT pu (wpAny_bind (wpAny_pure ?_)))))
  show wpAny _ _ (match Builtin.Slice.sliceAdjust lo hi 1 (n:Int) with | (lo,hi)=>pure (lo,(1:Int),Builtin.Slice.slicePlaces lo hi 1)) _ _ s
  rw [qhR lo hi n]
  show wpAny _ _ (pure (((sIx n 0 lo:Nat):Int),(1:Int),Builtin.Slice.slicePlaces ((sIx n 0 lo:Nat):Int) ((sIx n n hi:Nat):Int) 1)) _ _ s
  rw [qh3]
  exact wpAny_pure h
theorem qk2 (xs:Array Value) (i k:Nat):((List.range k).filterMap fun (m:Nat)=>xs[((i:Int)+(m:Int)*1).toNat]?).toArray=((xs.toList.drop i).take k).toArray:=by
  have e:(fun (m:Nat)=>xs[((i:Int)+(m:Int)*1).toNat]?)=fun m=>xs[i+m]?:=by
    funext m
    have:((i:Int)+(m:Int)*1).toNat=i+m:=by omega
    rw [this]
  rw [e]
  have:=pick_run xs i k
  rw [List.filterMap_map] at this
  have e2:((fun x=>xs[x]?) ∘ fun x=>i+x)=fun m=>xs[i+m]?:=rfl
  rw [e2] at this
  rw [this]
theorem getItem_tuple_cut {t sl:Addr} {items:Array Value} {vl vu:Value} {lo hi:Option Int} {Q:Value→Shared→Prop} (ht:IsTup s.heap t items) (hs:s.heap.IsSliceOf sl vl vu .none) (pl:IsPart vl lo) (pu:IsPart vu hi)
    (hw:¬ (sIx items.size 0 lo=0∧sIx items.size items.size hi=items.size))
    (h:Q (.ref s.heap.objs.size) { s with heap:=s.heap.push { cls:=.type "tuple",data:=.seq ((items.toList.drop (sIx items.size 0 lo)).take (sIx items.size items.size hi - sIx items.size 0 lo)).toArray } })
    (hsz:items.size≤sizeLine):wpAny (model prog w) A (getItem (.ref t) (.ref sl)) Q E s:=by
  have htake:sizeOk (.seq ((items.toList.drop (sIx items.size 0 lo)).take (sIx items.size items.size hi - sIx items.size 0 lo)).toArray):=by
    show ((items.toList.drop (sIx items.size 0 lo)).take (sIx items.size items.size hi - sIx items.size 0 lo)).toArray.size≤sizeLine
    rw [List.size_toArray,List.length_take,List.length_drop,Array.length_toList]
    omega
  have hj:sIx items.size items.size hi≤items.size:=qpw _ _ (Nat.le_refl _) hi
  obtain ⟨os,hos,hcs,hds⟩:=id hs
  have hTs:s.TypeIs (.ref sl) "slice":=⟨os,hos,hcs⟩
  unfold getItem
  try with_reducible refine wpAny_holding ?_
  first | refine wpAny_bind (wpAny_pure ?_) | skip
  refine wpAny_bind (wpAny_sequenceKey ht.typeIs (by decide) ?_)
  refine wpAny_bind (wpAny_callSpecial?_slot (name:=Str.ofString "__getitem__") ht.typeIs PyProof.Rows.slot_tuple_getitem
    (wpAny_call_entry PyProof.Rows.slot_tuple_getitem ht.typeIs entry_tuple_getitem ?_ (args_tuple_getitem _ _)))
  show wpAny _ _ (Builtin.Tuple.tupleItemsOf (.ref t) >>= _) _ _ s
  refine wpAny_bind (tupleItemsOf_ ht ?_)
  refine wpAny_bind (wpAny_typeOf hTs ?_)
  rw [if_pos (by decide)]
  refine wpAny_bind (qcg hs pl pu ?_)
  have hno:¬ ((((sIx items.size 0 lo:Nat):Int) == 0 && (1:Int) == 1 && (sIx items.size items.size hi - sIx items.size 0 lo) == items.size)=true):=by
    intro q
    rw [Bool.and_eq_true,Bool.and_eq_true] at q
    have q1:((sIx items.size 0 lo:Nat):Int)=0:=eq_of_beq q.1.1
    have q2:sIx items.size items.size hi - sIx items.size 0 lo=items.size:=eq_of_beq q.2
    exact hw ⟨by omega,by omega⟩
  show wpAny _ _ (if (((sIx items.size 0 lo:Nat):Int) == 0 && (1:Int) == 1 && (sIx items.size items.size hi - sIx items.size 0 lo) == items.size)=true then _ else _) _ _ s
  rw [if_neg hno,qk2]
  first
    | exact wpAny_bind (m:=Builtin.Tuple.tupleExact _) (wpAny_newObj_type (wpAny_pure ⟨_,rfl,wpAny_pure h⟩) htake)
    | exact wpAny_bind (m:=Builtin.Tuple.tupleExact _) (wpAny_newObj_type (wpAny_bind (wpAny_pure (wpAny_pure ⟨_,rfl,wpAny_pure h⟩))) htake)
    | exact wpAny_bind (wpAny_bind (m:=Builtin.Tuple.tupleExact _) (wpAny_newObj_type (wpAny_pure (wpAny_pure ⟨_,rfl,wpAny_pure h⟩)) htake))
    | exact wpAny_bind (wpAny_bind (m:=Builtin.Tuple.tupleExact _) (wpAny_newObj_type (wpAny_pure ⟨_,rfl,wpAny_pure h⟩) htake))
end
end HT
namespace L2
open PySem PySem.Spec PyProof.Rows
abbrev TO:=St→Hp→(Option Int→Hp→Prop)→Prop
def PO (X:Cx) (e:Option Expr) (t:TO):Prop :=
  ∀ (pins:List (Addr × Obj)) (s:Shared) (σ:St) (H:Hp) (Q:Option Int→Hp→Prop),Inv X pins σ H s→t σ H Q →
    wpAny (model X.prog X.w) X.A (evalPart e X.env) (fun u s'=>∃ o H',Inv X pins σ H' s'∧IsPart u o∧Q o H') X.xe s
def qmZ:TO:=fun _ H Q=>Q none H
def qqp (t:TE):TO:=fun σ H Q=>t σ H fun x H1=>∃ i,x=.int i∧Q (some i) H1
section
variable {X : Cx} {e : Expr} {te : TE} {lo hi : Option Expr} {tl th : TO} {pos p2 : Pos}
theorem po_none:PO X none qmZ:=by
  intro pins s σ H Q I h
  rw [evalPart_none]
  exact wpAny_pure ⟨none,H,I,.none,h⟩
theorem qnv (h:PE X e te):PO X (some e) (qqp te):=by
  intro pins s σ H Q I hw
  rw [evalPart_some]
  refine thn (h pins s σ H _ I hw) fun u s1 hq0=>?_
  obtain ⟨x,H1,I1,r1,q1⟩:=hq0
  obtain ⟨i,rfl,q⟩:=q1
  obtain ⟨t,rfl⟩:=r1
  exact ⟨some i,H1,I1,.int i t,q⟩
def SlR (X:Cx) (r:V→Option Int→Option Int→Hp→VK→Prop):Prop :=
  ∀ (pins:List (Addr × Obj)) (s:Shared) (σ:St) (H:Hp) (x:V) (v vl vu:Value) (lo hi:Option Int) (sl:Addr) (Q:VK),Inv X pins σ H s→RelV x v→s.heap.IsSliceOf sl vl vu .none→IsPart vl lo→IsPart vu hi→r x lo hi H Q →
    ∃ T id,typeLookup (.type T) "__getitem__"=pure (some (.builtin id))∧s.TypeIs v T∧wpAny (model X.prog X.w) X.A (getItem v (.ref sl)) (EP X pins σ Q) X.xe s
theorem SlR.or {r r':V→Option Int→Option Int→Hp→VK→Prop} (h:SlR X r) (h':SlR X r'):SlR X (fun x lo hi H Q=>r x lo hi H Q∨r' x lo hi H Q):=by
  intro pins s σ H x v vl vu lo hi sl Q I rx hs pl pu q
  rcases q with q | q
  · exact h pins s σ H x v vl vu lo hi sl Q I rx hs pl pu q
  · exact h' pins s σ H x v vl vu lo hi sl Q I rx hs pl pu q
def tSl (r:V→Option Int→Option Int→Hp→VK→Prop) (te:TE) (tl th:TO):TE:=fun σ H Q=>te σ H fun x H1=>tl σ H1 fun l H2=>th σ H2 fun u H3=>r x l u H3 Q
theorem qkc {r:V→Option Int→Option Int→Hp→VK→Prop} (hr:SlR X r) (he:PE X e te) (hl:PO X lo tl) (hu:PO X hi th):PE X (.Subscript e (.Slice lo hi none p2) pos) (tSl r te tl th):=by
  intro pins s σ H Q I h
  refine Subscript_ (thn (he pins s σ H _ I h) fun v s1 ⟨x,H1,I1,r1,q1⟩=>?_)
  refine wpAny_Slice (thn (hl pins s1 σ H1 _ I1 q1) fun vl s2 ⟨l,H2,I2,pl,q2⟩=>thn (hu pins s2 σ H2 _ I2 q2) fun vu s3 ⟨u,H3,I3,pu,q3⟩=>?_)
  rw [evalPart_none]
  refine wpAny_pure ?_
  have I4:Inv X pins σ H3 { s3 with heap:=s3.heap.push { cls:=.type "slice",data:=.fields #[vl,vu,.none] } }:=I3.kept (t':=s3.toks) fun b ob q=>Heap.get?_push_of_some _ q
  obtain ⟨T,id,hT,ht,hg⟩:=hr pins { s3 with heap:=s3.heap.push { cls:=.type "slice",data:=.fields #[vl,vu,.none] } } σ H3 x v vl vu l u s3.heap.objs.size Q I4 r1 (Heap.IsSliceOf.new ..) pl pu q3
  show wpAny (model X.prog X.w) X.A (subscriptTail e (.Slice lo hi none p2) v (.ref s3.heap.objs.size)) (EP X pins σ Q) X.xe { s3 with heap:=s3.heap.push { cls:=.type "slice",data:=.fields #[vl,vu,.none] } }
  exact tail_any (ops:=[.ref s3.heap.objs.size,v]) ht hT hg (by with_unfolding_all rfl)
def qlM (xs:List V) (lo hi:Option Int):List V:=(xs.drop (HT.sIx xs.length 0 lo)).take (HT.sIx xs.length xs.length hi - HT.sIx xs.length 0 lo)
theorem qed (xs:List V) (lo hi:Option Int):(qlM xs lo hi).length≤xs.length:=by
  unfold qlM
  rw [List.length_take,List.length_drop]
  omega
def qrw (K:PySem.W.Frag):V→Option Int→Option Int→Hp→VK→Prop:=fun x lo hi H Q=>∃ a xs,x=.ref a∧SqT K H a xs ∧
  ¬ (HT.sIx xs.length 0 lo=0∧HT.sIx xs.length xs.length hi=xs.length)∧∀ p,H p=none→Q (.ref p) (upd H p (.tup (qlM xs lo hi)))
theorem sl_tup:SlR X (qrw X.K):=by
  intro pins s σ H x v vl vu lo hi sl Q I rx hs pl pu h
  obtain ⟨a,xs,rfl,hx,hw,q⟩:=h
  cases rx
  obtain ⟨its,r,ht,hz⟩:=I.tuple hx
  have hlen:its.toArray.size=xs.length:=by rw [List.size_toArray];exact r.length.symm
  refine ⟨"tuple",_,PyProof.Rows.slot_tuple_getitem.lookup,ht.typeIs,?_⟩
  refine HT.getItem_tuple_cut ht hs pl pu (by rw [hlen];exact hw) ?_ (by rw [hlen];exact hz)
  rw [hlen]
  refine ⟨.ref s.heap.objs.size,_,I.laid (t':=s.toks) (o:=.tup (qlM xs lo hi)) (fun b ob q=>Heap.get?_push_of_some _ q) (Nat.le_refl _) ?_,rfl,q _ (I.hok.fresh (Nat.le_refl _))⟩
  exact ⟨Nat.le_trans (qed xs lo hi) hz,_,(r.drop (HT.sIx xs.length 0 lo)).take (HT.sIx xs.length xs.length hi - HT.sIx xs.length 0 lo),IsTupD.new _ _⟩
def qp5 (K:PySem.W.Frag):R2:=fun x y H Q=>∃ a b xs ys,x=.ref a∧y=.ref b∧SqT K H a xs∧SqT K H b ys∧xs≠[]∧xs.length+ys.length≤sizeLine ∧
  (ys=[]→Q (.ref a) H)∧(ys≠[]→∀ p,H p=none→Q (.ref p) (upd H p (.tup (xs++ys))))
theorem Vals.nil_iff {xs:List V} {us:List Value} (r:Vals xs us):us=[]↔xs=[]:=by
  cases r with
  | nil=>simp
  | cons _ _=>simp
theorem qm8:OpR X (binaryOp .Add) (qp5 X.K):=by
  intro pins s σ H x y v u Q I rx ry h
  obtain ⟨a,b,xs,ys,rfl,rfl,ha,hb,hx,hz,q1,q2⟩:=h
  cases rx
  cases ry
  obtain ⟨its,r1,p1,_⟩:=I.tuple ha
  obtain ⟨its2,r2,p2,_⟩:=I.tuple hb
  refine HT.cat_tup p1 p2 (fun z=>hx (r1.nil_iff.mp z)) (fun z=>⟨.ref a,H,I,rfl,q1 (r2.nil_iff.mp z)⟩) (fun z=>?_) (by rw [← r1.length,← r2.length];exact hz)
  refine ⟨.ref s.heap.objs.size,_,I.laid (t':=s.toks) (o:=.tup (xs++ys)) (fun b ob q=>Heap.get?_push_of_some _ q) (Nat.le_refl _) ?_,rfl,q2 (fun w=>z (r2.nil_iff.mpr w)) _ (I.hok.fresh (Nat.le_refl _))⟩
  exact ⟨by rw [List.length_append];exact hz,_,r1.append r2,IsTupD.new _ _⟩
end
def ixN (n:Nat) (i:Int):Option Nat:=if 0≤i then (if i<n then some i.toNat else none) else if -(n:Int)≤i then some (i+n).toNat else none
def atI {α:Type} (xs:List α) (i:Int):Option α:=(ixN xs.length i).bind fun j=>xs[j]?
theorem qjp {n:Nat} {i:Int} {j:Nat} (h:ixN n i=some j):seqIndex? i n=some j∧j<n∧-(n:Int)≤i∧i<n:=by
  unfold ixN at h
  by_cases h0:0≤i
  · rw [if_pos h0] at h
    by_cases h1:i<n
    · rw [if_pos h1] at h
      have e:i.toNat=j:=Option.some.inj h
      exact ⟨by rw [seqIndex_of h0 h1,e],by omega,by omega,h1⟩
    · rw [if_neg h1] at h;cases h
  · rw [if_neg h0] at h
    by_cases h1:-(n:Int)≤i
    · rw [if_pos h1] at h
      have e:(i+n).toNat=j:=Option.some.inj h
      exact ⟨by rw [seqIndex_neg (by omega) h1,e],by omega,h1,by omega⟩
    · rw [if_neg h1] at h;cases h
theorem qgS {α:Type} {xs:List α} {i:Int} {v:α} (h:atI xs i=some v):∃ j,seqIndex? i xs.length=some j∧xs[j]?=some v∧j<xs.length∧-(xs.length:Int)≤i∧i<xs.length:=by
  unfold atI at h
  cases e:ixN xs.length i with
  | none=>rw [e] at h;cases h
  | some j =>
    rw [e] at h
    obtain ⟨h1,h2,h3,h4⟩:=qjp e
    exact ⟨j,h1,h,h2,h3,h4⟩
theorem qnm {α:Type} {xs:List α} {j:Nat} {v:α} (h:xs[j]?=some v):atI xs (j:Int)=some v:=by
  have hj:j<xs.length:=(List.getElem?_eq_some_iff.mp h).1
  have e:ixN xs.length (j:Int)=some j:=by
    unfold ixN
    rw [if_pos (by omega),if_pos (by omega)];simp
  unfold atI;rw [e];exact h
def qgV (b:Expr):Prop:=∀ o i,subscripted b false o i=operate [o,i] (getItem o i)
def IxR (X:Cx) (r:R2):Prop :=
  ∀ (value slice:Expr) (pins:List (Addr × Obj)) (s:Shared) (σ:St) (H:Hp) (x y:V) (v u:Value) (Q:VK),Inv X pins σ H s→RelV x v→RelV y u→r x y H Q →
    subscripted slice false v u=operate [v,u] (getItem v u)→wpAny (model X.prog X.w) X.A (subscriptTail value slice v u) (EP X pins σ Q) X.xe s
def MtR (X:Cx) (id:String) (r:V→List V→Hp→VK→Prop):Prop :=
  ∀ (pins:List (Addr × Obj)) (s:Shared) (σ:St) (H:Hp) (x:V) (xs:List V) (v:Value) (us:List Value) (Q:VK),Inv X pins σ H s→RelV x v→Vals xs us→r x xs H Q →
    wpAny (model X.prog X.w) X.A (call (.builtin id) (v::us)) (EP X pins σ Q) X.xe s
section
variable {X : Cx} {a b : Expr} {ta tb : TE} {pos : Pos}
theorem qom {r:R2} (hr:IxR X r) (ha:PE X a ta) (hb:PE X b tb) (hs:qgV b):PE X (.Subscript a b pos) (tOp r ta tb):=by
  intro pins s σ H Q I h
  exact Subscript_ (qqT ha hb I h fun v u s2 x y H2 I2 rx ry q=>hr a b pins s2 σ H2 x y v u Q I2 rx ry q (hs _ _))
def qsv (K:PySem.W.Frag):R2:=fun x y H Q=>∃ p xs i v,x=.ref p∧y=.int i∧SqL K H p xs∧atI xs i=some v∧Q v H
def qsV (K:PySem.W.Frag):R2:=fun x y H Q=>∃ p xs i v,x=.ref p∧y=.int i∧SqT K H p xs∧atI xs i=some v∧Q v H
def qsy:R2:=fun x y H Q=>∃ z i c,x=.str z∧y=.int i∧z.length≤sizeLine∧atI z.cps.toList i=some c∧Q (.str ⟨#[c]⟩) H
theorem qiq:IxR X (qsv X.K):=by
  intro value slice pins s σ H x y v u Q I rx ry h hs
  obtain ⟨p,xs,i,z,rfl,rfl,hq,he,q⟩:=h
  cases rx
  obtain ⟨t,rfl⟩:=ry
  obtain ⟨its,r,pl,hz⟩:=I.list hq
  obtain ⟨j,h1,h2,h3,h4,h5⟩:=qgS he
  obtain ⟨w,ew,rw'⟩:=r.get h2
  have hl:=r.length
  have hn:=qdy
  have fin:EP X pins σ Q w s:=⟨z,H,I,rw',q⟩
  by_cases h0:0≤i
  · have hj:i.toNat=j:=by
      rw [seqIndex_of h0 h5] at h1
      exact Option.some.inj h1
    exact item_listR pl.isList h0 (by omega) (by rw [hj];simpa using ew) fin hs
  · have hj:(i+(its.toArray.size:Int)).toNat=j:=by
      rw [seqIndex_neg (by omega) h4] at h1
      rw [List.size_toArray,← hl]
      exact Option.some.inj h1
    exact subscriptTail_builtinR (x:=w) pl.isList.typeIs slot_list_getitem.lookup
      (wpAny_getItem_list_neg (Q:=fun r s'=>r=w∧EP X pins σ Q r s') pl.isList (by omega) (by rw [List.size_toArray] <;> omega) (by omega) (by rw [hj];simpa using ew) ⟨rfl,fin⟩) hs
theorem qnV:IxR X (qsV X.K):=by
  intro value slice pins s σ H x y v u Q I rx ry h hs
  obtain ⟨p,xs,i,z,rfl,rfl,hq,he,q⟩:=h
  cases rx
  obtain ⟨t,rfl⟩:=ry
  obtain ⟨its,r,pl,hz⟩:=I.tuple hq
  obtain ⟨j,h1,h2,h3,h4,h5⟩:=qgS he
  obtain ⟨w,ew,rw'⟩:=r.get h2
  have hl:=r.length
  have hn:=qdy
  have fin:EP X pins σ Q w s:=⟨z,H,I,rw',q⟩
  exact subscriptTail_builtinR (x:=w) pl.typeIs slot_tuple_getitem.lookup
    (getItem_tuple (j:=j) (Q:=fun r s'=>r=w∧EP X pins σ Q r s') pl (by omega) (by omega) (by rw [List.size_toArray,← hl];exact h1) (by simpa using ew) ⟨rfl,fin⟩) hs
theorem qoD:IxR X qsy:=by
  intro value slice pins s σ H x y v u Q I rx ry h hs
  obtain ⟨z,i,c,rfl,rfl,hz,he,q⟩:=h
  obtain ⟨t,rfl⟩:=rx
  obtain ⟨t',rfl⟩:=ry
  obtain ⟨j,h1,h2,h3,h4,h5⟩:=qgS he
  have hl:z.cps.toList.length=z.length:=by simp [Str.length]
  rw [hl] at h1 h4 h5
  have hn:=qdy
  exact tail_any (typeIs_str s z t) slot_str_getitem.lookup (getItem_str (c:=c) (by
    have e1:decide (i < -(2 ^ 63:Int))=false:=decide_eq_false (by omega)
    have e2:decide (i≥2 ^ 63)=false:=decide_eq_false (by omega)
    rw [e1,e2,Bool.or_false]) (by rw [h1];simpa using h2) ⟨.str ⟨#[c]⟩,H,I.tok _,⟨_,rfl⟩,q⟩) hs
theorem qig (its:List Value) (n j:Nat) (u:Value):Obj.mapSeq (·.setIfInBounds j u) { cls:=.type "list",data:=.seq its.toArray n }={ cls:=.type "list",data:=.seq (its.set j u).toArray n }:=by
  simp [Obj.mapSeq]
theorem Inv.lst {pins:List (Addr × Obj)} {σ:St} {H:Hp} {s:Shared} {p:Addr} {xs:List V} (I:Inv X pins σ H s) (h:H p=some (.lst xs)) :
    ∃ (its:List Value) (n:Nat),Vals xs its∧s.heap.get? p=some { cls:=.type "list",data:=.seq its.toArray n }∧xs.length≤sizeLine:=by
  obtain ⟨z,its,n,r,e⟩:=I.hok p _ h
  exact ⟨its,n,r,e,z⟩
theorem Inv.lstUpd {pins:List (Addr × Obj)} {σ:St} {H:Hp} {s:Shared} {p:Addr} {xs ys:List V} {its its':List Value} {n n':Nat} {f:Obj→Obj} (I:Inv X pins σ H s) (h:H p=some (.lst xs))
    (ho:s.heap.get? p=some { cls:=.type "list",data:=.seq its.toArray n }) (hf:f { cls:=.type "list",data:=.seq its.toArray n }={ cls:=.type "list",data:=.seq its'.toArray n' }) (r:Vals ys its') (hz:ys.length≤sizeLine) (t:Nat) :
    Inv X pins σ (upd H p (.lst ys)) { s with heap:=s.heap.update p f,toks:=t }:=by
  have e:(s.heap.update p f).get? p=some { cls:=.type "list",data:=.seq its'.toArray n' }:=by
    rw [Heap.get?_update_self f ho (by rw [hf] <;> rfl),hf]
  refine I.write (x:=p) (e:=p) (by rw [h];trivial) (.inl rfl) (fun b u hb q=>(Heap.get?_update_other _ _ (Ne.symm hb)).trans q) ⟨_,e⟩ ?_
  exact ⟨hz,its',n',r,e⟩
def qqv:V→V→V→Hp→(Hp→Prop)→Prop:=fun o i v H Q=>∃ p xs k j,o=.ref p∧i=.int k∧H p=some (.lst xs)∧ixN xs.length k=some j∧Q (upd H p (.lst (xs.set j v)))
theorem qcV:qp7 X qqv:=by
  intro pins s σ H o i v ov iv u Q I ro ri rv h
  obtain ⟨p,xs,k,j,rfl,rfl,hp,hj,q⟩:=h
  cases ro
  obtain ⟨t,rfl⟩:=ri
  obtain ⟨its,n,r,ho,hz⟩:=I.lst hp
  obtain ⟨h1,h2,h3,h4⟩:=qjp hj
  have hl:=r.length
  have hn:=qdy
  have I':Inv X pins σ (upd H p (.lst (xs.set j v))) { s with heap:=s.heap.update p (Obj.mapSeq (·.setIfInBounds j u)) } :=
    I.lstUpd hp ho (qig its n j u) (r.set rv j) (by rw [List.length_set];exact hz) s.toks
  by_cases h0:0≤k
  · have hk:k.toNat=j:=by
      rw [seqIndex_of h0 h4] at h1
      exact Option.some.inj h1
    exact PySem.W.ki_setAt ho h0 (by omega) (by rw [List.size_toArray,← hl];exact h4) (by rw [hk];exact ⟨_,I',q⟩)
  · have hk:(k+(its.toArray.size:Int)).toNat=j:=by
      rw [seqIndex_neg (by omega) h3] at h1
      rw [List.size_toArray,← hl]
      exact Option.some.inj h1
    exact PySem.W.ki_setBack ho (by omega) (by rw [List.size_toArray,← hl];exact h3) (by omega) (by rw [hk];exact ⟨_,I',q⟩)
theorem qfN (lo hi:Option Int) (n:Nat):(sliceBounds lo hi none n).1=((HT.sIx n 0 lo:Nat):Int)∧(sliceBounds lo hi none n).2.1=((HT.sIx n n hi:Nat):Int)∧(sliceBounds lo hi none n).2.2=1:=by
  refine ⟨?_,?_,rfl⟩
  · cases lo with
    | none=>simp [sliceBounds,HT.sIx]
    | some i =>
      simp only [sliceBounds,HT.sIx,Option.getD_none,show (1:Int)>0 by decide,if_true]
      by_cases h:i<0
      · simp only [h,if_true] <;> omega
      · simp only [h,if_false] <;> omega
  · cases hi with
    | none=>simp [sliceBounds,HT.sIx]
    | some i =>
      simp only [sliceBounds,HT.sIx,Option.getD_none,show (1:Int)>0 by decide,if_true]
      by_cases h:i<0
      · simp only [h,if_true] <;> omega
      · simp only [h,if_false] <;> omega
theorem qfz (its:List Value) (lo hi:Option Int):slicePick its.toArray lo hi none=((its.drop (HT.sIx its.length 0 lo)).take (HT.sIx its.length its.length hi - HT.sIx its.length 0 lo)).toArray:=by
  obtain ⟨h1,h2,h3⟩:=qfN lo hi its.toArray.size
  unfold slicePick
  rw [h1,h2,h3]
  simp only [sliceRange_one,pick_run,List.size_toArray] <;> rfl
def qrN (K:PySem.W.Frag):V→Option Int→Option Int→Hp→VK→Prop:=fun x lo hi H Q=>∃ a xs,x=.ref a∧SqL K H a xs∧∀ p,H p=none→Q (.ref p) (upd H p (.lst (qlM xs lo hi)))
theorem sl_list:SlR X (qrN X.K):=by
  intro pins s σ H x v vl vu lo hi sl Q I rx hs pl pu h
  obtain ⟨a,xs,rfl,hx,q⟩:=h
  cases rx
  obtain ⟨its,r,ht,hz⟩:=I.list hx
  have hlen:=r.length
  refine ⟨"list",_,slot_list_getitem.lookup,ht.isList.typeIs,?_⟩
  refine wpAny_getItem_list_slice ht.isList hs pl pu .none (by simp) ?_ (by rw [List.size_toArray] <;> omega)
  rw [qfz,← hlen]
  refine ⟨.ref s.heap.objs.size,_,I.laid (t':=s.toks) (o:=.lst (qlM xs lo hi)) (fun b ob q=>Heap.get?_push_of_some _ q) (Nat.le_refl _) ?_,rfl,q _ (I.hok.fresh (Nat.le_refl _))⟩
  exact ⟨Nat.le_trans (qed xs lo hi) hz,_,0,(r.drop (HT.sIx xs.length 0 lo)).take (HT.sIx xs.length xs.length hi - HT.sIx xs.length 0 lo),Heap.get?_push_size _ rfl⟩
def qfF:V→Bool
  | .non=>true
  | .bl _=>true
  | .int _=>true
  | .str _=>true
  | _=>false
def eqV:V→V→Bool
  | .non,.non=>true
  | .bl a,.bl b=>a == b
  | .bl a,.int b=>(if a then 1 else 0) == b
  | .int a,.bl b=>a == (if b then 1 else 0)
  | .int a,.int b=>a == b
  | .str a,.str b=>a == b
  | _,_=>false
theorem qou {A:Around} {s:Shared} {y x:V} {u v:Value} (ry:RelV y u) (rx:RelV x v) (fy:qfF y=true) (fx:qfF x=true):SeqAt.EqAt A s u v (eqV y x):=by
  cases y with
  | non =>
    cases ry
    cases x with
    | non=>cases rx;exact SeqAt.EqAt.same _
    | bl b=>cases rx;exact SeqAt.EqAt.none_bool b
    | int b=>obtain ⟨t,rfl⟩:=rx;exact SeqAt.EqAt.none_int b t
    | str b=>obtain ⟨t,rfl⟩:=rx;exact SeqAt.EqAt.none_str b t
    | _=>exact absurd (show false=true from fx) Bool.false_ne_true
  | bl a =>
    cases ry
    cases x with
    | non=>cases rx;exact SeqAt.EqAt.bool_none a
    | bl b=>cases rx;exact SeqAt.EqAt.bool_bool a b
    | int b=>obtain ⟨t,rfl⟩:=rx;exact SeqAt.EqAt.bool_int a b t
    | str b=>obtain ⟨t,rfl⟩:=rx;exact SeqAt.EqAt.bool_str a b t
    | _=>exact absurd (show false=true from fx) Bool.false_ne_true
  | int a =>
    obtain ⟨t',rfl⟩:=ry
    cases x with
    | non=>cases rx;exact SeqAt.EqAt.int_none a t'
    | bl b=>cases rx;exact SeqAt.EqAt.int_bool a t' b
    | int b=>obtain ⟨t,rfl⟩:=rx;exact SeqAt.EqAt.int_int a t' b t
    | str b=>obtain ⟨t,rfl⟩:=rx;exact SeqAt.EqAt.int_str a t' b t
    | _=>exact absurd (show false=true from fx) Bool.false_ne_true
  | str a =>
    obtain ⟨t',rfl⟩:=ry
    cases x with
    | non=>cases rx;exact SeqAt.EqAt.str_none a t'
    | bl b=>cases rx;exact SeqAt.EqAt.str_bool a t' b
    | int b=>obtain ⟨t,rfl⟩:=rx;exact SeqAt.EqAt.str_int a t' b t
    | str b=>obtain ⟨t,rfl⟩:=rx;exact SeqAt.EqAt.str_str a t' b t
    | _=>exact absurd (show false=true from fx) Bool.false_ne_true
  | _=>exact absurd (show false=true from fy) Bool.false_ne_true
def eqU (x:V) (u:Value):Bool:=match u with
  | .none=>eqV .non x
  | .bool b=>eqV (.bl b) x
  | .int i _=>eqV (.int i) x
  | .str z _=>eqV (.str z) x
  | _=>false
theorem qlK {x y:V} {u:Value} (r:RelV y u) (f:qfF y=true):eqU x u=eqV y x:=by
  cases y with
  | non=>cases r;rfl
  | bl b=>cases r;rfl
  | int i=>obtain ⟨t,rfl⟩:=r;rfl
  | str z=>obtain ⟨t,rfl⟩:=r;rfl
  | _=>exact absurd (show false=true from f) Bool.false_ne_true
theorem qd6 {x:V}:∀ {xs:List V} {us:List Value},Vals xs us→xs.all qfF=true→us.any (eqU x)=xs.any fun y=>eqV y x
  | _,_,.nil,_=>rfl
  | y::xs,u::us,.cons r t,f=>by
    rw [List.all_cons,Bool.and_eq_true] at f
    rw [List.any_cons,List.any_cons,qlK r f.1,qd6 t f.2]
theorem qc4 {A:Around} {s:Shared} {x:V} {v:Value} (rx:RelV x v) (fx:qfF x=true):∀ {xs:List V} {us:List Value},Vals xs us→xs.all qfF=true→∀ u∈us,SeqAt.EqAt A s u v (eqU x u)
  | _,_,.nil,_=>fun u hu=>by cases hu
  | y::xs,u::us,.cons r t,f=>fun u' hu=>by
    rw [List.all_cons,Bool.and_eq_true] at f
    rcases List.mem_cons.mp hu with rfl | hu
    · rw [qlK r f.1];exact qou r rx f.1 fx
    · exact qc4 rx fx t f.2 u' hu
def inV (x:V) (xs:List V):Bool:=xs.any fun y=>eqV y x
def rIn (K:PySem.W.Frag) (neg:Bool):R2:=fun x y H Q=>∃ p xs,y=.ref p∧(SqL K H p xs∨SqT K H p xs)∧qfF x=true∧xs.all qfF=true∧Q (.bl (if neg then !inV x xs else inV x xs)) H
theorem qi5:OpR X (compareOp .In) (rIn X.K false):=by
  intro pins s σ H x y v u Q I rx ry h
  obtain ⟨p,xs,rfl,hq,fx,fs,q⟩:=h
  cases ry
  rcases hq with hq | hq
  · obtain ⟨its,r,pl,hz⟩:=I.list hq
    refine SeqAt.in_listAt (eqU x) pl.isList (fun w hw=>qc4 rx fx r fs w (by simpa using hw)) ⟨.bl _,H,I,rfl,?_⟩
    rw [show its.toArray.any (eqU x)=its.any (eqU x) by simp,qd6 r fs]
    exact q
  · obtain ⟨its,r,pl,hz⟩:=I.tuple hq
    refine SeqAt.in_tupleAt (eqU x) pl (fun w hw=>qc4 rx fx r fs w (by simpa using hw)) ⟨.bl _,H,I,rfl,?_⟩
    rw [show its.toArray.any (eqU x)=its.any (eqU x) by simp,qd6 r fs]
    exact q
theorem qgi:OpR X (compareOp .NotIn) (rIn X.K true):=by
  intro pins s σ H x y v u Q I rx ry h
  obtain ⟨p,xs,rfl,hq,fx,fs,q⟩:=h
  cases ry
  rcases hq with hq | hq
  · obtain ⟨its,r,pl,hz⟩:=I.list hq
    refine SeqAt.notIn_listAt (eqU x) pl.isList (fun w hw=>qc4 rx fx r fs w (by simpa using hw)) ⟨.bl _,H,I,rfl,?_⟩
    rw [show its.toArray.any (eqU x)=its.any (eqU x) by simp,qd6 r fs]
    exact q
  · obtain ⟨its,r,pl,hz⟩:=I.tuple hq
    refine SeqAt.notIn_tupleAt (eqU x) pl (fun w hw=>qc4 rx fx r fs w (by simpa using hw)) ⟨.bl _,H,I,rfl,?_⟩
    rw [show its.toArray.any (eqU x)=its.any (eqU x) by simp,qd6 r fs]
    exact q
theorem qcv:qez X (.builtin "len") (fun xs H Q=>∃ p ys,xs=[.ref p]∧(SqL X.K H p ys∨SqT X.K H p ys)∧Q (.int ys.length) H):=by
  intro pins s σ H xs us Q I r h
  obtain ⟨p,ys,rfl,hq,q⟩:=h
  obtain ⟨u,rfl,rx⟩:=qkN r
  cases rx
  have hn:=qdy
  rcases hq with hq | hq
  · obtain ⟨its,r',pl,hz⟩:=I.list hq
    have hlen:=r'.length
    exact Calls.call_len_list pl.isList (by simp only [List.size_toArray] <;> omega) ⟨.int ys.length,H,I.tok _,⟨s.toks+1,by rw [List.size_toArray,hlen]⟩,q⟩
  · obtain ⟨its,r',pl,hz⟩:=I.tuple hq
    have hlen:=r'.length
    exact len_tuple pl (by simp only [List.size_toArray] <;> omega) ⟨.int ys.length,H,I.tok _,⟨s.toks+1,by rw [List.size_toArray,hlen]⟩,q⟩
theorem qgf:qez X (.builtin "len") (fun xs H Q=>∃ z,xs=[.str z]∧z.length≤sizeLine∧Q (.int z.length) H):=by
  intro pins s σ H xs us Q I r h
  obtain ⟨z,rfl,hz,q⟩:=h
  obtain ⟨u,rfl,t,rfl⟩:=qkN r
  have hn:=qdy
  exact len_str (by omega) ⟨.int z.length,H,I.tok _,⟨_,rfl⟩,q⟩
theorem qcc:qez X (.type "tuple") (fun xs H Q=>∃ p ys,xs=[.ref p]∧((SqL X.K H p ys∧∀ l,H l=none→Q (.ref l) (upd H l (.tup ys)))∨(SqT X.K H p ys∧Q (.ref p) H))):=by
  intro pins s σ H xs us Q I r h
  obtain ⟨p,ys,rfl,h⟩:=h
  obtain ⟨u,rfl,rx⟩:=qkN r
  cases rx
  rcases h with ⟨hq,q⟩ | ⟨hq,q⟩
  · obtain ⟨its,r',pl,hz⟩:=I.list hq
    have hlen:=r'.length
    refine call_tuple_list pl.isList (fun h' kp=>?_) (by simp only [List.size_toArray] <;> omega)
    have I1:Inv X pins σ H { s with heap:=h' }:=I.kept (t':=s.toks) kp
    have I2:Inv X pins σ (upd H h'.objs.size (.tup ys)) { s with heap:=h'.push { cls:=.type "tuple",data:=.seq its.toArray } } :=
      I1.laid (t':=s.toks) (fun b o e=>Heap.get?_push_of_some _ e) (Nat.le_refl _) (show ObjOk X.prog X.w _ _ _ (.tup ys) from ⟨hz,its,r',IsTupD.new _ _⟩)
    exact ⟨.ref h'.objs.size,_,I2,rfl,q _ (I1.hok.fresh (Nat.le_refl _))⟩
  · obtain ⟨its,r',pl,hz⟩:=I.tuple hq
    exact call_tuple_same pl ⟨.ref p,H,I,rfl,q⟩
def tyV (K:PySem.W.Frag) (T:String) (x:V) (H:Hp):Prop:=match x with
  | .str _=>T="str"
  | .int _=>T="int"
  | .ref p=>(T="list"∧∃ xs,SqL K H p xs)∨(T="tuple"∧((∃ xs,H p=some (.tup xs))∨∃ o,K.lookup p=some o∧o.cls=.type "tuple"∧o.dict=none)) ∨
      (T="dict"∧((∃ kvs,H p=some (.dK kvs))∨∃ kvs,H p=some (.dT kvs)))∨(T="set"∧∃ S n,H p=some (.set S n))
  | _=>False
theorem qpz {pins:List (Addr × Obj)} {σ:St} {H:Hp} {s:Shared} {T:String} {x:V} {v:Value} (I:Inv X pins σ H s) (r:RelV x v) (ty:tyV X.K T x H) :
    s.TypeIs v T∧∀ a,v=.ref a→∃ ob,s.heap.get? a=some ob∧ob.dict=none:=by
  cases x with
  | str z =>
    obtain ⟨t,rfl⟩:=r
    cases (show T="str" from ty)
    exact ⟨typeIs_str s z t,fun _ e=>nomatch e⟩
  | int i =>
    obtain ⟨t,rfl⟩:=r
    cases (show T="int" from ty)
    exact ⟨typeIs_int s i t,fun _ e=>nomatch e⟩
  | ref p =>
    cases r
    rcases ty with ⟨rfl,xs,hq⟩ | ⟨rfl,⟨xs,hk⟩ | ⟨o,hk,hc,hd⟩⟩ | ⟨rfl,hk⟩ | ⟨rfl,S,n,hk⟩
    · obtain ⟨its,_,pl,_⟩:=I.list hq
      refine ⟨pl.isList.typeIs,fun a e=>?_⟩
      cases e
      obtain ⟨o,n,e,c,hd,_⟩:=pl
      exact ⟨o,e,hd⟩
    · obtain ⟨_,_,_,o,e,⟨c,hd⟩,_⟩:=I.hok p _ hk
      refine ⟨⟨o,e,c⟩,fun a e2=>?_⟩
      cases e2
      exact ⟨o,e,hd⟩
    · refine ⟨⟨o,I.kIn p o hk,hc⟩,fun a e=>?_⟩
      cases e
      exact ⟨o,I.kIn _ o hk,hd⟩
    · have z:∃ o,s.heap.get? p=some o∧o.ExactDict:=by
        rcases hk with ⟨kvs,hk⟩ | ⟨kvs,hk⟩
        · obtain ⟨_,_,_,_,o,_,_,e,ex,_⟩:=I.hok p _ hk
          exact ⟨o,e,ex⟩
        · obtain ⟨_,_,_,_,o,_,_,e,ex,_⟩:=I.hok p _ hk
          exact ⟨o,e,ex⟩
      obtain ⟨o,e,ex⟩:=z
      refine ⟨⟨o,e,ex.1⟩,fun a e2=>?_⟩
      cases e2
      exact ⟨o,e,ex.2.1⟩
    · obtain ⟨o,_,_,_,e,ex,_⟩:=I.hok p _ hk
      refine ⟨⟨o,e,ex.1⟩,fun a e2=>?_⟩
      cases e2
      exact ⟨o,e,ex.2.1⟩
  | _=>exact False.elim ty
def tBM (K:PySem.W.Frag) (T:String) (r:V→List V→Hp→VK→Prop) (to:TE) (t:TA):TE:=fun σ H Q=>to σ H fun x H1=>tyV K T x H1∧t σ H1 fun xs H2=>r x xs H2 Q
variable {o e : Expr} {es : List Expr} {to : TE} {t : TA} {name : Str} {apos cpos : Pos} {T id : String} {r : V → List V → Hp → VK → Prop}
theorem qgO (pa:PlainAttrs T) (slot:Slot T name id) (hty:typeOf (.builtin id)=pure (.type "method_descriptor")) (hm:MtR X id r) (ho:PE X o to) (ha:PA X (e::es) t)
    (hbase:attributeBase o name X.env (eval o X.env)=eval o X.env:=by rfl)
    (hfew:((backTo cpos (starEach (e::es) X.env)).all (fun x=>!x.1) && (backToKw cpos (keywordEach [] X.env)).all (fun x=>x.1.isSome)
      && decide ((e::es).length+([]:List Keyword).length+(if ([]:List Keyword).isEmpty then 0 else 1)<30))=true:=by rfl)
    (hline:(apos.endLine == cpos.line)=true:=by rfl) (hs:starEach (e::es) X.env=(false,eval e X.env)::starEach es X.env:=by rfl) (hplain:(backTo cpos (starEach es X.env)).any (·.1)=false:=by rfl) :
    PE X (.Call (.Attribute o name apos) (e::es) [] cpos) (tBM X.K T r to t):=by
  intro pins s σ H Q I h
  refine wpAny_Call_method_late hbase hfew hline rfl (thn (ho pins s σ H _ I h) fun v s1 hq0=>?_)
  obtain ⟨x,H1,I1,r1,ty,q1⟩:=hq0
  obtain ⟨h1,h2⟩:=qpz I1 r1 ty
  refine ⟨T,id,pa,slot,hty,h1,h2,?_⟩
  have hA:=ha cpos pins s1 σ H1 _ I1 q1
  rw [hs] at hA ⊢
  refine Calls.callWith_builtin (by show (false || (backTo cpos (starEach es X.env)).any (·.1))=false;rw [hplain] <;> rfl) (Calls.evalArgs_plain ?_)
  exact thn hA fun us s2 hq1=>by obtain ⟨vs,H2,I2,r2,q2⟩:=hq1;exact hm pins s2 σ H2 x vs v us Q I2 r1 r2 q2
end
def MtM (X:Cx) (id:String) (r:V→List V→Hp→VK→Prop):Prop :=
  ∀ (pins:List (Addr × Obj)) (s:Shared) (σ:St) (H:Hp) (x:V) (xs:List V) (v:Value) (us:List Value) (Q:VK),Inv X pins σ H s→RelV x v→Vals xs us→r x xs H Q →
    wpAny (model X.prog X.w) X.A (call (.builtin id) (v::us)) (EP X pins σ Q) X.xe s
theorem Vals.one:∀ {x:V} {us:List Value},Vals [x] us→∃ u,us=[u]∧RelV x u
  | _,_,.cons r .nil=>⟨_,rfl,r⟩
theorem Vals.rep {xs:List V} {us:List Value} (h:Vals xs us):∀ k:Nat,Vals (List.replicate k xs).flatten (List.replicate k us).flatten
  | 0=>.nil
  | k+1=>by
    rw [List.replicate_succ,List.replicate_succ,List.flatten_cons,List.flatten_cons]
    exact Vals.append h (Vals.rep h k)
theorem qes (its:List Value):∀ (k:Nat) (acc:List Value),
    List.foldl (fun x1 x2=>x1++x2) acc.toArray (List.replicate k its.toArray)=(acc++(List.replicate k its).flatten).toArray
  | 0,acc=>by simp
  | k+1,acc=>by
    have e:acc.toArray++its.toArray=(acc++its).toArray:=by simp
    have e2:(acc++its)++(List.replicate k its).flatten=acc++(List.replicate (k+1) its).flatten:=by
      rw [List.replicate_succ,List.flatten_cons,List.append_assoc]
    rw [← e2,← qes its k (acc++its),← e,List.replicate_succ,List.foldl_cons]
section
variable {X : Cx} {pins : List (Addr × Obj)} {σ : St} {H : Hp} {s : Shared} {l b : Addr} {xs ys zs : List V}
theorem Inv.lset {its its':List Value} {n:Nat} {f:Array Value→Array Value} {t':Nat} (I:Inv X pins σ H s) (hH:H l=some (.lst xs))
    (e:s.heap.get? l=some { cls:=.type "list",data:=.seq its.toArray n }) (hf:f its.toArray=its'.toArray) (hv:Vals ys its') (hz:ys.length≤sizeLine) :
    Inv X pins σ (upd H l (.lst ys)) { s with heap:=s.heap.update l (Obj.mapSeq f),toks:=t' }:=by
  have q:=PySem.IsL.update e f
  rw [hf] at q
  refine I.write (x:=l) (e:=l) (by rw [hH];exact trivial) (.inl rfl) (fun b' u hb hu=>(Heap.get?_update_other s.heap (Obj.mapSeq f) (Ne.symm hb)).trans hu) ⟨_,q⟩ ?_
  exact ⟨hz,its',_,hv,q⟩
theorem Inv.lnew {its:List Value} {t':Nat} (I:Inv X pins σ H s) (hv:Vals ys its) (hz:ys.length≤sizeLine) :
    Inv X pins σ (upd H s.heap.objs.size (.lst ys)) { s with heap:=s.heap.push { cls:=.type "list",data:=.seq its.toArray },toks:=t' } :=
  I.laid (fun _ _ q=>Heap.get?_push_of_some _ q) (Nat.le_refl _) ⟨hz,its,0,hv,Heap.get?_push_size _ rfl⟩
theorem Inv.fresh (I:Inv X pins σ H s):H s.heap.objs.size=none:=I.hok.fresh (Nat.le_refl _)
theorem Inv.lstM (I:Inv X pins σ H s) (hH:H l=some (.lst xs)):xs.length≤sizeLine∧∃ (its:List Value) (n:Nat),Vals xs its∧xs.length=its.length∧s.heap.get? l=some { cls:=.type "list",data:=.seq its.toArray n }:=by
  obtain ⟨z,its,n,r,e⟩:=I.hok l _ hH
  exact ⟨z,its,n,r,r.length,e⟩
theorem qko {n:Nat} (h:n≤sizeLine):Builtin.List.listTooLong n=false:=by
  unfold Builtin.List.listTooLong
  exact decide_eq_false (by omega)
end
section
variable {X : Cx}
def qm6:V→List V→Hp→VK→Prop:=fun x vs H Q=>∃ l xs y,x=.ref l∧vs=[y]∧H l=some (.lst xs)∧xs.length<sizeLine∧Q .non (upd H l (.lst (xs++[y])))
theorem qc3:MtM X "list.append" qm6:=by
  intro pins s σ H x vs v us Q I rx rv h
  obtain ⟨l,xs,y,rfl,rfl,hH,hz,q⟩:=h
  cases rx
  obtain ⟨u,rfl,ru⟩:=rv.one
  obtain ⟨z,its,n,r,hl,e⟩:=I.lstM hH
  refine call_meets F.slot_list_append ⟨_,e,rfl⟩ F.entry_list_append (F.args_list_append_2 _ _) (PySem.list_append l its.toArray n u (by rw [List.size_toArray];omega)) ⟨e,?_⟩
  refine ⟨.non,_,I.lset (its':=its++[u]) hH e (by simp) (r.append (.cons ru .nil)) ?_,rfl,q⟩
  rw [List.length_append,List.length_singleton]
  omega
def qsG:R2:=fun x y H Q=>∃ l b xs zs,x=.ref l∧y=.ref b∧H l=some (.lst xs)∧H b=some (.lst zs)∧xs.length+zs.length≤sizeLine∧∀ p,H p=none→Q (.ref p) (upd H p (.lst (xs++zs)))
theorem qpj:OpR X (binaryOp .Add) qsG:=by
  intro pins s σ H x y v u Q I rx ry h
  obtain ⟨l,b,xs,zs,rfl,rfl,hH,hB,hz,q⟩:=h
  cases rx
  cases ry
  obtain ⟨z,its,n,r,hl,e⟩:=I.lstM hH
  obtain ⟨z2,its2,n2,r2,hl2,e2⟩:=I.lstM hB
  refine PySem.P.add_list e e2 ?_ (by rw [List.size_toArray,List.size_toArray];omega)
  have ea:its.toArray++its2.toArray=(its++its2).toArray:=by simp
  rw [ea]
  exact ⟨.ref _,_,I.lnew (t':=s.toks) (r.append r2) (by rw [List.length_append];omega),rfl,q _ I.fresh⟩
def qr3:R2:=fun x y H Q=>∃ l k xs,x=.ref l∧y=.int k∧H l=some (.lst xs)∧-(2 ^ 63)≤k∧k<2 ^ 63∧xs.length*k.toNat≤sizeLine ∧
  ∀ p,H p=none→Q (.ref p) (upd H p (.lst (List.replicate k.toNat xs).flatten))
theorem qgP {α:Type} (xs:List α) (k:Nat):(List.replicate k xs).flatten.length=k*xs.length:=by
  induction k with
  | zero=>simp
  | succ k ih=>rw [List.replicate_succ,List.flatten_cons,List.length_append,ih,Nat.succ_mul,Nat.add_comm]
theorem qlx:OpR X (binaryOp .Mult) qr3:=by
  intro pins s σ H x y v u Q I rx ry h
  obtain ⟨l,k,xs,rfl,rfl,hH,h1,h2,hz,q⟩:=h
  cases rx
  obtain ⟨t,rfl⟩:=ry
  obtain ⟨z,its,n,r,hl,e⟩:=I.lstM hH
  have hlen:its.toArray.size*k.toNat≤sizeLine:=by rw [List.size_toArray,← hl];exact hz
  have hcap:¬ its.toArray.size*k.toNat>(2 ^ 63 - 1) / 8:=by
    have:(sizeLine:Nat)≤(2 ^ 63 - 1) / 8:=by decide
    omega
  have hfit:¬ (!Builtin.List.listFitsIndex k)=true:=by
    rw [fitsIndex_both h1 h2]
    exact Bool.false_ne_true
  have hlong:¬ Builtin.List.listTooLong (its.toArray.size*k.toNat)=true:=by
    rw [qko hlen]
    exact Bool.false_ne_true
  have hnew:List.foldl (fun x1 x2=>x1++x2) #[] (List.replicate (if its.toArray.isEmpty=true then 0 else k.toNat) its.toArray)=(List.replicate k.toNat its).flatten.toArray:=by
    have f0:∀ m:Nat,List.foldl (fun x1 x2=>x1++x2) #[] (List.replicate m its.toArray)=(List.replicate m its).flatten.toArray:=fun m=>by
      have:=qes its m []
      rw [List.nil_append] at this
      exact this
    rw [f0]
    cases its with
    | nil=>simp
    | cons a r'=>rw [if_neg (by simp)]
  refine wpAny_binaryOp_repeat_ref (T:="list") (U:="int") (by decide) ⟨_,e,rfl⟩ (fun s'=>typeIs_int s' k t) noFill_list_mul F.fills_int_mul F.slot_int_rmul repeat_list F.slot_int_index.lookup
    (call_meets F.slot_int_rmul (typeIs_int s k t) F.entry_int_rmul (F.args_int_rmul_2 _ _) (int___rmul___int_list k t l its.toArray n)
      ⟨e,rfl,⟨_,e,rfl⟩,call_meets F.slot_list_mul ⟨_,e,rfl⟩ F.entry_list_mul (F.args_list_mul_2 _ _) (AutoListH.list___mul___list_int_3 l its.toArray n k t hfit hcap hlong) ⟨e,?_⟩⟩)
  rw [hnew]
  exact ⟨.ref _,_,I.lnew (t':=s.toks) (r.rep k.toNat) (by rw [qgP,Nat.mul_comm];exact hz),rfl,q _ I.fresh⟩
end
section
variable {prog : Program} {w : World} {A : Around} {E : Value → Shared → Prop} {s : Shared}
end
section
variable {X : Cx}
end
end L2
namespace Att
open PySem PySem.W PySem.Calls PyProof.Rows
theorem qei {P:Params} {h:Heap}:∀ (ns:List Int) (vs:List Value),WellAll P h vs (ns.map WData.int)→IntsAre vs ns:=by
  intro ns
  induction ns with
  | nil =>
    intro vs w
    rw [List.map_nil] at w
    cases w
    exact .nil
  | cons n ns ih =>
    intro vs w
    rw [List.map_cons] at w
    cases w with
    | cons a b =>
      cases a
      exact .cons _ _ (ih _ b)
theorem qjW {l:OpenLaw} {n:Nat} (hn:l.most=some n) {P:Params} {h:Heap} {args:List WData} {vals:List Value}
    (hpre:l.row.toRowW.claim.pre args=true) (hwl:WellAll P h vals args) :
    ∃ a vs ns,vals=[Value.ref a]∧args=[WData.list (ns.map WData.int)]∧h.get? a=some { cls:=.type "list",data:=.seq vs.toArray }∧IntsAre vs ns∧ns.length≤n:=by
  have hsh:WShape.hasAll [] args [.list .int]=true:=(pre_splitW hpre).1
  have hc:l.pre.holds [] { args:=args }=true:=(pre_splitW hpre).2
  obtain ⟨d,r,rfl,h1,h2⟩:=hasAllW_cons hsh
  obtain rfl:=hasAllW_nil h2
  obtain ⟨xs,rfl,h3⟩:=hasW_list h1
  obtain ⟨ns,rfl⟩:=items_int h3
  have hlen:ns.length≤n:=by
    unfold OpenLaw.pre at hc
    have h4:(WTm.not (.lt (.lit (.int (n:Int))) (.len (.arg 0)))).holds [] { args:=[.list (ns.map .int)] }=true:=by
      have h4:=(holds_andW hc).1
      rw [hn] at h4
      exact h4
    have h5:=condW_of h4 (w_not (w_lt w_lit (w_len_list (w_arg rfl))))
    rw [List.length_map] at h5
    refine Nat.le_of_not_lt fun q=>?_
    have q':(n:Int)<((ns.length:Nat):Int):=by omega
    first
      | (rw [decide_eq_true q'] at h5;exact absurd h5 (by decide))
      | (simp at h5;omega)
  cases hwl with
  | cons w1 w2 =>
    cases w2
    cases w1 with
    | list ho hall=>exact ⟨_,_,ns,rfl,rfl,ho,qei ns _ hall,hlen⟩
theorem qjy (l:OpenLaw) (args:List WData):l.row.toRowW.claim.post args (.bool true) args=true :=
  postW_of (r:=l.row.toRowW) (X:=(true == true))
    (show WShape.has [] (.bool true) .bool=true by first | rfl | decide | simp [WShape.has,WShape.arms,WShape.armsAll])
    (show (WTm.eq .res (.lit (.bool true))).value [] { args:=args,res:=some (.bool true),after:=args }=some (.bool (true == true)) from w_eq_bool (w_res rfl) w_lit) rfl
theorem attach_call {l:OpenLaw} {n:Nat} {q:Program} {loose:List Str} {XP:(Str→Option Value)→Heap→Prop} {YP:World→Heap→Prop} {d:DefRec}
    (hn:l.most=some n) (hdf:d.params.defaults=[])
    (call:∀ (w:World) (s₀ s₁:Shared) (mg mb:Str→Option Value) (fa:Addr) (o:Obj) (pm cd doc:Value) (a:Addr) (vs:List Value) (ns:List Int),
      Ground q loose [] XP w s₀ mg mb s₁.heap→YP w s₁.heap →
      s₁.heap.get? fa=some o→o.data=.func (docDef d.name d.params d.body d.scope pm cd doc)→s₁.heap.CodeRec cd d.name→mg d.name=some (.ref fa) →
      s₁.heap.get? a=some { cls:=.type "list",data:=.seq vs.toArray }→IntsAre vs ns→ns.length≤n→s₁.gens=#[] →
      codeAny (model l.prog w) callerA (.call (.ref fa) ⟨[.ref a],[]⟩) (fun r s'=>r=.ok (.ret (.bool true))∧OldK s₁.heap s'.heap∧s'.os=s₁.os∧AllBare s'.gens) s₁) :
    WalkO q loose XP YP l.row.toRowW d [] (fun f vs=>PySem.call f vs):=by
  intro w s₀ s₁ mg mb G Y fa o pm cd doc dV kV ho hd hcd hD hmg hg args vals as hpre hlay hrd hwl hlo
  obtain rfl:dV=.none:=Dflts.none hD hdf
  obtain rfl:kV=.none:=Dflts.noKw hD
  obtain ⟨a,vs,ns,rfl,rfl,hobj,hints,hlen⟩:=qjW hn hpre hwl
  refine enter_call (codeAny_mono (call w s₀ s₁ mg mb fa o pm cd doc a vs ns G Y ho (fd_plain hd) hcd hmg hobj hints hlen hg) fun r s' hq=>?_)
  obtain ⟨rfl,h2,h3,h4⟩:=hq
  exact ⟨.inl ⟨.bool true,.bool true,[],rfl,fun _=>rfl,.bool true,qjy l _,fun _=>⟨List.Pairwise.nil,fun _ hm=>(nomatch hm)⟩⟩,h2,h3,h4⟩
section
variable {prog : Program} {w : World} {A : Around} {E : Value → Shared → Prop} {s : Shared} {K : Frag}
end
end Att
namespace L2
open PySem PySem.Spec PyProof.Rows
theorem qgc:∀ {vs:List Value} {ns:List Int},IntsAre vs ns→Vals (ns.map V.int) vs
  | _,_,.nil=>.nil
  | _,_,.cons n t h=>.cons ⟨t,rfl⟩ (qgc h)
def qq8 (H:Hp):Prop:=∀ b,H b=none∨∃ o xs,H b=some (.frz o (.lst xs))
theorem qlb {P:Program} {w:World} {K:PySem.W.Frag} {mg mb:Str→Option Value} {CX:CXT} {k:Nat} {fa a:Addr} {fd:FuncData} {x:Str} {sp:Sp} {s₁:Shared} {vs:List Value} {ns:List Int}
    (KX:K.In s₁.heap) (hns:s₁.heap.Ns mainGlobals mg) (hb:s₁.heap.Ns builtinsNs mb) (hbb:∀ x:Str,x≠"__name__"→mb x=bootBuiltins x) (hlim:s₁.heap.NoLimit)
    (hbm:∃ bm ob,mg "__builtins__"=some (.ref bm)∧bm≠builtinsNs∧s₁.heap.get? bm=some ob∧ob.cls=.type "module"∧ob.dict=some builtinsNs∧ob.data=.plain) (hse:s₁.heap.NoSeer) (hdg:∃ mc,s₁.heap.Ns cStatics mc∧mc "sys.int_max_str_digits"=none) (hg:s₁.gens=#[])
    (ha:s₁.heap.get? a=some { cls:=.type "list",data:=.seq vs.toArray }) (hi:IntsAre vs ns) (hl:ns.length≤sizeLine) (hr:Room k callerA)
    (F:∀ base:Heap,K.In base→base.Ns mainGlobals mg→FnOk P w K mg base CX k fa fd [x] sp) (hbind:∀ (s:Shared) (u:Value),BindsTo s fd ⟨[u],[]⟩ [(x,u)])
    (hsp:∀ H:Hp,qq8 H→SqL K H a (ns.map V.int)→sp [.ref a] H (fun v _=>v=.bl true) fun _ _ _=>False)
    (hCX:∀ H e s',CX [] H s₁ (fun _ _ _=>False) e s'→False) :
    codeAny (model P w) callerA (.call (.ref fa) ⟨[.ref a],[]⟩) (fun r s'=>r=.ok (.ret (.bool true))∧OldK s₁.heap s'.heap∧s'.os=s₁.os∧AllBare s'.gens) s₁:=by
  have rv:=qgc hi
  have lenV:=hi.length
  have core:∀ H:Hp,qq8 H→SqL K H a (ns.map V.int)→HOk P w H s₁.heap→(∀ b,H b≠none→b=a)→(H a≠none→K.lookup a=none) →
      codeAny (model P w) callerA (.call (.ref fa) ⟨[.ref a],[]⟩) (fun r s'=>r=.ok (.ret (.bool true))∧OldK s₁.heap s'.heap∧s'.os=s₁.os∧AllBare s'.gens) s₁:=by
    intro H hO hS hok hA hK
    have base_of:∀ {b:Addr} {o:Obj},s₁.heap.get? b=some o→H b=none→(qkh s₁.heap H).get? b=some o:=fun e n=>qke e n
    have noA:∀ {b:Addr} {o:Obj} {es:Array DictEntry} {ep:Nat},s₁.heap.get? b=some o→o.data=.dict es ep→H b=none:=fun {b o es ep} e d=>by
      cases q:H b with
      | none=>rfl
      | some u =>
        have e':b=a:=hA b (by rw [q];simp)
        subst e'
        rw [ha] at e;cases e
        have d':Data.seq vs.toArray _=Data.dict es ep:=d
        cases d'
    have nsK:∀ {b:Addr} {m:Str→Option Value},s₁.heap.Ns b m→(qkh s₁.heap H).Ns b m:=fun {b m} hq0=>by obtain ⟨o,es,ep,e,d,r⟩:=hq0;exact ⟨o,es,ep,base_of e (noA e d),d,r⟩
    have hKb:K.In (qkh s₁.heap H):=fun b o e=>base_of (KX b o e) (by
      cases q:H b with
      | none=>rfl
      | some u =>
        have e':b=a:=hA b (by rw [q];simp)
        subst e'
        rw [hK (by rw [q];simp)] at e;cases e)
    have hM:Mod K mg (qkh s₁.heap H):=⟨hKb,nsK hns,⟨mb,nsK hb,hbb⟩,let ⟨mc,h1,h2⟩:=hlim;⟨mc,nsK h1,h2⟩,let ⟨bm,ob,b1,b2,b3,b4,b5,b6⟩:=hbm;⟨bm,ob,b1,b2,base_of b3 (by
      cases q:H bm with
      | none=>rfl
      | some u =>
        have e':bm=a:=hA bm (by rw [q];simp)
        rw [e',ha] at b3;cases b3;injection b4 with z;exact absurd z (by decide)),b4,b5,b6⟩,
      ⟨let ⟨mc,h1,h2⟩:=hse.statics;⟨mc,nsK h1,h2⟩,let ⟨mc,h1,h2⟩:=hse.mods;⟨mc,nsK h1,h2⟩,let ⟨mc,h1,h2⟩:=hse.imp;⟨mc,nsK h1,h2⟩,let ⟨m1,bm,ob,n1,b1,b3,b4,b5⟩:=hse.main;⟨m1,bm,ob,nsK n1,b1,base_of b3 (by
      cases q:H bm with
      | none=>rfl
      | some u =>
        have e':bm=a:=hA bm (by rw [q];simp)
        rw [e',ha] at b3;cases b3;injection b4 with z;exact absurd z (by decide)),b4,b5⟩⟩,let ⟨mc,h1,h2⟩:=hdg;⟨mc,nsK h1,h2⟩⟩
    have e0:Env0 P w K mg (qkh s₁.heap H) callerA [] s₁ H:=⟨rfl,hM,fun b o e=>qmR e,Nat.le_of_eq (qjh _ _),trivial,fun b hb=>absurd (show b∈([]:List Addr) from hb) (by simp),hok,.of_eq hg⟩
    refine codeAny_mono ((F _ hKb (nsK hns)).run callerA [] s₁ H ⟨[.ref a],[]⟩ [.ref a] [.ref a] _ _ hr e0 (hbind s₁ (.ref a)) (.cons rfl .nil) (hsp H hO hS)) fun r s' h=>?_
    cases r with
    | error e=>exact (hCX H e s' h).elim
    | ok fl =>
      cases fl with
      | next=>exact False.elim h
      | brk=>exact False.elim h
      | cont=>exact False.elim h
      | ret u =>
        obtain ⟨v,H',os,bare,un,hok',r',q⟩:=h
        have q':v=.bl true:=q
        subst q'
        obtain rfl:u=Value.bool true:=r'
        refine ⟨rfl,OldK.of_keep fun b o e=>?_,os,bare⟩
        cases q:H b with
        | none=>exact un.keep b o e q (by intro z;exact absurd (show b∈([]:List Addr) from z) (by simp)) (by simp)
        | some u =>
          rcases hO b with z | ⟨ob,xs,z⟩
          · rw [q] at z;cases z
          · have z2:=un.frzs b ob _ z
            obtain ⟨e1,_⟩:=hok b _ z
            obtain ⟨e2,_⟩:=hok' b _ z2
            rw [e] at e1;cases e1
            exact e2
  cases hk:K.lookup a with
  | some o =>
    have e:=KX a o hk
    rw [ha] at e
    cases e
    refine core (fun _=>none) (fun _=>.inl rfl) (.inr ⟨_,vs.toArray,_,hk,rfl,rfl,rfl,by rw [List.size_toArray,lenV];exact hl,by simpa using rv⟩) (fun b u z=>by have z':(none:Option HO)=some u:=z;cases z') (fun b z=>absurd rfl z) fun z=>absurd rfl z
  | none =>
    refine core (fun b=>if b=a then some (.frz { cls:=.type "list",data:=.seq vs.toArray } (.lst (ns.map V.int))) else none) (fun b=>?_) (.inl (.inr ⟨{ cls:=.type "list",data:=.seq vs.toArray },if_pos rfl⟩)) (fun b u z=>?_) (fun b z=>?_) fun _=>hk
    · by_cases hb:b=a
      · exact .inr ⟨_,_,if_pos hb⟩
      · exact .inl (if_neg hb)
    · by_cases hb:b=a
      · have z':=(if_pos hb).symm.trans z
        cases z'
        subst hb
        exact ⟨ha,by rw [List.length_map];exact hl,vs,_,rv,ha⟩
      · have z':=(if_neg hb).symm.trans z
        cases z'
    · by_cases hb:b=a
      · exact hb
      · exact absurd (if_neg hb) z
theorem walk_of {l:PySem.W.OpenLaw} {n k:Nat} {q:Program} {loose:List Str} {XP:(Str→Option Value)→Heap→Prop} {YP:World→Heap→Prop} {d:DefRec} {K:Params→PySem.W.Frag} {CX:World→CXT} {sp:World→Sp} {x:Str}
    (hn:l.most=some n) (hn2:n≤sizeLine) (hdf:d.params.defaults=[]) (hi:importsNone q=true) (hr:Room k callerA)
    (hY:∀ (w:World) (h:Heap),YP w h→(K w.params).In h)
    (F:∀ (w:World) (mg:Str→Option Value) (fa:Addr) (h:Heap),(K w.params).In h→h.Ns mainGlobals mg→mg d.name=some (.ref fa) →
      ∃ fd:FuncData,(∀ (s:Shared) (u:Value),BindsTo s fd ⟨[u],[]⟩ [(x,u)]) ∧
        ∀ base:Heap,(K w.params).In base→base.Ns mainGlobals mg→FnOk l.prog w (K w.params) mg base (CX w) k fa fd [x] (sp w))
    (hsp:∀ (w:World) (H:Hp) (a:Addr) (ns:List Int),ns.length≤n→qq8 H→SqL (K w.params) H a (ns.map V.int)→sp w [.ref a] H (fun v _=>v=.bl true) fun _ _ _=>False)
    (hCX:∀ (w:World) (H:Hp) (s:Shared) (e:Value) (s':Shared),CX w [] H s (fun _ _ _=>False) e s'→False) :
    PySem.W.WalkO q loose XP YP l.row.toRowW d [] (fun f vs=>PySem.call f vs):=by
  refine Att.attach_call hn hdf fun w s₀ s₁ mg mb fa o pm cd doc a vs ns G Y ho hd hcd hmg hobj hints hlen hg=>?_
  have KX:=hY w _ Y
  obtain ⟨fd,hb,hF⟩:=F w mg fa _ KX G.T.g hmg
  exact qlb KX G.T.g G.T.b G.T.builtins G.T.nolimit G.T.bmain (G.T.seer hi) G.T.nodigits hg hobj hints (Nat.le_trans hlen hn2) hr hF hb (fun H hO hS=>hsp w H a ns hlen hO hS) fun H e s'=>hCX w H s₁ e s'
end L2
/- THE LAST THEOREM (shape;LID,My.* are yours):
   My.Adr: a structure of the addresses that your layer names (classes,functions);My.Txt K t: a structure (Prop) of the equations over K;
   My.txt_mk:{K} {implicit addresses ..} (e1:nsIn K mainGlobals "law"=some (some (.ref f))) (e2:K.lookup f=some ⟨oc,od,.func (fnOf "law" "law" params body scope dV kV doc pm an cdv ct),sl⟩) (e3:codeIn K cdv "law"=true) ..:∃ t,My.Txt K t
set_option maxRecDepth 100000 in
set_option maxHeartbeats 0 in
theorem PySem.Challenge.cw_LID_holds : PySem.Challenge.rw_LID.Holds := by
  w_on;o_law;k_head;(case hw=>w_witness2)
  k_fill
  refine L2.walk_of (l:=PySem.Challenge.rw_LID) (n:=63) (k:=40) (x:="script") (CX:=fun w=>..) (sp:=fun _=>My.sp_law) rfl (by decide) rfl ⟨rfl,by decide,by decide⟩ (fun w h Y=>PySem.W.kIn_of Y) ?F ?S ?C
  case F =>
    intro w mg fa h KX G hmg
    have T:∃ t,My.Txt (L2.KOf KX) t:=by
      dsimp only [L2.KOf]                          -- K must stand as «<heap const> w.params» for k_is
      refine' My.txt_mk ?e1 ?e2 ?e3 ..
      (case e1=>PySem.W.k_is)                    -- in the order: a name -> its address -> its object -> its parts
      (case e2=>PySem.W.k_is)
      ..
    obtain ⟨t,T⟩:=T
    have e0:=hmg.symm.trans (PySem.W.mg_of KX G T.law)
    cases e0                                       -- fa is the law's own address
    exact ⟨_,fun s u=>.of_eq rfl,fun base kb nb=>My.law_fn T kb nb⟩     -- if «.of_eq rfl» comes too early: refine' ⟨_,?b,fun base kb nb=>My.law_fn T kb nb⟩;exact fun s u=>.of_eq rfl
  case S=>exact fun w H a ns hl hO hS=>..
  case C=>exact ..
(the tactic k_is has no namespace: write k_is) -/
namespace L2
open PySem PySem.Spec PyProof.Rows
def qfg (s:Stmt) (j:Nat):Stmt:=match s with
  | .ClassDef _ _ _ body _ _ _ _ _ _ _=>body.getD j (.Pass ⟨0,0,0,0⟩)
  | _=>.Pass ⟨0,0,0,0⟩
def qbt (s:Stmt):Arguments:=match s with
  | .FunctionDef _ a _ _ _ _ _ _ _ _=>a
  | _=>{ posonlyargs:=[],args:=[],vararg:=none,kwonlyargs:=[],kw_defaults:=[],kwarg:=none,defaults:=[] }
def qa3 (s:Stmt):List Stmt:=match s with
  | .FunctionDef _ _ b _ _ _ _ _ _ _=>b
  | _=>[]
def qaf (s:Stmt):Scope:=match s with
  | .FunctionDef _ _ _ _ _ _ sc _ _ _=>sc
  | _=>{ kind:=.function,names:=[],isGenerator:=false,isCoroutine:=false }
abbrev CX0:CXT:=fun _ _ _ _ _ _=>False
abbrev E0:XK:=fun _ _ _=>False
theorem qln {X:Cx}:qdV CX0 X E0:=fun _ _ _ _ _ _ _ h=>h.elim
structure Fun (K:PySem.W.Frag) (x qual:Str) (st:Stmt) (f:Addr) (fd:FuncData):Prop where
  ex:∃ (oc:Value) (od:Option Addr) (kV doc pm:Value) (an:Option Addr) (cdv ct:Value) (osl:Array (Option Value)),
    fd=PySem.W.fnOf x qual (qbt st) (qa3 st) (qaf st) .none kV doc pm an cdv ct∧K.lookup f=some ⟨oc,od,.func fd,osl⟩∧PySem.W.codeIn K cdv qual=true
  kp:PySem.W.keepIn K (.ref f)=true
section
variable {P : Program} {w : World} {K : PySem.W.Frag} {mg : Str → Option Value} {base : Heap}
theorem Fun.ok {x qual:Str} {st:Stmt} {f:Addr} {fd:FuncData} {N ps:List Str} {k:Nat} {sp:Sp} (F:Fun K x qual st f fd) (S:FnScope N ps (qaf st)) (len:∀ vs H Q E,sp vs H Q E→vs.length=ps.length)
    (hbody:∀ (cdv:Value) (A:Around) (outer:List Env) (s:Shared) (H:Hp) (vs:List V) (Q:VK) (E:XK),Room k (A.deeper (envOfC qual (qaf st) s.heap.objs.size f cdv))→sp vs H Q E →
      ∃ t,PSs (qkf CX0 P w K mg base N qual (qaf st) f cdv A outer s H E).nox (qa3 st) t∧t { nx:=fun _ H'=>Q .non H',rt:=Q } (qcK N vs) H):FnOk P w K mg base CX0 (k+1) f fd ps sp:=by
  obtain ⟨oc,od,kV,doc,pm,an,cdv,ct,osl,rfl,lk,hcd⟩:=F.ex
  refine qob lk hcd S len fun A outer s H vs Q E hr hsp=>?_
  obtain ⟨t,h,q⟩:=hbody cdv A outer s H vs Q E hr hsp
  exact ⟨t,h.nox,q⟩
theorem Fun.binds {x qual:Str} {st:Stmt} {f:Addr} {fd:FuncData} {ps:List Str} (F:Fun K x qual st f fd)
    (h:∀ (kV doc pm:Value) (an:Option Addr) (cdv ct:Value) (us:List Value),us.length=ps.length→bindArgs (PySem.W.fnOf x qual (qbt st) (qa3 st) (qaf st) .none kV doc pm an cdv ct) ⟨us,[]⟩=pure (ps.zip us)):Binds K fd ps []:=by
  obtain ⟨oc,od,kV,doc,pm,an,cdv,ct,osl,rfl,lk,hcd⟩:=F.ex
  exact .all (h kV doc pm an cdv ct)
theorem qfQ {x qual:Str} {st:Stmt} {f:Addr} {oc:Value} {od an:Option Addr} {osl:Array (Option Value)} {kV doc pm cdv ct:Value} (l:K.lookup f=some ⟨oc,od,.func (PySem.W.fnOf x qual (qbt st) (qa3 st) (qaf st) .none kV doc pm an cdv ct),osl⟩)
    (c:PySem.W.codeIn K cdv qual=true) (k:PySem.W.keepIn K (.ref f)=true):Fun K x qual st f (PySem.W.fnOf x qual (qbt st) (qa3 st) (qaf st) .none kV doc pm an cdv ct):=⟨⟨oc,od,kV,doc,pm,an,cdv,ct,osl,rfl,l,c⟩,k⟩
end
theorem qaC {n:Nat} (h:n≤1000):n<sizeLine:=Nat.lt_of_le_of_lt h (by decide)
section
variable {X : Cx}
theorem pv (i:Nat) {x:Str} {pos:Pos} (hN:X.N[i]?=some x:=by rfl) (hv:Vis X.env.scope x:=by first | exact Or.inl rfl | exact Or.inr (Or.inl rfl) | exact Or.inr (Or.inr rfl)) (hd:(x == ("__debug__":Str))=false:=by decide)
    (hcd:(x == ("__classdict__":Str))=false:=by decide):PE X (.Name x pos) (qrH i):=qo0 hN hv hd hcd
end
theorem qpH {A B:Prop} (h:B):if false=true then A else B:=by
  rw [if_neg Bool.false_ne_true]
  exact h
theorem qpJ {A B:Prop} (h:A):if true=true then A else B:=by
  rw [if_pos rfl]
  exact h
def Same (H H':Hp):Prop:=∀ b o,H b=some o→H' b=some o
theorem Same.refl (H:Hp):Same H H:=fun _ _ h=>h
theorem Same.trans {H H1 H2:Hp} (a:Same H H1) (b:Same H1 H2):Same H H2:=fun c o h=>b c o (a c o h)
theorem Same.free {H H':Hp} (e:Same H H') {l:Addr} (h:H' l=Option.none):H l=Option.none:=by
  cases q:H l with
  | none=>rfl
  | some o =>
    rw [e l o q] at h
    cases h
theorem Same.seq {K:PySem.W.Frag} {H H':Hp} {a:Addr} {xs:List V} (e:Same H H') (h:SqL K H a xs):SqL K H' a xs:=by
  rcases h with (h | ⟨o,h⟩) | h
  · exact .inl (.inl (e _ _ h))
  · exact .inl (.inr ⟨o,e _ _ h⟩)
  · exact .inr h
section
variable {κ : Type} [DecidableEq κ]
def qii (kvs:List (κ × V)) (k:κ):Option V:=(kvs.find? fun kv=>decide (kv.1=k)).map (·.2)
def qhl (kvs:List (κ × V)) (k:κ) (v:V):List (κ × V) :=
  if (kvs.any fun kv=>decide (kv.1=k))=true then kvs.map (fun kv=>if kv.1=k then (kv.1,v) else kv) else kvs++[(k,v)]
theorem qfh {p:κ × V} {r:List (κ × V)} {k:κ} (e:p.1=k):qii (p::r) k=some p.2:=by simp [qii,List.find?_cons,e]
theorem qfb {p:κ × V} {r:List (κ × V)} {k:κ} (e:¬ p.1=k):qii (p::r) k=qii r k:=by simp [qii,List.find?_cons,e]
theorem qdL (k:κ):∀ kvs:List (κ × V),(kvs.any fun kv=>decide (kv.1=k))=(qii kvs k).isSome
  | []=>rfl
  | p::r=>by
    rw [List.any_cons]
    by_cases e:p.1=k
    · simp only [qfh e,decide_eq_true e,Bool.true_or,Option.isSome_some]
    · rw [qfb e,decide_eq_false e,Bool.false_or];exact qdL k r
theorem qdZ (kvs:List (κ × V)) (k:κ) (v:V):(qhl kvs k v).length≤kvs.length+1:=by
  unfold qhl
  split
  · rw [List.length_map];omega
  · rw [List.length_append,List.length_cons,List.length_nil];omega
theorem RelO.isSome_eq {o:Option V} {u:Option Value} (r:RelO o u):o.isSome=u.isSome:=by
  cases o with
  | none=>cases u with
    | none=>rfl
    | some _=>exact (show False from r).elim
  | some _=>cases u with
    | none=>exact (show False from r).elim
    | some _=>rfl
theorem KV.val {kvs:List (κ × V)} {vs:List (κ × Value)} (r:KV kvs vs) (k:κ):RelO (qii kvs k) (valueAt vs k):=by
  unfold KV at r
  induction r with
  | nil=>exact True.intro
  | @cons p q ps qs h t ih =>
    obtain ⟨h1,h2⟩:=h
    by_cases e:p.1=k
    · have e':q.1=k:=h1.symm.trans e
      have b:valueAt (q::qs) k=some q.2:=by simp [valueAt,List.find?_cons,e']
      rw [qfh e,b];exact h2
    · have e':¬ q.1=k:=fun z=>e (h1.trans z)
      have b:valueAt (q::qs) k=valueAt qs k:=by simp [valueAt,List.find?_cons,e']
      rw [qfb e,b];exact ih
theorem KV.any {kvs:List (κ × V)} {vs:List (κ × Value)} (r:KV kvs vs) (k:κ):(kvs.any fun kv=>decide (kv.1=k))=vs.any fun kv=>decide (kv.1=k):=by
  unfold KV at r
  induction r with
  | nil=>rfl
  | cons h t ih=>rw [List.any_cons,List.any_cons,ih,h.1]
theorem KV.repl {kvs:List (κ × V)} {vs:List (κ × Value)} (r:KV kvs vs) (k:κ) {y:V} {u:Value} (ry:RelV y u) :
    KV (kvs.map fun kv=>if kv.1=k then (kv.1,y) else kv) (vs.map fun kv=>if kv.1=k then (kv.1,u) else kv):=by
  unfold KV at r ⊢
  induction r with
  | nil=>exact .nil
  | @cons p q ps qs h t ih =>
    rw [List.map_cons,List.map_cons]
    refine .cons ?_ ih
    obtain ⟨h1,h2⟩:=h
    by_cases e:p.1=k
    · rw [if_pos e,if_pos (h1.symm.trans e)];exact ⟨h1,ry⟩
    · rw [if_neg e,if_neg (fun z=>e (h1.trans z))];exact ⟨h1,h2⟩
theorem KV.put {kvs:List (κ × V)} {vs:List (κ × Value)} (r:KV kvs vs) (k:κ) {y:V} {u:Value} (ry:RelV y u):KV (qhl kvs k y) (stored vs k u):=by
  unfold qhl stored
  rw [r.any k]
  by_cases e:(vs.any fun kv=>decide (kv.1=k))=true
  · rw [if_pos e,if_pos e];exact r.repl k ry
  · rw [if_neg e,if_neg e];exact Paired.snoc r ⟨rfl,ry⟩
theorem KV.length {kvs:List (κ × V)} {vs:List (κ × Value)} (r:KV kvs vs):kvs.length=vs.length:=Paired.length r
end
theorem qms {P:Program} {w:World} {k:Key} {u:Value} (r:RelV (kV k) u):(qbe P w).is k u=true:=by
  cases k with
  | inl i=>obtain ⟨t,e⟩:=(show ∃ t,u=Value.int i t from r);subst e;exact qgR P w i t
  | inr x=>obtain ⟨t,e⟩:=(show ∃ t,u=Value.str x t from r);subst e;exact qgJ P w x t
theorem qfU {P:Program} {w:World}:∀ {ks:List Key} {us:List Value},Vals (ks.map kV) us→ItemsAre (qbe P w) ks us
  | [],_,r=>by rw [List.map_nil] at r;cases r;exact .nil
  | k::ks,_,r=>by
    rw [List.map_cons] at r
    cases r with
    | cons h t=>exact .cons (qms h) (qfU t)
abbrev KT (H:Hp):List (List Key × V)→List (List Key × Addr × Value)→Prop:=Paired fun p q=>p.1=q.1∧H q.2.1=some (.tup (p.1.map kV))∧RelV p.2 q.2.2
theorem KT.val {H:Hp} {kvs:List (List Key × V)} {xs:List (List Key × Addr × Value)} (r:KT H kvs xs) (k:List Key):RelO (qii kvs k) ((atKey xs k).map (·.2)):=by
  induction r with
  | nil=>exact True.intro
  | @cons p q ps qs h t ih =>
    obtain ⟨h1,_,h2⟩:=h
    by_cases e:p.1=k
    · have e':q.1=k:=h1.symm.trans e
      have b:atKey (q::qs) k=some q.2:=by simp [atKey,List.find?_cons,e']
      rw [qfh e,b];exact h2
    · have e':¬ q.1=k:=fun z=>e (h1.trans z)
      have b:atKey (q::qs) k=atKey qs k:=by simp [atKey,List.find?_cons,e']
      rw [qfb e,b];exact ih
theorem KT.repl {H:Hp} {kvs:List (List Key × V)} {xs:List (List Key × Addr × Value)} (r:KT H kvs xs) (k:List Key) {y:V} {u:Value} (ry:RelV y u) :
    KT H (kvs.map fun kv=>if kv.1=k then (kv.1,y) else kv) (xs.map (putAt k u)):=by
  induction r with
  | nil=>exact .nil
  | @cons p q ps qs h t ih =>
    rw [List.map_cons,List.map_cons]
    refine .cons ?_ ih
    obtain ⟨h1,h2,h3⟩:=h
    unfold putAt
    by_cases e:p.1=k
    · rw [if_pos e,if_pos (h1.symm.trans e)];exact ⟨h1,h2,ry⟩
    · rw [if_neg e,if_neg (fun z=>e (h1.trans z))];exact ⟨h1,h2,h3⟩
theorem KT.put {H:Hp} {kvs:List (List Key × V)} {xs:List (List Key × Addr × Value)} (r:KT H kvs xs) (k:List Key) {b:Addr} {y:V} {u:Value} (hb:H b=some (.tup (k.map kV))) (ry:RelV y u) :
    KT H (qhl kvs k y) (storedH xs k b u):=by
  have e:(kvs.any fun kv=>decide (kv.1=k))=(atKey xs k).isSome:=by
    rw [qdL,(r.val k).isSome_eq,Option.isSome_map]
  unfold qhl storedH
  rw [e]
  by_cases q:(atKey xs k).isSome=true
  · rw [if_pos q,if_pos q];exact r.repl k ry
  · rw [if_neg q,if_neg q];exact Paired.snoc r ⟨rfl,hb,ry⟩
theorem KT.keeps {H H':Hp} {kvs:List (List Key × V)} {xs:List (List Key × Addr × Value)} (r:KT H kvs xs) (ht:∀ b ys,H b=some (.tup ys)→H' b=some (.tup ys)):KT H' kvs xs :=
  Paired.mapP r fun _ _ z=>⟨z.1,ht _ _ z.2.1,z.2.2⟩
section
variable {P : Program} {w : World} {H : Hp} {h : Heap} {a : Addr}
theorem qpl {u:HO} (ok:HOk P w H h) (e:Rd H a u):ObjOk P w H h a u:=e.ok ok
theorem qoO {kvs:List (Key × V)} (ok:HOk P w H h) (e:Rd H a (.dK kvs)):kvs.length≤sizeLine∧(a == sysModules)=false∧∃ vs,KV kvs vs∧h.DictOf (qbe P w) a vs :=
  show ObjOk P w H h a (.dK kvs) from qpl ok e
theorem qqD {kvs:List (Key × V)} (ok:HOk P w H h) (e:H a=some (.dK kvs)):kvs.length≤sizeLine∧(a == sysModules)=false∧∃ vs,KV kvs vs∧h.DictOf (qbe P w) a vs:=qoO ok (.inl e)
theorem qi8 {ks:List Key} (ok:HOk P w H h) (e:H a=some (.tup (ks.map kV))):(tupleKind (qbe P w)).is h ks a:=by
  obtain ⟨_,its,r,o,h1,⟨h2,_⟩,n,h3⟩:=(show ObjOk P w H h a (.tup (ks.map kV)) from ok a _ e)
  exact ⟨o,its.toArray,n,h1,h2,h3,by simpa using qfU r⟩
theorem qpr {kvs:List (List Key × V)} (ok:HOk P w H h) (e:Rd H a (.dT kvs)):kvs.length≤sizeLine∧(a == sysModules)=false ∧
    ∃ xs,KT H kvs xs∧h.DictOfH (tupleKind (qbe P w)) a xs:=by
  obtain ⟨z,y,xs,r,o,es,ep,h1,h2,h3,h4,h5⟩:=(show ObjOk P w H h a (.dT kvs) from qpl ok e)
  refine ⟨z,y,xs,r,o,es,ep,h1,h2,h3,h4,fun x hx=>?_,h5⟩
  have all:∀ {l:List (List Key × V)} {m:List (List Key × Addr × Value)},KT H l m→∀ x∈m,(tupleKind (qbe P w)).is h x.1 x.2.1:=by
    intro l m q
    induction q with
    | nil=>intro x hx;exact nomatch hx
    | @cons p q ps qs hq t ih =>
      intro x hx
      rcases List.mem_cons.mp hx with e | hx
      · subst e
        exact qi8 ok (by rw [← hq.1];exact hq.2.1)
      · exact ih x hx
  exact all r x hx
theorem qqU {kvs:List (List Key × V)} (ok:HOk P w H h) (e:H a=some (.dT kvs)):kvs.length≤sizeLine∧(a == sysModules)=false ∧
    ∃ xs,KT H kvs xs∧h.DictOfH (tupleKind (qbe P w)) a xs:=qpr ok (.inl e)
end
def DGet (H:Hp) (a:Addr) (y:V) (r:Option V):Prop :=
  (∃ kvs k,Rd H a (.dK kvs)∧y=kV k∧r=qii kvs k)∨∃ kvs k b,Rd H a (.dT kvs)∧y=.ref b∧H b=some (.tup (k.map kV))∧r=qii kvs k
def DPut (H:Hp) (a:Addr) (y v:V) (H':Hp):Prop :=
  (∃ kvs k,H a=some (.dK kvs)∧y=kV k∧kvs.length<sizeLine∧H'=upd H a (.dK (qhl kvs k v))) ∨
  ∃ kvs k b,H a=some (.dT kvs)∧y=.ref b∧H b=some (.tup (k.map kV))∧kvs.length<sizeLine∧H'=upd H a (.dT (qhl kvs k v))
theorem DGet.k {H:Hp} {a:Addr} {kvs:List (Key × V)} {k:Key} (e:H a=some (.dK kvs)):DGet H a (kV k) (qii kvs k):=.inl ⟨kvs,k,.inl e,rfl,rfl⟩
theorem DPut.k {H:Hp} {a:Addr} {kvs:List (Key × V)} {k:Key} {v:V} (e:H a=some (.dK kvs)) (hl:kvs.length<sizeLine):DPut H a (kV k) v (upd H a (.dK (qhl kvs k v))):=.inl ⟨kvs,k,e,rfl,hl,rfl⟩
section
variable {X : Cx} {pins : List (Addr × Obj)} {σ : St} {H : Hp} {s : Shared} {a : Addr} {y v : V} {u r : Value} {o : Option V} {A : Around} {E : Value → Shared → Prop}
theorem Inv.big (I:Inv X pins σ H s):sysModules<s.heap.objs.size:=by
  have h:mainGlobals<s.heap.objs.size:=(I.mod.glob.keeps I.bk).lt
  exact Nat.lt_trans (by decide) h
theorem qrQ {Q:Value→Shared→Prop} (hu:A.units+1<cLine) (I:Inv X pins σ H s) (g:DGet H a y o) (ry:RelV y u) (h:∀ s',Inv X pins σ H s'→Q (.bool o.isSome) s') :
    wpAny (model X.prog X.w) A (compareOp .In u (.ref a)) Q E s:=by
  rcases g with ⟨kvs,k,e,ey,l⟩ | ⟨kvs,k,b,e,ey,eb,l⟩
  · subst ey
    obtain ⟨z,hd,vs,rel,dd⟩:=qoO I.hok e
    refine wpAny_in_of (qms ry) hd dd.mapOf ?_
    rw [← (rel.val k).isSome_eq,← l]
    exact h _ (I.tok _)
  · subst ey
    cases (show u=Value.ref b from ry)
    obtain ⟨z,hd,xs,rel,dd⟩:=qpr I.hok e
    refine wpAny_in_heap (tupleKind_room_in1 hu) (qi8 I.hok eb) hd dd ?_
    have q:=(rel.val k).isSome_eq
    rw [Option.isSome_map] at q
    rw [← q,← l]
    exact h _ (I.tok _)
theorem qjK {h':Heap} {t':Nat} {ob:HO} (I:Inv X pins σ H s) (mu:Mut (H a)) (hs:Heap.SameBut a s.heap h') (he:∃ q,h'.get? a=some q) (new:ObjOk X.prog X.w (upd H a ob) h' a ob) :
    Inv X pins σ (upd H a ob) { s with heap:=h',toks:=t' } :=
  I.write (x:=a) (e:=a) mu (.inl rfl) (fun b q hb z=>(hs.2 b hb).trans z) he new
theorem qoN {P:Program} {w:World} {H':Hp} {h':Heap} {kvs:List (Key × V)} {vs:List (Key × Value)} (z:kvs.length≤sizeLine) (hd:(a == sysModules)=false) (rel:KV kvs vs) (dd:h'.DictOf (qbe P w) a vs) :
    ObjOk P w H' h' a (.dK kvs):=⟨z,hd,vs,rel,dd⟩
theorem qjz {H':Hp} {Q:Unit→Shared→Prop} (hu:A.units+1<cLine) (I:Inv X pins σ H s) (g:DPut H a y v H') (ry:RelV y u) (rv:RelV v r) (h:∀ s',Inv X pins σ H' s'→Q () s') :
    wpAny (model X.prog X.w) A (setItem (.ref a) u r) Q E s:=by
  rcases g with ⟨kvs,k,e,ey,l,eH⟩ | ⟨kvs,k,b,e,ey,eb,l,eH⟩
  · subst ey eH
    obtain ⟨z,hd,vs,rel,dd⟩:=qqD I.hok e
    have hz:vs.length≤sizeLine:=by rw [← rel.length];exact z
    have hl:(qhl kvs k v).length≤sizeLine:=by have:=qdZ kvs k v;omega
    refine wpAny_setItem_pairs (hsz:=hz) (qms ry) dd fun h' dd' hs=>h _ ?_
    have he:∃ q,h'.get? a=some q:=let ⟨q,_,_,hq,_⟩:=dd';⟨q,hq⟩
    exact qjK I (by rw [e];exact True.intro) hs he (qoN hl hd (rel.put k rv) dd')
  · subst ey eH
    cases (show u=Value.ref b from ry)
    obtain ⟨z,hd,xs,rel,dd⟩:=qqU I.hok e
    have hz:xs.length≤sizeLine:=by rw [← Paired.length rel];exact z
    have hl:(qhl kvs k v).length≤sizeLine:=by have:=qdZ kvs k v;omega
    refine wpAny_setItem_heap (hsz:=hz) (tupleKind_room_in1 hu) (qi8 I.hok eb) dd fun h' dd' hs=>h _ ?_
    obtain ⟨q,es,ep,hq,h2,h3,h4,_,h5⟩:=dd'
    refine qjK I (by rw [e];exact True.intro) hs ⟨q,hq⟩ ⟨hl,hd,_,(rel.put k eb rv).keeps fun c ys ec=>?_,q,es,ep,hq,h2,h3,h4,h5⟩
    rw [qak (qp1 ec e (fun z=>nomatch z))]
    exact ec
end
section
variable {X : Cx} {pins : List (Addr × Obj)} {σ : St} {H : Hp} {s : Shared} {a : Addr} {kvs : List (Key × V)} {k : Key} {u : Value} {A : Around} {E : Value → Shared → Prop}
end
def qrO (ty td:TE):TE:=fun σ H Q=>ty σ H fun y H1=>td σ H1 fun x H2=>∃ a o,x=.ref a∧DGet H2 a y o∧Q (.bl o.isSome) H2
def qqy (td ty tv:TE):TS:=fun D σ H=>tv σ H fun v H1=>td σ H1 fun x H2=>ty σ H2 fun y H3=>∃ a H4,x=.ref a∧DPut H3 a y v H4∧D.nx σ H4
section
variable {X : Cx} {o i e value : Expr} {pos pos' tpos : Pos} {td ty tv : TE}
theorem qov (hu:X.A.units+1<cLine) (hi:PE X i ty) (ho:PE X o td):PC X .In i o (qrO ty td):=by
  intro pins s σ H Q I h
  refine thn (hi pins s σ H _ I h) fun iv s1 ⟨y,H1,I1,ry,q1⟩=>thn (ho pins s1 σ H1 _ I1 q1) fun u s2 ⟨x,H2,I2,rx,a,ov,ex,g,q2⟩=>?_
  subst ex
  obtain rfl:u=Value.ref a:=rx
  exact qrQ hu I2 g ry fun s3 I3=>⟨.bl ov.isSome,H2,I3,rfl,q2⟩
theorem qmy (hu:X.A.units+1<cLine) (ho:PE X o td) (hi:PE X i ty) (hv:PE X value tv) (hs:swapsWith value (some (.Subscript o i pos')) pos.line X.env=pure false) :
    PS X (.Assign [.Subscript o i pos'] value pos) (qqy td ty tv):=by
  intro pins s σ H D I h
  refine wpAny_Assign_Subscript (thn (hv pins s σ H _ I h) fun r s1 ⟨v,H1,I1,rv,q1⟩=>thn (ho pins s1 σ H1 _ I1 q1) fun u s2 ⟨x,H2,I2,rx,q2⟩=>thn (hi pins s2 σ H2 _ I2 q2) fun iv s3 ⟨y,H3,I3,ry,a,H4,ex,g,q3⟩=>?_) hs
  subst ex
  obtain rfl:u=Value.ref a:=rx
  exact qjz hu I3 g ry rv fun s4 I4=>⟨σ,H4,I4,q3⟩
end
theorem qkB {P:Program} {w:World} {H:Hp} (h:Heap) (hb:sysModules<h.objs.size):ObjOk P w H (h.push { cls:=.type "dict",data:=.dict #[] }) h.objs.size (.dK []) :=
  ⟨Nat.zero_le _,beq_eq_false_iff_ne.mpr (Ne.symm (Nat.ne_of_lt hb)),[],.nil,Heap.DictOf.new h⟩
def qoe:TE:=fun _ H Q=>∀ p,H p=none→Q (.ref p) (upd H p (.dK []))
section
variable {X : Cx} {pos : Pos}
theorem qlh:PE X (.Dict [] [] pos) qoe:=fun pins s σ H Q I h =>
  wpAny_Dict_empty ⟨.ref s.heap.objs.size,_,I.laid (a:=s.heap.objs.size) (o:=.dK []) (t':=s.toks) (fun _ _ q=>Heap.get?_push_of_some _ q) (Nat.le_refl _) (qkB s.heap I.big),rfl,h _ (I.hok.fresh (Nat.le_refl _))⟩
end
end L2
set_option maxHeartbeats 4000000
namespace L2
open PySem PySem.Spec PyProof.Rows
theorem qhP {env:Env} (names:List (Str × NameKind)) (hf:∀ x∈names,x.2=.free→∃ c,env.cells.lookup x.1=some c):∀ acc:List (Str × Addr),
    ∃ cl:List (Str × Addr),(forIn names acc (fun (x:Str × NameKind) cs=>if (x.2 == .free)=true then do let a ← cellOf env x.1;pure (ForInStep.yield ((x.1,a)::cs)) else pure (ForInStep.yield cs)):Sem (List (Str × Addr)))=pure cl ∧
      (∀ p∈cl,p∈acc∨env.cells.lookup p.1=some p.2)∧(∀ p∈acc,p∈cl)∧∀ x,(x,NameKind.free)∈names→∃ c,(x,c)∈cl:=by
  induction names with
  | nil=>intro acc;exact ⟨acc,rfl,fun p hp=>.inl hp,fun _ hp=>hp,fun x hx=>by simp at hx⟩
  | cons n r ih =>
    intro acc
    obtain ⟨n,k⟩:=n
    have hr:∀ x∈r,x.2=.free→∃ c,env.cells.lookup x.1=some c:=fun x hx=>hf x (List.mem_cons_of_mem _ hx)
    by_cases hk:k=.free
    · subst hk
      obtain ⟨c,hc⟩:=hf (n,.free) List.mem_cons_self rfl
      obtain ⟨cl,e,h1,h2,h3⟩:=ih hr ((n,c)::acc)
      refine ⟨cl,?_,fun p hp=>?_,fun p hp=>h2 p (List.mem_cons_of_mem _ hp),fun x hx=>?_⟩
      · rw [List.forIn_cons,← e]
        have q:cellOf env n=pure c:=by unfold cellOf;rw [hc]
        simp [q]
      · rcases h1 p hp with z | z
        · rcases List.mem_cons.mp z with rfl | z
          · exact .inr hc
          · exact .inl z
        · exact .inr z
      · rcases List.mem_cons.mp hx with z | z
        · cases z;exact ⟨c,h2 _ List.mem_cons_self⟩
        · exact h3 x z
    · obtain ⟨cl,e,h1,h2,h3⟩:=ih hr acc
      refine ⟨cl,?_,h1,h2,fun x hx=>?_⟩
      · rw [List.forIn_cons,← e]
        have q:(k == NameKind.free)=false:=by simpa using hk
        simp [q]
      · rcases List.mem_cons.mp hx with z | z
        · cases z;exact absurd rfl hk
        · exact h3 x z
theorem qe3 {cl:List (Str × Addr)} {cells:List (Str × Addr)} (h:∀ p∈cl,cells.lookup p.1=some p.2):∀ x c,cl.lookup x=some c→cells.lookup x=some c:=fun x c e=>h (x,c) (PySem.mem_of_lookup e)
theorem qh0 {cl:List (Str × Addr)} {x:Str} {c:Addr}:(x,c)∈cl→∃ c',cl.lookup x=some c':=by
  induction cl with
  | nil=>intro h;simp at h
  | cons p r ih =>
    intro h
    rw [List.lookup_cons]
    cases e:x == p.1 with
    | true=>exact ⟨_,rfl⟩
    | false =>
      rcases List.mem_cons.mp h with z | z
      · subst z;simp at e
      · exact ih z
theorem qc8 {scope:Scope} {env:Env} (hf:∀ x∈scope.names,x.2=.free→∃ c,env.cells.lookup x.1=some c) :
    ∃ cl,closureFor scope env=pure cl∧(∀ x c,cl.lookup x=some c→env.cells.lookup x=some c)∧∀ x,(x,NameKind.free)∈scope.names→∃ c,cl.lookup x=some c:=by
  obtain ⟨cl,e,h1,_,h3⟩:=qhP (env:=env) scope.names hf []
  refine ⟨cl,?_,qe3 fun p hp=>(h1 p hp).elim (fun z=>by simp at z) id,fun x hx=>?_⟩
  · unfold closureFor
    simp only
    rw [← e]
    simp
  · obtain ⟨c,hc⟩:=h3 x hx
    exact qh0 hc
theorem qcT {env:Env}:∀ {names:List (Str × NameKind)} {x:Str} {k:NameKind},
    (names.map fun (n,k)=>if (k == NameKind.free && env.scope.kind == .function && env.kindOf n == some .cell) then (n,NameKind.cell) else (n,k)).lookup x=some k→(k=.cell∨k=.free)→(x,NameKind.free)∈names∨(x,NameKind.cell)∈names
  | [],_,_,h,_=>by simp at h
  | (n,k)::r,x,kk,h,hk=>by
    have ih:=@qcT env r x kk
    have h:List.lookup x ((if (k == NameKind.free && env.scope.kind == .function && env.kindOf n == some .cell)=true then (n,NameKind.cell) else (n,k))::_)=_:=h
    by_cases hb:(k == NameKind.free && env.scope.kind == .function && env.kindOf n == some .cell)=true
    · rw [if_pos hb] at h
      have kf:k=.free:=by
        simp only [Bool.and_eq_true,beq_iff_eq] at hb
        exact hb.1.1
      rw [List.lookup_cons] at h
      cases e:x == n with
      | true =>
        have:x=n:=by simpa using e
        subst this;subst kf
        exact .inl List.mem_cons_self
      | false =>
        simp only [e] at h
        exact (ih h hk).imp (List.mem_cons_of_mem _) (List.mem_cons_of_mem _)
    · rw [if_neg hb] at h
      rw [List.lookup_cons] at h
      cases e:x == n with
      | true =>
        have kk':k=kk:=by simpa [e] using h
        have:x=n:=by simpa using e
        subst this
        subst kk'
        rcases hk with rfl | rfl
        · exact .inr List.mem_cons_self
        · exact .inl List.mem_cons_self
      | false =>
        simp only [e] at h
        exact (ih h hk).imp (List.mem_cons_of_mem _) (List.mem_cons_of_mem _)
def qaV (X:Cx) (scope:Scope) (N':List Str) (cl:List (Str × Addr)) (C:Addr) (s0:Shared) (H0:Hp) (fp:List Addr):Cx where
  prog:=X.prog
  w:=X.w
  K:=X.K
  mg:=X.mg
  base:=X.base
  A:=X.A
  N:=N'
  s₀:=s0
  H₀:=H0
  env:=compEnvC scope cl C X.env
  outer:=X.stack
  stack:=X.stack
  ex:=fp
  fn:=fun x=>scope.names.lookup x == some .cell
  calm:=X.calm
  pn:=[]
  xe:=fun _ _=>False
def qco (cap:List (Option Nat)) (σ:St):St:=cap.map fun o=>o.bind fun i=>(σ[i]?).join
structure CompScope (N:List Str) (sc scope:Scope) (N':List Str) (cap:List (Option Nat)):Prop where
  kind:scope.kind=.function
  cel:∀ x∈scope.names,x.2=.cell→scope.names.lookup x.1=some .cell
  names:∀ x∈scope.names,x.2=.local→scope.names.lookup x.1=some .local
  free:∀ x∈scope.names,x.2=.free→sc.names.lookup x.1=some .cell
  fst:∀ x∈scope.names,x.2=.free→scope.names.lookup x.1=some .free
  nd:N'.Nodup
  len:cap.length=N'.length
  at_:∀ p∈cap.zip N',∀ i,p.1=some i→N[i]?=some p.2∧(p.2,NameKind.free)∈scope.names
def qnd (X:Cx) (ifs:List Expr) (t:TT):Prop :=
  ∀ (pins:List (Addr × Obj)) (s:Shared) (σ:St) (H:Hp) (Q:Bool→Hp→Prop),Inv X pins σ H s→t σ H Q →
    wpAny (model X.prog X.w) X.A (forIn ifs true fun c r=>if r=true then do let ok ← isTrue c X.env (eval c X.env);pure (ForInStep.yield ok) else pure (ForInStep.yield r)) (TP X pins σ Q) X.xe s
def qsO:TT:=fun _ H Q=>Q true H
theorem qhF {X:Cx}:qnd X [] qsO:=fun _ _ _ H _ I h=>wpAny_tests_nil ⟨H,I,h⟩
theorem qkT {X:Cx} {c:Expr} {t:TT} (h:PT X c t):qnd X [c] t:=fun pins s σ H Q I hw=>wpAny_tests_one (h pins s σ H Q I hw)
def qjO (wi:TI) (cap:List (Option Nat)) (g:TG) (tc:TT) (te:TE):TE:=fun σ H Q=>wi σ H fun J H1=>∀ D,H1 D=none→∃ W:Nat→Nat→St→Hp→Prop,(∃ m,W 0 m (qco cap σ) (upd H1 D (.lst []))) ∧
  ∀ i m σ' H',W i m σ' H'→(J.stop i H'∧Q (.ref D) H')∨(J.go i H'∧∃ N:St→Hp→Prop,(∀ σ2 H2,N σ2 H2→∃ m',m'<m∧W (i+1) m' σ2 H2) ∧
    ∀ x H2,J.yld i H' x H2→g x σ' H2 fun σ3 H3=>tc σ3 H3 fun b H4=>if b=true then te σ3 H4 fun y H5=>∃ ys,H5 D=some (.lst ys)∧ys.length<sizeLine∧N σ3 (upd H5 D (.lst (ys++[y]))) else N σ3 H4)
theorem qgN {prog:Program} {w:World} {A:Around} {R:Result→Shared→Prop} {s:Shared} {elt target iter:Expr} {ifs:List Expr} {scope:Scope} {pos:Pos} {it acc:Value} {env:Env} (I:Nat→Shared→Prop)
    (turn:∀ n s,I n s→wpAny (model prog w) A (pyNext it) (fun r s₁=>match r with
      | none=>R (.ok .next) s₁
      | some v=>wpAny (model prog w) A (letOwnedTupleGo target it v) (fun _ s₁'=>wpAny (model prog w) A (assign target env v) (fun _ s₂ =>
          wpAny (model prog w) A (forIn ifs true fun c r=>if r=true then do let ok ← isTrue c env (eval c env);pure (ForInStep.yield ok) else pure (ForInStep.yield r)) (fun ok s₃ =>
            if ok=true then wpAny (model prog w) A (eval elt env) (fun x s₄ =>
              wpAny (model prog w) A (call (.builtin "list.append") [acc,x]) (fun _ s₅=>∃ m,m<n∧I m s₅) (fun _ _=>False) s₄) (fun _ _=>False) s₃
            else ∃ m,m<n∧I m s₃) (fun _ _=>False) s₂) (fun _ _=>False) s₁') (fun _ _=>False) s₁) (fun _ _=>False) s)
    (n:Nat) (h:I n s):codeAny (model prog w) A (.compLoop (.ListComp elt [⟨target,iter,ifs,0⟩] scope pos) 0 it acc env) R s:=by
  refine codeAny_loop rfl I (fun n s hI=>?_) n h
  show wpAny _ A ((compTurn (.ListComp elt [⟨target,iter,ifs,0⟩] scope pos) 0 it acc env).onRaise (fun x=>do noteFrame x env;theTreesLotGoes x)) _ _ s
  refine wpAny_noted ?_
  rw [compTurn_list]
  refine wpAny_bind (wpAny_standAt (wpAny_bind (wpAny_mono (turn n s hI) (fun r s₁ h₁=>?_) fun _ _ h'=>h'.elim)))
  cases r with
  | none=>exact wpAny_pure h₁
  | some v =>
    refine wpAny_bind (wpAny_mono h₁ (fun _ s₁' h₁'=>?_) fun _ _ h'=>h'.elim)
    refine wpAny_bind (wpAny_mono h₁' (fun _ s₂ h₂=>wpAny_bind (wpAny_mono h₂ (fun ok s₃ h₃=>?_) fun _ _ h'=>h'.elim)) fun _ _ h'=>h'.elim)
    cases ok with
    | false=>exact wpAny_pure ⟨rfl,h₃⟩
    | true =>
      exact wpAny_bind (wpAny_bind (wpAny_mono h₃ (fun x s₄ h₄=>wpAny_bind (wpAny_mono h₄ (fun _ s₅ h₅=>wpAny_pure (wpAny_pure ⟨rfl,h₅⟩)) fun _ _ h'=>h'.elim)) fun _ _ h'=>h'.elim))
section
variable {X : Cx} {elt tg iter : Expr} {ifs : List Expr} {scope : Scope} {pos : Pos} {N' : List Str} {cap : List (Option Nat)} {wi : TI} {g : TG} {tc : TT} {te : TE}
theorem qbh:∀ (names:List (Str × NameKind)) (n:Nat) (acc:List (Str × Addr)),cellsFrom n names acc=cellsFrom n names []++acc
  | [],_,_=>rfl
  | (x,k)::r,n,acc=>by
    unfold cellsFrom
    split
    · rw [qbh r (n+1) ((x,n)::acc),qbh r (n+1) [(x,n)],List.append_assoc];rfl
    · exact qbh r n acc
theorem qb8:∀ (names:List (Str × NameKind)) (n:Nat) {x:Str} {c:Addr},(x,c)∈cellsFrom n names []→(x,NameKind.cell)∈names
  | [],_,_,_,h=>by simp [cellsFrom] at h
  | (y,k)::r,n,x,c,h=>by
    unfold cellsFrom at h
    split at h
    · rename_i hk
      rw [qbh] at h
      rcases List.mem_append.mp h with h | h
      · exact List.mem_cons_of_mem _ (qb8 r _ h)
      · have e:=List.mem_singleton.mp h
        cases e
        have:k=.cell:=by simpa using hk
        subst this
        exact List.mem_cons_self
    · exact List.mem_cons_of_mem _ (qb8 r _ h)
theorem qks {M:Model} {A:Around} {E:Value→Shared→Prop} {s:Shared} {globals:Addr} {cl:List (Str × Addr)} {qual:Str} {outer:Env} {Q:Env→Shared→Prop}
    (hQ:∀ h',h'.Ns s.heap.objs.size (fun _=>none)→(∀ b o,s.heap.get? b=some o→h'.get? b=some o)→CellsOk h' (s.heap.objs.size+1) (cellsFrom (s.heap.objs.size+1) scope.names []) →
      Q { scope:=scope,locals:=s.heap.objs.size,globals:=globals,cells:=cellsFrom (s.heap.objs.size+1) scope.names []++cl,qual:=qual,func:=none,code:=outer.code,frame:=outer.frame,builtins:=outer.builtins } { s with heap:=h' }) :
    wpAny M A (newFunctionEnv scope globals cl [] qual none .none (some outer)) Q E s:=by
  simp only [newFunctionEnv,Option.isSome_some,if_true]
  refine wpAny_bind (wpAny_alloc ?_)
  refine wpAny_bind (wpAny_layCells _ (fun name kind cells=>by cases hkc:kind == NameKind.cell <;> simp [hkc]) _ _ _ _ ?_)
  have ok:=cellsFrom_ok scope.names (s.heap.push { cls:=.type "dict",data:=.dict #[] }) (s.heap.objs.size+1) [] ⟨fun _ _ hm=>(nomatch hm),List.Pairwise.nil⟩ (by rw [Heap.size_push];exact Nat.le_refl _)
  rw [Heap.size_push] at ok
  rw [show ({ s with heap:=s.heap.push { cls:=.type "dict",data:=.dict #[] } }:Shared).heap.objs.size=s.heap.objs.size+1 from Heap.size_push ..,qbh]
  refine wpAny_bind ?_
  rw [List.forIn_nil]
  exact wpAny_pure (wpAny_pure (hQ _ ((Heap.Ns.new s.heap (.type "dict")).keeps (pushCells_keeps _ _)) (fun b o e=>pushCells_keeps _ _ b o (Heap.get?_push_of_some _ e)) ok))
theorem qkl {pins:List (Addr × Obj)} {σ:St} {H:Hp} {s s4:Shared} {cl nw:List (Str × Addr)} {C:Addr} {fp:List Addr} {m:Str→Option Value} (S:CompScope X.N X.env.scope scope N' cap) (I:Inv X pins σ H s)
    (hcl:∀ x c,cl.lookup x=some c→X.env.cells.lookup x=some c) (hfr:∀ x,(x,NameKind.free)∈scope.names→∃ c,cl.lookup x=some c) (hC:s.heap.objs.size≤C) (hos:s4.os=s.os) (hg:s4.gens=s.gens)
    (hk:∀ b o,s.heap.get? b=some o→s4.heap.get? b=some o) (hn:s4.heap.Ns C m) (hfp:∀ b∈fp,qfK X pins H b) (hfz:∀ b∈fp,b<s.heap.objs.size) (hw:CellsOk s4.heap (C+1) nw) (hwm:∀ x c,(x,c)∈nw→(x,NameKind.cell)∈scope.names) (hwl:∀ x,(x,NameKind.cell)∈scope.names→∃ c,nw.lookup x=some c) :
    Inv (qaV X scope N' (nw++cl) C s H fp) [] (qco cap σ) H s4:=by
  have hlk:∀ x c,(nw++cl).lookup x=some c→((x,c)∈nw∧C<c)∨(nw.lookup x=none∧X.env.cells.lookup x=some c):=fun x c h=>by
    rw [List.lookup_append] at h
    cases e:nw.lookup x with
    | none=>rw [e] at h;exact .inr ⟨rfl,hcl x c (by simpa using h)⟩
    | some c' =>
      rw [e] at h
      have:c'=c:=by simpa using h
      subst this
      exact .inl ⟨PySem.mem_of_lookup e,(hw.empty _ _ (PySem.mem_of_lookup e)).2⟩
  have hold:∀ x c,X.env.cells.lookup x=some c→c<s.heap.objs.size:=fun x c h=>by obtain ⟨v,q⟩:=I.cell x c h;exact q.lt
  have hfr':∀ x,(x,NameKind.free)∈scope.names→∃ c,(nw++cl).lookup x=some c∧X.env.cells.lookup x=some c:=fun x hx=>by
    obtain ⟨c,hc⟩:=hfr x hx
    refine ⟨c,?_,hcl x c hc⟩
    rw [List.lookup_append]
    cases e:nw.lookup x with
    | none=>simpa using hc
    | some c' =>
      have a1:=S.cel _ (hwm x c' (PySem.mem_of_lookup e)) rfl
      have a2:=S.fst _ hx rfl
      have a1:scope.names.lookup x=some .cell:=a1
      have a2:scope.names.lookup x=some .free:=a2
      rw [a1] at a2;cases a2
  refine ⟨⟨I.ok.mod,S.kind,I.ok.glob,I.ok.blt,hC,fun x y c h1 h2=>?_,fun x hx=>?_,fun x c hx h=>?_,I.ok.hd,I.ok.frames,.inl rfl,
      fun b hb=>⟨Nat.ne_of_lt (Nat.lt_of_lt_of_le (hfz b hb) hC),fun x c e=>?_⟩,I.bs,Nat.le_trans I.ok.bsz I.sz,fun b o e hb=>?_,fun b hb hf=>?_,I.stack,I.stkFree⟩,
    hos,by rw [hg];exact I.bare,Un.kept hk,⟨m,hn,fun i x v h1 h2 h3=>?_⟩,fun x c e=>?_,I.hok.fresh hC,fun x c e=>?_,fun p hp=>absurd (show p∈([]:List (Addr × Obj)) from hp) (by simp),I.hok.kept hk,?_⟩
  · rcases hlk x c h1 with ⟨a1,a2⟩ | ⟨_,a2⟩ <;> rcases hlk y c h2 with ⟨b1,b2⟩ | ⟨_,b2⟩
    · exact name_of_addr hw.apart a1 b1
    · exact absurd (hold y c b2) (Nat.not_lt.mpr (Nat.le_trans hC (Nat.le_of_lt a2)))
    · exact absurd (hold x c a2) (Nat.not_lt.mpr (Nat.le_trans hC (Nat.le_of_lt b2)))
    · exact I.ok.inj x y c a2 b2
  · have q:(x,NameKind.free)∈scope.names∨(x,NameKind.cell)∈scope.names:=by
      rcases hx with hx | hx
      · exact qcT hx (.inl rfl)
      · exact qcT hx (.inr rfl)
    rcases q with q | q
    · obtain ⟨c,h,_⟩:=hfr' x q
      exact ⟨c,h⟩
    · obtain ⟨c,h⟩:=hwl x q
      exact ⟨c,by show (nw++cl).lookup x=_;rw [List.lookup_append,h];rfl⟩
  · have hx:(scope.names.lookup x == some .cell)=true:=hx
    have hx:scope.names.lookup x=some .cell:=by simpa using hx
    obtain ⟨c',h'⟩:=hwl x (PySem.mem_of_lookup hx)
    rcases hlk x c h with ⟨_,a2⟩ | ⟨a1,_⟩
    · exact Nat.le_trans hC (Nat.le_of_lt a2)
    · rw [h'] at a1;cases a1
  · rcases hlk x c e with ⟨_,a2⟩ | ⟨_,a2⟩
    · exact fun z=>absurd (hfz b hb) (Nat.not_lt.mpr (Nat.le_trans hC (by rw [← z];exact Nat.le_of_lt a2)))
    · exact (hfp b hb).2.2.2.2.1 x c a2
  · rcases (hfp b hb).2.2.2.1 with z | z
    · exact I.ok.noex b o e z
    · exact absurd (Nat.lt_of_lt_of_le (Heap.lt_size e) (Nat.le_trans I.ok.bsz z)) (Nat.lt_irrefl _)
  · rcases List.mem_cons.mp (I.stkSub b hf) with z | z
    · exact (hfp b hb).2.1 z
    · exact (hfp b hb).2.2.1 z
  · have h2:(cap.map fun o=>o.bind fun i=>(σ[i]?).join)[i]?=some (some v):=h2
    rw [List.getElem?_map] at h2
    cases ec:cap[i]? with
    | none=>rw [ec] at h2;cases h2
    | some o =>
      rw [ec] at h2
      have h2:(o.bind fun i=>(σ[i]?).join)=some v:=by simpa using h2
      cases o with
      | none=>cases h2
      | some j =>
        have h2:(σ[j]?).join=some v:=h2
        have hj:σ[j]?=some (some v):=by
          cases ej:σ[j]? with
          | none=>rw [ej] at h2;cases h2
          | some y=>rw [ej] at h2;exact congrArg some h2
        have hz:(cap.zip N')[i]?=some (some j,x):=by rw [List.getElem?_zip_eq_some];exact ⟨ec,h1⟩
        obtain ⟨q1,q2⟩:=S.at_ _ (List.mem_of_getElem? hz) j rfl
        obtain ⟨mx,hnx,hl⟩:=I.loc
        have kc:=S.free _ q2 rfl
        obtain ⟨u,r,lk⟩:=hl j x v q1 hj (.inr (.inl kc))
        refine ⟨u,r,?_⟩
        rcases lk with ⟨k1,_⟩ | ⟨_,c,e,z⟩
        · have:X.env.scope.names.lookup x=some .local:=k1
          rw [kc] at this;cases this
        · obtain ⟨c',hc',hd'⟩:=hfr' x q2
          rw [e] at hd';cases hd'
          have kx:(compEnvC scope (nw++cl) C X.env).kindOf x=some .cell∨(compEnvC scope (nw++cl) C X.env).kindOf x=some .free∨(compEnvC scope (nw++cl) C X.env).kindOf x=some .local:=by
            rcases h3 with z | z | z
            · exact .inr (.inr z)
            · exact .inl z
            · exact .inr (.inl z)
          rcases kx with kx | kx | kx
          · exact .inr ⟨.inl kx,c,hc',let ⟨o,ho,hd⟩:=z;⟨o,hk c o ho,hd⟩⟩
          · exact .inr ⟨.inr kx,c,hc',let ⟨o,ho,hd⟩:=z;⟨o,hk c o ho,hd⟩⟩
          · exfalso
            have kl:(relabel scope X.env).names.lookup x=some .local:=kx
            have ml:=PySem.mem_of_lookup kl
            obtain ⟨⟨n,k⟩,hm,e2⟩:=List.mem_map.mp ml
            have e2:(if (k == NameKind.free && X.env.scope.kind == .function && X.env.kindOf n == some .cell)=true then (n,NameKind.cell) else (n,k))=(x,NameKind.local):=e2
            split at e2
            · cases e2
            · cases e2
              have a1:=S.names _ hm rfl
              have a3:scope.names.lookup x=some .free:=S.fst _ q2 rfl
              have a1:scope.names.lookup x=some .local:=a1
              rw [a3] at a1;cases a1
  · rcases hlk x c e with ⟨a1,_⟩ | ⟨_,a2⟩
    · exact ⟨none,(hw.empty x c a1).1⟩
    · obtain ⟨v,o,ho,hd⟩:=I.cell x c a2
      exact ⟨v,o,hk c o ho,hd⟩
  · rcases hlk x c e with ⟨_,a2⟩ | ⟨_,a2⟩
    · exact I.hok.fresh (Nat.le_trans hC (Nat.le_of_lt a2))
    · exact I.freeC x c a2
  · show (qco cap σ).length=N'.length
    unfold qco
    rw [List.length_map,S.len]
theorem qeO {pins:List (Addr × Obj)} {σ:St} {H2:Hp} {s2:Shared} {it:Addr} {fp:List Addr} {tn:Nat→Heap→Prop} {J:It} {cl:List (Str × Addr)} {RR:Value→Addr→Result→Shared→Prop} {E:Value→Shared→Prop} (hcalm:X.calm=true) (S:CompScope X.N X.env.scope scope N' cap)
    (hg:∀ (cl:List (Str × Addr)) (C:Addr) (s0:Shared) (H0:Hp),PG (qaV X scope N' cl C s0 H0 fp) tg g) (ht:∀ (cl:List (Str × Addr)) (C:Addr) (s0:Shared) (H0:Hp),qnd (qaV X scope N' cl C s0 H0 fp) ifs tc) (he:∀ (cl:List (Str × Addr)) (C:Addr) (s0:Shared) (H0:Hp),PE (qaV X scope N' cl C s0 H0 fp) elt te)
    (I2:Inv X pins σ H2 s2) (T:Turn X.prog X.w X.K tg J fp it tn) (st2:tn 0 s2.heap) (f2:∀ b∈fp,qfK X pins H2 b)
    (hcl:∀ x c,cl.lookup x=some c→X.env.cells.lookup x=some c) (hfr:∀ x,(x,NameKind.free)∈scope.names→∃ c,cl.lookup x=some c)
    {P:V→Hp→Prop}
    (w:∀ D,H2 D=none→∃ W:Nat→Nat→St→Hp→Prop,(∃ m,W 0 m (qco cap σ) (upd H2 D (.lst []))) ∧
      ∀ i m σ' H',W i m σ' H'→(J.stop i H'∧P (.ref D) H')∨(J.go i H'∧∃ N:St→Hp→Prop,(∀ σ2 H2,N σ2 H2→∃ m',m'<m∧W (i+1) m' σ2 H2) ∧
        ∀ x H2,J.yld i H' x H2→g x σ' H2 fun σ3 H3=>tc σ3 H3 fun b H4=>if b=true then te σ3 H4 fun y H5=>∃ ys,H5 D=some (.lst ys)∧ys.length<sizeLine∧N σ3 (upd H5 D (.lst (ys++[y]))) else N σ3 H4))
    (hRR:∀ D C H' s' m',X.env.locals≠C→X.s₀.heap.objs.size≤C→(∀ x c,X.env.cells.lookup x=some c→c≠C)→(∀ p∈X.pn++pins,p.1≠C)→H' C=none→s'.heap.Ns C m'→Inv X pins σ H' s'→P (.ref D) H'→RR (.ref D) C (.ok .next) s') :
    wpAny (model X.prog X.w) X.A (newList []) (fun acc s₃=>wpAny (model X.prog X.w) X.A (newFunctionEnv scope X.env.globals cl [] X.env.qual none .none (some X.env)) (fun cenv s₄ =>
      codeAny (model X.prog X.w) X.A (.compStart (.ListComp elt [⟨tg,iter,ifs,0⟩] scope pos) 0 (.ref it) acc { cenv with scope:=relabel scope X.env }) (RR acc cenv.locals) s₄) E s₃) E s2:=by
  refine wpAny_newObj_type ?_ (by show 0≤sizeLine;decide)
  have I3:Inv X pins σ (upd H2 s2.heap.objs.size (.lst [])) { s2 with heap:=s2.heap.push { cls:=.type "list",data:=.seq ([]:List Value).toArray } }:=I2.lnew (t':=s2.toks) .nil (by show 0≤sizeLine;decide)
  have k3:∀ b o,s2.heap.get? b=some o→(s2.heap.push { cls:=.type "list",data:=.seq ([]:List Value).toArray }).get? b=some o:=fun b o e=>Heap.get?_push_of_some _ e
  have z3:(s2.heap.push { cls:=.type "list",data:=.seq ([]:List Value).toArray }).objs.size=s2.heap.objs.size+1:=Heap.size_push ..
  have hD0:H2 s2.heap.objs.size=none:=I2.fresh
  generalize hs3:({ s2 with heap:=s2.heap.push { cls:=.type "list",data:=.seq ([]:List Value).toArray } }:Shared)=s3 at I3 ⊢
  have eh3:s3.heap=s2.heap.push { cls:=.type "list",data:=.seq ([]:List Value).toArray }:=by rw [← hs3]
  have eo3:s3.os=s2.os:=by rw [← hs3]
  generalize hDD:s2.heap.objs.size=D at I3 hD0 z3 ⊢
  rw [← eh3] at k3 z3
  have live:∀ b∈fp,∃ o,s2.heap.get? b=some o∧∀ v,o.data≠.cell v:=fun b hb=>T.obj 0 _ st2 b hb
  have ltD:∀ b∈fp,b<D:=fun b hb=>by obtain ⟨o,e,_⟩:=live b hb;rw [← hDD];exact Heap.lt_size e
  have f3:∀ b∈fp,qfK X pins (upd H2 D (.lst [])) b:=fun b hb=>⟨by rw [qak (Nat.ne_of_lt (ltD b hb))];exact (f2 b hb).1,(f2 b hb).2⟩
  refine qks fun h4 hn4 k4 ok4=>?_
  generalize hnw:cellsFrom (s3.heap.objs.size+1) scope.names []=nw at ok4 ⊢
  have st4:tn 0 h4:=T.keep 0 _ _ st2 fun b _ o e=>k4 b o (k3 b o e)
  have I4:Inv (qaV X scope N' (nw++cl) s3.heap.objs.size s3 (upd H2 D (.lst [])) fp) [] (qco cap σ) (upd H2 D (.lst [])) { s3 with heap:=h4 } :=
    qkl S I3 hcl hfr (Nat.le_refl _) rfl rfl k4 hn4 f3 (fun b hb=>by rw [z3];exact Nat.lt_succ_of_lt (ltD b hb)) ok4 (fun x c h=>qb8 _ _ (hnw ▸ h)) fun x h=>hnw ▸ qe9 (S.cel _ h rfl)
  obtain ⟨W,⟨m0,w0⟩,turn⟩:=w D hD0
  have fpY:∀ {H':Hp},(∀ b∈fp,H' b=none)→∀ b∈fp,qfK (qaV X scope N' (nw++cl) s3.heap.objs.size s3 (upd H2 D (.lst [])) fp) [] H' b:=fun hn b hb =>
    ⟨hn b hb,Nat.ne_of_lt (by show b<s3.heap.objs.size;rw [z3];exact Nat.lt_succ_of_lt (ltD b hb)),fun hf=>I4.ok.exfs b hb hf,.inl hb,fun x c e=>(I4.ok.exf b hb).2 x c e,fun p hp=>absurd (show p∈([]:List (Addr × Obj)) from hp) (by simp)⟩
  have loop:∀ s₃:Shared,s₃={ s3 with heap:=h4 } →
      codeAny (model X.prog X.w) X.A (.compLoop (.ListComp elt [⟨tg,iter,ifs,0⟩] scope pos) 0 (.ref it) (.ref D) (compEnvC scope (nw++cl) s3.heap.objs.size X.env)) (RR (.ref D) s3.heap.objs.size) s₃:=by
    rintro s₃ rfl
    refine qgN (fun n s'=>∃ i σ' H',Inv (qaV X scope N' (nw++cl) s3.heap.objs.size s3 (upd H2 D (.lst [])) fp) [] σ' H' s'∧tn i s'.heap∧(∀ b∈fp,H' b=none)∧W i n σ' H') ?_ m0
      ⟨0,qco cap σ,upd H2 D (.lst []),I4,st4,fun b hb=>(f3 b hb).1,w0⟩
    rintro n s5 ⟨i,σ5,H5,I5,st5,fr5,w5⟩
    rcases turn i n σ5 H5 w5 with ⟨stop,qn⟩ | ⟨go,N,hN,step⟩
    · refine thn (T.done (qaV X scope N' (nw++cl) s3.heap.objs.size s3 (upd H2 D (.lst [])) fp) rfl rfl rfl hcalm i [] s5 σ5 H5 _ I5 (fpY fr5) st5 stop) fun r s6 hq0=>?_
      obtain ⟨hr,I6⟩:=hq0
      subst hr
      obtain ⟨m6,hn6,_⟩:=I6.loc
      have un:Un (frs X.stack) fp (upd H2 D (.lst [])) H5 s3.heap s6.heap:=I6.base
      refine hRR D s3.heap.objs.size H5 s6 m6 (Nat.ne_of_lt I3.lt) I3.sz (fun x c e=>?_) (fun p hp=>?_) I6.free hn6 ?_ qn
      · obtain ⟨v,q⟩:=I3.cell x c e
        exact Nat.ne_of_lt q.lt
      · exact Nat.ne_of_lt (Heap.lt_size (I3.pin p hp).1)
      · exact I3.call' I6.os un I6.hok I6.bare fun b hb=>⟨(f3 b hb).2.2.2.1,(f3 b hb).2.1,(f3 b hb).2.2.2.2.1,(f3 b hb).2.2.2.2.2⟩
    · refine thn (T.item (qaV X scope N' (nw++cl) s3.heap.objs.size s3 (upd H2 D (.lst [])) fp) rfl rfl rfl hcalm i [] s5 σ5 H5 (fun _ _=>False) I5 (fpY fr5) st5 go) fun r s6 hq1=>?_
      obtain ⟨u,hr,h6⟩:=hq1
      subst hr
      refine thn h6 fun _ s7 hq2=>?_
      obtain ⟨x,H7,I7,r7,y7,st7,fr7⟩:=hq2
      have I7':=I7.pinned (fpY fr7) (T.obj _ _ st7)
      refine thn (hg _ _ _ _ _ s7 σ5 H7 x u _ I7' r7 (step x H7 y7)) fun _ s8 hq3=>?_
      obtain ⟨σ8,H8,I8,q8⟩:=hq3
      refine thn (ht _ _ _ _ _ s8 σ8 H8 _ I8 q8) fun b s9 hq4=>?_
      obtain ⟨H9,I9,q9⟩:=hq4
      have again:∀ {σ9:St} {H9:Hp} {s9:Shared},Inv (qaV X scope N' (nw++cl) s3.heap.objs.size s3 (upd H2 D (.lst [])) fp) ([]++qf7 fp s7.heap) σ9 H9 s9→N σ9 H9→∃ m,m<n∧∃ i σ' H',Inv (qaV X scope N' (nw++cl) s3.heap.objs.size s3 (upd H2 D (.lst [])) fp) [] σ' H' s9∧tn i s9.heap∧(∀ b∈fp,H' b=none)∧W i m σ' H':=fun {σ9 H9 s9} I9 n9=>by
        obtain ⟨m',hm,w9⟩:=hN σ9 H9 n9
        refine ⟨m',hm,i+1,σ9,H9,I9.unpinned,T.keep _ _ _ st7 fun b hb o e=>(I9.pin (b,o) (List.mem_append_right _ (List.mem_append_right _ (qcF hb e)))).1,fun b hb=>?_,w9⟩
        obtain ⟨o,e,d⟩:=T.obj _ _ st7 b hb
        exact (I9.pin (b,o) (List.mem_append_right _ (List.mem_append_right _ (qcF hb e)))).2.1
      cases b with
      | false =>
        rw [if_neg (by decide)] at q9 ⊢
        exact again I9 q9
      | true =>
        rw [if_pos rfl] at q9 ⊢
        refine thn (he _ _ _ _ _ s9 σ8 H9 _ I9 q9) fun yv s10 hq5=>?_
        obtain ⟨y,H10,I10,r10,ys,hD10,hz10,q10⟩:=hq5
        refine thn (qc3 _ s10 σ8 H10 (.ref D) [y] (.ref D) [yv] (fun _ H'=>N σ8 H') I10 rfl (.cons r10 .nil) ⟨D,ys,y,rfl,rfl,hD10,hz10,q10⟩) fun _ s11 hq6=>?_
        obtain ⟨_,H11,I11,_,q11⟩:=hq6
        exact again I11 q11
  exact codeAny_compStart_list (loop _ rfl) (T.self _ 0 _ _ _ st4 (loop _ rfl))
theorem qjF (hcalm:X.calm=true) (S:CompScope X.N X.env.scope scope N' cap) (hi:PI X tg iter wi)
    (hg:∀ (cl:List (Str × Addr)) (fp:List Addr) (C:Addr) (s0:Shared) (H0:Hp),PG (qaV X scope N' cl C s0 H0 fp) tg g) (ht:∀ (cl:List (Str × Addr)) (fp:List Addr) (C:Addr) (s0:Shared) (H0:Hp),qnd (qaV X scope N' cl C s0 H0 fp) ifs tc)
    (he:∀ (cl:List (Str × Addr)) (fp:List Addr) (C:Addr) (s0:Shared) (H0:Hp),PE (qaV X scope N' cl C s0 H0 fp) elt te) (hs:∀ x,foldedSetIterable iter X.env x=pure x:=by intro _;rfl) :
    PE X (.ListComp elt [⟨tg,iter,ifs,0⟩] scope pos) (qjO wi cap g tc te):=by
  intro pins s σ H Q I h
  obtain ⟨cl,ecl,hcl,hfr⟩:=qc8 (scope:=scope) (env:=X.env) fun x hx hf=>I.ok.has x.1 (.inl (S.free x hx hf))
  rw [eval_ListComp]
  refine wpAny_comprehension_free (use:=none) rfl hs ecl S.kind S.names (thn (hi pins s σ H _ I h) fun v s1 h1=>thn h1 fun itv s2 h2=>?_)
  obtain ⟨it,fp,tn,J,H2,e,I2,T,st2,f2,w⟩:=h2
  subst e
  refine qeO (RR:=fun acc C=>compPost (model X.prog X.w) X.A X.xe none (EP X pins σ Q) acc C) hcalm S (fun cl=>hg cl fp) (fun cl=>ht cl fp) (fun cl=>he cl fp) I2 T st2 f2 hcl hfr (P:=Q) w ?_
  intro D C H' s' m' hL hz hcc hpp hC hn I' q
  refine ⟨m',hn,fun h' hs'=>⟨.ref D,H',I'.turned (t':=s'.toks) (fun b o hb e=>(hs'.2 b hb).trans e) hC (Ne.symm hL) (.inr hz) hcc hpp,rfl,q⟩⟩
theorem qnk {i:Nat} {y:Str} {py spos:Pos} (hcalm:X.calm=true) (hN:X.N.Nodup) (hy:X.N[i]?=some y) (hx:Loc X.env.scope y) (S:CompScope X.N X.env.scope scope N' cap) (hi:PI X tg iter wi)
    (hg:∀ (cl:List (Str × Addr)) (fp:List Addr) (C:Addr) (s0:Shared) (H0:Hp),PG (qaV X scope N' cl C s0 H0 fp) tg g) (ht:∀ (cl:List (Str × Addr)) (fp:List Addr) (C:Addr) (s0:Shared) (H0:Hp),qnd (qaV X scope N' cl C s0 H0 fp) ifs tc)
    (he:∀ (cl:List (Str × Addr)) (fp:List Addr) (C:Addr) (s0:Shared) (H0:Hp),PE (qaV X scope N' cl C s0 H0 fp) elt te) (hsw:swapsWith (.ListComp elt [⟨tg,iter,ifs,0⟩] scope pos) (some (.Name y py)) spos.line X.env=pure true:=by rfl)
    (hs:∀ x,foldedSetIterable iter X.env x=pure x:=by intro _;rfl) (hf:X.fn y=true∨X.env.scope.names.lookup y=some .local:=by first | exact .inl rfl | exact .inr rfl | assumption) :
    PS X (.Assign [.Name y py] (.ListComp elt [⟨tg,iter,ifs,0⟩] scope pos) spos) (qnS (qjO wi cap g tc te) (qic i)):=by
  intro pins s σ H D I h
  obtain ⟨cl,ecl,hcl,hfr⟩:=qc8 (scope:=scope) (env:=X.env) fun x hx hf=>I.ok.has x.1 (.inl (S.free x hx hf))
  rw [exec_Assign_Name_used _ _ _ _ hsw]
  refine wpAny_bind (wpAny_standAt (wpAny_bind ?_))
  show wpAny _ X.A (do let _ ← comprehension (.ListComp elt [⟨tg,iter,ifs,0⟩] scope pos) scope X.env _ (newList []) false (eval iter X.env) (some (assign (.Name y py) X.env))) _ _ s
  refine wpAny_bind (wpAny_mono (wpAny_comprehension_free (use:=some (assign (.Name y py) X.env)) (Q:=fun _ s'=>SP X pins D .next s') rfl hs ecl S.kind S.names
    (thn (hi pins s σ H _ I h) fun v s1 h1=>thn h1 fun itv s2 h2=>?_)) (fun _ s' hq=>wpAny_pure (wpAny_pure hq)) fun _ _ e=>e)
  obtain ⟨it,fp,tn,J,H2,e,I2,T,st2,f2,w⟩:=h2
  subst e
  refine qeO (RR:=fun acc C=>compPost (model X.prog X.w) X.A X.xe (some (assign (.Name y py) X.env)) (fun _ s'=>SP X pins D .next s') acc C) hcalm S (fun cl=>hg cl fp) (fun cl=>ht cl fp) (fun cl=>he cl fp) I2 T st2 f2 hcl hfr (P:=fun v H'=>D.nx (σ.set i (some v)) H') w ?_
  intro Dd C H' s' m' hL hz hcc hpp hC hn I' q
  show wpAny _ X.A (assign (.Name y py) X.env (.ref Dd)) _ _ s'
  refine wpAny_assign_Name (qgh (v:=.ref Dd) I' hN hy hx rfl (fun s'' I'' hsb=>?_) hf)
  obtain ⟨a,sb,ha⟩:=hsb
  have hCa:C≠a:=by
    rcases ha with z | z
    · rw [z];exact Ne.symm hL
    · exact Ne.symm (hcc y a z)
  refine ⟨m',hn.sameBut sb hCa,fun h' hs'=>?_⟩
  exact ⟨_,H',I''.turned (t':=s''.toks) (fun b o hb e=>(hs'.2 b hb).trans e) hC (Ne.symm hL) (.inr hz) hcc hpp,q⟩
end
open AutoSeq1 (wpAny_loadPart')
theorem Inv.turnedL {X:Cx} {pins:List (Addr × Obj)} {σ:St} {H:Hp} {s:Shared} {h':Heap} {ch:List Addr} {t':Nat} (I:Inv X pins σ H s) (k:∀ b o,b∉ch→s.heap.get? b=some o→h'.get? b=some o) (hf:∀ b∈ch,qfK X pins H b) :
    Inv X pins σ H { s with heap:=h',toks:=t' }:=by
  have nit:∀ b u,H b=some u→b∉ch:=fun b u e z=>by rw [(hf b z).1] at e;cases e
  refine I.step (g':=s.gens) (d':=s.drawn) (ch:=ch) (fun b hb=>⟨(hf b hb).2.2.2.1,(hf b hb).2.1,(hf b hb).2.2.2.2.1,(hf b hb).2.2.2.2.2⟩) (fun b o _ _ hc e _=>k b o hc e) (fun b o _ _ hc e _=>⟨o.slots,k b o hc e⟩) (fun _ _ _ _ n=>n)
    (fun b o hc e=>⟨o,k b o hc e⟩) (fun _ _ e=>e) (fun _ _ _ e=>e) (fun b ps e=>e) (fun m hm=>?_) (fun b u e=>?_) I.bare
  · obtain ⟨o,es,ep,ho,r⟩:=hm
    exact ⟨o,es,ep,k _ o (fun z=>(hf _ z).2.1 rfl) ho,r⟩
  · refine (I.hok b u e).stay (fun c v hc q=>k c v ?_ q) (fun _ q=>q) (fun _ _ q=>q) fun _ _ _ q=>q
    rcases hc with z | z
    · rw [z];exact nit b u e
    · exact nit c _ z
def SqI (b:Bool) (h:Heap) (it a:Addr) (i:Nat):Prop:=match b with | true=>h.IsListIter it a i | false=>h.IsTupleIter it a i
def SqO (b:Bool) (h:Heap) (a:Addr) (its:Array Value):Prop:=match b with | true=>h.IsList a its | false=>h.IsTuple a its
def SqB (K:PySem.W.Frag) (b:Bool) (H:Hp) (a:Addr) (xs:List V):Prop:=match b with | true=>SqL K H a xs | false=>SqT K H a xs
def qbN (b:Bool) (a:Addr):Obj:=match b with
  | true=>{ cls:=.type "list_iterator",data:=.fields #[.ref a,.int 0 0] }
  | false=>{ cls:=.type "tuple_iterator",data:=.fields #[.ref a,.int 0 0] }
theorem SqI.at {b:Bool} {h h':Heap} {it a:Addr} {i:Nat} (x:SqI b h it a i) (k:∀ o,h.get? it=some o→h'.get? it=some o):SqI b h' it a i:=by
  cases b <;> (obtain ⟨o,e,r⟩:=x;exact ⟨o,k o e,r⟩)
theorem SqO.at {b:Bool} {h h':Heap} {a:Addr} {its:Array Value} (x:SqO b h a its) (k:∀ o,h.get? a=some o→h'.get? a=some o):SqO b h' a its:=by
  cases b <;> (obtain ⟨o,e,r⟩:=x;exact ⟨o,k o e,r⟩)
theorem SqI.obj {b:Bool} {h:Heap} {it a:Addr} {i:Nat} (x:SqI b h it a i):∃ o,h.get? it=some o∧∀ v,o.data≠.cell v:=by
  cases b <;> (obtain ⟨o,e,_,d⟩:=x;exact ⟨o,e,fun v z=>by rw [d] at z;cases z⟩)
theorem SqI.lt {b:Bool} {h:Heap} {it a:Addr} {i:Nat} (x:SqI b h it a i):it<h.objs.size:=by obtain ⟨o,e,_⟩:=x.obj;exact Heap.lt_size e
theorem SqO.lt {b:Bool} {h:Heap} {a:Addr} {its:Array Value} (x:SqO b h a its):a<h.objs.size:=by
  cases b <;> (obtain ⟨o,e,_⟩:=x;exact Heap.lt_size e)
theorem Inv.sqb {X:Cx} {pins:List (Addr × Obj)} {σ:St} {H:Hp} {s:Shared} {b:Bool} {a:Addr} {xs:List V} (I:Inv X pins σ H s) (h:SqB X.K b H a xs):∃ its:List Value,Vals xs its∧SqO b s.heap a its.toArray∧xs.length≤sizeLine:=by
  cases b with
  | true=>obtain ⟨its,rv,p,hz⟩:=I.list h;exact ⟨its,rv,p.isList,hz⟩
  | false=>obtain ⟨its,rv,p,hz⟩:=I.tuple h;exact ⟨its,rv,p,hz⟩
theorem Inv.sqb_inj {X:Cx} {pins:List (Addr × Obj)} {σ:St} {H:Hp} {s:Shared} {b:Bool} {a:Addr} {xs ys:List V} (I:Inv X pins σ H s) (h:SqB X.K b H a xs) (h':SqB X.K b H a ys):xs=ys:=by
  cases b with
  | true=>exact I.list_inj h h'
  | false=>exact I.tuple_inj h h'
theorem SqB.same {K:PySem.W.Frag} {b:Bool} {H H':Hp} {a:Addr} {xs:List V} (e:Same H H') (h:SqB K b H a xs):SqB K b H' a xs:=by
  cases b with
  | true=>exact e.seq h
  | false =>
    rcases h with (h | ⟨o,h⟩) | h
    · exact .inl (.inl (e _ _ h))
    · exact .inl (.inr ⟨o,e _ _ h⟩)
    · exact .inr h
section
variable {prog : Program} {w : World} {A : Around} {E : Value → Shared → Prop} {s : Shared}
theorem qgy {b:Bool} {a:Addr} {its:Array Value} {Q:Value→Shared→Prop} (h:SqO b s.heap a its) (q:Q (.ref s.heap.objs.size) { s with heap:=s.heap.push (qbN b a) }):wpAny (model prog w) A (pyIter (.ref a)) Q E s:=by
  cases b with
  | true=>exact wpAny_pyIter_list h q
  | false=>exact wpAny_pyIter_tuple h q
theorem qdM {b:Bool} {h:Heap} {it a:Addr} (e:h.get? it=some (qbN b a)):SqI b h it a 0:=by
  cases b <;> exact ⟨_,e,rfl,rfl⟩
theorem qff {b:Bool} {it a:Addr} {i:Nat} {its:Array Value} {x:Value} {Q:Value→Shared→Prop} (hit:SqI b s.heap it a i) (hl:SqO b s.heap a its) (hx:its[i]?=some x)
    (hQ:∀ h',SqI b h' it a (i+1)→Heap.SameBut it s.heap h'→Q x { s with heap:=h' }):wpAny (model prog w) A (Builtin.SmallTypes.nextOf (.ref it)) Q E s:=by
  cases b with
  | true=>exact wpAny_nextOf_list_item hit hl hx hQ
  | false =>
    have hit:s.heap.IsTupleIter it a i:=hit
    obtain ⟨o,ho,hc,hd⟩:=id hit
    obtain ⟨ol,hol,_,nl,hdl⟩:=hl
    unfold Builtin.SmallTypes.nextOf
    refine wpAny_bind (wpAny_callSpecial?_slot (name:=Str.ofString "__next__") hit.typeIs F.slot_tuple_iterator_next (wpAny_call_entry F.slot_tuple_iterator_next hit.typeIs F.entry_tuple_iterator_next ?_ (F.args_tuple_iterator_next_1 _)))
    show wpAny _ _ (field (.ref it) 0 >>= _) _ _ s
    refine wpAny_bind (wpAny_field ho hd (x:=.ref a) rfl ?_)
    show wpAny _ _ (if (Value.ref a == Value.none)=true then _ else _) _ _ s
    rw [if_neg (show ¬ ((Value.ref a == Value.none)=true) from Bool.false_ne_true)]
    show wpAny _ _ (field (.ref it) 1 >>= _) _ _ s
    refine wpAny_bind (wpAny_field ho hd (x:=.int i 0) rfl ?_)
    show wpAny _ _ (seqItems? (.ref a) >>= _) _ _ s
    refine wpAny_bind (wpAny_seqItems hol hdl ?_)
    simp only [Int.toNat_natCast,hx]
    refine wpAny_bind (wpAny_setField ho hd (by simp) (wpAny_pure ⟨x,rfl,wpAny_pure (hQ _ ?_ (Heap.SameBut.update ..))⟩))
    exact ⟨_,Heap.get?_update_self _ ho (Obj.isFreed_of_fields (Obj.data_mapFields hd _)),(Obj.cls_mapFields ..).trans hc,by rw [Obj.data_mapFields hd];simp [rawInt]⟩
theorem qhm {b:Bool} {it a:Addr} {i:Nat} {its:Array Value} {Q:Value→Shared→Prop} (hh:A.handled=none) (hit:SqI b s.heap it a i) (hl:SqO b s.heap a its) (hx:its[i]?=none)
    (hE:∀ h' e,Heap.ExtBut it s.heap h'→(∃ o,h'.get? e=some o∧o.cls=.type "StopIteration")→E (.ref e) { s with heap:=h' }):wpAny (model prog w) A (Builtin.SmallTypes.nextOf (.ref it)) Q E s:=by
  cases b with
  | true=>exact wpAny_nextOf_list_end hh hit hl hx hE
  | false =>
    have hit:s.heap.IsTupleIter it a i:=hit
    obtain ⟨o,ho,hc,hd⟩:=id hit
    obtain ⟨ol,hol,_,nl,hdl⟩:=hl
    unfold Builtin.SmallTypes.nextOf
    refine wpAny_bind (wpAny_callSpecial?_slot (name:=Str.ofString "__next__") hit.typeIs F.slot_tuple_iterator_next (wpAny_call_entry F.slot_tuple_iterator_next hit.typeIs F.entry_tuple_iterator_next ?_ (F.args_tuple_iterator_next_1 _)))
    show wpAny _ _ (field (.ref it) 0 >>= _) _ _ s
    refine wpAny_bind (wpAny_field ho hd (x:=.ref a) rfl ?_)
    show wpAny _ _ (if (Value.ref a == Value.none)=true then _ else _) _ _ s
    rw [if_neg (show ¬ ((Value.ref a == Value.none)=true) from Bool.false_ne_true)]
    show wpAny _ _ (field (.ref it) 1 >>= _) _ _ s
    refine wpAny_bind (wpAny_field ho hd (x:=.int i 0) rfl ?_)
    show wpAny _ _ (seqItems? (.ref a) >>= _) _ _ s
    refine wpAny_bind (wpAny_seqItems hol hdl ?_)
    simp only [Int.toNat_natCast,hx]
    refine wpAny_bind (wpAny_rule (wpAny_bind (wpAny_setField ho hd (by simp) ?_)))
    show wpAny _ _ (newExc (.type "StopIteration") [] >>= _) _ _ _
    refine wpAny_bind ?_
    simp only [newExc,newTuple]
    refine wpAny_bind (wpAny_newObj_type ?_ (by size_fits))
    refine wpAny_bind (m:=firstArgMember _ _) (wpAny_of_eq (a:=Value.none) (by first | rfl | (simp only [firstArgMember];rfl)) ?_)
    refine wpAny_newObj_type ?_ (by size_fits)
    simp only [raiseNew]
    refine wpAny_bind (wpAny_handled ?_)
    first | rw [show A.in1.handled=none from hh] | rw [hh]
    refine wpAny_bind (wpAny_pure (wpAny_throw ?_))
    exact hE _ _ (((Heap.SameBut.update ..).extBut.push _).push _) ⟨_,Heap.get?_push_size _ rfl,rfl⟩
theorem qk1 (hh:A.handled=none) (b:Bool) (it a:Addr) (hne:a≠it) (its:Array Value):Draws prog w A it [it,a] its.size (fun i v=>its[i]?=some v) (fun i h=>SqI b h it a i∧SqO b h a its) where
  live:=fun _ _ st=>let ⟨o,e,_⟩:=st.1.obj;⟨o,e⟩
  frame:=fun _ _ _ st k=>⟨st.1.at fun o e=>k it (by simp) o e,st.2.at fun o e=>k a (by simp) o e⟩
  item:=fun i s Q E hi st hQ=>qff st.1 st.2 (x:=its[i]) (by simp [hi]) fun h' q sb=>hQ _ h' s.toks (by simp [hi]) ⟨q,st.2.at fun o e=>(sb.2 a hne).trans e⟩ sb
  done:=fun s Q E st hE=>qhm hh st.1 st.2 (by simp) hE
theorem qiN (l:Addr) (items:Array Value) (n:Nat) (dct:Option Addr) (sl:Array (Option Value)) :
    Meets (Builtin.«enumerate.__new__» ⟨[.type "enumerate",.ref l],[]⟩) (fun _ R s=>s.heap.get? l=some { cls:=.type "tuple",dict:=dct,data:=.seq items n,slots:=sl } ∧
      R (.ok (.ret (.ref (s.heap.push (qbN false l)).objs.size)))
        { s with heap:=(s.heap.push (qbN false l)).push { cls:=.type "enumerate",data:=.fields #[.none,.bool false,.ref s.heap.objs.size,rawInt 0,.none,.none] } }) :=
  .of_wp fun prog w A R s h=>by
    obtain ⟨hp,g,d,tk,os⟩:=s;obtain ⟨hl,h⟩:=h
    have hsub:=sub_enumerate
    have hL:Heap.IsTuple (Shared.heap ⟨hp,g,d,tk,os⟩) l items:=⟨_,hl,rfl,n,rfl⟩
    wp_walk using wpAny_loadPart' hl
    refine wpAny_stack_any fun st=>wpAny_pure ?_
    split
    · rename_i c _ _ _ _ _
      cases (c == Value.type "enumerate")
      · (wp_walk using wpAny_loadPart' hl,wpAny_pyIter_tuple hL);exact ⟨_,rfl,h⟩
      · (wp_walk using wpAny_loadPart' hl,wpAny_pyIter_tuple hL);exact ⟨_,rfl,h⟩
    · (wp_walk using wpAny_loadPart' hl,wpAny_pyIter_tuple hL);exact ⟨_,rfl,h⟩
theorem qiA {b:Bool} {l:Addr} {items:Array Value} {Q:Value→Shared→Prop} (hL:SqO b s.heap l items)
    (h:∀ h',IsEnum h' (s.heap.objs.size+1) s.heap.objs.size 0 .none→SqI b h' s.heap.objs.size l 0→h'.objs.size=s.heap.objs.size+2→(∀ b o,s.heap.get? b=some o→h'.get? b=some o)→Q (.ref (s.heap.objs.size+1)) { s with heap:=h' }) :
    wpAny (model prog w) A (call (.type "enumerate") [.ref l]) Q E s:=by
  cases b with
  | true=>exact call_enumerate_list hL h
  | false =>
    obtain ⟨⟨c,dct,dt,sl⟩,hl,hc,n,hd⟩:=hL
    replace hc:c=.type "tuple":=hc
    replace hd:dt=.seq items n:=hd
    subst hc hd
    refine callType_new F.called_enumerate (by decide) (F.typeCall_enumerate_1 _) (F.newCall_enumerate_1 _) (fun obj=>F.args_object_init_2 obj _) F.entry_enumerate_new (qiN l items n dct sl) ⟨hl,?_⟩
    have hz:(s.heap.push (qbN false l)).objs.size=s.heap.objs.size+1:=Heap.size_push ..
    show _∧_
    rw [hz]
    have he:=Heap.get?_push_size (s.heap.push (qbN false l)) (o:={ cls:=.type "enumerate",data:=.fields #[.none,.bool false,.ref s.heap.objs.size,rawInt 0,.none,.none] }) rfl
    rw [hz] at he
    have hi:(s.heap.push (qbN false l)).get? s.heap.objs.size=some (qbN false l):=Heap.get?_push_size _ rfl
    exact ⟨⟨_,he,rfl⟩,h _ he (qdM (Heap.get?_push_of_some _ hi)) (by rw [Heap.size_push,hz]) fun b o x=>Heap.get?_push_of_some _ (Heap.get?_push_of_some _ x)⟩
theorem qkW {b:Bool} {e it a:Addr} {i:Nat} {j:Int} {its:Array Value} {old:Value} {Q:Option Value→Shared→Prop} (hh:A.handled=none) (he:IsEnum s.heap e it j old) (hit:SqI b s.heap it a i) (hl:SqO b s.heap a its) (hx:its[i]?=none)
    (hQ:∀ h',Heap.ExtBut it s.heap h'→Q none { s with heap:=h' }):wpAny (model prog w) A (pyNext (.ref e)) Q E s:=by
  have hT:s.TypeIs (.ref e) "enumerate":=⟨_,he,rfl⟩
  unfold pyNext
  refine wpAny_bind (wpAny_attempt (wpAny_callSpecial?_slot (name:=Str.ofString "__next__") hT F.slot_enumerate_next (wpAny_call_entry F.slot_enumerate_next hT F.entry_enumerate_next ?_ (F.args_enumerate_next_1 _))))
  show wpAny _ _ (field (.ref e) 2 >>= _) _ _ _
  refine wpAny_bind (wpAny_field he rfl (x:=.ref it) rfl (wpAny_bind (qhm hh hit hl hx fun h' x he' hx'=>?_)))
  obtain ⟨o,ho,hc⟩:=hx'
  exact wpAny_bind (wpAny_isInstance (T:="StopIteration") (b:=true) ⟨o,ho,hc⟩ isSubtype_stop (wpAny_pure (hQ _ he')))
end
def Ite (K:PySem.W.Frag) (b:Bool) (a:Addr):It :=
  ⟨fun i H=>∃ xs x,SqB K b H a xs∧xs[i]?=some x,fun i H x H'=>∃ t y,H t=none∧x=.ref t∧H'=upd H t (.tup [.int i,y])∧∀ xs,SqB K b H a xs→xs[i]?=some y,fun i H=>∃ xs,SqB K b H a xs∧xs.length≤i⟩
theorem qjQ {P:Program} {w:World} {K:PySem.W.Frag} {es:List Expr} {k:Nat} {pos:Pos} (b:Bool) (a e it:Addr) (hei:e≠it):Turn P w K (.Tuple es k pos) (Ite K b a) [e,it] e (fun i h=>(∃ old,IsEnum h e it i old)∧SqI b h it a i) where
  mem:=by simp
  obj:=fun i h st c hc=>by
    obtain ⟨⟨old,he⟩,hs⟩:=st
    rcases List.mem_cons.mp hc with rfl | hc
    · exact ⟨_,he,fun v z=>by have z':Data.fields _=Data.cell v:=z;cases z'⟩
    · rw [List.mem_singleton.mp hc];exact hs.obj
  keep:=fun i h h' st k=>by
    obtain ⟨⟨old,he⟩,hs⟩:=st
    exact ⟨⟨old,k e (by simp) _ he⟩,hs.at fun o q=>k it (by simp) o q⟩
  item:=by
    intro X hP hw hK hc i pins s σ H E I hf st hg
    subst hP hw hK
    obtain ⟨xs,x,hq,hx⟩:=hg
    obtain ⟨⟨old,he⟩,hs⟩:=st
    obtain ⟨its,rv,p,hz⟩:=I.sqb hq
    obtain ⟨u,hu,ru⟩:=rv.get hx
    have hne:a≠it:=fun z=>by
      subst z
      have h1:=p;have h2:=hs
      cases b <;> (obtain ⟨o1,e1,c1,_⟩:=h1;obtain ⟨o2,e2,c2,_⟩:=h2;rw [e1] at e2;cases e2;rw [c1] at c2;exact absurd c2 (by simp))
    have hne2:a≠e:=fun z=>by
      subst z
      have h1:=p
      cases b <;> (obtain ⟨o1,e1,c1,_⟩:=h1;rw [he] at e1;cases e1;exact absurd c1 (by simp))
    have hil:i<its.toArray.size:=by
      have:i<its.length:=(List.getElem?_eq_some_iff.mp hu).1
      simpa using this
    have hh:X.A.in1.handled=none:=I.ok.hd hc
    refine wpAny_pyNext_enum_itemD (qk1 hh b it a hne its.toArray) he ⟨hs,p⟩ hil hei (by simp [hei,Ne.symm hne2]) fun y h' tk hP' ho hst hT hsz hk=>?_
    have hy:y=u:=by
      have:its.toArray[i]?=some u:=by simpa using hu
      rw [this] at hP';exact (Option.some.inj hP').symm
    subst hy
    refine ⟨.ref s.heap.objs.size,rfl,wpAny_letOwnedTupleGo_enum ho fun h2 he2 hs2=>?_⟩
    have zn:H s.heap.objs.size=none:=I.fresh
    have I1:Inv X pins σ (upd H s.heap.objs.size (.tup [.int i,x])) { s with heap:=s.heap.push { cls:=.type "tuple",data:=.seq #[.int i tk,y] },toks:=tk } :=
      I.laid (fun c o q=>Heap.get?_push_of_some _ q) (Nat.le_refl _) ⟨by show 2≤sizeLine;decide,[.int i tk,y],.cons ⟨tk,rfl⟩ (.cons ru .nil),_,Heap.get?_push_size _ rfl,⟨rfl,rfl⟩,0,rfl⟩
    have lts:∀ c∈[e,it],c<s.heap.objs.size:=fun c hc=>by
      rcases List.mem_cons.mp hc with rfl | hc
      · exact Heap.lt_size he
      · rw [List.mem_singleton.mp hc];exact hs.lt
    have f1:∀ c∈[e,it],qfK X pins (upd H s.heap.objs.size (.tup [.int i,x])) c:=fun c hc=>⟨by rw [qak (Nat.ne_of_lt (lts c hc))];exact (hf c hc).1,(hf c hc).2⟩
    have I2:=I1.turnedL (h':=h2) (ch:=[e,it]) (t':=tk+1) (fun c o hc q=>?_) f1
    · refine ⟨.ref s.heap.objs.size,_,I2,rfl,⟨s.heap.objs.size,x,zn,rfl,rfl,fun ys hy=>by rw [I.sqb_inj hy hq];exact hx⟩,⟨⟨_,by simpa using he2⟩,hst.1.at fun o q=>(hs2.2 it (Ne.symm hei)).trans q⟩,fun c hc=>(f1 c hc).1⟩
    · have hce:c≠e:=fun z=>hc (by simp [z])
      have hci:c≠it:=fun z=>hc (by simp [z])
      refine (hs2.2 c hce).trans ?_
      rcases Heap.get?_push_cases q with ⟨z,z'⟩ | q'
      · subst z;subst z';exact hT
      · exact hk c o hce hci q'
  done:=by
    intro X hP hw hK hc i pins s σ H E I hf st hg
    subst hP hw hK
    obtain ⟨xs,hq,hx⟩:=hg
    obtain ⟨⟨old,he⟩,hs⟩:=st
    obtain ⟨its,rv,p,hz⟩:=I.sqb hq
    have hl:=rv.length
    refine qkW (I.ok.hd hc) he hs p (by simp;omega) fun h' eb=>⟨rfl,?_⟩
    exact I.turnedL (ch:=[e,it]) (t':=s.toks) (fun c o hc q=>eb c o (fun z=>hc (by simp [z])) q) hf
  self:=fun _ _ _ _ _ st h=>by obtain ⟨⟨old,he⟩,_⟩:=st;exact wpAny_pyIter_enum he h
end L2
namespace L2
open PySem PySem.Spec PyProof.Rows
open AutoSeq1 (wpAny_loadPart')
section
variable {X : Cx}
end
structure ZAp (z TI TO i1 i2:Addr):Prop where
  a1:TI≠z
  a2:TO≠z
  a3:i1≠z
  a4:i2≠z
  a5:TI≠TO
  a6:TI≠i1
  a7:TI≠i2
  a8:TO≠i1
  a9:TO≠i2
  a0:i1≠i2
theorem SqI.but {b:Bool} {h h':Heap} {it a c:Addr} {i:Nat} (x:SqI b h it a i) (s:Heap.SameBut c h h') (n:it≠c):SqI b h' it a i:=x.at fun o e=>(s.2 it n).trans e
theorem SqO.but {b:Bool} {h h':Heap} {a c:Addr} {its:Array Value} (x:SqO b h a its) (s:Heap.SameBut c h h') (n:a≠c):SqO b h' a its:=x.at fun o e=>(s.2 a n).trans e
theorem SqO.ne {b:Bool} {h:Heap} {a c:Addr} {its:Array Value} {o:Obj} (x:SqO b h a its) (e:h.get? c=some o) (n1:o.cls≠.type "list") (n2:o.cls≠.type "tuple"):a≠c:=fun z=>by
  subst z
  cases b <;> (obtain ⟨o',e',c',_⟩:=x;rw [e] at e';cases e')
  · exact n2 c'
  · exact n1 c'
theorem SqO.ne_it {b b':Bool} {h:Heap} {a it l:Addr} {its:Array Value} {i:Nat} (x:SqO b h a its) (y:SqI b' h it l i):a≠it:=by
  cases b' <;> (obtain ⟨o,e,c,_⟩:=y;exact x.ne e (by rw [c];simp) (by rw [c];simp))
section
variable {prog : Program} {w : World} {A : Around} {E : Value → Shared → Prop} {s : Shared}
theorem qku {b1 b2:Bool} {z TI TO i1 i2 l1 l2:Addr} {k1 k2:Nat} {xs ys:Array Value} {x y a b:Value} {Q:Value→Shared→Prop} (D:ZAp z TI TO i1 i2)
    (hz:IsZip s.heap z TI TO .none) (hTI:IsPair s.heap TI (.ref i1) (.ref i2)) (hTO:IsPair s.heap TO a b) (n1:l1≠TO) (n2:l2≠TO)
    (h1:SqI b1 s.heap i1 l1 k1) (h2:SqI b2 s.heap i2 l2 k2) (hl1:SqO b1 s.heap l1 xs) (hl2:SqO b2 s.heap l2 ys) (hx:xs[k1]?=some x) (hy:ys[k2]?=some y)
    (hQ:∀ h',IsZip h' z TI TO (rawInt s.heap.objs.size)→IsPair h' TO x y→SqI b1 h' i1 l1 (k1+1)→SqI b2 h' i2 l2 (k2+1)→IsPair h' s.heap.objs.size x y→h'.objs.size=s.heap.objs.size+1 →
      (∀ c o,c∉[z,TO,i1,i2]→s.heap.get? c=some o→h'.get? c=some o)→Q (.ref s.heap.objs.size) { s with heap:=h' }) :
    wpAny (model prog w) A (Builtin.«zip.__next__» ⟨[.ref z],[]⟩) (fun fin s'=>∃ v,fin=.done (.ret v)∧Q v s') E s:=by
  have l1z:l1≠z:=hl1.ne hz (by simp) (by simp)
  have l2z:l2≠z:=hl2.ne hz (by simp) (by simp)
  have l2i1:l2≠i1:=hl2.ne_it h1
  show wpAny _ _ (field (.ref z) 2 >>= _) _ _ _
  refine wpAny_bind (wpAny_field hz rfl (x:=.bool false) rfl ?_)
  show wpAny _ _ (field (.ref z) 3 >>= _) _ _ _
  refine wpAny_bind (wpAny_field hz rfl (x:=.ref TI) rfl (wpAny_bind (wpAny_seqItems hTI rfl ?_)))
  show wpAny _ _ (Builtin.SmallTypes.ownedTupleIsFree (.ref z) >>= _) _ _ _
  refine wpAny_bind ?_
  unfold Builtin.SmallTypes.ownedTupleIsFree
  refine wpAny_bind (wpAny_field hz rfl (x:=.none) rfl (wpAny_pure ?_))
  simp only [if_true]
  refine wpAny_bind (wpAny_rule (wpAny_bind (wpAny_field hz rfl (x:=.ref TO) rfl (wpAny_bind (wpAny_setField_rec hz (by simp) fun g1 z1 s1=>?_)))))
  replace z1:IsZip g1 z TI TO .ellipsis:=z1
  refine wpAny_bind ?_
  simp only [List.zipIdx_cons,List.zipIdx_nil,List.forIn_cons,List.forIn_nil]
  refine wpAny_bind (wpAny_bind (wpAny_onRaise ?_))
  show wpAny _ _ (Builtin.SmallTypes.nextOf (.ref i1) >>= _) _ _ _
  refine wpAny_bind (qff (h1.but s1 D.a3) (hl1.but s1 l1z) hx fun g2 p2 s2=>wpAny_pure ?_)
  have t2:IsPair g2 TO a b:=s2.extBut _ _ D.a8 (s1.extBut _ _ D.a2 hTO)
  refine wpAny_bind (wpAny_seqItems t2 rfl (wpAny_bind (wpAny_updateSeq_pair t2 fun g3 t3 s3=>wpAny_bind (wpAny_letGo (wpAny_pure ?_)))))
  replace t3:IsPair g3 TO x b:=t3
  refine wpAny_bind (wpAny_bind (wpAny_onRaise ?_))
  show wpAny _ _ (Builtin.SmallTypes.nextOf (.ref i2) >>= _) _ _ _
  refine wpAny_bind (qff (((h2.but s1 D.a4).but s2 D.a0.symm).but s3 D.a9.symm) (((hl2.but s1 l2z).but s2 l2i1).but s3 n2) hy fun g4 p4 s4=>wpAny_pure ?_)
  have t4:IsPair g4 TO x b:=s4.extBut _ _ D.a9 t3
  refine wpAny_bind (wpAny_seqItems t4 rfl (wpAny_bind (wpAny_updateSeq_pair t4 fun g5 t5 s5=>wpAny_bind (wpAny_letGo (wpAny_pure (wpAny_pure ?_))))))
  replace t5:IsPair g5 TO x y:=t5
  refine wpAny_bind (wpAny_seqItems t5 rfl (wpAny_bind (wpAny_newTuple ?_)))
  have sz:g5.objs.size=s.heap.objs.size:=by rw [s5.1,s4.1,s3.1,s2.1,s1.1]
  have z5:IsZip g5 z TI TO .ellipsis:=s5.extBut _ _ D.a2.symm (s4.extBut _ _ D.a4.symm (s3.extBut _ _ D.a2.symm (s2.extBut _ _ D.a3.symm z1)))
  have k5:∀ c o,c∉[z,TO,i1,i2]→s.heap.get? c=some o→g5.get? c=some o:=fun c o hc e=>by
    have c1:c≠z:=fun q=>hc (by simp [q])
    have c2:c≠TO:=fun q=>hc (by simp [q])
    have c3:c≠i1:=fun q=>hc (by simp [q])
    have c4:c≠i2:=fun q=>hc (by simp [q])
    exact s5.extBut _ _ c2 (s4.extBut _ _ c4 (s3.extBut _ _ c2 (s2.extBut _ _ c3 (s1.extBut _ _ c1 e))))
  have q1:SqI b1 g5 i1 l1 (k1+1):=((p2.but s3 D.a8.symm).but s4 D.a0).but s5 D.a8.symm
  have q2:SqI b2 g5 i2 l2 (k2+1):=p4.but s5 D.a9.symm
  show wpAny _ _ (Builtin.SmallTypes.ownedTupleHandOut (.ref z) (.ref g5.objs.size) >>= _) _ _ _
  refine wpAny_bind ?_
  unfold Builtin.SmallTypes.ownedTupleHandOut
  have z6:IsZip (g5.push { cls:=.type "tuple",data:=.seq #[x,y] }) z TI TO .ellipsis:=Heap.get?_push_of_some _ z5
  refine wpAny_bind (wpAny_setField_rec z6 (by simp) fun g7 z7 s7=>?_)
  replace z7:IsZip g7 z TI TO (rawInt g5.objs.size):=z7
  refine wpAny_setField_rec z7 (by simp) fun g8 z8 s8=>?_
  replace z8:IsZip g8 z TI TO (rawInt g5.objs.size):=z8
  have up:∀ c o,c≠z→g5.get? c=some o→g8.get? c=some o:=fun c o c1 e=>s8.extBut _ _ c1 (s7.extBut _ _ c1 (Heap.get?_push_of_some _ e))
  have zl:g5.objs.size≠z:=Nat.ne_of_gt (Heap.lt_size z5)
  have t8:IsPair g8 g5.objs.size x y:=s8.extBut _ _ zl (s7.extBut _ _ zl (Heap.get?_push_size _ rfl))
  have e8:g8.objs.size=g5.objs.size+1:=by rw [s8.1,s7.1,Heap.size_push]
  rw [sz] at z8 t8 e8
  refine wpAny_pure ⟨_,rfl,?_⟩
  show Q (.ref g5.objs.size) _
  rw [sz]
  exact hQ g8 z8 (up _ _ D.a2 t5) (q1.at fun o e=>up _ o D.a3 e) (q2.at fun o e=>up _ o D.a4 e) t8 e8 fun c o hc e=>up c o (fun q=>hc (by simp [q])) (k5 c o hc e)
theorem qmt {b1 b2:Bool} {z TI TO i1 i2 l1 l2:Addr} {k1 k2:Nat} {xs ys:Array Value} {a b:Value} {Q:Fin→Shared→Prop} (hh:A.handled=none) (D:ZAp z TI TO i1 i2)
    (hz:IsZip s.heap z TI TO .none) (hTI:IsPair s.heap TI (.ref i1) (.ref i2)) (hTO:IsPair s.heap TO a b) (n1:l1≠TO) (n2:l2≠TO)
    (h1:SqI b1 s.heap i1 l1 k1) (h2:SqI b2 s.heap i2 l2 k2) (hl1:SqO b1 s.heap l1 xs) (hl2:SqO b2 s.heap l2 ys) (hend:xs[k1]?=none∨ys[k2]?=none)
    (hE:∀ h' e,(∀ c o,c∉[z,TO,i1,i2]→s.heap.get? c=some o→h'.get? c=some o)→(∃ o,h'.get? e=some o∧o.cls=.type "StopIteration")→E (.ref e) { s with heap:=h' }) :
    wpAny (model prog w) A (Builtin.«zip.__next__» ⟨[.ref z],[]⟩) Q E s:=by
  have l1z:l1≠z:=hl1.ne hz (by simp) (by simp)
  have l2z:l2≠z:=hl2.ne hz (by simp) (by simp)
  have l2i1:l2≠i1:=hl2.ne_it h1
  show wpAny _ _ (field (.ref z) 2 >>= _) _ _ _
  refine wpAny_bind (wpAny_field hz rfl (x:=.bool false) rfl ?_)
  show wpAny _ _ (field (.ref z) 3 >>= _) _ _ _
  refine wpAny_bind (wpAny_field hz rfl (x:=.ref TI) rfl (wpAny_bind (wpAny_seqItems hTI rfl ?_)))
  show wpAny _ _ (Builtin.SmallTypes.ownedTupleIsFree (.ref z) >>= _) _ _ _
  refine wpAny_bind ?_
  unfold Builtin.SmallTypes.ownedTupleIsFree
  refine wpAny_bind (wpAny_field hz rfl (x:=.none) rfl (wpAny_pure ?_))
  simp only [if_true]
  refine wpAny_bind (wpAny_rule (wpAny_bind (wpAny_field hz rfl (x:=.ref TO) rfl (wpAny_bind (wpAny_setField_rec hz (by simp) fun g1 z1 s1=>?_)))))
  replace z1:IsZip g1 z TI TO .ellipsis:=z1
  refine wpAny_bind ?_
  simp only [List.zipIdx_cons,List.zipIdx_nil,List.forIn_cons,List.forIn_nil]
  refine wpAny_bind (wpAny_bind (wpAny_onRaise ?_))
  show wpAny _ _ (Builtin.SmallTypes.nextOf (.ref i1) >>= _) _ _ _
  cases hx:xs[k1]? with
  | none =>
    refine wpAny_bind (qhm hh (h1.but s1 D.a3) (hl1.but s1 l1z) hx fun g2 e s2 he=>?_)
    obtain ⟨oe,hoe,hce⟩:=he
    have z2:IsZip g2 z TI TO .ellipsis:=s2 _ _ D.a3.symm z1
    have ez:e≠z:=fun q=>by subst q;rw [z2] at hoe;cases hoe;simp at hce
    refine wpAny_setField_rec z2 (by simp) fun g3 _ s3=>hE g3 e (fun c o hc q=>?_) ⟨oe,s3.extBut _ _ ez hoe,hce⟩
    have c1:c≠z:=fun q=>hc (by simp [q])
    exact s3.extBut _ _ c1 (s2 _ _ (fun q=>hc (by simp [q])) (s1.extBut _ _ c1 q))
  | some x =>
    have hy:ys[k2]?=none:=by
      rcases hend with h | h
      · rw [hx] at h;cases h
      · exact h
    refine wpAny_bind (qff (h1.but s1 D.a3) (hl1.but s1 l1z) hx fun g2 p2 s2=>wpAny_pure ?_)
    have t2:IsPair g2 TO a b:=s2.extBut _ _ D.a8 (s1.extBut _ _ D.a2 hTO)
    refine wpAny_bind (wpAny_seqItems t2 rfl (wpAny_bind (wpAny_updateSeq_pair t2 fun g3 t3 s3=>wpAny_bind (wpAny_letGo (wpAny_pure ?_)))))
    refine wpAny_bind (wpAny_bind (wpAny_onRaise ?_))
    show wpAny _ _ (Builtin.SmallTypes.nextOf (.ref i2) >>= _) _ _ _
    refine wpAny_bind (qhm hh (((h2.but s1 D.a4).but s2 D.a0.symm).but s3 D.a9.symm) (((hl2.but s1 l2z).but s2 l2i1).but s3 n2) hy fun g4 e s4 he=>?_)
    obtain ⟨oe,hoe,hce⟩:=he
    have z4:IsZip g4 z TI TO .ellipsis:=s4 _ _ D.a4.symm (s3.extBut _ _ D.a2.symm (s2.extBut _ _ D.a3.symm z1))
    have ez:e≠z:=fun q=>by subst q;rw [z4] at hoe;cases hoe;simp at hce
    refine wpAny_setField_rec z4 (by simp) fun g5 _ s5=>hE g5 e (fun c o hc q=>?_) ⟨oe,s5.extBut _ _ ez hoe,hce⟩
    have c1:c≠z:=fun q=>hc (by simp [q])
    exact s5.extBut _ _ c1 (s4 _ _ (fun q=>hc (by simp [q])) (s3.extBut _ _ (fun q=>hc (by simp [q])) (s2.extBut _ _ (fun q=>hc (by simp [q])) (s1.extBut _ _ c1 q))))
theorem ql6 (b1 b2:Bool) (l1 l2:Addr) (xs ys:Array Value) :
    Meets (Builtin.«zip.__new__» ⟨[.type "zip",.ref l1,.ref l2],[]⟩) (fun _ R s=>SqO b1 s.heap l1 xs∧SqO b2 s.heap l2 ys ∧
      R (.ok (.ret (.ref (s.heap.objs.size+4)))) { s with heap:=((((s.heap.push (qbN b1 l1)).push (qbN b2 l2)).push { cls:=.type "tuple",data:=.seq #[.ref s.heap.objs.size,.ref (s.heap.objs.size+1)] }).push { cls:=.type "tuple",data:=.seq #[.none,.none] }).push { cls:=.type "zip",data:=.fields #[.none,.bool false,.bool false,.ref (s.heap.objs.size+2),.ref (s.heap.objs.size+3)] } }) :=
  .of_wp fun prog w A R s h=>by
    obtain ⟨hp,g,d,tk,os⟩:=s;obtain ⟨hl1,hl2,h⟩:=h
    have hsub:=sub_zip
    have hL1:SqO b1 (Shared.heap ⟨hp,g,d,tk,os⟩) l1 xs:=hl1
    have hL2:SqO b2 (Shared.heap ⟨hp.push (qbN b1 l1),g,d,tk,os⟩) l2 ys:=SqO.at hl2 fun o e=>Heap.get?_push_of_some _ e
    wp_walk using qgy hL1,qgy hL2
    have e1:(hp.push (qbN b1 l1)).objs.size=hp.objs.size+1:=Heap.size_push ..
    have e2:((hp.push (qbN b1 l1)).push (qbN b2 l2)).objs.size=hp.objs.size+2:=by rw [Heap.size_push,e1]
    refine ⟨_,rfl,?_⟩
    simp only [Heap.size_push]
    exact h
theorem qkL {b1 b2:Bool} {l1 l2:Addr} {xs ys:Array Value} {Q:Value→Shared→Prop} (hl1:SqO b1 s.heap l1 xs) (hl2:SqO b2 s.heap l2 ys)
    (h:∀ h',IsZip h' (s.heap.objs.size+4) (s.heap.objs.size+2) (s.heap.objs.size+3) .none→IsPair h' (s.heap.objs.size+2) (.ref s.heap.objs.size) (.ref (s.heap.objs.size+1))→IsPair h' (s.heap.objs.size+3) .none .none →
      SqI b1 h' s.heap.objs.size l1 0→SqI b2 h' (s.heap.objs.size+1) l2 0→(∀ c o,s.heap.get? c=some o→h'.get? c=some o)→Q (.ref (s.heap.objs.size+4)) { s with heap:=h' }) :
    wpAny (model prog w) A (call (.type "zip") [.ref l1,.ref l2]) Q E s:=by
  refine callType_new F.called_zip (by decide) (F.typeCall_zip_2 _ _) (F.newCall_zip_2 _ _) (fun obj=>F.args_object_init_3 obj _ _) F.entry_zip_new (ql6 b1 b2 l1 l2 xs ys) ⟨hl1,hl2,?_⟩
  have f1:(qbN b1 l1).isFreed=false:=by cases b1 <;> rfl
  have f2:(qbN b2 l2).isFreed=false:=by cases b2 <;> rfl
  have z1:(s.heap.push (qbN b1 l1)).objs.size=s.heap.objs.size+1:=Heap.size_push ..
  have z2:((s.heap.push (qbN b1 l1)).push (qbN b2 l2)).objs.size=s.heap.objs.size+2:=by rw [Heap.size_push,z1]
  generalize hg2:(s.heap.push (qbN b1 l1)).push (qbN b2 l2)=g2 at z2 ⊢
  have e0:g2.get? s.heap.objs.size=some (qbN b1 l1):=by rw [← hg2];exact Heap.get?_push_of_some _ (Heap.get?_push_size _ f1)
  have e1:g2.get? (s.heap.objs.size+1)=some (qbN b2 l2):=by rw [← hg2,← z1];exact Heap.get?_push_size _ f2
  have k2:∀ c o,s.heap.get? c=some o→g2.get? c=some o:=fun c o q=>by rw [← hg2];exact Heap.get?_push_of_some _ (Heap.get?_push_of_some _ q)
  generalize hg3:g2.push { cls:=.type "tuple",data:=.seq #[.ref s.heap.objs.size,.ref (s.heap.objs.size+1)] }=g3
  have z3:g3.objs.size=s.heap.objs.size+3:=by rw [← hg3,Heap.size_push,z2]
  have e2:IsPair g3 (s.heap.objs.size+2) (.ref s.heap.objs.size) (.ref (s.heap.objs.size+1)):=by rw [← hg3,← z2];exact Heap.get?_push_size _ rfl
  have k3:∀ c o,g2.get? c=some o→g3.get? c=some o:=fun c o q=>by rw [← hg3];exact Heap.get?_push_of_some _ q
  generalize hg4:g3.push { cls:=.type "tuple",data:=.seq #[.none,.none] }=g4
  have z4:g4.objs.size=s.heap.objs.size+4:=by rw [← hg4,Heap.size_push,z3]
  have e3:IsPair g4 (s.heap.objs.size+3) .none .none:=by rw [← hg4,← z3];exact Heap.get?_push_size _ rfl
  have k4:∀ c o,g3.get? c=some o→g4.get? c=some o:=fun c o q=>by rw [← hg4];exact Heap.get?_push_of_some _ q
  generalize hg5:g4.push { cls:=.type "zip",data:=.fields #[.none,.bool false,.bool false,.ref (s.heap.objs.size+2),.ref (s.heap.objs.size+3)] }=g5
  have e4:IsZip g5 (s.heap.objs.size+4) (s.heap.objs.size+2) (s.heap.objs.size+3) .none:=by rw [← hg5,← z4];exact Heap.get?_push_size _ rfl
  have k5:∀ c o,g4.get? c=some o→g5.get? c=some o:=fun c o q=>by rw [← hg5];exact Heap.get?_push_of_some _ q
  show _∧_
  exact ⟨⟨_,e4,rfl⟩,h _ e4 (k5 _ _ (k4 _ _ e2)) (k5 _ _ e3) (qdM (k5 _ _ (k4 _ _ (k3 _ _ e0)))) (qdM (k5 _ _ (k4 _ _ (k3 _ _ e1)))) fun c o q=>k5 _ _ (k4 _ _ (k3 _ _ (k2 _ _ q)))⟩
theorem qje {b1 b2:Bool} {z TI TO i1 i2 l1 l2:Addr} {k1 k2:Nat} {xs ys:Array Value} {x y a b:Value} {Q:Option Value→Shared→Prop} (D:ZAp z TI TO i1 i2)
    (hz:IsZip s.heap z TI TO .none) (hTI:IsPair s.heap TI (.ref i1) (.ref i2)) (hTO:IsPair s.heap TO a b) (n1:l1≠TO) (n2:l2≠TO)
    (h1:SqI b1 s.heap i1 l1 k1) (h2:SqI b2 s.heap i2 l2 k2) (hl1:SqO b1 s.heap l1 xs) (hl2:SqO b2 s.heap l2 ys) (hx:xs[k1]?=some x) (hy:ys[k2]?=some y)
    (hQ:∀ h',IsZip h' z TI TO (rawInt s.heap.objs.size)→IsPair h' TO x y→SqI b1 h' i1 l1 (k1+1)→SqI b2 h' i2 l2 (k2+1)→IsPair h' s.heap.objs.size x y→h'.objs.size=s.heap.objs.size+1 →
      (∀ c o,c∉[z,TO,i1,i2]→s.heap.get? c=some o→h'.get? c=some o)→Q (some (.ref s.heap.objs.size)) { s with heap:=h' }):wpAny (model prog w) A (pyNext (.ref z)) Q E s:=by
  have hT:s.TypeIs (.ref z) "zip":=⟨_,hz,rfl⟩
  unfold pyNext
  exact wpAny_bind (wpAny_attempt (wpAny_callSpecial?_slot (name:=Str.ofString "__next__") hT F.slot_zip_next (wpAny_call_entry F.slot_zip_next hT F.entry_zip_next
    (qku D hz hTI hTO n1 n2 h1 h2 hl1 hl2 hx hy fun h' c1 c2 c3 c4 c5 c6 c7=>wpAny_pure (hQ h' c1 c2 c3 c4 c5 c6 c7)) (F.args_zip_next_1 _))))
theorem qkO {b1 b2:Bool} {z TI TO i1 i2 l1 l2:Addr} {k1 k2:Nat} {xs ys:Array Value} {a b:Value} {Q:Option Value→Shared→Prop} (hh:A.handled=none) (D:ZAp z TI TO i1 i2)
    (hz:IsZip s.heap z TI TO .none) (hTI:IsPair s.heap TI (.ref i1) (.ref i2)) (hTO:IsPair s.heap TO a b) (n1:l1≠TO) (n2:l2≠TO)
    (h1:SqI b1 s.heap i1 l1 k1) (h2:SqI b2 s.heap i2 l2 k2) (hl1:SqO b1 s.heap l1 xs) (hl2:SqO b2 s.heap l2 ys) (hend:xs[k1]?=none∨ys[k2]?=none)
    (hQ:∀ h',(∀ c o,c∉[z,TO,i1,i2]→s.heap.get? c=some o→h'.get? c=some o)→Q none { s with heap:=h' }):wpAny (model prog w) A (pyNext (.ref z)) Q E s:=by
  have hT:s.TypeIs (.ref z) "zip":=⟨_,hz,rfl⟩
  unfold pyNext
  refine wpAny_bind (wpAny_attempt (wpAny_callSpecial?_slot (name:=Str.ofString "__next__") hT F.slot_zip_next (wpAny_call_entry F.slot_zip_next hT F.entry_zip_next (qmt hh D hz hTI hTO n1 n2 h1 h2 hl1 hl2 hend fun h' e hk he=>?_) (F.args_zip_next_1 _))))
  obtain ⟨o,ho,hc⟩:=he
  exact wpAny_bind (wpAny_isInstance (T:="StopIteration") (b:=true) ⟨o,ho,hc⟩ isSubtype_stop (wpAny_pure (hQ _ hk)))
end
theorem Inv.sqb_ne {X:Cx} {pins:List (Addr × Obj)} {σ:St} {H:Hp} {s:Shared} {b:Bool} {a c:Addr} {xs:List V} (I:Inv X pins σ H s) (h:SqB X.K b H a xs) (f:qfK X pins H c):a≠c:=fun z=>by
  subst z
  have nk:∀ o,X.K.lookup a=some o→False:=fun o e=>by
    have e':=I.mod.kin a o e
    rcases f.2.2.2.1 with q | q
    · exact I.ok.noex a o e' q
    · exact absurd (Nat.lt_of_lt_of_le (Heap.lt_size e') (Nat.le_trans I.ok.bsz q)) (Nat.lt_irrefl _)
  cases b with
  | true =>
    rcases h with (h | ⟨o,h⟩) | ⟨o,_,_,h,_⟩
    · rw [f.1] at h;cases h
    · rw [f.1] at h;cases h
    · exact nk o h
  | false =>
    rcases h with (h | ⟨o,h⟩) | ⟨o,_,_,h,_⟩
    · rw [f.1] at h;cases h
    · rw [f.1] at h;cases h
    · exact nk o h
def Itz (K:PySem.W.Frag) (b1:Bool) (a1:Addr) (b2:Bool) (a2:Addr):It :=
  ⟨fun i H=>∃ xs ys x y,SqB K b1 H a1 xs∧SqB K b2 H a2 ys∧xs[i]?=some x∧ys[i]?=some y,
   fun i H v H'=>∃ t x y,H t=none∧v=.ref t∧H'=upd H t (.tup [x,y])∧(∀ xs,SqB K b1 H a1 xs→xs[i]?=some x)∧∀ ys,SqB K b2 H a2 ys→ys[i]?=some y,
   fun i H=>∃ xs ys,SqB K b1 H a1 xs∧SqB K b2 H a2 ys∧(xs.length≤i∨ys.length≤i)⟩
theorem qk5 {P:Program} {w:World} {K:PySem.W.Frag} {es:List Expr} {k:Nat} {pos:Pos} (b1 b2:Bool) (a1 a2 z TI TO i1 i2:Addr) (D:ZAp z TI TO i1 i2) :
    Turn P w K (.Tuple es k pos) (Itz K b1 a1 b2 a2) [z,TI,TO,i1,i2] z (fun i h=>IsZip h z TI TO .none∧IsPair h TI (.ref i1) (.ref i2)∧(∃ a b,IsPair h TO a b)∧SqI b1 h i1 a1 i∧SqI b2 h i2 a2 i) where
  mem:=by simp
  obj:=fun i h st c hc=>by
    obtain ⟨h1,h2,⟨a,b,h3⟩,h4,h5⟩:=st
    simp only [List.mem_cons,List.not_mem_nil,or_false] at hc
    rcases hc with rfl | rfl | rfl | rfl | rfl
    · exact ⟨_,h1,fun v q=>by have q':Data.fields _=Data.cell v:=q;cases q'⟩
    · exact ⟨_,h2,fun v q=>by have q':Data.seq _ _=Data.cell v:=q;cases q'⟩
    · exact ⟨_,h3,fun v q=>by have q':Data.seq _ _=Data.cell v:=q;cases q'⟩
    · exact h4.obj
    · exact h5.obj
  keep:=fun i h h' st k=>by
    obtain ⟨h1,h2,⟨a,b,h3⟩,h4,h5⟩:=st
    exact ⟨k z (by simp) _ h1,k TI (by simp) _ h2,⟨a,b,k TO (by simp) _ h3⟩,h4.at fun o q=>k i1 (by simp) o q,h5.at fun o q=>k i2 (by simp) o q⟩
  item:=by
    intro X hP hw hK hc i pins s σ H E I hf st hg
    subst hP hw hK
    obtain ⟨xs,ys,x,y,hq1,hq2,hx,hy⟩:=hg
    obtain ⟨h1,h2,⟨a,b,h3⟩,h4,h5⟩:=st
    obtain ⟨its1,rv1,p1,_⟩:=I.sqb hq1
    obtain ⟨its2,rv2,p2,_⟩:=I.sqb hq2
    obtain ⟨u,hu,ru⟩:=rv1.get hx
    obtain ⟨v,hv,rv⟩:=rv2.get hy
    refine qje D h1 h2 h3 (I.sqb_ne hq1 (hf TO (by simp))) (I.sqb_ne hq2 (hf TO (by simp))) h4 h5 p1 p2 (x:=u) (y:=v) (by simpa using hu) (by simpa using hv) fun h' z1 z2 z3 z4 z5 z6 hk=>?_
    refine ⟨.ref s.heap.objs.size,rfl,wpAny_letOwnedTupleGo_zip z1 fun g2 zz hs2=>?_⟩
    have zn:H s.heap.objs.size=none:=I.fresh
    have I1:Inv X pins σ (upd H s.heap.objs.size (.tup [x,y])) { s with heap:=s.heap.push { cls:=.type "tuple",data:=.seq #[u,v] },toks:=s.toks } :=
      I.laid (fun c o q=>Heap.get?_push_of_some _ q) (Nat.le_refl _) ⟨by show 2≤sizeLine;decide,[u,v],.cons ru (.cons rv .nil),_,Heap.get?_push_size _ rfl,⟨rfl,rfl⟩,0,rfl⟩
    have lts:∀ c∈[z,TI,TO,i1,i2],c<s.heap.objs.size:=fun c hc=>by
      simp only [List.mem_cons,List.not_mem_nil,or_false] at hc
      rcases hc with rfl | rfl | rfl | rfl | rfl
      · exact Heap.lt_size h1
      · exact Heap.lt_size h2
      · exact Heap.lt_size h3
      · exact h4.lt
      · exact h5.lt
    have f1:∀ c∈[z,TI,TO,i1,i2],qfK X pins (upd H s.heap.objs.size (.tup [x,y])) c:=fun c hc=>⟨by rw [qak (Nat.ne_of_lt (lts c hc))];exact (hf c hc).1,(hf c hc).2⟩
    have I2:=I1.turnedL (h':=g2) (ch:=[z,TI,TO,i1,i2]) (t':=s.toks) (fun c o hc q=>?_) f1
    · refine ⟨.ref s.heap.objs.size,_,I2,rfl,⟨s.heap.objs.size,x,y,zn,rfl,rfl,fun xs' hy'=>by rw [I.sqb_inj hy' hq1];exact hx,fun ys' hy'=>by rw [I.sqb_inj hy' hq2];exact hy⟩,
        ⟨zz,hs2.extBut _ _ D.a1 (hk TI _ (by simp [D.a1,D.a5,D.a6,D.a7]) h2),⟨_,_,hs2.extBut _ _ D.a2 z2⟩,z3.but hs2 D.a3,z4.but hs2 D.a4⟩,fun c hc=>(f1 c hc).1⟩
    · have hcz:c≠z:=fun e=>hc (by simp [e])
      refine (hs2.2 c hcz).trans ?_
      rcases Heap.get?_push_cases q with ⟨e,e'⟩ | q'
      · subst e;subst e';exact z5
      · exact hk c o (fun e=>hc (by
          simp only [List.mem_cons,List.not_mem_nil,or_false] at e ⊢
          rcases e with e | e | e | e
          · exact .inl e
          · exact .inr (.inr (.inl e))
          · exact .inr (.inr (.inr (.inl e)))
          · exact .inr (.inr (.inr (.inr e))))) q'
  done:=by
    intro X hP hw hK hc i pins s σ H E I hf st hg
    subst hP hw hK
    obtain ⟨xs,ys,hq1,hq2,hend⟩:=hg
    obtain ⟨h1,h2,⟨a,b,h3⟩,h4,h5⟩:=st
    obtain ⟨its1,rv1,p1,_⟩:=I.sqb hq1
    obtain ⟨its2,rv2,p2,_⟩:=I.sqb hq2
    have l1:=rv1.length
    have l2:=rv2.length
    have he:its1.toArray[i]?=none∨its2.toArray[i]?=none:=by
      rcases hend with q | q
      · exact .inl (by simp;omega)
      · exact .inr (by simp;omega)
    refine qkO (I.ok.hd hc) D h1 h2 h3 (I.sqb_ne hq1 (hf TO (by simp))) (I.sqb_ne hq2 (hf TO (by simp))) h4 h5 p1 p2 he fun h' hk=>⟨rfl,?_⟩
    refine I.turnedL (ch:=[z,TI,TO,i1,i2]) (t':=s.toks) (fun c o hc q=>hk c o (fun e=>hc ?_) q) hf
    simp only [List.mem_cons,List.not_mem_nil,or_false] at e ⊢
    rcases e with e | e | e | e
    · exact .inl e
    · exact .inr (.inr (.inl e))
    · exact .inr (.inr (.inr (.inl e)))
    · exact .inr (.inr (.inr (.inr e)))
  self:=fun _ _ _ _ _ st h=>wpAny_pyIter_zip st.1 h
theorem zap (n:Nat):ZAp (n+4) (n+2) (n+3) n (n+1) :=
  ⟨(by omega:n+2≠n+4),(by omega:n+3≠n+4),(by omega:n≠n+4),(by omega:n+1≠n+4),(by omega:n+2≠n+3),(by omega:n+2≠n),(by omega:n+2≠n+1),(by omega:n+3≠n),(by omega:n+3≠n+1),(by omega:n≠n+1)⟩
section
variable {X : Cx}
end
end L2
namespace L2
open PySem PySem.Spec PyProof.Rows
section
variable {X : Cx}
theorem qnt:OpR X (binaryOp .Mult) (rI IntMulOk fun i j=>.int (i*j)):=opI fun _ _ _ _ _ _ _ hc q=>mul_int q hc
def CDivB (i j:Int):Prop:=0<j∧j.natAbs.log2<9000
theorem qkS:OpR X (binaryOp .FloorDiv) (rI CDivB fun i j=>.int (i / j)):=opI fun i j _ _ _ _ _ hc q=>by
  have h1:(0:Int)<j:=hc.1
  exact floordiv_int (by omega) (by rw [Int.fdiv_eq_ediv_of_nonneg i (by omega)];exact q) (.inl (PyProof.noPylong_of_log2 hc.2))
end
theorem qh4 {n k:Nat} (hk:0<k) (h:n<2 ^ k):n.log2<k:=by
  rcases Nat.eq_zero_or_pos n with z | z
  · subst z;simpa using hk
  · exact (Nat.log2_lt (Nat.ne_of_gt z)).mpr h
theorem CDivB.of {i j:Int} (h0:0<j) (h:j<2 ^ 9000):CDivB i j:=⟨h0,qh4 (by decide) (by
  have e:(j.natAbs:Int)=j:=Int.natAbs_of_nonneg (Int.le_of_lt h0)
  have:(j.natAbs:Int)<((2 ^ 9000:Nat):Int):=by rw [e];exact_mod_cast h
  exact_mod_cast this)⟩
theorem qcU {a b:Int} (h1:-(2 ^ 64)<a) (h2:a<2 ^ 64):IntMulOk a b:=.of_left (intBits_le_64 h1 h2)
theorem qfo {a b:Int} (h1:-(2 ^ 64)<b) (h2:b<2 ^ 64):IntMulOk a b:=.of_right (intBits_le_64 h1 h2)
section
variable {prog : Program} {w : World} {A : Around} {E : Value → Shared → Prop} {s : Shared}
theorem qfO {it t:Addr} {items:Array Value} (hne:t≠it):∀ (n i:Nat) (s:Shared) (Q:List Value→Shared→Prop),s.heap.IsListIter it t i→s.heap.IsList t items→i+n≤items.size →
    (∀ h',h'.IsListIter it t (i+n)→Heap.SameBut it s.heap h'→Q ((items.toList.drop i).take n) { s with heap:=h' })→wpAny (model prog w) A (draw (.ref it) n) Q E s
  | 0,i,s,Q,hit,_,_,hQ=>by
    show wpAny _ _ (pure []) Q E s
    exact wpAny_pure (by simpa using hQ s.heap hit (Heap.SameBut.refl ..))
  | n+1,i,s,Q,hit,ht,hle,hQ=>by
    have hlt:i<items.size:=by omega
    show wpAny _ _ (pyNext (.ref it) >>= _) Q E s
    refine wpAny_bind (wpAny_pyNext_list_item hit ht (x:=items[i]) (by simp [hlt]) fun g1 hit1 s1=>?_)
    refine wpAny_bind (wpAny_holding (qfO hne n (i+1) _ _ hit1 (ht.extBut s1.extBut hne) (by omega) fun g2 hit2 s2=>wpAny_pure ?_))
    have hd:items.toList.drop i=items[i]::items.toList.drop (i+1):=by simp [List.drop_eq_getElem_cons,hlt]
    have:=hQ g2 (by rw [show i+(n+1)=i+1+n by omega];exact hit2) (s1.trans s2)
    rw [hd,List.take_succ_cons] at this
    exact this
theorem qdE {t:Addr} {items:Array Value} {Q:List Value→Shared→Prop} (hh:A.handled=none) (ht:s.heap.IsList t items)
    (hQ:∀ h',Heap.ExtBut s.heap.objs.size s.heap h'→Q items.toList { s with heap:=h' }):wpAny (model prog w) A (unpackItems (.ref t) items.size none) Q E s:=by
  have hlt:t≠s.heap.objs.size:=by obtain ⟨o,ho,_⟩:=ht;exact Nat.ne_of_lt (Heap.lt_size ho)
  unfold unpackItems
  refine wpAny_bind ?_
  unfold notIterableAtAll
  refine wpAny_bind (wpAny_specialOf ht.typeIs slot_list_iter.lookup (wpAny_pure ?_))
  simp only [Bool.false_eq_true,if_false]
  refine wpAny_bind (wpAny_holding (wpAny_pyIter_list ht (wpAny_bind (wpAny_holding (qfO hlt items.size 0 _ _ ⟨_,Heap.get?_push_size _ rfl,rfl,rfl⟩ (ht.push _) (by omega) fun g1 hit1 s1=>?_)))))
  have hall:List.take items.size (List.drop 0 items.toList)=items.toList:=by
    rw [List.drop_zero];exact List.take_of_length_le (by simp)
  rw [hall,if_neg (by simp)]
  have ht1:g1.IsList t items:=(ht.push _).extBut s1.extBut hlt
  refine wpAny_bind (wpAny_holding (wpAny_pyNext_list_end hh hit1 ht1 (by simp) fun g2 e2=>?_))
  simp only [Option.isSome_none,Bool.false_eq_true,if_false]
  exact wpAny_pure (hQ g2 fun b o hb e=>e2 b o hb (s1.extBut b o hb (Heap.get?_push_of_some _ e)))
end
section
variable {X : Cx} {pos : Pos}
def qqb (K:PySem.W.Frag) (n:Nat) (t:TGs):TG:=fun v σ H Q=>∃ a xs,v=.ref a∧SqL K H a xs∧xs.length=n∧t xs σ H Q
theorem qoZ {es:List Expr} {k:Nat} {t:TGs} {n:Nat} (hc:X.calm=true) (h:PGs X es t)
    (hn:(assignEach es X.env).length=n:=by rfl) (hst:(assignEach es X.env).findIdx? (·.1)=none:=by rfl):PG X (.Tuple es k pos) (qqb X.K n t):=by
  intro pins s σ H v u Q I r hw
  obtain ⟨a,xs,e1,hq,hl,hw⟩:=hw
  subst e1
  cases r
  obtain ⟨its,rv,ht,hz⟩:=I.list hq
  rw [assign_Tuple]
  refine wpAny_bind (wpAny_standAt ?_)
  unfold unpack
  have e0:(assignEach es X.env).length=its.toArray.size:=by simp [hn,← hl,rv.length]
  rw [e0,hst]
  refine wpAny_bind (wpAny_holding (qdE (I.ok.hd hc) ht.isList fun h' hx=>?_))
  have I1:Inv X pins σ H { s with heap:=h' }:=I.kept (t':=s.toks) fun b o e=>hx b o (Nat.ne_of_lt (Heap.lt_size e)) e
  exact h pins _ σ H xs _ Q I1 (by simpa using rv) hw
end
inductive IsiV (K:PySem.W.Frag) (H:Hp):V→String→Bool→Prop where
  | int_int (i):IsiV K H (.int i) "int" true
  | int_bool (i):IsiV K H (.int i) "bool" false
  | int_tuple (i):IsiV K H (.int i) "tuple" false
  | int_str (i):IsiV K H (.int i) "str" false
  | bl_int (b):IsiV K H (.bl b) "int" true
  | bl_bool (b):IsiV K H (.bl b) "bool" true
  | bl_tuple (b):IsiV K H (.bl b) "tuple" false
  | str_str (x):IsiV K H (.str x) "str" true
  | str_tuple (x):IsiV K H (.str x) "tuple" false
  | tup_tuple {a xs}:SqT K H a xs→IsiV K H (.ref a) "tuple" true
  | tup_int {a xs}:SqT K H a xs→IsiV K H (.ref a) "int" false
  | lst_tuple {a xs}:SqL K H a xs→IsiV K H (.ref a) "tuple" false
  | lst_list {a xs}:SqL K H a xs→IsiV K H (.ref a) "list" true
def qrh (K:PySem.W.Frag):List V→Hp→VK→Prop:=fun vs H Q=>∃ x T b,vs=[x,.ty T]∧IsiV K H x T b∧Q (.bl b) H
theorem qrI {x y:V} {us:List Value} (r:Vals [x,y] us):∃ u v,us=[u,v]∧RelV x u∧RelV y v:=by
  cases r with
  | cons r rr =>
    cases rr with
    | cons r' rr=>cases rr;exact ⟨_,_,rfl,r,r'⟩
theorem qkx {X:Cx}:qez X (.builtin "isinstance") (qrh X.K):=by
  intro pins s σ H xs us Q I r h
  obtain ⟨x,T,b,rfl,hi,q⟩:=h
  obtain ⟨u,v,rfl,ru,rv⟩:=qrI r
  have rv:v=.type T:=rv
  subst rv
  have fin:∀ (c:Bool) (t:Nat),Q (.bl c) H→EP X pins σ Q (.bool c) { s with toks:=t }:=fun c t q=>⟨.bl c,H,I.tok t,rfl,q⟩
  cases hi with
  | int_int i=>obtain ⟨t,rfl⟩:=ru;exact IsiPair.int_int (fin _ s.toks q)
  | int_bool i=>obtain ⟨t,rfl⟩:=ru;exact IsiPair.int_bool (fin _ _ q)
  | int_tuple i=>obtain ⟨t,rfl⟩:=ru;exact IsiPair.int_tuple (fin _ _ q)
  | int_str i=>obtain ⟨t,rfl⟩:=ru;exact IsiPair.int_str (fin _ _ q)
  | bl_int b=>cases ru;exact IsiPair.bool_int (fin _ s.toks q)
  | bl_bool b=>cases ru;exact IsiPair.bool_bool (fin _ s.toks q)
  | bl_tuple b=>cases ru;exact IsiPair.bool_tuple (fin _ _ q)
  | str_str x=>obtain ⟨t,rfl⟩:=ru;exact IsiPair.str_str (fin _ s.toks q)
  | str_tuple x=>obtain ⟨t,rfl⟩:=ru;exact IsiPair.str_tuple (fin _ _ q)
  | tup_tuple h =>
    cases ru
    obtain ⟨its,_,p,_⟩:=I.tuple h
    exact call_isinstance (isinstance_true (Tx:="tuple") F.isi_meta_tuple F.sub_tuple_tuple) ⟨p.typeIs,fin _ s.toks q⟩
  | tup_int h =>
    cases ru
    obtain ⟨its,_,⟨o,e,c,_⟩,_⟩:=I.tuple h
    exact call_isinstance (isinstance_false_tuple (by decide +kernel) F.isi_meta_int F.sub_tuple_int) ⟨⟨o,e,c⟩,fin _ _ q⟩
  | lst_tuple h =>
    cases ru
    obtain ⟨its,_,p,_⟩:=I.list h
    obtain ⟨o,e,c,_⟩:=p.isList
    exact call_isinstance (isinstance_false_list (by decide +kernel) F.isi_meta_tuple F.sub_list_tuple) ⟨⟨o,e,c⟩,fin _ _ q⟩
  | lst_list h =>
    cases ru
    obtain ⟨its,_,p,_⟩:=I.list h
    exact call_isinstance (isinstance_true (Tx:="list") F.isi_meta_list F.sub_list_list) ⟨p.isList.typeIs,fin _ s.toks q⟩
theorem qkv {prog:Program} {w:World} {A:Around} (hh:A.handled=none) (b:Bool) (it a:Addr) (hne:a≠it) (its:Array Value):Walks prog w A it [it,a] [it] its.size (fun i v=>its[i]?=some v) (fun i h=>SqI b h it a i∧SqO b h a its) where
  sub:=fun c hc=>by rw [List.mem_singleton.mp hc];simp
  frame:=fun _ _ _ st k=>⟨st.1.at fun o e=>k it (by simp) o e,st.2.at fun o e=>k a (by simp) o e⟩
  item:=fun i s Q E hi st hQ=>by
    cases b with
    | true=>exact wpAny_pyNext_list_item st.1 st.2 (x:=its[i]) (by simp [hi]) fun h' q sb=>hQ _ h' s.toks (by simp [hi]) ⟨q,SqO.at (b:=true) st.2 fun o e=>(sb.2 a hne).trans e⟩ fun c o hc e=>(sb.2 c fun z=>hc (by simp [z])).trans e
    | false=>exact wpAny_pyNext_tuple_item st.1 st.2 (x:=its[i]) (by simp [hi]) fun h' q sb=>hQ _ h' s.toks (by simp [hi]) ⟨q,SqO.at (b:=false) st.2 fun o e=>(sb.2 a hne).trans e⟩ fun c o hc e=>(sb.2 c fun z=>hc (by simp [z])).trans e
  done:=fun s Q E st hQ=>by
    cases b with
    | true=>exact wpAny_pyNext_list_end hh st.1 st.2 (by simp) fun h' eb=>hQ h' s.toks fun c o hc e=>eb c o (fun z=>hc (by simp [z])) e
    | false=>exact wpAny_pyNext_tuple_end hh st.1 st.2 (by simp) fun h' eb=>hQ h' s.toks fun c o hc e=>eb c o (fun z=>hc (by simp [z])) e
  self:=fun i s Q E st hQ=>by
    cases b with
    | true=>exact wpAny_pyIter_listiter st.1 hQ
    | false=>exact wpAny_pyIter_tupleiter st.1 hQ
theorem qsA {x:V} {us:List Value} (r:Vals [x] us):∃ u,us=[u]∧RelV x u:=by
  cases r with
  | cons r rr=>cases rr;exact ⟨_,rfl,r⟩
def qsU (K:PySem.W.Frag) (b:Bool) (f:List Bool→Bool):List V→Hp→VK→Prop:=fun vs H Q=>∃ (a:Addr) (bs:List Bool),vs=[.ref a]∧SqB K b H a (bs.map V.bl)∧Q (.bl (f bs)) H
theorem qgw {prog:Program} {w:World} {A:Around} {its:Array Value} {bs:List Bool} (rv:Vals (bs.map V.bl) its.toList):TruthOf prog w A (fun i v=>its[i]?=some v) (fun i=>bs.getD i false):=by
  intro i v s Q E e q
  have e':its.toList[i]?=some v:=by simpa using e
  have hi:i<bs.length:=by
    have:=(List.getElem?_eq_some_iff.mp e').1
    have:=rv.length
    rw [List.length_map] at this
    omega
  obtain ⟨v',h1,h2⟩:=rv.get (i:=i) (x:=V.bl (bs.getD i false)) (by simp [hi])
  rw [e'] at h1;cases h1
  have h2:v=.bool (bs.getD i false):=h2
  subst h2
  exact wpAny_truthy_bool q
theorem qjq (bs:List Bool):(List.range bs.length).all (fun i=>bs.getD i false)=bs.all id:=by
  rw [Bool.eq_iff_iff]
  simp only [List.all_eq_true,List.mem_range,id]
  constructor
  · intro h x hx
    obtain ⟨i,hi,rfl⟩:=List.mem_iff_getElem.mp hx
    have:=h i hi
    simpa [hi] using this
  · intro h i hi
    have:=h bs[i] (List.getElem_mem hi)
    simpa [hi] using this
theorem qkV (b:Bool) {X:Cx} (hc:X.calm=true):qez X (.builtin "all") (qsU X.K b fun bs=>bs.all id):=by
  intro pins s σ H xs us Q I r h
  obtain ⟨a,bs,rfl,hq,q⟩:=h
  obtain ⟨u,rfl,ru⟩:=qsA r
  cases ru
  obtain ⟨its,rv,p,hz⟩:=I.sqb hq
  have hne:a≠s.heap.objs.size:=Nat.ne_of_lt p.lt
  have ln:its.toArray.size=bs.length:=by have:=rv.length;rw [List.length_map] at this;simp [this]
  have W:=qkv (prog:=X.prog) (w:=X.w) (A:=X.A.in1) (I.ok.hd hc) b s.heap.objs.size a hne its.toArray
  refine call_all_walk (qgy p ⟨s.heap.objs.size,[s.heap.objs.size,a],[s.heap.objs.size],its.toArray.size,_,_,fun i=>bs.getD i false,rfl,W,⟨qdM (Heap.get?_push_size _ (by cases b <;> rfl)),p.at fun o e=>Heap.get?_push_of_some _ e⟩,qgw (by simpa using rv),fun h' tk hk=>?_⟩)
  rw [ln,qjq]
  refine ⟨.bl (bs.all id),H,I.kept (h':=h') (t':=tk) fun c o e=>hk c o (fun z=>?_) (Heap.get?_push_of_some _ e),rfl,q⟩
  rw [List.mem_singleton.mp z] at e
  exact absurd (Heap.lt_size e) (Nat.lt_irrefl _)
def qcO (N:List Str) (sc scope:Scope) (N':List Str) (cap:List (Option Nat)):Bool :=
  decide (scope.kind=.function) && scope.names.all (fun x=>decide (x.2=.cell→scope.names.lookup x.1=some .cell)) && scope.names.all (fun x=>decide (x.2=.local→scope.names.lookup x.1=some .local)) &&
    scope.names.all (fun x=>decide (x.2=.free→sc.names.lookup x.1=some .cell∧scope.names.lookup x.1=some .free)) && decide N'.Nodup && decide (cap.length=N'.length) &&
    (cap.zip N').all fun p=>match p.1 with | none=>true | some i=>decide (N[i]?=some p.2∧(p.2,NameKind.free)∈scope.names)
theorem CompScope.ok {N:List Str} {sc scope:Scope} {N':List Str} {cap:List (Option Nat)} (h:qcO N sc scope N' cap=true):CompScope N sc scope N' cap:=by
  unfold qcO at h
  simp only [Bool.and_eq_true,decide_eq_true_eq,List.all_eq_true] at h
  obtain ⟨⟨⟨⟨⟨⟨h1,h2⟩,h3⟩,h4⟩,h5⟩,h6⟩,h7⟩:=h
  refine ⟨h1,h2,h3,fun x hx hf=>(h4 x hx hf).1,fun x hx hf=>(h4 x hx hf).2,h5,h6,fun p hp i hi=>?_⟩
  have:=h7 p hp
  rw [hi] at this
  simpa using this
section
variable {K : PySem.W.Frag} {B : V → St → Hp → (St → Hp → Prop) → Prop} {End : St → Hp → Prop} {σ : St} {H : Hp}
end
theorem qaH {H:Hp} {p:Addr} (h:H p=none) (o:HO):Same H (upd H p o):=fun b u q=>by rw [qak (qap q h)];exact q
theorem qg2 {H H':Hp} {p:Addr} (s:Same H H') (h:H p=none) (o:HO):Same H (upd H' p o):=fun b u q=>by rw [qak (qap q h)];exact s b u q
theorem Same.sqt {K:PySem.W.Frag} {H H':Hp} {a:Addr} {xs:List V} (e:Same H H') (h:SqT K H a xs):SqT K H' a xs:=SqB.same (b:=false) e h
theorem small {n:Nat} (h:n≤1000):n≤sizeLine:=Nat.le_of_lt (qaC h)
theorem dP {p:Prop} [Decidable p] (h:decide p=true):p:=of_decide_eq_true h
theorem qbI {α:Type} {xs:List α} {i:Nat} {x:α} (h:xs[i]?=some x):xs.take (i+1)=xs.take i++[x]:=by
  obtain ⟨hi,e⟩:=List.getElem?_eq_some_iff.mp h
  rw [List.take_succ_eq_append_getElem hi,e]
theorem qag {α:Type} {xs:List α} {i:Nat} {x:α} (h:xs[i]?=some x):i<xs.length:=(List.getElem?_eq_some_iff.mp h).1
theorem qiH {α:Type} {xs:List α} {i:Nat} {x:α} {k:Int} (h:xs[i]?=some x) (e:k=(i:Int)):atI xs k=some x:=by
  subst e
  exact qnm h
def qcG {α:Type} (xs:List α) (lo hi:Option Int):List α:=(xs.drop (HT.sIx xs.length 0 lo)).take (HT.sIx xs.length xs.length hi - HT.sIx xs.length 0 lo)
theorem Vals.get' {xs:List V} {us:List Value} (r:Vals xs us) {j:Nat} (h:j<us.length):∃ x,xs[j]?=some x∧RelV x us[j]:=by
  have hl:=Vals.length r
  have hj:j<xs.length:=by omega
  obtain ⟨u,hu,ru⟩:=Vals.get (i:=j) (x:=xs[j]) r (by simp [hj])
  refine ⟨xs[j],by simp [hj],?_⟩
  rw [List.getElem?_eq_getElem h] at hu
  cases hu
  exact ru
section
variable {prog : Program} {w : World} {A : Around} {E : Value → Shared → Prop} {s : Shared}
theorem qnj {t b:Addr} {vs ws:List Value} {Q:Value→Shared→Prop} (ht:IsTup s.heap t vs.toArray) (hb:IsTup s.heap b ws.toArray) (hv:vs=[]) (h:Q (.ref b) s):wpAny (model prog w) A (binaryOp .Add (.ref t) (.ref b)) Q E s:=by
  obtain ⟨⟨cls,dd,data,sl⟩,ho,hc,n,hd⟩:=id ht
  obtain ⟨⟨cls2,dd2,data2,sl2⟩,ho2,hc2,n2,hd2⟩:=id hb
  simp only at hc hd hc2 hd2
  subst hc hd hc2 hd2
  exact concat_meets ⟨_,ho,rfl⟩ ⟨_,ho2,rfl⟩ noFill_tuple_add seq_tuple_add PySem.F.slot_tuple_add PySem.F.entry_tuple_add (PySem.F.args_tuple_add_2 _ _) (tuple_addW0 t b vs.toArray ws.toArray n n2 dd dd2 sl sl2 (by simp [hv])) ⟨ho,ho2,h⟩
end
section
variable {J : It} {B : V → St → Hp → (St → Hp → Prop) → Prop} {End : St → Hp → Prop} {σ : St} {H : Hp} {D : Addr} {n : Nat} {El : Nat → V → Hp → Prop}
end
section
variable {K : PySem.W.Frag} {B : V → St → Hp → (St → Hp → Prop) → Prop} {End : St → Hp → Prop} {σ : St} {H : Hp} {D a : Addr}
end
section
variable {α : Type} {R R' : V → α → Prop} {vs ws : List V} {rs ss : List α}
end
def qoj (K:PySem.W.Frag):V→V→Hp→VK→Prop:=fun x y H Q=>∃ p xs i j v,x=.ref p∧y=.int i∧SqL K H p xs∧i=((j:Nat):Int)∧xs[j]?=some v∧Q v H
theorem qkn {X:Cx}:qqn X (qoj X.K):=by
  intro pins s σ H o i ov iv Q I ro ri h
  obtain ⟨p,xs,i,j,v,rfl,rfl,hq,rfl,hv,q⟩:=h
  cases ro
  obtain ⟨t,rfl⟩:=ri
  obtain ⟨its,r,pl,hz⟩:=I.list hq
  obtain ⟨w,ew,rw'⟩:=r.get hv
  have hl:=r.length
  have hn:=qdy
  have hj:=qag hv
  exact wpAny_getItem_list pl.isList (by omega) (by omega) (by rw [Int.toNat_natCast];simpa using ew) ⟨v,H,I,rw',q⟩
theorem qmD (xs:List V) (lo hi:Option Int):qlM xs lo hi=qcG xs lo hi:=rfl
section
variable {α : Type} {R : V → α → Prop} {vs : List V} {rs : List α}
end
theorem qe5 {n j:Nat} (h:j<n):ixN n (j:Int)=some j:=by
  unfold ixN
  rw [if_pos (by omega),if_pos (by omega),Int.toNat_natCast]
theorem qbz {a0 a1 a2 a3} {rest:List Expr} {env:Env}:starEach (.BinOp a0 a1 a2 a3::rest) env=(false,eval (.BinOp a0 a1 a2 a3) env)::starEach rest env:=rfl
theorem qcz {a0 a1 a2} {rest:List Expr} {env:Env}:starEach (.UnaryOp a0 a1 a2::rest) env=(false,eval (.UnaryOp a0 a1 a2) env)::starEach rest env:=rfl
theorem qfx {a0 a1 a2 a3} {rest:List Expr} {env:Env}:starEach (.IfExp a0 a1 a2 a3::rest) env=(false,eval (.IfExp a0 a1 a2 a3) env)::starEach rest env:=rfl
theorem qaJ {a0 a1 a2 a3} {rest:List Expr} {env:Env}:starEach (.ListComp a0 a1 a2 a3::rest) env=(false,eval (.ListComp a0 a1 a2 a3) env)::starEach rest env:=rfl
theorem qib {a0 a1 a2 a3} {rest:List Expr} {env:Env}:starEach (.Compare a0 a1 a2 a3::rest) env=(false,eval (.Compare a0 a1 a2 a3) env)::starEach rest env:=rfl
theorem qaD {a0 a1 a2 a3} {rest:List Expr} {env:Env}:starEach (.Call a0 a1 a2 a3::rest) env=(false,eval (.Call a0 a1 a2 a3) env)::starEach rest env:=rfl
theorem qab {a0 a1 a2} {rest:List Expr} {env:Env}:starEach (.Constant a0 a1 a2::rest) env=(false,eval (.Constant a0 a1 a2) env)::starEach rest env:=rfl
theorem qar {a0 a1 a2} {rest:List Expr} {env:Env}:starEach (.Attribute a0 a1 a2::rest) env=(false,eval (.Attribute a0 a1 a2) env)::starEach rest env:=rfl
theorem qah {a0 a1 a2} {rest:List Expr} {env:Env}:starEach (.Subscript a0 a1 a2::rest) env=(false,eval (.Subscript a0 a1 a2) env)::starEach rest env:=rfl
theorem qaa {a0 a1} {rest:List Expr} {env:Env}:starEach (.Name a0 a1::rest) env=(false,eval (.Name a0 a1) env)::starEach rest env:=rfl
theorem qbk {a0 a1 a2} {rest:List Expr} {env:Env}:starEach (.Tuple a0 a1 a2::rest) env=(false,eval (.Tuple a0 a1 a2) env)::starEach rest env:=rfl
theorem qac {pos:Pos} {env:Env}:(backTo pos (starEach [] env)).any (·.1)=false:=rfl
theorem qaj {pos:Pos} {e:Expr} {es:List Expr} {env:Env} (h:starEach (e::es) env=(false,eval e env)::starEach es env) (hr:(backTo pos (starEach es env)).any (·.1)=false):(backTo pos (starEach (e::es) env)).any (·.1)=false:=by
  rw [h]
  exact hr
theorem qbv {pos : Pos} {e : Expr} {env : Env} (h : starEach [e] env = (false, eval e env) :: starEach [] env) : ((backTo pos (starEach [e] env)).all (fun x => !x.1) && (backToKw pos (keywordEach [] env)).all (fun x => x.1.isSome)
      && decide ([e].length+([]:List Keyword).length+(if ([]:List Keyword).isEmpty then 0 else 1)<30))=true:=by
  rw [h]
  rfl
section
variable {X : Cx} {K : PySem.W.Frag}
theorem qfX (h:X.K=K):qez X (.builtin "isinstance") (qrh K):=h ▸ qkx
end
end L2
namespace L2
open PySem PySem.Spec PyProof.Rows
section
variable {X : Cx} {K : PySem.W.Frag}
theorem qoA:OpR X (compareOp .Is) (fun x y H Q=>∃ a b:Bool,x=.bl a∧y=.bl b∧Q (.bl (a == b)) H):=by
  intro pins s σ H x y v u Q I rx ry h
  obtain ⟨a,b,rfl,rfl,q⟩:=h
  cases rx
  cases ry
  exact wpAny_is_plain rfl (qg6 I q (by cases a <;> cases b <;> rfl))
theorem qns:OpR X (compareOp .IsNot) (fun x y H Q=>∃ a b:Bool,x=.bl a∧y=.bl b∧Q (.bl (!(a == b))) H):=by
  intro pins s σ H x y v u Q I rx ry h
  obtain ⟨a,b,rfl,rfl,q⟩:=h
  cases rx
  cases ry
  exact wpAny_isNot_plain rfl (qg6 I q (by cases a <;> cases b <;> rfl))
end
end L2
namespace PySem
open Sem (wp)
open Builtin
open AutoSeq1 (wpAny_loadPart')
theorem qdd:fillsNumberSlot (.type "tuple") "mul"=pure false :=
  fillsNumberSlot_seq (id:="tuple.__mul__") (r:=some (.builtin "tuple.__rmul__")) F.slot_tuple_mul.lookup (by decide +kernel) F.slot_tuple_rmul.lookup (by decide +kernel)
theorem qfe:seqRepeat? (.type "tuple")=pure (some (.builtin "tuple.__mul__")):=by
  unfold seqRepeat?
  rw [seqSlot_of (T:="tuple") (name:="__mul__") (id:="tuple.__mul__") F.slot_tuple_mul.lookup (by decide +kernel),seqSlot_of (T:="tuple") (name:="__rmul__") (id:="tuple.__rmul__") F.slot_tuple_rmul.lookup (by decide +kernel)]
  rfl
theorem qdX (a:Int) (t:Tok) (l:Addr) (items:Array Value) (n:Nat) (dd:Option Addr) (sl:Array (Option Value)) :
    Meets (Builtin.«int.__rmul__» ⟨[.int a t,.ref l],[]⟩) (fun _ R s=>s.heap.get? l=some { cls:=.type "tuple",dict:=dd,data:=.seq items n,slots:=sl }∧R (.ok (.ret Value.notImplemented)) s) :=
  .of_wp fun prog w A R s h=>by obtain ⟨hp,g,d,tk,os⟩:=s;obtain ⟨hl,h⟩:=h;wp_walk;exact ⟨_,rfl,h⟩
theorem qgx (l:Addr) (items:Array Value) (n:Nat) (dd:Option Addr) (sl:Array (Option Value)) (u:Tok) :
    Meets (Builtin.«tuple.__mul__» ⟨[.ref l,.int 1 u],[]⟩) (fun _ R s=>s.heap.get? l=some { cls:=.type "tuple",dict:=dd,data:=.seq items n,slots:=sl }∧R (.ok (.ret (Value.ref l))) s) :=
  .of_wp fun prog w A R s h=>by obtain ⟨hp,g,d,tk,os⟩:=s;obtain ⟨hl,h⟩:=h;have f1:=AutoSeq1.idx_int;have f2:=AutoSeq1.sub_tuple_tuple;wp_walk using wpAny_loadPart' hl;exact ⟨_,rfl,h⟩
theorem qg0 (l:Addr) (items:Array Value) (n:Nat) (dd:Option Addr) (sl:Array (Option Value)) (k:Int) (u:Tok) (hc0:¬ (decide (k < -(2 ^ 63)) || decide (k≥2 ^ 63))=true) (hc1:¬ (items.isEmpty || k == 1)=true) (hc2:(decide (k≤0) || items.isEmpty)=true) :
    Meets (Builtin.«tuple.__mul__» ⟨[.ref l,.int k u],[]⟩) (fun _ R s=>s.heap.get? l=some { cls:=.type "tuple",dict:=dd,data:=.seq items n,slots:=sl }∧R (.ok (.ret (Value.ref s.heap.objs.size))) { s with heap:=s.heap.push { cls:=Value.type "tuple",data:=Data.seq #[] },toks:=s.toks }) :=
  .of_wp fun prog w A R s h=>by obtain ⟨hp,g,d,tk,os⟩:=s;obtain ⟨hl,h⟩:=h;have f1:=AutoSeq1.idx_int;have f2:=AutoSeq1.sub_tuple_tuple;wp_walk using wpAny_loadPart' hl;refine wpAny_ite_false (decide_eq_false hc0) ?_;wp_walk using wpAny_loadPart' hl;exact ⟨_,rfl,h⟩
theorem qgW (l:Addr) (items:Array Value) (n:Nat) (dd:Option Addr) (sl:Array (Option Value)) (k:Int) (u:Tok) (hc0:¬ (decide (k < -(2 ^ 63)) || decide (k≥2 ^ 63))=true) (hc1:¬ (items.isEmpty || k == 1)=true) (hc2:¬ (decide (k≤0) || items.isEmpty)=true) (hc3:¬ (items.size*k>(2 ^ 63 - 1) / 8)) (hc4:¬ Builtin.Tuple.tupleTooMany (items.size*k)=true) (hsz:(List.foldl (fun x1 x2=>x1++x2) #[] (List.replicate k.toNat items)).size≤sizeLine) :
    Meets (Builtin.«tuple.__mul__» ⟨[.ref l,.int k u],[]⟩) (fun _ R s=>s.heap.get? l=some { cls:=.type "tuple",dict:=dd,data:=.seq items n,slots:=sl }∧R (.ok (.ret (Value.ref s.heap.objs.size))) { s with heap:=s.heap.push { cls:=Value.type "tuple",data:=Data.seq (List.foldl (fun x1 x2=>x1++x2) #[] (List.replicate k.toNat items)) },toks:=s.toks }) :=
  .of_wp fun prog w A R s h=>by obtain ⟨hp,g,d,tk,os⟩:=s;obtain ⟨hl,h⟩:=h;have f1:=AutoSeq1.idx_int;have f2:=AutoSeq1.sub_tuple_tuple;wp_walk using wpAny_loadPart' hl;refine wpAny_ite_false (decide_eq_false hc0) ?_;wp_walk using wpAny_loadPart' hl;refine wpAny_ite_false (decide_eq_false hc3) ?_;wp_walk using wpAny_loadPart' hl;exact ⟨_,rfl,h⟩
end PySem
namespace L2
open PySem PySem.Spec PyProof.Rows
inductive D where
  | int (i:Int) | bl (b:Bool) | str (x:Str) | non | tup (xs:List D) | lst (xs:List D) | fzl (xs:List D) | obj (nm:Str) (fs:List (Str × D)) | map (kvs:List (Key × D)) | exc (nm:Str) (ats:List D)
def qrj (a C:Addr) (dx:Option Addr):Heap→Prop:=fun h=>∃ o vs,h.get? a=some o∧o.cls=.ref C∧o.dict=dx∧o.data=.fields vs
inductive Rp (K:PySem.W.Frag) (H:Hp):D→V→Prop where
  | int (i:Int):Rp K H (.int i) (.int i)
  | bl (b:Bool):Rp K H (.bl b) (.bl b)
  | str (x:Str):Rp K H (.str x) (.str x)
  | non:Rp K H .non .non
  | tup {a:Addr} {vs:List V} {ds:List D}:H a=some (.tup vs)→vs.length=ds.length→(∀ (i:Nat) (v:V) (d:D),vs[i]?=some v→ds[i]?=some d→Rp K H d v)→Rp K H (.tup ds) (.ref a)
  | lst {a:Addr} {vs:List V} {ds:List D}:H a=some (.lst vs)→vs.length=ds.length→(∀ (i:Nat) (v:V) (d:D),vs[i]?=some v→ds[i]?=some d→Rp K H d v)→Rp K H (.lst ds) (.ref a)
  | fzl {a:Addr} {vs:List V} {ds:List D}:SqL K H a vs→vs.length=ds.length→(∀ (i:Nat) (v:V) (d:D),vs[i]?=some v→ds[i]?=some d→Rp K H d v)→Rp K H (.fzl ds) (.ref a)
  | obj {a C dx:Addr} {nm:Str} {vs:List (Str × V)} {fs:List (Str × D)}:PySem.W.nsIn K mainGlobals nm=some (some (.ref C))→H a=some (.ins C dx vs)→vs.map (·.1)=fs.map (·.1)→(∀ (i:Nat) (v:Str × V) (d:Str × D),vs[i]?=some v→fs[i]?=some d→Rp K H d.2 v.2)→Rp K H (.obj nm fs) (.ref a)
  | map {a:Addr} {ws:List (Key × V)} {kvs:List (Key × D)}:H a=some (.dK ws)→ws.map (·.1)=kvs.map (·.1)→(∀ (i:Nat) (w:Key × V) (d:Key × D),ws[i]?=some w→kvs[i]?=some d→Rp K H d.2 w.2)→Rp K H (.map kvs) (.ref a)
  | exc0 {a C:Addr} {nm:Str}:PySem.W.nsIn K mainGlobals nm=some (some (.ref C))→H a=some (.ext (qrj a C none))→Rp K H (.exc nm []) (.ref a)
  | exc1 {a C p:Addr} {nm:Str} {v:V} {d:D}:PySem.W.nsIn K mainGlobals nm=some (some (.ref C))→H a=some (.ext (qrj a C (some p)))→H p=some (.xd [("at",v)])→Rp K H d v→Rp K H (.exc nm [d]) (.ref a)
def RpL (K:PySem.W.Frag) (H:Hp) (ds:List D) (vs:List V):Prop:=vs.length=ds.length∧∀ (i:Nat) (v:V) (d:D),vs[i]?=some v→ds[i]?=some d→Rp K H d v
section
variable {K : PySem.W.Frag} {H H' Φ Φ' Φ1 H1 Φ2 H2 : Hp} {d : D} {v : V} {ds es : List D} {vs ws : List V}
theorem Rp.same (s:Same H H') (h:Rp K H d v):Rp K H' d v:=by
  induction h with
  | int i=>exact .int i
  | bl b=>exact .bl b
  | str x=>exact .str x
  | non=>exact .non
  | tup h1 h2 _ ih=>exact .tup (s _ _ h1) h2 ih
  | lst h1 h2 _ ih=>exact .lst (s _ _ h1) h2 ih
  | fzl h1 h2 _ ih=>exact .fzl (s.seq h1) h2 ih
  | obj h0 h1 h2 _ ih=>exact .obj h0 (s _ _ h1) h2 ih
  | map h1 h2 _ ih=>exact .map (s _ _ h1) h2 ih
  | exc0 h0 h1=>exact .exc0 h0 (s _ _ h1)
  | exc1 h0 h1 h2 _ ih=>exact .exc1 h0 (s _ _ h1) (s _ _ h2) ih
theorem RpL.same (s:Same H H') (h:RpL K H ds vs):RpL K H' ds vs:=⟨h.1,fun i v d hv hd=>(h.2 i v d hv hd).same s⟩
theorem RpL.nil:RpL K H [] []:=⟨rfl,fun i v d hv _=>by simp at hv⟩
theorem RpL.cons (r:Rp K H d v) (h:RpL K H ds vs):RpL K H (d::ds) (v::vs):=⟨by simp [h.1],fun i u e hu he=>by
  cases i with
  | zero=>cases hu;cases he;exact r
  | succ i=>exact h.2 i u e hu he⟩
theorem RpL.append (h:RpL K H ds vs) (h':RpL K H es ws):RpL K H (ds++es) (vs++ws):=by
  refine ⟨by rw [List.length_append,List.length_append,h.1,h'.1],fun i u e hu he=>?_⟩
  rcases Nat.lt_or_ge i vs.length with c | c
  · rw [List.getElem?_append_left c] at hu
    rw [List.getElem?_append_left (by rw [← h.1];exact c)] at he
    exact h.2 i u e hu he
  · rw [List.getElem?_append_right c] at hu
    rw [List.getElem?_append_right (by rw [← h.1];exact c),← h.1] at he
    exact h'.2 _ u e hu he
theorem RpL.one (r:Rp K H d v):RpL K H [d] [v]:=.cons r .nil
theorem RpL.take (h:RpL K H ds vs) (k:Nat):RpL K H (ds.take k) (vs.take k):=⟨by rw [List.length_take,List.length_take,h.1],fun i u e hu he=>by
  rcases Nat.lt_or_ge i k with c | c
  · rw [List.getElem?_take_of_lt c] at hu he
    exact h.2 i u e hu he
  · rw [List.getElem?_take_eq_none c] at hu
    cases hu⟩
theorem RpL.drop (h:RpL K H ds vs) (k:Nat):RpL K H (ds.drop k) (vs.drop k):=⟨by rw [List.length_drop,List.length_drop,h.1],fun i u e hu he=>by
  rw [List.getElem?_drop] at hu he
  exact h.2 _ u e hu he⟩
theorem RpL.set (h:RpL K H ds vs) (r:Rp K H d v) (k:Nat):RpL K H (ds.set k d) (vs.set k v):=⟨by rw [List.length_set,List.length_set,h.1],fun i u e hu he=>by
  by_cases c:k=i
  · subst c
    have hk:k<vs.length:=by have:=qag hu;rwa [List.length_set] at this
    rw [List.getElem?_set_self hk] at hu
    rw [List.getElem?_set_self (by rw [← h.1];exact hk)] at he
    cases hu;cases he
    exact r
  · rw [List.getElem?_set_ne c] at hu he
    exact h.2 i u e hu he⟩
theorem RpL.rep (h:RpL K H ds vs):∀ k:Nat,RpL K H (List.replicate k ds).flatten (List.replicate k vs).flatten
  | 0=>.nil
  | k+1=>by
    rw [List.replicate_succ,List.replicate_succ,List.flatten_cons,List.flatten_cons]
    exact h.append (RpL.rep h k)
theorem RpL.at (h:RpL K H ds vs) {i:Nat} (e:ds[i]?=some d):∃ v,vs[i]?=some v∧Rp K H d v:=by
  have hi:i<vs.length:=by rw [h.1];exact qag e
  exact ⟨vs[i],by simp [hi],h.2 i _ d (by simp [hi]) e⟩
theorem RpL.cut (h:RpL K H ds vs) (lo hi:Option Int):RpL K H (qcG ds lo hi) (qlM vs lo hi):=by
  rw [qmD]
  unfold qcG
  rw [h.1]
  exact (h.drop _).take _
theorem RpL.tup {a:Addr} (h:RpL K H ds vs) (s:H a=some (.tup vs)):Rp K H (.tup ds) (.ref a):=.tup s h.1 h.2
theorem RpL.lst {a:Addr} (h:RpL K H ds vs) (s:H a=some (.lst vs)):Rp K H (.lst ds) (.ref a):=.lst s h.1 h.2
theorem RpL.fzl {a:Addr} (h:RpL K H ds vs) (s:SqL K H a vs):Rp K H (.fzl ds) (.ref a):=.fzl s h.1 h.2
theorem RpL.ints (ns:List Int):RpL K H (ns.map D.int) (ns.map V.int):=⟨by simp,fun i v d hv hd=>by
  rw [List.getElem?_map] at hv hd
  cases e:ns[i]? with
  | none=>rw [e] at hv;cases hv
  | some k=>rw [e] at hv hd;cases hv;cases hd;exact .int k⟩
def OwK:HO→Prop | .lst _=>True | .dK _=>True | .dT _=>True | .ins _ _ _=>True | _=>False
structure Gr (Φ H Φ' H':Hp):Prop where
  f:Same Φ Φ'
  h:Same H H'
  s:Same Φ' H'
  o:∀ p (u:HO),H p=some u→Φ p=none→(k:OwK u:=by trivial)→Φ' p=none
theorem Gr.refl (s:Same Φ H):Gr Φ H Φ H:=⟨Same.refl _,Same.refl _,s,fun _ _ _ h _=>h⟩
theorem Gr.trans (a:Gr Φ H Φ1 H1) (b:Gr Φ1 H1 Φ2 H2):Gr Φ H Φ2 H2:=⟨a.f.trans b.f,a.h.trans b.h,b.s,fun p u hp hn k=>b.o p u (a.h p _ hp) (a.o p u hp hn k) k⟩
theorem Gr.join (a:Gr Φ H Φ1 H1) (b:Gr Φ1 H Φ2 H2):Gr Φ H Φ2 H2:=⟨a.f.trans b.f,b.h,b.s,fun p u hp hn k=>b.o p u hp (a.o p u hp hn k) k⟩
theorem qjY (s:Same Φ H) {p:Addr} (o:HO):Same (upd Φ p o) (upd H p o):=fun b u e=>by
  by_cases c:b=p
  · subst c;rw [qai] at e ⊢;exact e
  · rw [qak c] at e ⊢;exact s b u e
theorem Gr.new (s:Same Φ H) {p:Addr} (hp:H p=none) (o:HO):Gr Φ H (upd Φ p o) (upd H p o) :=
  ⟨qaH (s.free hp) o,qaH hp o,qjY s o,fun q u hq hn _=>by rw [qak (qap hq hp)];exact hn⟩
theorem Gr.fresh (s:Same Φ H) {p:Addr} (hp:H p=none) (o:HO):Gr Φ H Φ (upd H p o) :=
  ⟨Same.refl _,qaH hp o,fun b u e=>qaH hp o b u (s b u e),fun _ _ _ h _=>h⟩
theorem Gr.freeze (g:Gr Φ H Φ' H') {p:Addr} {o:HO} (h0:H p=none) (hn:Φ' p=none) (hp:H' p=some o):Gr Φ H (upd Φ' p o) H' :=
  ⟨g.f.trans (qaH hn o),g.h,fun b u e=>by
    by_cases c:b=p
    · subst c;rw [qai] at e;cases e;exact hp
    · rw [qak c] at e;exact g.s b u e,fun q u hq hqn k=>by rw [qak (qap hq h0)];exact g.o q u hq hqn k⟩
theorem Gr.adoptT {p:Addr} {xs:List V} (s:Same Φ H) (h:Same H H') (ho:H' p=some (.tup xs)):∃ Φ',Gr Φ H Φ' H'∧Φ' p=some (.tup xs):=by
  have e1:∀ u,Φ p=some u→u=.tup xs:=fun u e=>by have:=h _ _ (s _ _ e);rw [ho] at this;cases this;rfl
  refine ⟨upd Φ p (.tup xs),⟨fun b u e=>?_,h,fun b u e=>?_,fun b u e n k=>?_⟩,qai⟩
  · by_cases c:b=p
    · subst c;rw [qai,e1 u e]
    · rw [qak c];exact e
  · by_cases c:b=p
    · subst c;rw [qai] at e;cases e;exact ho
    · rw [qak c] at e;exact h _ _ (s _ _ e)
  · by_cases c:b=p
    · subst c
      have:=h _ _ e
      rw [ho] at this
      cases this
      exact k.elim
    · rw [qak c];exact n
def RpQ (K:PySem.W.Frag) (Φ H:Hp) (d:D) (v:V):Prop:=Rp K Φ d v∨∃ a vs ds,d=.lst ds∧v=.ref a∧H a=some (.lst vs)∧RpL K Φ ds vs
theorem RpQ.gr (g:Gr Φ H Φ' H') (h:RpQ K Φ H d v):RpQ K Φ' H' d v:=by
  rcases h with h | ⟨a,vs,ds,e,e2,h1,h2⟩
  · exact .inl (h.same g.f)
  · exact .inr ⟨a,vs,ds,e,e2,g.h _ _ h1,h2.same g.f⟩
theorem RpQ.lst (s:Same Φ H) (h:RpQ K Φ H (.lst ds) v):∃ a vs,v=.ref a∧H a=some (.lst vs)∧RpL K Φ ds vs:=by
  rcases h with h | ⟨a,vs,ds,e,e2,h1,h2⟩
  · cases h with | lst h1 h2 h3=>exact ⟨_,_,rfl,s _ _ h1,h2,h3⟩
  · cases e;exact ⟨a,vs,e2,h1,h2⟩
theorem RpQ.fzl (s:Same Φ H) (h:RpQ K Φ H (.fzl ds) v):∃ a vs,v=.ref a∧SqL K H a vs∧RpL K Φ ds vs:=by
  rcases h with h | ⟨a,vs,ds,e,e2,h1,h2⟩
  · cases h with | fzl h1 h2 h3=>exact ⟨_,_,rfl,s.seq h1,h2,h3⟩
  · cases e
theorem RpQ.tup (s:Same Φ H) (h:RpQ K Φ H (.tup ds) v):∃ a vs,v=.ref a∧SqT K H a vs∧Φ a=some (.tup vs)∧RpL K Φ ds vs:=by
  rcases h with h | ⟨a,vs,ds,e,e2,h1,h2⟩
  · cases h with | tup h1 h2 h3=>exact ⟨_,_,rfl,.of (s _ _ h1),h1,h2,h3⟩
  · cases e
theorem RpQ.int {i:Int} (h:RpQ K Φ H (.int i) v):v=.int i:=by
  rcases h with h | ⟨a,vs,ds,e,_⟩
  · cases h;rfl
  · cases e
theorem RpQ.bl {i:Bool} (h:RpQ K Φ H (.bl i) v):v=.bl i:=by
  rcases h with h | ⟨a,vs,ds,e,_⟩
  · cases h;rfl
  · cases e
theorem RpQ.str {i:Str} (h:RpQ K Φ H (.str i) v):v=.str i:=by
  rcases h with h | ⟨a,vs,ds,e,_⟩
  · cases h;rfl
  · cases e
theorem RpQ.non (h:RpQ K Φ H .non v):v=.non:=by
  rcases h with h | ⟨a,vs,ds,e,_⟩
  · cases h;rfl
  · cases e
def qk3:D→Option (List D)
  | .lst ds=>some ds
  | .tup ds=>some ds
  | .fzl ds=>some ds
  | _=>none
theorem RpQ.seq (s:Same Φ H) (h:RpQ K Φ H d v) (e:qk3 d=some ds):∃ a vs,v=.ref a∧(SqL K H a vs∨SqT K H a vs)∧RpL K Φ ds vs:=by
  cases d with
  | lst ds=>cases e;obtain ⟨a,vs,e,h1,h2⟩:=h.lst s;exact ⟨a,vs,e,.inl (.of h1),h2⟩
  | tup ds=>cases e;obtain ⟨a,vs,e,h1,_,h2⟩:=h.tup s;exact ⟨a,vs,e,.inr h1,h2⟩
  | fzl ds=>cases e;obtain ⟨a,vs,e,h1,h2⟩:=h.fzl s;exact ⟨a,vs,e,.inl h1,h2⟩
  | _=>cases e
theorem Rp.seq (h:Rp K Φ d v) (e:qk3 d=some ds):∃ (b:Bool) (a:Addr) (vs:List V),v=.ref a∧SqB K b Φ a vs∧RpL K Φ ds vs:=by
  cases d with
  | lst ds=>cases e;cases h with | lst h1 h2 h3=>exact ⟨true,_,_,rfl,SqL.of h1,h2,h3⟩
  | tup ds=>cases e;cases h with | tup h1 h2 h3=>exact ⟨false,_,_,rfl,SqT.of h1,h2,h3⟩
  | fzl ds=>cases e;cases h with | fzl h1 h2 h3=>exact ⟨true,_,_,rfl,h1,h2,h3⟩
  | _=>cases e
end
inductive Ow where | lst (xs:List D) | dct (ks:List Key) | dcT (ks:List (List Key))
inductive Sl where | v (d:D) | ob (o:Ow)
abbrev Sl.own (xs:List D):Sl:=.ob (.lst xs)
abbrev Sl.dct (ks:List Key):Sl:=.ob (.dct ks)
abbrev Sl.dcT (ks:List (List Key)):Sl:=.ob (.dcT ks)
def OwR (K:PySem.W.Frag) (Φ:Hp):Ow→HO→Prop
  | .lst ds,.lst vs=>RpL K Φ ds vs
  | .dct ks,.dK kvs=>kvs.map (·.1)=ks
  | .dcT ks,.dT kvs=>kvs.map (·.1)=ks
  | _,_=>False
theorem OwR.k {K:PySem.W.Frag} {Φ:Hp} {o:Ow} {u:HO} (r:OwR K Φ o u):OwK u:=by
  cases o with
  | lst ds =>
    cases u with
    | lst vs=>exact True.intro
    | _=>exact r.elim
  | dct ks =>
    cases u with
    | dK kvs=>exact True.intro
    | _=>exact r.elim
  | dcT ks =>
    cases u with
    | dT kvs=>exact True.intro
    | _=>exact r.elim
theorem OwR.same {K:PySem.W.Frag} {Φ Φ':Hp} {o:Ow} {u:HO} (r:OwR K Φ o u) (s:Same Φ Φ'):OwR K Φ' o u:=by
  cases o with
  | lst ds =>
    cases u with
    | lst vs=>exact (show RpL K Φ ds vs from r).same s
    | _=>exact r.elim
  | dct ks =>
    cases u with
    | dK kvs=>exact r
    | _=>exact r.elim
  | dcT ks =>
    cases u with
    | dT kvs=>exact r
    | _=>exact r.elim
abbrev Rho:=List (Option Sl)
def qn2:FuncBody→Option Pos
  | .stmts b=>(match b.getLast? with
    | some (.Return (some (.Call _ _ kws _)) _)=>kws.findSome? fun k=>(match k.value with | .Lambda _ _ _ pos=>some pos | _=>none)
    | _=>none)
  | _=>none
def qmH (K:PySem.W.Frag) (x:Str):Option (Addr × Array Value):=match PySem.W.nsIn K mainGlobals x with
  | some (some (.ref f))=>(match K.lookup f with
    | some ⟨_,_,.func fd,_⟩=>(match fd.code with
      | .ref c=>(match K.lookup c with
        | some ⟨_,_,.fields vs,_⟩=>(match (vs[11]?:Option Value),qn2 fd.body with
          | some (.ref P),some pos=>some (P,#[rawInt pos.line,rawInt pos.col,.str (fd.qualname++".<locals>."++"<lambda>") 0])
          | _,_=>none)
        | _=>none)
      | _=>none)
    | _=>none)
  | _=>none
def qi6 (K:PySem.W.Frag):List (Addr × Array Value):=(["least_grown","greatest_first"]:List Str).filterMap (qmH K)
def TabF (K:PySem.W.Frag) (Φ:Hp):Prop:=∀ t∈qi6 K,Φ t.1=some (.tbl t.2)
theorem TabF.same {K:PySem.W.Frag} {Φ Φ':Hp} (h:TabF K Φ) (s:Same Φ Φ'):TabF K Φ':=fun t ht=>s _ _ (h t ht)
structure EnvD (K:PySem.W.Frag) (H0 Φ H:Hp) (σ:St) (ρ:Rho):Prop where
  fz:Same Φ H
  len:σ.length=ρ.length
  sl:∀ (i:Nat) (d:D),ρ[i]?=some (some (.v d))→∃ v,σ[i]?=some (some v)∧Rp K Φ d v
  ow:∀ (i:Nat) (o:Ow),ρ[i]?=some (some (.ob o))→∃ p u,σ[i]?=some (some (.ref p))∧H0 p=none∧Φ p=none∧H p=some u∧OwR K Φ o u
  ne:∀ (i j:Nat) (o w:Ow) (p:Addr),ρ[i]?=some (some (.ob o))→ρ[j]?=some (some (.ob w))→σ[i]?=some (some (.ref p))→σ[j]?=some (some (.ref p))→i=j
  tb:TabF K Φ
section
variable {K : PySem.W.Frag} {H0 H H' Φ Φ' Φ1 H1 Φ2 H2 : Hp} {σ : St} {ρ : Rho} {d : D} {v : V} {ds es : List D} {vs ws : List V}
theorem EnvD.owl (E:EnvD K H0 Φ H σ ρ) (i:Nat) (ds:List D) (h:ρ[i]?=some (some (.own ds))):∃ p vs,σ[i]?=some (some (.ref p))∧H0 p=none∧Φ p=none∧H p=some (.lst vs)∧RpL K Φ ds vs:=by
  obtain ⟨p,u,e,h0,hn,hp,r⟩:=E.ow i _ h
  cases u with
  | lst vs=>exact ⟨p,vs,e,h0,hn,hp,r⟩
  | _=>exact (show False from r).elim
theorem EnvD.owd (E:EnvD K H0 Φ H σ ρ) (i:Nat) (ks:List Key) (h:ρ[i]?=some (some (.dct ks))):∃ p kvs,σ[i]?=some (some (.ref p))∧H0 p=none∧Φ p=none∧H p=some (.dK kvs)∧kvs.map (·.1)=ks:=by
  obtain ⟨p,u,e,h0,hn,hp,r⟩:=E.ow i _ h
  cases u with
  | dK kvs=>exact ⟨p,kvs,e,h0,hn,hp,r⟩
  | _=>exact (show False from r).elim
theorem EnvD.gr (E:EnvD K H0 Φ H σ ρ) (g:Gr Φ H Φ' H'):EnvD K H0 Φ' H' σ ρ :=
  ⟨g.s,E.len,fun i d h=>let ⟨v,e,r⟩:=E.sl i d h;⟨v,e,r.same g.f⟩,
    fun i ds h=>let ⟨p,vs,e,h0,hn,hp,r⟩:=E.ow i ds h;⟨p,vs,e,h0,g.o p _ hp hn r.k,g.h _ _ hp,r.same g.f⟩,E.ne,E.tb.same g.f⟩
theorem qbw {α:Type} {l:List α} {i j:Nat} {x y:α} (h:(l.set i x)[j]?=some y):(j=i∧i<l.length∧y=x)∨(j≠i∧l[j]?=some y):=by
  by_cases c:i=j
  · subst c
    have hi:i<l.length:=by have:=qag h;rwa [List.length_set] at this
    rw [List.getElem?_set_self hi] at h
    cases h
    exact .inl ⟨rfl,hi,rfl⟩
  · rw [List.getElem?_set_ne c] at h
    exact .inr ⟨fun e=>c e.symm,h⟩
theorem EnvD.set (E:EnvD K H0 Φ H σ ρ) (r:Rp K Φ d v) (i:Nat):EnvD K H0 Φ H (σ.set i (some v)) (ρ.set i (some (.v d))):=by
  have nn:∀ {j:Nat} {x:Option V},j≠i→σ[j]?=some x→(σ.set i (some v))[j]?=some x:=fun c h=>by rw [List.getElem?_set_ne (Ne.symm c)];exact h
  refine ⟨E.fz,by rw [List.length_set,List.length_set,E.len],fun j e h=>?_,fun j ds h=>?_,fun j k ds es p hj hk sj sk=>?_,E.tb⟩
  · rcases qbw h with ⟨rfl,hi,e1⟩ | ⟨c,h⟩
    · cases e1
      exact ⟨v,by rw [List.getElem?_set_self (by rw [E.len];exact hi)],r⟩
    · obtain ⟨u,hu,ru⟩:=E.sl j e h
      exact ⟨u,nn c hu,ru⟩
  · rcases qbw h with ⟨rfl,hi,e1⟩ | ⟨c,h⟩
    · cases e1
    · obtain ⟨p,vs,e,q⟩:=E.ow j ds h
      exact ⟨p,vs,nn c e,q⟩
  · rcases qbw hj with ⟨rfl,_,e1⟩ | ⟨cj,hj⟩
    · cases e1
    rcases qbw hk with ⟨rfl,_,e1⟩ | ⟨ck,hk⟩
    · cases e1
    rw [List.getElem?_set_ne (Ne.symm cj)] at sj
    rw [List.getElem?_set_ne (Ne.symm ck)] at sk
    exact E.ne j k ds es p hj hk sj sk
theorem EnvD.setOb (E:EnvD K H0 Φ H σ ρ) {p:Addr} {o:Ow} {u:HO} (r:OwR K Φ o u) (h0:H0 p=none) (hn:Φ p=none) (hp:H p=some u) (hnew:∀ (j:Nat) (w:Ow),ρ[j]?=some (some (.ob w))→σ[j]?≠some (some (.ref p))) (i:Nat):EnvD K H0 Φ H (σ.set i (some (.ref p))) (ρ.set i (some (.ob o))):=by
  have nn:∀ {j:Nat} {x:Option V},j≠i→σ[j]?=some x→(σ.set i (some (.ref p)))[j]?=some x:=fun c h=>by rw [List.getElem?_set_ne (Ne.symm c)];exact h
  refine ⟨E.fz,by rw [List.length_set,List.length_set,E.len],fun j e h=>?_,fun j ds h=>?_,fun j k ds es q hj hk sj sk=>?_,E.tb⟩
  · rcases qbw h with ⟨rfl,hi,e1⟩ | ⟨c,h⟩
    · cases e1
    · obtain ⟨u,hu,ru⟩:=E.sl j e h
      exact ⟨u,nn c hu,ru⟩
  · rcases qbw h with ⟨rfl,hi,e1⟩ | ⟨c,h⟩
    · cases e1
      exact ⟨p,u,by rw [List.getElem?_set_self (by rw [E.len];exact hi)],h0,hn,hp,r⟩
    · obtain ⟨p,vs,e,q⟩:=E.ow j ds h
      exact ⟨p,vs,nn c e,q⟩
  · rcases qbw hj with ⟨e1,hl,_⟩ | ⟨cj,hj'⟩
    · rcases qbw hk with ⟨e2,_,_⟩ | ⟨ck,hk'⟩
      · rw [e1,e2]
      · rw [e1,List.getElem?_set_self (by rw [E.len];exact hl)] at sj
        cases sj
        rw [List.getElem?_set_ne (Ne.symm ck)] at sk
        exact absurd sk (hnew k _ hk')
    · rw [List.getElem?_set_ne (Ne.symm cj)] at sj
      rcases qbw hk with ⟨e2,hl,_⟩ | ⟨ck,hk'⟩
      · rw [e2,List.getElem?_set_self (by rw [E.len];exact hl)] at sk
        cases sk
        exact absurd sj (hnew j _ hj')
      · rw [List.getElem?_set_ne (Ne.symm ck)] at sk
        exact E.ne j k _ _ q hj' hk' sj sk
theorem EnvD.putOb (E:EnvD K H0 Φ H σ ρ) {i:Nat} {p:Addr} {o o':Ow} {u:HO} (ho:ρ[i]?=some (some (.ob o))) (hs:σ[i]?=some (some (.ref p))) (r:OwR K Φ o' u):EnvD K H0 Φ (upd H p u) σ (ρ.set i (some (.ob o'))):=by
  obtain ⟨p',vs,e,h0,hn,hp,_⟩:=E.ow i _ ho
  rw [hs] at e
  cases e
  have hi:=qag ho
  refine ⟨fun b u e=>?_,by rw [List.length_set,E.len],fun j e h=>?_,fun j fs h=>?_,fun j k fs gs q hj hk sj sk=>?_,E.tb⟩
  · rw [qak (qap e hn)]
    exact E.fz b u e
  · rcases qbw h with ⟨rfl,_,e1⟩ | ⟨c,h⟩
    · cases e1
    · exact E.sl j e h
  · rcases qbw h with ⟨rfl,_,e1⟩ | ⟨c,h⟩
    · cases e1
      exact ⟨p,u,hs,h0,hn,qai,r⟩
    · obtain ⟨q,us,e,q0,qn,qp,qr⟩:=E.ow j fs h
      refine ⟨q,us,e,q0,qn,?_,qr⟩
      rw [qak fun z=>c (E.ne j i fs o p h ho (by rw [e,z]) hs)]
      exact qp
  · have old:∀ {j:Nat} {fs:Ow},(ρ.set i (some (.ob o')))[j]?=some (some (.ob fs))→∃ gs,ρ[j]?=some (some (.ob gs)):=fun {j fs} h=>by
      rcases qbw h with ⟨rfl,_,_⟩ | ⟨_,h⟩
      · exact ⟨o,ho⟩
      · exact ⟨fs,h⟩
    obtain ⟨fs',hj⟩:=old hj
    obtain ⟨gs',hk⟩:=old hk
    exact E.ne j k fs' gs' q hj hk sj sk
theorem EnvD.setOwn (E:EnvD K H0 Φ H σ ρ) {p:Addr} (r:RpL K Φ ds vs) (h0:H0 p=none) (hn:Φ p=none) (hp:H p=some (.lst vs)) (hnew:∀ (j:Nat) (w:Ow),ρ[j]?=some (some (.ob w))→σ[j]?≠some (some (.ref p))) (i:Nat):EnvD K H0 Φ H (σ.set i (some (.ref p))) (ρ.set i (some (.own ds))):=E.setOb (o:=.lst ds) (u:=.lst vs) r h0 hn hp hnew i
theorem EnvD.put (E:EnvD K H0 Φ H σ ρ) {i:Nat} {p:Addr} (ho:ρ[i]?=some (some (.own ds))) (hs:σ[i]?=some (some (.ref p))) (r:RpL K Φ es ws):EnvD K H0 Φ (upd H p (.lst ws)) σ (ρ.set i (some (.own es))):=E.putOb (o':=.lst es) (u:=.lst ws) ho hs r
theorem EnvD.weak {ρ':Rho} (E:EnvD K H0 Φ H σ ρ) (hl:ρ'.length=ρ.length) (hw:∀ (i:Nat) x,ρ'[i]?=some (some x)→ρ[i]?=some (some x)):EnvD K H0 Φ H σ ρ' :=
  ⟨E.fz,by rw [E.len,hl],fun i d h=>E.sl i d (hw i _ h),fun i ds h=>E.ow i ds (hw i _ h),fun i j ds es p hi hj=>E.ne i j ds es p (hw i _ hi) (hw j _ hj),E.tb⟩
end
def NF {α:Type} (x:α) (R:α→Prop):Prop:=∃ y,x=y∧R y
theorem NF.get {α:Type} {x:α} {R:α→Prop} (h:NF x R):R x:=by
  obtain ⟨_,rfl,h⟩:=h
  exact h
abbrev TD:=Rho→(D→Prop)→Prop
abbrev TDL:=Rho→(List D→Prop)→Prop
abbrev TDB:=Rho→(Bool→Prop)→Prop
def lE (K:PySem.W.Frag) (t:TD):TE:=fun σ H Q=>∃ H0 Φ ρ R,EnvD K H0 Φ H σ ρ∧t ρ R∧∀ d Φ' H' v,R d→Gr Φ H Φ' H'→Rp K Φ' d v→Q v H'
def lQ (K:PySem.W.Frag) (t:TD):TE:=fun σ H Q=>∃ H0 Φ ρ R,EnvD K H0 Φ H σ ρ∧t ρ R∧∀ d Φ' H' v,R d→Gr Φ H Φ' H'→RpQ K Φ' H' d v→Q v H'
def lF (K:PySem.W.Frag) (t:TDL):TE:=fun σ H Q=>∃ H0 Φ ρ R,EnvD K H0 Φ H σ ρ∧t ρ R∧∀ ds Φ' H' p vs,R ds→Gr Φ H Φ' H'→H p=none→Φ' p=none→H' p=some (.lst vs)→RpL K Φ' ds vs→Q (.ref p) H'
def lA (K:PySem.W.Frag) (n:Nat) (t:TDL):TA:=fun σ H Q=>∃ H0 Φ ρ R,EnvD K H0 Φ H σ ρ∧t ρ R∧∀ ds Φ' H' vs,R ds→Gr Φ H Φ' H'→RpL K Φ' ds vs→ds.length=n→Q vs H'
def lT (K:PySem.W.Frag) (t:TDB):TT:=fun σ H Q=>∃ H0 Φ ρ R,EnvD K H0 Φ H σ ρ∧t ρ R∧∀ b Φ' H',R b→Gr Φ H Φ' H'→Q b H'
structure PD (K:PySem.W.Frag) (X:Cx) (e:Expr) (t:TD):Prop where pe:X.K=K→PE X e (lE K t)
structure PQ (K:PySem.W.Frag) (X:Cx) (e:Expr) (t:TD):Prop where pe:X.K=K→PE X e (lQ K t)
structure PF (K:PySem.W.Frag) (X:Cx) (e:Expr) (t:TDL):Prop where pe:X.K=K→PE X e (lF K t)
structure PAD (K:PySem.W.Frag) (X:Cx) (es:List Expr) (t:TDL):Prop where pa:X.K=K→PA X es (lA K es.length t)
structure PTD (K:PySem.W.Frag) (X:Cx) (e:Expr) (t:TDB):Prop where pt:X.K=K→PT X e (lT K t)
structure PWD (K:PySem.W.Frag) (X:Cx) (e:Expr) (t:TDB):Prop where pw:X.K=K→PW X e (lT K t)
theorem PE.imp {X:Cx} {e:Expr} {t t':TE} (h:PE X e t) (k:∀ σ H Q,t' σ H Q→t σ H Q):PE X e t':=fun pins s σ H Q I hw=>h pins s σ H Q I (k σ H Q hw)
theorem PT.imp {X:Cx} {e:Expr} {t t':TT} (h:PT X e t) (k:∀ σ H Q,t' σ H Q→t σ H Q):PT X e t':=fun pins s σ H Q I hw=>h pins s σ H Q I (k σ H Q hw)
theorem PW.imp {X:Cx} {e:Expr} {t t':TT} (h:PW X e t) (k:∀ σ H Q,t' σ H Q→t σ H Q):PW X e t':=fun wh pins s σ H Q I hw=>h wh pins s σ H Q I (k σ H Q hw)
theorem PA.imp {X:Cx} {e:List Expr} {t t':TA} (h:PA X e t) (k:∀ σ H Q,t' σ H Q→t σ H Q):PA X e t':=fun pos pins s σ H Q I hw=>h pos pins s σ H Q I (k σ H Q hw)
theorem PS.imp {X:Cx} {e:Stmt} {t t':TS} (h:PS X e t) (k:∀ D σ H,t' D σ H→t D σ H):PS X e t':=fun pins s σ H D I hw=>h pins s σ H D I (k D σ H hw)
theorem PSs.imp {X:Cx} {e:List Stmt} {t t':TS} (h:PSs X e t) (k:∀ D σ H,t' D σ H→t D σ H):PSs X e t':=fun pins s σ H D I hw=>h pins s σ H D I (k D σ H hw)
section
variable {K : PySem.W.Frag} {X : Cx} {e a b c : Expr} {es : List Expr} {pos : Pos} {t ta tb : TD} {tf : TDL} {tl : TDL} {tt tu : TDB}
theorem PD.q (h:PD K X e t):PQ K X e t:=⟨fun hK=>(h.pe hK).imp fun σ H Q hq0=>by obtain ⟨H0,Φ,ρ,R,E,t,k⟩:=hq0;exact ⟨H0,Φ,ρ,R,E,t,fun d Φ' H' v r g rr=>k d Φ' H' v r g (.inl rr)⟩⟩
def qrk (t:TDL):TD:=fun ρ R=>t ρ fun ds=>R (.lst ds)
theorem PF.d (h:PF K X e tf):PD K X e (qrk tf):=⟨fun hK=>(h.pe hK).imp fun σ H Q hq0=>by obtain ⟨H0,Φ,ρ,R,E,t,k⟩:=hq0;exact ⟨H0,Φ,ρ,_,E,t,fun ds Φ' H' p vs r g h0 hn hp rr =>
  k (.lst ds) _ H' _ r (g.freeze h0 hn hp) ((rr.same (qaH hn _)).lst qai)⟩⟩
def qrt (i:Nat):TD:=fun ρ R=>match ρ[i]? with | some (some (.v d))=>R d | _=>False
def qkD (i:Nat):TD:=fun ρ R=>match ρ[i]? with | some (some (.v d))=>R d | some (some (.ob (.lst ds)))=>R (.lst ds) | _=>False
theorem dv (i:Nat) {x:Str} (hN:X.N[i]?=some x:=by rfl) (hv:Vis X.env.scope x:=by first | exact Or.inl rfl | exact Or.inr (Or.inl rfl) | exact Or.inr (Or.inr rfl)) (hd:(x == ("__debug__":Str))=false:=by decide)
    (hcd:(x == ("__classdict__":Str))=false:=by decide):PD K X (.Name x pos) (qrt i):=⟨fun _=>(pv i hN hv hd hcd).imp fun σ H Q hq0=>by
  obtain ⟨H0,Φ,ρ,R,E,t,k⟩:=hq0
  unfold qrt at t
  split at t
  · next d h =>
    obtain ⟨v,e,r⟩:=E.sl i d h
    exact ⟨v,e,k d Φ H v t (.refl E.fz) r⟩
  · exact t.elim⟩
theorem dvq (i:Nat) {x:Str} (hN:X.N[i]?=some x:=by rfl) (hv:Vis X.env.scope x:=by first | exact Or.inl rfl | exact Or.inr (Or.inl rfl) | exact Or.inr (Or.inr rfl)) (hd:(x == ("__debug__":Str))=false:=by decide)
    (hcd:(x == ("__classdict__":Str))=false:=by decide):PQ K X (.Name x pos) (qkD i):=⟨fun _=>(pv i hN hv hd hcd).imp fun σ H Q hq0=>by
  obtain ⟨H0,Φ,ρ,R,E,t,k⟩:=hq0
  unfold qkD at t
  split at t
  · next d h =>
    obtain ⟨v,e,r⟩:=E.sl i d h
    exact ⟨v,e,k d Φ H v t (.refl E.fz) (.inl r)⟩
  · next ds h =>
    obtain ⟨p,vs,e,_,_,hp,r⟩:=E.owl i ds h
    exact ⟨_,e,k _ Φ H _ t (.refl E.fz) (.inr ⟨p,vs,ds,rfl,rfl,hp,r⟩)⟩
  · exact t.elim⟩
def dC (d:D):TD:=fun _ R=>R d
theorem qkH {v:V} {d:D} (h:PE X e (tC v)) (r:∀ Φ,Rp K Φ d v):PD K X e (dC d):=⟨fun _=>h.imp fun σ H Q hq0=>by obtain ⟨H0,Φ,ρ,R,E,t,k⟩:=hq0;exact k d Φ H v t (.refl E.fz) (r Φ)⟩
theorem qad {i j}:PD K X (.Constant (.int i) j pos) (dC (.int i)):=qkH qo3 fun _=>.int i
theorem qkg {i j}:PD K X (.Constant (.bool i) j pos) (dC (.bl i)):=qkH qp6 fun _=>.bl i
theorem qax {i j}:PD K X (.Constant (.str i) j pos) (dC (.str i)):=qkH qlz fun _=>.str i
theorem qaQ {j}:PD K X (.Constant .none j pos) (dC .non):=qkH qoh fun _=>.non
abbrev RD2:=D→D→(D→Prop)→Prop
def lR2 (K:PySem.W.Frag) (r:RD2):R2:=fun x y H Q=>∃ Φ dx dy R,Same Φ H∧RpQ K Φ H dx x∧RpQ K Φ H dy y∧r dx dy R∧∀ d Φ' H' v,R d→Gr Φ H Φ' H'→Rp K Φ' d v→Q v H'
structure OpD (K:PySem.W.Frag) (X:Cx) (f:Value→Value→Sem Value) (r:RD2):Prop where o:X.K=K→OpR X f (lR2 K r)
def dOp (r:RD2) (ta tb:TD):TD:=fun ρ R=>ta ρ fun x=>tb ρ fun y=>r x y R
theorem qe2 {r:RD2} {σ:St} {H:Hp} {Q:VK} (h:lE K (dOp r ta tb) σ H Q):tOp (lR2 K r) (lQ K ta) (lQ K tb) σ H Q:=by
  obtain ⟨H0,Φ,ρ,R,E,t,k⟩:=h
  exact ⟨H0,Φ,ρ,_,E,t,fun dx Φ1 H1 x t1 g1 rx=>⟨H0,Φ1,ρ,_,E.gr g1,t1,fun dy Φ2 H2 y t2 g2 ry=>⟨Φ2,dx,dy,R,g2.s,rx.gr g2,ry,t2,fun d Φ' H' v r g rr=>k d Φ' H' v r ((g1.trans g2).trans g) rr⟩⟩⟩
theorem qbE {op:Operator} {r:RD2} (ho:OpD K X (binaryOp op) r) (ha:PQ K X a ta) (hb:PQ K X b tb):PD K X (.BinOp a op b pos) (dOp r ta tb) :=
  ⟨fun hK=>(qnb (ho.o hK) (ha.pe hK) (hb.pe hK)).imp fun _ _ _=>qe2⟩
theorem qhJ {op:CmpOp} {r:RD2} (ho:OpD K X (compareOp op) r) (ha:PQ K X a ta) (hb:PQ K X b tb) (hm:behindInMarks op b=false):PD K X (.Compare a [op] [b] pos) (dOp r ta tb) :=
  ⟨fun hK=>(qnr (ho.o hK) (ha.pe hK) (hb.pe hK) hm).imp fun _ _ _=>qe2⟩
def qmB (t:TD):TDB:=fun ρ R=>t ρ fun d=>match d with | .bl b=>R b | _=>False
theorem qjL {r:RD2} {σ:St} {H:Hp} {Q:Bool→Hp→Prop} (h:lT K (qmB (dOp r ta tb)) σ H Q):qmE (tOp (lR2 K r) (lQ K ta) (lQ K tb)) σ H Q:=by
  obtain ⟨H0,Φ,ρ,R,E,t,k⟩:=h
  refine qe2 ⟨H0,Φ,ρ,_,E,t,fun d Φ' H' v r g rr=>?_⟩
  cases d with
  | bl b=>cases rr;exact ⟨b,rfl,k b Φ' H' r g⟩
  | _=>exact r.elim
theorem qaK {op:CmpOp} {r:RD2} (ho:OpD K X (compareOp op) r) (ha:PQ K X a ta) (hb:PQ K X b tb) (hm:behindInMarks op b=false):PTD K X (.Compare a [op] [b] pos) (qmB (dOp r ta tb)) :=
  ⟨fun hK=>(qjV (ho.o hK) (ha.pe hK) (hb.pe hK) hm).imp fun _ _ _=>qjL⟩
abbrev RD1:=D→(D→Prop)→Prop
def dUn (r:RD1) (ta:TD):TD:=fun ρ R=>ta ρ fun x=>r x R
def qsR:RD1:=fun x R=>match x with | .int i=>R (.int (-i)) | _=>False
theorem qdi (ha:PQ K X a ta):PD K X (.UnaryOp .USub a pos) (dUn qsR ta):=⟨fun hK=>(qqC qoa (ha.pe hK)).imp fun σ H Q hq0=>by obtain ⟨H0,Φ,ρ,R,E,t,k⟩:=hq0;exact ⟨H0,Φ,ρ,_,E,t,fun dx Φ1 H1 x t1 g1 rx=>by
  cases dx with
  | int i=>exact ⟨i,rx.int,k _ Φ1 H1 _ t1 g1 (.int _)⟩
  | _=>exact t1.elim⟩⟩
def qst:RD1:=fun x R=>match x with | .bl i=>R (.bl (!i)) | _=>False
theorem qqd (ha:PQ K X a ta):PD K X (.UnaryOp .Not a pos) (dUn qst ta):=⟨fun hK=>(qnY (ha.pe hK)).imp fun σ H Q hq0=>by obtain ⟨H0,Φ,ρ,R,E,t,k⟩:=hq0;exact ⟨H0,Φ,ρ,_,E,t,fun dx Φ1 H1 x t1 g1 rx=>by
  cases dx with
  | bl i=>exact ⟨i,rx.bl,k _ Φ1 H1 _ t1 g1 (.bl _)⟩
  | _=>exact t1.elim⟩⟩
def qrv:D→(Bool→Prop)→Prop:=fun d R=>match d with
  | .int i=>R (i != 0) | .bl b=>R b | .non=>R false | .str x=>x.length≤sizeLine∧R ((x.length:Int) != 0) | .lst ds=>R (!ds.isEmpty) | .tup ds=>R (!ds.isEmpty) | .fzl ds=>R (!ds.isEmpty) | .obj _ _=>False | .map _=>False | .exc _ _=>False
theorem qdp {Φ:Hp} {ds:List D} {vs:List V} (h:RpL K Φ ds vs):(!ds.isEmpty)=!vs.isEmpty:=by
  have:=h.1
  cases ds <;> cases vs <;> simp_all
theorem qpo {Φ H:Hp} {d:D} {v:V} {R:Bool→Prop} (s:Same Φ H) (h:RpQ K Φ H d v) (t:qrv d R):∃ k,qpV K v H k∧R k:=by
  cases d with
  | int i=>rw [h.int];exact ⟨_,rfl,t⟩
  | bl i=>rw [h.bl];exact ⟨_,rfl,t⟩
  | non=>rw [h.non];exact ⟨_,rfl,t⟩
  | str i=>rw [h.str];exact ⟨_,⟨t.1,rfl⟩,t.2⟩
  | lst ds=>obtain ⟨a,vs,rfl,h1,h2⟩:=h.lst s;exact ⟨_,.inl ⟨vs,.of h1,rfl⟩,by rw [← qdp h2];exact t⟩
  | tup ds=>obtain ⟨a,vs,rfl,h1,_,h2⟩:=h.tup s;exact ⟨_,.inr (.inl ⟨vs,h1,rfl⟩),by rw [← qdp h2];exact t⟩
  | fzl ds=>obtain ⟨a,vs,rfl,h1,h2⟩:=h.fzl s;exact ⟨_,.inl ⟨vs,h1,rfl⟩,by rw [← qdp h2];exact t⟩
  | obj C fs=>exact t.elim
  | map kvs=>exact t.elim
  | exc _ _=>exact t.elim
def qsJ (t:TD):TDB:=fun ρ R=>t ρ fun d=>qrv d R
theorem qft (ha:PQ K X a ta) (he:∀ whole,isTrue a X.env whole=(do let v ← whole;standAt a.pos;holding [v] (truthy v))):PTD K X a (qsJ ta) :=
  ⟨fun hK=>(qkJ (ha.pe hK) he).imp fun σ H Q hq0=>by obtain ⟨H0,Φ,ρ,R,E,t,k⟩:=hq0;exact ⟨H0,Φ,ρ,_,E,t,fun d Φ1 H1 v t1 g1 rv=>by
    obtain ⟨b,h1,h2⟩:=qpo g1.s rv t1
    rw [hK]
    exact ⟨b,h1,k b Φ1 H1 h2 g1⟩⟩⟩
def qsz (t u:TDB):TDB:=fun ρ R=>t ρ fun c=>(c=true→u ρ R)∧(c=false→R false)
def zOr (t u:TDB):TDB:=fun ρ R=>t ρ fun c=>(c=true→R true)∧(c=false→u ρ R)
def qqA (t:TDB):TDB:=fun ρ R=>t ρ fun c=>R (!c)
theorem PWD.td (h:PWD K X e tt):PTD K X e tt:=⟨fun hK=>(h.pw hK).pt⟩
theorem qiL (ha:PTD K X a tt):PWD K X (.BoolOp .And [a] pos) tt:=⟨fun hK=>qmv (ha.pt hK)⟩
theorem qfD (ha:PTD K X a tt):PWD K X (.BoolOp .Or [a] pos) tt:=⟨fun hK=>qoq (ha.pt hK)⟩
theorem qmQ (ha:PTD K X a tt) (hb:PWD K X (.BoolOp .And (b::es) pos) tu):PWD K X (.BoolOp .And (a::b::es) pos) (qsz tt tu) :=
  ⟨fun hK=>(qoP (ha.pt hK) (hb.pw hK)).imp fun σ H Q hq0=>by obtain ⟨H0,Φ,ρ,R,E,t,k⟩:=hq0;exact ⟨H0,Φ,ρ,_,E,t,fun c Φ1 H1 r g=>by
    cases c with
    | true=>rw [if_pos rfl];exact ⟨H0,Φ1,ρ,R,E.gr g,r.1 rfl,fun b Φ' H' rb g'=>k b Φ' H' rb (g.trans g')⟩
    | false=>rw [if_neg (by decide)];exact k _ Φ1 H1 (r.2 rfl) g⟩⟩
theorem qjm (ha:PTD K X a tt) (hb:PWD K X (.BoolOp .Or (b::es) pos) tu):PWD K X (.BoolOp .Or (a::b::es) pos) (zOr tt tu) :=
  ⟨fun hK=>(qpS (ha.pt hK) (hb.pw hK)).imp fun σ H Q hq0=>by obtain ⟨H0,Φ,ρ,R,E,t,k⟩:=hq0;exact ⟨H0,Φ,ρ,_,E,t,fun c Φ1 H1 r g=>by
    cases c with
    | true=>rw [if_pos rfl];exact k _ Φ1 H1 (r.1 rfl) g
    | false=>rw [if_neg (by decide)];exact ⟨H0,Φ1,ρ,R,E.gr g,r.2 rfl,fun b Φ' H' rb g'=>k b Φ' H' rb (g.trans g')⟩⟩⟩
theorem qjE (ha:PTD K X a tt):PTD K X (.UnaryOp .Not a pos) (qqA tt) :=
  ⟨fun hK=>(qoE (ha.pt hK)).imp fun σ H Q hq0=>by obtain ⟨H0,Φ,ρ,R,E,t,k⟩:=hq0;exact ⟨H0,Φ,ρ,_,E,t,fun c Φ1 H1 r g=>k _ Φ1 H1 r g⟩⟩
def qso (t u:TD):TD:=fun ρ R=>t ρ fun c=>match c with | .bl c=>(c=true→u ρ R)∧(c=false→R (.bl false)) | _=>False
theorem qlp {op} (h:PD K X a ta):PD K X (.BoolOp op [a] pos) ta:=⟨fun hK=>qn7 (h.pe hK)⟩
theorem qkp (ha:PD K X a ta) (hb:PD K X (.BoolOp .And (b::es) pos) tb):PD K X (.BoolOp .And (a::b::es) pos) (qso ta tb) :=
  ⟨fun hK=>(qpf (ha.pe hK) (hb.pe hK)).imp fun σ H Q hq0=>by obtain ⟨H0,Φ,ρ,R,E,t,k⟩:=hq0;exact ⟨H0,Φ,ρ,_,E,t,fun c Φ1 H1 v r g rv=>by
    cases c with
    | bl c =>
      cases rv
      refine ⟨c,rfl,?_⟩
      cases c with
      | true=>rw [if_pos rfl];exact ⟨H0,Φ1,ρ,R,E.gr g,r.1 rfl,fun b Φ' H' v rb g' rr=>k b Φ' H' v rb (g.trans g') rr⟩
      | false=>rw [if_neg (by decide)];exact k _ Φ1 H1 _ (r.2 rfl) g (.bl _)
    | _=>exact r.elim⟩⟩
def dIf (t:TDB) (u v:TD):TD:=fun ρ R=>t ρ fun c=>(c=true→u ρ R)∧(c=false→v ρ R)
theorem qqm (hc:PTD K X c tt) (ha:PD K X a ta) (hb:PD K X b tb):PD K X (.IfExp c a b pos) (dIf tt ta tb) :=
  ⟨fun hK=>(qk9 (hc.pt hK) (ha.pe hK) (hb.pe hK)).imp fun σ H Q hq0=>by obtain ⟨H0,Φ,ρ,R,E,t,k⟩:=hq0;exact ⟨H0,Φ,ρ,_,E,t,fun c Φ1 H1 r g=>by
    cases c with
    | true=>rw [if_pos rfl];exact ⟨H0,Φ1,ρ,R,E.gr g,r.1 rfl,fun b Φ' H' v rb g' rr=>k b Φ' H' v rb (g.trans g') rr⟩
    | false=>rw [if_neg (by decide)];exact ⟨H0,Φ1,ρ,R,E.gr g,r.2 rfl,fun b Φ' H' v rb g' rr=>k b Φ' H' v rb (g.trans g') rr⟩⟩⟩
def qpY:TDL:=fun _ R=>R []
def qmj (t:TD) (u:TDL):TDL:=fun ρ R=>t ρ fun d=>u ρ fun ds=>R (d::ds)
theorem qau:PAD K X [] qpY:=⟨fun _=>pa_nil.imp fun σ H Q hq0=>by obtain ⟨H0,Φ,ρ,R,E,t,k⟩:=hq0;exact k [] Φ H [] t (.refl E.fz) .nil rfl⟩
theorem qae (ha:PD K X e t) (hr:PAD K X es tl) (hs:starEach (e::es) X.env=(false,eval e X.env)::starEach es X.env):PAD K X (e::es) (qmj t tl) :=
  ⟨fun hK=>(qa8 (ha.pe hK) (hr.pa hK) hs).imp fun σ H Q hq0=>by obtain ⟨H0,Φ,ρ,R,E,t,k⟩:=hq0;exact ⟨H0,Φ,ρ,_,E,t,fun d Φ1 H1 v r g rv=>⟨H0,Φ1,ρ,_,E.gr g,r,fun ds Φ2 H2 vs r2 g2 rl hl =>
    k _ Φ2 H2 _ r2 (g.trans g2) (.cons (rv.same g2.f) rl) (by rw [List.length_cons,List.length_cons,hl])⟩⟩⟩
def qsN (t:TDL):TD:=fun ρ R=>t ρ fun ds=>R (.tup ds)
def qrr (t:TDL):TDL:=t
theorem qiU {n:Nat} (h:Nat.ble n 1000=true):n≤sizeLine:=Nat.le_trans (Nat.le_of_ble_eq_true h) (by decide)
theorem qbp {x1} (h:PAD K X es tl) (hes:Nat.ble es.length 1000=true:=by rfl):PD K X (.Tuple es x1 pos) (qsN tl) :=
  ⟨fun hK=>(qjA (h.pa hK)).imp fun σ H Q hq0=>by obtain ⟨H0,Φ,ρ,R,E,t,k⟩:=hq0;exact ⟨H0,Φ,ρ,_,E,t,fun ds Φ1 H1 vs r g rl hl=>⟨by rw [rl.1,hl];exact qiU hes,fun p hp =>
    k _ _ _ _ r (g.trans (.new g.s hp _)) ((rl.same (qaH (g.s.free hp) _)).tup qai)⟩⟩⟩
theorem qdJ (h:PAD K X es tl) (hes:Nat.ble es.length 1000=true:=by rfl):PF K X (.List es pos) (qrr tl) :=
  ⟨fun hK=>(qpe (h.pa hK)).imp fun σ H Q hq0=>by obtain ⟨H0,Φ,ρ,R,E,t,k⟩:=hq0;exact ⟨H0,Φ,ρ,_,E,t,fun ds Φ1 H1 vs r g rl hl=>⟨by rw [rl.1,hl];exact qiU hes,fun p hp =>
    k _ _ _ p vs r (g.trans (.fresh g.s hp _)) (g.h.free hp) (g.s.free hp) qai rl⟩⟩⟩
end
end L2
namespace L2
open PySem PySem.Spec PyProof.Rows PySem.Builtin PySem.Builtin.Str
section
variable {K : PySem.W.Frag} {X : Cx}
def qh6 (z:Str) (lo hi:Option Int):Str:=⟨(qcG z.cps.toList lo hi).toArray⟩
theorem qjg (z:Str) (lo hi:Option Int):Txt.slice z lo hi=qh6 z lo hi:=by
  have key:strSliceIndices lo hi 1 z.length=(List.range (HT.sIx z.length z.length hi - HT.sIx z.length 0 lo)).map fun k=>HT.sIx z.length 0 lo+k:=by
    have h1:∀ (i:Int) (d:Nat),max 0 (min (if i<0 then i+(z.length:Int) else i) (z.length:Int))=(HT.sIx z.length d (some i):Int):=fun i d=>by
      show max 0 (min (if i<0 then i+(z.length:Int) else i) (z.length:Int))=((if i<0 then (i+(z.length:Int)).toNat else min i.toNat z.length:Nat):Int)
      split <;> omega
    have e0:strSliceIndices lo hi 1 z.length=sliceRange (HT.sIx z.length 0 lo:Int) (HT.sIx z.length z.length hi:Int) 1:=by
      cases lo <;> cases hi <;> simp only [strSliceIndices,show (1:Int)>0 by decide,if_true,h1 _ 0,h1 _ z.length] <;> rfl
    rw [e0]
    unfold sliceRange
    simp only [show (1:Int)>0 by decide,if_true]
    have ec:(if (HT.sIx z.length 0 lo:Int)<(HT.sIx z.length z.length hi:Int) then ((HT.sIx z.length z.length hi:Int) - (HT.sIx z.length 0 lo:Int)+1 - 1) / 1 else 0).toNat=HT.sIx z.length z.length hi - HT.sIx z.length 0 lo:=by
      split
      · rw [Int.ediv_one];omega
      · omega
    rw [ec]
    refine List.map_congr_left fun k _=>?_
    omega
  have hb:HT.sIx z.length z.length hi≤z.length:=by
    cases hi with
    | none=>exact Nat.le_refl _
    | some i =>
      show (if i<0 then (i+(z.length:Int)).toNat else min i.toNat z.length)≤z.length
      split <;> omega
  have hb0:HT.sIx z.length 0 lo≤z.length:=by
    cases lo with
    | none=>exact Nat.zero_le _
    | some i =>
      show (if i<0 then (i+(z.length:Int)).toNat else min i.toNat z.length)≤z.length
      split <;> omega
  have pick:(strSliceIndices lo hi 1 z.length).filterMap (z.cps[·]?)=qcG z.cps.toList lo hi:=by
    rw [key]
    unfold qcG
    have el:z.cps.toList.length=z.length:=by rw [Array.length_toList];rfl
    rw [el]
    generalize HT.sIx z.length 0 lo=a
    generalize hbb:HT.sIx z.length z.length hi=b at hb
    refine List.ext_getElem? fun j=>?_
    rw [List.filterMap_map]
    have:∀ m,m≤b - a→((List.range m).filterMap ((fun x=>z.cps[x]?) ∘ fun k=>a+k))=(z.cps.toList.drop a).take m:=by
      intro m
      induction m with
      | zero=>intro _;simp
      | succ m ih =>
        intro hm
        rw [List.range_succ,List.filterMap_append,ih (by omega)]
        have hlt:a+m<z.cps.size:=by unfold Str.length at hb;omega
        have e1:z.cps.toList.drop a=z.cps.toList.drop a:=rfl
        have hl:m<(z.cps.toList.drop a).length:=by rw [List.length_drop,el];unfold Str.length;omega
        rw [List.take_add_one,List.getElem?_drop]
        congr 1
        simp [hlt]
    rw [this _ (Nat.le_refl _)]
  unfold Txt.slice qh6
  split
  · next h =>
    have hl:(strSliceIndices lo hi 1 z.length).length=z.length:=by simpa using h
    have el:z.cps.toList.length=z.length:=by rw [Array.length_toList];rfl
    have:qcG z.cps.toList lo hi=z.cps.toList:=by
      rw [key,List.length_map,List.length_range] at hl
      unfold qcG
      rw [el]
      have:HT.sIx z.length 0 lo=0:=by omega
      rw [this,List.drop_zero,List.take_of_length_le (by rw [el];omega)]
    rw [this]
  · rw [pick]
theorem qmV (z:Str) (lo hi:Option Int):(qh6 z lo hi).length≤z.length:=by rw [← qjg];exact Txt.slice_le z lo hi
def qre:V→Option Int→Option Int→Hp→VK→Prop:=fun x lo hi H Q=>∃ z,x=.str z∧z.length≤sizeLine∧Q (.str (qh6 z lo hi)) H
theorem qiF {v:Value} {o:Option Int} (h:IsPart v o):∃ p:Option (Int × Tok),v=partValue p∧p.map (·.1)=o:=by
  cases h with
  | none=>exact ⟨none,rfl,rfl⟩
  | int i t=>exact ⟨some (i,t),rfl,rfl⟩
theorem qo6:SlR X qre:=by
  intro pins s σ H x v vl vu lo hi sl Q I rx hs pl pu h
  obtain ⟨z,rfl,hz,q⟩:=h
  obtain ⟨t,rfl⟩:=rx
  obtain ⟨p1,rfl,rfl⟩:=qiF pl
  obtain ⟨p2,rfl,rfl⟩:=qiF pu
  refine ⟨"str",_,F.slot_str_getitem.lookup,typeIs_str _ _ _,?_⟩
  have hs':s.heap.IsSlice sl p1 p2 none:=by
    obtain ⟨o,ho,h1,h2⟩:=hs
    exact ⟨o,ho,h1,h2⟩
  refine wpAny_getItem_str_slice (l:=p1) (u:=p2) (st:=none) hs' rfl (post_val_or_str ⟨?_,fun t' k=>?_⟩)
  · exact Nat.le_trans (Txt.slice_le z _ _) hz
  · refine ⟨.str (qh6 z (p1.map (·.1)) (p2.map (·.1))),H,?_,⟨t',?_⟩,q⟩
    · exact I.tok _
    · rw [← qjg];rfl
def qiw (z:Str) (n:Nat):Str:=⟨((List.replicate n z.cps.toList).flatten).toArray⟩
theorem qkM (z:Str):qiw z 1=z:=by
  unfold qiw
  simp
theorem qg1:∀ (n:Nat) (x acc:Array Nat),(List.replicate n x).foldl (·++·) acc=acc++((List.replicate n x.toList).flatten).toArray
  | 0,x,acc=>by simp
  | n+1,x,acc=>by
    rw [List.replicate_succ,List.foldl_cons,qg1 n x (acc++x),List.replicate_succ,List.flatten_cons]
    apply Array.ext'
    simp
theorem qkm (z:Str) (n:Nat):(qiw z n).length=z.length*n:=by
  unfold qiw Str.length
  simp [Nat.mul_comm]
def qq3:R2:=fun x y H Q=>∃ z k,x=.str z∧y=.int k∧-(2 ^ 62)≤k∧k<2 ^ 62∧z.length*k.toNat≤sizeLine∧z.length≤sizeLine∧Q (.str (qiw z k.toNat)) H
theorem qma:OpR X (binaryOp .Mult) qq3:=by
  intro pins s σ H x y v u Q I rx ry h
  obtain ⟨z,k,rfl,rfl,h1,h2,h3,h4,q⟩:=h
  obtain ⟨t,rfl⟩:=rx
  obtain ⟨t',rfl⟩:=ry
  refine P.mul_str (by rw [decide_eq_false (by omega),decide_eq_false (by omega)];rfl) (fun c1 c2=>?_) (fun c1 c2=>?_) ?_
  · intro hc
    have hk:0<k:=by omega
    have h5:((z.length:Int))*k≤2 ^ 24:=by
      have:((z.length*k.toNat:Nat):Int)≤(sizeLine:Int):=Int.ofNat_le.mpr h3
      rw [Int.natCast_mul,Int.toNat_of_nonneg (by omega)] at this
      exact this
    have h6:(z.length:Int)≤(2 ^ 63 - 1) / k:=(Int.le_ediv_iff_mul_le hk).mpr (Int.le_trans h5 (by decide))
    omega
  · unfold tooLong
    exact decide_eq_false (by omega)
  · by_cases c:k<1
    · rw [if_pos c]
      have e:k.toNat=0:=by omega
      rw [e] at q
      exact ⟨by decide,.str Str.empty,H,I.tok _,⟨_,rfl⟩,q⟩
    · rw [if_neg c]
      by_cases c2:(k == 1 || z.length == 0)=true
      · rw [if_pos c2]
        have e:qiw z k.toNat=z:=by
          rw [Bool.or_eq_true] at c2
          rcases c2 with c2 | c2
          · have:=eq_of_beq c2
            subst this
            exact qkM z
          · have hz:z.cps.toList=[]:=by
              have:=eq_of_beq c2
              unfold Str.length at this
              exact List.length_eq_zero_iff.mp (by rw [Array.length_toList];exact this)
            unfold qiw
            rw [hz]
            have hz2:z.cps=#[]:=by
              apply Array.ext'
              rw [hz]
            apply Str.ext'
            rw [hz2]
            simp
        rw [e] at q
        exact ⟨.str z,H,I,⟨t,rfl⟩,q⟩
      · rw [if_neg c2]
        have e:(⟨(List.replicate k.toNat z.cps).foldl (·++·) #[]⟩:Str)=qiw z k.toNat:=by
          rw [qg1]
          unfold qiw
          simp
        rw [e]
        refine ⟨by rw [qkm];exact h3,.str (qiw z k.toNat),H,I.tok _,⟨_,rfl⟩,q⟩
end
def qqx:R2:=fun x y H Q=>∃ a b xs ys,x=.ref a∧y=.ref b∧H a=some (.tup xs)∧H b=some (.tup ys)∧xs.length+ys.length≤sizeLine∧∀ p H',Same H H'→H' p=some (.tup (xs++ys))→Q (.ref p) H'
theorem ql8 {X:Cx}:OpR X (binaryOp .Add) qqx:=by
  intro pins s σ H x y v u Q I rx ry h
  obtain ⟨a,b,xs,ys,rfl,rfl,ha,hb,hz,q⟩:=h
  by_cases hx:xs=[]
  · subst hx
    cases rx
    cases ry
    obtain ⟨its,r1,p1,_⟩:=I.tuple (SqT.of ha)
    obtain ⟨its2,r2,p2,_⟩:=I.tuple (SqT.of hb)
    exact qnj p1 p2 (r1.nil_iff.mpr rfl) ⟨.ref b,H,I,rfl,q b H (Same.refl H) hb⟩
  · refine qm8 pins s σ H _ _ v u Q I rx ry ⟨a,b,xs,ys,rfl,rfl,SqT.of ha,SqT.of hb,hx,hz,fun e=>?_,fun _ p hp=>q p _ (qaH hp _) qai⟩
    subst e
    exact q a H (Same.refl H) (by rw [List.append_nil];exact ha)
def qpR:R2:=fun x y H Q=>∃ (a:Addr) (k:Int) (xs:List V),x=.ref a∧y=.int k∧H a=some (.tup xs)∧xs≠[]∧0≤k∧k≤1000∧k.toNat*xs.length≤1000∧∀ p H',Same H H'→H' p=some (.tup (List.replicate k.toNat xs).flatten)→Q (.ref p) H'
theorem qmY {X:Cx}:OpR X (binaryOp .Mult) qpR:=by
  intro pins s σ H x y v u Q I rx ry h
  obtain ⟨a,k,xs,rfl,rfl,ha,hx,h0,h1,hz,q⟩:=h
  cases rx
  obtain ⟨t,rfl⟩:=ry
  obtain ⟨its,r,p1,_⟩:=I.tuple (SqT.of ha)
  have hne:its≠[]:=fun z=>hx (r.nil_iff.mp z)
  have hl:=r.length
  have hits:its.toArray.isEmpty=false:=by cases its with | nil=>exact absurd rfl hne | cons _ _=>rfl
  obtain ⟨⟨cls,dd,data,sl⟩,ho,hc,n,hd⟩:=id p1
  simp only at hc hd
  subst hc hd
  refine wpAny_binaryOp_repeat_ref (T:="tuple") (U:="int") (by decide) ⟨_,ho,rfl⟩ (fun s'=>typeIs_int s' k t) qdd F.fills_int_mul F.slot_int_rmul qfe F.slot_int_index.lookup
    (call_meets F.slot_int_rmul (typeIs_int s k t) F.entry_int_rmul (F.args_int_rmul_2 _ _) (qdX k t a its.toArray n dd sl)
      ⟨ho,rfl,⟨_,ho,rfl⟩,?_⟩)
  have hnew:List.foldl (fun x1 x2=>x1++x2) #[] (List.replicate k.toNat its.toArray)=(List.replicate k.toNat its).flatten.toArray:=by
    have:=qes its k.toNat []
    rw [List.nil_append] at this
    exact this
  have hc0:¬ (decide (k < -(2 ^ 63)) || decide (k≥2 ^ 63))=true:=by
    rw [decide_eq_false (by omega),decide_eq_false (by omega)]
    exact Bool.false_ne_true
  by_cases c1:k=1
  · subst c1
    refine call_meets F.slot_tuple_mul ⟨_,ho,rfl⟩ F.entry_tuple_mul (F.args_tuple_mul_2 _ _) (qgx a its.toArray n dd sl t) ⟨ho,?_⟩
    refine ⟨.ref a,H,I,rfl,q a H (Same.refl H) ?_⟩
    show H a=some (.tup (List.replicate 1 xs).flatten)
    rw [List.replicate_one,List.flatten_cons,List.flatten_nil,List.append_nil]
    exact ha
  · have hc1:¬ (its.toArray.isEmpty || k == 1)=true:=by
      rw [hits,beq_eq_false_iff_ne.mpr c1]
      exact Bool.false_ne_true
    have lay:∀ ys:List V,∀ us:List Value,ys.length≤sizeLine→Vals ys us→EP X pins σ Q (.ref s.heap.objs.size) { s with heap:=s.heap.push { cls:=Value.type "tuple",data:=Data.seq us.toArray },toks:=s.toks }∨¬ (∀ p H',Same H H'→H' p=some (.tup ys)→Q (.ref p) H'):=fun ys us hzz rr=>by
      by_cases qq:∀ p H',Same H H'→H' p=some (.tup ys)→Q (.ref p) H'
      · refine .inl ⟨.ref s.heap.objs.size,_,I.laid (t':=s.toks) (o:=.tup ys) (fun b ob z=>Heap.get?_push_of_some _ z) (Nat.le_refl _) ?_,rfl,qq _ _ (qaH (I.hok.fresh (Nat.le_refl _)) _) qai⟩
        exact ⟨hzz,_,rr,IsTupD.new _ _⟩
      · exact .inr qq
    by_cases c0:k=0
    · subst c0
      refine call_meets F.slot_tuple_mul ⟨_,ho,rfl⟩ F.entry_tuple_mul (F.args_tuple_mul_2 _ _) (qg0 a its.toArray n dd sl 0 t hc0 hc1 rfl) ⟨ho,?_⟩
      rcases lay [] [] (Nat.zero_le _) .nil with z | z
      · exact z
      · exact absurd q z
    · have hc2:¬ (decide (k≤0) || its.toArray.isEmpty)=true:=by
        rw [hits,decide_eq_false (by omega)]
        exact Bool.false_ne_true
      have hlen:its.length*k.toNat≤1000:=by rw [← hl,Nat.mul_comm];exact hz
      have hlenI:(its.toArray.size:Int)*k≤1000:=by
        rw [List.size_toArray]
        have e:k=((k.toNat:Nat):Int):=by omega
        rw [e]
        exact_mod_cast hlen
      have hs:(1000:Int)≤((sizeLine:Nat):Int):=by exact_mod_cast small (Nat.le_refl 1000)
      have hflat:(List.replicate k.toNat its).flatten.length≤1000:=by rw [qgP,Nat.mul_comm];exact hlen
      refine call_meets F.slot_tuple_mul ⟨_,ho,rfl⟩ F.entry_tuple_mul (F.args_tuple_mul_2 _ _) (qgW a its.toArray n dd sl k t hc0 hc1 hc2 (by omega) (by unfold Builtin.Tuple.tupleTooMany;rw [decide_eq_false (by omega)];exact Bool.false_ne_true) (by rw [hnew,List.size_toArray];exact small hflat)) ⟨ho,?_⟩
      rw [hnew]
      rcases lay (List.replicate k.toNat xs).flatten (List.replicate k.toNat its).flatten (by rw [qgP];exact small hz) (r.rep k.toNat) with z | z
      · exact z
      · exact absurd q z
end L2
namespace L2
open PySem PySem.Spec PyProof.Rows
section
variable {K : PySem.W.Frag} {X : Cx} {e a b c : Expr} {es : List Expr} {pos : Pos} {t ta tb : TD} {tf : TDL} {tl : TDL} {tt tu : TDB}
def qsL:RD2:=fun x y R=>match x,y with
  | .int i,.int j=>R (.int (i+j))
  | .str i,.str j=>i.length+j.length≤sizeLine∧R (.str (i++j))
  | .lst xs,.lst ys=>xs.length+ys.length≤sizeLine∧NF (xs++ys) fun zs=>R (.lst zs)
  | .tup xs,.tup ys=>xs.length+ys.length≤sizeLine∧NF (xs++ys) fun zs=>R (.tup zs)
  | _,_=>False
theorem qbH:OpD K X (binaryOp .Add) qsL:=⟨fun hK pins s σ H x y v u Q I rx ry hq0=>by
  obtain ⟨Φ,dx,dy,R,sm,hx,hy,h,k⟩:=hq0
  cases dx with
  | int i =>
    cases dy with
    | int j=>cases hx.int;cases hy.int;exact qoR pins s σ H _ _ v u Q I rx ry ⟨i,j,rfl,rfl,k _ Φ H _ h (.refl sm) (.int _)⟩
    | _=>exact h.elim
  | str i =>
    cases dy with
    | str j=>cases hx.str;cases hy.str;exact qia pins s σ H _ _ v u Q I rx ry ⟨i,j,rfl,rfl,h.1,k _ Φ H _ h.2 (.refl sm) (.str _)⟩
    | _=>exact h.elim
  | lst xs =>
    cases dy with
    | lst ys =>
      obtain ⟨a,vs,rfl,h1,h2⟩:=hx.lst sm
      obtain ⟨b,ws,rfl,h3,h4⟩:=hy.lst sm
      exact qpj pins s σ H _ _ v u Q I rx ry ⟨a,b,vs,ws,rfl,rfl,h1,h3,by rw [h2.1,h4.1];exact h.1,fun p hp=>k _ _ _ _ h.2.get (.new sm hp _) (((h2.append h4).same (qaH (sm.free hp) _)).lst qai)⟩
    | _=>exact h.elim
  | tup xs =>
    cases dy with
    | tup ys =>
      obtain ⟨a,vs,rfl,h1,h1',h2⟩:=hx.tup sm
      obtain ⟨b,ws,rfl,h3,h3',h4⟩:=hy.tup sm
      exact ql8 pins s σ H _ _ v u Q I rx ry ⟨a,b,vs,ws,rfl,rfl,sm _ _ h1',sm _ _ h3',by rw [h2.1,h4.1];exact h.1,fun p H' s' q=>by
        obtain ⟨Φ',g,q'⟩:=Gr.adoptT sm s' q
        exact k _ Φ' H' _ h.2.get g (((h2.append h4).same g.f).tup q')⟩
    | _=>exact h.elim
  | _=>exact h.elim⟩
def zI (C:Int→Int→Prop) (g:Int→Int→D):RD2:=fun x y R=>match x,y with | .int i,.int j=>C i j∧R (g i j) | _,_=>False
def zI0 (g:Int→Int→D):RD2:=fun x y R=>match x,y with | .int i,.int j=>R (g i j) | _,_=>False
theorem qm4 {f:Value→Value→Sem Value} {C:Int→Int→Prop} {g:Int→Int→Int} (h:OpR X f (rI C fun i j=>.int (g i j))):OpD K X f (zI C fun i j=>.int (g i j)) :=
  ⟨fun hK pins s σ H x y v u Q I rx ry hq0=>by
    obtain ⟨Φ,dx,dy,R,sm,hx,hy,q,k⟩:=hq0
    cases dx with
    | int i =>
      cases dy with
      | int j=>cases hx.int;cases hy.int;exact h pins s σ H _ _ v u Q I rx ry ⟨i,j,rfl,rfl,q.1,k _ Φ H _ q.2 (.refl sm) (.int _)⟩
      | _=>exact q.elim
    | _=>exact q.elim⟩
theorem qop {f:Value→Value→Sem Value} {g:Int→Int→Int} (h:OpR X f (rI0 fun i j=>.int (g i j))):OpD K X f (zI0 fun i j=>.int (g i j)) :=
  ⟨fun hK pins s σ H x y v u Q I rx ry hq0=>by
    obtain ⟨Φ,dx,dy,R,sm,hx,hy,q,k⟩:=hq0
    cases dx with
    | int i =>
      cases dy with
      | int j=>cases hx.int;cases hy.int;exact h pins s σ H _ _ v u Q I rx ry ⟨i,j,rfl,rfl,k _ Φ H _ q (.refl sm) (.int _)⟩
      | _=>exact q.elim
    | _=>exact q.elim⟩
theorem qiv {f:Value→Value→Sem Value} {g:Int→Int→Bool} (h:OpR X f (rI0 fun i j=>.bl (g i j))):OpD K X f (zI0 fun i j=>.bl (g i j)) :=
  ⟨fun hK pins s σ H x y v u Q I rx ry hq0=>by
    obtain ⟨Φ,dx,dy,R,sm,hx,hy,q,k⟩:=hq0
    cases dx with
    | int i =>
      cases dy with
      | int j=>cases hx.int;cases hy.int;exact h pins s σ H _ _ v u Q I rx ry ⟨i,j,rfl,rfl,k _ Φ H _ q (.refl sm) (.bl _)⟩
      | _=>exact q.elim
    | _=>exact q.elim⟩
theorem qh8:OpD K X (binaryOp .Sub) (zI0 fun i j=>.int (i - j)):=qop qpC
theorem qj1:OpD K X (binaryOp .FloorDiv) (zI CDivB fun i j=>.int (i / j)):=qm4 qkS
theorem qd3:OpD K X (binaryOp .Mod) (zI (fun _ j=>0<j) fun i j=>.int (i % j)):=qm4 qps
theorem qpX:OpD K X (binaryOp .Pow) (zI qrC fun i j=>.int (i ^ j.toNat)):=qm4 qpq
theorem qqr:OpD K X (compareOp .Lt) (zI0 fun i j=>.bl (decide (i<j))):=qiv qpP
theorem qmg:OpD K X (compareOp .Gt) (zI0 fun i j=>.bl (decide (j<i))):=qiv qpM
theorem qsT:OpD K X (compareOp .GtE) (zI0 fun i j=>.bl (decide (j≤i))):=qiv qqu
def qsk:RD2:=fun x y R=>match x,y with
  | .int i,.int j=>IntMulOk i j∧R (.int (i*j))
  | .lst xs,.int k=>(-(2 ^ 63)≤k∧k<2 ^ 63∧xs.length*k.toNat≤sizeLine)∧NF (List.replicate k.toNat xs).flatten fun zs=>R (.lst zs)
  | .tup xs,.int k=>(xs≠[]∧0≤k∧k≤1000∧k.toNat*xs.length≤1000)∧NF (List.replicate k.toNat xs).flatten fun zs=>R (.tup zs)
  | .str z,.int k=>(-(2 ^ 62)≤k∧k<2 ^ 62∧z.length*k.toNat≤sizeLine∧z.length≤sizeLine)∧NF (qiw z k.toNat) fun y=>R (.str y)
  | _,_=>False
theorem qee:OpD K X (binaryOp .Mult) qsk:=⟨fun hK pins s σ H x y v u Q I rx ry hq0=>by
  obtain ⟨Φ,dx,dy,R,sm,hx,hy,h,k⟩:=hq0
  cases dx with
  | int i =>
    cases dy with
    | int j=>cases hx.int;cases hy.int;exact qnt pins s σ H _ _ v u Q I rx ry ⟨i,j,rfl,rfl,h.1,k _ Φ H _ h.2 (.refl sm) (.int _)⟩
    | _=>exact h.elim
  | lst xs =>
    cases dy with
    | int j =>
      obtain ⟨a,vs,rfl,h1,h2⟩:=hx.lst sm
      cases hy.int
      exact qlx pins s σ H _ _ v u Q I rx ry ⟨a,j,vs,rfl,rfl,h1,h.1.1,h.1.2.1,by rw [h2.1];exact h.1.2.2,fun p hp=>k _ _ _ _ h.2.get (.new sm hp _) (((h2.rep _).same (qaH (sm.free hp) _)).lst qai)⟩
    | _=>exact h.elim
  | tup xs =>
    cases dy with
    | int j =>
      obtain ⟨a,vs,rfl,h1,h1',h2⟩:=hx.tup sm
      cases hy.int
      have hne:vs≠[]:=fun e=>h.1.1 (List.length_eq_zero_iff.mp (by rw [← h2.1,e];rfl))
      exact qmY pins s σ H _ _ v u Q I rx ry ⟨a,j,vs,rfl,rfl,sm _ _ h1',hne,h.1.2.1,h.1.2.2.1,by rw [h2.1];exact h.1.2.2.2,fun p H' s' q=>by
        obtain ⟨Φ',g,q'⟩:=Gr.adoptT sm s' q
        exact k _ Φ' H' _ h.2.get g (((h2.rep _).same g.f).tup q')⟩
    | _=>exact h.elim
  | str z =>
    cases dy with
    | int j =>
      cases hx.str
      cases hy.int
      exact qma pins s σ H _ _ v u Q I rx ry ⟨z,j,rfl,rfl,h.1.1,h.1.2.1,h.1.2.2.1,h.1.2.2.2,k _ Φ H _ h.2.get (.refl sm) (.str _)⟩
    | _=>exact h.elim
  | _=>exact h.elim⟩
end
def cmL (f:D→D→Option Bool):List D→List D→Option Bool
  | [],[]=>some true
  | x::xs,y::ys=>(f x y).bind fun b=>(cmL f xs ys).map (b && ·)
  | _,_=>some false
def cmB:Nat→D→D→Option Bool
  | _,.int i,.int j=>some (i == j)
  | _,.bl i,.bl j=>some (i == j)
  | _,.str i,.str j=>some (i == j)
  | _,.non,.non=>some true
  | n+1,.tup xs,.tup ys=>cmL (cmB n) xs ys
  | n+1,.lst xs,.lst ys=>if xs.length=ys.length then cmL (cmB n) xs ys else some false
  | _,_,_=>none
theorem qcS {f:D→D→Option Bool}:∀ {xs ys:List D} {b:Bool},cmL f xs ys=some b→∃ g:Nat→Bool,(∀ (j:Nat) (x y:D),xs[j]?=some x→ys[j]?=some y→f x y=some (g j))∧b=((List.range (min xs.length ys.length)).all g && xs.length == ys.length)
  | [],[],b,h=>by cases h;exact ⟨fun _=>true,fun j x y hx=>by simp at hx,by simp⟩
  | [],_::_,b,h=>by cases h;exact ⟨fun _=>true,fun j x y hx=>by simp at hx,by simp⟩
  | _::_,[],b,h=>by cases h;exact ⟨fun _=>true,fun j x y _ hy=>by simp at hy,by simp⟩
  | x::xs,y::ys,b,h=>by
    unfold cmL at h
    cases e:f x y with
    | none=>rw [e] at h;cases h
    | some c =>
      cases e2:cmL f xs ys with
      | none=>rw [e,e2] at h;cases h
      | some c2 =>
        rw [e,e2] at h
        cases h
        obtain ⟨g,h1,h2⟩:=qcS e2
        refine ⟨fun j=>match j with | 0=>c | j+1=>g j,fun j u v hu hv=>?_,?_⟩
        · cases j with
          | zero=>cases hu;cases hv;exact e
          | succ j=>exact h1 j u v hu hv
        · have em:min (x::xs).length (y::ys).length=min xs.length ys.length+1:=by simp only [List.length_cons];omega
          have el:((x::xs).length == (y::ys).length)=(xs.length == ys.length):=by simp
          rw [em,el,List.range_succ_eq_map,List.all_cons,List.all_map,h2,Bool.and_assoc]
          rfl
section
variable {K : PySem.W.Frag} {X : Cx} {pins : List (Addr × Obj)} {σ : St} {Φ H : Hp} {s : Shared}
theorem qoX {n:Nat} {g:Nat→Bool} (h:∀ j,j<n→g j=true):(List.range n).all g=true:=by
  rw [List.all_eq_true]
  intro j hj
  exact h j (List.mem_range.mp hj)
theorem qao {α:Type} {xs:List α} {j:Nat} (h:j<xs.length):xs[j]?=some xs[j]:=by simp [h]
theorem qiV (hK:X.K=K) (I:Inv X pins σ H s) (sm:Same Φ H):∀ (n:Nat) {d e:D} {b:Bool} {v:V},cmB n d e=some b→Rp K Φ d v→Rp K Φ e v→b=true:=by
  intro n
  induction n with
  | zero =>
    intro d e b v h r1 r2
    cases r1 with
    | int i=>cases r2;have h':some (i == i)=some b:=h;cases h';simp
    | bl i=>cases r2;have h':some (i == i)=some b:=h;cases h';simp
    | str i=>cases r2;have h':some (i == i)=some b:=h;cases h';simp
    | non=>cases r2;cases h;rfl
    | tup _ _ _=>cases r2 <;> cases h
    | lst _ _ _=>cases r2 <;> cases h
    | fzl _ _ _=>cases r2 <;> cases h
    | obj _ _ _ _=>cases r2 <;> cases h
    | map _ _ _=>cases r2 <;> cases h
    | exc0 _ _=>cases r2 <;> cases h
    | exc1 _ _ _ _=>cases r2 <;> cases h
  | succ n ih =>
    intro d e b v h r1 r2
    cases r1 with
    | int i=>cases r2;have h':some (i == i)=some b:=h;cases h';simp
    | bl i=>cases r2;have h':some (i == i)=some b:=h;cases h';simp
    | str i=>cases r2;have h':some (i == i)=some b:=h;cases h';simp
    | non=>cases r2;cases h;rfl
    | @tup a vs xs h1 h2 h3=>cases r2 with
      | @tup _ ws ys k1 k2 k3 =>
        have hvw:vs=ws:=I.tuple_inj (.of (sm _ _ h1)) (.of (sm _ _ k1))
        subst hvw
        obtain ⟨g,hg,hb⟩:=qcS (show cmL (cmB n) xs ys=some b from h)
        rw [hb,qoX fun j hj=>?_]
        · simp;omega
        · have j0:j<vs.length:=by omega
          have j1:j<xs.length:=by omega
          have j2:j<ys.length:=by omega
          exact ih (hg j _ _ (qao j1) (qao j2)) (h3 j _ _ (qao j0) (qao j1)) (k3 j _ _ (qao j0) (qao j2))
      | _=>cases h
    | @lst a vs xs h1 h2 h3=>cases r2 with
      | @lst _ ws ys k1 k2 k3 =>
        have hvw:vs=ws:=by rw [h1] at k1;cases k1;rfl
        subst hvw
        have h':(if xs.length=ys.length then cmL (cmB n) xs ys else some false)=some b:=h
        rw [if_pos (by omega)] at h'
        obtain ⟨g,hg,hb⟩:=qcS h'
        rw [hb,qoX fun j hj=>?_]
        · simp;omega
        · have j0:j<vs.length:=by omega
          have j1:j<xs.length:=by omega
          have j2:j<ys.length:=by omega
          exact ih (hg j _ _ (qao j1) (qao j2)) (h3 j _ _ (qao j0) (qao j1)) (k3 j _ _ (qao j0) (qao j2))
      | _=>cases h
    | fzl _ _ _=>cases r2 <;> cases h
    | obj _ _ _ _=>cases r2 <;> cases h
    | map _ _ _=>cases r2 <;> cases h
    | exc0 _ _=>cases r2 <;> cases h
    | exc1 _ _ _ _=>cases r2 <;> cases h
open PySem.SeqAt in
theorem qjH {n:Nat} {d e:D} {b:Bool} {x y:V} (h:cmB n d e=some b) (rx:Rp K Φ d x) (ry:Rp K Φ e y) (hf:(∀ a,x≠.ref a)) {A:Around} {u v:Value} (ru:RelV x u) (rv:RelV y v):EqAt A s u v b∧RcAt A s u v b∧RcNeAt A s u v (!b):=by
  cases rx with
  | int i=>cases ry with
    | int j =>
      obtain ⟨t,rfl⟩:=ru;obtain ⟨t',rfl⟩:=rv
      have h':some (i == j)=some b:=by cases n <;> exact h
      cases h'
      exact ⟨EqAt.int_int i t j t',RcAt.int_int i t j t',RcNeAt.int_int i t j t'⟩
    | _=>cases n <;> cases h
  | bl i=>cases ry with
    | bl j =>
      cases ru;cases rv
      have h':some (i == j)=some b:=by cases n <;> exact h
      cases h'
      exact ⟨EqAt.bool_bool i j,RcAt.bool_bool i j,RcNeAt.bool_bool i j⟩
    | _=>cases n <;> cases h
  | str i=>cases ry with
    | str j =>
      obtain ⟨t,rfl⟩:=ru;obtain ⟨t',rfl⟩:=rv
      have h':some (i == j)=some b:=by cases n <;> exact h
      cases h'
      exact ⟨EqAt.str_str i t j t',RcAt.str_str i t j t',RcNeAt.str_str i t j t'⟩
    | _=>cases n <;> cases h
  | non=>cases ry with
    | non =>
      cases ru;cases rv
      have h':some true=some b:=by cases n <;> exact h
      cases h'
      exact ⟨EqAt.same _,RcAt.none_none,RcNeAt.none_none⟩
    | _=>cases n <;> cases h
  | tup _ _ _=>exact absurd rfl (hf _)
  | lst _ _ _=>exact absurd rfl (hf _)
  | fzl _ _ _=>exact absurd rfl (hf _)
  | obj _ _ _ _=>exact absurd rfl (hf _)
  | map _ _ _=>exact absurd rfl (hf _)
  | exc0 _ _=>exact absurd rfl (hf _)
  | exc1 _ _ _ _=>exact absurd rfl (hf _)
open PySem.SeqAt in
theorem qjn (hK:X.K=K) (I:Inv X pins σ H s) (sm:Same Φ H):∀ (n:Nat) {d e:D} {b:Bool} {x y:V},cmB n d e=some b→Rp K Φ d x→Rp K Φ e y →
    ∀ (A:Around) (u v:Value),A.units+n<cLine→RelV x u→RelV y v→EqAt A s u v b∧RcAt A s u v b∧RcNeAt A s u v (!b):=by
  intro n
  induction n with
  | zero =>
    intro d e b x y h rx ry A u v hu ru rv
    refine qjH h rx ry (fun a ea=>?_) ru rv
    subst ea
    cases rx <;> cases ry <;> cases h
  | succ n ih =>
    intro d e b x y h rx ry A u v hu ru rv
    by_cases hf:∀ a,x≠.ref a
    · exact qjH h rx ry hf ru rv
    have hu':A.units<cLine:=by omega
    cases rx with
    | int i=>exact absurd (fun a e=>nomatch e) hf
    | bl i=>exact absurd (fun a e=>nomatch e) hf
    | str i=>exact absurd (fun a e=>nomatch e) hf
    | non=>exact absurd (fun a e=>nomatch e) hf
    | @tup a vs xs h1 h2 h3=>cases ry with
      | @tup c ws ys k1 k2 k3 =>
        cases ru;cases rv
        obtain ⟨g,hg,hb⟩:=qcS (show cmL (cmB n) xs ys=some b from h)
        obtain ⟨its,r1,p1,_⟩:=I.sqb (b:=false) (show SqT X.K H a vs from .of (sm _ _ h1))
        obtain ⟨its',r2,p2,_⟩:=I.sqb (b:=false) (show SqT X.K H c ws from .of (sm _ _ k1))
        have l1:=Vals.length r1
        have l2:=Vals.length r2
        have he:∀ j (j1:j<its.toArray.size) (j2:j<its'.toArray.size),EqAt A.in1 s its.toArray[j] its'.toArray[j] (g j):=by
          intro j j1 j2
          simp only [List.size_toArray] at j1 j2
          obtain ⟨x,hx,rx⟩:=Vals.get' r1 j1
          obtain ⟨y,hy,ry⟩:=Vals.get' r2 j2
          have i1:j<xs.length:=by omega
          have i2:j<ys.length:=by omega
          exact (ih (hg j _ _ (qao i1) (qao i2)) (h3 j x _ hx (qao i1)) (k3 j y _ hy (qao i2)) A.in1 _ _ (by show A.units+1+n<cLine;omega) rx ry).1
        have R:=RcAt.tuples (e:=g) p1 p2 hu' he
        have R':=RcNeAt.tuples (e:=g) p1 p2 hu' he
        have et:((List.range (min its.toArray.size its'.toArray.size)).all g && its.toArray.size == its'.toArray.size)=b:=by
          rw [hb]
          simp only [List.size_toArray]
          rw [← l1,← l2,h2,k2]
        rw [et] at R R'
        refine ⟨?_,R,R'⟩
        by_cases hab:a=c
        · subst hab
          rw [qiV hK I sm (n+1) h (.tup h1 h2 h3) (.tup k1 k2 k3)];exact EqAt.same _
        · exact EqAt.of_refs hab R
      | _=>cases h
    | @lst a vs xs h1 h2 h3=>cases ry with
      | @lst c ws ys k1 k2 k3 =>
        cases ru;cases rv
        have h':(if xs.length=ys.length then cmL (cmB n) xs ys else some false)=some b:=h
        obtain ⟨its,r1,p1,_⟩:=I.sqb (b:=true) (show SqL X.K H a vs from SqL.of (sm _ _ h1))
        obtain ⟨its',r2,p2,_⟩:=I.sqb (b:=true) (show SqL X.K H c ws from SqL.of (sm _ _ k1))
        have l1:=Vals.length r1
        have l2:=Vals.length r2
        have fin:RcAt A s (.ref a) (.ref c) b∧RcNeAt A s (.ref a) (.ref c) (!b):=by
          by_cases hl:xs.length=ys.length
          · rw [if_pos hl] at h'
            obtain ⟨g,hg,hb⟩:=qcS h'
            have he:∀ j (j1:j<its.toArray.size) (j2:j<its'.toArray.size),EqAt A.in1 s its.toArray[j] its'.toArray[j] (g j):=by
              intro j j1 j2
              simp only [List.size_toArray] at j1 j2
              obtain ⟨x,hx,rx⟩:=Vals.get' r1 j1
              obtain ⟨y,hy,ry⟩:=Vals.get' r2 j2
              have i1:j<xs.length:=by omega
              have i2:j<ys.length:=by omega
              exact (ih (hg j _ _ (qao i1) (qao i2)) (h3 j x _ hx (qao i1)) (k3 j y _ hy (qao i2)) A.in1 _ _ (by show A.units+1+n<cLine;omega) rx ry).1
            have hsz:its.toArray.size=its'.toArray.size:=by simp;omega
            have R:=RcAt.lists (e:=g) p1 p2 hsz hu' he
            have R':=RcNeAt.lists (e:=g) p1 p2 hsz hu' he
            have et:(List.range its.toArray.size).all g=b:=by
              have e1:min xs.length ys.length=its.length:=by omega
              have e2:(xs.length == ys.length)=true:=by simp [hl]
              rw [hb,e1,e2,Bool.and_true,List.size_toArray]
            rw [et] at R R'
            exact ⟨R,R'⟩
          · rw [if_neg hl] at h'
            cases h'
            have hsz:(its.toArray.size != its'.toArray.size)=true:=by simp;omega
            exact ⟨RcAt.lists_lengths p1 p2 hsz hu',RcNeAt.lists_lengths p1 p2 hsz hu'⟩
        refine ⟨?_,fin.1,fin.2⟩
        by_cases hab:a=c
        · subst hab
          rw [qiV hK I sm (n+1) h (.lst h1 h2 h3) (.lst k1 k2 k3)];exact EqAt.same _
        · exact EqAt.of_refs hab fin.1
      | _=>cases h
    | fzl _ _ _=>cases ry <;> cases h
    | obj _ _ _ _=>cases ry <;> cases h
    | map _ _ _=>cases ry <;> cases h
    | exc0 _ _=>cases ry <;> cases h
    | exc1 _ _ _ _=>cases ry <;> cases h
end
def zEq:RD2:=fun x y R=>match cmB 40 x y with | some b=>R (.bl b) | none=>False
def zNe:RD2:=fun x y R=>match cmB 40 x y with | some b=>R (.bl (!b)) | none=>False
section
variable {K : PySem.W.Frag} {X : Cx}
theorem RpQ.any {Φ H:Hp} {d:D} {v:V} (h:RpQ K Φ H d v) (s:Same Φ H):Rp K H d v:=by
  rcases h with h | ⟨a,vs,ds,e,e2,h1,h2⟩
  · exact h.same s
  · subst e e2;exact (h2.same s).lst h1
theorem qeG (hu:X.A.units+64<cLine):OpD K X (compareOp .Eq) zEq:=⟨fun hK pins s σ H x y u v Q I rx ry hq0=>by
  obtain ⟨Φ,dx,dy,R,sm,hx,hy,h,k⟩:=hq0
  unfold zEq at h
  split at h
  · next b hb=>exact (qjn hK I (Same.refl H) 40 hb (hx.any sm) (hy.any sm) X.A u v (by omega) rx ry).2.1 X.prog X.w _ _ ⟨.bl b,H,I,rfl,k _ Φ H _ h (.refl sm) (.bl b)⟩
  · exact h.elim⟩
theorem qmi (hu:X.A.units+64<cLine):OpD K X (compareOp .NotEq) zNe:=⟨fun hK pins s σ H x y u v Q I rx ry hq0=>by
  obtain ⟨Φ,dx,dy,R,sm,hx,hy,h,k⟩:=hq0
  unfold zNe at h
  split at h
  · next b hb=>exact (qjn hK I (Same.refl H) 40 hb (hx.any sm) (hy.any sm) X.A u v (by omega) rx ry).2.2 X.prog X.w _ _ ⟨.bl (!b),H,I,rfl,k _ Φ H _ h (.refl sm) (.bl _)⟩
  · exact h.elim⟩
def qkZ:D→Bool
  | .non=>true
  | _=>false
def zIs (neg:Bool):RD2:=fun x y R=>match y with | .non=>R (.bl (qkZ x != neg)) | .bl b=>(match x with | .bl a=>R (.bl ((a == b) != neg)) | _=>False) | _=>False
theorem qis {Φ H:Hp} {d:D} {v:V} (h:RpQ K Φ H d v):decide (v=V.non)=qkZ d:=by
  cases d with
  | int i=>rw [h.int];rfl
  | bl i=>rw [h.bl];rfl
  | str i=>rw [h.str];rfl
  | non=>rw [h.non];rfl
  | tup ds => rcases h with h | ⟨a, vs, ds, e, _⟩
              · cases h;rfl
              · cases e
  | lst ds => rcases h with h | ⟨a, vs, ds, e, e2, _⟩
              · cases h;rfl
              · rw [e2];rfl
  | fzl ds => rcases h with h | ⟨a, vs, ds, e, _⟩
              · cases h;rfl
              · cases e
  | obj C fs => rcases h with h | ⟨a, vs, ds, e, _⟩
                · cases h;rfl
                · cases e
  | map kvs => rcases h with h | ⟨a, vs, ds, e, _⟩
               · cases h;rfl
               · cases e
  | exc _ _ => rcases h with h | ⟨a, vs, ds, e, _⟩
               · cases h <;> rfl
               · cases e
theorem qj8:OpD K X (compareOp .Is) (zIs false):=⟨fun hK pins s σ H x y u v Q I rx ry hq0=>by
  obtain ⟨Φ,dx,dy,R,sm,hx,hy,h,k⟩:=hq0
  cases dy with
  | non =>
    cases hy.non
    refine qpc pins s σ H _ _ u v Q I rx ry ⟨rfl,?_⟩
    rw [qis hx]
    have h':R (.bl (qkZ dx != false)):=h
    rw [Bool.bne_false] at h'
    exact k _ Φ H _ h' (.refl sm) (.bl _)
  | bl b =>
    cases hy.bl
    cases dx with
    | bl a =>
      cases hx.bl
      have h':R (.bl ((a == b) != false)):=h
      rw [Bool.bne_false] at h'
      exact qoA pins s σ H _ _ u v Q I rx ry ⟨a,b,rfl,rfl,k _ Φ H _ h' (.refl sm) (.bl _)⟩
    | _=>exact h.elim
  | _=>exact h.elim⟩
theorem qng:OpD K X (compareOp .IsNot) (zIs true):=⟨fun hK pins s σ H x y u v Q I rx ry hq0=>by
  obtain ⟨Φ,dx,dy,R,sm,hx,hy,h,k⟩:=hq0
  cases dy with
  | non =>
    cases hy.non
    refine qm3 pins s σ H _ _ u v Q I rx ry ⟨rfl,?_⟩
    rw [qis hx]
    have h':R (.bl (qkZ dx != true)):=h
    rw [Bool.bne_true] at h'
    exact k _ Φ H _ h' (.refl sm) (.bl _)
  | bl b =>
    cases hy.bl
    cases dx with
    | bl a =>
      cases hx.bl
      have h':R (.bl ((a == b) != true)):=h
      rw [Bool.bne_true] at h'
      exact qns pins s σ H _ _ u v Q I rx ry ⟨a,b,rfl,rfl,k _ Φ H _ h' (.refl sm) (.bl _)⟩
    | _=>exact h.elim
  | _=>exact h.elim⟩
end
end L2
namespace HT
open PySem PySem.Spec PyProof.Rows
theorem getItem_tuple_all {prog:Program} {w:World} {A:Around} {E:Value→Shared→Prop} {s:Shared} {t sl:Addr} {items:Array Value} {vl vu:Value} {lo hi:Option Int} {Q:Value→Shared→Prop} (ht:IsTup s.heap t items) (hs:s.heap.IsSliceOf sl vl vu .none) (pl:IsPart vl lo) (pu:IsPart vu hi)
    (hw:sIx items.size 0 lo=0∧sIx items.size items.size hi=items.size) (h:Q (.ref t) s):wpAny (model prog w) A (getItem (.ref t) (.ref sl)) Q E s:=by
  obtain ⟨os,hos,hcs,hds⟩:=id hs
  have hTs:s.TypeIs (.ref sl) "slice":=⟨os,hos,hcs⟩
  unfold getItem
  try with_reducible refine wpAny_holding ?_
  first | refine wpAny_bind (wpAny_pure ?_) | skip
  refine wpAny_bind (wpAny_sequenceKey ht.typeIs (by decide) ?_)
  refine wpAny_bind (wpAny_callSpecial?_slot (name:=Str.ofString "__getitem__") ht.typeIs PyProof.Rows.slot_tuple_getitem
    (wpAny_call_entry PyProof.Rows.slot_tuple_getitem ht.typeIs entry_tuple_getitem ?_ (args_tuple_getitem _ _)))
  show wpAny _ _ (Builtin.Tuple.tupleItemsOf (.ref t) >>= _) _ _ s
  refine wpAny_bind (tupleItemsOf_ ht ?_)
  refine wpAny_bind (wpAny_typeOf hTs ?_)
  rw [if_pos (by decide)]
  refine wpAny_bind (qcg hs pl pu ?_)
  have hyes:(((sIx items.size 0 lo:Nat):Int) == 0 && (1:Int) == 1 && (sIx items.size items.size hi - sIx items.size 0 lo) == items.size)=true:=by
    rw [hw.1,hw.2]
    simp
  show wpAny _ _ (if (((sIx items.size 0 lo:Nat):Int) == 0 && (1:Int) == 1 && (sIx items.size items.size hi - sIx items.size 0 lo) == items.size)=true then _ else _) _ _ s
  rw [if_pos hyes]
  refine wpAny_bind (show wpAny _ _ (typeOf (.ref t) >>= fun c=>pure (c == .type "tuple")) _ _ s from wpAny_bind (wpAny_typeOf ht.typeIs (wpAny_pure ?_)))
  rw [if_pos (by decide)]
  exact wpAny_bind (wpAny_rule (wpAny_pure ⟨_,rfl,wpAny_pure h⟩))
end HT
namespace L2
open PySem PySem.Spec PyProof.Rows
section
variable {K : PySem.W.Frag} {X : Cx} {e a b c : Expr} {es : List Expr} {pos p2 : Pos} {t ta tb : TD} {tf : TDL} {tl : TDL} {tt tu : TDB}
def zIx:RD2:=fun x y R=>match y with
  | .int i=>(match x with
    | .lst ds=>∃ d,atI ds i=some d∧R d
    | .tup ds=>∃ d,atI ds i=some d∧R d
    | .fzl ds=>∃ d,atI ds i=some d∧R d
    | .str z=>z.length≤sizeLine∧∃ c,atI z.cps.toList i=some c∧R (.str ⟨#[c]⟩)
    | _=>False)
  | _=>False
theorem qmo {Φ:Hp} {ds:List D} {vs:List V} {d:D} {i:Int} (h:RpL K Φ ds vs) (e:atI ds i=some d):∃ v,atI vs i=some v∧Rp K Φ d v:=by
  unfold atI at e ⊢
  rw [h.1]
  cases hj:ixN ds.length i with
  | none=>rw [hj] at e;cases e
  | some j =>
    rw [hj,Option.bind_some] at e
    rw [Option.bind_some]
    exact h.at e
theorem qrF (hK:X.K=K):IxR X (lR2 K zIx):=by
  intro value slice pins s σ H x y v u Q I rx ry ⟨Φ,dx,dy,R,sm,hx,hy,h,k⟩ hs
  cases dy with
  | int i =>
    cases hy.int
    cases dx with
    | lst ds =>
      obtain ⟨d,h1,h2⟩:=h
      obtain ⟨a,vs,rfl,q1,q2⟩:=hx.lst sm
      obtain ⟨w,hw,rw'⟩:=qmo q2 h1
      exact qiq value slice pins s σ H _ _ v u Q I rx ry ⟨a,vs,i,w,rfl,rfl,.of q1,hw,k _ Φ H _ h2 (.refl sm) rw'⟩ hs
    | tup ds =>
      obtain ⟨d,h1,h2⟩:=h
      obtain ⟨a,vs,rfl,q1,_,q2⟩:=hx.tup sm
      obtain ⟨w,hw,rw'⟩:=qmo q2 h1
      exact qnV value slice pins s σ H _ _ v u Q I rx ry ⟨a,vs,i,w,rfl,rfl,hK ▸ q1,hw,k _ Φ H _ h2 (.refl sm) rw'⟩ hs
    | fzl ds =>
      obtain ⟨d,h1,h2⟩:=h
      obtain ⟨a,vs,rfl,q1,q2⟩:=hx.fzl sm
      obtain ⟨w,hw,rw'⟩:=qmo q2 h1
      exact qiq value slice pins s σ H _ _ v u Q I rx ry ⟨a,vs,i,w,rfl,rfl,hK ▸ q1,hw,k _ Φ H _ h2 (.refl sm) rw'⟩ hs
    | str z =>
      obtain ⟨h0,c,h1,h2⟩:=h
      cases hx.str
      exact qoD value slice pins s σ H _ _ v u Q I rx ry ⟨z,i,c,rfl,rfl,h0,h1,k _ Φ H _ h2 (.refl sm) (.str _)⟩ hs
    | _=>exact h.elim
  | _=>exact h.elim
theorem qbF (ha:PQ K X a ta) (hb:PQ K X b tb) (hs:qgV b):PD K X (.Subscript a b pos) (dOp zIx ta tb) :=
  ⟨fun hK=>(qom (qrF hK) (ha.pe hK) (hb.pe hK) hs).imp fun _ _ _=>qe2⟩
abbrev TOD:=Rho→(Option Int→Prop)→Prop
def lO (K:PySem.W.Frag) (t:TOD):TO:=fun σ H Q=>∃ H0 Φ ρ R,EnvD K H0 Φ H σ ρ∧t ρ R∧∀ o Φ' H',R o→Gr Φ H Φ' H'→Q o H'
structure POD (K:PySem.W.Frag) (X:Cx) (e:Option Expr) (t:TOD):Prop where po:X.K=K→PO X e (lO K t)
def qpZ:TOD:=fun _ R=>R none
def qpL (t:TD):TOD:=fun ρ R=>t ρ fun d=>match d with | .int i=>R (some i) | _=>False
theorem PO.imp {o:Option Expr} {t t':TO} (h:PO X o t) (k:∀ σ H Q,t' σ H Q→t σ H Q):PO X o t':=fun pins s σ H Q I hw=>h pins s σ H Q I (k σ H Q hw)
theorem qer:POD K X none qpZ:=⟨fun _=>po_none.imp fun σ H Q hq0=>by obtain ⟨H0,Φ,ρ,R,E,t,k⟩:=hq0;exact k none Φ H t (.refl E.fz)⟩
theorem qc7 (h:PQ K X e t):POD K X (some e) (qpL t):=⟨fun hK=>(qnv (h.pe hK)).imp fun σ H Q hq0=>by obtain ⟨H0,Φ,ρ,R,E,t,k⟩:=hq0;exact ⟨H0,Φ,ρ,_,E,t,fun d Φ1 H1 v r g rv=>by
  cases d with
  | int i=>exact ⟨i,rv.int,k _ Φ1 H1 r g⟩
  | _=>exact r.elim⟩⟩
variable {lo hi : Option Expr} {to tp : TOD}
def qry (K:PySem.W.Frag):V→Option Int→Option Int→Hp→VK→Prop:=fun x lo hi H Q=>∃ a xs,x=.ref a∧SqT K H a xs∧(HT.sIx xs.length 0 lo=0∧HT.sIx xs.length xs.length hi=xs.length)∧Q (.ref a) H
theorem sl_all:SlR X (qry X.K):=by
  intro pins s σ H x v vl vu lo hi sl Q I rx hs pl pu h
  obtain ⟨a,xs,rfl,hx,hw,q⟩:=h
  cases rx
  obtain ⟨its,r,ht,hz⟩:=I.tuple hx
  have hlen:its.toArray.size=xs.length:=by rw [List.size_toArray];exact r.length.symm
  refine ⟨"tuple",_,PyProof.Rows.slot_tuple_getitem.lookup,ht.typeIs,?_⟩
  exact HT.getItem_tuple_all ht hs pl pu (by rw [hlen];exact hw) ⟨.ref a,H,I,rfl,q⟩
theorem qmM {α:Type} {xs:List α} {l h:Option Int} (hw:HT.sIx xs.length 0 l=0∧HT.sIx xs.length xs.length h=xs.length):qcG xs l h=xs:=by
  unfold qcG
  rw [hw.1,hw.2,List.drop_zero,Nat.sub_zero,List.take_length]
def zSl (x:D) (l h:Option Int) (R:D→Prop):Prop:=match x with
  | .lst ds=>NF (qcG ds l h) fun zs=>R (.lst zs)
  | .fzl ds=>NF (qcG ds l h) fun zs=>R (.lst zs)
  | .tup ds=>NF (qcG ds l h) fun zs=>R (.tup zs)
  | .str z=>z.length≤sizeLine∧NF (qh6 z l h) fun y=>R (.str y)
  | _=>False
def dSl (t:TD) (to tp:TOD):TD:=fun ρ R=>t ρ fun x=>to ρ fun l=>tp ρ fun h=>zSl x l h R
theorem qlT (ha:PQ K X a ta) (hl:POD K X lo to) (hh:POD K X hi tp):PD K X (.Subscript a (.Slice lo hi none p2) pos) (dSl ta to tp) :=
  ⟨fun hK=>(qkc (hK ▸ sl_list.or (sl_tup.or (sl_all.or qo6)):SlR X (fun x lo hi H Q=>qrN K x lo hi H Q∨qrw K x lo hi H Q∨qry K x lo hi H Q∨qre x lo hi H Q)) (ha.pe hK) (hl.po hK) (hh.po hK)).imp fun σ H Q hq0=>by obtain ⟨H0,Φ,ρ,R,E,t,k⟩:=hq0;exact
    ⟨H0,Φ,ρ,_,E,t,fun dx Φ1 H1 x t1 g1 rx=>⟨H0,Φ1,ρ,_,E.gr g1,t1,fun l Φ2 H2 t2 g2=>⟨H0,Φ2,ρ,_,(E.gr g1).gr g2,t2,fun h Φ3 H3 t3 g3=>by
      have g:=(g1.trans g2).trans g3
      have rx3:=rx.gr (g2.trans g3)
      cases dx with
      | lst ds =>
        obtain ⟨a,vs,rfl,q1,q2⟩:=rx3.lst g.s
        exact .inl ⟨a,vs,rfl,.of q1,fun p hp=>k _ _ _ _ t3.get (g.trans (.new g.s hp _)) (((q2.cut l h).same (qaH (g.s.free hp) _)).lst qai)⟩
      | fzl ds =>
        obtain ⟨a,vs,rfl,q1,q2⟩:=rx3.fzl g.s
        exact .inl ⟨a,vs,rfl,q1,fun p hp=>k _ _ _ _ t3.get (g.trans (.new g.s hp _)) (((q2.cut l h).same (qaH (g.s.free hp) _)).lst qai)⟩
      | tup ds =>
        obtain ⟨a,vs,rfl,q1,q0,q2⟩:=rx3.tup g.s
        by_cases hw:HT.sIx vs.length 0 l=0∧HT.sIx vs.length vs.length h=vs.length
        · refine .inr (.inr (.inl ⟨a,vs,rfl,q1,hw,?_⟩))
          have e:qcG ds l h=ds:=qmM (by rw [← q2.1];exact hw)
          have t4:=t3.get
          rw [e] at t4
          exact k _ _ _ _ t4 g (q2.tup q0)
        · exact .inr (.inl ⟨a,vs,rfl,q1,hw,fun p hp=>k _ _ _ _ t3.get (g.trans (.new g.s hp _)) (((q2.cut l h).same (qaH (g.s.free hp) _)).tup qai)⟩)
      | str z =>
        cases rx3.str
        exact .inr (.inr (.inr ⟨z,rfl,t3.1,k _ _ _ _ t3.2.get g (.str _)⟩))
      | _=>exact t3.elim⟩⟩⟩⟩
def qrZ (ta tb:TD):TDL:=fun ρ R=>ta ρ fun x=>tb ρ fun y=>match x,y with | .lst xs,.int k=>(-(2 ^ 63)≤k∧k<2 ^ 63∧xs.length*k.toNat≤sizeLine)∧NF (List.replicate k.toNat xs).flatten R | _,_=>False
theorem qn3 (ha:PQ K X a ta) (hb:PQ K X b tb):PF K X (.BinOp a .Mult b pos) (qrZ ta tb) :=
  ⟨fun hK=>(qnb qlx (ha.pe hK) (hb.pe hK)).imp fun σ H Q hq0=>by obtain ⟨H0,Φ,ρ,R,E,t,k⟩:=hq0;exact ⟨H0,Φ,ρ,_,E,t,fun dx Φ1 H1 x t1 g1 rx=>⟨H0,Φ1,ρ,_,E.gr g1,t1,fun dy Φ2 H2 y t2 g2 ry=>by
    have g:=g1.trans g2
    have rx2:=rx.gr g2
    cases dx with
    | lst xs=>cases dy with
      | int j =>
        obtain ⟨a,vs,rfl,h1,h2⟩:=rx2.lst g.s
        cases ry.int
        exact ⟨a,j,vs,rfl,rfl,h1,t2.1.1,t2.1.2.1,by rw [h2.1];exact t2.1.2.2,fun p hp=>k _ _ _ p _ t2.2.get (g.trans (.fresh g.s hp _)) (g.h.free hp) (g.s.free hp) qai (h2.rep _)⟩
      | _=>exact t2.elim
    | _=>exact t2.elim⟩⟩⟩
abbrev SpD:=List D→(D→Prop)→Prop
def lSp (K:PySem.W.Frag) (sp:SpD):Sp:=fun vs H Q _=>∃ Φ ds R,Same Φ H∧TabF K Φ∧RpL K Φ ds vs∧sp ds R∧∀ d Φ' H' v,R d→Gr Φ H Φ' H'→Rp K Φ' d v→Q v H'
def qkF (sp:SpD) (t:TDL):TD:=fun ρ R=>t ρ fun ds=>sp ds R
variable {CX : CXT} {k : Nat} {f : Addr} {fd : FuncData} {ps : List Str} {sp : SpD} {x : Str} {p : Pos} {E : XK}
theorem qo8 (F:FnOk X.prog X.w X.K X.mg X.base CX k f fd ps (lSp K sp)) (hr:Room k X.A) (hg:Gl X x) (hm:X.mg x=some (.ref f)) (hk:PySem.W.keepIn X.K (.ref f)=true) (hb:Binds X.K fd ps []) (hx:qdV CX X E)
    (ha:PAD K X (e::es) tl) (he:starEach (e::es) X.env=(false,eval e X.env)::starEach es X.env) (hpl:(backTo pos (starEach es X.env)).any (·.1)=false) (hdb:(x == ("__debug__":Str))=false:=by decide) :
    PD K X (.Call (.Name x p) (e::es) [] pos) (qkF sp tl) :=
  ⟨fun hK=>(qiP F hr hg hm hk hb .nil hx (ha.pa hK) hdb he hpl).imp fun σ H Q hq0=>by obtain ⟨H0,Φ,ρ,R,E,t,k⟩:=hq0;exact ⟨H0,Φ,ρ,_,E,t,fun ds Φ1 H1 vs r g rl _=>⟨Φ1,ds,R,g.s,E.tb.same g.f,by rw [List.append_nil];exact rl,r,fun d Φ' H' v rd g' rv=>k d Φ' H' v rd (g.trans g') rv⟩⟩⟩
def qrb (K:PySem.W.Frag) (Φ H:Hp) (ds:List D) (vs:List V):Prop:=vs.length=ds.length∧∀ (i:Nat) (v:V) (d:D),vs[i]?=some v→ds[i]?=some d→RpQ K Φ H d v
def lAQ (K:PySem.W.Frag) (t:TDL):TA:=fun σ H Q=>∃ H0 Φ ρ R,EnvD K H0 Φ H σ ρ∧t ρ R∧∀ ds Φ' H' vs,R ds→Gr Φ H Φ' H'→qrb K Φ' H' ds vs→Q vs H'
structure PAQ (K:PySem.W.Frag) (X:Cx) (es:List Expr) (t:TDL):Prop where pa:X.K=K→PA X es (lAQ K t)
theorem qaG:PAQ K X [] qpY:=⟨fun _=>pa_nil.imp fun σ H Q hq0=>by obtain ⟨H0,Φ,ρ,R,E,t,k⟩:=hq0;exact k [] Φ H [] t (.refl E.fz) ⟨rfl,fun i v d hv _=>by simp at hv⟩⟩
theorem qaw (ha:PQ K X e t) (hr:PAQ K X es tl) (hs:starEach (e::es) X.env=(false,eval e X.env)::starEach es X.env):PAQ K X (e::es) (qmj t tl) :=
  ⟨fun hK=>(qa8 (ha.pe hK) (hr.pa hK) hs).imp fun σ H Q hq0=>by obtain ⟨H0,Φ,ρ,R,E,t,k⟩:=hq0;exact ⟨H0,Φ,ρ,_,E,t,fun d Φ1 H1 v r g rv=>⟨H0,Φ1,ρ,_,E.gr g,r,fun ds Φ2 H2 vs r2 g2 rl =>
    k _ Φ2 H2 _ r2 (g.trans g2) ⟨by simp [rl.1],fun i u d hu hd=>by
      cases i with
      | zero=>cases hu;cases hd;exact rv.gr g2
      | succ i=>exact rl.2 i u d hu hd⟩⟩⟩⟩
def lC (K:PySem.W.Frag) (r:SpD):List V→Hp→VK→Prop:=fun vs H Q=>∃ Φ ds R,Same Φ H∧qrb K Φ H ds vs∧r ds R∧∀ d Φ' H' v,R d→Gr Φ H Φ' H'→Rp K Φ' d v→Q v H'
structure CallD (K:PySem.W.Frag) (X:Cx) (f:Value) (r:SpD):Prop where c:X.K=K→qez X f (lC K r)
theorem qaN {id:String} {r:SpD} (hc:CallD K X (.builtin id) r) (hg:Gl X x) (hm:X.mg x=none) (hv:bootBuiltins x=some (.builtin id)) (ha:PAQ K X (e::es) tl)
    (he:starEach (e::es) X.env=(false,eval e X.env)::starEach es X.env) (hpl:(backTo pos (starEach es X.env)).any (·.1)=false) (hn:x≠"__name__":=by decide) (hdb:(x == ("__debug__":Str))=false:=by decide):PD K X (.Call (.Name x p) (e::es) [] pos) (qkF r tl) :=
  ⟨fun hK=>(qe0 (hc.c hK) hg hm hv (ha.pa hK) hn hdb he hpl).imp fun σ H Q hq0=>by obtain ⟨H0,Φ,ρ,R,E,t,k⟩:=hq0;exact ⟨H0,Φ,ρ,_,E,t,fun ds Φ1 H1 vs r g rl=>⟨Φ1,ds,R,g.s,rl,r,fun d Φ' H' v rd g' rv=>k d Φ' H' v rd (g.trans g') rv⟩⟩⟩
theorem qaW {T:String} {r:SpD} (hc:CallD K X (.type T) r) (hg:Gl X x) (hm:X.mg x=none) (hv:bootBuiltins x=some (.type T)) (ha:PAQ K X (e::es) tl)
    (he:starEach (e::es) X.env=(false,eval e X.env)::starEach es X.env) (hpl:(backTo pos (starEach es X.env)).any (·.1)=false) (hn:x≠"__name__":=by decide) (hdb:(x == ("__debug__":Str))=false:=by decide):PD K X (.Call (.Name x p) (e::es) [] pos) (qkF r tl) :=
  ⟨fun hK=>(qj4 (hc.c hK) hg hm hv (ha.pa hK) hn hdb he hpl).imp fun σ H Q hq0=>by obtain ⟨H0,Φ,ρ,R,E,t,k⟩:=hq0;exact ⟨H0,Φ,ρ,_,E,t,fun ds Φ1 H1 vs r g rl=>⟨Φ1,ds,R,g.s,rl,r,fun d Φ' H' v rd g' rv=>k d Φ' H' v rd (g.trans g') rv⟩⟩⟩
theorem qcP {Φ H:Hp} {d:D} {vs:List V} (h:qrb K Φ H [d] vs):∃ v,vs=[v]∧RpQ K Φ H d v:=by
  obtain ⟨h1,h2⟩:=h
  match vs,h1,h2 with
  | [v],_,h2=>exact ⟨v,rfl,h2 0 v d rfl rfl⟩
def qsw:SpD:=fun ds R=>match ds with | [.lst xs]=>R (.int xs.length) | [.tup xs]=>R (.int xs.length) | [.fzl xs]=>R (.int xs.length) | [.str z]=>z.length≤sizeLine∧R (.int z.length) | _=>False
theorem qb7:CallD K X (.builtin "len") qsw:=⟨fun hK pins s σ H xs us Q I rr hq0=>by
  obtain ⟨Φ,ds,R,sm,hl,h,k⟩:=hq0
  match ds,h with
  | [.lst xs],h =>
    obtain ⟨v,rfl,r⟩:=qcP hl
    obtain ⟨a,vs,rfl,q1,q2⟩:=r.lst sm
    exact qcv pins s σ H _ us Q I rr ⟨a,vs,rfl,.inl (.of q1),by rw [q2.1];exact k _ Φ H _ h (.refl sm) (.int _)⟩
  | [.tup xs],h =>
    obtain ⟨v,rfl,r⟩:=qcP hl
    obtain ⟨a,vs,rfl,q1,_,q2⟩:=r.tup sm
    exact qcv pins s σ H _ us Q I rr ⟨a,vs,rfl,.inr (hK ▸ q1),by rw [q2.1];exact k _ Φ H _ h (.refl sm) (.int _)⟩
  | [.fzl xs],h =>
    obtain ⟨v,rfl,r⟩:=qcP hl
    obtain ⟨a,vs,rfl,q1,q2⟩:=r.fzl sm
    exact qcv pins s σ H _ us Q I rr ⟨a,vs,rfl,.inl (hK ▸ q1),by rw [q2.1];exact k _ Φ H _ h (.refl sm) (.int _)⟩
  | [.str z],h =>
    obtain ⟨v,rfl,r⟩:=qcP hl
    cases r.str
    exact qgf pins s σ H _ us Q I rr ⟨z,rfl,h.1,k _ Φ H _ h.2 (.refl sm) (.int _)⟩⟩
theorem qky {Φ:Hp} {bs:List Bool} {vs:List V} (h:RpL K Φ (bs.map D.bl) vs):vs=bs.map V.bl:=by
  refine List.ext_getElem? fun i=>?_
  rw [List.getElem?_map]
  cases e:bs[i]? with
  | none =>
    have:=List.getElem?_eq_none_iff.mp e
    rw [List.getElem?_eq_none (by rw [h.1,List.length_map];exact this)]
    rfl
  | some n =>
    obtain ⟨v,hv,r⟩:=h.at (i:=i) (d:=.bl n) (by rw [List.getElem?_map,e];rfl)
    cases r
    rw [hv]
    rfl
theorem RpQ.sqb {Φ H:Hp} {d:D} {v:V} {ds:List D} (s:Same Φ H) (h:RpQ K Φ H d v) (e:qk3 d=some ds):∃ (q:Bool) (a:Addr) (vs:List V),v=.ref a∧SqB K q H a vs∧RpL K Φ ds vs:=by
  obtain ⟨a,vs,e1,h1,h2⟩:=h.seq s e
  rcases h1 with h1 | h1
  · exact ⟨true,a,vs,e1,h1,h2⟩
  · exact ⟨false,a,vs,e1,h1,h2⟩
def qsI (f:List Bool→Bool):SpD:=fun ds R=>match ds with | [d]=>∃ bs:List Bool,qk3 d=some (bs.map D.bl)∧R (.bl (f bs)) | _=>False
theorem qnp (hc:X.calm=true):CallD K X (.builtin "all") (qsI fun bs=>bs.all id):=⟨fun hK pins s σ H xs us Q I rr hq0=>by
  obtain ⟨Φ,ds,R,sm,hl,h,k⟩:=hq0
  match ds,h with
  | [d],⟨ns,e,h⟩ =>
    obtain ⟨v,rfl,r⟩:=qcP hl
    obtain ⟨q,a,vs,rfl,q1,q2⟩:=r.sqb sm e
    rw [qky q2] at q1
    exact qkV q hc pins s σ H _ us Q I rr ⟨a,ns,rfl,hK ▸ q1,k _ Φ H _ h (.refl sm) (.bl _)⟩⟩
def qpi:SpD:=fun ds R=>match ds with | [.lst xs]=>R (.tup xs) | [.tup xs]=>R (.tup xs) | [.fzl xs]=>R (.tup xs) | _=>False
theorem qbJ:CallD K X (.type "tuple") qpi:=⟨fun hK pins s σ H xs us Q I rr hq0=>by
  obtain ⟨Φ,ds,R,sm,hl,h,k⟩:=hq0
  match ds,h with
  | [.lst xs],h =>
    obtain ⟨v,rfl,r⟩:=qcP hl
    obtain ⟨a,vs,rfl,q1,q2⟩:=r.lst sm
    exact qcc pins s σ H _ us Q I rr ⟨a,vs,rfl,.inl ⟨.of q1,fun p hp=>k _ _ _ _ h (.new sm hp _) ((q2.same (qaH (sm.free hp) _)).tup qai)⟩⟩
  | [.fzl xs],h =>
    obtain ⟨v,rfl,r⟩:=qcP hl
    obtain ⟨a,vs,rfl,q1,q2⟩:=r.fzl sm
    exact qcc pins s σ H _ us Q I rr ⟨a,vs,rfl,.inl ⟨hK ▸ q1,fun p hp=>k _ _ _ _ h (.new sm hp _) ((q2.same (qaH (sm.free hp) _)).tup qai)⟩⟩
  | [.tup xs],h =>
    obtain ⟨v,rfl,r⟩:=qcP hl
    obtain ⟨a,vs,rfl,q1,q3,q2⟩:=r.tup sm
    exact qcc pins s σ H _ us Q I rr ⟨a,vs,rfl,.inr ⟨hK ▸ q1,k _ Φ H _ h (.refl sm) (q2.tup q3)⟩⟩⟩
def qq1 (d:D) (T:String):Option Bool:=match d with
  | .int _=>if T="int" then some true else if T="bool" then some false else if T="tuple" then some false else if T="str" then some false else none
  | .bl _=>if T="int" then some true else if T="bool" then some true else if T="tuple" then some false else none
  | .str _=>if T="str" then some true else if T="tuple" then some false else none
  | .tup _=>if T="tuple" then some true else if T="int" then some false else none
  | .lst _=>if T="tuple" then some false else if T="list" then some true else none
  | _=>none
end
structure SteadyD (K:PySem.W.Frag) (J:It) (Φ:Hp) (ds:List D):Prop where
  go:∀ i H,Same Φ H→i<ds.length→J.go i H
  yl:∀ i Φ2 H x H2 d,Same Φ Φ2→Same Φ2 H→ds[i]?=some d→J.yld i H x H2→∃ Φ3,Gr Φ2 H Φ3 H2∧Rp K Φ3 d x
  stop:∀ H,Same Φ H→J.stop ds.length H
section
variable {K : PySem.W.Frag} {Φ : Hp} {ds es : List D} {vs ws : List V} {a : Addr}
theorem qf3 (h:SqL K Φ a vs) (r:RpL K Φ ds vs):SteadyD K (Itl K a) Φ ds :=
  ⟨fun i H s hi=>⟨vs,vs[i]'(by rw [r.1];exact hi),s.seq h,qao _⟩,fun i Φ2 H x H2 d s2 s hd y=>by
    obtain ⟨e,y⟩:=y
    subst e
    exact ⟨Φ2,.refl s,(r.2 i x d (y vs ((s2.trans s).seq h)) hd).same s2⟩,fun H s=>⟨vs,s.seq h,by rw [r.1];exact Nat.le_refl _⟩⟩
theorem qgn (h:SqT K Φ a vs) (r:RpL K Φ ds vs):SteadyD K (Itt K a) Φ ds :=
  ⟨fun i H s hi=>⟨vs,vs[i]'(by rw [r.1];exact hi),s.sqt h,qao _⟩,fun i Φ2 H x H2 d s2 s hd y=>by
    obtain ⟨e,y⟩:=y
    subst e
    exact ⟨Φ2,.refl s,(r.2 i x d (y vs ((s2.trans s).sqt h)) hd).same s2⟩,fun H s=>⟨vs,s.sqt h,by rw [r.1];exact Nat.le_refl _⟩⟩
def qd7 (lo:Int) (n:Nat):List D:=(List.range n).map fun i=>D.int (lo+(i:Nat))
theorem qa2 (lo:Int) (n:Nat):(qd7 lo n).length=n:=by unfold qd7;simp
theorem qbZ {lo:Int} {n i:Nat} {d:D} (h:(qd7 lo n)[i]?=some d):i<n∧d=.int (lo+(i:Nat)):=by
  have hi:i<n:=by have:=qag h;rwa [qa2] at this
  unfold qd7 at h
  rw [List.getElem?_map,List.getElem?_range hi] at h
  cases h
  exact ⟨hi,rfl⟩
theorem qc9 {lo:Int} {n:Nat}:SteadyD K (Itr lo n) Φ (qd7 lo n) :=
  ⟨fun i H s hi=>by rw [qa2] at hi;exact hi,fun i Φ2 H x H2 d s2 s hd y=>by
    obtain ⟨e,y⟩:=y
    subst e y
    rw [(qbZ hd).2]
    exact ⟨Φ2,.refl s,.int _⟩,fun H s=>by rw [qa2];exact Nat.le_refl n⟩
def qfd (ds:List D):List D:=ds.zipIdx.map fun p=>.tup [.int (p.2:Nat),p.1]
theorem qd1 (ds:List D):(qfd ds).length=ds.length:=by unfold qfd;simp
theorem qhp {i:Nat} {d:D} (h:(qfd ds)[i]?=some d):∃ e,ds[i]?=some e∧d=.tup [.int (i:Nat),e]:=by
  unfold qfd at h
  rw [List.getElem?_map,List.getElem?_zipIdx] at h
  cases e:ds[i]? with
  | none=>rw [e] at h;cases h
  | some x=>rw [e] at h;cases h;exact ⟨x,rfl,by simp⟩
theorem Rp.pair {H:Hp} {t:Addr} {d e:D} {x y:V} (h:H t=some (.tup [x,y])) (r1:Rp K H d x) (r2:Rp K H e y):Rp K H (.tup [d,e]) (.ref t):=(RpL.cons r1 (.one r2)).tup h
theorem qf2 {b:Bool} (h:SqB K b Φ a vs) (r:RpL K Φ ds vs):SteadyD K (Ite K b a) Φ (qfd ds) :=
  ⟨fun i H s hi=>by rw [qd1] at hi;exact ⟨vs,vs[i]'(by rw [r.1];exact hi),SqB.same s h,qao _⟩,fun i Φ2 H x H2 d s2 s hd y=>by
    obtain ⟨t,v,hn,e,e',y⟩:=y
    subst e e'
    obtain ⟨e,he,rfl⟩:=qhp hd
    have rv:=(r.2 i v e (y vs (SqB.same (s2.trans s) h)) he).same (s2.trans (qaH (s.free hn) (.tup [.int i,v])))
    exact ⟨_,.new s hn _,.pair qai (.int _) rv⟩,fun H s=>by rw [qd1];exact ⟨vs,SqB.same s h,by rw [r.1];exact Nat.le_refl _⟩⟩
def qnD (ds es:List D):List D:=List.zipWith (fun x y=>.tup [x,y]) ds es
theorem qfB (ds es:List D):(qnD ds es).length=min ds.length es.length:=by unfold qnD;simp
theorem qiS {i:Nat} {d:D} (h:(qnD ds es)[i]?=some d):∃ x y,ds[i]?=some x∧es[i]?=some y∧d=.tup [x,y]:=by
  unfold qnD at h
  rw [List.getElem?_zipWith] at h
  cases e:ds[i]? with
  | none=>rw [e] at h;cases h
  | some x =>
    cases e2:es[i]? with
    | none=>rw [e,e2] at h;cases h
    | some y=>rw [e,e2] at h;cases h;exact ⟨x,y,rfl,rfl,rfl⟩
theorem qgY {b1 b2:Bool} {a1 a2:Addr} (h1:SqB K b1 Φ a1 vs) (h2:SqB K b2 Φ a2 ws) (r1:RpL K Φ ds vs) (r2:RpL K Φ es ws):SteadyD K (Itz K b1 a1 b2 a2) Φ (qnD ds es) :=
  ⟨fun i H s hi=>by
    rw [qfB] at hi
    have i1:i<vs.length:=by rw [r1.1];omega
    have i2:i<ws.length:=by rw [r2.1];omega
    exact ⟨vs,ws,vs[i],ws[i],SqB.same s h1,SqB.same s h2,qao i1,qao i2⟩,fun i Φ2 H x H2 d s2 s hd y=>by
    obtain ⟨t,u,v,hn,e,e',y1,y2⟩:=y
    subst e e'
    obtain ⟨p,q,hp,hq,rfl⟩:=qiS hd
    have sn:=s2.trans (qaH (s.free hn) (.tup [u,v]))
    exact ⟨_,.new s hn _,.pair qai ((r1.2 i u p (y1 vs (SqB.same (s2.trans s) h1)) hp).same sn) ((r2.2 i v q (y2 ws (SqB.same (s2.trans s) h2)) hq).same sn)⟩,fun H s=>by
    rw [qfB]
    exact ⟨vs,ws,SqB.same s h1,SqB.same s h2,by rw [r1.1,r2.1];omega⟩⟩
end
def lI (K:PySem.W.Frag) (t:TDL):TI:=fun σ H R'=>∃ H0 Φ ρ R,EnvD K H0 Φ H σ ρ∧t ρ R∧∀ ds Φ' H' J,R ds→Gr Φ H Φ' H'→SteadyD K J Φ' ds→R' J H'
structure PID (K:PySem.W.Frag) (X:Cx) (tg e:Expr) (t:TDL):Prop where pi:X.K=K→PI X tg e (lI K t)
theorem PI.imp {X:Cx} {tg e:Expr} {t t':TI} (h:PI X tg e t) (k:∀ σ H R,t' σ H R→t σ H R):PI X tg e t':=fun pins s σ H R I hw=>h pins s σ H R I (k σ H R hw)
section
variable {K : PySem.W.Frag} {X : Cx} {tg e a b : Expr} {es : List Expr} {pos p tp : Pos} {t ta tb : TD} {tl : TDL}
theorem qfl {es:List Expr} {k:Nat} {t:TGs} {n:Nat} (hK:X.K=K) (hc:X.calm=true) (h:PGs X es t) (hn:(assignEach es X.env).length=n) (hst:(assignEach es X.env).findIdx? (·.1)=none):PG X (.Tuple es k pos) (qpN K n t):=hK ▸ qly hc h hn hst
theorem qhc {es:List Expr} {k:Nat} {t:TGs} {n:Nat} (hK:X.K=K) (hc:X.calm=true) (h:PGs X es t) (hn:(assignEach es X.env).length=n) (hst:(assignEach es X.env).findIdx? (·.1)=none):PG X (.Tuple es k pos) (qqb K n t):=hK ▸ qoZ hc h hn hst
def ql1 (t:TDL):TDL:=fun ρ R=>t ρ fun ds=>match ds with | [.int j]=>(-(2 ^ 62)≤j∧j<2 ^ 62)∧R (qd7 0 j.toNat) | _=>False
theorem RpL.one_inv {Φ:Hp} {d:D} {vs:List V} (h:RpL K Φ [d] vs):∃ v,vs=[v]∧Rp K Φ d v:=by
  obtain ⟨h1,h2⟩:=h
  match vs,h1,h2 with
  | [v],_,h2=>exact ⟨v,rfl,h2 0 v d rfl rfl⟩
theorem RpL.two_inv {Φ:Hp} {d e:D} {vs:List V} (h:RpL K Φ [d,e] vs):∃ v w,vs=[v,w]∧Rp K Φ d v∧Rp K Φ e w:=by
  obtain ⟨h1,h2⟩:=h
  match vs,h1,h2 with
  | [v,w],_,h2=>exact ⟨v,w,rfl,h2 0 v d rfl rfl,h2 1 w e rfl rfl⟩
theorem qdP (hg:Gl X "range") (hm:X.mg "range"=none) (ha:PAD K X [a] tl) (hs:starEach [a] X.env=[(false,eval a X.env)]:=by rfl):PID K X tg (.Call (.Name "range" p) [a] [] pos) (ql1 tl) :=
  ⟨fun hK=>(qgm hg hm (ha.pa hK) hs).imp fun σ H R' hq0=>by obtain ⟨H0,Φ,ρ,R,E,t,k⟩:=hq0;exact ⟨H0,Φ,ρ,_,E,t,fun ds Φ1 H1 vs r g rv _=>by
    match ds,r with
    | [.int j],r =>
      obtain ⟨v,rfl,r1⟩:=rv.one_inv
      cases r1
      exact ⟨j,rfl,r.1.1,r.1.2,k _ Φ1 H1 _ r.2 g qc9⟩⟩⟩
end
abbrev TGD:=D→Rho→(Rho→Prop)→Prop
abbrev qhX:=List D→Rho→(Rho→Prop)→Prop
def lG (K:PySem.W.Frag) (g:TGD):TG:=fun v σ H Q=>∃ H0 Φ ρ d R,EnvD K H0 Φ H σ ρ∧Rp K Φ d v∧g d ρ R∧∀ ρ' σ',R ρ'→EnvD K H0 Φ H σ' ρ'→Q σ' H
def lGs (K:PySem.W.Frag) (g:qhX):TGs:=fun vs σ H Q=>∃ H0 Φ ρ ds R,EnvD K H0 Φ H σ ρ∧RpL K Φ ds vs∧g ds ρ R∧∀ ρ' σ',R ρ'→EnvD K H0 Φ H σ' ρ'→Q σ' H
structure PGD (K:PySem.W.Frag) (X:Cx) (e:Expr) (g:TGD):Prop where pg:X.K=K→PG X e (lG K g)
structure PGDs (K:PySem.W.Frag) (X:Cx) (es:List Expr) (g:qhX):Prop where pg:X.K=K→PGs X es (lGs K g)
theorem PG.imp {X:Cx} {e:Expr} {t t':TG} (h:PG X e t) (k:∀ v σ H Q,t' v σ H Q→t v σ H Q):PG X e t':=fun pins s σ H v u Q I r hw=>h pins s σ H v u Q I r (k v σ H Q hw)
theorem PGs.imp {X:Cx} {e:List Expr} {t t':TGs} (h:PGs X e t) (k:∀ v σ H Q,t' v σ H Q→t v σ H Q):PGs X e t':=fun pins s σ H v u Q I r hw=>h pins s σ H v u Q I r (k v σ H Q hw)
section
variable {K : PySem.W.Frag} {X : Cx} {e : Expr} {es : List Expr} {pos : Pos} {g : TGD} {gs : qhX}
def qqI (i:Nat):TGD:=fun d ρ R=>R (ρ.set i (some (.v d)))
theorem qck {i:Nat} {x:Str} (hN:X.N.Nodup) (hi:X.N[i]?=some x) (hx:Loc X.env.scope x) (hf:X.fn x=true∨X.env.scope.names.lookup x=some .local:=by first | exact .inl rfl | exact .inr rfl | assumption):PGD K X (.Name x pos) (qqI i) :=
  ⟨fun _=>(qfr hN hi hx hf).imp fun v σ H Q hq0=>by obtain ⟨H0,Φ,ρ,d,R,E,r,g,k⟩:=hq0;exact k _ _ g (E.set r i)⟩
def ql5:qhX:=fun ds ρ R=>match ds with | []=>R ρ | _=>False
def qhB (t:TGD) (u:qhX):qhX:=fun ds ρ R=>match ds with | d::r=>t d ρ fun ρ'=>u r ρ' R | []=>False
theorem qiO:PGDs K X [] ql5:=⟨fun _=>pgs_nil.imp fun v σ H Q hq0=>by
  obtain ⟨H0,Φ,ρ,ds,R,E,r,g,k⟩:=hq0
  cases ds with
  | nil=>exact ⟨List.length_eq_zero_iff.mp r.1,k _ _ g E⟩
  | cons=>exact g.elim⟩
theorem qdg (h1:PGD K X e g) (h2:PGDs K X es gs) (hs:(assignEach (e::es) X.env).map (·.2)=assign e X.env::(assignEach es X.env).map (·.2):=by rfl):PGDs K X (e::es) (qhB g gs) :=
  ⟨fun hK=>(qcB (h1.pg hK) (h2.pg hK) hs).imp fun vs σ H Q hq0=>by
    obtain ⟨H0,Φ,ρ,ds,R,E,r,g,k⟩:=hq0
    cases ds with
    | nil=>exact g.elim
    | cons d ds =>
      cases vs with
      | nil=>exact absurd r.1 (by simp)
      | cons v vs =>
        refine ⟨v,vs,rfl,H0,Φ,ρ,d,_,E,r.2 0 v d rfl rfl,g,fun ρ' σ' g' E'=>⟨H0,Φ,ρ',ds,R,E',⟨by have:=r.1;simpa using this,fun i u f hu hf=>r.2 (i+1) u f hu hf⟩,g',k⟩⟩⟩
end
def qhW (cap:List (Option Nat)) (ρ:Rho):Rho:=cap.map fun o=>o.bind fun i=>(ρ[i]?).join
theorem qdW {α:Type} {o:Option (Option α)} {x:α} (h:o.join=some x):o=some (some x):=by
  cases o with
  | none=>cases h
  | some o=>cases o with
    | none=>cases h
    | some y=>cases h;rfl
theorem qeQ {α:Type} {cap:List (Option Nat)} {l:List (Option α)} {i:Nat} {x:α} (h:(cap.map fun o=>o.bind fun i=>(l[i]?).join)[i]?=some (some x)):∃ j,cap[i]?=some (some j)∧l[j]?=some (some x):=by
  rw [List.getElem?_map] at h
  cases e:cap[i]? with
  | none=>rw [e] at h;cases h
  | some o =>
    rw [e] at h
    cases o with
    | none=>cases h
    | some j=>exact ⟨j,rfl,qdW (by simpa using h)⟩
theorem EnvD.cap {K:PySem.W.Frag} {H0 Φ H:Hp} {σ:St} {ρ:Rho} {cap:List (Option Nat)} (E:EnvD K H0 Φ H σ ρ) (inj:∀ i j k:Nat,cap[i]?=some (some k)→cap[j]?=some (some k)→i=j):EnvD K H0 Φ H (qco cap σ) (qhW cap ρ):=by
  have st:∀ {i j:Nat} {v:V},cap[i]?=some (some j)→σ[j]?=some (some v)→(qco cap σ)[i]?=some (some v):=fun hc hs=>by
    unfold qco
    rw [List.getElem?_map,hc]
    simp [hs]
  have ts:∀ {i j:Nat} {v:V},cap[i]?=some (some j)→(qco cap σ)[i]?=some (some v)→σ[j]?=some (some v):=fun hc hs=>by
    obtain ⟨j',h1,h2⟩:=qeQ hs
    rw [hc] at h1
    cases h1
    exact h2
  refine ⟨E.fz,by unfold qco qhW;simp,fun i d h=>?_,fun i ds h=>?_,fun i j ds es p hi hj si sj=>?_,E.tb⟩
  · obtain ⟨j,h1,h2⟩:=qeQ h
    obtain ⟨v,e,r⟩:=E.sl j d h2
    exact ⟨v,st h1 e,r⟩
  · obtain ⟨j,h1,h2⟩:=qeQ h
    obtain ⟨p,vs,e,q⟩:=E.ow j ds h2
    exact ⟨p,vs,st h1 e,q⟩
  · obtain ⟨i',h1,h2⟩:=qeQ hi
    obtain ⟨j',h3,h4⟩:=qeQ hj
    have:=E.ne i' j' ds es p h2 h4 (ts h1 si) (ts h3 sj)
    subst this
    exact inj i j i' h1 h3
structure GK (k:Nat) (g:TGD):Prop where p:∀ d ρ R,g d ρ R→g d ρ fun ρ1=>ρ1.length=ρ.length∧ρ1.drop k=ρ.drop k∧R ρ1
structure GKs (k:Nat) (g:qhX):Prop where p:∀ ds ρ R,g ds ρ R→g ds ρ fun ρ1=>ρ1.length=ρ.length∧ρ1.drop k=ρ.drop k∧R ρ1
theorem qoS {k i:Nat} (h:i<k):GK k (qqI i):=⟨fun d ρ R r=>⟨by simp,by rw [List.drop_set_of_lt h],r⟩⟩
theorem qpD {k:Nat}:GKs k ql5:=⟨fun ds ρ R r=>by
  cases ds with
  | nil=>exact ⟨rfl,rfl,r⟩
  | cons=>exact r⟩
theorem qgZ {t:TGD} {u:qhX} (ht:∀ d ρ R R',(∀ x,R x→R' x)→t d ρ R→t d ρ R') (hu:∀ d ρ R R',(∀ x,R x→R' x)→u d ρ R→u d ρ R'):∀ d ρ R R',(∀ x,R x→R' x)→qhB t u d ρ R→qhB t u d ρ R':=by
  intro ds ρ R R' h r
  cases ds with
  | nil=>exact r
  | cons d ds=>exact ht d ρ _ _ (fun x hx=>hu ds x _ _ h hx) r
structure GM (k:Nat) (g:TGD):Prop where
  k:GK k g
  m:∀ d ρ R R',(∀ x,R x→R' x)→g d ρ R→g d ρ R'
structure GMs (k:Nat) (g:qhX):Prop where
  k:GKs k g
  m:∀ d ρ R R',(∀ x,R x→R' x)→g d ρ R→g d ρ R'
theorem qdw {k i:Nat} (h:i<k):GM k (qqI i):=⟨qoS h,fun d ρ R R' h r=>h _ r⟩
theorem qlU {k:Nat}:GMs k ql5:=⟨qpD,fun ds ρ R R' h r=>by
  cases ds with
  | nil=>exact h _ r
  | cons=>exact r⟩
theorem qfn {k:Nat} {t:TGD} {u:qhX} (h1:GM k t) (h2:GMs k u):GMs k (qhB t u):=⟨⟨fun ds ρ R r=>by
  cases ds with
  | nil=>exact r
  | cons d ds =>
    have r1:t d ρ fun ρ'=>u ds ρ' R:=r
    refine h1.m _ _ _ _ (fun ρ1 q=>?_) (h1.k.p d ρ _ r1)
    exact h2.m _ _ _ _ (fun ρ2 q2=>⟨q2.1.trans q.1,q2.2.1.trans q.2.1,q2.2.2⟩) (h2.k.p ds ρ1 R q.2.2)⟩,qgZ h1.m h2.m⟩
def qnE:TDB:=fun _ R=>R true
structure PIfD (K:PySem.W.Frag) (X:Cx) (ifs:List Expr) (t:TDB):Prop where p:X.K=K→qnd X ifs (lT K t)
theorem qnO {K:PySem.W.Frag} {X:Cx}:PIfD K X [] qnE:=⟨fun _ pins s σ H Q I hq0=>by obtain ⟨H0,Φ,ρ,R,E,t,k⟩:=hq0;exact qhF pins s σ H Q I (k true Φ H t (.refl E.fz))⟩
theorem EnvD.side {K:PySem.W.Frag} {H0 Φ H:Hp} {σ:St} {ρ:Rho} {p:Addr} {o u:HO} (E:EnvD K H0 Φ H σ ρ) (h0:H0 p=some u) (hn:Φ p=none):EnvD K H0 Φ (upd H p o) σ ρ :=
  ⟨fun b w e=>by rw [qak (qap e hn)];exact E.fz b w e,E.len,E.sl,fun i ds h=>by
    obtain ⟨q,vs,e,q0,qn,qp,qr⟩:=E.ow i ds h
    exact ⟨q,vs,e,q0,qn,by rw [qak fun z=>by rw [z,h0] at q0;cases q0];exact qp,qr⟩,E.ne,E.tb⟩
theorem EnvD.base {K:PySem.W.Frag} {H0 Φ H:Hp} {σ:St} {ρ:Rho} {p:Addr} {u:HO} (E:EnvD K H0 Φ H σ ρ) (hp:H p=none):EnvD K (upd H0 p u) Φ H σ ρ :=
  ⟨E.fz,E.len,E.sl,fun i ds h=>by
    obtain ⟨q,vs,e,q0,qn,qp,qr⟩:=E.ow i ds h
    exact ⟨q,vs,e,by rw [qak (qap qp hp)];exact q0,qn,qp,qr⟩,E.ne,E.tb⟩
theorem qmF (ys:List (Option D)) (y:D):(ys++[some y]).filterMap id=ys.filterMap id++[y]:=by simp
theorem qkG (ys:List (Option D)):(ys++[none]).filterMap id=ys.filterMap id:=by simp
theorem qpE (ys:List (Option D)):(ys.filterMap id).length≤ys.length:=List.length_filterMap_le _ _
theorem qda {α:Type} {ys:List α} {y:α} {P:Nat→α→Prop} {n:Nat} (hl:ys.length=n) (h:∀ i z,ys[i]?=some z→P i z) (hy:P n y):∀ i z,(ys++[y])[i]?=some z→P i z:=by
  intro i z hz
  rcases Nat.lt_or_ge i ys.length with c | c
  · rw [List.getElem?_append_left c] at hz
    exact h i z hz
  · rw [List.getElem?_append_right c] at hz
    have h0:i - ys.length=0:=by
      rcases Nat.eq_zero_or_pos (i - ys.length) with e | e
      · exact e
      · rw [List.getElem?_eq_none (by simp only [List.length_cons,List.length_nil];omega)] at hz;cases hz
    rw [h0] at hz
    cases hz
    have:i=n:=by omega
    subst this
    exact hy
def qgQ (k:Nat) (cap:List (Option Nat)):Bool:=(cap.take k).all (·.isNone) && decide ((cap.filterMap id).Nodup)
theorem qjX {k:Nat} {cap:List (Option Nat)} (h:qgQ k cap=true) {i:Nat} (hi:i<k) {o:Option Nat} (e:cap[i]?=some o):o=none:=by
  unfold qgQ at h
  rw [Bool.and_eq_true] at h
  have:=List.all_eq_true.mp h.1 o (List.mem_of_getElem? (i:=i) (by rw [List.getElem?_take_of_lt hi];exact e))
  cases o with
  | none=>rfl
  | some _=>cases this
theorem qjf {k:Nat} {cap:List (Option Nat)} (h:qgQ k cap=true):∀ i j n:Nat,cap[i]?=some (some n)→cap[j]?=some (some n)→i=j:=by
  unfold qgQ at h
  rw [Bool.and_eq_true] at h
  have nd:=of_decide_eq_true h.2
  clear h
  induction cap with
  | nil=>intro i j n hi;simp at hi
  | cons o cap ih =>
    intro i j n hi hj
    have nd':(cap.filterMap id).Nodup:=by
      cases o with
      | none=>simpa using nd
      | some m => have e : (some m :: cap).filterMap id = m :: cap.filterMap id := rfl
                  rw [e] at nd;exact (List.nodup_cons.mp nd).2
    have one:∀ {i:Nat},o=some n→cap[i]?=some (some n)→False:=fun {i} ho hi'=>by
      subst ho
      have e:(some n::cap).filterMap id=n::cap.filterMap id:=rfl
      rw [e] at nd
      exact (List.nodup_cons.mp nd).1 (List.mem_filterMap.mpr ⟨some n,List.mem_of_getElem? hi',rfl⟩)
    cases i with
    | zero=>cases j with
      | zero=>rfl
      | succ j=>exact (one (by simpa using hi) (by simpa using hj)).elim
    | succ i=>cases j with
      | zero=>exact (one (by simpa using hj) (by simpa using hi)).elim
      | succ j=>exact congrArg Nat.succ (ih nd' i j n (by simpa using hi) (by simpa using hj))
section
variable {K : PySem.W.Frag} {X : Cx} {tg iter elt : Expr} {ifs : List Expr} {scope : Scope} {pos : Pos} {N' : List Str} {cap : List (Option Nat)} {ti : TDL} {g : TGD} {tc : TDB} {te : TD}
theorem qi7 {k:Nat} (hcap:qgQ k cap=true) (hk:GM k g) {σ:St} {H:Hp} {Q:VK} {H0 Φ:Hp} {ρ:Rho} {R W:List D→Prop} (E:EnvD K H0 Φ H σ ρ) (t:ti ρ W)
    (conv:∀ ds,W ds→ds.length<sizeLine∧∃ P:Nat→Option D→Prop,(∀ i d,ds[i]?=some d→g d (qhW cap ρ) fun ρ1=>tc ρ1 fun b=>(b=true→te ρ1 fun y=>P i (some y))∧(b=false→P i none))∧∀ ys:List (Option D),ys.length=ds.length→(∀ i y,ys[i]?=some y→P i y)→R (ys.filterMap id))
    (kk:∀ ds Φ' H' p vs,R ds→Gr Φ H Φ' H'→H p=none→Φ' p=none→H' p=some (.lst vs)→RpL K Φ' ds vs→Q (.ref p) H'):qjO (lI K ti) cap (lG K g) (lT K tc) (lE K te) σ H Q:=by
  refine ⟨H0,Φ,ρ,W,E,t,fun ds Φ1 H1 J hW g1 S Dd hD=>?_⟩
  obtain ⟨hlen,P,hp,hr⟩:=conv ds hW
  have E1:=E.gr g1
  have hDΦ:Φ1 Dd=none:=g1.s.free hD
  have C0:EnvD K (upd H0 Dd (.lst [])) Φ1 (upd H1 Dd (.lst [])) (qco cap σ) (qhW cap ρ):=((E1.base (u:=.lst []) hD).side (o:=.lst []) qai hDΦ).cap (qjf hcap)
  refine ⟨fun i m σ' H'=>m=ds.length - i∧i≤ds.length∧∃ (Φ':Hp) (vs:List V) (ys:List (Option D)),EnvD K (upd H0 Dd (.lst [])) Φ' H' σ' (qhW cap ρ)∧Gr Φ1 H1 Φ' H'∧Φ' Dd=none∧H' Dd=some (.lst vs)∧RpL K Φ' (ys.filterMap id) vs∧ys.length=i∧∀ j y,ys[j]?=some y→P j y,⟨ds.length,by simp,Nat.zero_le _,Φ1,[],[],C0,.fresh g1.s hD _,hDΦ,qai,.nil,rfl,fun j y hj=>by simp at hj⟩,?_⟩
  rintro i m σ' H' ⟨rfl,hi,Φ',vs,ys,Ei,gi,hDi,hDl,hrl,hyl,hy⟩
  by_cases hlt:i<ds.length
  · refine .inr ⟨S.go i H' (gi.f.trans gi.s) hlt,fun σ2 H2=>∃ (Φ':Hp) (vs:List V) (ys:List (Option D)),EnvD K (upd H0 Dd (.lst [])) Φ' H2 σ2 (qhW cap ρ)∧Gr Φ1 H1 Φ' H2∧Φ' Dd=none∧H2 Dd=some (.lst vs)∧RpL K Φ' (ys.filterMap id) vs∧ys.length=i+1∧∀ j y,ys[j]?=some y→P j y,fun σ2 H2 h2=>⟨ds.length - (i+1),by omega,rfl,hlt,h2⟩,fun x H2 y=>?_⟩
    obtain ⟨Φ3,g3,rx⟩:=S.yl i Φ' H' x H2 _ gi.f gi.s (qao hlt) y
    have E3:=Ei.gr g3
    refine ⟨_,Φ3,qhW cap ρ,_,_,E3,rx,hk.k.p _ _ _ (hp i _ (qao hlt)),fun ρ1 σ3 hq0 E4=>?_⟩
    obtain ⟨hl1,hd1,t1⟩:=hq0
    have wk:∀ (j:Nat) x,(qhW cap ρ)[j]?=some (some x)→ρ1[j]?=some (some x):=fun j x hj=>by
      rcases Nat.lt_or_ge j k with c | c
      · obtain ⟨n,h1,_⟩:=qeQ hj
        cases qjX hcap c h1
      · have e1:(qhW cap ρ)[j]?=((qhW cap ρ).drop k)[j - k]?:=by rw [List.getElem?_drop];congr 1;omega
        have e2:ρ1[j]?=(ρ1.drop k)[j - k]?:=by rw [List.getElem?_drop];congr 1;omega
        rw [e2,hd1,← e1]
        exact hj
    have hD3:Φ3 Dd=none:=g3.o _ _ hDl hDi
    refine ⟨_,Φ3,ρ1,_,E4,t1,fun b Φ4 H4 rb g4=>?_⟩
    have E5:=(E4.gr g4)
    have hDl4:=g4.h _ _ (g3.h _ _ hDl)
    have hD4:Φ4 Dd=none:=g4.o _ _ (g3.h _ _ hDl) hD3
    cases b with
    | false =>
      refine qpH ?_
      refine ⟨Φ4,vs,ys++[none],E5.weak hl1.symm wk,(gi.trans g3).trans g4,hD4,hDl4,?_,by rw [List.length_append,hyl];rfl,qda hyl hy (rb.2 rfl)⟩
      rw [qkG]
      exact (hrl.same g3.f).same g4.f
    | true =>
      refine qpJ ?_
      refine ⟨_,Φ4,ρ1,_,E5,rb.1 rfl,fun d Φ5 H5 v rd g5 rv=>?_⟩
      have E6:=E5.gr g5
      have hDl5:=g5.h _ _ hDl4
      have hD5:Φ5 Dd=none:=g5.o _ _ hDl4 hD4
      have gg:=((gi.trans g3).trans g4).trans g5
      refine ⟨vs,hDl5,?_,Φ5,vs++[v],ys++[some d],(E6.weak hl1.symm wk).side qai hD5,?_,hD5,qai,?_,by rw [List.length_append,hyl];rfl,qda hyl hy rd⟩
      · have:=qpE ys
        rw [hrl.1]
        omega
      · exact ⟨gg.f,qg2 gg.h hD _,fun b u e=>by rw [qak (qap e hD5)];exact gg.s b u e,fun p u hp hn k=>gg.o p u hp hn k⟩
      · rw [qmF]
        exact (((hrl.same g3.f).same g4.f).same g5.f).append (.one rv)
  · have e:i=ds.length:=by omega
    subst e
    exact .inl ⟨S.stop H' (gi.f.trans gi.s),kk _ Φ' H' Dd vs (hr ys hyl hy) (g1.trans gi) (g1.h.free hD) hDi hDl hrl⟩
def qlY (ti:TDL) (cap:List (Option Nat)) (g:TGD) (te:TD):TDL:=fun ρ R=>ti ρ fun ds=>ds.length<sizeLine∧∃ P:Nat→D→Prop,
  (∀ i d,ds[i]?=some d→g d (qhW cap ρ) fun ρ1=>te ρ1 (P i))∧∀ ys:List D,ys.length=ds.length→(∀ i y,ys[i]?=some y→P i y)→R ys
def qrT (P:Nat→D→Prop):Nat→Option D→Prop:=fun i o=>match o with | some y=>P i y | none=>False
theorem qhg {P:Nat→D→Prop}:∀ (ys:List (Option D)),(∀ (i:Nat) y,ys[i]?=some y→∃ z,y=some z)→∃ zs:List D,ys=zs.map some
  | [],_=>⟨[],rfl⟩
  | y::ys,h=>by
    obtain ⟨z,rfl⟩:=h 0 y rfl
    obtain ⟨zs,rfl⟩:=qhg (P:=P) ys fun i y hy=>h (i+1) y hy
    exact ⟨z::zs,rfl⟩
theorem qhI {ds:List D} {ρ:Rho} {R:List D→Prop} (h:ds.length<sizeLine∧∃ P:Nat→D→Prop,(∀ i d,ds[i]?=some d→g d (qhW cap ρ) fun ρ1=>te ρ1 (P i))∧∀ ys:List D,ys.length=ds.length→(∀ i y,ys[i]?=some y→P i y)→R ys) {k:Nat} (hk:GM k g) :
    ds.length<sizeLine∧∃ P:Nat→Option D→Prop,(∀ i d,ds[i]?=some d→g d (qhW cap ρ) fun ρ1=>qnE ρ1 fun b=>(b=true→te ρ1 fun y=>P i (some y))∧(b=false→P i none))∧∀ ys:List (Option D),ys.length=ds.length→(∀ i y,ys[i]?=some y→P i y)→R (ys.filterMap id):=by
  obtain ⟨h0,P,h1,h2⟩:=h
  refine ⟨h0,qrT P,fun i d hd=>hk.m _ _ _ _ (fun ρ1 q=>⟨fun _=>q,fun e=>by cases e⟩) (h1 i d hd),fun ys hl hy=>?_⟩
  obtain ⟨zs,rfl⟩:=qhg (P:=P) ys fun i y e=>by
    have:=hy i y e
    cases y with
    | none=>exact this.elim
    | some z=>exact ⟨z,rfl⟩
  rw [List.filterMap_map]
  have e:zs.filterMap (id ∘ some)=zs:=by simp
  rw [e]
  refine h2 zs (by simpa using hl) fun i y e=>?_
  exact hy i (some y) (by rw [List.getElem?_map,e];rfl)
theorem qhK {k:Nat} (hcap:qgQ k cap=true) (hk:GM k g) {σ:St} {H:Hp} {Q:VK} (h:lF K (qlY ti cap g te) σ H Q):qjO (lI K ti) cap (lG K g) (lT K qnE) (lE K te) σ H Q:=by
  obtain ⟨H0,Φ,ρ,R,E,t,kk⟩:=h
  exact qi7 hcap hk E t (fun ds h=>qhI h hk) kk
theorem qdk {k:Nat} (hcalm:X.calm=true) (S:CompScope X.N X.env.scope scope N' cap) (hcap:qgQ k cap=true) (hk:GM k g) (hi:PID K X tg iter ti)
    (hg:∀ (cl:List (Str × Addr)) (fp:List Addr) (C:Addr) (s0:Shared) (H0:Hp),PGD K (qaV X scope N' cl C s0 H0 fp) tg g)
    (he:∀ (cl:List (Str × Addr)) (fp:List Addr) (C:Addr) (s0:Shared) (H0:Hp),PD K (qaV X scope N' cl C s0 H0 fp) elt te) (hs:∀ x,foldedSetIterable iter X.env x=pure x:=by intro _;rfl):PF K X (.ListComp elt [⟨tg,iter,[],0⟩] scope pos) (qlY ti cap g te) :=
  ⟨fun hK=>(qjF hcalm S (hi.pi hK) (fun cl fp C s0 H0=>(hg cl fp C s0 H0).pg hK) (fun cl fp C s0 H0=>(qnO (K:=K)).p hK) (fun cl fp C s0 H0=>(he cl fp C s0 H0).pe hK) hs).imp fun _ _ _=>qhK hcap hk⟩
end
structure EndsD where
  nx:Rho→Prop
  rt:D→Prop
  bk:Rho→Prop:=fun _=>False
  ct:Rho→Prop:=fun _=>False
abbrev TSD:=EndsD→Rho→Prop
def EnK (K:PySem.W.Frag) (Φ0 H0:Hp) (P:Rho→Prop) (Q:St→Hp→Prop):Prop:=∀ ρ' Φ' H' σ',P ρ'→Gr Φ0 H0 Φ' H'→EnvD K H0 Φ' H' σ' ρ'→Q σ' H'
structure EndOk (K:PySem.W.Frag) (Φ0 H0:Hp) (De:EndsD) (E:Ends):Prop where
  nx:EnK K Φ0 H0 De.nx E.nx
  rt:∀ d Φ' H' v,De.rt d→Gr Φ0 H0 Φ' H'→Rp K Φ' d v→E.rt v H'
  bk:EnK K Φ0 H0 De.bk E.bk
  ct:EnK K Φ0 H0 De.ct E.ct
def lS (K:PySem.W.Frag) (t:TSD):TS:=fun E σ H=>∃ Φ0 H0 Φ ρ De,Gr Φ0 H0 Φ H∧EnvD K H0 Φ H σ ρ∧t De ρ∧EndOk K Φ0 H0 De E
structure PSD (K:PySem.W.Frag) (X:Cx) (st:Stmt) (t:TSD):Prop where ps:X.K=K→PS X st (lS K t)
structure PSsD (K:PySem.W.Frag) (X:Cx) (st:List Stmt) (t:TSD):Prop where ps:X.K=K→PSs X st (lS K t)
section
variable {K : PySem.W.Frag} {X : Cx} {st : Stmt} {rest : List Stmt} {t u : TSD} {e a : Expr} {te : TD} {tf : TDL} {pos : Pos} {tt : TDB}
def qqz:TSD:=fun De ρ=>De.nx ρ
def qsa (t u:TSD):TSD:=fun De ρ=>t { De with nx:=u De } ρ
def qrY (t u:TSD):TSD:=fun De ρ=>∃ I:Rho→Prop,t { De with nx:=I } ρ∧∀ ρ',I ρ'→u De ρ'
theorem qbu:PSsD K X [] qqz:=⟨fun _=>pss_nil.imp fun E σ H hq0=>by obtain ⟨Φ0,H0,Φ,ρ,De,g,V,t,k⟩:=hq0;exact k.nx ρ Φ H σ t g V⟩
theorem qbU (h1:PSD K X st t) (h2:PSsD K X rest u):PSsD K X (st::rest) (qsa t u):=⟨fun hK=>(qdU (h1.ps hK) (h2.ps hK)).imp fun E σ H hq0=>by obtain ⟨Φ0,H0,Φ,ρ,De,g,V,t,k⟩:=hq0;exact
  ⟨Φ0,H0,Φ,ρ,_,g,V,t,⟨fun ρ' Φ' H' σ' t' g' V'=>⟨Φ0,H0,Φ',ρ',De,g',V',t',k⟩,k.rt,k.bk,k.ct⟩⟩⟩
theorem qbo (h1:PSD K X st t) (h2:PSsD K X rest u):PSsD K X (st::rest) (qrY t u):=⟨fun hK=>(qdU (h1.ps hK) (h2.ps hK)).imp fun E σ H hq0=>by obtain ⟨Φ0,H0,Φ,ρ,De,g,V,⟨I,t,c⟩,k⟩:=hq0;exact
  ⟨Φ0,H0,Φ,ρ,_,g,V,t,⟨fun ρ' Φ' H' σ' t' g' V'=>⟨Φ0,H0,Φ',ρ',De,g',V',c ρ' t',k⟩,k.rt,k.bk,k.ct⟩⟩⟩
theorem qaR (h1:PSD K X st t):PSsD K X [st] t:=⟨fun hK=>qiQ (h1.ps hK)⟩
def qoT:TSD:=fun _ _=>False
theorem qiI:PSD K X st qoT:=⟨fun _=>ps_never.imp fun E σ H hq0=>by obtain ⟨Φ0,H0,Φ,ρ,De,g,V,t,k⟩:=hq0;exact t⟩
def qrg (i:Nat) (te:TD):TSD:=fun De ρ=>te ρ fun d=>De.nx (ρ.set i (some (.v d)))
theorem qli {i:Nat} {E:Ends} {σ:St} {H:Hp} (h:lS K (qrg i te) E σ H):qnS (lE K te) (qic i) E σ H:=by
  obtain ⟨Φ0,H0,Φ,ρ,De,g,V,t,k⟩:=h
  exact ⟨H0,Φ,ρ,_,V,t,fun d Φ1 H1 v r g1 rv=>k.nx _ Φ1 H1 _ r (g.trans g1) ((V.gr g1).set rv i)⟩
theorem qfq {i:Nat} {x:Str} {pos':Pos} (hN:X.N.Nodup) (hi:X.N[i]?=some x) (hx:Loc X.env.scope x) (he:PD K X e te) (hs:swapsWith e (some (.Name x pos')) pos.line X.env=pure false:=by rfl) (hf:X.fn x=true∨X.env.scope.names.lookup x=some .local:=by first | exact .inl rfl | exact .inr rfl | assumption) :
    PSD K X (.Assign [.Name x pos'] e pos) (qrg i te):=⟨fun hK=>(qhz hN hi hx (he.pe hK) hs hf).imp fun _ _ _=>qli⟩
def qrl (i:Nat) (tf:TDL):TSD:=fun De ρ=>tf ρ fun ds=>De.nx (ρ.set i (some (.own ds)))
theorem qix {i:Nat} {E:Ends} {σ:St} {H:Hp} (h:lS K (qrl i tf) E σ H):lF K tf σ H fun v H'=>qic i v σ H' E.nx:=by
  obtain ⟨Φ0,H0,Φ,ρ,De,g,V,t,k⟩:=h
  refine ⟨H0,Φ,ρ,_,V,t,fun ds Φ1 H1 p vs r g1 hp hn hl rl=>k.nx _ Φ1 H1 _ r (g.trans g1) ((V.gr g1).setOwn rl (g.h.free hp) hn hl (fun j es hj z=>?_) i)⟩
  obtain ⟨q,ws,e,_,_,hq,_⟩:=V.ow j _ hj
  rw [e] at z
  cases z
  rw [hp] at hq
  cases hq
theorem qoG {i:Nat} {x:Str} {pos':Pos} (hN:X.N.Nodup) (hi:X.N[i]?=some x) (hx:Loc X.env.scope x) (he:PF K X e tf) (hs:swapsWith e (some (.Name x pos')) pos.line X.env=pure false:=by rfl) (hf:X.fn x=true∨X.env.scope.names.lookup x=some .local:=by first | exact .inl rfl | exact .inr rfl | assumption) :
    PSD K X (.Assign [.Name x pos'] e pos) (qrl i tf):=⟨fun hK=>(qhz hN hi hx (he.pe hK) hs hf).imp fun _ _ _ h=>qix h⟩
def qsq (te:TD):TSD:=fun De ρ=>te ρ De.rt
theorem qaX (he:PD K X e te):PSD K X (.Return (some e) pos) (qsq te) :=
  ⟨fun hK=>(qlC (he.pe hK)).imp fun E σ H hq0=>by obtain ⟨Φ0,H0,Φ,ρ,De,g,V,t,k⟩:=hq0;exact ⟨H0,Φ,ρ,_,V,t,fun d Φ1 H1 v r g1 rv=>k.rt d Φ1 H1 v r (g.trans g1) rv⟩⟩
def sIf (c:TDB) (t u:TSD):TSD:=fun De ρ=>c ρ fun b=>(b=true→t De ρ)∧(b=false→u De ρ)
theorem qdH {c:Expr} {a b:List Stmt} (hc:PTD K X c tt) (ha:PSsD K X a t) (hb:PSsD K X b u):PSD K X (.If c a b pos) (sIf tt t u) :=
  ⟨fun hK=>(qpx (hc.pt hK) (ha.ps hK) (hb.ps hK)).imp fun E σ H hq0=>by obtain ⟨Φ0,H0,Φ,ρ,De,g,V,t,k⟩:=hq0;exact ⟨H0,Φ,ρ,_,V,t,fun c Φ1 H1 r g1=>by
    cases c with
    | true=>refine qpJ ?_;exact ⟨Φ0,H0,Φ1,ρ,De,g.trans g1,V.gr g1,r.1 rfl,k⟩
    | false=>refine qpH ?_;exact ⟨Φ0,H0,Φ1,ρ,De,g.trans g1,V.gr g1,r.2 rfl,k⟩⟩⟩
def qr0 (ti:TDL) (gd:TGD) (tb:TSD):TSD:=fun De ρ=>ti ρ fun ds=>∃ I:Nat→Rho→Prop,I 0 ρ∧(∀ i d ρ',ds[i]?=some d→I i ρ'→gd d ρ' fun ρ2=>tb { De with nx:=I (i+1),ct:=I (i+1),bk:=De.nx } ρ2)∧∀ ρ',I ds.length ρ'→De.nx ρ'
theorem qn6 {tg iter:Expr} {body:List Stmt} {ti:TDL} {gd:TGD} {tb:TSD} (hp:PassesOwn (model X.prog X.w) X.A X.env X.xe) (hc:X.calm=true) (hi:PID K X tg iter ti) (hg:PGD K X tg gd) (hb:PSsD K X body tb)
    (hs:∀ x,foldedSetIterable iter X.env x=pure x:=by intro _;rfl):PSD K X (.For tg iter body [] pos) (qr0 ti gd tb) :=
  ⟨fun hK=>(qlI hp hc (hi.pi hK) (hg.pg hK) (hb.ps hK) hs).imp fun E σ H hq0=>by
    obtain ⟨Φ0,H0,Φ,ρ,De,g,V,t,k⟩:=hq0
    refine ⟨H0,Φ,ρ,_,V,t,fun ds Φ1 H1 J hq1 g1 S=>?_⟩
    obtain ⟨I,h0,hst,hend⟩:=hq1
    refine ⟨fun i m σ H'=>m=ds.length - i∧i≤ds.length∧∃ Φ' ρ',Gr Φ0 H0 Φ' H'∧Same Φ1 Φ'∧EnvD K H0 Φ' H' σ ρ'∧I i ρ',⟨ds.length,by simp,Nat.zero_le _,Φ1,ρ,g.trans g1,Same.refl _,V.gr g1,h0⟩,?_⟩
    rintro i m σ' H' ⟨rfl,hi,Φ',ρ',g',s',V',hI⟩
    by_cases hlt:i<ds.length
    · refine .inr ⟨S.go i H' (s'.trans V'.fz) hlt,fun σ2 H2=>∃ Φ' ρ',Gr Φ0 H0 Φ' H2∧Same Φ1 Φ'∧EnvD K H0 Φ' H2 σ2 ρ'∧I (i+1) ρ',fun σ2 H2 h2=>⟨ds.length - (i+1),by omega,rfl,hlt,h2⟩,fun x H2 y=>?_⟩
      obtain ⟨Φ3,g3,rx⟩:=S.yl i Φ' H' x H2 _ s' V'.fz (qao hlt) y
      refine ⟨H0,Φ3,ρ',_,_,V'.gr g3,rx,hst i _ ρ' (qao hlt) hI,fun ρ2 σ3 t2 V3=>?_⟩
      refine ⟨Φ3,H0,Φ3,ρ2,_,?_,V3,t2,⟨?_,?_,?_,?_⟩⟩
      · exact ⟨Same.refl _,(g'.trans g3).h,g3.s,fun p u hp hn _=>hn⟩
      · intro ρ4 Φ4 H4 σ4 t4 g4 V4
        exact ⟨Φ4,ρ4,(g'.trans g3).join g4,(s'.trans g3.f).trans g4.f,V4,t4⟩
      · intro d Φ4 H4 v r g4 rv
        exact k.rt d Φ4 H4 v r ((g'.trans g3).join g4) rv
      · intro ρ4 Φ4 H4 σ4 t4 g4 V4
        exact k.nx ρ4 Φ4 H4 σ4 t4 ((g'.trans g3).join g4) V4
      · intro ρ4 Φ4 H4 σ4 t4 g4 V4
        exact ⟨Φ4,ρ4,(g'.trans g3).join g4,(s'.trans g3.f).trans g4.f,V4,t4⟩
    · have e:i=ds.length:=by omega
      subst e
      exact .inl ⟨S.stop H' (s'.trans V'.fz),k.nx ρ' Φ' H' σ' (hend ρ' hI) g' V'⟩⟩
end
section
variable {K : PySem.W.Frag} {X : Cx} {tg iter elt e a : Expr} {ifs : List Expr} {scope : Scope} {pos py spos : Pos} {N' : List Str} {cap : List (Option Nat)} {ti : TDL} {g : TGD} {tc : TDB} {te ta tb : TD} {i : Nat} {y : Str}
theorem qji {Φ0 H0 Φ H:Hp} {p:Addr} {o:HO} (g:Gr Φ0 H0 Φ H) (h0:H0 p=none) (hn:Φ p=none):Gr Φ0 H0 Φ (upd H p o) :=
  ⟨g.f,qg2 g.h h0 _,fun b u e=>by rw [qak (qap e hn)];exact g.s b u e,fun p u hp hn k=>g.o p u hp hn k⟩
def qiX (i:Nat) (te:TD):TSD:=fun De ρ=>match ρ[i]? with | some (some (.ob (.lst ds)))=>te ρ fun d=>ds.length<sizeLine∧NF (ds++[d]) fun es=>De.nx (ρ.set i (some (.own es))) | _=>False
theorem qlm {apos cpos npos:Pos} {x:Str} (i:Nat) (he:PD K X e te) (hfew:((backTo cpos (starEach [e] X.env)).all (fun x=>!x.1) && (backToKw cpos (keywordEach [] X.env)).all (fun x=>x.1.isSome) && decide (([e]:List Expr).length+([]:List Keyword).length+(if ([]:List Keyword).isEmpty then 0 else 1)<30))=true)
    (hse:starEach [e] X.env=(false,eval e X.env)::starEach [] X.env) (hN:X.N[i]?=some x:=by rfl) (hv:Vis X.env.scope x:=by first | exact Or.inl rfl | exact Or.inr (Or.inl rfl) | exact Or.inr (Or.inr rfl)) (hd:(x == ("__debug__":Str))=false:=by decide) (hcd:(x == ("__classdict__":Str))=false:=by decide)
    (hbase:attributeBase (.Name x npos) "append" X.env (eval (.Name x npos) X.env)=eval (.Name x npos) X.env:=by rfl) (hline:(apos.endLine == cpos.line)=true:=by rfl) (hs:swapsWith (.Call (.Attribute (.Name x npos) "append" apos) [e] [] cpos) none pos.line X.env=pure false:=by rfl) :
    PSD K X (.Expr (.Call (.Attribute (.Name x npos) "append" apos) [e] [] cpos) pos) (qiX i te) :=
  ⟨fun hK=>(qfA (qgO PySem.F.plainAttrs_list PySem.F.slot_list_append PySem.F.type_list_append qc3 (pv i hN hv hd hcd) (qa8 (he.pe hK) pa_nil hse) hbase hfew hline hse qac) hs).imp fun E σ H hq0=>by
    obtain ⟨Φ0,H0,Φ,ρ,De,g,V,t,k⟩:=hq0
    unfold qiX at t
    split at t
    · next ds ho =>
      obtain ⟨p,vs,e1,h0,hn,hp,rl⟩:=V.owl i ds ho
      refine ⟨_,e1,.inl ⟨rfl,vs,SqL.of hp⟩,H0,Φ,ρ,_,V,t,fun d Φ1 H1 v r g1 rv=>?_⟩
      have hp1:=g1.h _ _ hp
      have hn1:=g1.o _ _ hp hn
      refine ⟨p,vs,v,rfl,rfl,hp1,by rw [rl.1];exact r.1,k.nx _ Φ1 _ σ r.2.get (qji (g.trans g1) h0 hn1) ((V.gr g1).put ho e1 ((rl.same g1.f).append (.one rv)))⟩
    · exact t.elim⟩
def qrW (i:Nat) (te tk:TD):TSD:=fun De ρ=>te ρ fun d=>match ρ[i]? with | some (some (.ob (.lst ds)))=>tk ρ fun kk=>(match kk with | .int n=>∃ j,ixN ds.length n=some j∧NF (ds.set j d) fun es=>De.nx (ρ.set i (some (.own es))) | _=>False) | _=>False
theorem qp0 {b:Expr} {tk:TD} {npos spos:Pos} {x:Str} (i:Nat) (he:PD K X e te) (hk:PQ K X b tk) (hN:X.N[i]?=some x:=by rfl) (hv:Vis X.env.scope x:=by first | exact Or.inl rfl | exact Or.inr (Or.inl rfl) | exact Or.inr (Or.inr rfl)) (hd:(x == ("__debug__":Str))=false:=by decide) (hcd:(x == ("__classdict__":Str))=false:=by decide)
    (ha:∀ v,assign (.Subscript (.Name x npos) b spos) X.env v=(do
      let ov ← holding [v] (eval (.Name x npos) X.env)
      let iv ← holding [v,ov] (eval b X.env)
      standAt spos
      holding [v,ov,iv] (setItem ov iv v)
      release [v,ov,iv] []):=by intro _;rfl)
    (hs:swapsWithSole [.Subscript (.Name x npos) b spos] e pos.line X.env=pure false:=by rfl) (hw:swappedStores [.Subscript (.Name x npos) b spos] e X.env=pure none:=by rfl)
    (h1:(assignEach [.Subscript (.Name x npos) b spos] X.env).map (·.2)=[assign (.Subscript (.Name x npos) b spos) X.env]:=by rfl) :
    PSD K X (.Assign [.Subscript (.Name x npos) b spos] e pos) (qrW i te tk) :=
  ⟨fun hK=>(qgg (he.pe hK) (qhy (pv i hN hv hd hcd) (hk.pe hK) qcV ha) hs hw h1).imp fun E σ H hq0=>by obtain ⟨Φ0,H0,Φ,ρ,De,g,V,t,k⟩:=hq0;exact ⟨H0,Φ,ρ,_,V,t,fun d Φ1 H1 v r g1 rv=>by
    have V1:=V.gr g1
    split at r
    · next ds ho =>
      obtain ⟨p,vs,e1,h0,hn,hp,rl⟩:=V1.owl i ds ho
      refine ⟨_,e1,H0,Φ1,ρ,_,V1,r,fun kk Φ2 H2 w r2 g2 rw2=>?_⟩
      cases kk with
      | int n =>
        obtain ⟨j,hj,r2⟩:=r2
        exact ⟨p,vs,n,j,rfl,rw2.int,g2.h _ _ hp,by rw [rl.1];exact hj,k.nx _ Φ2 _ σ r2.get (qji ((g.trans g1).trans g2) h0 (g2.o _ _ hp hn)) ((V1.gr g2).put ho e1 ((rl.same g2.f).set (rv.same g2.f) j))⟩
      | _=>exact r2.elim
    · exact r.elim⟩⟩
end
def qeX (N:List Str) (ds:List D):Rho:=ds.map (fun d=>some (.v d))++List.replicate (N.length - ds.length) none
theorem qi4 {K:PySem.W.Frag} {Φ H:Hp} {N:List Str} {ds:List D} {vs:List V} (sm:Same Φ H) (tb:TabF K Φ) (r:RpL K Φ ds vs):EnvD K H Φ H (qcK N vs) (qeX N ds):=by
  have own:∀ {i:Nat} {x:Sl},(qeX N ds)[i]?=some (some x)→∃ d,ds[i]?=some d∧x=.v d:=fun {i x} h=>by
    unfold qeX at h
    rcases Nat.lt_or_ge i (ds.map fun d=>some (Sl.v d)).length with c | c
    · rw [List.getElem?_append_left c,List.getElem?_map] at h
      cases e:ds[i]? with
      | none=>rw [e] at h;cases h
      | some d=>rw [e] at h;cases h;exact ⟨d,rfl,rfl⟩
    · rw [List.getElem?_append_right c,List.getElem?_replicate] at h
      split at h
      · cases h
      · cases h
  refine ⟨sm,by unfold qcK qeX;simp [r.1],fun i d h=>?_,fun i es h=>?_,fun i j es fs p h=>?_,tb⟩
  · obtain ⟨d',h1,h2⟩:=own h
    cases h2
    obtain ⟨v,hv,rv⟩:=r.at h1
    refine ⟨v,?_,rv⟩
    unfold qcK
    rw [List.getElem?_append_left (by rw [List.length_map];exact qag hv),List.getElem?_map,hv]
    rfl
  · obtain ⟨d',h1,h2⟩:=own h
    cases h2
  · obtain ⟨d',h1,h2⟩:=own h
    cases h2
section
variable {P : Program} {w : World} {K : PySem.W.Frag} {mg : Str → Option Value} {base : Heap}
theorem Fun.okD {x qual:Str} {st:Stmt} {f:Addr} {fd:FuncData} {N ps:List Str} {k:Nat} {sp:SpD} (F:Fun K x qual st f fd) (S:FnScope N ps (qaf st)) (len:∀ ds R,sp ds R→ds.length=ps.length)
    (hbody:∀ (cdv:Value) (A:Around) (outer:List Env) (s:Shared) (H:Hp) (E:XK) (ds:List D) (R:D→Prop),Room k (A.deeper (envOfC qual (qaf st) s.heap.objs.size f cdv))→sp ds R →
      ∃ t,PSsD K (qkf CX0 P w K mg base N qual (qaf st) f cdv A outer s H E).nox (qa3 st) t∧t { nx:=fun _=>R .non,rt:=R } (qeX N ds)):FnOk P w K mg base CX0 (k+1) f fd ps (lSp K sp):=by
  refine F.ok S (fun vs H Q E ⟨Φ,ds,R,sm,tb,rl,h,_⟩=>by rw [rl.1];exact len ds R h) (fun cdv A outer s H vs Q E hr ⟨Φ,ds,R,sm,tb,rl,h,kk⟩=>?_)
  obtain ⟨t,ht,hq⟩:=hbody cdv A outer s H E ds R hr h
  exact ⟨lS K t,ht.ps rfl,Φ,H,Φ,qeX N ds,_,.refl sm,qi4 sm tb rl,hq,⟨fun ρ' Φ' H' σ' r g V=>kk .non Φ' H' .non r g .non,kk,fun _ _ _ _ h=>h.elim,fun _ _ _ _ h=>h.elim⟩⟩
end
def Itb (K:PySem.W.Frag) (b:Bool) (a:Addr):It:=match b with | true=>Itl K a | false=>Itt K a
section
variable {K : PySem.W.Frag} {X : Cx} {tg e a b : Expr} {es : List Expr} {pos p tp : Pos} {t ta tb : TD} {tl : TDL}
theorem qph {l:Expr} {tl:TE} (hK:X.K=K) (hl:PE X l tl):PI X tg l (fun σ H R=>tl σ H fun x H1=>∃ q a,x=.ref a∧(∃ xs,SqB K q H1 a xs)∧R (Itb K q a) H1):=by
  subst hK
  intro pins s σ H R I h
  refine thn (hl pins s σ H _ I h) fun v s1 hq0=>?_
  obtain ⟨x,H1,I1,r1,q1⟩:=hq0
  obtain ⟨bb,a,e,⟨xs,hq⟩,q⟩:=q1
  subst e
  cases r1
  have fp:∀ b∈[s1.heap.objs.size],qfK X pins H1 b:=fun b hb=>by
    have e:b=s1.heap.objs.size:=by simpa using hb
    subst e
    exact I1.fpOk (Nat.le_refl _) (I1.hok.fresh (Nat.le_refl _))
  cases bb with
  | true =>
    obtain ⟨its,rv,p,hz⟩:=I1.list hq
    refine wpAny_pyIter_list p.isList ?_
    exact ⟨s1.heap.objs.size,[s1.heap.objs.size],_,_,H1,rfl,I1.kept (t':=s1.toks) fun b o e=>Heap.get?_push_of_some _ e,qjb a _,⟨_,Heap.get?_push_size _ rfl,rfl,rfl⟩,fp,q⟩
  | false =>
    obtain ⟨its,rv,p,hz⟩:=I1.tuple hq
    refine wpAny_pyIter_tuple (show s1.heap.IsTuple a its.toArray from p) ?_
    exact ⟨s1.heap.objs.size,[s1.heap.objs.size],_,_,H1,rfl,I1.kept (t':=s1.toks) fun b o e=>Heap.get?_push_of_some _ e,qh7 a _,⟨_,Heap.get?_push_size _ rfl,rfl,rfl⟩,fp,q⟩
theorem qgt {Φ:Hp} {ds:List D} {vs:List V} {a:Addr} {q:Bool} (h:SqB K q Φ a vs) (r:RpL K Φ ds vs):SteadyD K (Itb K q a) Φ ds:=by
  cases q with
  | true=>exact qf3 h r
  | false=>exact qgn h r
def qsc (t:TD):TDL:=fun ρ R=>t ρ fun d=>match d with | .lst ds=>R ds | .tup ds=>R ds | .fzl ds=>R ds | _=>False
theorem qnF {d:D} {R:List D→Prop} (h:match d with | .lst ds=>R ds | .tup ds=>R ds | .fzl ds=>R ds | _=>False):∃ ds,qk3 d=some ds∧R ds:=by
  cases d with
  | lst ds=>exact ⟨ds,rfl,h⟩
  | tup ds=>exact ⟨ds,rfl,h⟩
  | fzl ds=>exact ⟨ds,rfl,h⟩
  | _=>exact h.elim
theorem qfP (h:PD K X e t):PID K X tg e (qsc t):=⟨fun hK=>(qph hK (h.pe hK)).imp fun σ H R' hq0=>by obtain ⟨H0,Φ,ρ,R,E,t,k⟩:=hq0;exact ⟨H0,Φ,ρ,_,E,t,fun d Φ1 H1 v r g rv=>by
  obtain ⟨ds,e1,r⟩:=qnF r
  obtain ⟨q,a,vs,rfl,h1,h2⟩:=rv.seq e1
  exact ⟨q,a,rfl,⟨vs,SqB.same g.s h1⟩,k _ Φ1 H1 _ r g (qgt h1 h2)⟩⟩⟩
theorem qk4 {a:Expr} {ta:TA} {es:List Expr} {k:Nat} (hK:X.K=K) (hg:Gl X "enumerate") (hm:X.mg "enumerate"=none) (ha:PA X [a] ta) (hs:starEach [a] X.env=[(false,eval a X.env)]) :
    PI X (.Tuple es k tp) (.Call (.Name "enumerate" p) [a] [] pos) (fun σ H R=>ta σ H fun vs H1=>∃ b a xs,vs=[.ref a]∧SqB K b H1 a xs∧R (Ite K b a) H1):=by
  subst hK
  intro pins s σ H R I h
  refine Call_ (qeq I hg hm boot_enumerate (PyProof.Rows.callWith_type1 (thn (ha pos pins s σ H _ I h) fun us s1 hq0=>?_) hs rfl))
  obtain ⟨vs,H1,I1,r1,q1⟩:=hq0
  obtain ⟨b,l,xs,e,hq,q⟩:=q1
  subst e
  cases r1 with
  | cons r rr =>
    cases rr
    cases r
    obtain ⟨its,rv,p,hz⟩:=I1.sqb hq
    refine qiA p fun h' he hi hsz hk=>wpAny_pyIter_enum he ?_
    have I2:Inv X pins σ H1 { s1 with heap:=h' }:=I1.kept (t':=s1.toks) hk
    have fr:∀ c,s1.heap.objs.size≤c→qfK X pins H1 c:=fun c hc=>I1.fpOk hc (I1.hok.fresh hc)
    exact ⟨s1.heap.objs.size+1,[s1.heap.objs.size+1,s1.heap.objs.size],_,_,H1,rfl,I2,qjQ b l _ _ (Nat.succ_ne_self _),⟨⟨_,he⟩,hi⟩,fun c hc=>by
      rcases List.mem_cons.mp hc with rfl | hc
      · exact fr _ (Nat.le_succ _)
      · rw [List.mem_singleton.mp hc];exact fr _ (Nat.le_refl _),q⟩
theorem qmO {a b:Expr} {ta:TA} {es:List Expr} {k:Nat} (hK:X.K=K) (hg:Gl X "zip") (hm:X.mg "zip"=none) (ha:PA X [a,b] ta) (hs:starEach [a,b] X.env=[(false,eval a X.env),(false,eval b X.env)]) (hs2:starEach [b] X.env=[(false,eval b X.env)]) :
    PI X (.Tuple es k tp) (.Call (.Name "zip" p) [a,b] [] pos) (fun σ H R=>ta σ H fun vs H1=>∃ b1 b2 a1 a2 xs ys,vs=[.ref a1,.ref a2]∧SqB K b1 H1 a1 xs∧SqB K b2 H1 a2 ys∧R (Itz K b1 a1 b2 a2) H1):=by
  subst hK
  intro pins s σ H R I h
  refine Call_ (qeq I hg hm boot_zip (PyProof.Rows.callWith_type1 (thn (ha pos pins s σ H _ I h) fun us s1 ⟨vs,H1,I1,r1,q1⟩=>?_) (by rw [hs,hs2]) (by rw [hs2];rfl)))
  obtain ⟨b1,b2,l1,l2,xs,ys,e,hq1,hq2,q⟩:=q1
  subst e
  cases r1 with
  | cons r rr =>
    cases rr with
    | cons r' rr =>
      cases rr
      cases r
      cases r'
      obtain ⟨its1,rv1,p1,_⟩:=I1.sqb hq1
      obtain ⟨its2,rv2,p2,_⟩:=I1.sqb hq2
      refine qkL p1 p2 fun h' z1 z2 z3 z4 z5 hk=>wpAny_pyIter_zip z1 ?_
      have I2:Inv X pins σ H1 { s1 with heap:=h' }:=I1.kept (t':=s1.toks) hk
      have fr:∀ c,s1.heap.objs.size≤c→qfK X pins H1 c:=fun c hc=>I1.fpOk hc (I1.hok.fresh hc)
      generalize s1.heap.objs.size=n at *
      refine ⟨n+4,[n+4,n+2,n+3,n,n+1],_,_,H1,rfl,I2,qk5 b1 b2 l1 l2 (n+4) (n+2) (n+3) n (n+1) (zap n),⟨z1,z2,⟨_,_,z3⟩,z4,z5⟩,fun c hc=>fr c ?_,q⟩
      simp only [List.mem_cons,List.not_mem_nil,or_false] at hc
      rcases hc with rfl | rfl | rfl | rfl | rfl
      · exact Nat.le_add_right _ _
      · exact Nat.le_add_right _ _
      · exact Nat.le_add_right _ _
      · exact Nat.le_refl _
      · exact Nat.le_add_right _ _
def qpu (t:TDL):TDL:=fun ρ R=>t ρ fun ds=>match ds with | [.lst xs]=>R (qfd xs) | [.tup xs]=>R (qfd xs) | [.fzl xs]=>R (qfd xs) | _=>False
theorem qmc {ets:List Expr} {ek:Nat} (hg:Gl X "enumerate") (hm:X.mg "enumerate"=none) (ha:PAD K X [a] tl) (hs:starEach [a] X.env=[(false,eval a X.env)]:=by rfl):PID K X (.Tuple ets ek tp) (.Call (.Name "enumerate" p) [a] [] pos) (qpu tl) :=
  ⟨fun hK=>(qk4 hK hg hm (ha.pa hK) hs).imp fun σ H R' hq0=>by obtain ⟨H0,Φ,ρ,R,E,t,k⟩:=hq0;exact ⟨H0,Φ,ρ,_,E,t,fun ds Φ1 H1 vs r g rv _=>by
    have fin:∀ {d:D} {xs:List D},RpL K Φ1 [d] vs→qk3 d=some xs→R (qfd xs)→∃ b a xs,vs=[.ref a]∧SqB K b H1 a xs∧R' (Ite K b a) H1:=fun {d xs} rv hx r=>by
      obtain ⟨v,rfl,r1⟩:=rv.one_inv
      obtain ⟨q,a,ws,rfl,h1,h2⟩:=r1.seq hx
      exact ⟨q,a,ws,rfl,SqB.same g.s h1,k _ Φ1 H1 _ r g (qf2 h1 h2)⟩
    match ds,r with
    | [.lst xs],r=>exact fin rv rfl r
    | [.tup xs],r=>exact fin rv rfl r
    | [.fzl xs],r=>exact fin rv rfl r⟩⟩
def qqw (t:TDL):TDL:=fun ρ R=>t ρ fun ds=>match ds with | [d,e]=>∃ xs ys,qk3 d=some xs∧qk3 e=some ys∧R (qnD xs ys) | _=>False
theorem qoy {ets:List Expr} {ek:Nat} (hg:Gl X "zip") (hm:X.mg "zip"=none) (ha:PAD K X [a,b] tl) (hs:starEach [a,b] X.env=[(false,eval a X.env),(false,eval b X.env)]:=by rfl) (hs2:starEach [b] X.env=[(false,eval b X.env)]:=by rfl):PID K X (.Tuple ets ek tp) (.Call (.Name "zip" p) [a,b] [] pos) (qqw tl) :=
  ⟨fun hK=>(qmO hK hg hm (ha.pa hK) hs hs2).imp fun σ H R' hq0=>by obtain ⟨H0,Φ,ρ,R,E,t,k⟩:=hq0;exact ⟨H0,Φ,ρ,_,E,t,fun ds Φ1 H1 vs r g rv _=>by
    match ds,r with
    | [d,e],⟨xs,ys,hx,hy,r⟩ =>
      obtain ⟨v,w,rfl,r1,r2⟩:=rv.two_inv
      obtain ⟨q1,a1,ws,rfl,h1,h2⟩:=r1.seq hx
      obtain ⟨q2,a2,us,rfl,h3,h4⟩:=r2.seq hy
      exact ⟨q1,q2,a1,a2,ws,us,rfl,SqB.same g.s h1,SqB.same g.s h3,k _ Φ1 H1 _ r g (qgY h1 h3 h2 h4)⟩⟩⟩
variable {gs : qhX}
def qpp (n:Nat) (t:qhX):TGD:=fun d ρ R=>match d with | .tup ds=>ds.length=n∧t ds ρ R | .lst ds=>ds.length=n∧t ds ρ R | _=>False
theorem PG.or {tg:Expr} {t t':TG} (h:PG X tg t) (h':PG X tg t'):PG X tg (fun v σ H Q=>t v σ H Q∨t' v σ H Q):=by
  intro pins s σ H v u Q I r hw
  rcases hw with hw | hw
  · exact h pins s σ H v u Q I r hw
  · exact h' pins s σ H v u Q I r hw
theorem ql7 {k n:Nat} (hc:X.calm=true) (h:PGDs K X es gs) (hn:(assignEach es X.env).length=n:=by rfl) (hst:(assignEach es X.env).findIdx? (·.1)=none:=by rfl):PGD K X (.Tuple es k pos) (qpp n gs) :=
  ⟨fun hK=>((qfl hK hc (h.pg hK) hn hst).or (qhc hK hc (h.pg hK) hn hst)).imp fun v σ H Q hq0=>by
    obtain ⟨H0,Φ,ρ,d,R,E,r,g,k⟩:=hq0
    cases d with
    | tup ds=>cases r with | tup h1 h2 h3=>exact .inl ⟨_,_,rfl,.of (E.fz _ _ h1),by rw [h2];exact g.1,H0,Φ,ρ,ds,R,E,⟨h2,h3⟩,g.2,k⟩
    | lst ds=>cases r with | lst h1 h2 h3=>exact .inr ⟨_,_,rfl,.of (E.fz _ _ h1),by rw [h2];exact g.1,H0,Φ,ρ,ds,R,E,⟨h2,h3⟩,g.2,k⟩
    | _=>exact g.elim⟩
theorem qlB {k n:Nat} {t:qhX} (h:GMs k t):GM k (qpp n t):=⟨⟨fun d ρ R r=>by
  cases d with
  | tup ds=>exact ⟨r.1,h.k.p ds ρ R r.2⟩
  | lst ds=>exact ⟨r.1,h.k.p ds ρ R r.2⟩
  | _=>exact r⟩,fun d ρ R R' hr r=>by
  cases d with
  | tup ds=>exact ⟨r.1,h.m ds ρ R R' hr r.2⟩
  | lst ds=>exact ⟨r.1,h.m ds ρ R R' hr r.2⟩
  | _=>exact r⟩
theorem qlE {Φ H:Hp} {d:D} {v:V} {T:String} {r:Bool} (s:Same Φ H) (h:RpQ K Φ H d v) (e:qq1 d T=some r):IsiV K H v T r:=by
  have sp:∀ {c:Prop} [Decidable c] {x:Bool} {y:Option Bool},(if c then some x else y)=some r→(c∧x=r)∨y=some r:=fun {c _ x y} h=>by
    by_cases hc:c
    · rw [if_pos hc] at h;cases h;exact .inl ⟨hc,rfl⟩
    · rw [if_neg hc] at h;exact .inr h
  cases d with
  | int i =>
    cases h.int
    rcases sp e with ⟨rfl,rfl⟩ | e
    · exact .int_int _
    rcases sp e with ⟨rfl,rfl⟩ | e
    · exact .int_bool _
    rcases sp e with ⟨rfl,rfl⟩ | e
    · exact .int_tuple _
    rcases sp e with ⟨rfl,rfl⟩ | e
    · exact .int_str _
    cases e
  | bl i =>
    cases h.bl
    rcases sp e with ⟨rfl,rfl⟩ | e
    · exact .bl_int _
    rcases sp e with ⟨rfl,rfl⟩ | e
    · exact .bl_bool _
    rcases sp e with ⟨rfl,rfl⟩ | e
    · exact .bl_tuple _
    cases e
  | str i =>
    cases h.str
    rcases sp e with ⟨rfl,rfl⟩ | e
    · exact .str_str _
    rcases sp e with ⟨rfl,rfl⟩ | e
    · exact .str_tuple _
    cases e
  | non=>cases e
  | tup ds =>
    obtain ⟨a,vs,rfl,h1,_,h2⟩:=h.tup s
    rcases sp e with ⟨rfl,rfl⟩ | e
    · exact .tup_tuple h1
    rcases sp e with ⟨rfl,rfl⟩ | e
    · exact .tup_int h1
    cases e
  | lst ds =>
    obtain ⟨a,vs,rfl,h1,h2⟩:=h.lst s
    rcases sp e with ⟨rfl,rfl⟩ | e
    · exact .lst_tuple (.of h1)
    rcases sp e with ⟨rfl,rfl⟩ | e
    · exact .lst_list (.of h1)
    cases e
  | fzl ds=>cases e
  | obj C fs=>cases e
  | map kvs=>cases e
  | exc _ _=>cases e
def qsm (T:String) (t:TD):TD:=fun ρ R=>t ρ fun d=>∃ r,qq1 d T=some r∧R (.bl r)
theorem qpb {T:String} {tx:Str} {p2:Pos} (hg:Gl X "isinstance") (hm:X.mg "isinstance"=none) (ha:PQ K X a t) (hT:PE X (.Name tx p2) (tC (.ty T)))
    (he:starEach [a,.Name tx p2] X.env=(false,eval a X.env)::starEach [.Name tx p2] X.env) (he2:starEach [.Name tx p2] X.env=(false,eval (.Name tx p2) X.env)::starEach [] X.env):PD K X (.Call (.Name "isinstance" p) [a,.Name tx p2] [] pos) (qsm T t) :=
  ⟨fun hK=>(qe0 (qfX hK) hg hm boot_isinstance (qa8 (ha.pe hK) (qa8 hT pa_nil he2) he) (by decide) (by decide) he (qaj he2 qac)).imp fun σ H Q hq0=>by obtain ⟨H0,Φ,ρ,R,E,t,k⟩:=hq0;exact ⟨H0,Φ,ρ,_,E,t,fun d Φ1 H1 v r g rv=>by
    obtain ⟨rr,hr,r⟩:=r
    exact ⟨v,T,rr,rfl,qlE g.s rv hr,k _ Φ1 H1 _ r g (.bl _)⟩⟩⟩
end
theorem qci {α:Type} {f:α→D} {ns:List α} {i:Nat} {x:D} (h:(ns.map f)[i]?=some x):∃ k,x=f k∧ns[i]?=some k:=by
  rw [List.getElem?_map] at h
  cases e:ns[i]? with
  | none=>rw [e] at h;cases h
  | some k=>rw [e] at h;cases h;exact ⟨k,rfl,rfl⟩
theorem qdx {α:Type} {f:α→D} {ns:List α} {i:Nat} {n:α} {k:Int} (h:ns[i]?=some n) (e:k=(i:Int)):atI (ns.map f) k=some (f n):=qiH (by rw [List.getElem?_map,h];rfl) e
theorem qnA {ns:List Int} {k:Int} (h0:0≤k) (h:k<(ns.length:Int)):∃ v:Int,atI (ns.map D.int) k=some (.int v):=by
  have hk:k.toNat<ns.length:=by omega
  exact ⟨_,qdx (qao hk) (by omega)⟩
def qlZ:SpD:=fun ds R=>∃ ns:List Int,ds=[.fzl (ns.map D.int)]∧ns.length≤63∧R (.bl true)
def qoQ (K:PySem.W.Frag):Sp:=fun vs H Q _=>∃ (a:Addr) (ns:List Int),vs=[.ref a]∧SqL K H a (ns.map V.int)∧ns.length≤63∧TabF K H∧∀ H',Q (.bl true) H'
theorem qkE {K:PySem.W.Frag}:∀ vs H Q E,qoQ K vs H Q E→lSp K qlZ vs H Q E:=by
  rintro vs H Q E ⟨a,ns,rfl,hS,hl,tb,q⟩
  refine ⟨H,[.fzl (ns.map D.int)],fun d=>d=.bl true,Same.refl _,tb,.one ((RpL.ints ns).fzl hS),⟨ns,rfl,hl,rfl⟩,fun d Φ' H' v r g rv=>?_⟩
  subst r
  cases rv
  exact q _
section
variable {K : PySem.W.Frag} {H H' Φ : Hp} {v : V} {vs : List V}
end
theorem qfi {α β:Type} (f:α→β) (xs:List α) (lo hi:Option Int):qcG (xs.map f) lo hi=(qcG xs lo hi).map f:=by
  unfold qcG
  rw [List.length_map,List.map_take,List.map_drop]
theorem qmz (k:Nat) (z:Int):(List.replicate k [D.int z]).flatten=(List.replicate k z).map D.int:=by
  induction k with
  | zero=>rfl
  | succ k ih=>rw [List.replicate_succ,List.flatten_cons,ih];rfl
section
variable {g : TGD} {te : TD} {ρ : Rho} {R : List D → Prop}
theorem qhq {ds:List D} (ws:List D) (hw:ws.length=ds.length) (hlen:ds.length<sizeLine) (Q:Nat→D→Prop) (hQ:∀ i y,Q i y→ws[i]?=some y) (hb:∀ i d,ds[i]?=some d→g d ρ fun ρ1=>te ρ1 (Q i)) (k:R ws) :
    ds.length<sizeLine∧∃ P:Nat→D→Prop,(∀ i d,ds[i]?=some d→g d ρ fun ρ1=>te ρ1 (P i))∧∀ ys:List D,ys.length=ds.length→(∀ i y,ys[i]?=some y→P i y)→R ys:=by
  refine ⟨hlen,Q,hb,fun ys hl hy=>?_⟩
  have:ys=ws:=by
    refine List.ext_getElem? fun i=>?_
    rcases Nat.lt_or_ge i ys.length with c | c
    · rw [qao c,hQ i _ (hy i _ (qao c))]
    · rw [List.getElem?_eq_none c,List.getElem?_eq_none (by omega)]
  rw [this]
  exact k
theorem qc1 {α:Type} {f:α→D} {xs:List α} (h:α→D) (hlen:xs.length<sizeLine) (hb:∀ x∈xs,g (f x) ρ fun ρ1=>te ρ1 fun y=>y=h x) (k:R (xs.map h)) :
    (xs.map f).length<sizeLine∧∃ P:Nat→D→Prop,(∀ i d,(xs.map f)[i]?=some d→g d ρ fun ρ1=>te ρ1 (P i))∧∀ ys:List D,ys.length=(xs.map f).length→(∀ i y,ys[i]?=some y→P i y)→R ys:=by
  refine qhq (xs.map h) (by simp) (by rw [List.length_map];exact hlen) (fun i=>match xs[i]? with | some x=>fun y=>y=h x | none=>fun _=>False) (fun i y q=>?_) (fun i d hd=>?_) k
  · rw [List.getElem?_map]
    cases e:xs[i]? with
    | none=>rw [e] at q;exact q.elim
    | some x=>rw [e] at q;rw [q];rfl
  · obtain ⟨x,rfl,hx⟩:=qci hd
    have e:(match xs[i]? with | some x=>fun y=>y=h x | none=>fun _=>False:D→Prop)=fun y=>y=h x:=by rw [hx]
    rw [e]
    exact hb x (List.mem_of_getElem? hx)
end
end L2
namespace L2
theorem ff {p:Prop} (h:false=true):p:=by cases h
theorem tf {p:Prop} (h:true=false):p:=by cases h
end L2
namespace L2
end L2
namespace L2
theorem qnl {α:Type} (f:α→D) (es:List α) (d:α):es.map f++[f d]=(es++[d]).map f:=by simp
end L2
namespace L2
open PySem PySem.Spec PyProof.Rows
section
variable {g : TGD} {te : TD} {ρ : Rho} {R : List D → Prop}
theorem qgj {α:Type} {f:α→D} {xs:List α} (h:α→Int) (hlen:xs.length<sizeLine) (hb:∀ x∈xs,g (f x) ρ fun ρ1=>te ρ1 fun y=>y=.int (h x)) (k:R ((xs.map h).map D.int)) :
    (xs.map f).length<sizeLine∧∃ P:Nat→D→Prop,(∀ i d,(xs.map f)[i]?=some d→g d ρ fun ρ1=>te ρ1 (P i))∧∀ ys:List D,ys.length=(xs.map f).length→(∀ i y,ys[i]?=some y→P i y)→R ys :=
  qc1 (fun x=>D.int (h x)) hlen hb (by rw [List.map_map] at k;exact k)
end
theorem qkk {n:Nat} {g g':Nat→Bool} (h:∀ j,j<n→g j=g' j):(List.range n).all g=(List.range n).all g':=by
  rw [Bool.eq_iff_iff,List.all_eq_true,List.all_eq_true]
  exact ⟨fun q j hj=>(h j (List.mem_range.mp hj)) ▸ q j hj,fun q j hj=>(h j (List.mem_range.mp hj)).symm ▸ q j hj⟩
section
variable {K : PySem.W.Frag} {X : Cx} {pins : List (Addr × Obj)} {σ : St} {Φ H : Hp} {s : Shared}
theorem qok (hK:X.K=K) (I:Inv X pins σ H s) (sm:Same Φ H):∀ (n:Nat) {d d' e:D} {b b':Bool} {v:V},Rp K Φ d v→Rp K Φ d' v→cmB n d e=some b→cmB n d' e=some b'→b=b':=by
  intro n
  have flat:∀ (m:Nat) {d d' e:D} {b b':Bool} {v:V},(∀ a,v≠.ref a)→Rp K Φ d v→Rp K Φ d' v→cmB m d e=some b→cmB m d' e=some b'→b=b':=fun m {d d' e b b' v} hf r1 r2 h1 h2=>by
    have:d=d':=by
      cases r1 with
      | int i=>cases r2;rfl
      | bl i=>cases r2;rfl
      | str i=>cases r2;rfl
      | non=>cases r2;rfl
      | tup _ _ _=>exact absurd rfl (hf _)
      | lst _ _ _=>exact absurd rfl (hf _)
      | fzl _ _ _=>exact absurd rfl (hf _)
      | obj _ _ _ _=>exact absurd rfl (hf _)
      | map _ _ _=>exact absurd rfl (hf _)
      | exc0 _ _=>exact absurd rfl (hf _)
      | exc1 _ _ _ _=>exact absurd rfl (hf _)
    subst this
    rw [h1] at h2
    cases h2
    rfl
  induction n with
  | zero =>
    intro d d' e b b' v r1 r2 h1 h2
    by_cases hf:∀ a,v≠.ref a
    · exact flat 0 hf r1 r2 h1 h2
    · cases r1 with
      | int i=>exact absurd (fun a e=>nomatch e) hf
      | bl i=>exact absurd (fun a e=>nomatch e) hf
      | str i=>exact absurd (fun a e=>nomatch e) hf
      | non=>exact absurd (fun a e=>nomatch e) hf
      | tup _ _ _=>cases e <;> cases h1
      | lst _ _ _=>cases e <;> cases h1
      | fzl _ _ _=>cases e <;> cases h1
      | obj _ _ _ _=>cases e <;> cases h1
      | map _ _ _=>cases e <;> cases h1
      | exc0 _ _=>cases e <;> cases h1
      | exc1 _ _ _ _=>cases e <;> cases h1
  | succ n ih =>
    intro d d' e b b' v r1 r2 h1 h2
    by_cases hf:∀ a,v≠.ref a
    · exact flat _ hf r1 r2 h1 h2
    have zip:∀ {xs xs' ys:List D} {vs:List V} {b b':Bool},vs.length=xs.length→vs.length=xs'.length→(∀ (i:Nat) (v:V) (d:D),vs[i]?=some v→xs[i]?=some d→Rp K Φ d v)→(∀ (i:Nat) (v:V) (d:D),vs[i]?=some v→xs'[i]?=some d→Rp K Φ d v)→cmL (cmB n) xs ys=some b→cmL (cmB n) xs' ys=some b'→b=b':=fun {xs xs' ys vs b b'} l1 l2 p1 p2 h1 h2=>by
      obtain ⟨g,hg,hb⟩:=qcS h1
      obtain ⟨g',hg',hb'⟩:=qcS h2
      have e1:xs.length=xs'.length:=by omega
      rw [hb,hb',e1]
      congr 1
      refine qkk fun j j0=>?_
      have i0:j<vs.length:=by omega
      have i1:j<xs.length:=by omega
      have i2:j<xs'.length:=by omega
      have i3:j<ys.length:=by omega
      exact ih (p1 j _ _ (qao i0) (qao i1)) (p2 j _ _ (qao i0) (qao i2)) (hg j _ _ (qao i1) (qao i3)) (hg' j _ _ (qao i2) (qao i3))
    cases r1 with
    | int i=>exact absurd (fun a e=>nomatch e) hf
    | bl i=>exact absurd (fun a e=>nomatch e) hf
    | str i=>exact absurd (fun a e=>nomatch e) hf
    | non=>exact absurd (fun a e=>nomatch e) hf
    | @tup a vs xs a1 a2 a3=>cases r2 with
      | @tup _ ws ys b1 b2 b3 =>
        have hvw:vs=ws:=I.tuple_inj (.of (sm _ _ a1)) (.of (sm _ _ b1))
        subst hvw
        cases e with
        | tup es=>exact zip a2 b2 a3 b3 h1 h2
        | _=>cases h1
      | @lst _ ws ys b1 b2 b3=>cases e <;> first | cases h1;done | cases h2;done
      | @fzl _ ws ys b1 b2 b3=>cases e <;> first | cases h1;done | cases h2;done
      | obj _ _ _ _=>cases e <;> first | cases h1;done | cases h2;done
      | map _ _ _=>cases e <;> first | cases h1;done | cases h2;done
      | exc0 _ _=>cases e <;> first | cases h1;done | cases h2;done
      | exc1 _ _ _ _=>cases e <;> first | cases h1;done | cases h2;done
    | @lst a vs xs a1 a2 a3=>cases r2 with
      | @lst _ ws ys b1 b2 b3 =>
        have hvw:vs=ws:=by rw [a1] at b1;cases b1;rfl
        subst hvw
        cases e with
        | lst es =>
          have q1:(if xs.length=es.length then cmL (cmB n) xs es else some false)=some b:=h1
          have q2:(if ys.length=es.length then cmL (cmB n) ys es else some false)=some b':=h2
          by_cases c:xs.length=es.length
          · rw [if_pos c] at q1
            rw [if_pos (by omega)] at q2
            exact zip a2 b2 a3 b3 q1 q2
          · rw [if_neg c] at q1
            rw [if_neg (by omega)] at q2
            rw [q1] at q2
            cases q2
            rfl
        | _=>cases h1
      | @tup _ ws ys b1 b2 b3=>cases e <;> first | cases h1;done | cases h2;done
      | @fzl _ ws ys b1 b2 b3=>cases e <;> first | cases h1;done | cases h2;done
      | obj _ _ _ _=>cases e <;> first | cases h1;done | cases h2;done
      | map _ _ _=>cases e <;> first | cases h1;done | cases h2;done
      | exc0 _ _=>cases e <;> first | cases h1;done | cases h2;done
      | exc1 _ _ _ _=>cases e <;> first | cases h1;done | cases h2;done
    | fzl _ _ _=>cases e <;> cases h1
    | obj _ _ _ _=>cases e <;> cases h1
    | map _ _ _=>cases e <;> cases h1
    | exc0 _ _=>cases e <;> cases h1
    | exc1 _ _ _ _=>cases e <;> cases h1
end
@[irreducible] def qeR (x:D) (y:D) (R:D→Prop):Prop:=match x with
  | .lst ds=>ds.length≤1000∧∃ (bs:List Bool) (j:Nat),bs.length=ds.length∧(∀ (i:Nat) d b,ds[i]?=some d→bs[i]?=some b→cmB 39 d y=some b)∧bs[j]?=some true∧(∀ i,i<j→bs[i]?=some false)∧R (.int (j:Int))
  | _=>False
section
variable {K : PySem.W.Frag} {X : Cx} {a b : Expr} {ta tb : TD} {apos cpos : Pos}
open Classical in
theorem qjc (hK:X.K=K) (hu:X.A.units+64<cLine):MtR X "list.index" (fun x xs H Q=>∃ Φ dx dy R y,Same Φ H∧xs=[y]∧RpQ K Φ H dx x∧RpQ K Φ H dy y∧qeR dx dy R∧∀ d Φ' H' v,R d→Gr Φ H Φ' H'→Rp K Φ' d v→Q v H'):=by
  intro pins s σ H x xs v us Q I rx rs ⟨Φ,dx,dy,R,y,sm,e,hx,hy,h,k⟩
  subst e
  obtain ⟨u,rfl,ru⟩:=qkN rs
  unfold qeR at h
  cases dx with
  | lst ds =>
    obtain ⟨hl,bs,j,hbl,hb,hj,hno,r⟩:=h
    obtain ⟨a,vs,rfl,h1,h2⟩:=hx.lst sm
    cases rx
    obtain ⟨its,n,rv,ho,hz⟩:=I.lst h1
    have l1:=Vals.length rv
    have hjl:j<bs.length:=qag hj
    have hs2:Same Φ H:=sm
    let e:Value→Bool:=fun z=>decide (∃ m:Nat,its[m]?=some z∧bs[m]?=some true)
    have at_:∀ (m:Nat) z,its[m]?=some z→∃ (w:V) (d:D) (b:Bool),RelV w z∧Rp K H d w∧ds[m]?=some d∧bs[m]?=some b∧cmB 39 d dy=some b:=fun m z hm=>by
      have i0:m<its.length:=qag hm
      have i1:m<vs.length:=by omega
      have i2:m<ds.length:=by rw [← h2.1];exact i1
      have i3:m<bs.length:=by omega
      obtain ⟨u',hu',r'⟩:=Vals.get (i:=m) (x:=vs[m]) rv (qao i1)
      rw [hm] at hu'
      cases hu'
      exact ⟨vs[m],ds[m],bs[m],r',(h2.2 m _ _ (qao i1) (qao i2)).same sm,qao i2,qao i3,hb m _ _ (qao i2) (qao i3)⟩
    have det:∀ (m m':Nat) z b b',its[m]?=some z→its[m']?=some z→bs[m]?=some b→bs[m']?=some b'→b=b':=fun m m' z b b' hm hm' q q'=>by
      obtain ⟨w,d,c,r1,p1,_,q1,c1⟩:=at_ m z hm
      obtain ⟨w',d',c',r1',p1',_,q1',c1'⟩:=at_ m' z hm'
      rw [q] at q1
      rw [q'] at q1'
      cases q1
      cases q1'
      have:=r1.inj r1'
      subst this
      exact qok hK I (Same.refl H) 39 p1 p1' c1 c1'
    have eval_e:∀ (m:Nat) z b,its[m]?=some z→bs[m]?=some b→e z=b:=fun m z b hm q=>by
      show decide (∃ m:Nat,its[m]?=some z∧bs[m]?=some true)=b
      cases b with
      | true=>exact decide_eq_true ⟨m,hm,q⟩
      | false=>exact decide_eq_false fun ⟨m',h1,h2⟩=>by cases det m m' z _ _ hm h1 q h2
    have hj0:j<its.length:=by have:=h2.1;omega
    refine call_meets PySem.F.slot_list_index ⟨_,ho,rfl⟩ PySem.F.entry_list_index (PySem.F.args_list_index_2 _ _)
      (PySem.SeqAt.list_indexAt a its.toArray n none #[] u e j (by simpa using hj0) (by omega) ?_ ?_) ⟨ho,fun z hz=>?_,?_⟩
    · simp only [List.getElem_toArray]
      exact eval_e j _ true (qao hj0) hj
    · intro m hm hlt
      simp only [List.size_toArray] at hm
      simp only [List.getElem_toArray]
      exact eval_e m _ false (qao hm) (hno m hlt)
    · have hz':z∈its:=by simpa using hz
      obtain ⟨m,hm⟩:=List.getElem?_of_mem hz'
      obtain ⟨w,d,b,r1,p1,q1,q2,q3⟩:=at_ m z hm
      rw [eval_e m z b hm q2]
      exact (qjn hK I (Same.refl H) 39 q3 p1 (hy.any sm) X.A.in1 z u (by show X.A.units+1+39<cLine;omega) r1 ru).1
    · exact ⟨.int j,H,I.tok _,⟨_,rfl⟩,k _ Φ H _ r (.refl sm) (.int _)⟩
  | _=>exact h.elim
def qos (ta tb:TD):TD:=fun ρ R=>ta ρ fun x=>(match x with | .lst _=>True | _=>False)∧tb ρ fun y=>qeR x y R
theorem qmS (hu:X.A.units+64<cLine) (ha:PQ K X a ta) (hb:PD K X b tb) (hbase:attributeBase a "index" X.env (eval a X.env)=eval a X.env:=by rfl) (hfew:((backTo cpos (starEach [b] X.env)).all (fun x=>!x.1) && (backToKw cpos (keywordEach [] X.env)).all (fun x=>x.1.isSome) && decide (([b]:List Expr).length+([]:List Keyword).length+(if ([]:List Keyword).isEmpty then 0 else 1)<30))=true)
    (hse:starEach [b] X.env=(false,eval b X.env)::starEach [] X.env) (hline:(apos.endLine == cpos.line)=true:=by rfl):PD K X (.Call (.Attribute a "index" apos) [b] [] cpos) (qos ta tb) :=
  ⟨fun hK=>(qgO PySem.F.plainAttrs_list PySem.F.slot_list_index PySem.F.type_list_index (qjc hK hu) (ha.pe hK) (qa8 (hb.pe hK) pa_nil hse) hbase hfew hline hse qac).imp fun σ H Q hq0=>by obtain ⟨H0,Φ,ρ,R,E,t,k⟩:=hq0;exact ⟨H0,Φ,ρ,_,E,t,fun dx Φ1 H1 x t1 g1 rx=>by
    cases dx with
    | lst ds =>
      obtain ⟨a,vs,rfl,q1,q2⟩:=rx.lst g1.s
      refine ⟨.inl ⟨rfl,vs,SqL.of q1⟩,H0,Φ1,ρ,_,E.gr g1,t1.2,fun dy Φ2 H2 y t2 g2 ry=>⟨Φ2,.lst ds,dy,R,y,g2.s,rfl,rx.gr g2,.inl ry,t2,fun d Φ' H' v r g rr=>k d Φ' H' v r ((g1.trans g2).trans g) rr⟩⟩
    | _=>exact t1.1.elim⟩⟩
end
end L2
namespace L2
open PySem PySem.Spec PyProof.Rows
section
variable {K : PySem.W.Frag} {X : Cx} {e b : Expr} {te tk : TD} {pos spos npos : Pos} {x : Str}
theorem qj0 (h:X.K=K):qqn X (qoj K):=h ▸ qkn
end
section
variable {K : PySem.W.Frag} {X : Cx} {e a st : Expr} {pos p2 : Pos} {te : TE}
end
section
variable {K : PySem.W.Frag} {X : Cx} {a st : Expr} {pos p2 : Pos} {ta : TD} {to : TOD}
end
section
variable {K : PySem.W.Frag} {Φ Φ0 Φ1 H H0 H1 : Hp} {p : Addr} {d : D} {v : V} {ds : List D} {vs : List V}
end
section
variable {K : PySem.W.Frag} {X : Cx} {e : Expr} {te : TD} {pos pos' : Pos}
end
section
variable {K : PySem.W.Frag} {X : Cx} {Φ H : Hp} {a e : Expr} {es : List Expr} {ta : TD} {tl : TDL} {C : Addr} {fl : Str} {pos p : Pos}
theorem qgd {g:Str} {d:D}:∀ {vs:List (Str × V)} {fs:List (Str × D)},vs.map (·.1)=fs.map (·.1)→(∀ (i:Nat) (v:Str × V) (e:Str × D),vs[i]?=some v→fs[i]?=some e→Rp K Φ e.2 v.2)→fs.lookup g=some d→∃ v,vs.lookup g=some v∧Rp K Φ d v
  | [],[],_,_,h=>by cases h
  | [],_::_,h,_,_=>by cases h
  | _::_,[],h,_,_=>by cases h
  | (x,v)::vs,(y,f)::fs,h,hr,hl=>by
    rw [List.map_cons,List.map_cons] at h
    obtain ⟨h1,h2⟩:=List.cons.inj h
    have h1:x=y:=h1
    subst h1
    rw [List.lookup_cons] at hl ⊢
    cases c:g == x with
    | true =>
      rw [c] at hl
      cases hl
      exact ⟨v,rfl,hr 0 _ _ rfl rfl⟩
    | false =>
      rw [c] at hl
      exact qgd h2 (fun i u e hu he=>hr (i+1) u e hu he) hl
def qsD (nm:Str) (f:Str) (t:TD):TD:=fun ρ R=>t ρ fun x=>match x with | .obj nm' fs=>nm'=nm∧∃ d,fs.lookup f=some d∧R d | _=>False
theorem qj3 {te:TE} (hK:X.K=K) (he:PE X a te) (hb:attributeBase a fl X.env (eval a X.env)=eval a X.env):PE X (.Attribute a fl pos) (qrM K te fl):=hK ▸ qnL he hb
theorem qde {nm:Str} (c:Cls K C) (nA:NoAttr K C fl) (hC:PySem.W.nsIn K mainGlobals nm=some (some (.ref C))) (ha:PQ K X a ta) (hb:attributeBase a fl X.env (eval a X.env)=eval a X.env:=by rfl):PD K X (.Attribute a fl pos) (qsD nm fl ta) :=
  ⟨fun hK=>(qj3 hK (ha.pe hK) hb).imp fun σ H Q hq0=>by obtain ⟨H0,Φ,ρ,R,E,t,k⟩:=hq0;exact ⟨H0,Φ,ρ,_,E,t,fun d Φ1 H1 v r g rv=>by
    cases d with
    | obj C' fs =>
      obtain ⟨rfl,d,hl,r⟩:=r
      rcases rv with rv | ⟨_,_,_,e,_⟩
      · cases rv with
        | obj h0 h1 h2 h3 =>
          rw [hC] at h0
          cases h0
          obtain ⟨v,hv,rd⟩:=qgd h2 h3 hl
          exact ⟨_,_,_,_,v,rfl,g.s _ _ h1,c,nA,hv,k d Φ1 H1 v r g rd⟩
      · cases e
    | _=>exact r.elim⟩⟩
variable {CX : CXT} {k : Nat} {f : Addr} {fd : FuncData} {ps ns : List Str} {x : Str} {E : XK}
end
section
variable {prog : Program} {w : World} {A : Around} {E : Value → Shared → Prop} {s : Shared}
end
section
variable {K : PySem.W.Frag} {X : Cx} {a : Expr} {pos p p2 pos2 : Pos} {tl : TDL}
end
section
variable {X : Cx} {A : Around} {scope : Scope} {p : Str} {r : List Str} {cap : List (Option Nat)} {cl : List (Str × Addr)} {f c' : Addr} {qual name : Str} {cd pm ctv : Value} {pins : List (Addr × Obj)} {σ : St} {H : Hp} {s s1 : Shared} {v : V} {u : Value} {params : Arguments} {body : Expr} {te : TE} {Q : VK} {E : Value → Shared → Prop}
end
section
variable {X : Cx} {A : Around} {pins : List (Addr × Obj)} {σ : St} {H : Hp} {s : Shared} {params : Arguments} {body : Expr} {scope : Scope} {pos : Pos} {c P : Addr} {t0 : Tok} {Q : Value → Shared → Prop} {E : Value → Shared → Prop}
end
section
variable {X : Cx} {pins : List (Addr × Obj)} {σ : St} {H : Hp} {xs : List V} {l S I f : Addr} {fob : Obj} {kf : Nat → Int} {G : Hp → Prop} {R : Result → Shared → Prop} {kw : List (Str × Value)}
end
section
variable {X : Cx} {pins : List (Addr × Obj)} {σ : St} {H : Hp} {xs : List V} {l f : Addr} {fob : Obj} {kf : Nat → Int} {G : Hp → Prop} {s : Shared} {Q : Value → Shared → Prop} {E : Value → Shared → Prop}
end
section
variable {K : PySem.W.Frag} {X : Cx} {l body : Expr} {tl tb : TD} {scope : Scope} {p : Str} {r : List Str} {cap : List (Option Nat)} {params : Arguments} {np pos lp kp1 kp2 kp3 : Pos} {c P : Addr} {j : Nat}
end
section
variable {P : Program} {w : World} {K : PySem.W.Frag} {mg : Str → Option Value} {base : Heap}
theorem Fun.okL {x qual:Str} {st:Stmt} {f:Addr} {fd:FuncData} {N ps:List Str} {k:Nat} {sp:Sp} (F:Fun K x qual st f fd) (S:FnScope N ps (qaf st)) (len:∀ vs H Q E,sp vs H Q E→vs.length=ps.length)
    (hbody:∀ (cdv:Value) (A:Around) (outer:List Env) (s:Shared) (H:Hp) (vs:List V) (Q:VK) (E:XK),fd.code=cdv→Room k (A.deeper (envOfC qual (qaf st) s.heap.objs.size f cdv))→sp vs H Q E →
      ∃ t,PSs (qkf CX0 P w K mg base N qual (qaf st) f cdv A outer s H E).nox (qa3 st) t∧t { nx:=fun _ H'=>Q .non H',rt:=Q } (qcK N vs) H):FnOk P w K mg base CX0 (k+1) f fd ps sp:=by
  obtain ⟨oc,od,kV,doc,pm,an,cdv,ct,osl,rfl,lk,hcd⟩:=F.ex
  refine qob lk hcd S len fun A outer s H vs Q E hr hsp=>?_
  obtain ⟨t,h,q⟩:=hbody cdv A outer s H vs Q E rfl hr hsp
  exact ⟨t,h.nox,q⟩
end
theorem qeU {K:PySem.W.Frag} {x:Str} (a:PySem.W.nsIn K mainGlobals x=some none):qmH K x=none:=by
  unfold qmH
  simp only [a]
end L2
namespace L2
open PySem PySem.W PyProof.Rows
section
variable {key : Nat → Int} {N : Nat} {p : Array Nat}
variable (hk : ∀ i j, i < N → j < N → key i = key j → i = j)
include hk
end
end L2
namespace L2
open PySem PySem.Spec PySem.W PyProof.Rows PySem.Calls
section
variable {prog : Program} {w : World} {A : Around} {E : Value → Shared → Prop} {s : Shared} {h₀ : Heap} {L a : Addr} {m : Str → Option Value} {news : List (Addr × Obj)} {vs : List Value}
end
end L2
namespace L2
open PySem PySem.Spec PySem.W PyProof.Rows PySem.Calls
section
variable {K : PySem.W.Frag} {X : Cx}
end
end L2
namespace L2
open PySem PySem.Spec PyProof.Rows
section
variable {X : Cx}
end
section
variable {K : PySem.W.Frag} {X : Cx} {e e2 : Expr} {te te2 : TD} {pos : Pos}
end
def qk6:Key→D
  | .inl i=>.int i
  | .inr s=>.str s
theorem qjN {K:PySem.W.Frag} {Φ:Hp} {k:Key} {v:V} (r:Rp K Φ (qk6 k) v):v=kV k:=by
  cases k with
  | inl i=>cases r;rfl
  | inr s=>cases r;rfl
theorem qjT {K:PySem.W.Frag} {Φ H:Hp} {k:Key} {v:V} (r:RpQ K Φ H (qk6 k) v):v=kV k:=by
  cases k with
  | inl i=>exact RpQ.int r
  | inr s=>exact RpQ.str r
theorem qhD {K:PySem.W.Frag} {Φ:Hp} {ks:List Key} {vs:List V} (r:RpL K Φ (ks.map qk6) vs):vs=ks.map kV:=by
  refine List.ext_getElem? fun i=>?_
  rw [List.getElem?_map]
  cases h:ks[i]? with
  | none =>
    have h1:=List.getElem?_eq_none_iff.mp h
    exact List.getElem?_eq_none (by rw [r.1,List.length_map];exact h1)
  | some k =>
    obtain ⟨v,hv,rv⟩:=r.at (i:=i) (d:=qk6 k) (by rw [List.getElem?_map,h];rfl)
    rw [hv,qjN rv]
    rfl
def qfI (k:Key) (ks:List Key):Bool:=ks.any fun j=>decide (j=k)
theorem qfk (k:Key) (ks:List Key):qfI k ks=true↔k∈ks:=by
  unfold qfI
  rw [List.any_eq_true]
  exact ⟨fun ⟨j,h1,h2⟩=>of_decide_eq_true h2 ▸ h1,fun h=>⟨k,h,decide_eq_true rfl⟩⟩
theorem qdR (k:Key):qfF (kV k)=true:=by cases k <;> rfl
theorem qmk (j k:Key):eqV (kV j) (kV k)=decide (j=k):=by
  cases j with
  | inl a =>
    cases k with
    | inl b=>show (a == b)=_;by_cases h:a=b <;> simp [h]
    | inr b=>show false=_;simp
  | inr a =>
    cases k with
    | inl b=>show false=_;simp
    | inr b=>show (a == b)=_;by_cases h:a=b <;> simp [h]
theorem qhA (k:Key) (ks:List Key):inV (kV k) (ks.map kV)=qfI k ks:=by
  unfold inV qfI
  rw [List.any_map]
  exact List.any_congr rfl fun j=>qmk j k
def zIn (neg:Bool):RD2:=fun dx dy R=>∃ (k:Key) (ks:List Key),dx=qk6 k∧qk3 dy=some (ks.map qk6)∧R (.bl (neg != qfI k ks))
section
variable {K : PySem.W.Frag} {X : Cx}
theorem qrm:OpD K X (compareOp .In) (zIn false):=⟨fun hK pins s σ H x y u v Q I rx ry hq0=>by
  obtain ⟨Φ,dx,dy,R,sm,hx,hy,⟨k,ks,rfl,e,h⟩,kk⟩:=hq0
  cases qjT hx
  obtain ⟨a,vs,rfl,q,rl⟩:=hy.seq sm e
  cases qhD rl
  refine qi5 pins s σ H _ _ u v Q I rx ry ⟨a,_,rfl,by rw [hK];exact q,qdR k,?_,?_⟩
  · rw [List.all_eq_true]
    intro z hz
    obtain ⟨j,_,rfl⟩:=List.mem_map.mp hz
    exact qdR j
  · have e2:(if false=true then !inV (kV k) (ks.map kV) else inV (kV k) (ks.map kV))=(false != qfI k ks):=by rw [qhA];simp
    rw [e2]
    exact kk _ Φ H _ h (.refl sm) (.bl _)⟩
theorem qfv:OpD K X (compareOp .NotIn) (zIn true):=⟨fun hK pins s σ H x y u v Q I rx ry hq0=>by
  obtain ⟨Φ,dx,dy,R,sm,hx,hy,⟨k,ks,rfl,e,h⟩,kk⟩:=hq0
  cases qjT hx
  obtain ⟨a,vs,rfl,q,rl⟩:=hy.seq sm e
  cases qhD rl
  refine qgi pins s σ H _ _ u v Q I rx ry ⟨a,_,rfl,by rw [hK];exact q,qdR k,?_,?_⟩
  · rw [List.all_eq_true]
    intro z hz
    obtain ⟨j,_,rfl⟩:=List.mem_map.mp hz
    exact qdR j
  · have e2:(if true=true then !inV (kV k) (ks.map kV) else inV (kV k) (ks.map kV))=(true != qfI k ks):=by rw [qhA];simp
    rw [e2]
    exact kk _ Φ H _ h (.refl sm) (.bl _)⟩
end
section
variable {K : PySem.W.Frag} {X : Cx} {e ev : Expr} {te tv : TD} {pos : Pos}
def qqS (i:Nat):TSD:=fun De ρ=>De.nx (ρ.set i (some (.dct [])))
theorem qon {i:Nat} {x:Str} {pos' dpos:Pos} (hN:X.N.Nodup) (hi:X.N[i]?=some x) (hx:Loc X.env.scope x) (hs:swapsWith (.Dict [] [] dpos) (some (.Name x pos')) pos.line X.env=pure false:=by rfl) (hf:X.fn x=true∨X.env.scope.names.lookup x=some .local:=by first | exact .inl rfl | exact .inr rfl | assumption) :
    PSD K X (.Assign [.Name x pos'] (.Dict [] [] dpos) pos) (qqS i):=⟨fun hK=>(qhz hN hi hx qlh hs hf).imp fun E σ H hq0=>by
  obtain ⟨Φ0,H0,Φ,ρ,De,g,V,t,k⟩:=hq0
  intro p hp
  have g1:Gr Φ H Φ (upd H p (.dK [])):=Gr.fresh V.fz hp _
  refine k.nx _ Φ _ _ t (g.trans g1) ((V.gr g1).setOb (o:=.dct []) (u:=.dK []) rfl (g.h.free hp) (V.fz.free hp) qai (fun j w hj z=>?_) i)
  obtain ⟨q,ws,e,_,_,hq,_⟩:=V.ow j _ hj
  rw [e] at z
  cases z
  rw [hp] at hq
  cases hq⟩
theorem qhb (k:Key) (kvs:List (Key × V)):(qii kvs k).isSome=qfI k (kvs.map (·.1)):=by
  rw [← qdL]
  unfold qfI
  rw [List.any_map]
  rfl
def qrx (neg:Bool) (i:Nat) (te:TD):TDB:=fun ρ R=>match ρ[i]? with
  | some (some (.ob (.dct ks)))=>te ρ fun d=>∃ k,d=qk6 k∧R (neg != qfI k ks)
  | _=>False
theorem qqh {npos:Pos} {x:Str} (i:Nat) (hu:X.A.units+64<cLine) (he:PD K X e te) (hN:X.N[i]?=some x:=by rfl) (hv:Vis X.env.scope x:=by first | exact Or.inl rfl | exact Or.inr (Or.inl rfl) | exact Or.inr (Or.inr rfl)) (hd:(x == ("__debug__":Str))=false:=by decide) (hcd:(x == ("__classdict__":Str))=false:=by decide)
    (hm:behindInMarks .In (.Name x npos)=false:=by rfl):PTD K X (.Compare e [.In] [.Name x npos] pos) (qrx false i te) :=
  ⟨fun hK=>(qoc (qov (by omega) (he.pe hK) (pv i hN hv hd hcd)) hm).imp fun σ H Q hq0=>by
    obtain ⟨H0,Φ,ρ,R,E,t,k⟩:=hq0
    unfold qrx at t
    split at t
    · next ks ho =>
      refine ⟨H0,Φ,ρ,_,E,t,fun d Φ1 H1 v r g1 rv=>?_⟩
      obtain ⟨kk,rfl,r⟩:=r
      cases qjN rv
      obtain ⟨p,kvs,e1,h0,hn,hp,rl⟩:=(E.gr g1).owd i ks ho
      refine ⟨_,e1,p,_,rfl,.k hp,_,rfl,?_⟩
      rw [qhb,rl]
      have e2:qfI kk ks=(false != qfI kk ks):=by simp
      rw [e2]
      exact k _ Φ1 H1 r g1
    · exact t.elim⟩
theorem qkA (k:Key) (v:V) (kvs:List (Key × V)):(qhl kvs k v).map (·.1)=if qfI k (kvs.map (·.1))=true then kvs.map (·.1) else kvs.map (·.1)++[k]:=by
  unfold qhl
  have h:=qhb k kvs
  rw [← qdL] at h
  rw [h]
  by_cases c:qfI k (kvs.map (·.1))=true
  · rw [if_pos c,if_pos c,List.map_map]
    refine List.map_congr_left fun p _=>?_
    show (if p.1=k then (p.1,v) else p).1=p.1
    split <;> rfl
  · rw [if_neg c,if_neg c,List.map_append]
    rfl
def qlS (i:Nat) (te tv:TD):TSD:=fun De ρ=>match ρ[i]? with
  | some (some (.ob (.dct ks)))=>tv ρ fun _=>te ρ fun d=>∃ k,d=qk6 k∧ks.length<sizeLine∧NF (if qfI k ks=true then ks else ks++[k]) fun ls=>De.nx (ρ.set i (some (.dct ls)))
  | _=>False
theorem qoK {npos spos:Pos} {x:Str} (i:Nat) (hu:X.A.units+64<cLine) (he:PD K X e te) (hw:PD K X ev tv) (hN:X.N[i]?=some x:=by rfl) (hv:Vis X.env.scope x:=by first | exact Or.inl rfl | exact Or.inr (Or.inl rfl) | exact Or.inr (Or.inr rfl)) (hd:(x == ("__debug__":Str))=false:=by decide) (hcd:(x == ("__classdict__":Str))=false:=by decide)
    (hs:swapsWith ev (some (.Subscript (.Name x npos) e spos)) pos.line X.env=pure false:=by rfl):PSD K X (.Assign [.Subscript (.Name x npos) e spos] ev pos) (qlS i te tv) :=
  ⟨fun hK=>(qmy (by omega) (pv i hN hv hd hcd) (he.pe hK) (hw.pe hK) hs).imp fun E σ H hq0=>by
    obtain ⟨Φ0,H0,Φ,ρ,De,g,V,t,k⟩:=hq0
    unfold qlS at t
    split at t
    · next ks ho =>
      refine ⟨H0,Φ,ρ,_,V,t,fun d0 Φ1 H1 v0 r0 g1 rv0=>?_⟩
      have V1:=V.gr g1
      obtain ⟨p,kvs,e1,h0,hn,hp,rl⟩:=V1.owd i ks ho
      refine ⟨_,e1,H0,Φ1,ρ,_,V1,r0,fun d Φ2 H2 v r g2 rv=>?_⟩
      obtain ⟨kk,rfl,hl,r⟩:=r
      cases qjN rv
      have hp2:=g2.h _ _ hp
      have hn2:=g2.o _ _ hp hn
      refine ⟨p,_,rfl,.k hp2 (by rw [← List.length_map (f:=(·.1)),rl];exact hl),k.nx _ Φ2 _ σ r.get (qji ((g.trans g1).trans g2) h0 hn2) ((V1.gr g2).putOb (o':=.dct _) ho e1 ?_)⟩
      show (qhl kvs kk v0).map (·.1)=_
      rw [qkA,rl]
    · exact t.elim⟩
end
theorem qf9:∀ {zs:List Str} {us:List Value},Vals (zs.map V.str) us→∃ l:List (Str × Tok),us=strValues l∧l.map (·.1)=zs
  | [],_,h=>by
    rw [List.map_nil] at h
    cases h
    exact ⟨[],rfl,rfl⟩
  | z::zs,_,h=>by
    rw [List.map_cons] at h
    cases h with
    | cons r t =>
      obtain ⟨tk,rfl⟩:=r
      obtain ⟨l,rfl,e⟩:=qf9 t
      exact ⟨(z,tk)::l,rfl,by rw [List.map_cons,e]⟩
section
variable {X : Cx}
end
section
variable {K : PySem.W.Frag} {X : Cx} {a b : Expr} {ta tb : TD} {apos cpos : Pos}
theorem qll {Φ:Hp} {zs:List Str} {vs:List V} (r:RpL K Φ (zs.map D.str) vs):vs=zs.map V.str:=by
  refine List.ext_getElem? fun i=>?_
  rw [List.getElem?_map]
  cases h:zs[i]? with
  | none =>
    have h1:=List.getElem?_eq_none_iff.mp h
    exact List.getElem?_eq_none (by rw [r.1,List.length_map];exact h1)
  | some z =>
    obtain ⟨v,hv,rv⟩:=r.at (i:=i) (d:=.str z) (by rw [List.getElem?_map,h];rfl)
    rw [hv]
    cases rv
    rfl
def qo7 (d:D):TD:=fun _ R=>R d
theorem qfa {x:Str} {i:Int} {tk:Tok} {pos:Pos} (hg:Gl X x) (hm:X.mg x=some (.int i tk)) (hd:(x == ("__debug__":Str))=false:=by decide):PD K X (.Name x pos) (qo7 (.int i)) :=
  ⟨fun hK=>(qjv (v:=.int i) hg hm ⟨tk,rfl⟩ hd).imp fun σ H Q hq0=>by
    obtain ⟨H0,Φ,ρ,R,E,t,k⟩:=hq0
    exact k _ Φ H _ t (.refl E.fz) (.int i)⟩
end
end L2
namespace L2
open PySem PySem.Spec PySem.W PyProof.Rows PySem.Calls
section
variable {K : PySem.W.Frag} {X : Cx}
end
end L2
namespace L2
open PySem PySem.Spec PyProof.Rows
section
variable {K : PySem.W.Frag} {X : Cx} {e ev : Expr} {te tv : TD} {tk : TDK} {pos p : Pos}
end
section
variable {K : PySem.W.Frag} {X : Cx} {a : Expr} {pos p p2 pos2 : Pos} {tl : TDL}
end
section
variable {K : PySem.W.Frag} {X : Cx} {e : Expr} {es : List Expr} {pos p : Pos} {tl : TDL} {te : TD} {tf : TDL} {sp : SpD} {CX : CXT} {k : Nat} {f : Addr} {fd : FuncData} {ps : List Str} {x : Str} {E : XK}
end
theorem qja {K:PySem.W.Frag} (h:PySem.W.nsIn K mainGlobals "least_grown"=some none∧PySem.W.nsIn K mainGlobals "greatest_first"=some none):qi6 K=[]:=by
  unfold qi6
  rw [List.filterMap_cons,qeU h.1,List.filterMap_cons,qeU h.2]
  rfl
structure Cl (P:Program) (w:World) (K:PySem.W.Frag) (mg:Str→Option Value) (base:Heap) (n:Nat) (x:Str) (ps:List Str) (z:SpD):Prop where
  ex:∃ (f:Addr) (fd:FuncData),FnOk P w K mg base CX0 n f fd ps (lSp K z)∧Binds K fd ps []∧PySem.W.keepIn K (.ref f)=true∧mg x=some (.ref f)
section
variable {P : Program} {w : World} {K : PySem.W.Frag} {mg : Str → Option Value} {base : Heap} {n m : Nat} {x : Str} {ps : List Str} {z : SpD} {X : Cx} {e : Expr} {es : List Expr} {pos p : Pos} {tl : TDL} {st : Stmt} {f : Addr} {fd : FuncData} {h : Heap}
theorem Cl.mono (C:Cl P w K mg base n x ps z) (k:n≤m):Cl P w K mg base m x ps z:=by
  obtain ⟨f,fd,F,r⟩:=C.ex
  exact ⟨f,fd,F.mono k,r⟩
theorem Cl.of (F:Fun K x x st f fd) (b:Binds K fd ps []) (m:mg x=some (.ref f)) (H:FnOk P w K mg base CX0 n f fd ps (lSp K z)):Cl P w K mg base n x ps z:=⟨f,fd,H,b,F.kp,m⟩
theorem qaP (C:Cl X.prog X.w K X.mg X.base n x ps z) (hr:Room n X.A) (hg:Gl X x)
    (ha:PAD K X (e::es) tl) (he:starEach (e::es) X.env=(false,eval e X.env)::starEach es X.env) (hpl:(backTo pos (starEach es X.env)).any (·.1)=false) (hdb:(x == ("__debug__":Str))=false:=by decide) :
    PD K X (.Call (.Name x p) (e::es) [] pos) (qkF z tl):=⟨fun hK=>by
  subst hK
  obtain ⟨f,fd,F,b,k,m⟩:=C.ex
  exact (qo8 F hr hg m k b qln ha he hpl hdb).pe rfl⟩
def dE (P:Params) (x:Str) (n:Nat) (v:Value):DictEntry:=⟨PyData.keyHash P x,.str x n,v⟩
def cO (n:Str) (a:Nat) (q:Str) (b c:Nat) (l m:Int) (k:Int) (r:Nat) (g:Int) (t:Nat) (x y:Value) (z:Nat) (i:Int) (d:Nat):Obj:=⟨.type "code",none,.fields #[.str n a,.str q b,.str "/claim/cut.py" c,.int l 0,.int m 0,.int 0 0,.int 0 0,.int k 0,.ref r,.bool true,.int g 0,.ref t,.none,x,y,.ref z,.int i 0,.int l 0,.str "/claim/cut.py" d],#[]⟩
def fO (s:Stmt) (n q m:Str) (i c:Nat):Obj:=⟨.type "function",none,.func (PySem.W.fnOf n q (qbt s) (qa3 s) (qaf s) .none .none .none (.str m i) none (.ref c) .none),#[]⟩
def Has (K:PySem.W.Frag) (s:Stmt) (x:Str):Prop:=∃ f m i c,PySem.W.nsIn K mainGlobals x=some (some (.ref f))∧K.lookup f=some (fO s x x m i c)∧PySem.W.codeIn K (.ref c) x=true
theorem Has.of {s:Stmt} {m:Str} {i c:Nat} (a:PySem.W.nsIn K mainGlobals x=some (some (.ref f))) (l:K.lookup f=some (fO s x x m i c)) (k:PySem.W.codeIn K (.ref c) x=true):Has K s x:=⟨f,m,i,c,a,l,k⟩
theorem Has.fn (a:Has K st x) (X:K.In h) (G:h.Ns mainGlobals mg):∃ f fd,Fun K x x st f fd∧mg x=some (.ref f)∧∃ m i c,fd=PySem.W.fnOf x x (qbt st) (qa3 st) (qaf st) .none .none .none (.str m i) none (.ref c) .none:=by
  obtain ⟨f,m,i,c,a,l,k⟩:=a
  exact ⟨f,_,qfQ l k (by unfold PySem.W.keepIn;simp only [l];rfl),PySem.W.mg_of X G a,m,i,c,rfl⟩
theorem Fun.cl (F:Fun K x x st f fd) (m:mg x=some (.ref f)) (H:FnOk P w K mg base CX0 n f fd ps (lSp K z))
    (b:∀ (kV doc pm:Value) (an:Option Addr) (cdv ct:Value) (us:List Value),us.length=ps.length→bindArgs (PySem.W.fnOf x x (qbt st) (qa3 st) (qaf st) .none kV doc pm an cdv ct) ⟨us,[]⟩=pure (ps.zip us)):Cl P w K mg base n x ps z:=.of F (F.binds b) m H
end
section
variable {K : PySem.W.Frag} {X : Cx} {n : Nat} {x : Str} {ps : List Str} {z : SpD} {e : Expr} {es : List Expr} {pos p : Pos} {tl : TDL}
end
section
variable {prog : Program} {w : World} {A : Around} {E : Value → Shared → Prop} {s : Shared}
end
section
variable {P : Program} {w : World} {H : Hp} {h h' : Heap} {a : Addr} {o : HO} {fs ex : List Addr}
end
section
variable {X : Cx} {a b : Expr} {p p2 pos pos2 : Pos}
end
section
variable {K : PySem.W.Frag} {X : Cx} {a b : Expr} {p p2 pos pos2 : Pos} {tl : TDL}
end
end L2
namespace L2
open PySem PySem.Spec PySem.W PyProof.Rows PySem.Calls
section
variable {K : PySem.W.Frag} {X : Cx}
end
section
variable {X : Cx} {pins : List (Addr × Obj)} {σ : St} {H : Hp} {xs : List V} {l f : Addr} {fob : Obj} {kf : Nat → Int} {G : Hp → Prop} {s : Shared} {Q : Value → Shared → Prop} {E : Value → Shared → Prop}
end
end L2
namespace L2
open PySem PySem.Spec PyProof.Rows
section
variable {K : PySem.W.Frag} {X : Cx} {l body : Expr} {tl tb : TD} {scope : Scope} {p : Str} {r : List Str} {cap : List (Option Nat)} {params : Arguments} {np pos lp kp1 kp2 kp3 : Pos} {c P : Addr} {j : Nat}
end
inductive Fl where | v (d:D) | l (xs:List D) | al (p:Addr)
inductive Om where | lst (xs:List D) | map (kvs:List (Key × D)) | mpT (kvs:List (List Key × D)) | obj (nm:Str) (fs:List (Str × Fl)) | ptr | tl (ps:List (Addr × Option (List D))) | pr (xs:List D) (d:D)
def Om.solid:Om→Bool
  | .ptr=>false
  | .tl _=>false
  | .pr _ _=>false
  | _=>true
inductive Sm where | v (d:D) | ob (a:Option Addr) (o:Om)
abbrev Sm.own (xs:List D):Sm:=.ob none (.lst xs)
abbrev qaB:=List (Option Sm)
def KvR {κ:Type} (K:PySem.W.Frag) (Φ:Hp) (a:κ × D) (b:κ × V):Prop:=a.1=b.1∧Rp K Φ a.2 b.2
inductive FlsR (K:PySem.W.Frag) (Φ H:Hp):List (Str × Fl)→List (Str × V)→List Addr→Prop where
  | nil:FlsR K Φ H [] [] []
  | v {f:Str} {d:D} {v:V} {fs:List (Str × Fl)} {vs:List (Str × V)} {qs:List Addr}:Rp K Φ d v→FlsR K Φ H fs vs qs→FlsR K Φ H ((f,.v d)::fs) ((f,v)::vs) qs
  | l {f:Str} {ds:List D} {ws:List V} {q:Addr} {fs:List (Str × Fl)} {vs:List (Str × V)} {qs:List Addr}:H q=some (.lst ws)→RpL K Φ ds ws→FlsR K Φ H fs vs qs→FlsR K Φ H ((f,.l ds)::fs) ((f,.ref q)::vs) (q::qs)
  | al {f:Str} {p:Addr} {fs:List (Str × Fl)} {vs:List (Str × V)} {qs:List Addr}:FlsR K Φ H fs vs qs→FlsR K Φ H ((f,.al p)::fs) ((f,.ref p)::vs) qs
inductive TlS (K:PySem.W.Frag) (Φ H:Hp):List (Addr × Option (List D))→List Addr→Prop where
  | nil:TlS K Φ H [] []
  | ptr {q:Addr} {ps:List (Addr × Option (List D))} {F:List Addr}:TlS K Φ H ps F→TlS K Φ H ((q,none)::ps) F
  | own {q:Addr} {ds:List D} {ws:List V} {ps:List (Addr × Option (List D))} {F:List Addr}:H q=some (.lst ws)→RpL K Φ ds ws→TlS K Φ H ps F→TlS K Φ H ((q,some ds)::ps) (q::F)
inductive OmS (K:PySem.W.Frag) (Φ H:Hp):Om→Addr→List Addr→Prop where
  | lst {ds:List D} {vs:List V} {p:Addr}:H p=some (.lst vs)→RpL K Φ ds vs→OmS K Φ H (.lst ds) p [p]
  | map {kvs:List (Key × D)} {ws:List (Key × V)} {p:Addr}:H p=some (.dK ws)→Paired (KvR K Φ) kvs ws→OmS K Φ H (.map kvs) p [p]
  | mpT {kvs:List (List Key × D)} {ws:List (List Key × V)} {p:Addr}:H p=some (.dT ws)→Paired (KvR K Φ) kvs ws→OmS K Φ H (.mpT kvs) p [p]
  | obj {nm:Str} {fs:List (Str × Fl)} {C dx:Addr} {vs:List (Str × V)} {p:Addr} {qs:List Addr}:PySem.W.nsIn K mainGlobals nm=some (some (.ref C))→H p=some (.ins C dx vs)→FlsR K Φ H fs vs qs→(p::qs).Nodup→OmS K Φ H (.obj nm fs) p (p::qs)
  | ptr {p:Addr}:OmS K Φ H .ptr p []
  | tl {ps:List (Addr × Option (List D))} {p:Addr} {F:List Addr}:Φ p=some (.tup (ps.map fun q=>V.ref q.1))→TlS K Φ H ps F→F.Nodup→OmS K Φ H (.tl ps) p F
  | pr {ds:List D} {d:D} {p q:Addr} {v:V} {ws:List V}:Φ p=some (.tup [.ref q,v])→H q=some (.lst ws)→RpL K Φ ds ws→Rp K Φ d v→OmS K Φ H (.pr ds d) p [q]
section
variable {K : PySem.W.Frag} {H0 H H' Φ Φ' Φ0 : Hp} {fs : List (Str × Fl)} {vs : List (Str × V)} {qs F F' : List Addr} {o o' : Om} {p : Addr}
theorem qcy {α β:Type} {F G:α→β→Prop} (h:∀ x y,F x y→G x y):∀ {l:List α} {m:List β},Paired F l m→Paired G l m
  | _,_,.nil=>.nil
  | _,_,.cons r t=>.cons (h _ _ r) (qcy h t)
theorem FlsR.keep (s:Same Φ Φ') (h:FlsR K Φ H fs vs qs) (k:∀ b∈qs,∀ u,H b=some u→H' b=some u):FlsR K Φ' H' fs vs qs:=by
  induction h with
  | nil=>exact .nil
  | v r _ ih=>exact .v (r.same s) (ih k)
  | l h1 h2 _ ih=>exact .l (k _ List.mem_cons_self _ h1) (h2.same s) (ih fun b hb=>k b (List.mem_cons_of_mem _ hb))
  | al _ ih=>exact .al (ih k)
theorem FlsR.at (h:FlsR K Φ H fs vs qs):∀ b∈qs,∃ ws,H b=some (.lst ws):=by
  induction h with
  | nil=>intro b hb;cases hb
  | v r _ ih=>exact ih
  | l h1 h2 _ ih =>
    intro b hb
    rcases List.mem_cons.mp hb with rfl | hb
    · exact ⟨_,h1⟩
    · exact ih b hb
  | al _ ih=>exact ih
theorem FlsR.names (h:FlsR K Φ H fs vs qs):vs.map (·.1)=fs.map (·.1):=by
  induction h with
  | nil=>rfl
  | v r _ ih=>rw [List.map_cons,List.map_cons,ih]
  | l h1 h2 _ ih=>rw [List.map_cons,List.map_cons,ih]
  | al _ ih=>rw [List.map_cons,List.map_cons,ih]
theorem TlS.keep {ps:List (Addr × Option (List D))} (s:Same Φ Φ') (h:TlS K Φ H ps F) (k:∀ b∈F,∀ u,H b=some u→H' b=some u):TlS K Φ' H' ps F:=by
  induction h with
  | nil=>exact .nil
  | ptr _ ih=>exact .ptr (ih k)
  | own h1 h2 _ ih=>exact .own (k _ List.mem_cons_self _ h1) (h2.same s) (ih fun b hb=>k b (List.mem_cons_of_mem _ hb))
theorem TlS.at {ps:List (Addr × Option (List D))} (h:TlS K Φ H ps F):∀ b∈F,∃ ws,H b=some (.lst ws):=by
  induction h with
  | nil=>intro b hb;cases hb
  | ptr _ ih=>exact ih
  | own h1 h2 _ ih =>
    intro b hb
    rcases List.mem_cons.mp hb with rfl | hb
    · exact ⟨_,h1⟩
    · exact ih b hb
theorem OmS.keep (s:Same Φ Φ') (h:OmS K Φ H o p F) (k:∀ b∈F,∀ u,H b=some u→H' b=some u):OmS K Φ' H' o p F:=by
  cases h with
  | lst h1 h2=>exact .lst (k _ List.mem_cons_self _ h1) (h2.same s)
  | map h1 h2=>exact .map (k _ List.mem_cons_self _ h1) (qcy (fun _ _ r=>⟨r.1,r.2.same s⟩) h2)
  | mpT h1 h2=>exact .mpT (k _ List.mem_cons_self _ h1) (qcy (fun _ _ r=>⟨r.1,r.2.same s⟩) h2)
  | obj h0 h1 h2 h3=>exact .obj h0 (k _ List.mem_cons_self _ h1) (h2.keep s fun b hb=>k b (List.mem_cons_of_mem _ hb)) h3
  | ptr=>exact .ptr
  | tl h1 h2 h3=>exact .tl (s _ _ h1) (h2.keep s k) h3
  | pr h1 h2 h3 h4=>exact .pr (s _ _ h1) (k _ List.mem_cons_self _ h2) (h3.same s) (h4.same s)
theorem OmS.mem (h:OmS K Φ H o p F) (hs:o.solid=true:=by rfl):p∈F:=by cases h <;> first | exact List.mem_cons_self | cases hs
theorem OmS.at (h:OmS K Φ H o p F):∀ b∈F,∃ u,H b=some u∧OwK u:=by
  intro b hb
  cases h with
  | lst h1 h2=>rw [List.mem_singleton.mp hb];exact ⟨_,h1,trivial⟩
  | map h1 h2=>rw [List.mem_singleton.mp hb];exact ⟨_,h1,trivial⟩
  | mpT h1 h2=>rw [List.mem_singleton.mp hb];exact ⟨_,h1,trivial⟩
  | obj h0 h1 h2 h3 =>
    rcases List.mem_cons.mp hb with rfl | hb
    · exact ⟨_,h1,trivial⟩
    · obtain ⟨ws,hw⟩:=h2.at b hb
      exact ⟨_,hw,trivial⟩
  | ptr=>cases hb
  | tl h1 h2 h3 =>
    obtain ⟨ws,hw⟩:=h2.at b hb
    exact ⟨_,hw,trivial⟩
  | pr h1 h2 h3 h4=>rw [List.mem_singleton.mp hb];exact ⟨_,h2,trivial⟩
theorem OmS.lst_inv {ds:List D} (h:OmS K Φ H (.lst ds) p F):F=[p]∧∃ vs,H p=some (.lst vs)∧RpL K Φ ds vs:=by
  cases h with
  | lst h1 h2=>exact ⟨rfl,_,h1,h2⟩
theorem OmS.map_inv {kvs:List (Key × D)} (h:OmS K Φ H (.map kvs) p F):F=[p]∧∃ ws,H p=some (.dK ws)∧Paired (KvR K Φ) kvs ws:=by
  cases h with
  | map h1 h2=>exact ⟨rfl,_,h1,h2⟩
theorem OmS.mpT_inv {kvs:List (List Key × D)} (h:OmS K Φ H (.mpT kvs) p F):F=[p]∧∃ ws,H p=some (.dT ws)∧Paired (KvR K Φ) kvs ws:=by
  cases h with
  | mpT h1 h2=>exact ⟨rfl,_,h1,h2⟩
theorem OmS.obj_inv {nm:Str} (h:OmS K Φ H (.obj nm fs) p F):∃ C dx vs qs,F=p::qs∧PySem.W.nsIn K mainGlobals nm=some (some (.ref C))∧H p=some (.ins C dx vs)∧FlsR K Φ H fs vs qs∧(p::qs).Nodup:=by
  cases h with
  | obj h0 h1 h2 h3=>exact ⟨_,_,_,_,rfl,h0,h1,h2,h3⟩
theorem OmS.gr (g:Gr Φ H Φ' H') (h:OmS K Φ H o p F):OmS K Φ' H' o p F:=h.keep g.f fun b _ u e=>g.h b u e
end
structure EnvM' (K:PySem.W.Frag) (H0 Φ H:Hp) (σ:St) (ρ:qaB) (fp:Nat→List Addr):Prop where
  fz:Same Φ H
  len:σ.length=ρ.length
  sl:∀ (i:Nat) (d:D),ρ[i]?=some (some (.v d))→∃ v,σ[i]?=some (some v)∧Rp K Φ d v
  ow:∀ (i:Nat) (a:Option Addr) (o:Om),ρ[i]?=some (some (.ob a o))→∃ p,σ[i]?=some (some (.ref p))∧(∀ q,a=some q→q=p)∧OmS K Φ H o p (fp i)
  no:∀ (i:Nat) (a:Option Addr) (o:Om),ρ[i]?=some (some (.ob a o))→∀ b∈fp i,H0 b=none∧Φ b=none
  dj:∀ (i j:Nat) (a a':Option Addr) (o o':Om),ρ[i]?=some (some (.ob a o))→ρ[j]?=some (some (.ob a' o'))→i≠j→∀ b∈fp i,b∉fp j
  tb:TabF K Φ
def EnvM (K:PySem.W.Frag) (H0 Φ H:Hp) (σ:St) (ρ:qaB):Prop:=∃ fp,EnvM' K H0 Φ H σ ρ fp
section
variable {K : PySem.W.Frag} {H0 H H' Φ Φ' Φ0 : Hp} {σ σ2 : St} {ρ ρ2 : qaB} {fp : Nat → List Addr} {F F' : List Addr} {o o' : Om} {p : Addr} {d : D} {v : V} {i : Nat} {a : Option Addr}
theorem EnvM.fz (E:EnvM K H0 Φ H σ ρ):Same Φ H:=let ⟨_,E⟩:=E;E.fz
theorem EnvM.tb (E:EnvM K H0 Φ H σ ρ):TabF K Φ:=let ⟨_,E⟩:=E;E.tb
theorem EnvM.len (E:EnvM K H0 Φ H σ ρ):σ.length=ρ.length:=let ⟨_,E⟩:=E;E.len
theorem EnvM.sl (E:EnvM K H0 Φ H σ ρ) (h:ρ[i]?=some (some (.v d))):∃ v,σ[i]?=some (some v)∧Rp K Φ d v:=let ⟨_,E⟩:=E;E.sl i d h
theorem EnvM'.gr (E:EnvM' K H0 Φ H σ ρ fp) (g:Gr Φ H Φ' H'):EnvM' K H0 Φ' H' σ ρ fp :=
  ⟨g.s,E.len,fun i d h=>let ⟨v,e,r⟩:=E.sl i d h;⟨v,e,r.same g.f⟩,fun i a o h=>let ⟨p,e,ha,r⟩:=E.ow i a o h;⟨p,e,ha,r.gr g⟩,
    fun i a o h b hb=>by
      obtain ⟨p,_,_,r⟩:=E.ow i a o h
      obtain ⟨u,hu,k⟩:=r.at b hb
      exact ⟨(E.no i a o h b hb).1,g.o b u hu (E.no i a o h b hb).2 k⟩,E.dj,E.tb.same g.f⟩
theorem EnvM.gr (E:EnvM K H0 Φ H σ ρ) (g:Gr Φ H Φ' H'):EnvM K H0 Φ' H' σ ρ:=let ⟨fp,E⟩:=E;⟨fp,E.gr g⟩
theorem EnvM.re (m:Nat→Nat) (E:EnvM K H0 Φ H σ ρ) (hl:σ2.length=ρ2.length) (h:∀ (i:Nat) (x:Sm),ρ2[i]?=some (some x)→ρ[m i]?=some (some x)∧σ2[i]?=σ[m i]?)
    (inj:∀ (i j:Nat) (a a':Option Addr) (o o':Om),ρ2[i]?=some (some (.ob a o))→ρ2[j]?=some (some (.ob a' o'))→m i=m j→i=j):EnvM K H0 Φ H σ2 ρ2:=by
  obtain ⟨fp,E⟩:=E
  refine ⟨fun i=>fp (m i),E.fz,hl,fun i d hd=>?_,fun i a o ho=>?_,fun i a o ho=>E.no _ a o (h i _ ho).1,fun i j a a' o o' hi hj c=>E.dj _ _ a a' o o' (h i _ hi).1 (h j _ hj).1 fun e=>c (inj i j a a' o o' hi hj e),E.tb⟩
  · obtain ⟨v,e,r⟩:=E.sl _ d (h i _ hd).1
    exact ⟨v,by rw [(h i _ hd).2];exact e,r⟩
  · obtain ⟨p,e,r⟩:=E.ow _ a o (h i _ ho).1
    exact ⟨p,by rw [(h i _ ho).2];exact e,r⟩
theorem EnvM.take {τ:St} {κ:qaB} (E:EnvM K H0 Φ H (σ++τ) (ρ++κ)) (hl:ρ.length=σ.length):EnvM K H0 Φ H σ ρ :=
  E.re id hl.symm (fun i x hx=>by
    have hi:=qag hx
    exact ⟨by rw [id,List.getElem?_append_left hi];exact hx,by rw [id,List.getElem?_append_left (by omega)]⟩) fun i j _ _ _ _ _ _ e=>e
theorem EnvM'.take {τ:St} {κ:qaB} (E:EnvM' K H0 Φ H (σ++τ) (ρ++κ) fp) (hl:ρ.length=σ.length):EnvM' K H0 Φ H σ ρ fp:=by
  have up:∀ {i:Nat} {x:Sm},ρ[i]?=some (some x)→(ρ++κ)[i]?=some (some x):=fun h=>by rw [List.getElem?_append_left (qag h)];exact h
  have dn:∀ {i:Nat} {x:Sm} {y:Option V},ρ[i]?=some (some x)→(σ++τ)[i]?=some y→σ[i]?=some y:=fun h e=>by rwa [List.getElem?_append_left (by rw [← hl];exact qag h)] at e
  exact ⟨E.fz,hl.symm,fun i d h=>let ⟨v,e,r⟩:=E.sl i d (up h);⟨v,dn h e,r⟩,fun i a o h=>let ⟨p,e,r⟩:=E.ow i a o (up h);⟨p,dn h e,r⟩,fun i a o h=>E.no i a o (up h),fun i j a a' o o' hi hj=>E.dj i j a a' o o' (up hi) (up hj),E.tb⟩
theorem EnvM.store {v:V} {x:Sm} (E:EnvM K H0 Φ H (σ++[some v]) (ρ++[some x])) (i:Nat):EnvM K H0 Φ H (σ.set i (some v)) (ρ.set i (some x)):=by
  have hl:σ.length=ρ.length:=by have:=E.len;simpa using this
  refine E.re (fun j=>if j=i then ρ.length else j) (by rw [List.length_set,List.length_set,hl]) (fun j y hj=>?_) fun j k a a' o o' hj hk e=>?_
  · by_cases c:j=i
    · subst c
      have hlt:j<ρ.length:=by have:=qag hj;rwa [List.length_set] at this
      rw [List.getElem?_set_self hlt] at hj
      cases hj
      rw [if_pos rfl,List.getElem?_set_self (by omega),List.getElem?_append_right (Nat.le_refl _),List.getElem?_append_right (by omega),Nat.sub_self,hl,Nat.sub_self]
      exact ⟨rfl,rfl⟩
    · rw [List.getElem?_set_ne (Ne.symm c)] at hj
      have hlt:=qag hj
      rw [if_neg c,List.getElem?_set_ne (Ne.symm c),List.getElem?_append_left hlt,List.getElem?_append_left (by omega)]
      exact ⟨hj,rfl⟩
  · have hj1:j<ρ.length:=by have:=qag hj;rwa [List.length_set] at this
    have hk1:k<ρ.length:=by have:=qag hk;rwa [List.length_set] at this
    have e:(if j=i then ρ.length else j)=(if k=i then ρ.length else k):=e
    split at e <;> split at e <;> omega
theorem EnvM.snocV (E:EnvM K H0 Φ H σ ρ) (r:Rp K Φ d v):EnvM K H0 Φ H (σ++[some v]) (ρ++[some (.v d)]):=by
  obtain ⟨fp,E⟩:=E
  have old:∀ {i:Nat} {a:Option Addr} {o:Om},(ρ++[some (Sm.v d)])[i]?=some (some (.ob a o))→ρ[i]?=some (some (.ob a o)):=fun {i a o} h=>by
    rcases Nat.lt_or_ge i ρ.length with c | c
    · rwa [List.getElem?_append_left c] at h
    · rw [List.getElem?_append_right c] at h
      cases e:i - ρ.length with
      | zero=>rw [e] at h;cases h
      | succ n=>rw [e] at h;cases h
  refine ⟨fp,E.fz,by rw [List.length_append,List.length_append,E.len];rfl,fun i d' h=>?_,fun i a o h=>?_,fun i a o h=>E.no i a o (old h),fun i j a a' o o' hi hj=>E.dj i j a a' o o' (old hi) (old hj),E.tb⟩
  · rcases Nat.lt_or_ge i ρ.length with c | c
    · rw [List.getElem?_append_left c] at h
      obtain ⟨u,e,r⟩:=E.sl i d' h
      exact ⟨u,by rw [List.getElem?_append_left (by rw [E.len];exact c)];exact e,r⟩
    · rw [List.getElem?_append_right c] at h
      cases e:i - ρ.length with
      | zero =>
        rw [e] at h
        cases h
        exact ⟨v,by rw [List.getElem?_append_right (by rw [E.len];exact c),E.len,e];rfl,r⟩
      | succ n=>rw [e] at h;cases h
  · obtain ⟨p,e,r⟩:=E.ow i a o (old h)
    have hi:=qag (old h)
    exact ⟨p,by rw [List.getElem?_append_left (by rw [E.len];exact hi)];exact e,r⟩
theorem EnvM.snocO (E:EnvM K H0 Φ H σ ρ) (s0:Same H0 H) (g:Gr Φ H Φ' H') (ho:OmS K Φ' H' o p F) (hf:∀ b∈F,H b=none∧Φ' b=none):EnvM K H0 Φ' H' (σ++[some (.ref p)]) (ρ++[some (.ob none o)]):=by
  obtain ⟨fp,E⟩:=E
  have old:∀ b∈F,∀ (i:Nat) (a:Option Addr) (o:Om),ρ[i]?=some (some (.ob a o))→b∉fp i:=fun b hb i a o h z=>by
    obtain ⟨q,_,_,r⟩:=E.ow i a o h
    obtain ⟨u,hu,_⟩:=r.at b z
    rw [(hf b hb).1] at hu
    cases hu
  have E2:=E.gr g
  have cs:∀ {i:Nat} {x:Sm},(ρ++[some (Sm.ob none o)])[i]?=some (some x)→(i<ρ.length∧ρ[i]?=some (some x))∨(i=ρ.length∧x=.ob none o):=fun {i x} h=>by
    rcases Nat.lt_or_ge i ρ.length with c | c
    · rw [List.getElem?_append_left c] at h
      exact .inl ⟨c,h⟩
    · rw [List.getElem?_append_right c] at h
      cases e:i - ρ.length with
      | zero=>rw [e] at h;cases h;exact .inr ⟨by omega,rfl⟩
      | succ n=>rw [e] at h;cases h
  refine ⟨fun i=>if i=ρ.length then F else fp i,E2.fz,by rw [List.length_append,List.length_append,E.len];rfl,fun i d h=>?_,fun i a o' h=>?_,fun i a o' h b hb=>?_,fun i j a a' o1 o2 hi hj c b hb hb2=>?_,E2.tb⟩
  · rcases cs h with ⟨c,h⟩ | ⟨_,h⟩
    · obtain ⟨v,e,r⟩:=E2.sl i d h
      exact ⟨v,by rw [List.getElem?_append_left (by rw [E.len];exact c)];exact e,r⟩
    · cases h
  · rcases cs h with ⟨c,h⟩ | ⟨c,h⟩
    · obtain ⟨q,e,r⟩:=E2.ow i a o' h
      exact ⟨q,by rw [List.getElem?_append_left (by rw [E.len];exact c)];exact e,by rw [if_neg (by omega)];exact r⟩
    · cases h
      subst c
      refine ⟨p,by rw [List.getElem?_append_right (by rw [E.len];exact Nat.le_refl _),E.len,Nat.sub_self];rfl,(fun q e=>by cases e),by rw [if_pos rfl];exact ho⟩
  · rcases cs h with ⟨c,h⟩ | ⟨c,h⟩
    · rw [if_neg (by omega)] at hb
      exact E2.no i a o' h b hb
    · rw [if_pos c] at hb
      exact ⟨s0.free (hf b hb).1,(hf b hb).2⟩
  · rcases cs hi with ⟨ci,hi⟩ | ⟨ci,hi⟩
    · rw [if_neg (by omega)] at hb
      rcases cs hj with ⟨cj,hj⟩ | ⟨cj,hj⟩
      · rw [if_neg (by omega)] at hb2
        exact E.dj i j a a' o1 o2 hi hj c b hb hb2
      · rw [if_pos cj] at hb2
        exact old b hb2 i a o1 hi hb
    · rw [if_pos ci] at hb
      rcases cs hj with ⟨cj,hj⟩ | ⟨cj,hj⟩
      · rw [if_neg (by omega)] at hb2
        exact old b hb j a' o2 hj hb2
      · omega
theorem EnvM'.put (E:EnvM' K H0 Φ H σ ρ fp) (hi:ρ[i]?=some (some (.ob a o))) (si:σ[i]?=some (some (.ref p))) (hH:∀ b u,H b=some u→b∉fp i→H' b=some u) (hO:OmS K Φ H' o' p F') (hF:∀ b∈F',b∈fp i∨(H b=none∧H0 b=none∧Φ b=none)) :
    EnvM' K H0 Φ H' σ (ρ.set i (some (.ob a o'))) (fun j=>if j=i then F' else fp j):=by
  have hlt:=qag hi
  have cs:∀ {j:Nat} {x:Sm},(ρ.set i (some (Sm.ob a o')))[j]?=some (some x)→(j=i∧x=.ob a o')∨(j≠i∧ρ[j]?=some (some x)):=fun {j x} h=>by
    rcases qbw h with ⟨e,_,e1⟩ | ⟨e,h⟩
    · cases e1;exact .inl ⟨e,rfl⟩
    · exact .inr ⟨e,h⟩
  have nf:∀ b∈F',∀ (j:Nat) (a':Option Addr) (o2:Om),ρ[j]?=some (some (.ob a' o2))→j≠i→b∉fp j:=fun b hb j a' o2 hj c z=>by
    rcases hF b hb with h | ⟨h,_⟩
    · exact E.dj j i a' a o2 o hj hi c b z h
    · obtain ⟨q,_,_,r⟩:=E.ow j a' o2 hj
      obtain ⟨u,hu,_⟩:=r.at b z
      rw [h] at hu
      cases hu
  refine ⟨fun b u e=>hH b u (E.fz b u e) fun z=>?_,by rw [List.length_set,E.len],fun j d h=>?_,fun j a' o2 h=>?_,fun j a' o2 h b hb=>?_,fun j k a1 a2 o1 o2 hj hk c b hb hb2=>?_,E.tb⟩
  · rw [(E.no i a o hi b z).2] at e
    cases e
  · rcases cs h with ⟨_,h⟩ | ⟨_,h⟩
    · cases h
    · exact E.sl j d h
  · rcases cs h with ⟨c,h⟩ | ⟨c,h⟩
    · cases h
      subst c
      obtain ⟨q,e,ha,_⟩:=E.ow j a o hi
      rw [si] at e
      cases e
      exact ⟨p,si,ha,by rw [if_pos rfl];exact hO⟩
    · obtain ⟨q,e,ha,r⟩:=E.ow j a' o2 h
      refine ⟨q,e,ha,?_⟩
      rw [if_neg c]
      exact r.keep (Same.refl _) fun b hb u hu=>hH b u hu fun z=>E.dj j i a' a o2 o h hi c b hb z
  · rcases cs h with ⟨c,h⟩ | ⟨c,h⟩
    · rw [if_pos c] at hb
      rcases hF b hb with z | ⟨_,z⟩
      · exact E.no i a o hi b z
      · exact z
    · rw [if_neg c] at hb
      exact E.no j a' o2 h b hb
  · rcases cs hj with ⟨cj,hj⟩ | ⟨cj,hj⟩
    · rw [if_pos cj] at hb
      rcases cs hk with ⟨ck,hk⟩ | ⟨ck,hk⟩
      · omega
      · rw [if_neg ck] at hb2
        exact nf b hb k a2 o2 hk ck hb2
    · rw [if_neg cj] at hb
      rcases cs hk with ⟨ck,hk⟩ | ⟨ck,hk⟩
      · rw [if_pos ck] at hb2
        exact nf b hb2 j a1 o1 hj cj hb
      · rw [if_neg ck] at hb2
        exact E.dj j k a1 a2 o1 o2 hj hk c b hb hb2
theorem EnvM'.grput (E:EnvM' K H0 Φ H σ ρ fp) (g:Gr Φ0 H0 Φ H) (hi:ρ[i]?=some (some (.ob a o))) (hH:∀ b u,H b=some u→b∉fp i→H' b=some u):Gr Φ0 H0 Φ H' :=
  ⟨g.f,fun b u e=>hH b u (g.h b u e) (fun z=>by rw [(E.no i a o hi b z).1] at e;cases e),fun b u e=>hH b u (g.s b u e) (fun z=>by rw [(E.no i a o hi b z).2] at e;cases e),fun p u h1 h2 k=>g.o p u h1 h2 k⟩
theorem EnvM.list {ds:List D} (E:EnvM K H0 Φ H σ ρ) (g:Gr Φ0 H0 Φ H) (hi:ρ[i]?=some (some (.ob a (.lst ds)))):∃ q vs,σ[i]?=some (some (.ref q))∧H q=some (.lst vs)∧H0 q=none∧Φ q=none∧RpL K Φ ds vs ∧
    ∀ (es:List D) (ws:List V),RpL K Φ es ws→EnvM K H0 Φ (upd H q (.lst ws)) σ (ρ.set i (some (.ob a (.lst es))))∧Gr Φ0 H0 Φ (upd H q (.lst ws)):=by
  obtain ⟨fp,E⟩:=E
  obtain ⟨q,e,_,r⟩:=E.ow i a _ hi
  have hq:=r.mem
  have h0:=E.no i a _ hi q hq
  obtain ⟨_,vs,h1,h2⟩:=r.lst_inv
  refine ⟨q,vs,e,h1,h0.1,h0.2,h2,fun es ws rw'=>?_⟩
  have hH:∀ b u,H b=some u→b∉fp i→upd H q (.lst ws) b=some u:=fun b u e hn=>by
    rw [qak fun z=>hn (by rw [z];exact hq)]
    exact e
  exact ⟨⟨_,E.put hi e hH (F':=[q]) (.lst qai rw') fun b hb=>.inl (by rw [List.mem_singleton.mp hb];exact hq)⟩,E.grput g hi hH⟩
end
def prM:Option Sm→Option Sl
  | some (.v d)=>some (.v d)
  | some (.ob _ (.lst xs))=>some (.own xs)
  | some (.ob _ (.map kvs))=>some (.dct (kvs.map (·.1)))
  | some (.ob _ (.mpT kvs))=>some (.dcT (kvs.map (·.1)))
  | _=>none
abbrev prR (ρ:qaB):Rho:=ρ.map prM
theorem qea {κ:Type} {K:PySem.W.Frag} {Φ:Hp}:∀ {a:List (κ × D)} {b:List (κ × V)},Paired (KvR K Φ) a b→b.map (·.1)=a.map (·.1)
  | _,_,.nil=>rfl
  | _,_,.cons r t=>by rw [List.map_cons,List.map_cons,qea t,r.1]
theorem EnvM.toD {K:PySem.W.Frag} {H0 Φ H:Hp} {σ:St} {ρ:qaB} (E:EnvM K H0 Φ H σ ρ):EnvD K H0 Φ H σ (prR ρ):=by
  obtain ⟨fp,E⟩:=E
  have at_:∀ {i:Nat} {x:Sl},(prR ρ)[i]?=some (some x)→∃ y,ρ[i]?=some (some y)∧prM (some y)=some x:=fun {i x} h=>by
    rw [List.getElem?_map] at h
    cases e:ρ[i]? with
    | none=>rw [e] at h;cases h
    | some y =>
      rw [e] at h
      cases y with
      | none=>cases h
      | some y=>exact ⟨y,rfl,Option.some.inj h⟩
  have ow:∀ {i:Nat} {o:Ow},(prR ρ)[i]?=some (some (.ob o))→∃ a om p u,ρ[i]?=some (some (.ob a om))∧σ[i]?=some (some (.ref p))∧p∈fp i∧H p=some u∧OwR K Φ o u:=fun {i o} h=>by
    obtain ⟨y,hy,e⟩:=at_ h
    cases y with
    | v d=>cases e
    | ob a om =>
      obtain ⟨p,e1,_,r⟩:=E.ow i a om hy
      refine ⟨a,om,p,?_⟩
      cases om with
      | lst ds=>obtain ⟨_,vs,h1,h2⟩:=r.lst_inv;cases e;exact ⟨_,hy,e1,r.mem,h1,h2⟩
      | map kvs=>obtain ⟨_,vs,h1,h2⟩:=r.map_inv;cases e;exact ⟨_,hy,e1,r.mem,h1,qea h2⟩
      | mpT kvs=>obtain ⟨_,vs,h1,h2⟩:=r.mpT_inv;cases e;exact ⟨_,hy,e1,r.mem,h1,qea h2⟩
      | obj nm fs=>cases e
      | ptr=>cases e
      | tl ps=>cases e
      | pr ds d=>cases e
  refine ⟨E.fz,by rw [List.length_map,E.len],fun i d h=>?_,fun i o h=>?_,fun i j o w p hi hj si sj=>?_,E.tb⟩
  · obtain ⟨y,hy,e⟩:=at_ h
    cases y with
    | v d'=>cases e;exact E.sl i d hy
    | ob a om=>cases om <;> cases e
  · obtain ⟨a,om,p,u,h1,h2,h3,h4,h5⟩:=ow h
    exact ⟨p,u,h2,(E.no i a om h1 p h3).1,(E.no i a om h1 p h3).2,h4,h5⟩
  · obtain ⟨a,om,p1,u,h1,h2,h3,_,_⟩:=ow hi
    obtain ⟨a',om',p2,u',k1,k2,k3,_,_⟩:=ow hj
    rw [si] at h2
    cases h2
    rw [sj] at k2
    cases k2
    rcases Decidable.em (i=j) with c | c
    · exact c
    · exact absurd k3 (E.dj i j a a' om om' h1 k1 c p h3)
def qn0 (h:Heap) (e:Addr) (vs:Array Value) (T:Option Addr) (fl:Value):Prop:=match T with
  | none=>vs[1]?=some .none
  | some T=>vs[1]?=some (.ref T)∧T≠e∧∃ oT ts,h.get? T=some oT∧oT.data=.fields ts∧ts[3]?=some fl
structure Fly (h:Heap) (e:Addr) (T:Option Addr) (fl cls:Value) (dx:Option Addr):Prop where
  ex:∃ oe vs,h.get? e=some oe∧oe.data=.fields vs∧oe.cls=cls∧oe.dict=dx∧qn0 h e vs T fl
section
variable {M : Model} {A : Around} {E : Value → Shared → Prop} {s : Shared} {base : Heap} {env : Env} {outer : List Env} {L e : Addr}
end
structure XD where
  nm:Str
  at_:Option D
def XAt (K:PySem.W.Frag) (H:Hp) (at_:Option D) (dx:Option Addr):Prop:=match at_ with
  | none=>dx=none
  | some d=>∃ p v,dx=some p∧H p=some (.xd [("at",v)])∧Rp K (fun _=>none) d v
structure XSt (X:Cx) (pins:List (Addr × Obj)) (σ:St) (H:Hp) (xd:XD) (e:Value) (s:Shared):Prop where
  inv:Inv X pins σ H s
  ex:∃ (ea C:Addr) (T dx:Option Addr),e=.ref ea∧Fly s.heap ea T .none (.ref C) dx∧X.mg xd.nm=some (.ref C)∧XAt X.K H xd.at_ dx∧(X.s₀.heap.get? ea=none∧H ea=none∧∀ p∈X.pn++pins,p.1≠ea)∧∀ T',T=some T'→X.s₀.heap.get? T'=none∧H T'=none∧∀ p∈X.pn++pins,p.1≠T'
def XeOk (K:PySem.W.Frag) (X:Cx) (Φ0 H0:Hp) (Rx:XD→qaB→Prop):Prop:=∀ xd ρ' Φ' H' σ' e s' pins,Rx xd ρ'→Gr Φ0 H0 Φ' H'→EnvM K H0 Φ' H' σ' ρ'→XSt X pins σ' H' xd e s'→X.xe e s'
structure StM (K:PySem.W.Frag) (X:Cx) (Φ0 H0 Φ H:Hp) (σ τ:St) (ρ κ:qaB) (Rx:XD→qaB→Prop):Prop where
  g:Gr Φ0 H0 Φ H
  l:ρ.length=σ.length
  E:EnvM K H0 Φ H (σ++τ) (ρ++κ)
  x:XeOk K X Φ0 H0 Rx
inductive Ar where | t (s:Sm) | s (i:Nat)
abbrev TX:=qaB→(Sm→qaB→Prop)→(XD→qaB→Prop)→Prop
abbrev TXB:=qaB→(Bool→qaB→Prop)→(XD→qaB→Prop)→Prop
abbrev TXA:=qaB→(List Ar→qaB→Prop)→(XD→qaB→Prop)→Prop
def tsm (as:List Ar):qaB:=as.filterMap fun a=>match a with | .t s=>some (some s) | .s _=>none
inductive ArV (σ:St):List Ar→List V→St→Prop where
  | nil:ArV σ [] [] []
  | t {s:Sm} {v:V} {as:List Ar} {vs:List V} {ts:St}:ArV σ as vs ts→ArV σ (.t s::as) (v::vs) (some v::ts)
  | s {i:Nat} {v:V} {as:List Ar} {vs:List V} {ts:St}:σ[i]?=some (some v)→ArV σ as vs ts→ArV σ (.s i::as) (v::vs) ts
def lXm (K:PySem.W.Frag) (X:Cx) (t:TX):TE:=fun σ H Q=>∃ Φ0 H0 Φ τ ρ κ R Rx,StM K X Φ0 H0 Φ H σ τ ρ κ Rx∧t ρ R Rx∧∀ sm ρ' Φ' H' v,R sm ρ'→StM K X Φ0 H0 Φ' H' σ (τ++[some v]) ρ' (κ++[some sm]) Rx→Same Φ Φ'→Q v H'
def lXb (K:PySem.W.Frag) (X:Cx) (t:TXB):TT:=fun σ H Q=>∃ Φ0 H0 Φ τ ρ κ R Rx,StM K X Φ0 H0 Φ H σ τ ρ κ Rx∧t ρ R Rx∧∀ b ρ' Φ' H',R b ρ'→StM K X Φ0 H0 Φ' H' σ τ ρ' κ Rx→Same Φ Φ'→Q b H'
def lXa (K:PySem.W.Frag) (X:Cx) (n:Nat) (t:TXA):TA:=fun σ H Q=>∃ Φ0 H0 Φ τ ρ κ R Rx,StM K X Φ0 H0 Φ H σ τ ρ κ Rx∧t ρ R Rx∧∀ as ρ' Φ' H' vs ts,R as ρ'→as.length=n→ArV σ as vs ts→StM K X Φ0 H0 Φ' H' σ (τ++ts) ρ' (κ++tsm as) Rx→Same Φ Φ'→Q vs H'
structure PX (K:PySem.W.Frag) (X:Cx) (e:Expr) (t:TX):Prop where pe:X.K=K→PE X e (lXm K X t)
structure PXB (K:PySem.W.Frag) (X:Cx) (e:Expr) (t:TXB):Prop where pt:X.K=K→PT X e (lXb K X t)
structure PXA (K:PySem.W.Frag) (X:Cx) (es:List Expr) (t:TXA):Prop where pa:X.K=K→PA X es (lXa K X es.length t)
section
variable {K : PySem.W.Frag} {X : Cx} {Φ0 H0 Φ Φ' H H' : Hp} {σ τ ts : St} {ρ κ ks : qaB} {Rx : XD → qaB → Prop} {d : D} {v : V} {sm : Sm}
theorem StM.gr (S:StM K X Φ0 H0 Φ H σ τ ρ κ Rx) (g:Gr Φ H Φ' H'):StM K X Φ0 H0 Φ' H' σ τ ρ κ Rx:=⟨S.g.trans g,S.l,S.E.gr g,S.x⟩
theorem StM.env (S:StM K X Φ0 H0 Φ H σ τ ρ κ Rx):EnvM K H0 Φ H σ ρ:=S.E.take S.l
theorem StM.lk (S:StM K X Φ0 H0 Φ H σ τ ρ κ Rx):κ.length=τ.length:=by have:=S.E.len;rw [List.length_append,List.length_append] at this;have:=S.l;omega
theorem StM.pop (S:StM K X Φ0 H0 Φ H σ (τ++ts) ρ (κ++ks) Rx) (hl:κ.length=τ.length):StM K X Φ0 H0 Φ H σ τ ρ κ Rx:=⟨S.g,S.l,by
  have E:=S.E
  rw [← List.append_assoc,← List.append_assoc] at E
  exact E.take (by rw [List.length_append,List.length_append,S.l,hl]),S.x⟩
theorem StM.pushV (S:StM K X Φ0 H0 Φ H σ τ ρ κ Rx) (r:Rp K Φ d v):StM K X Φ0 H0 Φ H σ (τ++[some v]) ρ (κ++[some (.v d)]) Rx:=⟨S.g,S.l,by
  rw [← List.append_assoc,← List.append_assoc]
  exact S.E.snocV r,S.x⟩
theorem StM.pushO {o:Om} {p:Addr} {F:List Addr} (S:StM K X Φ0 H0 Φ H σ τ ρ κ Rx) (g:Gr Φ H Φ' H') (ho:OmS K Φ' H' o p F) (hf:∀ b∈F,H b=none∧Φ' b=none):StM K X Φ0 H0 Φ' H' σ (τ++[some (.ref p)]) ρ (κ++[some (.ob none o)]) Rx:=⟨S.g.trans g,S.l,by
  rw [← List.append_assoc,← List.append_assoc]
  exact S.E.snocO S.g.h g ho hf,S.x⟩
theorem StM.at (S:StM K X Φ0 H0 Φ H σ τ ρ κ Rx) {i:Nat} (h:κ[i]?=some (some (.v d))):∃ v,τ[i]?=some (some v)∧Rp K Φ d v:=by
  have hi:=qag h
  obtain ⟨v,e,r⟩:=S.E.sl (i:=ρ.length+i) (d:=d) (by rw [List.getElem?_append_right (by omega),Nat.add_sub_cancel_left];exact h)
  rw [S.l,List.getElem?_append_right (by omega),Nat.add_sub_cancel_left] at e
  exact ⟨v,e,r⟩
theorem StM.last (S:StM K X Φ0 H0 Φ H σ (τ++[some v]) ρ (κ++[some (.v d)]) Rx):Rp K Φ d v:=by
  have hl:=S.lk
  rw [List.length_append,List.length_append] at hl
  have hl:κ.length=τ.length:=by simpa using hl
  obtain ⟨u,e,r⟩:=S.at (i:=κ.length) (d:=d) (by rw [List.getElem?_append_right (Nat.le_refl _),Nat.sub_self];rfl)
  rw [hl,List.getElem?_append_right (Nat.le_refl _),Nat.sub_self] at e
  cases e
  exact r
theorem StM.last2 {e:D} {w:V} (S:StM K X Φ0 H0 Φ H σ ((τ++[some v])++[some w]) ρ ((κ++[some (.v d)])++[some (.v e)]) Rx):Rp K Φ d v∧Rp K Φ e w:=by
  refine ⟨?_,S.last⟩
  have hl:=S.lk
  simp only [List.length_append,List.length_cons,List.length_nil] at hl
  have hl:κ.length=τ.length:=by omega
  exact (S.pop (by simp only [List.length_append,List.length_cons,List.length_nil];omega)).last
end
section
variable {K : PySem.W.Frag} {X : Cx} {e a b c : Expr} {es : List Expr} {pos p : Pos} {t ta tb : TX} {tA : TXA} {tt tu : TXB}
def xD (t:TD):TX:=fun ρ R _=>t (prR ρ) fun d=>R (.v d) ρ
theorem qaO {t:TD} (h:PD K X e t):PX K X e (xD t):=⟨fun hK=>(h.pe hK).imp fun σ H Q hq0=>by
  obtain ⟨Φ0,H0,Φ,τ,ρ,κ,R,Rx,S,t,k⟩:=hq0
  exact ⟨H0,Φ,prR ρ,_,S.env.toD,t,fun d Φ' H' v r g rv=>k _ ρ Φ' H' v r ((S.gr g).pushV rv) g.f⟩⟩
def xF (t:TDL):TX:=fun ρ R _=>t (prR ρ) fun ds=>R (.own ds) ρ
theorem qle {t:TDL} (h:PF K X e t):PX K X e (xF t):=⟨fun hK=>(h.pe hK).imp fun σ H Q hq0=>by
  obtain ⟨Φ0,H0,Φ,τ,ρ,κ,R,Rx,S,t,k⟩:=hq0
  exact ⟨H0,Φ,prR ρ,_,S.env.toD,t,fun ds Φ' H' p vs r g h0 hn hp rr=>k _ ρ Φ' H' _ r (S.pushO g (.lst hp rr) fun b hb=>by rw [List.mem_singleton.mp hb];exact ⟨h0,hn⟩) g.f⟩⟩
def xB (t:TDB):TXB:=fun ρ R _=>t (prR ρ) fun b=>R b ρ
theorem qdG {t:TDB} (h:PTD K X e t):PXB K X e (xB t):=⟨fun hK=>(h.pt hK).imp fun σ H Q hq0=>by
  obtain ⟨Φ0,H0,Φ,τ,ρ,κ,R,Rx,S,t,k⟩:=hq0
  exact ⟨H0,Φ,prR ρ,_,S.env.toD,t,fun b Φ' H' r g=>k b ρ Φ' H' r (S.gr g) g.f⟩⟩
def xV (k:D→qaB→Prop):Sm→qaB→Prop:=fun s ρ=>match s with | .v d=>k d ρ | _=>False
theorem xV.get {k:D→qaB→Prop} {s:Sm} {ρ:qaB} (h:xV k s ρ):∃ d,s=.v d∧k d ρ:=by
  cases s with
  | v d=>exact ⟨d,rfl,h⟩
  | ob _ _=>exact h.elim
def xOp (r:RD2) (ta tb:TX):TX:=fun ρ R Rx=>ta ρ (xV fun x ρ1=>tb ρ1 (xV fun y ρ2=>r x y fun d=>R (.v d) ρ2) Rx) Rx
theorem qfp {r:RD2} {σ:St} {H:Hp} {Q:VK} (h:lXm K X (xOp r ta tb) σ H Q):tOp (lR2 K r) (lXm K X ta) (lXm K X tb) σ H Q:=by
  obtain ⟨Φ0,H0,Φ,τ,ρ,κ,R,Rx,S,t,k⟩:=h
  refine ⟨Φ0,H0,Φ,τ,ρ,κ,_,Rx,S,t,fun s1 ρ1 Φ1 H1 v r1 S1 f1=>?_⟩
  obtain ⟨x,rfl,r1⟩:=r1.get
  refine ⟨Φ0,H0,Φ1,_,ρ1,_,_,Rx,S1,r1,fun s2 ρ2 Φ2 H2 w r2 S2 f2=>?_⟩
  obtain ⟨y,rfl,r2⟩:=r2.get
  obtain ⟨rx,ry⟩:=S2.last2
  refine ⟨Φ2,x,y,_,S2.g.s,.inl rx,.inl ry,r2,fun d Φ' H' u rd g ru=>?_⟩
  rw [List.append_assoc,List.append_assoc] at S2
  exact k _ ρ2 Φ' H' u rd (((S2.pop S.lk).gr g).pushV ru) ((f1.trans f2).trans g.f)
theorem qm2 {op:Operator} {r:RD2} (ho:OpD K X (binaryOp op) r) (ha:PX K X a ta) (hb:PX K X b tb):PX K X (.BinOp a op b pos) (xOp r ta tb) :=
  ⟨fun hK=>(qnb (ho.o hK) (ha.pe hK) (hb.pe hK)).imp fun _ _ _=>qfp⟩
def xBl (t:TX):TXB:=fun ρ R Rx=>t ρ (xV fun d ρ1=>match d with | .bl b=>R b ρ1 | _=>False) Rx
theorem qhN {r:RD2} {σ:St} {H:Hp} {Q:Bool→Hp→Prop} (h:lXb K X (xBl (xOp r ta tb)) σ H Q):qmE (tOp (lR2 K r) (lXm K X ta) (lXm K X tb)) σ H Q:=by
  obtain ⟨Φ0,H0,Φ,τ,ρ,κ,R,Rx,S,t,k⟩:=h
  refine qfp ⟨Φ0,H0,Φ,τ,ρ,κ,_,Rx,S,t,fun s1 ρ1 Φ1 H1 v r1 S1 f1=>?_⟩
  obtain ⟨x,rfl,r1⟩:=r1.get
  have rx:=S1.last
  cases x with
  | bl b=>cases rx;exact ⟨b,rfl,k b ρ1 Φ1 H1 r1 (S1.pop S.lk) f1⟩
  | _=>exact r1.elim
theorem qlv {op:CmpOp} {r:RD2} (ho:OpD K X (compareOp op) r) (ha:PX K X a ta) (hb:PX K X b tb) (hm:behindInMarks op b=false):PXB K X (.Compare a [op] [b] pos) (xBl (xOp r ta tb)) :=
  ⟨fun hK=>(qjV (ho.o hK) (ha.pe hK) (hb.pe hK) hm).imp fun _ _ _=>qhN⟩
def qpm:TXA:=fun ρ R _=>R [] ρ
def qoz (t:TX) (u:TXA):TXA:=fun ρ R Rx=>t ρ (fun s ρ1=>u ρ1 (fun as ρ2=>R (.t s::as) ρ2) Rx) Rx
def qoi (i:Nat) (u:TXA):TXA:=fun ρ R Rx=>u ρ (fun as ρ2=>R (.s i::as) ρ2) Rx
theorem qaI:PXA K X [] qpm:=⟨fun _=>pa_nil.imp fun σ H Q hq0=>by
  obtain ⟨Φ0,H0,Φ,τ,ρ,κ,R,Rx,S,t,k⟩:=hq0
  exact k [] ρ Φ H [] [] t rfl .nil (by rw [List.append_nil,show tsm []=[] from rfl,List.append_nil];exact S) (Same.refl _)⟩
theorem qav (ha:PX K X e t) (hr:PXA K X es tA) (hs:starEach (e::es) X.env=(false,eval e X.env)::starEach es X.env):PXA K X (e::es) (qoz t tA) :=
  ⟨fun hK=>(qa8 (ha.pe hK) (hr.pa hK) hs).imp fun σ H Q hq0=>by
    obtain ⟨Φ0,H0,Φ,τ,ρ,κ,R,Rx,S,t,k⟩:=hq0
    refine ⟨Φ0,H0,Φ,τ,ρ,κ,_,Rx,S,t,fun s1 ρ1 Φ1 H1 v r1 S1 f1=>?_⟩
    refine ⟨Φ0,H0,Φ1,_,ρ1,_,_,Rx,S1,r1,fun as ρ2 Φ2 H2 vs ts r2 hl hv S2 f2=>?_⟩
    refine k _ ρ2 Φ2 H2 (v::vs) (some v::ts) r2 (by rw [List.length_cons,List.length_cons,hl]) (.t hv) ?_ (f1.trans f2)
    rw [List.append_assoc,List.append_assoc] at S2
    exact S2⟩
theorem qaF (i:Nat) {x:Str} (hr:PXA K X es tA) (hs:starEach (.Name x pos::es) X.env=(false,eval (.Name x pos) X.env)::starEach es X.env) (hN:X.N[i]?=some x:=by rfl) (hv:Vis X.env.scope x:=by first | exact Or.inl rfl | exact Or.inr (Or.inl rfl) | exact Or.inr (Or.inr rfl)) (hd:(x == ("__debug__":Str))=false:=by decide)
    (hcd:(x == ("__classdict__":Str))=false:=by decide):PXA K X (.Name x pos::es) (fun ρ R Rx=>(∃ a o,ρ[i]?=some (some (.ob a o)))∧qoi i tA ρ R Rx) :=
  ⟨fun hK=>(qa8 (pv i hN hv hd hcd) (hr.pa hK) hs).imp fun σ H Q hq0=>by
    obtain ⟨Φ0,H0,Φ,τ,ρ,κ,R,Rx,S,⟨⟨a,o,ho⟩,t⟩,k⟩:=hq0
    obtain ⟨fp,E⟩:=S.env
    obtain ⟨q,e,_⟩:=E.ow i a o ho
    refine ⟨_,e,Φ0,H0,Φ,τ,ρ,κ,_,Rx,S,t,fun as ρ2 Φ2 H2 vs ts r2 hl hv S2 f2=>?_⟩
    exact k _ ρ2 Φ2 H2 (.ref q::vs) ts r2 (by rw [List.length_cons,List.length_cons,hl]) (.s e hv) S2 f2⟩
def arD:List Ar→Option (List D)
  | []=>some []
  | .t (.v d)::as=>(arD as).map (d::·)
  | _=>none
def xaD (k:List D→qaB→Prop):List Ar→qaB→Prop:=fun as ρ=>match arD as with | some ds=>k ds ρ | none=>False
theorem xaD.get {k:List D→qaB→Prop} {as:List Ar} {ρ:qaB} (h:xaD k as ρ):∃ ds,arD as=some ds∧k ds ρ:=by
  unfold xaD at h
  split at h
  · next ds e=>exact ⟨ds,e,h⟩
  · exact h.elim
theorem qgL:∀ {as:List Ar} {ds:List D},arD as=some ds→tsm as=ds.map (fun d=>some (.v d))∧as.length=ds.length
  | [],ds,h=>by cases h;exact ⟨rfl,rfl⟩
  | .t (.v d)::as,ds,h=>by
    have h':(arD as).map (d::·)=some ds:=h
    cases e:arD as with
    | none=>rw [e] at h';cases h'
    | some es =>
      rw [e] at h'
      cases h'
      obtain ⟨h1,h2⟩:=qgL e
      exact ⟨by show some (Sm.v d)::tsm as=_;rw [h1];rfl,by rw [List.length_cons,List.length_cons,h2]⟩
  | .t (.ob _ _)::_,_,h=>by cases h
  | .s _::_,_,h=>by cases h
theorem qg9 {σ:St}:∀ {as:List Ar} {ds:List D} {vs:List V} {ts:St},arD as=some ds→ArV σ as vs ts→ts=vs.map some
  | [],_,_,_,_,.nil=>rfl
  | .t (.v d)::as,ds,_,_,h,.t hv=>by
    have h':(arD as).map (d::·)=some ds:=h
    cases e:arD as with
    | none=>rw [e] at h';cases h'
    | some es=>rw [qg9 e hv];rfl
theorem StM.vals {Φ0 H0 Φ H:Hp} {σ τ ts:St} {ρ κ:qaB} {Rx:XD→qaB→Prop} {as:List Ar} {ds:List D} {vs:List V} (S:StM K X Φ0 H0 Φ H σ (τ++ts) ρ (κ++tsm as) Rx) (hl:κ.length=τ.length) (hd:arD as=some ds) (hv:ArV σ as vs ts):RpL K Φ ds vs:=by
  have e1:=qg9 hd hv
  obtain ⟨e2,e3⟩:=qgL hd
  have hlen:vs.length=ds.length:=by
    have:=S.lk
    rw [List.length_append,List.length_append,e1,e2,List.length_map,List.length_map] at this
    omega
  refine ⟨hlen,fun i v d hv' hd'=>?_⟩
  obtain ⟨w,hw,r⟩:=S.at (i:=κ.length+i) (d:=d) (by rw [List.getElem?_append_right (by omega),Nat.add_sub_cancel_left,e2,List.getElem?_map,hd'];rfl)
  rw [hl,List.getElem?_append_right (by omega),Nat.add_sub_cancel_left,e1,List.getElem?_map,hv'] at hw
  cases hw
  exact r
def qr4 (t:TXA):TX:=fun ρ R Rx=>t ρ (xaD fun ds ρ1=>R (.v (.tup ds)) ρ1) Rx
theorem qp4 {x1} (h:PXA K X es tA) (hes:Nat.ble es.length 1000=true:=by rfl):PX K X (.Tuple es x1 pos) (qr4 tA) :=
  ⟨fun hK=>(qjA (h.pa hK)).imp fun σ H Q hq0=>by
    obtain ⟨Φ0,H0,Φ,τ,ρ,κ,R,Rx,S,t,k⟩:=hq0
    refine ⟨Φ0,H0,Φ,τ,ρ,κ,_,Rx,S,t,fun as ρ1 Φ1 H1 vs ts r1 hl hv S1 f1=>?_⟩
    obtain ⟨ds,hd,r1⟩:=r1.get
    have rl:=S1.vals S.lk hd hv
    refine ⟨by rw [rl.1,← (qgL hd).2,hl];exact qiU hes,fun p hp=>?_⟩
    have g:=Gr.new S1.g.s hp (.tup vs)
    exact k _ ρ1 _ _ _ r1 (((S1.pop S.lk).gr g).pushV ((rl.same (qaH (S1.g.s.free hp) _)).tup qai)) (f1.trans g.f)⟩
def xFz (t:TX):TX:=fun ρ R Rx=>t ρ (fun s ρ1=>match s with | .ob none (.lst ds)=>R (.v (.lst ds)) ρ1 | _=>False) Rx
theorem StM.fzl {Φ0 H0 Φ H:Hp} {σ τ:St} {ρ κ:qaB} {Rx:XD→qaB→Prop} {v:V} {ds:List D} (S:StM K X Φ0 H0 Φ H σ (τ++[some v]) ρ (κ++[some (.ob none (.lst ds))]) Rx):∃ Φ',StM K X Φ0 H0 Φ' H σ (τ++[some v]) ρ (κ++[some (.v (.lst ds))]) Rx∧Same Φ Φ':=by
  have hk:κ.length=τ.length:=by have:=S.lk;rw [List.length_append,List.length_append] at this;simpa using this
  obtain ⟨fp,E⟩:=S.E
  have hat:(ρ++(κ++[some (Sm.ob none (.lst ds))]))[ρ.length+κ.length]?=some (some (.ob none (.lst ds))):=by rw [← List.append_assoc,List.getElem?_append_right (by rw [List.length_append];omega),List.length_append,Nat.sub_self];rfl
  obtain ⟨p,e,_,r⟩:=E.ow _ _ _ hat
  have hp:=r.mem
  have no:=E.no _ _ _ hat
  have ev:v=.ref p:=by
    rw [← List.append_assoc,List.getElem?_append_right (by rw [List.length_append,S.l];omega),List.length_append,S.l,hk,Nat.sub_self] at e
    cases e;rfl
  subst ev
  obtain ⟨_,vs,h1,h2⟩:=r.lst_inv
  next =>
    have hn:=(no p hp).2
    have h0:=(no p hp).1
    have s1:=qaH hn (.lst vs)
    refine ⟨upd Φ p (.lst vs),⟨S.g.freeze h0 hn h1,S.l,?_,S.x⟩,s1⟩
    have E0:EnvM K H0 (upd Φ p (.lst vs)) H (σ++τ) (ρ++κ):=by
      refine ⟨fp,fun b u eb=>?_,by rw [List.length_append,List.length_append,S.l,hk],fun j d hd=>?_,fun j a o ho=>?_,fun j a o ho b hb=>?_,fun j k a a' o o' hj hk' c=>?_,E.tb.same s1⟩
      · by_cases c:b=p
        · subst c;rw [qai] at eb;cases eb;exact h1
        · rw [qak c] at eb;exact E.fz b u eb
      · have hj:=qag hd
        obtain ⟨w,hw,rw'⟩:=E.sl j d (by rw [← List.append_assoc,List.getElem?_append_left hj];exact hd)
        rw [← List.append_assoc,List.getElem?_append_left (by rw [List.length_append] at hj ⊢;have:=S.l;omega)] at hw
        exact ⟨w,hw,rw'.same s1⟩
      · have hj:=qag ho
        obtain ⟨w,hw,ha,rw'⟩:=E.ow j a o (by rw [← List.append_assoc,List.getElem?_append_left hj];exact ho)
        rw [← List.append_assoc,List.getElem?_append_left (by rw [List.length_append] at hj ⊢;have:=S.l;omega)] at hw
        exact ⟨w,hw,ha,rw'.keep s1 fun _ _ _ h=>h⟩
      · have hj:=qag ho
        have ho':(ρ++(κ++[some (Sm.ob none (.lst ds))]))[j]?=some (some (.ob a o)):=by rw [← List.append_assoc,List.getElem?_append_left hj];exact ho
        have c:b≠p:=fun z=>E.dj j _ a _ o _ ho' hat (by rw [List.length_append] at hj;omega) b hb (by rw [z];exact hp)
        rw [qak c]
        exact E.no j a o ho' b hb
      · have hj1:=qag hj
        have hk1:=qag hk'
        exact E.dj j k a a' o o' (by rw [← List.append_assoc,List.getElem?_append_left hj1];exact hj) (by rw [← List.append_assoc,List.getElem?_append_left hk1];exact hk') c
    rw [← List.append_assoc,← List.append_assoc]
    exact E0.snocV ((h2.same s1).lst qai)
theorem qqY (h:PX K X e t):PX K X e (xFz t):=⟨fun hK=>(h.pe hK).imp fun σ H Q hq0=>by
  obtain ⟨Φ0,H0,Φ,τ,ρ,κ,R,Rx,S,t,k⟩:=hq0
  refine ⟨Φ0,H0,Φ,τ,ρ,κ,_,Rx,S,t,fun s1 ρ1 Φ1 H1 v r1 S1 f1=>?_⟩
  split at r1
  · next ds =>
    obtain ⟨Φ2,S2,f2⟩:=S1.fzl
    exact k _ ρ1 Φ2 H1 v r1 S2 (f1.trans f2)
  · exact r1.elim⟩
end
def qa7 (H:Hp) (B:List Addr):Hp:=fun b=>if b∈B then none else H b
theorem qhn {H:Hp} {B:List Addr} {b:Addr} (h:b∈B):qa7 H B b=none:=if_pos h
theorem qa5 {H:Hp} {B:List Addr} {b:Addr} (h:b∉B):qa7 H B b=H b:=if_neg h
theorem qeJ {H:Hp} {B:List Addr} {b:Addr} {u:HO} (h:qa7 H B b=some u):b∉B∧H b=some u:=by
  unfold qa7 at h
  split at h
  · cases h
  · next c=>exact ⟨c,h⟩
theorem qhU {H:Hp} {B:List Addr}:Same (qa7 H B) H:=fun b u e=>(qeJ e).2
abbrev SpM:=List Sm→(Sm→List Om→Prop)→(XD→List Om→Prop)→Prop
inductive ArgM (K:PySem.W.Frag) (Φ H:Hp):List Sm→List V→List (List Addr)→Prop where
  | nil:ArgM K Φ H [] [] []
  | v {d:D} {v:V} {as:List Sm} {vs:List V} {Fs:List (List Addr)}:Rp K Φ d v→ArgM K Φ H as vs Fs→ArgM K Φ H (.v d::as) (v::vs) ([]::Fs)
  | o {a:Option Addr} {o:Om} {p:Addr} {F:List Addr} {as:List Sm} {vs:List V} {Fs:List (List Addr)}:OmS K Φ H o p F→ArgM K Φ H as vs Fs→ArgM K Φ H (.ob a o::as) (.ref p::vs) (F::Fs)
inductive OutM (K:PySem.W.Frag) (Φ H:Hp):List Sm→List V→List Om→List (List Addr)→Prop where
  | nil:OutM K Φ H [] [] [] []
  | v {d:D} {v:V} {as:List Sm} {vs:List V} {os:List Om} {Fs:List (List Addr)}:OutM K Φ H as vs os Fs→OutM K Φ H (.v d::as) (v::vs) os ([]::Fs)
  | o {a:Option Addr} {o o':Om} {p:Addr} {F:List Addr} {as:List Sm} {vs:List V} {os:List Om} {Fs:List (List Addr)}:OmS K Φ H o' p F→OutM K Φ H as vs os Fs→OutM K Φ H (.ob a o::as) (.ref p::vs) (o'::os) (F::Fs)
inductive ResM (K:PySem.W.Frag) (Φ H:Hp):Sm→V→List Addr→Prop where
  | v {d:D} {v:V}:Rp K Φ d v→ResM K Φ H (.v d) v []
  | o {a:Option Addr} {o:Om} {p:Addr} {F:List Addr}:(∀ q,a=some q→q=p)→OmS K Φ H o p F→ResM K Φ H (.ob a o) (.ref p) F
def qdD (K:PySem.W.Frag) (sp:SpM):Sp:=fun vs H Q _=>∃ Φ as Fs R Rx,Same Φ H∧TabF K Φ∧ArgM K Φ H as vs Fs∧Fs.flatten.Nodup∧(∀ b∈Fs.flatten,Φ b=none)∧sp as R Rx ∧
  ∀ sm os Φ' H' v F Fs',R sm os→Gr Φ (qa7 H Fs.flatten) Φ' H'→ResM K Φ' H' sm v F→OutM K Φ' H' as vs os Fs'→(F++Fs'.flatten).Nodup→(∀ b∈F++Fs'.flatten,qa7 H Fs.flatten b=none∧Φ' b=none)→Q v H'
theorem OmS.nodup {K:PySem.W.Frag} {Φ H:Hp} {o:Om} {p:Addr} {F:List Addr} (h:OmS K Φ H o p F):F.Nodup:=by
  cases h with
  | lst _ _=>simp
  | map _ _=>simp
  | mpT _ _=>simp
  | obj _ _ _ h=>exact h
  | ptr=>exact .nil
  | tl _ _ h=>exact h
  | pr _ _ _ _=>simp
theorem ArgM.len {K:PySem.W.Frag} {Φ H:Hp} {as:List Sm} {vs:List V} {Fs:List (List Addr)} (h:ArgM K Φ H as vs Fs):vs.length=as.length∧Fs.length=as.length:=by
  induction h with
  | nil=>exact ⟨rfl,rfl⟩
  | v _ _ ih=>exact ⟨by simp [ih.1],by simp [ih.2]⟩
  | o _ _ ih=>exact ⟨by simp [ih.1],by simp [ih.2]⟩
section
variable {K : PySem.W.Frag} {H0 H H' Φ Φ' Φ0 : Hp} {σ σ2 : St} {ρ ρ2 : qaB} {fp : Nat → List Addr} {F F' B : List Addr} {o o' : Om} {p : Addr} {d : D} {v : V} {i : Nat} {a : Option Addr}
def fpN (new:Nat→Option (Om × List Addr)) (fp:Nat→List Addr):Nat→List Addr:=fun i=>match new i with | some q=>q.2 | none=>fp i
theorem EnvM'.lend {new:Nat→Option (Om × List Addr)} (E:EnvM' K H0 Φ H σ ρ fp) (s0:Same H0 H) (hB:∀ b,b∈B→∃ i a o q,new i=some q∧ρ[i]?=some (some (.ob a o))∧b∈fp i) (hB2:∀ i q,new i=some q→∀ b∈fp i,b∈B) (g:Gr Φ (qa7 H B) Φ' H')
    (hl:ρ2.length=ρ.length) (hv:∀ (i:Nat) (d:D),ρ2[i]?=some (some (.v d))→ρ[i]?=some (some (.v d)))
    (ho:∀ (i:Nat) (a:Option Addr) (o:Om),ρ2[i]?=some (some (.ob a o))→(new i=none∧ρ[i]?=some (some (.ob a o)))∨∃ o0 F',new i=some (o,F')∧ρ[i]?=some (some (.ob a o0)))
    (hn:∀ (i:Nat) (q:Om × List Addr),new i=some q→∃ p,σ[i]?=some (some (.ref p))∧OmS K Φ' H' q.1 p q.2) (hF:∀ (i:Nat) (q:Om × List Addr),new i=some q→∀ b∈q.2,qa7 H B b=none∧Φ' b=none)
    (hd:∀ (i j:Nat) (q r:Om × List Addr),new i=some q→new j=some r→i≠j→∀ b∈q.2,b∉r.2):EnvM' K H0 Φ' H' σ ρ2 (fpN new fp):=by
  have B0:∀ b∈B,H0 b=none:=fun b hb=>let ⟨i,a,o,_,_,h,hm⟩:=hB b hb;(E.no i a o h b hm).1
  have out:∀ {i:Nat} {a:Option Addr} {o:Om},new i=none→ρ[i]?=some (some (.ob a o))→∀ b∈fp i,b∉B:=fun {i a o} hi h b hb z=>by
    obtain ⟨j,a',o2,q,hj,h2,hm⟩:=hB b z
    have c:i≠j:=fun e=>by rw [e,hj] at hi;cases hi
    exact E.dj i j a a' o o2 h h2 c b hb hm
  have fpn:∀ {i:Nat},new i=none→fpN new fp i=fp i:=fun h=>by unfold fpN;rw [h]
  have fps:∀ {i:Nat} {q:Om × List Addr},new i=some q→fpN new fp i=q.2:=fun h=>by unfold fpN;rw [h]
  refine ⟨g.s,by rw [hl];exact E.len,fun i d h=>?_,fun i a o h=>?_,fun i a o h b hb=>?_,fun i j a a' o o' hi hj c b hb hb2=>?_,E.tb.same g.f⟩
  · obtain ⟨v,e,r⟩:=E.sl i d (hv i d h)
    exact ⟨v,e,r.same g.f⟩
  · rcases ho i a o h with ⟨h1,h2⟩ | ⟨o0,F',h1,h2⟩
    · obtain ⟨p,e,ha,r⟩:=E.ow i a o h2
      refine ⟨p,e,ha,?_⟩
      rw [fpn h1]
      exact r.keep g.f fun b hb u hu=>g.h b u (by rw [qa5 (out h1 h2 b hb)];exact hu)
    · obtain ⟨p,e,ha,_⟩:=E.ow i a o0 h2
      obtain ⟨p',e',r⟩:=hn i _ h1
      rw [e] at e'
      cases e'
      exact ⟨p,e,ha,by rw [fps h1];exact r⟩
  · rcases ho i a o h with ⟨h1,h2⟩ | ⟨o0,F',h1,h2⟩
    · rw [fpn h1] at hb
      obtain ⟨p,_,_,r⟩:=E.ow i a o h2
      obtain ⟨u,hu,k⟩:=r.at b hb
      exact ⟨(E.no i a o h2 b hb).1,g.o b u (by rw [qa5 (out h1 h2 b hb)];exact hu) (E.no i a o h2 b hb).2 k⟩
    · rw [fps h1] at hb
      obtain ⟨z1,z2⟩:=hF i _ h1 b hb
      refine ⟨?_,z2⟩
      rcases Decidable.em (b∈B) with c | c
      · exact B0 b c
      · rw [qa5 c] at z1
        cases e:H0 b with
        | none=>rfl
        | some u=>rw [s0 b u e] at z1;cases z1
  · have no:∀ {i j:Nat} {q:Om × List Addr} {a:Option Addr} {o:Om},new i=some q→new j=none→ρ[j]?=some (some (.ob a o))→b∈q.2→b∈fp j→False:=fun {i j q a o} h1 h2 h3 h4 h5=>by
      obtain ⟨p,_,_,r⟩:=E.ow j a o h3
      obtain ⟨u,hu,_⟩:=r.at b h5
      have:=(hF i q h1 b h4).1
      rw [qa5 (out h2 h3 b h5),hu] at this
      cases this
    rcases ho i a o hi with ⟨h1,h2⟩ | ⟨o0,F',h1,h2⟩
    · rw [fpn h1] at hb
      rcases ho j a' o' hj with ⟨k1,k2⟩ | ⟨o1,F1,k1,k2⟩
      · rw [fpn k1] at hb2
        exact E.dj i j a a' o o' h2 k2 c b hb hb2
      · rw [fps k1] at hb2
        exact no k1 h1 h2 hb2 hb
    · rw [fps h1] at hb
      rcases ho j a' o' hj with ⟨k1,k2⟩ | ⟨o1,F1,k1,k2⟩
      · rw [fpn k1] at hb2
        exact no h1 k1 k2 hb hb2
      · rw [fps k1] at hb2
        exact hd i j _ _ h1 k1 c b hb hb2
theorem Gr.lend (g0:Gr Φ0 H0 Φ H) (g:Gr Φ (qa7 H B) Φ' H') (B0:∀ b∈B,H0 b=none):Gr Φ0 H0 Φ' H':=by
  have up:∀ {b:Addr} {u:HO},H0 b=some u→qa7 H B b=some u:=fun {b u} e=>by
    rw [qa5 fun z=>by rw [B0 b z] at e;cases e]
    exact g0.h b u e
  exact ⟨g0.f.trans g.f,fun b u e=>g.h b u (up e),g.s,fun b u h1 h2 k=>g.o b u (up h1) (g0.o b u h1 h2 k) k⟩
theorem EnvM'.snocG (E:EnvM' K H0 Φ H σ ρ fp) {sm:Sm} (hr:ResM K Φ H sm v F) (hf:∀ b∈F,H0 b=none∧Φ b=none) (hd:∀ b∈F,∀ (i:Nat) (a:Option Addr) (o:Om),ρ[i]?=some (some (.ob a o))→b∉fp i):EnvM K H0 Φ H (σ++[some v]) (ρ++[some sm]):=by
  cases hr with
  | v r=>exact EnvM.snocV ⟨fp,E⟩ r
  | @o a0 o p F ha0 ho =>
    have cs:∀ {i:Nat} {x:Sm},(ρ++[some (Sm.ob a0 o)])[i]?=some (some x)→(i<ρ.length∧ρ[i]?=some (some x))∨(i=ρ.length∧x=.ob a0 o):=fun {i x} h=>by
      rcases Nat.lt_or_ge i ρ.length with c | c
      · rw [List.getElem?_append_left c] at h
        exact .inl ⟨c,h⟩
      · rw [List.getElem?_append_right c] at h
        cases e:i - ρ.length with
        | zero=>rw [e] at h;cases h;exact .inr ⟨by omega,rfl⟩
        | succ n=>rw [e] at h;cases h
    refine ⟨fun i=>if i=ρ.length then F else fp i,E.fz,by rw [List.length_append,List.length_append,E.len];rfl,fun i d h=>?_,fun i a o' h=>?_,fun i a o' h b hb=>?_,fun i j a a' o1 o2 hi hj c b hb hb2=>?_,E.tb⟩
    · rcases cs h with ⟨c,h⟩ | ⟨_,h⟩
      · obtain ⟨v,e,r⟩:=E.sl i d h
        exact ⟨v,by rw [List.getElem?_append_left (by rw [E.len];exact c)];exact e,r⟩
      · cases h
    · rcases cs h with ⟨c,h⟩ | ⟨c,h⟩
      · obtain ⟨q,e,r⟩:=E.ow i a o' h
        exact ⟨q,by rw [List.getElem?_append_left (by rw [E.len];exact c)];exact e,by rw [if_neg (by omega)];exact r⟩
      · cases h
        subst c
        refine ⟨p,by rw [List.getElem?_append_right (by rw [E.len];exact Nat.le_refl _),E.len,Nat.sub_self];rfl,ha0,by rw [if_pos rfl];exact ho⟩
    · rcases cs h with ⟨c,h⟩ | ⟨c,h⟩
      · rw [if_neg (by omega)] at hb
        exact E.no i a o' h b hb
      · rw [if_pos c] at hb
        exact hf b hb
    · rcases cs hi with ⟨ci,hi⟩ | ⟨ci,hi⟩
      · rw [if_neg (by omega)] at hb
        rcases cs hj with ⟨cj,hj⟩ | ⟨cj,hj⟩
        · rw [if_neg (by omega)] at hb2
          exact E.dj i j a a' o1 o2 hi hj c b hb hb2
        · rw [if_pos cj] at hb2
          exact hd b hb2 i a o1 hi hb
      · rw [if_pos ci] at hb
        rcases cs hj with ⟨cj,hj⟩ | ⟨cj,hj⟩
        · rw [if_neg (by omega)] at hb2
          exact hd b hb j a' o2 hj hb2
        · omega
end
def qce (ρ:qaB):List Ar→Option (List Sm)
  | []=>some []
  | .t s::as=>(qce ρ as).map (s::·)
  | .s i::as=>match ρ[i]? with
    | some (some (.ob _ o))=>(qce ρ as).map (.ob none o::·)
    | _=>none
def qbr (o:Om):Option Sm→Option Sm
  | some (.ob a _)=>some (.ob a o)
  | x=>x
def qa6:qaB→Nat→Om→qaB
  | [],_,_=>[]
  | x::ρ,0,o=>qbr o x::ρ
  | x::ρ,i+1,o=>x::qa6 ρ i o
theorem qdn:∀ (ρ:qaB) (i:Nat) (o:Om),qa6 ρ i o=(match ρ[i]? with
    | some (some (.ob a _))=>ρ.set i (some (.ob a o))
    | _=>ρ)
  | [],_,_=>rfl
  | some (.ob _ _)::_,0,_=>rfl
  | some (.v _)::_,0,_=>rfl
  | none::_,0,_=>rfl
  | x::ρ,i+1,o=>by
    show x::qa6 ρ i o=_
    rw [qdn ρ i o,List.getElem?_cons_succ]
    match ρ[i]? with
    | some (some (.ob _ _))=>rfl
    | some (some (.v _))=>rfl
    | some none=>rfl
    | none=>rfl
def qa0 (ρ:qaB):List Ar→List Om→qaB
  | [],_=>ρ
  | .t (.v _)::as,os=>qa0 ρ as os
  | .t (.ob _ _)::as,_::os=>qa0 ρ as os
  | .t (.ob _ _)::as,[]=>qa0 ρ as []
  | .s i::as,o::os=>qa0 (qa6 ρ i o) as os
  | .s _::as,[]=>qa0 ρ as []
def qbn:List Ar→List Nat
  | []=>[]
  | .t _::as=>qbn as
  | .s i::as=>i::qbn as
def qgp (as:List Ar):Bool:=decide (qbn as).Nodup
def qew:Nat→List Ar→List Om→List (List Addr)→Nat→Option (Om × List Addr)
  | n,.t (.v _)::as,os,_::Fs,i=>qew (n+1) as os Fs i
  | n,.t (.ob _ _)::as,o::os,F::Fs,i=>if i=n then some (o,F) else qew (n+1) as os Fs i
  | n,.s j::as,o::os,F::Fs,i=>if i=j then some (o,F) else qew n as os Fs i
  | _,_,_,_,_=>none
section
variable {K : PySem.W.Frag} {H0 H H' Φ Φ' Φ0 : Hp} {σ σ2 : St} {ρ : qaB} {fp : Nat → List Addr}
def fpA (fp:Nat→List Addr):Nat→List Ar→List (List Addr)
  | _,[]=>[]
  | n,.t (.v _)::as=>[]::fpA fp (n+1) as
  | n,.t (.ob _ _)::as=>fp n::fpA fp (n+1) as
  | n,.s j::as=>fp j::fpA fp n as
def qaS:Nat→List Ar→List Nat
  | _,[]=>[]
  | n,.t (.v _)::as=>qaS (n+1) as
  | n,.t (.ob _ _)::as=>n::qaS (n+1) as
  | n,.s j::as=>j::qaS n as
theorem fpA_mem:∀ {n:Nat} {as:List Ar} {b:Addr},b∈(fpA fp n as).flatten↔∃ i∈qaS n as,b∈fp i
  | n,[],b=>by simp [fpA,qaS]
  | n,.t (.v _)::as,b=>by simp only [fpA,qaS,List.flatten_cons,List.nil_append];exact fpA_mem
  | n,.t (.ob _ _)::as,b=>by simp only [fpA,qaS,List.flatten_cons,List.mem_append,List.mem_cons,fpA_mem (n:=n+1) (as:=as),exists_eq_or_imp]
  | n,.s j::as,b=>by simp only [fpA,qaS,List.flatten_cons,List.mem_append,List.mem_cons,fpA_mem (n:=n) (as:=as),exists_eq_or_imp]
theorem qbW:∀ {n:Nat} {as:List Ar} {i:Nat},i∈qaS n as→i∈qbn as∨(n≤i∧i<n+(tsm as).length)
  | n,[],i,h=>by cases h
  | n,.t (.v d)::as,i,h=>by
    have h:i∈qaS (n+1) as:=h
    rcases qbW h with z | z
    · exact .inl z
    · refine .inr ⟨by omega,?_⟩
      show i<n+((tsm as).length+1)
      omega
  | n,.t (.ob a o)::as,i,h=>by
    rcases List.mem_cons.mp h with rfl | h
    · refine .inr ⟨Nat.le_refl _,?_⟩
      show i<i+((tsm as).length+1)
      omega
    · rcases qbW h with z | z
      · exact .inl z
      · refine .inr ⟨by omega,?_⟩
        show i<n+((tsm as).length+1)
        omega
  | n,.s j::as,i,h=>by
    rcases List.mem_cons.mp h with rfl | h
    · exact .inl List.mem_cons_self
    · rcases qbW h with z | z
      · exact .inl (List.mem_cons_of_mem _ z)
      · exact .inr z
theorem qbP:∀ {n:Nat} {as:List Ar},(qbn as).Nodup→(∀ i∈qbn as,i<n)→(qaS n as).Nodup
  | n,[],_,_=>by simp [qaS]
  | n,.t (.v d)::as,h,hl=>qbP (n:=n+1) h fun i hi=>Nat.lt_succ_of_lt (hl i hi)
  | n,.t (.ob a o)::as,h,hl=>by
    refine List.nodup_cons.mpr ⟨fun z=>?_,qbP (n:=n+1) h fun i hi=>Nat.lt_succ_of_lt (hl i hi)⟩
    rcases qbW z with z | z
    · exact Nat.lt_irrefl _ (hl n z)
    · omega
  | n,.s j::as,h,hl=>by
    obtain ⟨h1,h2⟩:=List.nodup_cons.mp h
    refine List.nodup_cons.mpr ⟨fun z=>?_,qbP h2 fun i hi=>hl i (List.mem_cons_of_mem _ hi)⟩
    rcases qbW z with z | z
    · exact h1 z
    · have:=hl j List.mem_cons_self
      omega
theorem qhu {σx:St} {ρx:qaB} (E:EnvM' K H0 Φ H σx ρx fp) (hs:∀ (i:Nat) (x:Sm),ρ[i]?=some (some x)→ρx[i]?=some (some x)) (hs2:∀ (i:Nat) (v:V),σ[i]?=some (some v)→σx[i]?=some (some v)) :
    ∀ {n:Nat} {as:List Ar} {sms:List Sm} {vs:List V} {ts:St},(∀ (j:Nat) x,(tsm as)[j]?=some x→ρx[n+j]?=some x)→(∀ (j:Nat) x,ts[j]?=some x→σx[n+j]?=some x)→qce ρ as=some sms→ArV σ as vs ts→ArgM K Φ H sms vs (fpA fp n as)
  | n,[],sms,_,_,_,_,hr,.nil=>by cases hr;exact .nil
  | n,.t (.v d)::as,sms,_,_,h1,h2,hr,.t hv=>by
    have hr':(qce ρ as).map (Sm.v d::·)=some sms:=hr
    cases e:qce ρ as with
    | none=>rw [e] at hr';cases hr'
    | some sms' =>
      rw [e] at hr'
      cases hr'
      obtain ⟨w,hw,r⟩:=E.sl n d (h1 0 _ rfl)
      have:=h2 0 _ rfl
      rw [show n+0=n from rfl,hw] at this
      cases this
      exact .v r (qhu E hs hs2 (n:=n+1) (fun j x hx=>by rw [show n+1+j=n+(j+1) by omega];exact h1 (j+1) x hx) (fun j x hx=>by rw [show n+1+j=n+(j+1) by omega];exact h2 (j+1) x hx) e hv)
  | n,.t (.ob a o)::as,sms,_,_,h1,h2,hr,.t hv=>by
    have hr':(qce ρ as).map (Sm.ob a o::·)=some sms:=hr
    cases e:qce ρ as with
    | none=>rw [e] at hr';cases hr'
    | some sms' =>
      rw [e] at hr'
      cases hr'
      obtain ⟨w,hw,_,r⟩:=E.ow n a o (h1 0 _ rfl)
      have:=h2 0 _ rfl
      rw [show n+0=n from rfl,hw] at this
      cases this
      exact .o r (qhu E hs hs2 (n:=n+1) (fun j x hx=>by rw [show n+1+j=n+(j+1) by omega];exact h1 (j+1) x hx) (fun j x hx=>by rw [show n+1+j=n+(j+1) by omega];exact h2 (j+1) x hx) e hv)
  | n,.s i::as,sms,_,_,h1,h2,hr,.s hi hv=>by
    unfold qce at hr
    split at hr
    · next a o ho =>
      cases e:qce ρ as with
      | none=>rw [e] at hr;cases hr
      | some sms' =>
        rw [e] at hr
        cases hr
        obtain ⟨w,hw,_,r⟩:=E.ow i a o (hs i _ ho)
        rw [hs2 i _ hi] at hw
        cases hw
        exact .o r (qhu E hs hs2 h1 h2 e hv)
    · cases hr
theorem qhw {σx:St} {ρx:qaB} (hs:∀ (i:Nat) (x:Sm),ρ[i]?=some (some x)→ρx[i]?=some (some x)) :
    ∀ {n:Nat} {as:List Ar} {sms:List Sm},(∀ (j:Nat) x,(tsm as)[j]?=some x→ρx[n+j]?=some x)→qce ρ as=some sms→∀ i∈qaS n as,∃ a o,ρx[i]?=some (some (.ob a o))
  | n,[],sms,_,hr,i,h=>by cases h
  | n,.t (.v d)::as,sms,h1,hr,i,h=>by
    have hr':(qce ρ as).map (Sm.v d::·)=some sms:=hr
    cases e:qce ρ as with
    | none=>rw [e] at hr';cases hr'
    | some sms'=>exact qhw (σx:=σx) hs (n:=n+1) (fun j x hx=>by rw [show n+1+j=n+(j+1) by omega];exact h1 (j+1) x hx) e i h
  | n,.t (.ob a o)::as,sms,h1,hr,i,h=>by
    have hr':(qce ρ as).map (Sm.ob a o::·)=some sms:=hr
    cases e:qce ρ as with
    | none=>rw [e] at hr';cases hr'
    | some sms' =>
      rcases List.mem_cons.mp h with rfl | h
      · exact ⟨a,o,h1 0 _ rfl⟩
      · exact qhw (σx:=σx) hs (n:=n+1) (fun j x hx=>by rw [show n+1+j=n+(j+1) by omega];exact h1 (j+1) x hx) e i h
  | n,.s j::as,sms,h1,hr,i,h=>by
    unfold qce at hr
    split at hr
    · next a o ho =>
      cases e:qce ρ as with
      | none=>rw [e] at hr;cases hr
      | some sms' =>
        rcases List.mem_cons.mp h with rfl | h
        · exact ⟨a,o,hs _ _ ho⟩
        · exact qhw (σx:=σx) hs (n:=n) (as:=as) h1 e i h
    · cases hr
theorem qcW {σx:St} {ρx:qaB} (E:EnvM' K H0 Φ H σx ρx fp):∀ {n:Nat} {as:List Ar},(qaS n as).Nodup→(∀ i∈qaS n as,∃ a o,ρx[i]?=some (some (.ob a o)))→(fpA fp n as).flatten.Nodup
  | n,[],_,_=>by simp [fpA]
  | n,.t (.v d)::as,h,ho=>by
    show ([]++(fpA fp (n+1) as).flatten).Nodup
    rw [List.nil_append]
    exact qcW E (n:=n+1) h ho
  | n,.t (.ob a o)::as,h,ho=>by
    show (fp n++(fpA fp (n+1) as).flatten).Nodup
    obtain ⟨h1,h2⟩:=List.nodup_cons.mp h
    obtain ⟨a',o',hn⟩:=ho n List.mem_cons_self
    obtain ⟨_,_,_,r⟩:=E.ow n a' o' hn
    refine List.nodup_append.mpr ⟨r.nodup,qcW E (n:=n+1) h2 fun i hi=>ho i (List.mem_cons_of_mem _ hi),fun b hb c hc e=>?_⟩
    subst e
    obtain ⟨i,hi,hbi⟩:=fpA_mem.mp hc
    obtain ⟨a2,o2,hi2⟩:=ho i (List.mem_cons_of_mem _ hi)
    exact E.dj n i a' a2 o' o2 hn hi2 (fun e=>h1 (e ▸ hi)) b hb hbi
  | n,.s j::as,h,ho=>by
    show (fp j++(fpA fp n as).flatten).Nodup
    obtain ⟨h1,h2⟩:=List.nodup_cons.mp h
    obtain ⟨a',o',hn⟩:=ho j List.mem_cons_self
    obtain ⟨_,_,_,r⟩:=E.ow j a' o' hn
    refine List.nodup_append.mpr ⟨r.nodup,qcW E h2 fun i hi=>ho i (List.mem_cons_of_mem _ hi),fun b hb c hc e=>?_⟩
    subst e
    obtain ⟨i,hi,hbi⟩:=fpA_mem.mp hc
    obtain ⟨a2,o2,hi2⟩:=ho i (List.mem_cons_of_mem _ hi)
    exact E.dj j i a' a2 o' o2 hn hi2 (fun e=>h1 (e ▸ hi)) b hb hbi
theorem qbG:∀ {n:Nat} {as:List Ar} {os:List Om} {Fs:List (List Addr)} {i:Nat} {q:Om × List Addr},qew n as os Fs i=some q→i∈qaS n as
  | n,[],_,_,_,_,h=>by cases h
  | n,.t (.v d)::as,os,[],i,q,h=>by cases h
  | n,.t (.v d)::as,os,F::Fs,i,q,h=>qbG (n:=n+1) h
  | n,.t (.ob a o)::as,[],Fs,i,q,h=>by cases Fs <;> cases h
  | n,.t (.ob a o)::as,_::_,[],i,q,h=>by cases h
  | n,.t (.ob a o)::as,o'::os,F::Fs,i,q,h=>by
    have h:(if i=n then some (o',F) else qew (n+1) as os Fs i)=some q:=h
    split at h
    · next c=>rw [c];exact List.mem_cons_self
    · exact List.mem_cons_of_mem _ (qbG h)
  | n,.s j::as,[],Fs,i,q,h=>by cases Fs <;> cases h
  | n,.s j::as,_::_,[],i,q,h=>by cases h
  | n,.s j::as,o'::os,F::Fs,i,q,h=>by
    have h:(if i=j then some (o',F) else qew n as os Fs i)=some q:=h
    split at h
    · next c=>rw [c];exact List.mem_cons_self
    · exact List.mem_cons_of_mem _ (qbG h)
theorem qg4 {σx:St} (hs2:∀ (i:Nat) (v:V),σ[i]?=some (some v)→σx[i]?=some (some v)) :
    ∀ {n:Nat} {as:List Ar} {sms:List Sm} {vs:List V} {ts:St} {os:List Om} {Fs:List (List Addr)},(∀ (j:Nat) x,ts[j]?=some x→σx[n+j]?=some x)→qce ρ as=some sms→ArV σ as vs ts→OutM K Φ H sms vs os Fs→(qaS n as).Nodup→Fs.flatten.Nodup →
      (∀ i∈qaS n as,∃ q,qew n as os Fs i=some q)∧∀ (i:Nat) (q:Om × List Addr),qew n as os Fs i=some q→(∃ p,σx[i]?=some (some (.ref p))∧OmS K Φ H q.1 p q.2)∧(∀ b∈q.2,b∈Fs.flatten)∧∀ (j:Nat) (r:Om × List Addr),qew n as os Fs j=some r→i≠j→∀ b∈q.2,b∉r.2
  | n,[],sms,_,_,os,Fs,_,hr,.nil,ho,_,_=>by
    refine ⟨fun i hi=>(by cases hi),fun i q h=>(by cases h)⟩
  | n,.t (.v d)::as,sms,_,_,os,Fs,h2,hr,.t hv,ho,np,nf=>by
    have hr':(qce ρ as).map (Sm.v d::·)=some sms:=hr
    cases e:qce ρ as with
    | none=>rw [e] at hr';cases hr'
    | some sms' =>
      rw [e] at hr'
      cases hr'
      cases ho with
      | v ho =>
        have ih:=qg4 hs2 (n:=n+1) (fun j x hx=>by rw [show n+1+j=n+(j+1) by omega];exact h2 (j+1) x hx) e hv ho np (by simpa using nf)
        exact ⟨ih.1,fun i q h=>by obtain ⟨z1,z2,z3⟩:=ih.2 i q h;exact ⟨z1,fun b hb=>by simpa using z2 b hb,z3⟩⟩
  | n,.t (.ob a o)::as,sms,_,_,os,Fs,h2,hr,.t hv,ho,np,nf=>by
    have hr':(qce ρ as).map (Sm.ob a o::·)=some sms:=hr
    cases e:qce ρ as with
    | none=>rw [e] at hr';cases hr'
    | some sms' =>
      rw [e] at hr'
      cases hr'
      cases ho with
      | @o _ _ o' p F _ _ os Fs h1 ho =>
        obtain ⟨np1,np2⟩:=List.nodup_cons.mp np
        obtain ⟨nf1,nf2,nf3⟩:=List.nodup_append.mp (show (F++Fs.flatten).Nodup from nf)
        have ih:=qg4 hs2 (n:=n+1) (fun j x hx=>by rw [show n+1+j=n+(j+1) by omega];exact h2 (j+1) x hx) e hv ho np2 nf2
        have u:∀ i,qew n (.t (.ob a o)::as) (o'::os) (F::Fs) i=if i=n then some (o',F) else qew (n+1) as os Fs i:=fun i=>rfl
        refine ⟨fun i hi=>?_,fun i q h=>?_⟩
        · rw [u]
          split
          · exact ⟨_,rfl⟩
          · next c=>exact ih.1 i ((List.mem_cons.mp hi).resolve_left c)
        · rw [u] at h
          split at h
          · next c =>
            subst c
            cases h
            refine ⟨⟨p,h2 0 _ rfl,h1⟩,fun b hb=>List.mem_append.mpr (.inl hb),fun j r hj c b hb hb2=>?_⟩
            rw [u,if_neg (Ne.symm c)] at hj
            exact nf3 b hb b ((ih.2 j r hj).2.1 b hb2) rfl
          · next c =>
            obtain ⟨z1,z2,z3⟩:=ih.2 i q h
            refine ⟨z1,fun b hb=>List.mem_append.mpr (.inr (z2 b hb)),fun j r hj c2 b hb hb2=>?_⟩
            rw [u] at hj
            split at hj
            · next c3 =>
              cases hj
              exact nf3 b hb2 b (z2 b hb) rfl
            · exact z3 j r hj c2 b hb hb2
  | n,.s j0::as,sms,_,_,os,Fs,h2,hr,.s hi hv,ho,np,nf=>by
    unfold qce at hr
    split at hr
    · next a o ho0 =>
      cases e:qce ρ as with
      | none=>rw [e] at hr;cases hr
      | some sms' =>
        rw [e] at hr
        cases hr
        cases ho with
        | @o _ _ o' p F _ _ os Fs h1 ho =>
          obtain ⟨np1,np2⟩:=List.nodup_cons.mp np
          obtain ⟨nf1,nf2,nf3⟩:=List.nodup_append.mp (show (F++Fs.flatten).Nodup from nf)
          have ih:=qg4 hs2 h2 e hv ho np2 nf2
          have u:∀ i,qew n (.s j0::as) (o'::os) (F::Fs) i=if i=j0 then some (o',F) else qew n as os Fs i:=fun i=>rfl
          refine ⟨fun i hi=>?_,fun i q h=>?_⟩
          · rw [u]
            split
            · exact ⟨_,rfl⟩
            · next c=>exact ih.1 i ((List.mem_cons.mp hi).resolve_left c)
          · rw [u] at h
            split at h
            · next c =>
              subst c
              cases h
              refine ⟨⟨p,hs2 _ _ hi,h1⟩,fun b hb=>List.mem_append.mpr (.inl hb),fun j r hj c b hb hb2=>?_⟩
              rw [u,if_neg (Ne.symm c)] at hj
              exact nf3 b hb b ((ih.2 j r hj).2.1 b hb2) rfl
            · next c =>
              obtain ⟨z1,z2,z3⟩:=ih.2 i q h
              refine ⟨z1,fun b hb=>List.mem_append.mpr (.inr (z2 b hb)),fun j r hj c2 b hb hb2=>?_⟩
              rw [u] at hj
              split at hj
              · next c3 =>
                cases hj
                exact nf3 b hb2 b (z2 b hb) rfl
              · exact z3 j r hj c2 b hb hb2
    · cases hr
theorem qne {ρ:qaB} {i j:Nat} {o:Om} {x:Option Sm} (h:(qa6 ρ i o)[j]?=some x) (c:j≠i):ρ[j]?=some x:=by
  rw [qdn] at h
  split at h
  · rwa [List.getElem?_set_ne (Ne.symm c)] at h
  · exact h
theorem qg7 {ρ:qaB} {i:Nat} {o:Om}:(qa6 ρ i o).length=ρ.length:=by
  rw [qdn]
  split
  · rw [List.length_set]
  · rfl
theorem qat:∀ {as:List Ar} {ρ:qaB} {os:List Om},(qa0 ρ as os).length=ρ.length
  | [],_,_=>rfl
  | .t (.v _)::as,ρ,os=>qat (as:=as)
  | .t (.ob _ _)::as,ρ,_::os=>qat (as:=as)
  | .t (.ob _ _)::as,ρ,[]=>qat (as:=as)
  | .s i::as,ρ,o::os=>by show (qa0 (qa6 ρ i o) as os).length=_;rw [qat,qg7]
  | .s _::as,ρ,[]=>qat (as:=as)
theorem qbC:∀ {as:List Ar} {ρ:qaB} {os:List Om} {i:Nat} {x:Option Sm},i∉qbn as→(qa0 ρ as os)[i]?=some x→ρ[i]?=some x
  | [],_,_,_,_,_,h=>h
  | .t (.v _)::as,ρ,os,i,x,hn,h=>qbC (as:=as) (os:=os) hn h
  | .t (.ob _ _)::as,ρ,_::os,i,x,hn,h=>qbC (as:=as) (os:=os) hn h
  | .t (.ob _ _)::as,ρ,[],i,x,hn,h=>qbC (as:=as) (os:=[]) hn h
  | .s j::as,ρ,o::os,i,x,hn,h=>by
    have h':=qbC (as:=as) (fun z=>hn (List.mem_cons_of_mem _ z)) (show (qa0 (qa6 ρ j o) as os)[i]?=some x from h)
    exact qne h' fun e=>hn (by rw [e];exact List.mem_cons_self)
  | .s j::as,ρ,[],i,x,hn,h=>qbC (as:=as) (os:=[]) (fun z=>hn (List.mem_cons_of_mem _ z)) h
theorem qcm {ρ:qaB} {i j:Nat} {o:Om} (c:j≠i):(qa6 ρ i o)[j]?=ρ[j]?:=by
  rw [qdn]
  split
  · rw [List.getElem?_set_ne (Ne.symm c)]
  · rfl
theorem qdl {ρ0:qaB}:∀ {as:List Ar} {ρ:qaB} {sms:List Sm} {vs:List V} {ts:St} {os:List Om} {Fs:List (List Addr)} {n i:Nat} {x:Sm},qce ρ0 as=some sms→ArV σ as vs ts→OutM K Φ H sms vs os Fs→i∈qbn as→i<n→(qbn as).Nodup→(qa0 ρ as os)[i]?=some (some x)→(∀ j∈qbn as,∃ a o,ρ[j]?=some (some (.ob a o))) →
    ∃ a o0 q,x=.ob a q.1∧qew n as os Fs i=some q∧ρ[i]?=some (some (.ob a o0))
  | [],_,_,_,_,_,_,_,_,_,_,_,_,h,_,_,_,_=>by cases h
  | .t (.v d)::as,ρ,sms,_,_,os,Fs,n,i,x,hr,.t hv,ho,h,hi,nd,hp,hs=>by
    have hr':(qce ρ0 as).map (Sm.v d::·)=some sms:=hr
    cases e:qce ρ0 as with
    | none=>rw [e] at hr';cases hr'
    | some sms' =>
      rw [e] at hr'
      cases hr'
      cases ho with
      | v ho=>exact qdl (n:=n+1) (as:=as) e hv ho h (by omega) nd hp hs
  | .t (.ob a1 o1)::as,ρ,sms,_,_,os,Fs,n,i,x,hr,.t hv,ho,h,hi,nd,hp,hs=>by
    have hr':(qce ρ0 as).map (Sm.ob a1 o1::·)=some sms:=hr
    cases e:qce ρ0 as with
    | none=>rw [e] at hr';cases hr'
    | some sms' =>
      rw [e] at hr'
      cases hr'
      cases ho with
      | @o _ _ o' p F _ _ os Fs h1 ho =>
        obtain ⟨a,o0,q,e1,e2,e3⟩:=qdl (n:=n+1) (as:=as) (ρ:=ρ) e hv ho h (by omega) nd hp hs
        refine ⟨a,o0,q,e1,?_,e3⟩
        show (if i=n then some (o',F) else qew (n+1) as os Fs i)=some q
        rw [if_neg (by omega)]
        exact e2
  | .s j::as,ρ,sms,_,_,os,Fs,n,i,x,hr,.s _ hv,ho,h,hi,nd,hp,hs=>by
    unfold qce at hr
    split at hr
    · next a2 o2 ho0 =>
      cases e:qce ρ0 as with
      | none=>rw [e] at hr;cases hr
      | some sms' =>
        rw [e] at hr
        cases hr
        cases ho with
        | @o _ _ o' p F _ _ os Fs h1 ho =>
          obtain ⟨nd1,nd2⟩:=List.nodup_cons.mp nd
          have hp':(qa0 (qa6 ρ j o') as os)[i]?=some (some x):=hp
          have u:qew n (.s j::as) (o'::os) (F::Fs) i=if i=j then some (o',F) else qew n as os Fs i:=rfl
          by_cases c:i=j
          · subst c
            obtain ⟨a,o0,hj⟩:=hs i List.mem_cons_self
            have:=qbC nd1 hp'
            rw [qdn] at this
            rw [hj] at this
            simp only at this
            rw [List.getElem?_set_self (qag hj)] at this
            cases this
            exact ⟨a,o0,(o',F),rfl,by rw [u,if_pos rfl],hj⟩
          · have hi':=(List.mem_cons.mp h).resolve_left c
            obtain ⟨a,o0,q,e1,e2,e3⟩:=qdl (n:=n) (as:=as) (ρ:=qa6 ρ j o') e hv ho hi' hi nd2 hp' fun k hk=>by
              rw [qcm fun z=>nd1 (by rw [← z];exact hk)]
              exact hs k (List.mem_cons_of_mem _ hk)
            exact ⟨a,o0,q,e1,by rw [u,if_neg c];exact e2,by rw [qcm c] at e3;exact e3⟩
    · cases hr
theorem qfs:∀ {as:List Ar} {sms:List Sm},qce ρ as=some sms→∀ j∈qbn as,∃ a o,ρ[j]?=some (some (.ob a o))
  | [],_,_,j,h=>by cases h
  | .t s::as,sms,hr,j,h=>by
    have hr':(qce ρ as).map (s::·)=some sms:=hr
    cases e:qce ρ as with
    | none=>rw [e] at hr';cases hr'
    | some sms'=>exact qfs e j h
  | .s i::as,sms,hr,j,h=>by
    unfold qce at hr
    split at hr
    · next a o ho =>
      cases e:qce ρ as with
      | none=>rw [e] at hr;cases hr
      | some sms' =>
        rcases List.mem_cons.mp h with rfl | h
        · exact ⟨a,o,ho⟩
        · exact qfs e j h
    · cases hr
end
section
variable {K : PySem.W.Frag} {X : Cx} {e : Expr} {es : List Expr} {pos p : Pos} {tA : TXA}
def qpg (sp:SpM) (tA:TXA):TX:=fun ρ R Rx=>tA ρ (fun as ρ1=>∃ sms,qce ρ1 as=some sms∧qgp as=true∧sp sms (fun sm os=>R sm (qa0 ρ1 as os)) (fun xd os=>Rx xd (qa0 ρ1 as os))) Rx
theorem StM.lend {Φ0 H0 Φ H:Hp} {σ τ ts:St} {ρ κ:qaB} {Rx:XD→qaB→Prop} {as:List Ar} {sms:List Sm} {vs:List V} (S:StM K X Φ0 H0 Φ H σ (τ++ts) ρ (κ++tsm as) Rx) (hl:κ.length=τ.length) (hr:qce ρ as=some sms) (hv:ArV σ as vs ts) (hs:qgp as=true) :
    ∃ Fs,ArgM K Φ H sms vs Fs∧Fs.flatten.Nodup∧(∀ b∈Fs.flatten,Φ b=none)∧∀ sm os Φ' H' v F Fs',Gr Φ (qa7 H Fs.flatten) Φ' H'→ResM K Φ' H' sm v F→OutM K Φ' H' sms vs os Fs'→(F++Fs'.flatten).Nodup→(∀ b∈F++Fs'.flatten,qa7 H Fs.flatten b=none∧Φ' b=none) →
      StM K X Φ0 H0 Φ' H' σ (τ++[some v]) (qa0 ρ as os) (κ++[some sm]) Rx:=by
  have nd:(qbn as).Nodup:=of_decide_eq_true hs
  obtain ⟨fp,E⟩:=S.E
  have lS:=S.l
  have hlt:(tsm as).length=ts.length:=by have:=S.lk;rw [List.length_append,List.length_append] at this;omega
  have a1:∀ (i:Nat) (x:Sm),ρ[i]?=some (some x)→(ρ++(κ++tsm as))[i]?=some (some x):=fun i x h=>by rw [List.getElem?_append_left (qag h)];exact h
  have a2:∀ (i:Nat) (v:V),σ[i]?=some (some v)→(σ++(τ++ts))[i]?=some (some v):=fun i x h=>by rw [List.getElem?_append_left (qag h)];exact h
  have a3:∀ (j:Nat) x,(tsm as)[j]?=some x→(ρ++(κ++tsm as))[ρ.length+κ.length+j]?=some x:=fun j x h=>by
    rw [List.getElem?_append_right (by omega),List.getElem?_append_right (by omega),show ρ.length+κ.length+j - ρ.length - κ.length=j by omega]
    exact h
  have a4:∀ (j:Nat) x,ts[j]?=some x→(σ++(τ++ts))[ρ.length+κ.length+j]?=some x:=fun j x h=>by
    rw [List.getElem?_append_right (by omega),List.getElem?_append_right (by omega),show ρ.length+κ.length+j - σ.length - τ.length=j by omega]
    exact h
  have sl:=qfs hr
  have slt:∀ i∈qbn as,i<ρ.length:=fun i hi=>let ⟨_,_,h⟩:=sl i hi;qag h
  have pn:(qaS (ρ.length+κ.length) as).Nodup:=qbP nd fun i hi=>by have:=slt i hi;omega
  have po:=qhw (σx:=σ) a1 a3 hr
  refine ⟨fpA fp (ρ.length+κ.length) as,qhu E a1 a2 a3 a4 hr hv,qcW E pn po,fun b hb=>?_,fun sm os Φ' H' v F Fs' g hres hout hnd hno=>?_⟩
  · obtain ⟨i,hi,hbi⟩:=fpA_mem.mp hb
    obtain ⟨a,o,ho⟩:=po i hi
    exact (E.no i a o ho b hbi).2
  obtain ⟨nd1,nd2,nd3⟩:=List.nodup_append.mp hnd
  obtain ⟨n1,n2⟩:=qg4 (n:=ρ.length+κ.length) a2 a4 hr hv hout pn nd2
  have B0:∀ b∈(fpA fp (ρ.length+κ.length) as).flatten,H0 b=none:=fun b hb=>by
    obtain ⟨i,hi,hbi⟩:=fpA_mem.mp hb
    obtain ⟨a,o,ho⟩:=po i hi
    exact (E.no i a o ho b hbi).1
  have pl:∀ {i:Nat},i<ρ.length+κ.length→i∉qbn as→qew (ρ.length+κ.length) as os Fs' i=none:=fun {i} hi hn=>by
    cases e:qew (ρ.length+κ.length) as os Fs' i with
    | none=>rfl
    | some q =>
      rcases qbW (qbG e) with z | z
      · exact absurd z hn
      · omega
  have E2:EnvM' K H0 Φ' H' (σ++(τ++ts)) (qa0 ρ as os++(κ++List.replicate ts.length none)) (fpN (qew (ρ.length+κ.length) as os Fs') fp):=by
    have cs:∀ {i:Nat} {x:Sm},(qa0 ρ as os++(κ++List.replicate ts.length none))[i]?=some (some x)→(i<ρ.length∧(qa0 ρ as os)[i]?=some (some x))∨(ρ.length≤i∧i<ρ.length+κ.length∧κ[i - ρ.length]?=some (some x)):=fun {i x} h=>by
      rcases Nat.lt_or_ge i ρ.length with c | c
      · rw [List.getElem?_append_left (by rw [qat];exact c)] at h
        exact .inl ⟨c,h⟩
      · rw [List.getElem?_append_right (by rw [qat];exact c),qat] at h
        rcases Nat.lt_or_ge (i - ρ.length) κ.length with c2 | c2
        · rw [List.getElem?_append_left c2] at h
          exact .inr ⟨c,by omega,h⟩
        · rw [List.getElem?_append_right c2,List.getElem?_replicate] at h
          split at h
          · cases h
          · cases h
    have kx:∀ {i:Nat} {x:Sm},ρ.length≤i→i<ρ.length+κ.length→κ[i - ρ.length]?=some (some x)→(ρ++(κ++tsm as))[i]?=some (some x):=fun {i x} c1 c2 h=>by
      rw [List.getElem?_append_right c1,List.getElem?_append_left (by omega)]
      exact h
    refine E.lend S.g.h (B:=(fpA fp (ρ.length+κ.length) as).flatten) (new:=qew (ρ.length+κ.length) as os Fs') (fun b hb=>?_) (fun i q hq b hb=>fpA_mem.mpr ⟨i,qbG hq,hb⟩) g (by rw [List.length_append,List.length_append,List.length_append,List.length_append,List.length_replicate,qat,hlt]) (fun i d h=>?_) (fun i a o h=>?_) (fun i q hq=>(n2 i q hq).1) (fun i q hq b hb=>hno b (List.mem_append.mpr (.inr ((n2 i q hq).2.1 b hb)))) fun i j q r hq hr' c b hb=>(n2 i q hq).2.2 j r hr' c b hb
    · obtain ⟨i,hi,hbi⟩:=fpA_mem.mp hb
      obtain ⟨a,o,ho⟩:=po i hi
      obtain ⟨q,hq⟩:=n1 i hi
      exact ⟨i,a,o,q,hq,ho,hbi⟩
    · rcases cs h with ⟨c,h⟩ | ⟨c1,c2,h⟩
      · rcases Decidable.em (i∈qbn as) with z | z
        · obtain ⟨a,o0,q,e1,_⟩:=qdl (n:=ρ.length+κ.length) hr hv hout z (by omega) nd h sl
          cases e1
        · exact a1 _ _ (qbC z h)
      · exact kx c1 c2 h
    · rcases cs h with ⟨c,h⟩ | ⟨c1,c2,h⟩
      · rcases Decidable.em (i∈qbn as) with z | z
        · obtain ⟨a',o0,q,e1,e2,e3⟩:=qdl (n:=ρ.length+κ.length) hr hv hout z (by omega) nd h sl
          cases e1
          exact .inr ⟨o0,q.2,e2,a1 _ _ e3⟩
        · exact .inl ⟨pl (by omega) z,a1 _ _ (qbC z h)⟩
      · exact .inl ⟨pl c2 fun z=>by have:=slt i z;omega,kx c1 c2 h⟩
  have g0:=S.g.lend g B0
  have E3:=E2.snocG hres (fun b hb=>by
      obtain ⟨z1,z2⟩:=hno b (List.mem_append.mpr (.inl hb))
      refine ⟨?_,z2⟩
      rcases Decidable.em (b∈(fpA fp (ρ.length+κ.length) as).flatten) with c | c
      · exact B0 b c
      · rw [qa5 c] at z1
        exact S.g.h.free z1) fun b hb i a o hi hbi=>by
    unfold fpN at hbi
    cases e:qew (ρ.length+κ.length) as os Fs' i with
    | some q =>
      rw [e] at hbi
      exact nd3 b hb b ((n2 i q e).2.1 b hbi) rfl
    | none =>
      rw [e] at hbi
      obtain ⟨p,_,_,r⟩:=E2.ow i a o hi
      unfold fpN at r
      rw [e] at r
      obtain ⟨z1,z2⟩:=hno b (List.mem_append.mpr (.inl hb))
      have own:∃ o',(ρ++(κ++tsm as))[i]?=some (some (.ob a o')):=by
        rcases Nat.lt_or_ge i ρ.length with c | c
        · rw [List.getElem?_append_left (by rw [qat];exact c)] at hi
          rcases Decidable.em (i∈qbn as) with z | z
          · obtain ⟨a',o0,q,_,e2,_⟩:=qdl (n:=ρ.length+κ.length) hr hv hout z (by omega) nd hi sl
            rw [e] at e2
            cases e2
          · exact ⟨o,a1 _ _ (qbC z hi)⟩
        · rw [List.getElem?_append_right (by rw [qat];exact c),qat] at hi
          rcases Nat.lt_or_ge (i - ρ.length) κ.length with c2 | c2
          · rw [List.getElem?_append_left c2] at hi
            exact ⟨o,by rw [List.getElem?_append_right c,List.getElem?_append_left c2];exact hi⟩
          · rw [List.getElem?_append_right c2,List.getElem?_replicate] at hi
            split at hi
            · cases hi
            · cases hi
      obtain ⟨o',ho'⟩:=own
      obtain ⟨p',_,_,r'⟩:=E.ow i a o' ho'
      obtain ⟨u,hu,_⟩:=r'.at b hbi
      have c:b∉(fpA fp (ρ.length+κ.length) as).flatten:=fun z=>by
        obtain ⟨j,hj,hbj⟩:=fpA_mem.mp z
        obtain ⟨q,hq⟩:=n1 j hj
        have cj:i≠j:=fun z=>by rw [z,hq] at e;cases e
        obtain ⟨a2',o2,hj2⟩:=po j hj
        exact E.dj i j a a2' o' o2 ho' hj2 cj b hbi hbj
      rw [qa5 c,hu] at z1
      cases z1
  refine ⟨g0,by rw [qat];exact lS,?_,S.x⟩
  refine E3.re (fun i=>if i<ρ.length+κ.length then i else ρ.length+κ.length+ts.length) (by simp only [List.length_append,List.length_cons,List.length_nil,qat];omega) (fun i x hx=>?_) fun i j a a' o o' hi hj e=>?_
  · rcases Nat.lt_or_ge i (ρ.length+κ.length) with c | c
    · rw [if_pos c]
      constructor
      · rcases Nat.lt_or_ge i ρ.length with c1 | c1
        · rw [List.getElem?_append_left (by rw [qat];exact c1)] at hx
          rw [List.getElem?_append_left (by simp only [List.length_append,qat];omega),List.getElem?_append_left (by rw [qat];exact c1)]
          exact hx
        · rw [List.getElem?_append_right (by rw [qat];exact c1),qat,List.getElem?_append_left (by omega)] at hx
          rw [List.getElem?_append_left (by simp only [List.length_append,qat];omega),List.getElem?_append_right (by rw [qat];exact c1),qat,List.getElem?_append_left (by omega)]
          exact hx
      · rcases Nat.lt_or_ge i σ.length with c1 | c1
        · rw [List.getElem?_append_left c1,List.getElem?_append_left (by simp only [List.length_append];omega),List.getElem?_append_left c1]
        · rw [List.getElem?_append_right c1,List.getElem?_append_left (by omega),List.getElem?_append_left (by simp only [List.length_append];omega),List.getElem?_append_right c1,List.getElem?_append_left (by omega)]
    · have hi:i=ρ.length+κ.length:=by
        have:=qag hx
        simp only [List.length_append,List.length_cons,List.length_nil,qat] at this
        omega
      subst hi
      rw [if_neg (by omega)]
      rw [List.getElem?_append_right (by rw [qat];omega),List.getElem?_append_right (by rw [qat];omega),qat,show ρ.length+κ.length - ρ.length - κ.length=0 by omega] at hx
      cases hx
      constructor
      · rw [List.getElem?_append_right (by simp only [List.length_append,List.length_replicate,qat];omega)]
        simp only [List.length_append,List.length_replicate,qat]
        rw [show ρ.length+κ.length+ts.length - (ρ.length+(κ.length+ts.length))=0 by omega]
        rfl
      · rw [List.getElem?_append_right (by omega),List.getElem?_append_right (by omega),List.getElem?_append_right (by simp only [List.length_append];omega)]
        simp only [List.length_append]
        rw [show ρ.length+κ.length - σ.length - τ.length=0 by omega,show ρ.length+κ.length+ts.length - (σ.length+(τ.length+ts.length))=0 by omega]
  · have hi1:=qag hi
    have hj1:=qag hj
    simp only [List.length_append,List.length_cons,List.length_nil,qat] at hi1 hj1
    have e:(if i<ρ.length+κ.length then i else ρ.length+κ.length+ts.length)=(if j<ρ.length+κ.length then j else ρ.length+κ.length+ts.length):=e
    split at e <;> split at e <;> omega
structure ClM (P:Program) (w:World) (K:PySem.W.Frag) (mg:Str→Option Value) (base:Heap) (n:Nat) (x:Str) (ps:List Str) (z:SpM):Prop where
  ex:∃ (f:Addr) (fd:FuncData),FnOk P w K mg base CX0 n f fd ps (qdD K z)∧Binds K fd ps []∧PySem.W.keepIn K (.ref f)=true∧mg x=some (.ref f)
theorem qaE {n:Nat} {x:Str} {ps:List Str} {z:SpM} (C:ClM X.prog X.w K X.mg X.base n x ps z) (hr:Room n X.A) (hg:Gl X x)
    (ha:PXA K X (e::es) tA) (he:starEach (e::es) X.env=(false,eval e X.env)::starEach es X.env) (hpl:(backTo pos (starEach es X.env)).any (·.1)=false) (hdb:(x == ("__debug__":Str))=false:=by decide) :
    PX K X (.Call (.Name x p) (e::es) [] pos) (qpg z tA):=⟨fun hK=>by
  obtain ⟨f,fd,F,b,k,m⟩:=C.ex
  refine (qiP (dvs:=[]) (ds:=[]) (E:=E0) (hK ▸ F:FnOk X.prog X.w X.K X.mg X.base CX0 n f fd ps (qdD K z)) hr hg m (hK ▸ k) (hK ▸ b) .nil qln (ha.pa hK) hdb he hpl).imp fun σ H Q hq0=>?_
  obtain ⟨Φ0,H0,Φ,τ,ρ,κ,R,Rx,S,t,k⟩:=hq0
  refine ⟨Φ0,H0,Φ,τ,ρ,κ,_,Rx,S,t,fun as ρ1 Φ1 H1 vs ts r1 hl hv S1 f1=>?_⟩
  obtain ⟨sms,hres,hsl,r1⟩:=r1
  obtain ⟨Fs,g1,g2,g3,g4⟩:=S1.lend S.lk hres hv hsl
  rw [List.append_nil]
  exact ⟨Φ1,sms,Fs,_,_,S1.g.s,S1.E.tb,g1,g2,g3,r1,fun sm os Φ' H' v F Fs' r gr hr' ho hn hno=>k sm _ Φ' H' v r (g4 sm os Φ' H' v F Fs' gr hr' ho hn hno) (f1.trans gr.f)⟩⟩
end
structure EndsM where
  nx:qaB→Prop
  rt:Sm→qaB→Prop
  bk:qaB→Prop:=fun _=>False
  ct:qaB→Prop:=fun _=>False
  ex:XD→qaB→Prop:=fun _ _=>False
abbrev TSM:=EndsM→qaB→Prop
def qqt (K:PySem.W.Frag) (Φ0 H0:Hp) (P:qaB→Prop) (Q:St→Hp→Prop):Prop:=∀ ρ' Φ' H' σ',P ρ'→Gr Φ0 H0 Φ' H'→EnvM K H0 Φ' H' σ' ρ'→Q σ' H'
structure EndOkM (K:PySem.W.Frag) (X:Cx) (Φ0 H0:Hp) (De:EndsM) (E:Ends):Prop where
  nx:qqt K Φ0 H0 De.nx E.nx
  rt:∀ sm ρ' Φ' H' v σ',De.rt sm ρ'→Gr Φ0 H0 Φ' H'→EnvM K H0 Φ' H' (σ'++[some v]) (ρ'++[some sm])→E.rt v H'
  bk:qqt K Φ0 H0 De.bk E.bk
  ct:qqt K Φ0 H0 De.ct E.ct
  ex:XeOk K X Φ0 H0 De.ex
def lM (K:PySem.W.Frag) (X:Cx) (t:TSM):TS:=fun E σ H=>∃ Φ0 H0 Φ ρ De,Gr Φ0 H0 Φ H∧EnvM K H0 Φ H σ ρ∧t De ρ∧EndOkM K X Φ0 H0 De E
structure PSM (K:PySem.W.Frag) (X:Cx) (st:Stmt) (t:TSM):Prop where ps:X.K=K→PS X st (lM K X t)
structure PSsM (K:PySem.W.Frag) (X:Cx) (st:List Stmt) (t:TSM):Prop where ps:X.K=K→PSs X st (lM K X t)
section
variable {K : PySem.W.Frag} {X : Cx} {Φ0 H0 Φ H Φ1 H1 : Hp} {σ : St} {ρ ρ1 : qaB} {Rx : XD → qaB → Prop} {v : V} {sm : Sm}
theorem st0 (g:Gr Φ0 H0 Φ H) (V:EnvM K H0 Φ H σ ρ) (x:XeOk K X Φ0 H0 Rx):StM K X Φ0 H0 Φ H σ [] ρ [] Rx:=⟨g,V.len.symm,by rw [List.append_nil,List.append_nil];exact V,x⟩
theorem StM.env1 (S:StM K X Φ0 H0 Φ H σ ([]++[some v]) ρ ([]++[some sm]) Rx):EnvM K H0 Φ H (σ++[some v]) (ρ++[some sm]):=S.E
end
section
variable {K : PySem.W.Frag} {X : Cx} {st : Stmt} {rest : List Stmt} {t u : TSM} {e a : Expr} {te : TX} {pos : Pos} {tt : TXB}
def qqQ:TSM:=fun De ρ=>De.nx ρ
def qrU (t u:TSM):TSM:=fun De ρ=>t { De with nx:=u De } ρ
def qr6 (t u:TSM):TSM:=fun De ρ=>∃ I:qaB→Prop,t { De with nx:=I } ρ∧∀ ρ',I ρ'→u De ρ'
theorem qc0:PSsM K X [] qqQ:=⟨fun _=>pss_nil.imp fun E σ H hq0=>by obtain ⟨Φ0,H0,Φ,ρ,De,g,V,t,k⟩:=hq0;exact k.nx ρ Φ H σ t g V⟩
theorem qan (h1:PSM K X st t) (h2:PSsM K X rest u):PSsM K X (st::rest) (qrU t u):=⟨fun hK=>(qdU (h1.ps hK) (h2.ps hK)).imp fun E σ H hq0=>by obtain ⟨Φ0,H0,Φ,ρ,De,g,V,t,k⟩:=hq0;exact
  ⟨Φ0,H0,Φ,ρ,_,g,V,t,⟨fun ρ' Φ' H' σ' t' g' V'=>⟨Φ0,H0,Φ',ρ',De,g',V',t',k⟩,k.rt,k.bk,k.ct,k.ex⟩⟩⟩
theorem qcw (h1:PSM K X st t) (h2:PSsM K X rest u):PSsM K X (st::rest) (qr6 t u):=⟨fun hK=>(qdU (h1.ps hK) (h2.ps hK)).imp fun E σ H hq0=>by obtain ⟨Φ0,H0,Φ,ρ,De,g,V,⟨I,t,c⟩,k⟩:=hq0;exact
  ⟨Φ0,H0,Φ,ρ,_,g,V,t,⟨fun ρ' Φ' H' σ' t' g' V'=>⟨Φ0,H0,Φ',ρ',De,g',V',c ρ' t',k⟩,k.rt,k.bk,k.ct,k.ex⟩⟩⟩
theorem qaL (h1:PSM K X st t):PSsM K X [st] t:=⟨fun hK=>qiQ (h1.ps hK)⟩
def qoJ:TSM:=fun _ _=>False
theorem qdu:PSM K X st qoJ:=⟨fun _=>ps_never.imp fun E σ H hq0=>by obtain ⟨Φ0,H0,Φ,ρ,De,g,V,t,k⟩:=hq0;exact t⟩
def qqa (i:Nat) (te:TX):TSM:=fun De ρ=>te ρ (fun s ρ1=>De.nx (ρ1.set i (some s))) De.ex
theorem qil {i:Nat} {E:Ends} {σ:St} {H:Hp} (h:lM K X (qqa i te) E σ H):qnS (lXm K X te) (qic i) E σ H:=by
  obtain ⟨Φ0,H0,Φ,ρ,De,g,V,t,k⟩:=h
  exact ⟨Φ0,H0,Φ,[],ρ,[],_,De.ex,st0 g V k.ex,t,fun s ρ1 Φ1 H1 v r S1 _=>k.nx _ Φ1 H1 _ r S1.g (S1.env1.store i)⟩
theorem qaM {i:Nat} {x:Str} {pos':Pos} (hN:X.N.Nodup) (hi:X.N[i]?=some x) (hx:Loc X.env.scope x) (he:PX K X e te) (hs:swapsWith e (some (.Name x pos')) pos.line X.env=pure false:=by rfl) (hf:X.fn x=true∨X.env.scope.names.lookup x=some .local:=by first | exact .inl rfl | exact .inr rfl | assumption) :
    PSM K X (.Assign [.Name x pos'] e pos) (qqa i te):=⟨fun hK=>(qhz hN hi hx (he.pe hK) hs hf).imp fun _ _ _=>qil⟩
def qq5 (te:TX):TSM:=fun De ρ=>te ρ (fun _ ρ1=>De.nx ρ1) De.ex
theorem qiB (he:PX K X e te) (hs:swapsWith e none pos.line X.env=pure false:=by rfl):PSM K X (.Expr e pos) (qq5 te) :=
  ⟨fun hK=>(qfA (he.pe hK) hs).imp fun E σ H hq0=>by
    obtain ⟨Φ0,H0,Φ,ρ,De,g,V,t,k⟩:=hq0
    exact ⟨Φ0,H0,Φ,[],ρ,[],_,De.ex,st0 g V k.ex,t,fun s ρ1 Φ1 H1 v r S1 _=>k.nx _ Φ1 H1 σ r S1.g S1.env⟩⟩
def qsQ (te:TX):TSM:=fun De ρ=>te ρ De.rt De.ex
theorem qcl (he:PX K X e te):PSM K X (.Return (some e) pos) (qsQ te) :=
  ⟨fun hK=>(qlC (he.pe hK)).imp fun E σ H hq0=>by
    obtain ⟨Φ0,H0,Φ,ρ,De,g,V,t,k⟩:=hq0
    exact ⟨Φ0,H0,Φ,[],ρ,[],_,De.ex,st0 g V k.ex,t,fun s ρ1 Φ1 H1 v r S1 _=>k.rt s ρ1 Φ1 H1 v σ r S1.g S1.env1⟩⟩
def qoH (i:Nat):TX:=fun ρ R _=>match ρ[i]? with | some (some (.ob none o))=>R (.ob none o) (ρ.set i none) | _=>False
theorem qlR (i:Nat) {x:Str} (hN:X.N[i]?=some x:=by rfl) (hv:Vis X.env.scope x:=by first | exact Or.inl rfl | exact Or.inr (Or.inl rfl) | exact Or.inr (Or.inr rfl)) (hd:(x == ("__debug__":Str))=false:=by decide)
    (hcd:(x == ("__classdict__":Str))=false:=by decide):PX K X (.Name x pos) (qoH i):=⟨fun _=>(pv i hN hv hd hcd).imp fun σ H Q hq0=>by
  obtain ⟨Φ0,H0,Φ,τ,ρ,κ,R,Rx,S,t,k⟩:=hq0
  unfold qoH at t
  split at t
  · next o h =>
    have hi:=qag h
    have hl:=S.l
    obtain ⟨fp,E⟩:=S.env
    obtain ⟨q,e,_⟩:=E.ow i none o h
    refine ⟨_,e,k _ _ Φ H _ t ⟨S.g,by rw [List.length_set];exact hl,?_,S.x⟩ (Same.refl _)⟩
    have hk:=S.lk
    refine S.E.re (fun j=>if j=ρ.length+κ.length then i else j) (by simp only [List.length_append,List.length_set,List.length_cons,List.length_nil];omega) (fun j x hx=>?_) fun j1 j2 a a' o1 o2 h1 h2 e12=>?_
    · have hj:=qag hx
      simp only [List.length_append,List.length_set,List.length_cons,List.length_nil] at hj
      rcases Nat.lt_or_ge j ρ.length with c | c
      · rw [List.getElem?_append_left (by rw [List.length_set];exact c)] at hx
        rw [if_neg (by omega),List.getElem?_append_left c,List.getElem?_append_left (by omega),List.getElem?_append_left (by omega)]
        rcases qbw hx with ⟨_,_,z⟩ | ⟨_,z⟩
        · cases z
        · exact ⟨z,rfl⟩
      · rw [List.getElem?_append_right (by rw [List.length_set];exact c),List.length_set] at hx
        rcases Nat.lt_or_ge j (ρ.length+κ.length) with c2 | c2
        · rw [List.getElem?_append_left (by omega)] at hx
          rw [if_neg (by omega)]
          constructor
          · rw [List.getElem?_append_right c]
            exact hx
          · rw [List.getElem?_append_right (by omega),List.getElem?_append_left (by omega),List.getElem?_append_right (by omega)]
        · have ej:j=ρ.length+κ.length:=by omega
          subst ej
          rw [List.getElem?_append_right (by omega),show ρ.length+κ.length - ρ.length - κ.length=0 by omega] at hx
          cases hx
          rw [if_pos rfl,List.getElem?_append_left hi,List.getElem?_append_right (by omega),List.getElem?_append_right (by omega),show ρ.length+κ.length - σ.length - τ.length=0 by omega,List.getElem?_append_left (by omega),e]
          exact ⟨h,rfl⟩
    · have no:∀ {j:Nat} {a:Option Addr} {o:Om},(ρ.set i none++(κ++[some (Sm.ob none o)]))[j]?=some (some (.ob a o))→True:=fun _=>trivial
      have ni:∀ {j:Nat} {x:Sm},(ρ.set i none++(κ++[some (Sm.ob none o)]))[j]?=some (some x)→j≠i:=fun {j x} hx ej=>by
        subst ej
        rw [List.getElem?_append_left (by rw [List.length_set];exact hi),List.getElem?_set_self hi] at hx
        cases hx
      have n1:=ni h1
      have n2:=ni h2
      have e12:(if j1=ρ.length+κ.length then i else j1)=(if j2=ρ.length+κ.length then i else j2):=e12
      split at e12 <;> split at e12 <;> omega
  · exact t.elim⟩
def mIf (c:TXB) (t u:TSM):TSM:=fun De ρ=>c ρ (fun b ρ1=>(b=true→t De ρ1)∧(b=false→u De ρ1)) De.ex
theorem qe7 {c:Expr} {a b:List Stmt} (hc:PXB K X c tt) (ha:PSsM K X a t) (hb:PSsM K X b u):PSM K X (.If c a b pos) (mIf tt t u) :=
  ⟨fun hK=>(qpx (hc.pt hK) (ha.ps hK) (hb.ps hK)).imp fun E σ H hq0=>by
    obtain ⟨Φ0,H0,Φ,ρ,De,g,V,t,k⟩:=hq0
    refine ⟨Φ0,H0,Φ,[],ρ,[],_,De.ex,st0 g V k.ex,t,fun c ρ1 Φ1 H1 r S1 _=>?_⟩
    cases c with
    | true=>refine qpJ ?_;exact ⟨Φ0,H0,Φ1,ρ1,De,S1.g,S1.env,r.1 rfl,k⟩
    | false=>refine qpH ?_;exact ⟨Φ0,H0,Φ1,ρ1,De,S1.g,S1.env,r.2 rfl,k⟩⟩
abbrev TGM:=D→qaB→(qaB→Prop)→Prop
abbrev qmG:=List D→qaB→(qaB→Prop)→Prop
def lGM (K:PySem.W.Frag) (g:TGM):TG:=fun v σ H Q=>∃ H0 Φ ρ d R,EnvM K H0 Φ H σ ρ∧Rp K Φ d v∧g d ρ R∧∀ ρ' σ',R ρ'→EnvM K H0 Φ H σ' ρ'→Q σ' H
def qrq (K:PySem.W.Frag) (g:qmG):TGs:=fun vs σ H Q=>∃ H0 Φ ρ ds R,EnvM K H0 Φ H σ ρ∧RpL K Φ ds vs∧g ds ρ R∧∀ ρ' σ',R ρ'→EnvM K H0 Φ H σ' ρ'→Q σ' H
structure PGM (K:PySem.W.Frag) (X:Cx) (e:Expr) (g:TGM):Prop where pg:X.K=K→PG X e (lGM K g)
structure PGMs (K:PySem.W.Frag) (X:Cx) (es:List Expr) (g:qmG):Prop where pg:X.K=K→PGs X es (qrq K g)
end
section
variable {K : PySem.W.Frag} {X : Cx} {e : Expr} {es : List Expr} {pos : Pos} {g : TGM} {gs : qmG}
def qsd (i:Nat):TGM:=fun d ρ R=>R (ρ.set i (some (.v d)))
theorem qbq {i:Nat} {x:Str} (hN:X.N.Nodup) (hi:X.N[i]?=some x) (hx:Loc X.env.scope x) (hf:X.fn x=true∨X.env.scope.names.lookup x=some .local:=by first | exact .inl rfl | exact .inr rfl | assumption):PGM K X (.Name x pos) (qsd i) :=
  ⟨fun _=>(qfr hN hi hx hf).imp fun v σ H Q hq0=>by obtain ⟨H0,Φ,ρ,d,R,E,r,g,k⟩:=hq0;exact k _ _ g ((E.snocV r).store i)⟩
def qq6:qmG:=fun ds ρ R=>match ds with | []=>R ρ | _=>False
def qoB (t:TGM) (u:qmG):qmG:=fun ds ρ R=>match ds with | d::r=>t d ρ fun ρ'=>u r ρ' R | []=>False
theorem qhs:PGMs K X [] qq6:=⟨fun _=>pgs_nil.imp fun v σ H Q hq0=>by
  obtain ⟨H0,Φ,ρ,ds,R,E,r,g,k⟩:=hq0
  cases ds with
  | nil=>exact ⟨List.length_eq_zero_iff.mp r.1,k _ _ g E⟩
  | cons=>exact g.elim⟩
theorem qcr (h1:PGM K X e g) (h2:PGMs K X es gs) (hs:(assignEach (e::es) X.env).map (·.2)=assign e X.env::(assignEach es X.env).map (·.2):=by rfl):PGMs K X (e::es) (qoB g gs) :=
  ⟨fun hK=>(qcB (h1.pg hK) (h2.pg hK) hs).imp fun vs σ H Q hq0=>by
    obtain ⟨H0,Φ,ρ,ds,R,E,r,g,k⟩:=hq0
    cases ds with
    | nil=>exact g.elim
    | cons d ds =>
      cases vs with
      | nil=>exact absurd r.1 (by simp)
      | cons v vs =>
        refine ⟨v,vs,rfl,H0,Φ,ρ,d,_,E,r.2 0 v d rfl rfl,g,fun ρ' σ' g' E'=>⟨H0,Φ,ρ',ds,R,E',⟨by have:=r.1;simpa using this,fun i u f hu hf=>r.2 (i+1) u f hu hf⟩,g',k⟩⟩⟩
def qsF (n:Nat) (t:qmG):TGM:=fun d ρ R=>match d with | .tup ds=>ds.length=n∧t ds ρ R | .lst ds=>ds.length=n∧t ds ρ R | _=>False
def gTL (K:PySem.W.Frag) (n:Nat) (t:TGs):TG:=fun v σ H Q=>qpN K n t v σ H Q∨qqb K n t v σ H Q
theorem qqc {k n:Nat} {t:TGs} (hK:X.K=K) (hc:X.calm=true) (h:PGs X es t) (hn:(assignEach es X.env).length=n) (hst:(assignEach es X.env).findIdx? (·.1)=none):PG X (.Tuple es k pos) (gTL K n t):=fun pins s σ H v u Q I r hw=>by
  rcases hw with hw | hw
  · exact qfl hK hc h hn hst pins s σ H v u Q I r hw
  · exact qhc hK hc h hn hst pins s σ H v u Q I r hw
theorem qkX {k n:Nat} (hc:X.calm=true) (h:PGMs K X es gs) (hn:(assignEach es X.env).length=n:=by rfl) (hst:(assignEach es X.env).findIdx? (·.1)=none:=by rfl):PGM K X (.Tuple es k pos) (qsF n gs) :=
  ⟨fun hK=>(qqc hK hc (h.pg hK) hn hst:PG X (.Tuple es k pos) (gTL K n (qrq K gs))).imp fun v σ H Q hq0=>by
    obtain ⟨H0,Φ,ρ,d,R,E,r,g,k⟩:=hq0
    cases d with
    | tup ds=>cases r with | tup h1 h2 h3=>exact .inl ⟨_,_,rfl,.of (E.fz _ _ h1),by rw [h2];exact g.1,H0,Φ,ρ,ds,R,E,⟨h2,h3⟩,g.2,k⟩
    | lst ds=>cases r with | lst h1 h2 h3=>exact .inr ⟨_,_,rfl,.of (E.fz _ _ h1),by rw [h2];exact g.1,H0,Φ,ρ,ds,R,E,⟨h2,h3⟩,g.2,k⟩
    | _=>exact g.elim⟩
end
section
variable {K : PySem.W.Frag} {X : Cx} {st : Stmt} {rest : List Stmt} {t u : TSM} {e a : Expr} {te : TX} {pos : Pos} {tt : TXB}
def qsK (te:TX) (g:TGM):TSM:=fun De ρ=>te ρ (xV fun d ρ1=>g d ρ1 De.nx) De.ex
theorem qor {tg:Expr} {gd:TGM} (he:PX K X e te) (hg:PGM K X tg gd) (hs:swapsWithSole [tg] e pos.line X.env=pure false:=by rfl) (hw:swappedStores [tg] e X.env=pure none:=by rfl)
    (h1:(assignEach [tg] X.env).map (·.2)=[assign tg X.env]:=by rfl):PSM K X (.Assign [tg] e pos) (qsK te gd) :=
  ⟨fun hK=>(qgg (he.pe hK) (hg.pg hK) hs hw h1).imp fun E σ H hq0=>by
    obtain ⟨Φ0,H0,Φ,ρ,De,g,V,t,k⟩:=hq0
    refine ⟨Φ0,H0,Φ,[],ρ,[],_,De.ex,st0 g V k.ex,t,fun s ρ1 Φ1 H1 v r S1 _=>?_⟩
    obtain ⟨d,rfl,r⟩:=r.get
    exact ⟨H0,Φ1,ρ1,d,_,S1.env,S1.last,r,fun ρ' σ' r' V'=>k.nx ρ' Φ1 H1 σ' r' S1.g V'⟩⟩
abbrev TIM:=qaB→(List D→qaB→Prop)→(XD→qaB→Prop)→Prop
def lIM (K:PySem.W.Frag) (X:Cx) (t:TIM):TI:=fun σ H R'=>∃ Φ0 H0 Φ τ ρ κ R Rx,StM K X Φ0 H0 Φ H σ τ ρ κ Rx∧t ρ R Rx∧∀ ds ρ' Φ' H' J,R ds ρ'→StM K X Φ0 H0 Φ' H' σ τ ρ' κ Rx→Same Φ Φ'→SteadyD K J Φ' ds→R' J H'
structure PIM (K:PySem.W.Frag) (X:Cx) (tg e:Expr) (t:TIM):Prop where pi:X.K=K→PI X tg e (lIM K X t)
def iD (t:TDL):TIM:=fun ρ R _=>t (prR ρ) fun ds=>R ds ρ
theorem qeB {tg:Expr} {t:TDL} (h:PID K X tg e t):PIM K X tg e (iD t):=⟨fun hK=>(h.pi hK).imp fun σ H R' hq0=>by
  obtain ⟨Φ0,H0,Φ,τ,ρ,κ,R,Rx,S,t,k⟩:=hq0
  exact ⟨H0,Φ,prR ρ,_,S.env.toD,t,fun ds Φ' H' J r g Sd=>k ds ρ Φ' H' J r (S.gr g) g.f Sd⟩⟩
def qm7 (t:TXA):TIM:=fun ρ R Rx=>t ρ (xaD fun ds ρ1=>match ds with | [.int j]=>(-(2 ^ 62)≤j∧j<2 ^ 62)∧R (qd7 0 j.toNat) ρ1 | _=>False) Rx
theorem qjd {tg:Expr} {tA:TXA} {p:Pos} (hg:Gl X "range") (hm:X.mg "range"=none) (ha:PXA K X [a] tA) (hs:starEach [a] X.env=[(false,eval a X.env)]:=by rfl):PIM K X tg (.Call (.Name "range" p) [a] [] pos) (qm7 tA) :=
  ⟨fun hK=>(qgm hg hm (ha.pa hK) hs).imp fun σ H R' hq0=>by
    obtain ⟨Φ0,H0,Φ,τ,ρ,κ,R,Rx,S,t,k⟩:=hq0
    refine ⟨Φ0,H0,Φ,τ,ρ,κ,_,Rx,S,t,fun as ρ1 Φ1 H1 vs ts r1 hl hv S1 f1=>?_⟩
    obtain ⟨ds,hd,r1⟩:=r1.get
    have rl:=S1.vals S.lk hd hv
    match ds,r1,rl with
    | [.int j],r,rl =>
      obtain ⟨v,rfl,r1⟩:=rl.one_inv
      cases r1
      exact ⟨j,rfl,r.1.1,r.1.2,k _ ρ1 Φ1 H1 _ r.2 (S1.pop S.lk) f1 qc9⟩⟩
theorem XeOk.join {Φ0 H0 H Φ3:Hp} {Rx:XD→qaB→Prop} (x:XeOk K X Φ0 H0 Rx) (g:Gr Φ0 H0 Φ3 H):XeOk K X Φ3 H0 Rx:=fun xd ρ' Φ' H' σ' e s' pins r g' V h=>x xd ρ' Φ' H' σ' e s' pins r (g.join g') V h
def qrS (ti:TIM) (gd:TGM) (tb:TSM):TSM:=fun De ρ=>ti ρ (fun ds ρ0=>∃ I:Nat→qaB→Prop,I 0 ρ0∧(∀ i d ρ',ds[i]?=some d→I i ρ'→gd d ρ' fun ρ2=>tb { De with nx:=I (i+1),ct:=I (i+1),bk:=De.nx } ρ2)∧∀ ρ',I ds.length ρ'→De.nx ρ') De.ex
theorem qfG {tg iter:Expr} {body:List Stmt} {ti:TIM} {gd:TGM} {tb:TSM} (hp:PassesOwn (model X.prog X.w) X.A X.env X.xe) (hc:X.calm=true) (hi:PIM K X tg iter ti) (hg:PGM K X tg gd) (hb:PSsM K X body tb)
    (hs:∀ x,foldedSetIterable iter X.env x=pure x:=by intro _;rfl):PSM K X (.For tg iter body [] pos) (qrS ti gd tb) :=
  ⟨fun hK=>(qlI hp hc (hi.pi hK) (hg.pg hK) (hb.ps hK) hs).imp fun E σ H hq0=>by
    obtain ⟨Φ0,H0,Φ,ρ,De,g,V,t,k⟩:=hq0
    refine ⟨Φ0,H0,Φ,[],ρ,[],_,De.ex,st0 g V k.ex,t,fun ds ρ0 Φ1 H1 J hq1 S1 _ Sd=>?_⟩
    obtain ⟨I,h0,hst,hend⟩:=hq1
    refine ⟨fun i m σ H'=>m=ds.length - i∧i≤ds.length∧∃ Φ' ρ',Gr Φ0 H0 Φ' H'∧Same Φ1 Φ'∧EnvM K H0 Φ' H' σ ρ'∧I i ρ',⟨ds.length,by simp,Nat.zero_le _,Φ1,ρ0,S1.g,Same.refl _,S1.env,h0⟩,?_⟩
    rintro i m σ' H' ⟨rfl,hi,Φ',ρ',g',s',V',hI⟩
    by_cases hlt:i<ds.length
    · refine .inr ⟨Sd.go i H' (s'.trans V'.fz) hlt,fun σ2 H2=>∃ Φ' ρ',Gr Φ0 H0 Φ' H2∧Same Φ1 Φ'∧EnvM K H0 Φ' H2 σ2 ρ'∧I (i+1) ρ',fun σ2 H2 h2=>⟨ds.length - (i+1),by omega,rfl,hlt,h2⟩,fun x H2 y=>?_⟩
      obtain ⟨Φ3,g3,rx⟩:=Sd.yl i Φ' H' x H2 _ s' V'.fz (qao hlt) y
      refine ⟨H0,Φ3,ρ',_,_,V'.gr g3,rx,hst i _ ρ' (qao hlt) hI,fun ρ2 σ3 t2 V3=>?_⟩
      refine ⟨Φ3,H0,Φ3,ρ2,_,?_,V3,t2,⟨?_,?_,?_,?_,k.ex.join (g'.trans g3)⟩⟩
      · exact ⟨Same.refl _,(g'.trans g3).h,g3.s,fun p u hp hn _=>hn⟩
      · intro ρ4 Φ4 H4 σ4 t4 g4 V4
        exact ⟨Φ4,ρ4,(g'.trans g3).join g4,(s'.trans g3.f).trans g4.f,V4,t4⟩
      · intro sm ρ4 Φ4 H4 v σ4 r g4 V4
        exact k.rt sm ρ4 Φ4 H4 v σ4 r ((g'.trans g3).join g4) V4
      · intro ρ4 Φ4 H4 σ4 t4 g4 V4
        exact k.nx ρ4 Φ4 H4 σ4 t4 ((g'.trans g3).join g4) V4
      · intro ρ4 Φ4 H4 σ4 t4 g4 V4
        exact ⟨Φ4,ρ4,(g'.trans g3).join g4,(s'.trans g3.f).trans g4.f,V4,t4⟩
    · have e:i=ds.length:=by omega
      subst e
      exact .inl ⟨Sd.stop H' (s'.trans V'.fz),k.nx ρ' Φ' H' σ' (hend ρ' hI) g' V'⟩⟩
end
def qal:List Sm→List Addr→qaB
  | [],_=>[]
  | .v d::as,ps=>some (.v d)::qal as ps
  | .ob _ o::as,p::ps=>some (.ob (some p) o)::qal as ps
  | .ob _ _::as,[]=>none::qal as []
def qcM (N:List Str) (as:List Sm) (ps:List Addr):qaB:=qal as ps++List.replicate (N.length - as.length) none
def qam:List Str→List Sm→List Addr→qaB
  | [],as,ps=>qal as ps
  | _::N,[],ps=>none::qam N [] ps
  | _::N,.v d::as,ps=>some (.v d)::qam N as ps
  | _::N,.ob _ o::as,p::ps=>some (.ob (some p) o)::qam N as ps
  | _::N,.ob _ _::as,[]=>none::qam N as []
theorem qcp:∀ (N:List Str) (as:List Sm) (ps:List Addr),qcM N as ps=qam N as ps
  | [],as,ps=>by unfold qcM;rw [List.length_nil,Nat.zero_sub,List.replicate_zero,List.append_nil];rfl
  | n::N,[],ps=>by
    have:=qcp N [] ps
    unfold qcM at this ⊢
    show List.replicate (N.length+1 - 0) none=none::qam N [] ps
    rw [← this]
    rfl
  | n::N,.v d::as,ps=>by
    have:=qcp N as ps
    unfold qcM at this ⊢
    rw [List.length_cons,List.length_cons,Nat.add_sub_add_right]
    exact congrArg (some (Sm.v d)::·) this
  | n::N,.ob a o::as,p::ps=>by
    have:=qcp N as ps
    unfold qcM at this ⊢
    rw [List.length_cons,List.length_cons,Nat.add_sub_add_right]
    exact congrArg (some (Sm.ob (some p) o)::·) this
  | n::N,.ob _ _::as,[]=>by
    have:=qcp N as []
    unfold qcM at this ⊢
    rw [List.length_cons,List.length_cons,Nat.add_sub_add_right]
    exact congrArg (none::·) this
def qnw (k:List Om→Prop):List Sm→List Addr→Nat→qaB→Prop
  | [],_,_,_=>k []
  | .v _::as,ps,i,ρ=>qnw k as ps (i+1) ρ
  | .ob _ _::as,p::ps,i,ρ=>∃ o,ρ[i]?=some (some (.ob (some p) o))∧qnw (fun os=>k (o::os)) as ps (i+1) ρ
  | .ob _ _::_,[],_,_=>False
def qnI:List Sm→Nat
  | []=>0
  | .v _::as=>qnI as
  | .ob _ _::as=>qnI as+1
def qc5:List Sm→List V→List Addr
  | .v _::as,_::vs=>qc5 as vs
  | .ob _ _::as,.ref p::vs=>p::qc5 as vs
  | _,_=>[]
section
variable {K : PySem.W.Frag} {Φ H Φ' H' H0 : Hp}
theorem qem:∀ {as:List Sm} {vs:List V} {Fs:List (List Addr)},ArgM K Φ H as vs Fs→(qc5 as vs).length=qnI as
  | [],_,_,.nil=>rfl
  | _,_,_,.v (as:=as) (vs:=vs) _ t=>show (qc5 as vs).length=qnI as from qem t
  | _,_,_,.o _ t=>by show (_::qc5 _ _).length=qnI _+1;rw [List.length_cons,qem t]
theorem qcx:∀ {as:List Sm} {ps:List Addr},(qal as ps).length=as.length
  | [],_=>rfl
  | .v d::as,ps=>by show (qal as ps).length+1=_;rw [qcx];rfl
  | .ob _ o::as,p::ps=>by show (qal as ps).length+1=_;rw [qcx];rfl
  | .ob _ _::as,[]=>by show (qal as []).length+1=_;rw [qcx];rfl
theorem qb5:∀ {as:List Sm} {vs:List V} {Fs:List (List Addr)},ArgM K Φ H as vs Fs→∀ {i:Nat} {x:Sm},(qal as (qc5 as vs))[i]?=some (some x) →
    (∃ d v,x=.v d∧vs[i]?=some v∧Rp K Φ d v)∨∃ o p F,x=.ob (some p) o∧vs[i]?=some (.ref p)∧Fs[i]?=some F∧OmS K Φ H o p F
  | [],_,_,.nil,i,x,h=>by simp [qal] at h
  | _,_,_,.v (d:=d) r t,0,x,h=>by cases h;exact .inl ⟨d,_,rfl,rfl,r⟩
  | _,_,_,.v r t,i+1,x,h=>qb5 t (i:=i) h
  | _,_,_,.o (o:=o) (p:=p) (F:=F) r t,0,x,h=>by cases h;exact .inr ⟨o,p,F,rfl,rfl,rfl,r⟩
  | _,_,_,.o r t,i+1,x,h=>qb5 t (i:=i) h
theorem qjJ:∀ {Fs:List (List Addr)},Fs.flatten.Nodup→∀ {i j:Nat} {F G:List Addr},Fs[i]?=some F→Fs[j]?=some G→i≠j→∀ b∈F,b∉G
  | [],_,i,j,F,G,h,_,_,_,_=>by simp at h
  | L::Fs,nd,i,j,F,G,hi,hj,c,b,hb=>by
    obtain ⟨n1,n2,n3⟩:=List.nodup_append.mp (show (L++Fs.flatten).Nodup from nd)
    intro hb2
    cases i with
    | zero =>
      cases hi
      cases j with
      | zero=>exact c rfl
      | succ j=>exact n3 b hb b (List.mem_flatten.mpr ⟨G,List.mem_of_getElem? (i:=j) (by simpa using hj),hb2⟩) rfl
    | succ i =>
      cases j with
      | zero =>
        cases hj
        exact n3 b hb2 b (List.mem_flatten.mpr ⟨F,List.mem_of_getElem? (i:=i) (by simpa using hi),hb⟩) rfl
      | succ j=>exact qjJ n2 (by simpa using hi) (by simpa using hj) (fun e=>c (by rw [e])) b hb hb2
theorem qhL {N:List Str} {as:List Sm} {vs:List V} {Fs:List (List Addr)} (sm:Same Φ H) (tb:TabF K Φ) (ha:ArgM K Φ H as vs Fs) (nd:Fs.flatten.Nodup) (hn:∀ b∈Fs.flatten,Φ b=none):EnvM K (qa7 H Fs.flatten) Φ H (qcK N vs) (qcM N as (qc5 as vs)):=by
  have cs:∀ {i:Nat} {x:Sm},(qcM N as (qc5 as vs))[i]?=some (some x)→(qal as (qc5 as vs))[i]?=some (some x):=fun {i x} h=>by
    unfold qcM at h
    rcases Nat.lt_or_ge i (qal as (qc5 as vs)).length with c | c
    · rwa [List.getElem?_append_left c] at h
    · rw [List.getElem?_append_right c,List.getElem?_replicate] at h
      split at h <;> cases h
  have sv:∀ {i:Nat} {v:V},vs[i]?=some v→(qcK N vs)[i]?=some (some v):=fun {i v} h=>by
    unfold qcK
    rw [List.getElem?_append_left (by rw [List.length_map];exact qag h),List.getElem?_map,h]
    rfl
  obtain ⟨l1,l2⟩:=ha.len
  refine ⟨fun i=>Fs.getD i [],sm,by unfold qcK qcM;rw [List.length_append,List.length_append,List.length_map,List.length_replicate,List.length_replicate,qcx,l1],fun i d h=>?_,fun i a o h=>?_,fun i a o h b hb=>?_,fun i j a a' o o' hi hj c b hb=>?_,tb⟩
  · rcases qb5 ha (cs h) with ⟨d',v,e,hv,r⟩ | ⟨o,p,F,e,_⟩
    · cases e;exact ⟨v,sv hv,r⟩
    · cases e
  · rcases qb5 ha (cs h) with ⟨d',v,e,hv,r⟩ | ⟨o',p,F,e,hv,hF,r⟩
    · cases e
    · cases e
      refine ⟨p,sv hv,(fun q e=>by cases e;rfl),?_⟩
      rw [List.getD_eq_getElem?_getD,hF]
      exact r
  · rcases qb5 ha (cs h) with ⟨d',v,e,_⟩ | ⟨o',p,F,e,hv,hF,r⟩
    · cases e
    · rw [List.getD_eq_getElem?_getD,hF] at hb
      have hm:b∈Fs.flatten:=List.mem_flatten.mpr ⟨F,List.mem_of_getElem? hF,hb⟩
      exact ⟨qhn hm,hn b hm⟩
  · rcases qb5 ha (cs hi) with ⟨d',v,e,_⟩ | ⟨o1,p1,F1,e,_,hF1,_⟩
    · cases e
    · rcases qb5 ha (cs hj) with ⟨d',v,e,_⟩ | ⟨o2,p2,F2,e,_,hF2,_⟩
      · cases e
      · rw [List.getD_eq_getElem?_getD,hF1] at hb
        rw [List.getD_eq_getElem?_getD,hF2]
        exact qjJ nd hF1 hF2 c b hb
theorem qgo {fp:Nat→List Addr} {σ:St} {ρ:qaB} {k:List Om→Prop} (E:EnvM' K H0 Φ' H' σ ρ fp):∀ {as:List Sm} {vs:List V} {Fs:List (List Addr)} {i:Nat} {k:List Om→Prop},ArgM K Φ H as vs Fs→qnw k as (qc5 as vs) i ρ →
    ∃ os Fs',OutM K Φ' H' as vs os Fs'∧k os∧Fs'.flatten.Nodup∧(∀ b∈Fs'.flatten,H0 b=none∧Φ' b=none)∧∀ b∈Fs'.flatten,∃ j a o,i≤j∧j<i+as.length∧ρ[j]?=some (some (.ob a o))∧b∈fp j
  | [],_,_,i,k,.nil,h=>⟨[],[],.nil,h,by simp,fun b hb=>(by cases hb),fun b hb=>(by cases hb)⟩
  | _,_,_,i,k,.v (as:=as) r t,h=>by
    obtain ⟨os,Fs',h1,h2,h3,h4,h5⟩:=qgo (k:=k) E (i:=i+1) t h
    refine ⟨os,[]::Fs',.v h1,h2,by simpa using h3,fun b hb=>h4 b (by simpa using hb),fun b hb=>?_⟩
    obtain ⟨j,a,o,j1,j2,j3⟩:=h5 b (by simpa using hb)
    exact ⟨j,a,o,by omega,by rw [List.length_cons];omega,j3⟩
  | _,_,_,i,k,.o (p:=p) (as:=as) (vs:=vs) r t,h=>by
    obtain ⟨o',ho,h⟩:=(show ∃ o,ρ[i]?=some (some (.ob (some p) o))∧qnw (fun os=>k (o::os)) as (qc5 as vs) (i+1) ρ from h)
    obtain ⟨os,Fs',h1,h2,h3,h4,h5⟩:=qgo (k:=fun os=>k (o'::os)) E (i:=i+1) t h
    obtain ⟨q,e,ha,rr⟩:=E.ow i _ o' ho
    cases ha p rfl
    refine ⟨o'::os,fp i::Fs',.o rr h1,h2,?_,fun b hb=>?_,fun b hb=>?_⟩
    · refine List.nodup_append.mpr ⟨rr.nodup,h3,fun b hb c hc e=>?_⟩
      subst e
      obtain ⟨j,a,o,j1,j2,j3,j4⟩:=h5 b hc
      exact E.dj i j _ a o' o ho j3 (by omega) b hb j4
    · rcases List.mem_append.mp (show b∈fp i++Fs'.flatten from hb) with z | z
      · exact E.no i _ o' ho b z
      · exact h4 b z
    · rcases List.mem_append.mp (show b∈fp i++Fs'.flatten from hb) with z | z
      · exact ⟨i,_,o',Nat.le_refl _,by rw [List.length_cons];omega,ho,z⟩
      · obtain ⟨j,a,o,j1,j2,j3⟩:=h5 b z
        exact ⟨j,a,o,by omega,by rw [List.length_cons];omega,j3⟩
end
section
variable {P : Program} {w : World} {K : PySem.W.Frag} {mg : Str → Option Value} {base : Heap}
theorem Fun.okM {x qual:Str} {st:Stmt} {f:Addr} {fd:FuncData} {N ps:List Str} {k:Nat} {sp:SpM} (F:Fun K x qual st f fd) (S:FnScope N ps (qaf st)) (len:∀ as R Rx,sp as R Rx→as.length=ps.length)
    (hbody:∀ (cdv:Value) (A:Around) (outer:List Env) (s:Shared) (H:Hp) (E:XK) (as:List Sm) (R:Sm→List Om→Prop) (Rx:XD→List Om→Prop) (qs:List Addr),fd.code=cdv→Room k (A.deeper (envOfC qual (qaf st) s.heap.objs.size f cdv))→sp as R Rx→qs.length=qnI as →
      ∃ t,PSsM K (qkf CX0 P w K mg base N qual (qaf st) f cdv A outer s H E).nox (qa3 st) t∧t { nx:=fun ρ=>qnw (R (.v .non)) as qs 0 ρ,rt:=fun sm ρ=>qnw (R sm) as qs 0 ρ } (qam N as qs)):FnOk P w K mg base CX0 (k+1) f fd ps (qdD K sp):=by
  refine F.okL S (fun vs H Q E ⟨Φ,as,Fs,R,Rx,sm,tb,ha,nd,hn,h,_⟩=>by rw [ha.len.1];exact len as R Rx h) (fun cdv A outer s H vs Q E hcd hr ⟨Φ,as,Fs,R,Rx,sm,tb,ha,nd,hn,h,kk⟩=>?_)
  obtain ⟨t,ht,hq⟩:=hbody cdv A outer s H E as R Rx (qc5 as vs) hcd hr h (qem ha)
  rw [← qcp] at hq
  have al:=len as R Rx h
  have nl:ps.length≤N.length:=by have:=congrArg List.length S.pre;rw [List.length_take] at this;omega
  have fin:∀ sm ρ' Φ' H' v σ',qnw (R sm) as (qc5 as vs) 0 ρ'→Gr Φ (qa7 H Fs.flatten) Φ' H'→EnvM K (qa7 H Fs.flatten) Φ' H' (σ'++[some v]) (ρ'++[some sm])→Q v H':=fun smr ρ' Φ' H' v σ' hk g V=>by
    obtain ⟨fp,E'⟩:=V
    have hl:σ'.length=ρ'.length:=by have:=E'.len;simpa using this
    obtain ⟨os,Fs',h1,h2,h3,h4,h5⟩:=qgo (k:=R smr) (E'.take hl.symm) ha hk
    have hat:(ρ'++[some smr])[ρ'.length]?=some (some smr):=by rw [List.getElem?_append_right (Nat.le_refl _),Nat.sub_self];rfl
    cases smr with
    | v d =>
      obtain ⟨u,hu,r⟩:=E'.sl _ d hat
      rw [← hl,List.getElem?_append_right (Nat.le_refl _),Nat.sub_self] at hu
      cases hu
      exact kk (.v d) os Φ' H' v [] Fs' h2 g (.v r) h1 (by simpa using h3) (fun b hb=>h4 b (by simpa using hb))
    | ob a o =>
      obtain ⟨u,hu,hau,r⟩:=E'.ow _ a o hat
      rw [← hl,List.getElem?_append_right (Nat.le_refl _),Nat.sub_self] at hu
      cases hu
      refine kk (.ob a o) os Φ' H' _ (fp ρ'.length) Fs' h2 g (.o hau r) h1 ?_ fun b hb=>?_
      · refine List.nodup_append.mpr ⟨r.nodup,h3,fun b hb c hc e=>?_⟩
        subst e
        obtain ⟨j,a2,o2,_,_,j3,j4⟩:=h5 b hc
        have hj:=qag j3
        exact E'.dj _ j a a2 o o2 hat (by rw [List.getElem?_append_left hj];exact j3) (by omega) b hb j4
      · rcases List.mem_append.mp hb with z | z
        · exact E'.no _ a o hat b z
        · exact h4 b z
  have g0:Gr Φ (qa7 H Fs.flatten) Φ H:=⟨Same.refl _,qhU,sm,fun _ _ _ h _=>h⟩
  refine ⟨lM K _ t,ht.ps rfl,Φ,qa7 H Fs.flatten,Φ,_,_,g0,qhL sm tb ha nd hn,hq,⟨fun ρ' Φ' H' σ' r g V=>?_,fun smr ρ' Φ' H' v σ' r g V=>fin smr ρ' Φ' H' v σ' r g V,fun _ _ _ _ h=>h.elim,fun _ _ _ _ h=>h.elim,fun _ _ _ _ _ _ _ _ h=>h.elim⟩⟩
  exact fin (.v .non) ρ' Φ' H' .non σ' r g (V.snocV .non)
theorem Fun.clM {x:Str} {st:Stmt} {f:Addr} {fd:FuncData} {ps:List Str} {n:Nat} {z:SpM} (F:Fun K x x st f fd) (m:mg x=some (.ref f)) (H:FnOk P w K mg base CX0 n f fd ps (qdD K z))
    (b:∀ (kV doc pm:Value) (an:Option Addr) (cdv ct:Value) (us:List Value),us.length=ps.length→bindArgs (PySem.W.fnOf x x (qbt st) (qa3 st) (qaf st) .none kV doc pm an cdv ct) ⟨us,[]⟩=pure (ps.zip us)):ClM P w K mg base n x ps z:=⟨f,fd,H,F.binds b,F.kp,m⟩
theorem ClM.mono {n m:Nat} {x:Str} {ps:List Str} {z:SpM} (C:ClM P w K mg base n x ps z) (k:n≤m):ClM P w K mg base m x ps z:=by
  obtain ⟨f,fd,F,r⟩:=C.ex
  exact ⟨f,fd,F.mono k,r⟩
end
section
variable {K : PySem.W.Frag} {X : Cx} {e a b : Expr} {te ta tk : TX} {pos apos cpos npos spos : Pos} {x : Str} {i : Nat}
def ownL (ρ:qaB) (i:Nat) (k:Option Addr→List D→Prop):Prop:=match ρ[i]? with | some (some (.ob a (.lst ds)))=>k a ds | _=>False
theorem ownL.get {ρ:qaB} {i:Nat} {k:Option Addr→List D→Prop} (h:ownL ρ i k):∃ a ds,ρ[i]?=some (some (.ob a (.lst ds)))∧k a ds:=by
  unfold ownL at h
  split at h
  · next a ds e=>exact ⟨a,ds,e,h⟩
  · exact h.elim
theorem StM.list {Φ0 H0 Φ H:Hp} {σ τ:St} {ρ κ:qaB} {Rx:XD→qaB→Prop} {a:Option Addr} {ds:List D} (S:StM K X Φ0 H0 Φ H σ τ ρ κ Rx) (hi:ρ[i]?=some (some (.ob a (.lst ds)))):∃ q vs,σ[i]?=some (some (.ref q))∧H q=some (.lst vs)∧RpL K Φ ds vs ∧
    ∀ (es:List D) (ws:List V),RpL K Φ es ws→StM K X Φ0 H0 Φ (upd H q (.lst ws)) σ τ (ρ.set i (some (.ob a (.lst es)))) κ Rx:=by
  have hlt:=qag hi
  obtain ⟨q,vs,e,h1,h2,h3,h4,h5⟩:=S.E.list (i:=i) (a:=a) (ds:=ds) S.g (by rw [List.getElem?_append_left hlt];exact hi)
  rw [List.getElem?_append_left (by rw [← S.l];exact hlt)] at e
  refine ⟨q,vs,e,h1,h4,fun es ws r=>?_⟩
  obtain ⟨z1,z2⟩:=h5 es ws r
  refine ⟨z2,by rw [List.length_set];exact S.l,?_,S.x⟩
  rw [List.set_append_left _ _ hlt] at z1
  exact z1
def qmC (i:Nat) (te:TX):TSM:=fun De ρ=>ownL ρ i fun _ _=>te ρ (xV fun d ρ1=>ownL ρ1 i fun a ds=>ds.length<sizeLine∧NF (ds++[d]) fun es=>De.nx (ρ1.set i (some (.ob a (.lst es))))) De.ex
theorem qcD (i:Nat) (he:PX K X e te) (hfew:((backTo cpos (starEach [e] X.env)).all (fun x=>!x.1) && (backToKw cpos (keywordEach [] X.env)).all (fun x=>x.1.isSome) && decide (([e]:List Expr).length+([]:List Keyword).length+(if ([]:List Keyword).isEmpty then 0 else 1)<30))=true)
    (hse:starEach [e] X.env=(false,eval e X.env)::starEach [] X.env) (hN:X.N[i]?=some x:=by rfl) (hv:Vis X.env.scope x:=by first | exact Or.inl rfl | exact Or.inr (Or.inl rfl) | exact Or.inr (Or.inr rfl)) (hd:(x == ("__debug__":Str))=false:=by decide) (hcd:(x == ("__classdict__":Str))=false:=by decide)
    (hbase:attributeBase (.Name x npos) "append" X.env (eval (.Name x npos) X.env)=eval (.Name x npos) X.env:=by rfl) (hline:(apos.endLine == cpos.line)=true:=by rfl) (hs:swapsWith (.Call (.Attribute (.Name x npos) "append" apos) [e] [] cpos) none pos.line X.env=pure false:=by rfl) :
    PSM K X (.Expr (.Call (.Attribute (.Name x npos) "append" apos) [e] [] cpos) pos) (qmC i te) :=
  ⟨fun hK=>(qfA (qgO PySem.F.plainAttrs_list PySem.F.slot_list_append PySem.F.type_list_append qc3 (pv i hN hv hd hcd) (qa8 (he.pe hK) pa_nil hse) hbase hfew hline hse qac) hs).imp fun E σ H hq0=>by
    obtain ⟨Φ0,H0,Φ,ρ,De,g,V,t,k⟩:=hq0
    obtain ⟨a,ds,ho,t⟩:=ownL.get t
    have S:=st0 g V k.ex
    obtain ⟨q,vs,e1,hp,rl,_⟩:=S.list ho
    refine ⟨_,e1,.inl ⟨rfl,vs,SqL.of hp⟩,Φ0,H0,Φ,[],ρ,[],_,De.ex,S,t,fun s ρ1 Φ1 H1 v r S1 _=>?_⟩
    obtain ⟨d,rfl,r⟩:=r.get
    obtain ⟨a1,ds1,ho1,hl,r⟩:=ownL.get r
    obtain ⟨q1,vs1,e2,hp1,rl1,k1⟩:=S1.list ho1
    rw [e1] at e2
    cases e2
    have S2:=k1 _ _ (rl1.append (.one S1.last))
    exact ⟨q,vs1,v,rfl,rfl,hp1,by rw [rl1.1];exact hl,k.nx _ Φ1 _ σ r.get S2.g S2.env⟩⟩
def qsB (i:Nat) (te tk:TX):TSM:=fun De ρ=>te ρ (xV fun d ρ1=>ownL ρ1 i fun _ _=>tk ρ1 (xV fun kk ρ2=>match kk with | .int n=>ownL ρ2 i fun a ds=>∃ j,ixN ds.length n=some j∧NF (ds.set j d) fun es=>De.nx (ρ2.set i (some (.ob a (.lst es)))) | _=>False) De.ex) De.ex
theorem qpn (i:Nat) (he:PX K X e te) (hk:PX K X b tk) (hN:X.N[i]?=some x:=by rfl) (hv:Vis X.env.scope x:=by first | exact Or.inl rfl | exact Or.inr (Or.inl rfl) | exact Or.inr (Or.inr rfl)) (hd:(x == ("__debug__":Str))=false:=by decide) (hcd:(x == ("__classdict__":Str))=false:=by decide)
    (ha:∀ v,assign (.Subscript (.Name x npos) b spos) X.env v=(do
      let ov ← holding [v] (eval (.Name x npos) X.env)
      let iv ← holding [v,ov] (eval b X.env)
      standAt spos
      holding [v,ov,iv] (setItem ov iv v)
      release [v,ov,iv] []):=by intro _;rfl)
    (hs:swapsWithSole [.Subscript (.Name x npos) b spos] e pos.line X.env=pure false:=by rfl) (hw:swappedStores [.Subscript (.Name x npos) b spos] e X.env=pure none:=by rfl)
    (h1:(assignEach [.Subscript (.Name x npos) b spos] X.env).map (·.2)=[assign (.Subscript (.Name x npos) b spos) X.env]:=by rfl) :
    PSM K X (.Assign [.Subscript (.Name x npos) b spos] e pos) (qsB i te tk) :=
  ⟨fun hK=>(qgg (he.pe hK) (qhy (pv i hN hv hd hcd) (hk.pe hK) qcV ha) hs hw h1).imp fun E σ H hq0=>by
    obtain ⟨Φ0,H0,Φ,ρ,De,g,V,t,k⟩:=hq0
    refine ⟨Φ0,H0,Φ,[],ρ,[],_,De.ex,st0 g V k.ex,t,fun s ρ1 Φ1 H1 v r S1 _=>?_⟩
    obtain ⟨d,rfl,r⟩:=r.get
    obtain ⟨a1,ds1,ho1,r⟩:=ownL.get r
    obtain ⟨q,vs,e1,_⟩:=S1.list ho1
    refine ⟨_,e1,Φ0,H0,Φ1,_,ρ1,_,_,De.ex,S1,r,fun s2 ρ2 Φ2 H2 w r2 S2 _=>?_⟩
    obtain ⟨kk,rfl,r2⟩:=r2.get
    obtain ⟨rd,rk⟩:=S2.last2
    cases kk with
    | int n =>
      cases rk
      obtain ⟨a2,ds2,ho2,j,hj,r2⟩:=ownL.get r2
      obtain ⟨q2,vs2,e2,hp2,rl2,k2⟩:=S2.list ho2
      rw [e1] at e2
      cases e2
      have S3:=k2 _ _ (rl2.set rd j)
      exact ⟨q,vs2,n,j,rfl,rfl,hp2,by rw [rl2.1];exact hj,k.nx _ Φ2 _ σ r2.get S3.g S3.env⟩
    | _=>exact r2.elim⟩
def qnc (i:Nat) (f:Int→Int→Int) (tk te:TX):TSM:=fun De ρ=>(ownL ρ i fun _ _=>True)∧tk ρ (xV fun kk ρ1=>match kk with | .int n=>ownL ρ1 i fun a ds=>∃ (j:Nat) (v:Int),n=(j:Int)∧ds[j]?=some (.int v)∧te ρ1 (xV fun d ρ2=>match d with | .int m=>ownL ρ2 i fun a2 ds2=>j<ds2.length∧NF (ds2.set j (.int (f v m))) fun es=>De.nx (ρ2.set i (some (.ob a2 (.lst es)))) | _=>False) De.ex | _=>False) De.ex
theorem qkz {op:Operator} {f:Int→Int→Int} (i:Nat) (hop:PIp X op (ipI f)) (hk:PX K X b tk) (he:PX K X e te) (hN:X.N[i]?=some x:=by rfl) (hv:Vis X.env.scope x:=by first | exact Or.inl rfl | exact Or.inr (Or.inl rfl) | exact Or.inr (Or.inr rfl)) (hd:(x == ("__debug__":Str))=false:=by decide) (hcd:(x == ("__classdict__":Str))=false:=by decide)
    (ha:∀ ov iv new,augStore b ov iv new=(do holding [new,ov,iv] (setItem ov iv new);release [new,ov,iv] [];pure .next):=by intros;rfl) :
    PSM K X (.AugAssign (.Subscript (.Name x npos) b spos) op e pos) (qnc i f tk te) :=
  ⟨fun hK=>(qmX (pv i hN hv hd hcd) (hk.pe hK) (qj0 hK) (he.pe hK) hop qcV ha).imp fun E σ H hq0=>by
    obtain ⟨Φ0,H0,Φ,ρ,De,g,V,⟨ho,t⟩,k⟩:=hq0
    obtain ⟨a,ds,ho,_⟩:=ownL.get ho
    have S:=st0 g V k.ex
    obtain ⟨q,vs,e1,hp,rl,_⟩:=S.list ho
    refine ⟨_,e1,Φ0,H0,Φ,[],ρ,[],_,De.ex,S,t,fun s1 ρ1 Φ1 H1 w r1 S1 _=>?_⟩
    obtain ⟨kk,rfl,r1⟩:=r1.get
    have rk:=S1.last
    cases kk with
    | int n =>
      cases rk
      obtain ⟨a1,ds1,ho1,j,v,rfl,hj,r1⟩:=ownL.get r1
      obtain ⟨q1,vs1,e2,hp1,rl1,_⟩:=S1.list ho1
      rw [e1] at e2
      cases e2
      obtain ⟨u,hu,ru⟩:=rl1.at hj
      cases ru
      refine ⟨q,vs1,_,j,_,rfl,rfl,.of hp1,rfl,hu,Φ0,H0,Φ1,_,ρ1,_,_,De.ex,S1,r1,fun s2 ρ2 Φ2 H2 z r2 S2 _=>?_⟩
      obtain ⟨d,rfl,r2⟩:=r2.get
      have rd:=S2.last
      cases d with
      | int m =>
        cases rd
        obtain ⟨a2,ds2,ho2,hjl,r2⟩:=ownL.get r2
        obtain ⟨q2,vs2,e3,hp2,rl2,k2⟩:=S2.list ho2
        rw [e1] at e3
        cases e3
        have S3:=k2 _ _ (rl2.set (.int (f v m)) j)
        exact ⟨v,m,rfl,rfl,q,vs2,_,j,rfl,rfl,hp2,qe5 (by rw [rl2.1];exact hjl),k.nx _ Φ2 _ σ r2.get S3.g S3.env⟩
      | _=>exact r2.elim
    | _=>exact r1.elim⟩
def qbs:Option Sm→Option Sm
  | some (.ob none (.lst ds))=>some (.v (.lst ds))
  | some (.ob none (.map kvs))=>some (.v (.map kvs))
  | x=>x
def qbi:Nat→qaB→qaB
  | _,[]=>[]
  | 0,x::ρ=>qbs x::ρ
  | i+1,x::ρ=>x::qbi i ρ
theorem qiC:∀ (i:Nat) (ρ:qaB),qbi i ρ=(match ρ[i]? with
    | some (some (.ob none (.lst ds)))=>ρ.set i (some (.v (.lst ds)))
    | some (some (.ob none (.map kvs)))=>ρ.set i (some (.v (.map kvs)))
    | _=>ρ)
  | 0,[]=>rfl
  | _+1,[]=>rfl
  | 0,some (.ob none (.lst _))::_=>rfl
  | 0,some (.ob none (.map _))::_=>rfl
  | 0,some (.ob none (.mpT _))::_=>rfl
  | 0,some (.ob none (.obj _ _))::_=>rfl
  | 0,some (.ob none .ptr)::_=>rfl
  | 0,some (.ob none (.tl _))::_=>rfl
  | 0,some (.ob none (.pr _ _))::_=>rfl
  | 0,some (.ob (some _) _)::_=>rfl
  | 0,some (.v _)::_=>rfl
  | 0,none::_=>rfl
  | i+1,x::ρ=>by
    show x::qbi i ρ=_
    rw [qiC i ρ,List.getElem?_cons_succ]
    match ρ[i]? with
    | some (some (.ob none (.lst _)))=>rfl
    | some (some (.ob none (.map _)))=>rfl
    | some (some (.ob none (.mpT _)))=>rfl
    | some (some (.ob none (.obj _ _)))=>rfl
    | some (some (.ob none .ptr))=>rfl
    | some (some (.ob none (.tl _)))=>rfl
    | some (some (.ob none (.pr _ _)))=>rfl
    | some (some (.ob (some _) _))=>rfl
    | some (some (.v _))=>rfl
    | some none=>rfl
    | none=>rfl
theorem Rp.map_of {Φ:Hp} {kvs:List (Key × D)} {ws:List (Key × V)} {p:Addr} (h:Φ p=some (.dK ws)) (r:Paired (KvR K Φ) kvs ws):Rp K Φ (.map kvs) (.ref p):=by
  refine .map h ?_ ?_
  · clear h
    induction r with
    | nil=>rfl
    | cons q _ ih=>rw [List.map_cons,List.map_cons,ih,q.1]
  · clear h
    induction r with
    | nil=>intro i w d hw;simp at hw
    | cons q _ ih =>
      intro i w d hw hd
      cases i with
      | zero=>cases hw;cases hd;exact q.2
      | succ i=>exact ih i w d hw hd
theorem EnvM.frz1f {Φ0 H0 Φ H:Hp} {σ:St} {ρ:qaB} {o:Om} {d0:D} (E:EnvM K H0 Φ H σ ρ) (g:Gr Φ0 H0 Φ H) {i:Nat} (ho:ρ[i]?=some (some (.ob none o)))
    (hr:∀ p F,OmS K Φ H o p F→∃ u,H p=some u∧∀ Φ',Same Φ Φ'→Φ' p=some u→Rp K Φ' d0 (.ref p)) (hs:o.solid=true:=by rfl):∃ Φ',Gr Φ0 H0 Φ' H∧EnvM K H0 Φ' H σ (ρ.set i (some (.v d0)))∧Same Φ Φ':=by
  obtain ⟨fp,E⟩:=E
  obtain ⟨p,e,_,r⟩:=E.ow i none _ ho
  have hp:=r.mem hs
  have no:=E.no i none _ ho p hp
  obtain ⟨u,h1,h2⟩:=hr p _ r
  have s1:=qaH no.2 u
  have cs:∀ {j:Nat} {x:Sm},(ρ.set i (some (Sm.v d0)))[j]?=some (some x)→(j=i∧x=.v d0)∨(j≠i∧ρ[j]?=some (some x)):=fun {j x} h=>by
    rcases qbw h with ⟨e,_,e1⟩ | ⟨e,h⟩
    · cases e1;exact .inl ⟨e,rfl⟩
    · exact .inr ⟨e,h⟩
  refine ⟨upd Φ p u,g.freeze no.1 no.2 h1,⟨fp,fun b u' eb=>?_,by rw [List.length_set,E.len],fun j d h=>?_,fun j a o h=>?_,fun j a o h b hb=>?_,fun j k a a' o o' hj hk c=>?_,E.tb.same s1⟩,s1⟩
  · by_cases c:b=p
    · subst c;rw [qai] at eb;cases eb;exact h1
    · rw [qak c] at eb;exact E.fz b u' eb
  · rcases cs h with ⟨c,h⟩ | ⟨_,h⟩
    · cases h
      subst c
      exact ⟨_,e,h2 _ s1 qai⟩
    · obtain ⟨v,hv,rv⟩:=E.sl j d h
      exact ⟨v,hv,rv.same s1⟩
  · rcases cs h with ⟨_,h⟩ | ⟨_,h⟩
    · cases h
    · obtain ⟨q,hq,ha,rq⟩:=E.ow j a o h
      exact ⟨q,hq,ha,rq.keep s1 fun _ _ _ h=>h⟩
  · rcases cs h with ⟨_,h⟩ | ⟨c,h⟩
    · cases h
    · have:b≠p:=fun z=>E.dj j i a none o _ h ho c b hb (by rw [z];exact hp)
      rw [qak this]
      exact E.no j a o h b hb
  · rcases cs hj with ⟨_,hj⟩ | ⟨_,hj⟩
    · cases hj
    rcases cs hk with ⟨_,hk⟩ | ⟨_,hk⟩
    · cases hk
    exact E.dj j k a a' o o' hj hk c
theorem EnvM.frz1 {Φ0 H0 Φ H:Hp} {σ:St} {ρ:qaB} {o:Om} {d0:D} (E:EnvM K H0 Φ H σ ρ) (g:Gr Φ0 H0 Φ H) {i:Nat} (ho:ρ[i]?=some (some (.ob none o)))
    (hr:∀ p F,OmS K Φ H o p F→∃ u,H p=some u∧∀ Φ',Same Φ Φ'→Φ' p=some u→Rp K Φ' d0 (.ref p)) (hs:o.solid=true:=by rfl):∃ Φ',Gr Φ0 H0 Φ' H∧EnvM K H0 Φ' H σ (ρ.set i (some (.v d0))) :=
  let ⟨Φ',g',E',_⟩:=E.frz1f g ho hr hs
  ⟨Φ',g',E'⟩
theorem EnvM.frz {Φ0 H0 Φ H:Hp} {σ:St} {ρ:qaB} (E:EnvM K H0 Φ H σ ρ) (g:Gr Φ0 H0 Φ H) (i:Nat):∃ Φ',Gr Φ0 H0 Φ' H∧EnvM K H0 Φ' H σ (qbi i ρ):=by
  rw [qiC]
  split
  · next ds ho =>
    refine E.frz1 g ho fun p F r=>?_
    obtain ⟨_,vs,h1,h2⟩:=r.lst_inv
    exact ⟨_,h1,fun Φ' s h=>(h2.same s).lst h⟩
  · next kvs ho =>
    refine E.frz1 g ho fun p F r=>?_
    obtain ⟨_,ws,h1,h2⟩:=r.map_inv
    exact ⟨_,h1,fun Φ' s h=>Rp.map_of h (qcy (fun _ _ r=>⟨r.1,r.2.same s⟩) h2)⟩
  · exact ⟨Φ,g,E⟩
def qr5 (i:Nat) (t:TSM):TSM:=fun De ρ=>t De (qbi i ρ)
theorem qo9 {rest:List Stmt} {t:TSM} (i:Nat) (h:PSsM K X rest t):PSsM K X rest (qr5 i t):=⟨fun hK=>(h.ps hK).imp fun E σ H hq0=>by
  obtain ⟨Φ0,H0,Φ,ρ,De,g,V,t,k⟩:=hq0
  obtain ⟨Φ',g',V'⟩:=V.frz g i
  exact ⟨Φ0,H0,Φ',qbi i ρ,De,g',V',t,k⟩⟩
end
section
variable {K : PySem.W.Frag} {X : Cx} {tg iter elt e a : Expr} {ifs : List Expr} {scope : Scope} {pos py spos : Pos} {N' : List Str} {cap : List (Option Nat)} {ti : TDL} {g : TGD} {tc : TDB} {te ta tb : TD} {i : Nat} {y : Str}
end
def zM (z:SpD):SpM:=fun as R _=>∃ ds,as=ds.map Sm.v∧z ds fun d=>R (.v d) []
theorem qjP {H:Hp}:qa7 H []=H:=funext fun b=>if_neg (by simp)
theorem qf6 {K:PySem.W.Frag} {Φ H:Hp}:∀ {ds:List D} {vs:List V},RpL K Φ ds vs→ArgM K Φ H (ds.map Sm.v) vs (ds.map fun _=>[])
  | [],[],_=>.nil
  | [],_::_,h=>by cases h.1
  | _::_,[],h=>by cases h.1
  | d::ds,v::vs,h=>.v (h.2 0 v d rfl rfl) (qf6 ⟨by have:=h.1;simpa using this,fun i u e hu he=>h.2 (i+1) u e hu he⟩)
theorem qek {α:Type}:∀ (ds:List α),(ds.map fun _=>([]:List Addr)).flatten=[]
  | []=>rfl
  | _::ds=>by simp
theorem qgq {K:PySem.W.Frag} {z:SpD}:∀ vs H Q E,lSp K z vs H Q E→qdD K (zM z) vs H Q E:=fun vs H Q E h=>by
  obtain ⟨Φ,ds,R,sm,tb,rl,hz,k⟩:=h
  refine ⟨Φ,ds.map Sm.v,ds.map fun _=>[],fun s os=>∃ d,s=.v d∧R d,fun _ _=>False,sm,tb,qf6 rl,by rw [qek];exact List.nodup_nil,fun b hb=>(by rw [qek] at hb;cases hb),⟨ds,rfl,?_⟩,fun s os Φ' H' v F Fs' r g hr ho hn hno=>?_⟩
  · have e:R=fun d=>∃ d',(Sm.v d:Sm)=.v d'∧R d':=funext fun d=>propext ⟨fun h=>⟨d,rfl,h⟩,fun ⟨d',e,h⟩=>by cases e;exact h⟩
    rw [← e]
    exact hz
  · obtain ⟨d,rfl,r⟩:=r
    cases hr with
    | v rv =>
      rw [qek,qjP] at g
      exact k d Φ' H' v r g rv
def pinned:Option Sm→Option Sm
  | some (.v d)=>some (.v d)
  | some (.ob (some p) o)=>some (.ob (some p) o)
  | _=>none
def qnH (cap:List (Option Nat)) (ρ:qaB):qaB:=cap.map fun o=>o.bind fun i=>pinned (ρ[i]?).join
def qlH:List (Option Nat)→qaB→qaB→(qaB→Prop)→Prop
  | [],_,ρ,k=>k ρ
  | none::cap,_::ρc,ρ,k=>qlH cap ρc ρ k
  | some i::cap,x::ρc,ρ,k=>match ρ[i]? with
    | some (some (.ob (some p) _))=>∃ o,x=some (.ob (some p) o)∧qlH cap ρc (qa6 ρ i o) k
    | _=>qlH cap ρc ρ k
  | _::_,[],_,_=>False
def qcj (cap:List (Option Nat)):List Nat:=cap.filterMap id
theorem qd0 {cap:List (Option Nat)} {j i:Nat} (h:cap[j]?=some (some i)):i∈qcj cap:=List.mem_filterMap.mpr ⟨some i,List.mem_of_getElem? h,rfl⟩
theorem qfE:∀ {cap:List (Option Nat)} {ρc ρ:qaB} {k:qaB→Prop},(qcj cap).Nodup→qlH cap ρc ρ k→∃ ρ2,k ρ2∧ρ2.length=ρ.length∧(∀ (i:Nat) (x:Sm),ρ2[i]?=some (some x)→(∃ (j:Nat) (p:Addr) (o0 o:Om),cap[j]?=some (some i)∧ρ[i]?=some (some (.ob (some p) o0))∧ρc[j]?=some (some (.ob (some p) o))∧x=.ob (some p) o)∨(ρ[i]?=some (some x)∧∀ (j:Nat) (p:Addr) (o0:Om),cap[j]?=some (some i)→ρ[i]?≠some (some (.ob (some p) o0)))) ∧
    ∀ (j i:Nat) (p:Addr) (o0:Om),cap[j]?=some (some i)→ρ[i]?=some (some (.ob (some p) o0))→∃ o:Om,ρc[j]?=some (some (.ob (some p) o))
  | [],ρc,ρ,k,_,h=>⟨ρ,h,rfl,fun i x hx=>.inr ⟨hx,fun j p o0 hj=>(by simp at hj)⟩,fun j i p o0 hj=>(by simp at hj)⟩
  | none::cap,x::ρc,ρ,k,nd,h=>by
    obtain ⟨ρ2,h1,h2,h3,h4⟩:=qfE (cap:=cap) (ρc:=ρc) (ρ:=ρ) (k:=k) nd h
    refine ⟨ρ2,h1,h2,fun i y hy=>?_,fun j i p o0 hj hi=>?_⟩
    · rcases h3 i y hy with ⟨j,p,o0,o,z1,z2,z3,z4⟩ | ⟨z1,z2⟩
      · exact .inl ⟨j+1,p,o0,o,z1,z2,z3,z4⟩
      · refine .inr ⟨z1,fun j p o0 hj=>?_⟩
        cases j with
        | zero=>cases hj
        | succ j=>exact z2 j p o0 hj
    · cases j with
      | zero=>cases hj
      | succ j=>exact h4 j i p o0 hj hi
  | some i0::cap,x::ρc,ρ,k,nd,h=>by
    obtain ⟨nd1,nd2⟩:=List.nodup_cons.mp (show (i0::qcj cap).Nodup from nd)
    have h':(match ρ[i0]? with | some (some (.ob (some p) _))=>∃ o,x=some (.ob (some p) o)∧qlH cap ρc (qa6 ρ i0 o) k | _=>qlH cap ρc ρ k):=h
    by_cases hp:∃ p o0,ρ[i0]?=some (some (.ob (some p) o0))
    · obtain ⟨p,o0,hp⟩:=hp
      rw [hp] at h'
      obtain ⟨o,rfl,h'⟩:=h'
      obtain ⟨ρ2,h1,h2,h3,h4⟩:=qfE nd2 h'
      have ne:∀ {j i:Nat},cap[j]?=some (some i)→i≠i0:=fun hj e=>nd1 (e ▸ qd0 hj)
      refine ⟨ρ2,h1,by rw [h2,qg7],fun i y hy=>?_,fun j i p' o1 hj hi=>?_⟩
      · rcases h3 i y hy with ⟨j,p',o1,o',z1,z2,z3,z4⟩ | ⟨z1,z2⟩
        · rw [qcm (ne z1)] at z2
          exact .inl ⟨j+1,p',o1,o',z1,z2,z3,z4⟩
        · by_cases c:i=i0
          · subst c
            rw [qdn] at z1
            rw [hp] at z1
            simp only at z1
            rw [List.getElem?_set_self (qag hp)] at z1
            cases z1
            exact .inl ⟨0,p,o0,o,rfl,hp,rfl,rfl⟩
          · rw [qcm c] at z1 z2
            refine .inr ⟨z1,fun j p' o1 hj=>?_⟩
            cases j with
            | zero=>cases hj;exact absurd rfl c
            | succ j=>exact z2 j p' o1 hj
      · cases j with
        | zero=>cases hj;rw [hp] at hi;cases hi;exact ⟨o,rfl⟩
        | succ j=>exact h4 j i p' o1 hj (by rw [qcm (ne hj)];exact hi)
    · have h2':qlH cap ρc ρ k:=by
        split at h'
        · next p o0 e=>exact absurd ⟨p,o0,e⟩ hp
        · exact h'
      obtain ⟨ρ2,h1,h2,h3,h4⟩:=qfE nd2 h2'
      refine ⟨ρ2,h1,h2,fun i y hy=>?_,fun j i p o0 hj hi=>?_⟩
      · rcases h3 i y hy with ⟨j,p,o0,o,z1,z2,z3,z4⟩ | ⟨z1,z2⟩
        · exact .inl ⟨j+1,p,o0,o,z1,z2,z3,z4⟩
        · refine .inr ⟨z1,fun j p o0 hj=>?_⟩
          cases j with
          | zero=>cases hj;exact fun e=>hp ⟨p,o0,e⟩
          | succ j=>exact z2 j p o0 hj
      · cases j with
        | zero=>cases hj;exact absurd ⟨p,o0,hi⟩ hp
        | succ j=>exact h4 j i p o0 hj hi
  | none::_,[],_,_,_,h=>h.elim
  | some _::_,[],_,_,_,h=>h.elim
section
variable {K : PySem.W.Frag} {X : Cx} {H0 H H' Φ Φ' : Hp} {σ : St} {ρ : qaB} {cap : List (Option Nat)}
theorem qj2 {i:Nat} {x:Sm} (h:(qnH cap ρ)[i]?=some (some x)):∃ j,cap[i]?=some (some j)∧ρ[j]?=some (some x)∧pinned (some x)=some x:=by
  unfold qnH at h
  rw [List.getElem?_map] at h
  cases e:cap[i]? with
  | none=>rw [e] at h;cases h
  | some o =>
    rw [e] at h
    cases o with
    | none=>cases h
    | some j =>
      have h':pinned (ρ[j]?).join=some x:=Option.some.inj h
      cases e2:(ρ[j]?).join with
      | none=>rw [e2] at h';cases h'
      | some y =>
        rw [e2] at h'
        cases y with
        | v d=>cases h';exact ⟨j,rfl,qdW e2,rfl⟩
        | ob a o =>
          cases a with
          | none=>cases h'
          | some p=>cases h';exact ⟨j,rfl,qdW e2,rfl⟩
theorem qhC {i j:Nat} {v:V} (hc:cap[i]?=some (some j)) (hs:σ[j]?=some (some v)):(qco cap σ)[i]?=some (some v):=by
  unfold qco
  rw [List.getElem?_map,hc]
  simp [hs]
theorem EnvM.side {p:Addr} {u u':HO} (E:EnvM K H0 Φ H σ ρ) (h0:H0 p=some u) (hn:Φ p=none):EnvM K (upd H0 p u') Φ (upd H p u') σ ρ:=by
  obtain ⟨fp,E⟩:=E
  have ne:∀ {i:Nat} {a:Option Addr} {o:Om},ρ[i]?=some (some (.ob a o))→∀ b∈fp i,b≠p:=fun h b hb e=>by
    have:=(E.no _ _ _ h b hb).1
    rw [e,h0] at this
    cases this
  exact ⟨fp,fun b w e=>by rw [qak (qap e hn)];exact E.fz b w e,E.len,E.sl,fun i a o h=>let ⟨q,e,ha,r⟩:=E.ow i a o h;⟨q,e,ha,r.keep (Same.refl _) fun b hb w hw=>by rw [qak (ne h b hb)];exact hw⟩,
    fun i a o h b hb=>by rw [qak (ne h b hb)];exact E.no i a o h b hb,E.dj,E.tb⟩
structure StN (K:PySem.W.Frag) (Φ0 H0 Φ H:Hp) (σ τ:St) (ρ κ:qaB):Prop where
  g:Gr Φ0 H0 Φ H
  l:ρ.length=σ.length
  E:EnvM K H0 Φ H (σ++τ) (ρ++κ)
def nox:XD→qaB→Prop:=fun _ _=>False
theorem StM.n {Φ0 H0:Hp} {τ:St} {κ:qaB} {Rx:XD→qaB→Prop} (S:StM K X Φ0 H0 Φ H σ τ ρ κ Rx):StN K Φ0 H0 Φ H σ τ ρ κ:=⟨S.g,S.l,S.E⟩
theorem StN.m {Φ0 H0:Hp} {τ:St} {κ:qaB} (S:StN K Φ0 H0 Φ H σ τ ρ κ):StM K X Φ0 H0 Φ H σ τ ρ κ nox:=⟨S.g,S.l,S.E,fun _ _ _ _ _ _ _ _ h=>h.elim⟩
def lNm (K:PySem.W.Frag) (t:TX):TE:=fun σ H Q=>∃ Φ0 H0 Φ τ ρ κ R,StN K Φ0 H0 Φ H σ τ ρ κ∧t ρ R nox∧∀ sm ρ' Φ' H' v,R sm ρ'→StN K Φ0 H0 Φ' H' σ (τ++[some v]) ρ' (κ++[some sm])→Same Φ Φ'→Q v H'
def lNb (K:PySem.W.Frag) (t:TXB):TT:=fun σ H Q=>∃ Φ0 H0 Φ τ ρ κ R,StN K Φ0 H0 Φ H σ τ ρ κ∧t ρ R nox∧∀ b ρ' Φ' H',R b ρ'→StN K Φ0 H0 Φ' H' σ τ ρ' κ→Same Φ Φ'→Q b H'
theorem lNm.m {t:TX} {Q:VK} (h:lNm K t σ H Q):lXm K X t σ H Q:=by
  obtain ⟨Φ0,H0,Φ,τ,ρ,κ,R,S,t,k⟩:=h
  exact ⟨Φ0,H0,Φ,τ,ρ,κ,R,nox,S.m,t,fun sm ρ' Φ' H' v r S' f=>k sm ρ' Φ' H' v r S'.n f⟩
theorem lNb.m {t:TXB} {Q:Bool→Hp→Prop} (h:lNb K t σ H Q):lXb K X t σ H Q:=by
  obtain ⟨Φ0,H0,Φ,τ,ρ,κ,R,S,t,k⟩:=h
  exact ⟨Φ0,H0,Φ,τ,ρ,κ,R,nox,S.m,t,fun b ρ' Φ' H' r S' f=>k b ρ' Φ' H' r S'.n f⟩
def ql9 (ti:TIM) (cap:List (Option Nat)) (gd:TGM) (tc:TXB) (te:TX):TX:=fun ρ R Rx=>ti ρ (fun ds ρ0=>ds.length<sizeLine∧∃ I:Nat→List D→qaB→Prop,I 0 [] (qnH cap ρ0) ∧
  (∀ i d ys ρc,ds[i]?=some d→I i ys ρc→gd d ρc fun ρ1=>tc ρ1 (fun b ρ2=>(b=true→te ρ2 (xV fun y ρ3=>I (i+1) (ys++[y]) ρ3) nox)∧(b=false→I (i+1) ys ρ2)) nox) ∧
  ∀ ys ρc,I ds.length ys ρc→qlH cap ρc ρ0 fun ρ2=>R (.own ys) ρ2) Rx
def qnX:TXB:=fun ρ R _=>R true ρ
structure PIfM (K:PySem.W.Frag) (X:Cx) (ifs:List Expr) (t:TXB):Prop where p:X.K=K→qnd X ifs (lXb K X t)
theorem qmT:PIfM K X [] qnX:=⟨fun _ pins s σ H Q I hq0=>by obtain ⟨Φ0,H0,Φ,τ,ρ,κ,R,Rx,S,t,k⟩:=hq0;exact qhF pins s σ H Q I (k true ρ Φ H t S (Same.refl _))⟩
theorem qnh {c:Expr} {t:TXB} (h:PXB K X c t):PIfM K X [c] t:=⟨fun hK=>qkT (h.pt hK)⟩
end
section
variable {K : PySem.W.Frag} {X : Cx} {tg iter elt : Expr} {ifs : List Expr} {scope : Scope} {pos : Pos} {N' : List Str} {cap : List (Option Nat)} {ti : TIM} {gd : TGM} {tc : TXB} {te : TX}
theorem qeS {n:Nat}:∀ {cap:List (Option Nat)},(qcj cap).Nodup→∀ {i j:Nat},cap[i]?=some (some n)→cap[j]?=some (some n)→i=j:=by
  intro cap
  induction cap with
  | nil=>intro _ i j h;simp at h
  | cons o cap ih =>
    intro nd i j h1 h2
    have nd':(qcj cap).Nodup:=by
      cases o with
      | none=>exact nd
      | some m=>exact (List.nodup_cons.mp (show (m::qcj cap).Nodup from nd)).2
    have one:∀ {i:Nat},o=some n→cap[i]?=some (some n)→False:=fun {i} ho hi=>by
      subst ho
      exact (List.nodup_cons.mp (show (n::qcj cap).Nodup from nd)).1 (qd0 hi)
    cases i with
    | zero=>cases j with
      | zero=>rfl
      | succ j=>exact (one (by simpa using h1) (by simpa using h2)).elim
    | succ i=>cases j with
      | zero=>exact (one (by simpa using h2) (by simpa using h1)).elim
      | succ j=>exact congrArg Nat.succ (ih nd' (by simpa using h1) (by simpa using h2))
theorem qeY (hcap:(qcj cap).Nodup) {σ:St} {H:Hp} {Q:VK} {Φ0 H0 Φ:Hp} {ρ:qaB} {R:Sm→qaB→Prop} {Rx:XD→qaB→Prop} {τ:St} {κ:qaB} (S:StM K X Φ0 H0 Φ H σ τ ρ κ Rx) (t:ql9 ti cap gd tc te ρ R Rx)
    (k:∀ sm ρ' Φ' H' v,R sm ρ'→StM K X Φ0 H0 Φ' H' σ (τ++[some v]) ρ' (κ++[some sm]) Rx→Same Φ Φ'→Q v H'):qjO (lIM K X ti) cap (lGM K gd) (lNb K tc) (lNm K te) σ H Q:=by
  refine ⟨Φ0,H0,Φ,τ,ρ,κ,_,Rx,S,t,fun ds ρ0 Φ1 H1 J hq1 S1 f1 Sd Dd hD=>?_⟩
  obtain ⟨hlen,I,h0,hst,hend⟩:=hq1
  obtain ⟨fp,Ex⟩:=S1.E
  have E:=Ex.take S1.l
  have up:∀ {i:Nat} {x:Sm},ρ0[i]?=some (some x)→(ρ0++κ)[i]?=some (some x):=fun h=>by rw [List.getElem?_append_left (qag h)];exact h
  have ups:∀ {i:Nat} {x:V},σ[i]?=some (some x)→(σ++τ)[i]?=some (some x):=fun h=>by rw [List.getElem?_append_left (qag h)];exact h
  let lent:Nat→Prop:=fun i=>(∃ j:Nat,cap[j]?=some (some i))∧∃ p o,ρ0[i]?=some (some (.ob (some p) o))
  obtain ⟨B,hB⟩:∃ B:List Addr,∀ b,b∈B↔∃ i,lent i∧b∈fp i:=by
    refine ⟨((qcj cap).filter fun i=>match ρ0[i]? with | some (some (.ob (some _) _))=>true | _=>false).flatMap fp,fun b=>?_⟩
    rw [List.mem_flatMap]
    constructor
    · rintro ⟨i,hi,hb⟩
      obtain ⟨hi,hp⟩:=List.mem_filter.mp hi
      refine ⟨i,⟨?_,?_⟩,hb⟩
      · obtain ⟨o,ho,e⟩:=List.mem_filterMap.mp hi
        cases o with
        | none=>cases e
        | some i'=>cases e;exact List.getElem?_of_mem ho
      · split at hp
        · next p o e=>exact ⟨p,o,e⟩
        · cases hp
    · rintro ⟨i,⟨⟨j,hj⟩,p,o,hp⟩,hb⟩
      exact ⟨i,List.mem_filter.mpr ⟨qd0 hj,by rw [hp]⟩,hb⟩
  have hDB:Dd∉B:=fun h=>by
    obtain ⟨i,⟨_,p,o,ho⟩,hb⟩:=(hB Dd).mp h
    obtain ⟨_,_,_,r⟩:=E.ow i _ o ho
    obtain ⟨u,hu,_⟩:=r.at Dd hb
    rw [hD] at hu
    cases hu
  have hDΦ:Φ1 Dd=none:=S1.g.s.free hD
  have hDm:qa7 H1 B Dd=none:=by rw [qa5 hDB];exact hD
  have m2:∀ {b:Addr} {u:HO},qa7 H1 B b=some u→b≠Dd:=fun h=>qap h hDm
  have C0:EnvM K (upd (qa7 H1 B) Dd (.lst [])) Φ1 (upd H1 Dd (.lst [])) (qco cap σ) (qnH cap ρ0):=by
    have no:∀ {i:Nat} {a:Option Addr} {o:Om},(qnH cap ρ0)[i]?=some (some (.ob a o))→∃ j:Nat,cap[i]?=some (some j)∧ρ0[j]?=some (some (.ob a o))∧lent j:=fun {i a o} h=>by
      obtain ⟨j,h1,h2,h3⟩:=qj2 h
      cases a with
      | none=>cases h3
      | some p=>exact ⟨j,h1,h2,⟨i,h1⟩,p,o,h2⟩
    have inB:∀ {i j:Nat} {a:Option Addr} {o:Om},ρ0[j]?=some (some (.ob a o))→lent j→∀ b∈fp j,b∈B∧b≠Dd:=fun {i j a o} h hl b hb=>⟨(hB b).mpr ⟨j,hl,hb⟩,fun e=>hDB (e ▸ (hB b).mpr ⟨j,hl,hb⟩)⟩
    have cj:∀ {i j n:Nat},cap[i]?=some (some n)→cap[j]?=some (some n)→i=j:=fun h1 h2=>qeS hcap h1 h2
    refine ⟨fun i=>match cap[i]? with | some (some j)=>fp j | _=>[],fun b u e=>?_,by unfold qco qnH;rw [List.length_map,List.length_map],fun i d h=>?_,fun i a o h=>?_,fun i a o h b hb=>?_,fun i j a a' o o' hi hj c b hb hb2=>?_,S1.E.tb⟩
    · rw [qak (qap e hDΦ)]
      exact S1.g.s b u e
    · obtain ⟨j,h1,h2,_⟩:=qj2 h
      obtain ⟨v,hv,r⟩:=E.sl j d h2
      exact ⟨v,qhC h1 hv,r⟩
    · obtain ⟨j,h1,h2,hl⟩:=no h
      obtain ⟨p,hp,ha,r⟩:=E.ow j a o h2
      refine ⟨p,qhC h1 hp,ha,?_⟩
      rw [h1]
      exact r.keep (Same.refl _) fun b hb u hu=>by rw [qak (inB (i:=i) h2 hl b hb).2];exact hu
    · obtain ⟨j,h1,h2,hl⟩:=no h
      rw [h1] at hb
      obtain ⟨z1,z2⟩:=inB (i:=i) h2 hl b hb
      exact ⟨by rw [qak z2];exact qhn z1,(E.no j a o h2 b hb).2⟩
    · obtain ⟨i',h1,h2,_⟩:=no hi
      obtain ⟨j',h3,h4,_⟩:=no hj
      rw [h1] at hb
      rw [h3] at hb2
      exact E.dj i' j' a a' o o' h2 h4 (fun e=>c (by subst e;exact cj h1 h3)) b hb hb2
  refine ⟨fun i m σ' H'=>m=ds.length - i∧i≤ds.length∧∃ (Φ':Hp) (ρc:qaB) (vs:List V) (ys:List D),EnvM K (upd (qa7 H1 B) Dd (.lst vs)) Φ' H' σ' ρc∧Gr Φ1 (qa7 H1 B) Φ' H'∧Φ' Dd=none∧H' Dd=some (.lst vs)∧RpL K Φ' ys vs∧ys.length≤i∧I i ys ρc,⟨ds.length,by simp,Nat.zero_le _,Φ1,_,[],[],C0,⟨Same.refl _,fun b u e=>by rw [qak (m2 e)];exact (qeJ e).2,fun b u e=>by rw [qak (qap e hDΦ)];exact S1.g.s b u e,fun _ _ _ h _=>h⟩,hDΦ,qai,.nil,Nat.zero_le _,h0⟩,?_⟩
  rintro i m σ' H' ⟨rfl,hi,Φ',ρc,vs,ys,Ei,gi,hDi,hDl,hrl,hyl,hI⟩
  by_cases hlt:i<ds.length
  · refine .inr ⟨Sd.go i H' (gi.f.trans gi.s) hlt,fun σ2 H2=>∃ (Φ':Hp) (ρc:qaB) (vs:List V) (ys:List D),EnvM K (upd (qa7 H1 B) Dd (.lst vs)) Φ' H2 σ2 ρc∧Gr Φ1 (qa7 H1 B) Φ' H2∧Φ' Dd=none∧H2 Dd=some (.lst vs)∧RpL K Φ' ys vs∧ys.length≤i+1∧I (i+1) ys ρc,fun σ2 H2 h2=>⟨ds.length - (i+1),by omega,rfl,hlt,h2⟩,fun x H2 y=>?_⟩
    obtain ⟨Φ3,g3,rx⟩:=Sd.yl i Φ' H' x H2 _ gi.f gi.s (qao hlt) y
    have E3:=Ei.gr g3
    refine ⟨_,Φ3,ρc,_,_,E3,rx,hst i _ ys ρc (qao hlt) hI,fun ρ1 σ3 t1 E4=>?_⟩
    have hD3:Φ3 Dd=none:=g3.o _ _ hDl hDi
    have hDl3:=g3.h _ _ hDl
    have gt:Gr Φ3 (upd (qa7 H1 B) Dd (.lst vs)) Φ3 H2:=⟨Same.refl _,fun b u e=>by
      by_cases c:b=Dd
      · subst c;rw [qai] at e;cases e;exact hDl3
      · rw [qak c] at e;exact g3.h b u (gi.h b u e),g3.s,fun _ _ _ h _=>h⟩
    have join:∀ {Φ5 H5:Hp},Gr Φ3 (upd (qa7 H1 B) Dd (.lst vs)) Φ5 H5→Gr Φ1 (qa7 H1 B) Φ5 H5∧Φ5 Dd=none∧H5 Dd=some (.lst vs):=fun {Φ5 H5} g5=>by
      refine ⟨⟨(gi.f.trans g3.f).trans g5.f,fun b u e=>g5.h b u (by rw [qak (m2 e)];exact e),g5.s,fun b u h1 h2 kk=>?_⟩,g5.o _ _ qai hD3 trivial,g5.h _ _ qai⟩
      have z1:=gi.o b u h1 h2 kk
      have z2:=g3.o b u (gi.h b u h1) z1 kk
      exact g5.o b u (by rw [qak (m2 h1)];exact h1) z2 kk
    refine ⟨Φ3,_,Φ3,[],ρ1,[],_,⟨gt,E4.len.symm,by rw [List.append_nil,List.append_nil];exact E4⟩,t1,fun b ρ2 Φ4 H4 rb S4 f4=>?_⟩
    cases b with
    | false =>
      refine qpH ?_
      obtain ⟨j1,j2,j3⟩:=join S4.g
      exact ⟨Φ4,ρ2,vs,ys,(S4.m (X:=X)).env,j1,j2,j3,(hrl.same g3.f).same f4,by omega,rb.2 rfl⟩
    | true =>
      refine qpJ ?_
      refine ⟨Φ3,_,Φ4,[],ρ2,[],_,S4,rb.1 rfl,fun s ρ3 Φ5 H5 v rs S5' f5=>?_⟩
      have S5:=S5'.m (X:=X)
      obtain ⟨d,rfl,rs⟩:=rs.get
      obtain ⟨j1,j2,j3⟩:=join S5.g
      have rl5:=(hrl.same g3.f).same (f4.trans f5)
      refine ⟨vs,j3,by rw [hrl.1];omega,Φ5,ρ3,vs++[v],ys++[d],?_,?_,j2,qai,rl5.append (.one S5.last),by rw [List.length_append];exact Nat.succ_le_succ hyl,rs⟩
      · have:=S5.env.side (p:=Dd) (u:=.lst vs) (u':=.lst (vs++[v])) qai j2
        rw [qmh] at this
        exact this
      · exact ⟨j1.f,fun b u e=>by rw [qak (m2 e)];exact j1.h b u e,fun b u e=>by rw [qak (qap e j2)];exact j1.s b u e,fun b u h1 h2 kk=>j1.o b u h1 h2 kk⟩
  · have e:i=ds.length:=by omega
    subst e
    refine .inl ⟨Sd.stop H' (gi.f.trans gi.s),?_⟩
    obtain ⟨ρ2,hR,hl2,h3,h4⟩:=qfE hcap (hend ys ρc hI)
    obtain ⟨fc,Ec⟩:=Ei
    have inj:∀ {i j n:Nat},cap[i]?=some (some n)→cap[j]?=some (some n)→i=j:=fun h1 h2=>qeS hcap h1 h2
    have ex:∀ i,lent i→∃ (j:Nat) (p:Addr) (o0 o:Om),cap[j]?=some (some i)∧ρ0[i]?=some (some (.ob (some p) o0))∧ρc[j]?=some (some (.ob (some p) o)):=fun i hl=>by
      obtain ⟨⟨j,hj⟩,p,o0,ho⟩:=hl
      obtain ⟨o,h⟩:=h4 j i p o0 hj ho
      exact ⟨j,p,o0,o,hj,ho,h⟩
    obtain ⟨new,hnew,hnone⟩:∃ new:Nat→Option (Om × List Addr),(∀ i q,new i=some q→∃ (j:Nat) (p:Addr) (o0:Om),cap[j]?=some (some i)∧ρ0[i]?=some (some (.ob (some p) o0))∧ρc[j]?=some (some (.ob (some p) q.1))∧q.2=fc j)∧∀ i,new i=none↔¬ lent i:=by
      have dec:∀ i,Decidable (lent i):=fun i=>Classical.propDecidable _
      refine ⟨fun i=>if h:lent i then some ((ex i h).choose_spec.choose_spec.choose_spec.choose,fc (ex i h).choose) else none,fun i q hq=>?_,fun i=>?_⟩
      · by_cases h:lent i
        · simp only [h,dif_pos] at hq
          cases hq
          obtain ⟨z1,z2,z3⟩:=(ex i h).choose_spec.choose_spec.choose_spec.choose_spec
          exact ⟨_,_,_,z1,z2,z3,rfl⟩
        · simp only [h,dif_neg,not_false_eq_true] at hq
          cases hq
      · by_cases h:lent i
        · simp [h]
        · simp [h]
    have Dfc:∀ {j:Nat} {a:Option Addr} {o:Om},ρc[j]?=some (some (.ob a o))→∀ b∈fc j,b≠Dd∧qa7 H1 B b=none∧Φ' b=none:=fun {j a o} h b hb=>by
      obtain ⟨z1,z2⟩:=Ec.no j a o h b hb
      have c:b≠Dd:=fun e=>by rw [e,qai] at z1;cases z1
      rw [qak c] at z1
      exact ⟨c,z1,z2⟩
    have adr:∀ {j i:Nat} {p:Addr} {o0 o:Om},ρ0[i]?=some (some (.ob (some p) o0))→ρc[j]?=some (some (.ob (some p) o))→σ[i]?=some (some (.ref p))∧OmS K Φ' H' o p (fc j):=fun {j i p o0 o} h1 h2=>by
      obtain ⟨q1,e1,a1,_⟩:=E.ow i _ o0 h1
      obtain ⟨q2,e2,a2,r⟩:=Ec.ow j _ o h2
      cases a1 p rfl
      cases a2 p rfl
      exact ⟨e1,r⟩
    have lnt:∀ {i:Nat},ρ0.length≤i→new i=none:=fun {i} c=>(hnone i).mpr fun hl=>by
      obtain ⟨_,p,o,ho⟩:=hl
      have:=qag ho
      omega
    have cs:∀ {i:Nat} {x:Sm},(ρ2++κ)[i]?=some (some x)→(i<ρ0.length∧ρ2[i]?=some (some x))∨(ρ0.length≤i∧(ρ0++κ)[i]?=some (some x)):=fun {i x} h=>by
      rcases Nat.lt_or_ge i ρ0.length with c | c
      · rw [List.getElem?_append_left (by omega)] at h
        exact .inl ⟨c,h⟩
      · rw [List.getElem?_append_right (by omega),hl2] at h
        exact .inr ⟨c,by rw [List.getElem?_append_right c];exact h⟩
    have E2:EnvM' K H0 Φ' H' (σ++τ) (ρ2++κ) (fpN new fp):=by
      refine Ex.lend S1.g.h (B:=B) (fun b hb=>?_) (fun i q hq b hb=>(hB b).mpr ⟨i,(Classical.byContradiction fun z=>by rw [(hnone i).mpr z] at hq;cases hq),hb⟩) gi (by rw [List.length_append,List.length_append,hl2]) (fun i d h=>?_) (fun i a o h=>?_) (fun i q hq=>?_) (fun i q hq b hb=>?_) fun i j q r hq hr c b hb hb2=>?_
      · obtain ⟨i,hl,hbi⟩:=(hB b).mp hb
        obtain ⟨_,p,o,ho⟩:=id hl
        cases e:new i with
        | none=>exact absurd hl ((hnone i).mp e)
        | some q=>exact ⟨i,_,o,q,e,up ho,hbi⟩
      · rcases cs h with ⟨_,h⟩ | ⟨_,h⟩
        · rcases h3 i _ h with ⟨_,_,_,_,_,_,_,z⟩ | ⟨z,_⟩
          · cases z
          · exact up z
        · exact h
      · rcases cs h with ⟨_,h⟩ | ⟨c,h⟩
        · rcases h3 i _ h with ⟨j,p,o0,o',z1,z2,z3,z4⟩ | ⟨z1,z2⟩
          · cases z4
            cases e:new i with
            | none=>exact absurd ⟨⟨j,z1⟩,p,o0,z2⟩ ((hnone i).mp e)
            | some q =>
              obtain ⟨j',p',o1,y1,y2,y3,y4⟩:=hnew i q e
              cases inj z1 y1
              rw [z3] at y3
              cases y3
              exact .inr ⟨o0,q.2,rfl,up z2⟩
          · refine .inl ⟨(hnone i).mpr fun hl=>?_,up z1⟩
            obtain ⟨⟨j,hj⟩,p,o0,ho⟩:=hl
            exact z2 j p o0 hj ho
        · exact .inl ⟨lnt c,h⟩
      · obtain ⟨j,p,o0,z1,z2,z3,z4⟩:=hnew i q hq
        obtain ⟨y1,y2⟩:=adr z2 z3
        exact ⟨p,ups y1,by rw [z4];exact y2⟩
      · obtain ⟨j,p,o0,z1,z2,z3,z4⟩:=hnew i q hq
        rw [z4] at hb
        exact (Dfc z3 b hb).2
      · obtain ⟨j1,p1,o1,z1,z2,z3,z4⟩:=hnew i q hq
        obtain ⟨j2,p2,o2,y1,y2,y3,y4⟩:=hnew j r hr
        rw [z4] at hb
        rw [y4] at hb2
        exact Ec.dj j1 j2 _ _ _ _ z3 y3 (fun e=>c (by rw [e,y1] at z1;cases z1;rfl)) b hb hb2
    have B0:∀ b∈B,H0 b=none:=fun b hb=>by
      obtain ⟨i,⟨_,p,o,ho⟩,hbi⟩:=(hB b).mp hb
      exact (E.no i _ o ho b hbi).1
    have g0:=S1.g.lend gi B0
    have E3:=E2.snocG (sm:=.own ys) (F:=[Dd]) (.o (fun q e=>by cases e) (.lst hDl hrl)) (fun b hb=>by rw [List.mem_singleton.mp hb];exact ⟨S1.g.h.free hD,hDi⟩) fun b hb i a o ho hbi=>by
      rw [List.mem_singleton.mp hb] at hbi
      unfold fpN at hbi
      cases e:new i with
      | some q =>
        rw [e] at hbi
        obtain ⟨j,p,o0,z1,z2,z3,z4⟩:=hnew i q e
        have hbi:Dd∈q.2:=hbi
        rw [z4] at hbi
        exact (Dfc z3 Dd hbi).1 rfl
      | none =>
        rw [e] at hbi
        have old:(ρ0++κ)[i]?=some (some (.ob a o)):=by
          rcases cs ho with ⟨_,ho⟩ | ⟨_,ho⟩
          · rcases h3 i _ ho with ⟨j,p,o0,o',z1,z2,_⟩ | ⟨z1,_⟩
            · exact absurd ⟨⟨j,z1⟩,p,o0,z2⟩ ((hnone i).mp e)
            · exact up z1
          · exact ho
        obtain ⟨_,_,_,r⟩:=Ex.ow i a o old
        obtain ⟨u,hu,_⟩:=r.at Dd hbi
        rw [hD] at hu
        cases hu
    rw [List.append_assoc,List.append_assoc] at E3
    exact k _ ρ2 Φ' H' _ hR ⟨g0,by rw [hl2];exact S1.l,E3,S1.x⟩ (f1.trans gi.f)
theorem qoU (hcalm:X.calm=true) (Sc:CompScope X.N X.env.scope scope N' cap) (hcap:(qcj cap).Nodup) (hi:PIM K X tg iter ti)
    (hg:∀ (cl:List (Str × Addr)) (fp:List Addr) (C:Addr) (s0:Shared) (H0:Hp),PGM K (qaV X scope N' cl C s0 H0 fp) tg gd) (ht:∀ (cl:List (Str × Addr)) (fp:List Addr) (C:Addr) (s0:Shared) (H0:Hp),PIfM K (qaV X scope N' cl C s0 H0 fp) ifs tc)
    (he:∀ (cl:List (Str × Addr)) (fp:List Addr) (C:Addr) (s0:Shared) (H0:Hp),PX K (qaV X scope N' cl C s0 H0 fp) elt te) (hs:∀ x,foldedSetIterable iter X.env x=pure x:=by intro _;rfl):PX K X (.ListComp elt [⟨tg,iter,ifs,0⟩] scope pos) (ql9 ti cap gd tc te) :=
  ⟨fun hK=>(qjF hcalm Sc (hi.pi hK) (fun cl fp C s0 H0=>(hg cl fp C s0 H0).pg hK) (fun cl fp C s0 H0 pins s σ H Q I h=>(ht cl fp C s0 H0).p hK pins s σ H Q I (lNb.m h)) (fun cl fp C s0 H0=>((he cl fp C s0 H0).pe hK).imp fun _ _ _ h=>lNm.m h) hs).imp fun σ H Q hq0=>by
    obtain ⟨Φ0,H0,Φ,τ,ρ,κ,R,Rx,S,t,k⟩:=hq0
    exact qeY hcap S t k⟩
theorem qm5 {i:Nat} {y:Str} {py spos:Pos} (hcalm:X.calm=true) (hN:X.N.Nodup) (hy:X.N[i]?=some y) (hx:Loc X.env.scope y) (Sc:CompScope X.N X.env.scope scope N' cap) (hcap:(qcj cap).Nodup) (hi:PIM K X tg iter ti)
    (hg:∀ (cl:List (Str × Addr)) (fp:List Addr) (C:Addr) (s0:Shared) (H0:Hp),PGM K (qaV X scope N' cl C s0 H0 fp) tg gd) (ht:∀ (cl:List (Str × Addr)) (fp:List Addr) (C:Addr) (s0:Shared) (H0:Hp),PIfM K (qaV X scope N' cl C s0 H0 fp) ifs tc)
    (he:∀ (cl:List (Str × Addr)) (fp:List Addr) (C:Addr) (s0:Shared) (H0:Hp),PX K (qaV X scope N' cl C s0 H0 fp) elt te) (hsw:swapsWith (.ListComp elt [⟨tg,iter,ifs,0⟩] scope pos) (some (.Name y py)) spos.line X.env=pure true:=by rfl)
    (hs:∀ x,foldedSetIterable iter X.env x=pure x:=by intro _;rfl) (hf:X.fn y=true∨X.env.scope.names.lookup y=some .local:=by first | exact .inl rfl | exact .inr rfl | assumption) :
    PSM K X (.Assign [.Name y py] (.ListComp elt [⟨tg,iter,ifs,0⟩] scope pos) spos) (qqa i (ql9 ti cap gd tc te)) :=
  ⟨fun hK=>(qnk hcalm hN hy hx Sc (hi.pi hK) (fun cl fp C s0 H0=>(hg cl fp C s0 H0).pg hK) (fun cl fp C s0 H0 pins s σ H Q I h=>(ht cl fp C s0 H0).p hK pins s σ H Q I (lNb.m h)) (fun cl fp C s0 H0=>((he cl fp C s0 H0).pe hK).imp fun _ _ _ h=>lNm.m h) hsw hs hf).imp fun E σ H hq0=>by
    obtain ⟨Φ0,H0,Φ,ρ,De,g,V,t,k⟩:=hq0
    exact qeY hcap (st0 g V k.ex) t fun sm ρ1 Φ1 H1 v r S1 _=>k.nx _ Φ1 H1 _ r S1.g (S1.env1.store i)⟩
end
theorem qpI {qs:List Addr} (h:qs.length=0):qs=[]:=List.length_eq_zero_iff.mp h
theorem qih {qs:List Addr} (h:qs.length=1):∃ a,qs=[a]:=by
  match qs,h with
  | [a],_=>exact ⟨a,rfl⟩
section
variable {K : PySem.W.Frag} {X : Cx} {e a b : Expr} {es : List Expr} {pos p : Pos} {ta tb te : TX} {tA : TXA}
theorem qrE (ha:PX K X a ta) (hb:PX K X b tb) (hs:qgV b):PX K X (.Subscript a b pos) (xOp zIx ta tb) :=
  ⟨fun hK=>(qom (qrF hK) (ha.pe hK) (hb.pe hK) hs).imp fun _ _ _=>qfp⟩
end
section
variable {κ : Type} [DecidableEq κ] {K : PySem.W.Frag} {Φ : Hp}
end
section
variable {K : PySem.W.Frag} {X : Cx} {e a b ev : Expr} {tk tv : TD} {pos apos cpos npos spos : Pos} {x : Str} {i : Nat}
end
section
variable {K : PySem.W.Frag} {X : Cx}
end
section
variable {K : PySem.W.Frag} {X : Cx} {e a b ev : Expr} {tk tv td : TD} {pos apos cpos npos spos : Pos} {x : Str} {i : Nat}
end
section
variable {g : TGD} {tc : TDB} {te : TD} {ρ : Rho} {R : List D → Prop}
end
end L2
namespace PySem.SeqAt
open AutoSeq1 (wpAny_loadPart')
open MeetsSeq MeetsSeq2 MeetsSeq3 SeqRoads2
end PySem.SeqAt
namespace L2
open PySem PySem.Spec PyProof.Rows
section
variable {K : PySem.W.Frag} {X : Cx} {a b : Expr} {ta tb : TD} {apos cpos : Pos}
end
section
variable {K : PySem.W.Frag} {X : Cx} {e e2 : Expr} {te te2 : TX} {pos apos cpos npos : Pos} {x : Str} {i : Nat}
end
section
variable {P : Program} {w : World} {H H' : Hp} {h h' h1 h2 : Heap}
end
section
variable {X : Cx} {pins : List (Addr × Obj)} {σ : St} {H : Hp} {s s' : Shared} {E : XK} {e : Value}
end
section
variable {P : Program} {w : World} {K : PySem.W.Frag} {mg : Str → Option Value} {base : Heap} {N : List Str} {qual : Str} {scope : Scope} {f : Addr} {cd : Value} {A : Around} {outer : List Env} {s s' : Shared} {H H' : Hp} {E : XK} {pins : List (Addr × Obj)} {σ : St}
end
section
variable {X : Cx} {CX : CXT} {k : Nat} {f : Addr} {fd : FuncData} {ps : List Str} {sp : Sp} {x : Str} {p pos : Pos} {e : Expr} {es : List Expr} {t : TA}
end
section
variable {K : PySem.W.Frag} {X : Cx} {e : Expr} {es : List Expr} {pos p : Pos} {tA : TXA}
end
section
variable {P : Program} {w : World} {K : PySem.W.Frag} {mg : Str → Option Value} {base : Heap}
end
section
variable {X : Cx} {pins : List (Addr × Obj)} {σ : St} {H : Hp} {s : Shared} {h' : Heap} {K : PySem.W.Frag}
end
section
variable {X : Cx} {pins pins' : List (Addr × Obj)} {σ : St} {H : Hp} {s : Shared} {xe : Value → Shared → Prop} {e : Value}
end
section
variable {M : Model} {A : Around} {E : Value → Shared → Prop} {s : Shared}
end
section
variable {K : PySem.W.Frag} {X : Cx} {isa : Str → Str → Bool} {names : List Str}
end
section
variable {M : Model} {prog : Program} {w : World} {A : Around} {E : Value → Shared → Prop} {h : Heap} {g : Array GenState} {d : Drawn} {t : Nat} {os : OsState} {a : Addr} {o : Obj} {vs : Array Value}
  {nm q:Str} {C N:Addr} {bs bm:List Value} {hdct:Bool} {sn:List Str} {sub:List Value} {ab:Bool} {col:Option Bool} {dd:Option Addr} {k0 k1 k2 k3 k5:Option Value} {newId:String} {mN:Str→Option Value} {name:Str}
end
section
variable {K : PySem.W.Frag} {X : Cx} {a : Expr} {ta : TD} {pos p : Pos} {isa : Str → Str → Bool} {names : List Str}
end
section
variable {M : Model} {prog : Program} {w : World} {A : Around} {E : Value → Shared → Prop} {h : Heap} {g : Array GenState} {d : Drawn} {t : Nat} {os : OsState} {a p : Addr} {o : Obj} {vs : Array Value} {v : Value}
  {nm q:Str} {C N:Addr} {bs bm:List Value} {sn:List Str} {sub:List Value} {ab:Bool} {col:Option Bool} {dd:Option Addr} {k0 k1 k2 k3 k5:Option Value} {newId:String} {mN mA:Str→Option Value}
end
section
variable {K : PySem.W.Frag} {X : Cx} {a : Expr} {ta : TD} {pos : Pos} {isa : Str → Str → Bool} {names : List Str}
end
open Builtin Builtin.ObjectAttr
section
variable {M : Model} {prog : Program} {w : World} {A : Around} {E : Value → Shared → Prop} {h : Heap} {g : Array GenState} {d : Drawn} {t : Nat} {os : OsState} {x : Addr} {o : Obj} {vs : Array Value} {v : Value}
  {nm q:Str} {C N:Addr} {bs bm:List Value} {sn:List Str} {sub:List Value} {ab:Bool} {col:Option Bool} {dd:Option Addr} {k0 k1 k2 k3 k5:Option Value} {newId:String} {mN:Str→Option Value}
end
end L2
namespace L2
open PySem PySem.Spec PyProof.Rows
section
variable {X : Cx} {pins : List (Addr × Obj)} {σ : St} {H : Hp} {s : Shared} {C t : Addr}
end
section
variable {M : Model} {A : Around} {E : Value → Shared → Prop} {s : Shared} {env : Env} {C : Addr}
end
section
variable {prog : Program} {w : World} {A : Around} {E : Value → Shared → Prop} {h : Heap} {g : Array GenState} {d : Drawn} {t : Nat} {os : OsState}
variable {C fI : Addr} {oI : Obj} {rest : List Value}
end
section
variable {P : Program} {w : World} {K : PySem.W.Frag} {mg : Str → Option Value} {base : Heap} {CX : CXT} {k : Nat} {qual : Str} {st : Stmt} {f C t : Addr} {fd : FuncData} {i : Option Value} {p1 p2 p3 p4 : Pos}
end
section
variable {X : Cx} {pins : List (Addr × Obj)} {σ : St} {H : Hp} {s : Shared} {K : PySem.W.Frag}
end
section
variable {K : PySem.W.Frag} {h : Heap} {N C : Addr}
section
variable {isa : Str → Str → Bool} {names : List Str} {mg : Str → Option Value}
end
section
variable {isa : Str → Str → Bool} {names : List Str} {mg : Str → Option Value} {P : Program} {w : World} {base : Heap}
end
end
section
variable {P : Program} {w : World} {K : PySem.W.Frag} {mg : Str → Option Value} {base : Heap} {n : Nat} {f : Addr} {fd : FuncData} {ps : List Str} {z : SpD} {r : SpR}
end
section
variable {K : PySem.W.Frag} {X : Cx} {x : Str} {np cpos pos : Pos} {arg : Expr} {ta : TD}
end
section
variable {K : PySem.W.Frag} {X : Cx} {a : Expr} {ta : TD} {pos p : Pos} {isa : Str → Str → Bool} {names : List Str}
end
end L2
namespace L2
open PySem PySem.Spec PyProof.Rows
section
variable {P : Program} {w : World} {K : PySem.W.Frag} {mg : Str → Option Value} {base : Heap}
end
section
variable {K : PySem.W.Frag} {X : Cx} {e : Expr} {es : List Expr} {pos p : Pos} {tl : TDL}
end
section
variable {K : PySem.W.Frag} {X : Cx} {x : Str} {np pos : Pos} {arg : Expr} {ta : TD}
end
section
variable {prog : Program} {w : World} {A : Around} {R : Result → Shared → Prop} {I : Addr} {fp wr : List Addr} {G : Array GenState → Array GenState → Prop} {n : Nat} {P : Nat → Value → Prop} {St : Nat → Shared → Prop}
end
section
variable {prog : Program} {w : World} {A : Around} {E : Value → Shared → Prop} {s : Shared}
end
section
variable {ks : List Key}
end
section
variable {K : PySem.W.Frag} {X : Cx} {a : Expr} {ta : TD} {pos p1 p2 ps : Pos}
end
section
variable {prog : Program} {w : World} {A : Around} {R : Result → Shared → Prop} {I : Addr} {fp wr : List Addr} {n : Nat} {P : Nat → Value → Prop} {St : Nat → Heap → Prop} {kw : List (Str × Value)}
end
section
variable {prog : Program} {w : World} {A : Around} {E : Value → Shared → Prop} {s : Shared}
end
section
variable {K : PySem.W.Frag} {X : Cx} {l : Expr} {tl : TD} {np pos kp2 kp3 : Pos} {c : Int} {j : Nat}
end
section
variable {K : PySem.W.Frag} {H0 H H' Φ Φ' Φ0 : Hp} {σ : St} {ρ : qaB} {fp : Nat → List Addr} {o o' oi oj : Om} {p q : Addr} {i j : Nat} {a a' b b' : Option Addr}
end
section
variable {K : PySem.W.Frag} {X : Cx} {rest : List Stmt} {t : TSM} {e : Expr} {es : List Expr} {pos p1 p2 p3 p4 p5 : Pos} {tA : TXA}
end
def flD:Fl→Option D
  | .v d=>some d
  | .l xs=>some (.lst xs)
  | .al _=>none
def qij:List (Str × Fl)→Option (List (Str × D))
  | []=>some []
  | (f,x)::r=>match flD x,qij r with
    | some d,some ds=>some ((f,d)::ds)
    | _,_=>none
def prV:Option Sm→Option Sl
  | some (.ob _ (.obj nm fs))=>(qij fs).map fun ds=>.v (.obj nm ds)
  | x=>prM x
abbrev qki (ρ:qaB):Rho:=ρ.map prV
def qrK:HO→Bool
  | .lst _=>true
  | .dK _=>true
  | .dT _=>true
  | .ins _ _ _=>true
  | _=>false
theorem qmN {u:HO} (h:OwK u):qrK u=true:=by cases u <;> first | rfl | exact h.elim
inductive NoL:D→Prop where
  | int (i:Int):NoL (.int i)
  | bl (b:Bool):NoL (.bl b)
  | str (x:Str):NoL (.str x)
  | non:NoL .non
  | tup {ds:List D}:(∀ d∈ds,NoL d)→NoL (.tup ds)
def qdf (Φ H:Hp) (A:List Addr):Hp:=fun b=>match Φ b with
  | some u=>some u
  | none=>if b∈A then H b else none
def qgb (Φ Φ1:Hp):Hp:=fun b=>match Φ b with
  | some u=>some u
  | none=>match Φ1 b with
    | some u=>if qrK u then none else some u
    | none=>none
section
variable {K : PySem.W.Frag} {H0 H H1 Φ Φ1 : Hp} {σ : St} {ρ : qaB} {fp : Nat → List Addr} {A : List Addr} {d : D} {v : V} {b : Addr} {u : HO}
theorem qkt (h:Φ b=some u):qdf Φ H A b=some u:=by unfold qdf;rw [h]
theorem qml (hb:b∈A) (h:H b=some u) (s:Same Φ H):qdf Φ H A b=some u:=by
  unfold qdf
  cases e:Φ b with
  | some w=>have:=s _ _ e;rw [h] at this;cases this;rfl
  | none=>simp only;rw [if_pos hb];exact h
theorem qhr (h:qdf Φ H A b=some u):Φ b=some u∨(b∈A∧H b=some u):=by
  unfold qdf at h
  cases e:Φ b with
  | some w=>rw [e] at h;exact .inl h
  | none =>
    rw [e] at h
    simp only at h
    split at h
    · next c=>exact .inr ⟨c,h⟩
    · cases h
theorem view_same:Same Φ (qdf Φ H A):=fun _ _ h=>qkt h
theorem qoY (s:Same Φ H):Same (qdf Φ H A) H:=fun b u h=>(qhr h).elim (s b u) (·.2)
theorem qkU (h:Φ b=some u):qgb Φ Φ1 b=some u:=by unfold qgb;rw [h]
theorem qkw {vs:List V} (s:Same Φ Φ1) (h:Φ1 b=some (.tup vs)):qgb Φ Φ1 b=some (.tup vs):=by
  unfold qgb
  cases e:Φ b with
  | some w=>have:=s _ _ e;rw [h] at this;cases this;rfl
  | none=>simp only;rw [h];rfl
theorem qgU (s:Same Φ H) (g:Gr (qdf Φ H A) H Φ1 H1):Gr Φ H (qgb Φ Φ1) H1:=by
  refine ⟨fun b u e=>qkU e,g.h,fun b u e=>?_,fun p u hp hn k=>?_⟩
  · unfold qgb at e
    cases e1:Φ b with
    | some w=>rw [e1] at e;cases e;exact g.h _ _ (s _ _ e1)
    | none =>
      rw [e1] at e
      simp only at e
      cases e2:Φ1 b with
      | none=>rw [e2] at e;cases e
      | some w =>
        rw [e2] at e
        simp only at e
        split at e
        · cases e
        · cases e;exact g.s _ _ e2
  · unfold qgb
    rw [hn]
    simp only
    cases e2:Φ1 p with
    | none=>rfl
    | some w =>
      have h1:=g.s _ _ e2
      rw [g.h _ _ hp] at h1
      cases h1
      simp only
      rw [if_pos (qmN k)]
theorem Rp.thawN (s:Same Φ Φ1) (hn:NoL d) (r:Rp K Φ1 d v):Rp K (qgb Φ Φ1) d v:=by
  induction hn generalizing v with
  | int i=>cases r;exact .int i
  | bl b=>cases r;exact .bl b
  | str x=>cases r;exact .str x
  | non=>cases r;exact .non
  | tup _ ih =>
    cases r with
    | tup h1 h2 h3=>exact .tup (qkw s h1) h2 fun i v d hv hd=>ih d (List.mem_of_getElem? hd) (h3 i v d hv hd)
def qlg:Option (Option Sm)→Bool
  | some (some (.ob _ (.obj _ _)))=>true
  | _=>false
def qlA (fp:Nat→List Addr) (ρ:qaB):List Addr:=(List.range ρ.length).flatMap fun i=>if qlg (ρ[i]?) then fp i else []
theorem qmK {i:Nat} {a:Option Addr} {nm:Str} {fs:List (Str × Fl)} (h:ρ[i]?=some (some (.ob a (.obj nm fs)))) (hb:b∈fp i):b∈qlA fp ρ:=by
  unfold qlA
  refine List.mem_flatMap.mpr ⟨i,List.mem_range.mpr (qag h),?_⟩
  rw [h,if_pos (show qlg (some (some (Sm.ob a (Om.obj nm fs))))=true from rfl)]
  exact hb
theorem qlo (h:b∈qlA fp ρ):∃ i a nm fs,ρ[i]?=some (some (.ob a (.obj nm fs)))∧b∈fp i:=by
  unfold qlA at h
  obtain ⟨i,_,h⟩:=List.mem_flatMap.mp h
  by_cases c:qlg (ρ[i]?)=true
  · rw [if_pos c] at h
    unfold qlg at c
    split at c
    · next a nm fs e=>exact ⟨i,a,nm,fs,e,h⟩
    · cases c
  · rw [if_neg c] at h;cases h
theorem qnZ {fs:List (Str × Fl)} {ds:List (Str × D)} {vs:List (Str × V)} {qs:List Addr} (hf:qij fs=some ds) (h:FlsR K Φ H fs vs qs) (hs:Same Φ Φ1) (hq:∀ b∈qs,∀ u,H b=some u→Φ1 b=some u) :
    vs.map (·.1)=ds.map (·.1)∧∀ (i:Nat) (v:Str × V) (d:Str × D),vs[i]?=some v→ds[i]?=some d→Rp K Φ1 d.2 v.2:=by
  induction h generalizing ds with
  | nil=>cases hf;exact ⟨rfl,fun i v d hv=>by simp at hv⟩
  | v r _ ih =>
    rename_i f d0 v0 fs0 vs0 qs0 _
    have hf:(match some d0,qij fs0 with | some d,some ds=>some ((f,d)::ds) | _,_=>none)=some ds:=hf
    cases e:qij fs0 with
    | none=>rw [e] at hf;cases hf
    | some es =>
      rw [e] at hf
      cases hf
      obtain ⟨h1,h2⟩:=ih e hq
      refine ⟨by rw [List.map_cons,List.map_cons,h1],fun i v d hv hd=>?_⟩
      cases i with
      | zero=>cases hv;cases hd;exact r.same hs
      | succ i=>exact h2 i v d hv hd
  | l h1 h2 _ ih =>
    rename_i f d0 w0 q0 fs0 vs0 qs0 _
    have hf:(match some (D.lst d0),qij fs0 with | some d,some ds=>some ((f,d)::ds) | _,_=>none)=some ds:=hf
    cases e:qij fs0 with
    | none=>rw [e] at hf;cases hf
    | some es =>
      rw [e] at hf
      cases hf
      obtain ⟨k1,k2⟩:=ih e fun b hb=>hq b (List.mem_cons_of_mem _ hb)
      refine ⟨by rw [List.map_cons,List.map_cons,k1],fun i v d hv hd=>?_⟩
      cases i with
      | zero =>
        cases hv;cases hd
        have r:=h2.same hs
        exact .lst (hq _ List.mem_cons_self _ h1) r.1 r.2
      | succ i=>exact k2 i v d hv hd
  | al _ ih =>
    rename_i f p0 fs0 vs0 qs0 _
    have hf:(match (none:Option D),qij fs0 with | some d,some ds=>some ((f,d)::ds) | _,_=>none)=some ds:=hf
    cases hf
theorem EnvM'.view (E:EnvM' K H0 Φ H σ ρ fp):EnvD K H0 (qdf Φ H (qlA fp ρ)) H σ (qki ρ):=by
  have hs:Same Φ (qdf Φ H (qlA fp ρ)):=view_same
  have at_:∀ {i:Nat} {x:Sl},(qki ρ)[i]?=some (some x)→∃ y,ρ[i]?=some (some y)∧prV (some y)=some x:=fun {i x} h=>by
    rw [List.getElem?_map] at h
    cases e:ρ[i]? with
    | none=>rw [e] at h;cases h
    | some y =>
      rw [e] at h
      cases y with
      | none=>cases h
      | some y=>exact ⟨y,rfl,Option.some.inj h⟩
  have ow:∀ {i:Nat} {o:Ow},(qki ρ)[i]?=some (some (.ob o))→∃ a om p u,ρ[i]?=some (some (.ob a om))∧(∀ nm fs,om≠.obj nm fs)∧σ[i]?=some (some (.ref p))∧p∈fp i∧H p=some u∧OwR K Φ o u:=fun {i o} h=>by
    obtain ⟨y,hy,e⟩:=at_ h
    cases y with
    | v d=>cases e
    | ob a om =>
      obtain ⟨p,e1,_,r⟩:=E.ow i a om hy
      refine ⟨a,om,p,?_⟩
      cases om with
      | lst ds=>obtain ⟨_,vs,h1,h2⟩:=r.lst_inv;cases e;exact ⟨_,hy,(fun _ _ z=>by cases z),e1,r.mem,h1,h2⟩
      | map kvs=>obtain ⟨_,vs,h1,h2⟩:=r.map_inv;cases e;exact ⟨_,hy,(fun _ _ z=>by cases z),e1,r.mem,h1,qea h2⟩
      | mpT kvs=>obtain ⟨_,vs,h1,h2⟩:=r.mpT_inv;cases e;exact ⟨_,hy,(fun _ _ z=>by cases z),e1,r.mem,h1,qea h2⟩
      | obj nm fs =>
        have e:(qij fs).map (fun ds=>Sl.v (.obj nm ds))=some (.ob o):=e
        cases e2:qij fs with
        | none=>rw [e2] at e;cases e
        | some ds=>rw [e2] at e;cases e
      | ptr=>cases e
      | tl ps=>cases e
      | pr _ _=>cases e
  refine ⟨qoY E.fz,by rw [List.length_map,E.len],fun i d h=>?_,fun i o h=>?_,fun i j o w p hi hj si sj=>?_,E.tb.same hs⟩
  · obtain ⟨y,hy,e⟩:=at_ h
    cases y with
    | v d'=>cases e;obtain ⟨v,e1,r⟩:=E.sl i d hy;exact ⟨v,e1,r.same hs⟩
    | ob a om =>
      cases om with
      | obj nm fs =>
        have e:(qij fs).map (fun ds=>Sl.v (.obj nm ds))=some (.v d):=e
        cases e2:qij fs with
        | none=>rw [e2] at e;cases e
        | some ds =>
          rw [e2] at e
          cases e
          obtain ⟨p,e1,_,r⟩:=E.ow i a _ hy
          obtain ⟨C,dx,vs,qs,eF,c1,c2,c3,_⟩:=r.obj_inv
          have hin:∀ b∈fp i,∀ u,H b=some u→qdf Φ H (qlA fp ρ) b=some u:=fun b hb u hu=>qml (qmK hy hb) hu E.fz
          obtain ⟨k1,k2⟩:=qnZ e2 c3 hs fun b hb=>hin b (by rw [eF];exact List.mem_cons_of_mem _ hb)
          exact ⟨.ref p,e1,.obj c1 (hin p (by rw [eF];exact List.mem_cons_self) _ c2) k1 k2⟩
      | _=>cases e
  · obtain ⟨a,om,p,u,h1,hno,h2,h3,h4,h5⟩:=ow h
    have n1:=E.no i a om h1 p h3
    refine ⟨p,u,h2,n1.1,?_,h4,?_⟩
    · cases e:qdf Φ H (qlA fp ρ) p with
      | none=>rfl
      | some w =>
        rcases qhr e with z | ⟨z,_⟩
        · rw [n1.2] at z;cases z
        · obtain ⟨j,a',nm,fs,k1,k2⟩:=qlo z
          have hij:i≠j:=fun c=>by subst c;rw [h1] at k1;cases k1;exact hno _ _ rfl
          exact absurd k2 (E.dj i j a a' om _ h1 k1 hij p h3)
    · cases o with
      | lst ds=>cases u with
        | lst vs=>exact RpL.same hs h5
        | _=>exact h5.elim
      | _=>cases u <;> exact h5
  · obtain ⟨a,om,p1,u,h1,_,h2,h3,_,_⟩:=ow hi
    obtain ⟨a',om',p2,u',k1,_,k2,k3,_,_⟩:=ow hj
    rw [si] at h2
    cases h2
    rw [sj] at k2
    cases k2
    rcases Decidable.em (i=j) with c | c
    · exact c
    · exact absurd k3 (E.dj i j a a' om om' h1 k1 c p h3)
end
section
variable {K : PySem.W.Frag} {X : Cx} {e : Expr}
def qqV (t:TD):TX:=fun ρ R _=>t (qki ρ) fun d=>NoL d∧R (.v d) ρ
theorem qeK {t:TD} (h:PD K X e t):PX K X e (qqV t):=⟨fun hK=>(h.pe hK).imp fun σ H Q hq0=>by
  obtain ⟨Φ0,H0,Φ,τ,ρ,κ,R,Rx,S,t,k⟩:=hq0
  obtain ⟨fp,E⟩:=S.env
  refine ⟨H0,_,qki ρ,_,E.view,t,fun d Φ1 H1 v r g rv=>?_⟩
  have g':=qgU E.fz g
  exact k _ ρ _ H1 v r.2 ((S.gr g').pushV (rv.thawN (view_same.trans g.f) r.1)) g'.f⟩
def qof (t:TDB):TXB:=fun ρ R _=>t (qki ρ) fun b=>R b ρ
theorem qdh {t:TDB} (h:PTD K X e t):PXB K X e (qof t):=⟨fun hK=>(h.pt hK).imp fun σ H Q hq0=>by
  obtain ⟨Φ0,H0,Φ,τ,ρ,κ,R,Rx,S,t,k⟩:=hq0
  obtain ⟨fp,E⟩:=S.env
  refine ⟨H0,_,qki ρ,_,E.view,t,fun b Φ1 H1 r g=>?_⟩
  have g':=qgU E.fz g
  exact k b ρ _ H1 r (S.gr g') g'.f⟩
end
def qdI (f:Str) (x:Fl):List (Str × Fl)→List (Str × Fl)
  | []=>[(f,x)]
  | (g,y)::r=>if g=f then (g,x)::r else (g,y)::qdI f x r
section
variable {K : PySem.W.Frag} {Φ H H' : Hp} {fs : List (Str × Fl)} {vs : List (Str × V)} {qs : List Addr} {f : Str} {ds es : List D} {ws : List V} {d : D} {v : V}
theorem FlsR.look (h:FlsR K Φ H fs vs qs) (nd:qs.Nodup) (hf:fs.lookup f=some (.l ds)):∃ q ws,vs.lookup f=some (.ref q)∧q∈qs∧H q=some (.lst ws)∧RpL K Φ ds ws ∧
    ∀ (H':Hp) (es:List D) (ws':List V),(∀ b∈qs,b≠q→∀ u,H b=some u→H' b=some u)→H' q=some (.lst ws')→RpL K Φ es ws'→FlsR K Φ H' (qdI f (.l es) fs) vs qs:=by
  induction h with
  | nil=>cases hf
  | v r t ih =>
    rename_i g d0 v0 fs0 vs0 qs0
    rw [List.lookup_cons] at hf
    cases c:f == g with
    | true=>rw [c] at hf;cases hf
    | false =>
      rw [c] at hf
      obtain ⟨q,ws,h1,h2,h3,h4,h5⟩:=ih nd hf
      refine ⟨q,ws,by rw [List.lookup_cons,c];exact h1,h2,h3,h4,fun H' es ws' k1 k2 k3=>?_⟩
      show FlsR K Φ H' (if g=f then _ else _) _ _
      rw [if_neg fun e=>by rw [e,beq_self_eq_true] at c;cases c]
      exact .v r (h5 H' es ws' k1 k2 k3)
  | l a1 a2 t ih =>
    rename_i g d0 w0 q0 fs0 vs0 qs0
    rw [List.nodup_cons] at nd
    rw [List.lookup_cons] at hf
    cases c:f == g with
    | true =>
      rw [c] at hf
      cases hf
      refine ⟨q0,w0,by rw [List.lookup_cons,c],List.mem_cons_self,a1,a2,fun H' es ws' k1 k2 k3=>?_⟩
      show FlsR K Φ H' (if g=f then _ else _) _ _
      rw [if_pos (eq_of_beq c).symm]
      exact .l k2 k3 (t.keep (Same.refl _) fun b hb u hu=>k1 b (List.mem_cons_of_mem _ hb) (fun z=>nd.1 (z ▸ hb)) u hu)
    | false =>
      rw [c] at hf
      obtain ⟨q,ws,h1,h2,h3,h4,h5⟩:=ih nd.2 hf
      refine ⟨q,ws,by rw [List.lookup_cons,c];exact h1,List.mem_cons_of_mem _ h2,h3,h4,fun H' es ws' k1 k2 k3=>?_⟩
      show FlsR K Φ H' (if g=f then _ else _) _ _
      rw [if_neg fun e=>by rw [e,beq_self_eq_true] at c;cases c]
      exact .l (k1 q0 List.mem_cons_self (fun z=>nd.1 (z ▸ h2)) _ a1) a2 (h5 H' es ws' (fun b hb=>k1 b (List.mem_cons_of_mem _ hb)) k2 k3)
  | al t ih =>
    rename_i g p0 fs0 vs0 qs0
    rw [List.lookup_cons] at hf
    cases c:f == g with
    | true=>rw [c] at hf;cases hf
    | false =>
      rw [c] at hf
      obtain ⟨q,ws,h1,h2,h3,h4,h5⟩:=ih nd hf
      refine ⟨q,ws,by rw [List.lookup_cons,c];exact h1,h2,h3,h4,fun H' es ws' k1 k2 k3=>?_⟩
      show FlsR K Φ H' (if g=f then _ else _) _ _
      rw [if_neg fun e=>by rw [e,beq_self_eq_true] at c;cases c]
      exact .al (h5 H' es ws' k1 k2 k3)
def qlF (f:Str) (fs:List (Str × Fl)):Bool:=match fs.lookup f with
  | none=>true
  | some (.v _)=>true
  | _=>false
theorem FlsR.setV (h:FlsR K Φ H fs vs qs) (hc:qlF f fs=true) (r:Rp K Φ d v):FlsR K Φ H (qdI f (.v d) fs) (qdT f v vs) qs:=by
  induction h with
  | nil=>exact .v r .nil
  | v r0 t ih =>
    rename_i g d0 v0 fs0 vs0 qs0
    show FlsR K Φ H (if g=f then _ else _) (if g=f then _ else _) _
    by_cases c:g=f
    · rw [if_pos c,if_pos c];exact .v r t
    · rw [if_neg c,if_neg c]
      refine .v r0 (ih ?_)
      unfold qlF at hc ⊢
      rw [List.lookup_cons,show (f == g)=false from beq_false_of_ne fun z=>c z.symm] at hc
      exact hc
  | l a1 a2 t ih =>
    rename_i g d0 w0 q0 fs0 vs0 qs0
    show FlsR K Φ H (if g=f then _ else _) (if g=f then _ else _) _
    by_cases c:g=f
    · subst c
      unfold qlF at hc
      rw [List.lookup_cons,beq_self_eq_true] at hc
      cases hc
    · rw [if_neg c,if_neg c]
      refine .l a1 a2 (ih ?_)
      unfold qlF at hc ⊢
      rw [List.lookup_cons,show (f == g)=false from beq_false_of_ne fun z=>c z.symm] at hc
      exact hc
  | al t ih =>
    rename_i g p0 fs0 vs0 qs0
    show FlsR K Φ H (if g=f then _ else _) (if g=f then _ else _) _
    by_cases c:g=f
    · subst c
      unfold qlF at hc
      rw [List.lookup_cons,beq_self_eq_true] at hc
      cases hc
    · rw [if_neg c,if_neg c]
      refine .al (ih ?_)
      unfold qlF at hc ⊢
      rw [List.lookup_cons,show (f == g)=false from beq_false_of_ne fun z=>c z.symm] at hc
      exact hc
theorem FlsR.setL {q:Addr} (h:FlsR K Φ H fs vs qs) (hc:fs.lookup f=none) (hq:H q=some (.lst ws)) (r:RpL K Φ ds ws):FlsR K Φ H (qdI f (.l ds) fs) (qdT f (.ref q) vs) (qs++[q]):=by
  have tail:∀ {g:Str} {y:Fl} {r:List (Str × Fl)},List.lookup f ((g,y)::r)=none→g≠f∧r.lookup f=none:=fun {g y r} e=>by
    rw [List.lookup_cons] at e
    cases c:f == g with
    | true=>rw [c] at e;cases e
    | false=>rw [c] at e;exact ⟨(fun z=>by rw [z,beq_self_eq_true] at c;cases c),e⟩
  induction h with
  | nil=>exact .l hq r .nil
  | v r0 t ih =>
    rename_i g d0 v0 fs0 vs0 qs0
    obtain ⟨c,hc⟩:=tail hc
    show FlsR K Φ H (if g=f then _ else _) (if g=f then _ else _) _
    rw [if_neg c,if_neg c];exact .v r0 (ih hc)
  | l a1 a2 t ih =>
    rename_i g d0 w0 q0 fs0 vs0 qs0
    obtain ⟨c,hc⟩:=tail hc
    show FlsR K Φ H (if g=f then _ else _) (if g=f then _ else _) _
    rw [if_neg c,if_neg c];exact .l a1 a2 (ih hc)
  | al t ih =>
    rename_i g p0 fs0 vs0 qs0
    obtain ⟨c,hc⟩:=tail hc
    show FlsR K Φ H (if g=f then _ else _) (if g=f then _ else _) _
    rw [if_neg c,if_neg c];exact .al (ih hc)
theorem FlsR.len (h:FlsR K Φ H fs vs qs):vs.length=fs.length:=by have:=congrArg List.length h.names;rwa [List.length_map,List.length_map] at this
end
section
variable {K : PySem.W.Frag} {X : Cx} {Φ0 H0 Φ H : Hp} {σ τ : St} {ρ κ : qaB} {Rx : XD → qaB → Prop} {a : Option Addr} {nm f : Str} {fs : List (Str × Fl)} {ds : List D} {i : Nat} {C : Addr}
theorem EnvM.flist (E:EnvM K H0 Φ H σ ρ) (g:Gr Φ0 H0 Φ H) (hC:PySem.W.nsIn K mainGlobals nm=some (some (.ref C))) (hi:ρ[i]?=some (some (.ob a (.obj nm fs)))) (hf:fs.lookup f=some (.l ds)):∃ p dx vs q ws,σ[i]?=some (some (.ref p))∧H p=some (.ins C dx vs)∧vs.lookup f=some (.ref q)∧H q=some (.lst ws)∧RpL K Φ ds ws ∧
    ∀ (es:List D) (ws':List V),RpL K Φ es ws'→EnvM K H0 Φ (upd H q (.lst ws')) σ (ρ.set i (some (.ob a (.obj nm (qdI f (.l es) fs)))))∧Gr Φ0 H0 Φ (upd H q (.lst ws')):=by
  obtain ⟨fp,E⟩:=E
  obtain ⟨p,e,_,r⟩:=E.ow i a _ hi
  obtain ⟨C',dx,vs,qs,eF,c1,c2,c3,nd⟩:=r.obj_inv
  rw [hC] at c1
  cases c1
  rw [List.nodup_cons] at nd
  obtain ⟨q,ws,l1,l2,l3,l4,l5⟩:=c3.look nd.2 hf
  have hqF:q∈fp i:=by rw [eF];exact List.mem_cons_of_mem _ l2
  have hpq:p≠q:=fun z=>nd.1 (z ▸ l2)
  refine ⟨p,dx,vs,q,ws,e,c2,l1,l3,l4,fun es ws' rw'=>?_⟩
  have hH:∀ b u,H b=some u→b∉fp i→upd H q (.lst ws') b=some u:=fun b u e hn=>by
    rw [qak fun z=>hn (by rw [z];exact hqF)]
    exact e
  refine ⟨⟨_,E.put hi e hH (F':=p::qs) (.obj hC ((qak hpq).trans c2) (l5 _ es ws' (fun b hb hne u hu=>by rw [qak hne];exact hu) qai rw') (List.nodup_cons.mpr nd)) fun b hb=>.inl (by rw [eF];exact hb)⟩,E.grput g hi hH⟩
theorem StM.flist (S:StM K X Φ0 H0 Φ H σ τ ρ κ Rx) (hC:PySem.W.nsIn K mainGlobals nm=some (some (.ref C))) (hi:ρ[i]?=some (some (.ob a (.obj nm fs)))) (hf:fs.lookup f=some (.l ds)):∃ p dx vs q ws,σ[i]?=some (some (.ref p))∧H p=some (.ins C dx vs)∧vs.lookup f=some (.ref q)∧H q=some (.lst ws)∧RpL K Φ ds ws ∧
    ∀ (es:List D) (ws':List V),RpL K Φ es ws'→StM K X Φ0 H0 Φ (upd H q (.lst ws')) σ τ (ρ.set i (some (.ob a (.obj nm (qdI f (.l es) fs))))) κ Rx:=by
  have hlt:=qag hi
  obtain ⟨p,dx,vs,q,ws,e,h1,h2,h3,h4,h5⟩:=S.E.flist (i:=i) S.g hC (by rw [List.getElem?_append_left hlt];exact hi) hf
  rw [List.getElem?_append_left (by rw [← S.l];exact hlt)] at e
  refine ⟨p,dx,vs,q,ws,e,h1,h2,h3,h4,fun es ws' r=>?_⟩
  obtain ⟨z1,z2⟩:=h5 es ws' r
  refine ⟨z2,by rw [List.length_set];exact S.l,?_,S.x⟩
  rw [List.set_append_left _ _ hlt] at z1
  exact z1
theorem EnvM.fsetV {d:D} {v:V} (E:EnvM K H0 Φ H σ ρ) (g:Gr Φ0 H0 Φ H) (hC:PySem.W.nsIn K mainGlobals nm=some (some (.ref C))) (hi:ρ[i]?=some (some (.ob a (.obj nm fs)))) (hc:qlF f fs=true) (r:Rp K Φ d v):∃ p dx vs,σ[i]?=some (some (.ref p))∧H p=some (.ins C dx vs)∧vs.length=fs.length ∧
    EnvM K H0 Φ (upd H p (.ins C dx (qdT f v vs))) σ (ρ.set i (some (.ob a (.obj nm (qdI f (.v d) fs)))))∧Gr Φ0 H0 Φ (upd H p (.ins C dx (qdT f v vs))):=by
  obtain ⟨fp,E⟩:=E
  obtain ⟨p,e,_,ro⟩:=E.ow i a _ hi
  obtain ⟨C',dx,vs,qs,eF,c1,c2,c3,nd⟩:=ro.obj_inv
  rw [hC] at c1
  cases c1
  have hpF:p∈fp i:=by rw [eF];exact List.mem_cons_self
  have hH:∀ b u,H b=some u→b∉fp i→upd H p (.ins C dx (qdT f v vs)) b=some u:=fun b u e hn=>by
    rw [qak fun z=>hn (by rw [z];exact hpF)]
    exact e
  have nd':=nd
  rw [List.nodup_cons] at nd'
  refine ⟨p,dx,vs,e,c2,c3.len,⟨_,E.put hi e hH (F':=p::qs) (.obj hC qai ((c3.setV hc r).keep (Same.refl _) fun b hb u hu=>by rw [qak (show b≠p from fun z=>nd'.1 (by rw [← z];exact hb))];exact hu) nd) fun b hb=>.inl (by rw [eF];exact hb)⟩,E.grput g hi hH⟩
end
def qr1 (ρ:qaB) (i:Nat) (nm f:Str) (k:Option Addr→List (Str × Fl)→List D→Prop):Prop:=∃ a fs ds,ρ[i]?=some (some (.ob a (.obj nm fs)))∧fs.lookup f=some (.l ds)∧k a fs ds
section
variable {K : PySem.W.Frag} {X : Cx} {e a b : Expr} {te : TX} {t tb : TD} {pos npos apos cpos fpos spos : Pos} {x nm f : Str} {C : Addr}
def qqs (i:Nat) (nm f:Str) (t:TD):TSM:=fun De ρ=>qr1 ρ i nm f fun a fs ds=>t (qki ρ) fun d=>NoL d∧ds.length<sizeLine∧NF (qdI f (.l (ds++[d])) fs) fun fs'=>De.nx (ρ.set i (some (.ob a (.obj nm fs'))))
theorem qiY (i:Nat) (c:Cls K C) (nA:NoAttr K C f) (hC:PySem.W.nsIn K mainGlobals nm=some (some (.ref C))) (he:PD K X e t) (hfew:((backTo cpos (starEach [e] X.env)).all (fun x=>!x.1) && (backToKw cpos (keywordEach [] X.env)).all (fun x=>x.1.isSome) && decide (([e]:List Expr).length+([]:List Keyword).length+(if ([]:List Keyword).isEmpty then 0 else 1)<30))=true)
    (hse:starEach [e] X.env=(false,eval e X.env)::starEach [] X.env) (hN:X.N[i]?=some x:=by rfl) (hv:Vis X.env.scope x:=by first | exact Or.inl rfl | exact Or.inr (Or.inl rfl) | exact Or.inr (Or.inr rfl)) (hd:(x == ("__debug__":Str))=false:=by decide) (hcd:(x == ("__classdict__":Str))=false:=by decide)
    (hb0:attributeBase (.Name x npos) f X.env (eval (.Name x npos) X.env)=eval (.Name x npos) X.env:=by rfl)
    (hbase:attributeBase (.Attribute (.Name x npos) f fpos) "append" X.env (eval (.Attribute (.Name x npos) f fpos) X.env)=eval (.Attribute (.Name x npos) f fpos) X.env:=by rfl) (hline:(apos.endLine == cpos.line)=true:=by rfl) (hs:swapsWith (.Call (.Attribute (.Attribute (.Name x npos) f fpos) "append" apos) [e] [] cpos) none pos.line X.env=pure false:=by rfl) :
    PSM K X (.Expr (.Call (.Attribute (.Attribute (.Name x npos) f fpos) "append" apos) [e] [] cpos) pos) (qqs i nm f t) :=
  ⟨fun hK=>(qfA (qgO PySem.F.plainAttrs_list PySem.F.slot_list_append PySem.F.type_list_append qc3 (qj3 hK (pv i hN hv hd hcd) hb0) (qa8 (he.pe hK) pa_nil hse) hbase hfew hline hse qac) hs).imp fun E σ H hq0=>by
    obtain ⟨Φ0,H0,Φ,ρ,De,g,V,⟨a0,fs0,ds0,ho,hf,t⟩,k⟩:=hq0
    have S:=st0 g V k.ex
    obtain ⟨p,dx,vs,q,ws,e1,h1,h2,h3,rl,_⟩:=S.flist hC ho hf
    obtain ⟨fp,E0⟩:=id V
    refine ⟨_,e1,p,C,dx,vs,.ref q,rfl,h1,c,nA,h2,.inl ⟨rfl,ws,SqL.of h3⟩,H0,_,qki ρ,_,E0.view,t,fun d Φ1 H1 v r g1 rv=>?_⟩
    have S1:=S.gr (qgU E0.fz g1)
    obtain ⟨p',dx',vs',q',ws',e1',h1',h2',h3',rl',k1⟩:=S1.flist hC ho hf
    rw [e1] at e1'
    cases e1'
    rw [g1.h _ _ h1] at h1'
    cases h1'
    rw [h2] at h2'
    cases h2'
    have S2:=k1 _ _ (rl'.append (.one (rv.thawN (view_same.trans g1.f) r.1)))
    exact ⟨q,ws',v,rfl,rfl,h3',by rw [rl'.1];exact r.2.1,k.nx _ _ _ σ r.2.2.get S2.g S2.env⟩⟩
def qqP (i:Nat) (nm f:Str) (te:TX):TSM:=fun De ρ=>te ρ (xV fun d ρ1=>∃ a fs,ρ1[i]?=some (some (.ob a (.obj nm fs)))∧qlF f fs=true∧fs.length<1000∧NF (qdI f (.v d) fs) fun fs'=>De.nx (ρ1.set i (some (.ob a (.obj nm fs'))))) De.ex
theorem qlJ (i:Nat) (c:Cls K C) (nA:NoAttr K C f) (hC:PySem.W.nsIn K mainGlobals nm=some (some (.ref C))) (he:PX K X e te) (hN:X.N[i]?=some x:=by rfl) (hv:Vis X.env.scope x:=by first | exact Or.inl rfl | exact Or.inr (Or.inl rfl) | exact Or.inr (Or.inr rfl)) (hd:(x == ("__debug__":Str))=false:=by decide) (hcd:(x == ("__classdict__":Str))=false:=by decide)
    (hs:swapsWith e (some (.Attribute (.Name x npos) f fpos)) pos.line X.env=pure false:=by rfl):PSM K X (.Assign [.Attribute (.Name x npos) f fpos] e pos) (qqP i nm f te) :=
  ⟨fun hK=>(qlX (f:=f) (pv i hN hv hd hcd) (he.pe hK) hs).imp fun E σ H hq0=>by
    obtain ⟨Φ0,H0,Φ,ρ,De,g,V,t,k⟩:=hq0
    refine ⟨Φ0,H0,Φ,[],ρ,[],_,De.ex,st0 g V k.ex,t,fun s ρ1 Φ1 H1 v r S1 _=>?_⟩
    obtain ⟨d,rfl,a0,fs0,ho,hc,hl,r⟩:=r.get
    obtain ⟨p,dx,vs,e1,h1,h2,E',g'⟩:=S1.env.fsetV (f:=f) S1.g hC ho hc S1.last
    exact ⟨_,e1,p,C,dx,vs,rfl,h1,hK ▸ c,hK ▸ nA,by rw [h2];exact hl,k.nx _ Φ1 _ σ r.get g' E'⟩⟩
end
theorem FlsR.lookN {K:PySem.W.Frag} {Φ H:Hp} {fs:List (Str × Fl)} {vs:List (Str × V)} {qs:List Addr} {f:Str} (h:FlsR K Φ H fs vs qs) (hf:fs.lookup f=none):vs.lookup f=none:=by
  have tail:∀ {α:Type} {g:Str} {y:α} {r:List (Str × α)},List.lookup f ((g,y)::r)=none→(f == g)=false∧r.lookup f=none:=fun {α g y r} e=>by
    rw [List.lookup_cons] at e
    cases c:f == g with
    | true=>rw [c] at e;cases e
    | false=>rw [c] at e;exact ⟨rfl,e⟩
  induction h with
  | nil=>rfl
  | v r t ih=>obtain ⟨c,hf⟩:=tail hf;rw [List.lookup_cons,c];exact ih hf
  | l a1 a2 t ih=>obtain ⟨c,hf⟩:=tail hf;rw [List.lookup_cons,c];exact ih hf
  | al t ih=>obtain ⟨c,hf⟩:=tail hf;rw [List.lookup_cons,c];exact ih hf
structure MthM (P:Program) (w:World) (K:PySem.W.Frag) (mg:Str→Option Value) (base:Heap) (n:Nat) (C:Addr) (m:Str) (ps:List Str) (z:SpM):Prop where
  ex:∃ (f:Addr) (fd:FuncData),FnOk P w K mg base CX0 n f fd ps (qdD K z)∧Binds K fd ps []∧Meth K C m f
structure MkM (P:Program) (w:World) (K:PySem.W.Frag) (mg:Str→Option Value) (base:Heap) (n:Nat) (C:Addr) (ps:List Str) (z:SpM):Prop where
  ex:∃ (f:Addr) (fd:FuncData),FnOk P w K mg base CX0 n f fd ps (qdD K z)∧Binds K fd ps []∧Mk K C f
section
variable {K : PySem.W.Frag} {X : Cx} {e : Expr} {es : List Expr} {pos p apos npos : Pos} {tA : TXA} {C : Addr} {nm m x : Str}
def qrc (i:Nat) (nm m:Str) (z:SpM) (tA:TXA):TX:=fun ρ R Rx=>(∃ a fs,ρ[i]?=some (some (.ob a (.obj nm fs)))∧fs.lookup m=none)∧tA ρ (fun as ρ1=>∃ sms,qce ρ1 (.s i::as)=some sms∧qgp (.s i::as)=true∧z sms (fun sm os=>R sm (qa0 ρ1 (.s i::as) os)) (fun xd os=>Rx xd (qa0 ρ1 (.s i::as) os))) Rx
theorem qiM (i:Nat) {n:Nat} {ps:List Str} {z:SpM} {pl:Sem Bool} (M:MthM X.prog X.w K X.mg X.base n C m ps z) (hr:Room n X.A) (c:Cls K C) (hC:PySem.W.nsIn K mainGlobals nm=some (some (.ref C)))
    (ha:PXA K X (e::es) tA) (he:starEach (e::es) X.env=(false,eval e X.env)::starEach es X.env) (hpl:(backTo pos (starEach es X.env)).any (·.1)=false)
    (ht:eval (.Call (.Attribute (.Name x npos) m apos) (e::es) [] pos) X.env=(do
      let ov ← eval (.Name x npos) X.env
      standAt apos.atName
      let (f,first) ← holding [ov] (getMethod ov m pl)
      callWith pos f first (backTo pos (starEach (e::es) X.env)) (backToKw pos (keywordEach [] X.env))):=by rfl)
    (hN:X.N[i]?=some x:=by rfl) (hv:Vis X.env.scope x:=by first | exact Or.inl rfl | exact Or.inr (Or.inl rfl) | exact Or.inr (Or.inr rfl)) (hd:(x == ("__debug__":Str))=false:=by decide) (hcd:(x == ("__classdict__":Str))=false:=by decide) :
    PX K X (.Call (.Attribute (.Name x npos) m apos) (e::es) [] pos) (qrc i nm m z tA):=⟨fun hK=>by
  obtain ⟨f,fd,F,b,hm⟩:=M.ex
  refine (ql0 (dvs:=[]) (ds:=[]) (E:=E0) (pl:=pl) (pv i hN hv hd hcd) (hK ▸ c) (hK ▸ hm) (hK ▸ F:FnOk X.prog X.w X.K X.mg X.base CX0 n f fd ps (qdD K z)) hr (hK ▸ b) .nil qln (ha.pa hK) he hpl ht).imp fun σ H Q hq0=>?_
  obtain ⟨Φ0,H0,Φ,τ,ρ,κ,R,Rx,S,⟨⟨a,fs,ho,hl⟩,t⟩,k⟩:=hq0
  obtain ⟨fp,E⟩:=S.env
  obtain ⟨q,e1,_,ro⟩:=E.ow i a _ ho
  obtain ⟨C',dx,vs,qs,eF,c1,c2,c3,nd⟩:=ro.obj_inv
  rw [hC] at c1
  cases c1
  refine ⟨_,e1,q,dx,vs,rfl,c2,c3.lookN hl,Φ0,H0,Φ,τ,ρ,κ,_,Rx,S,t,fun as ρ1 Φ1 H1 us ts r1 hl hv S1 f1=>?_⟩
  obtain ⟨sms,hres,hsl,r1⟩:=r1
  obtain ⟨Fs,g1,g2,g3,g4⟩:=S1.lend (as:=.s i::as) S.lk hres (.s e1 hv) hsl
  rw [List.append_nil]
  exact ⟨Φ1,sms,Fs,_,_,S1.g.s,S1.E.tb,g1,g2,g3,r1,fun sm os Φ' H' v F Fs' r gr hr' ho hn hno=>k sm _ Φ' H' v r (g4 sm os Φ' H' v F Fs' gr hr' ho hn hno) (f1.trans gr.f)⟩⟩
def qqN (nm:Str) (z:SpM) (tA:TXA):TX:=fun ρ R Rx=>tA ρ (xaD fun ds ρ1=>z (.ob none (.obj nm [])::ds.map Sm.v) (fun sm os=>match sm,os with | .v .non,[o]=>R (.ob none o) ρ1 | _,_=>False) (fun _ _=>False)) Rx
theorem qi2 {Φ H:Hp}:∀ {ds:List D} {vs:List V},RpL K Φ ds vs→ArgM K Φ H (ds.map Sm.v) vs (ds.map fun _=>[])
  | [],[],_=>.nil
  | [],_::_,h=>by cases h.1
  | _::_,[],h=>by cases h.1
  | d::ds,v::vs,h=>.v (h.2 0 v d rfl rfl) (qi2 ⟨by have:=h.1;simpa using this,fun i v' d' hv hd=>h.2 (i+1) v' d' hv hd⟩)
theorem qjk {Φ H:Hp}:∀ {ds:List D} {vs:List V} {os:List Om} {Fs:List (List Addr)},OutM K Φ H (ds.map Sm.v) vs os Fs→os=[]∧Fs.flatten=[]
  | [],_,_,_,.nil=>⟨rfl,rfl⟩
  | _::ds,_,_,_,.v h=>by obtain ⟨h1,h2⟩:=qjk (ds:=ds) h;exact ⟨h1,by rw [List.flatten_cons,h2];rfl⟩
theorem qdQ {α β:Type}:∀ (ds:List α),(ds.map fun _=>([]:List β)).flatten=[]
  | []=>rfl
  | _::ds=>by rw [List.map_cons,List.flatten_cons,qdQ ds];rfl
end
section
variable {K : PySem.W.Frag} {H0 H H' Φ Φ' Φ0 : Hp} {σ σ2 : St} {ρ ρ2 : qaB} {fp : Nat → List Addr} {F F' : List Addr} {o o' : Om} {p : Addr} {d : D} {v : V} {i : Nat} {a : Option Addr}
theorem EnvM'.put2 (E:EnvM' K H0 Φ H σ ρ fp) (hi:ρ[i]?=some (some (.ob a o))) (si:σ[i]?=some (some (.ref p))) (hH:∀ b u,H b=some u→b∉fp i→H' b=some u) (hO:OmS K Φ H' o' p F') (hF:∀ b∈F',b∈fp i∨(H0 b=none∧Φ b=none∧∀ (j:Nat) (a':Option Addr) (o2:Om),ρ[j]?=some (some (.ob a' o2))→b∉fp j)) :
    EnvM' K H0 Φ H' σ (ρ.set i (some (.ob a o'))) (fun j=>if j=i then F' else fp j):=by
  have hlt:=qag hi
  have cs:∀ {j:Nat} {x:Sm},(ρ.set i (some (Sm.ob a o')))[j]?=some (some x)→(j=i∧x=.ob a o')∨(j≠i∧ρ[j]?=some (some x)):=fun {j x} h=>by
    rcases qbw h with ⟨e,_,e1⟩ | ⟨e,h⟩
    · cases e1;exact .inl ⟨e,rfl⟩
    · exact .inr ⟨e,h⟩
  have nf:∀ b∈F',∀ (j:Nat) (a':Option Addr) (o2:Om),ρ[j]?=some (some (.ob a' o2))→j≠i→b∉fp j:=fun b hb j a' o2 hj c z=>by
    rcases hF b hb with h | ⟨_,_,h⟩
    · exact E.dj j i a' a o2 o hj hi c b z h
    · exact h j a' o2 hj z
  refine ⟨fun b u e=>hH b u (E.fz b u e) fun z=>?_,by rw [List.length_set,E.len],fun j d h=>?_,fun j a' o2 h=>?_,fun j a' o2 h b hb=>?_,fun j k a1 a2 o1 o2 hj hk c b hb hb2=>?_,E.tb⟩
  · rw [(E.no i a o hi b z).2] at e
    cases e
  · rcases cs h with ⟨_,h⟩ | ⟨_,h⟩
    · cases h
    · exact E.sl j d h
  · rcases cs h with ⟨c,h⟩ | ⟨c,h⟩
    · cases h
      subst c
      obtain ⟨q,e,ha,_⟩:=E.ow j a o hi
      rw [si] at e
      cases e
      exact ⟨p,si,ha,by rw [if_pos rfl];exact hO⟩
    · obtain ⟨q,e,ha,r⟩:=E.ow j a' o2 h
      refine ⟨q,e,ha,?_⟩
      rw [if_neg c]
      exact r.keep (Same.refl _) fun b hb u hu=>hH b u hu fun z=>E.dj j i a' a o2 o h hi c b hb z
  · rcases cs h with ⟨c,h⟩ | ⟨c,h⟩
    · rw [if_pos c] at hb
      rcases hF b hb with z | ⟨z1,z2,_⟩
      · exact E.no i a o hi b z
      · exact ⟨z1,z2⟩
    · rw [if_neg c] at hb
      exact E.no j a' o2 h b hb
  · rcases cs hj with ⟨cj,hj⟩ | ⟨cj,hj⟩
    · rw [if_pos cj] at hb
      rcases cs hk with ⟨ck,hk⟩ | ⟨ck,hk⟩
      · omega
      · rw [if_neg ck] at hb2
        exact nf b hb k a2 o2 hk ck hb2
    · rw [if_neg cj] at hb
      rcases cs hk with ⟨ck,hk⟩ | ⟨ck,hk⟩
      · rw [if_pos ck] at hb2
        exact nf b hb2 j a1 o1 hj cj hb
      · rw [if_neg ck] at hb2
        exact E.dj j k a1 a2 o1 o2 hj hk c b hb hb2
theorem EnvM.fsetL {nm f:Str} {fs:List (Str × Fl)} {ds:List D} {C:Addr} {a':Option Addr} (E:EnvM K H0 Φ H (σ++[some v]) (ρ++[some (.ob a' (.lst ds))])) (hl:ρ.length=σ.length) (g:Gr Φ0 H0 Φ H) (hC:PySem.W.nsIn K mainGlobals nm=some (some (.ref C))) (hi:ρ[i]?=some (some (.ob a (.obj nm fs)))) (hc:fs.lookup f=none):∃ p dx vs,σ[i]?=some (some (.ref p))∧H p=some (.ins C dx vs)∧vs.length=fs.length ∧
    EnvM K H0 Φ (upd H p (.ins C dx (qdT f v vs))) σ (ρ.set i (some (.ob a (.obj nm (qdI f (.l ds) fs)))))∧Gr Φ0 H0 Φ (upd H p (.ins C dx (qdT f v vs))):=by
  obtain ⟨fp,E⟩:=E
  have hat:(ρ++[some (Sm.ob a' (.lst ds))])[ρ.length]?=some (some (.ob a' (.lst ds))):=by rw [List.getElem?_append_right (Nat.le_refl _),Nat.sub_self];rfl
  obtain ⟨q,eq,_,rq⟩:=E.ow _ _ _ hat
  have ev:v=.ref q:=by
    rw [hl,List.getElem?_append_right (Nat.le_refl _),Nat.sub_self] at eq
    cases eq;rfl
  subst ev
  obtain ⟨eFq,ws,q1,q2⟩:=rq.lst_inv
  have hq:q∈fp ρ.length:=by rw [eFq];exact List.mem_singleton.mpr rfl
  have noq:=E.no _ _ _ hat q hq
  have up:∀ {j:Nat} {x:Sm},ρ[j]?=some (some x)→(ρ++[some (Sm.ob a' (.lst ds))])[j]?=some (some x):=fun h=>by rw [List.getElem?_append_left (qag h)];exact h
  have djq:∀ (j:Nat) (a2:Option Addr) (o2:Om),ρ[j]?=some (some (.ob a2 o2))→q∉fp j:=fun j a2 o2 hj z=>E.dj j ρ.length a2 a' o2 _ (up hj) hat (by have:=qag hj;omega) q z hq
  have E1:EnvM' K H0 Φ H σ ρ fp:=E.take hl
  obtain ⟨p,e,_,ro⟩:=E1.ow i a _ hi
  obtain ⟨C',dx,vs,qs,eF,c1,c2,c3,nd⟩:=ro.obj_inv
  rw [hC] at c1
  cases c1
  have hpF:p∈fp i:=by rw [eF];exact List.mem_cons_self
  have hH:∀ b u,H b=some u→b∉fp i→upd H p (.ins C dx (qdT f (.ref q) vs)) b=some u:=fun b u e hn=>by
    rw [qak fun z=>hn (by rw [z];exact hpF)]
    exact e
  have nd':=nd
  rw [List.nodup_cons] at nd'
  have hqn:q∉p::qs:=by rw [← eF];exact djq i a _ hi
  have nd2:(p::(qs++[q])).Nodup:=by
    rw [← List.cons_append,List.nodup_append]
    exact ⟨nd,by simp,fun b hb c hc z=>by rw [List.mem_singleton.mp hc] at z;exact hqn (z ▸ hb)⟩
  refine ⟨p,dx,vs,e,c2,c3.len,⟨_,E1.put2 hi e hH (F':=p::(qs++[q])) (.obj hC qai ((c3.setL hc q1 q2).keep (Same.refl _) fun b hb u hu=>?_) nd2) fun b hb=>?_⟩,E1.grput g hi hH⟩
  · rw [qak (show b≠p from fun z=>?_)]
    · exact hu
    · rw [List.nodup_cons] at nd2;exact nd2.1 (by rw [← z];exact hb)
  · rw [← List.cons_append] at hb
    rcases List.mem_append.mp hb with hb | hb
    · exact .inl (by rw [eF];exact hb)
    · rw [List.mem_singleton.mp hb]
      exact .inr ⟨noq.1,noq.2,djq⟩
end
section
variable {K : PySem.W.Frag} {X : Cx} {e a b : Expr} {te : TX} {t tb : TD} {pos npos apos cpos fpos spos : Pos} {x nm f : Str} {C : Addr}
def qn1 (i:Nat) (nm f:Str) (te:TX):TSM:=fun De ρ=>te ρ (fun s ρ1=>match s with | .ob _ (.lst ds)=>(∃ a fs,ρ1[i]?=some (some (.ob a (.obj nm fs)))∧fs.lookup f=none∧fs.length<1000∧NF (qdI f (.l ds) fs) fun fs'=>De.nx (ρ1.set i (some (.ob a (.obj nm fs'))))) | _=>False) De.ex
theorem qgX (i:Nat) (c:Cls K C) (nA:NoAttr K C f) (hC:PySem.W.nsIn K mainGlobals nm=some (some (.ref C))) (he:PX K X e te) (hN:X.N[i]?=some x:=by rfl) (hv:Vis X.env.scope x:=by first | exact Or.inl rfl | exact Or.inr (Or.inl rfl) | exact Or.inr (Or.inr rfl)) (hd:(x == ("__debug__":Str))=false:=by decide) (hcd:(x == ("__classdict__":Str))=false:=by decide)
    (hs:swapsWith e (some (.Attribute (.Name x npos) f fpos)) pos.line X.env=pure false:=by rfl):PSM K X (.Assign [.Attribute (.Name x npos) f fpos] e pos) (qn1 i nm f te) :=
  ⟨fun hK=>(qlX (f:=f) (pv i hN hv hd hcd) (he.pe hK) hs).imp fun E σ H hq0=>by
    obtain ⟨Φ0,H0,Φ,ρ,De,g,V,t,k⟩:=hq0
    refine ⟨Φ0,H0,Φ,[],ρ,[],_,De.ex,st0 g V k.ex,t,fun s ρ1 Φ1 H1 v r S1 _=>?_⟩
    split at r
    · next a1 ds =>
      obtain ⟨a0,fs0,ho,hc,hl,r⟩:=r
      obtain ⟨p,dx,vs,e1,h1,h2,E',g'⟩:=EnvM.fsetL (f:=f) S1.E S1.l S1.g hC ho hc
      exact ⟨_,e1,p,C,dx,vs,rfl,h1,hK ▸ c,hK ▸ nA,by rw [h2];exact hl,k.nx _ Φ1 _ σ r.get g' E'⟩
    · exact r.elim⟩
end
section
variable {K : PySem.W.Frag} {H0 H Φ Φ0 : Hp} {σ : St} {ρ : qaB} {fp : Nat → List Addr} {a : Option Addr} {nm : Str} {fs : List (Str × Fl)} {ds : List (Str × D)} {k : Nat}
end
section
variable {K : PySem.W.Frag} {X : Cx} {e a : Expr} {es : List Expr} {te : TX} {ta : TD} {tl : TDL} {pos npos apos cpos fpos spos p : Pos} {x y nm f m : Str} {C : Addr} {rest : List Stmt} {t : TSM}
end
section
variable {K : PySem.W.Frag} {X : Cx} {tg a : Expr} {pos p : Pos}
end
section
variable {P : Program} {w : World} {K : PySem.W.Frag} {mg : Str → Option Value} {base : Heap} {n m : Nat} {C : Addr} {x : Str} {ps : List Str}
theorem MthM.mono {z:SpM} (M:MthM P w K mg base n C x ps z) (k:n≤m):MthM P w K mg base m C x ps z:=by
  obtain ⟨f,fd,F,r⟩:=M.ex
  exact ⟨f,fd,F.mono k,r⟩
theorem MkM.mono {z:SpM} (M:MkM P w K mg base n C ps z) (k:n≤m):MkM P w K mg base m C ps z:=by
  obtain ⟨f,fd,F,r⟩:=M.ex
  exact ⟨f,fd,F.mono k,r⟩
end
section
variable {K : PySem.W.Frag} {X : Cx} {tg iter elt e a : Expr} {ifs : List Expr} {scope : Scope} {pos py spos apos : Pos} {N' : List Str} {cap : List (Option Nat)} {ti : TDL} {g : TGD} {tc : TDB} {te ta tb : TD} {i : Nat} {y nm m : Str} {C : Addr}
end
section
variable {K : PySem.W.Frag} {X : Cx} {a b : Expr} {pos p p2 pos2 : Pos} {tl : TDL}
end
section
variable {K : PySem.W.Frag} {X : Cx}
end
section
variable {K : PySem.W.Frag} {X : Cx} {e : Expr} {tk : TD} {pos npos : Pos} {x : Str}
end
section
variable {K : PySem.W.Frag} {H0 H H' Φ Φ' Φ0 : Hp} {σ : St} {ρ : qaB} {fp : Nat → List Addr} {p q : Addr} {i k : Nat}
end
section
variable {K : PySem.W.Frag} {X : Cx} {e a b : Expr} {es : List Expr} {te ta tb : TX} {tA : TXA} {pos p1 p2 p3 p4 : Pos}
end
section
variable {P : Program} {w : World} {K : PySem.W.Frag} {mg : Str → Option Value} {base : Heap}
end
section
variable {X : Cx} {CX : CXT} {k : Nat} {C f : Addr} {fd : FuncData} {ps : List Str} {sp : Sp} {m : Str} {apos pos : Pos} {o e : Expr} {es : List Expr} {t : TA} {ta : TE}
end
section
variable {K : PySem.W.Frag} {X : Cx} {e : Expr} {es : List Expr} {pos p apos npos : Pos} {tA : TXA} {C : Addr} {nm m x : Str}
end
section
variable {K : PySem.W.Frag} {X : Cx} {e : Expr}
end
section
variable {K : PySem.W.Frag} {X : Cx} {isa : Str → Str → Bool} {names : List Str}
end
section
variable {K : PySem.W.Frag} {X : Cx} {pos : Pos} {t : TSM} {rest : List Stmt}
end
section
variable {K : PySem.W.Frag} {X : Cx} {e : Expr} {es : List Expr} {pos p apos npos : Pos} {tA : TXA} {C : Addr} {nm m x : Str}
theorem qmJ {n:Nat} {ps:List Str} {z:SpM} (M:MkM X.prog X.w K X.mg X.base n C ps z) (hr:Room (n+1) X.A) (hg:Gl X x) (hm:X.mg x=some (.ref C)) (hC:PySem.W.nsIn K mainGlobals x=some (some (.ref C)))
    (hdb:(x == ("__debug__":Str))=false:=by decide) :
    PX K X (.Call (.Name x p) [] [] pos) (qqN x z qpm):=⟨fun hK=>by
  obtain ⟨f,fd,F,b,mk⟩:=M.ex
  refine (qla (dvs:=[]) (ds:=[]) (E:=E0) (hK ▸ mk) (hK ▸ F:FnOk X.prog X.w X.K X.mg X.base CX0 n f fd ps (qdD K z)) hr hg hm (hK ▸ b) .nil qln hdb).imp fun σ H Q hq0=>?_
  obtain ⟨Φ0,H0,Φ,τ,ρ,κ,R,Rx,S,t,k⟩:=hq0
  have r1:z (.ob none (.obj x [])::([]:List D).map Sm.v) (fun sm os=>match sm,os with | .v .non,[o]=>R (.ob none o) ρ | _,_=>False) (fun _ _=>False):=t
  have rl:RpL K Φ [] []:=.nil
  intro y dy hy hdy hne
  have old:∀ b u,H b=some u→upd (upd H dy (.own y)) y (.ins C dy []) b=some u:=fun b u e=>by
    rw [qak (qap e hy),qak (qap e hdy)]
    exact e
  refine ⟨Φ,_,_,_,_,fun b u e=>old b u (S.g.s b u e),S.E.tb,.o (.obj hC qai .nil (by simp)) (qi2 rl),?_,fun b hb=>?_,r1,fun sm os Φ' H' v F Fs' r gr hr' ho hn hno=>?_⟩
  · rw [List.flatten_cons,qdQ];simp
  · rw [List.flatten_cons,qdQ,List.append_nil,List.mem_singleton] at hb
    rw [hb]
    exact S.g.s.free hy
  · split at r
    · next o =>
      cases hr' with
      | v rv =>
        cases rv
        cases ho with
        | o ho1 ho2 =>
          rename_i F' Fs'
          obtain ⟨_,eF⟩:=qjk (ds:=[]) ho2
          have hfl:(([y]:List Addr)::([]:List D).map fun _=>([]:List Addr)).flatten=[y]:=by rw [List.flatten_cons,qdQ];rfl
          rw [hfl] at gr hno
          have up:∀ b u,H b=some u→qa7 (upd (upd H dy (.own y)) y (.ins C dy [])) [y] b=some u:=fun b u e=>by
            rw [qa5 fun z=>qap e hy (List.mem_singleton.mp z)]
            exact old b u e
          have g':Gr Φ H Φ' H':=⟨gr.f,fun b u e=>gr.h b u (up b u e),gr.s,fun b u h1 h2 k=>gr.o b u (up b u h1) h2 k⟩
          refine ⟨rfl,k _ ρ Φ' H' _ r (S.pushO g' ho1 fun b hb=>?_) gr.f⟩
          obtain ⟨z1,z2⟩:=hno b (by rw [List.nil_append,List.flatten_cons];exact List.mem_append.mpr (.inl hb))
          refine ⟨?_,z2⟩
          by_cases c:b=y
          · rw [c];exact hy
          · rw [qa5 (by simpa using c),qak c] at z1
            by_cases c2:b=dy
            · rw [c2];exact hdy
            · rwa [qak c2] at z1
    · exact r.elim⟩
end
end L2
namespace Tx
open PySem
abbrev L (x:Str):List Nat:=x.cps.toList
theorem qnx {x y:Str} (h:L x=L y):x=y:=Str.ext' (Array.toList_inj.mp h)
theorem qol (x y:Str):L (x++y)=L x++L y:=by unfold L;rw [Str.cps_append,Array.toList_append]
theorem qi1 {c:Nat}:∀ {x y a b:List Nat},c∉x→c∉y→x++c::a=y++c::b→x=y∧a=b
  | [],[],a,b,_,_,h=>by cases h;exact ⟨rfl,rfl⟩
  | [],y::ys,a,b,_,hy,h=>by
    cases h
    exact absurd List.mem_cons_self hy
  | x::xs,[],a,b,hx,_,h=>by
    cases h
    exact absurd List.mem_cons_self hx
  | x::xs,y::ys,a,b,hx,hy,h=>by
    obtain ⟨h1,h2⟩:=List.cons.inj h
    obtain ⟨e1,e2⟩:=qi1 (fun z=>hx (List.mem_cons_of_mem _ z)) (fun z=>hy (List.mem_cons_of_mem _ z)) h2
    exact ⟨by rw [h1,e1],e2⟩
theorem qcH (s x y:Str) (r:List Str):L (Str.join s (x::y::r))=L x++(L s++L (Str.join s (y::r))):=by
  show L (x++s++Str.join s (y::r))=_
  rw [qol,qol,List.append_assoc]
theorem qhj {c:Nat}:∀ {xs ys:List Str},xs≠[]→ys≠[]→(∀ x∈xs,c∉L x)→(∀ y∈ys,c∉L y)→Str.join ⟨#[c]⟩ xs=Str.join ⟨#[c]⟩ ys→xs=ys
  | [],_,h,_,_,_,_=>absurd rfl h
  | _,[],_,h,_,_,_=>absurd rfl h
  | [x],[y],_,_,_,_,h=>by rw [show x=y from h]
  | [x],y::y2::ys,_,_,hx,_,h=>by
    have h2:L x=_:=(congrArg L h).trans (qcH _ _ _ _)
    exact absurd (h2 ▸ List.mem_append_right _ List.mem_cons_self) (hx x List.mem_cons_self)
  | x::x2::xs,[y],_,_,_,hy,h=>by
    have h2:L y=_:=(congrArg L h.symm).trans (qcH _ _ _ _)
    exact absurd (h2 ▸ List.mem_append_right _ List.mem_cons_self) (hy y List.mem_cons_self)
  | x::x2::xs,y::y2::ys,_,_,hx,hy,h=>by
    have h2:=congrArg L h
    rw [qcH,qcH] at h2
    obtain ⟨e1,e2⟩:=qi1 (hx x List.mem_cons_self) (hy y List.mem_cons_self) h2
    have:=qhj (xs:=x2::xs) (ys:=y2::ys) (by simp) (by simp) (fun z hz=>hx z (List.mem_cons_of_mem _ hz)) (fun z hz=>hy z (List.mem_cons_of_mem _ hz)) (qnx e2)
    rw [qnx e1,this]
theorem qeN {c:Nat} {ws:List Str} (h:ws≠[]) (hf:∀ w∈ws,c∉L w):Txt.split (Str.join ⟨#[c]⟩ ws) ⟨#[c]⟩=ws:=by
  refine qhj ?_ h (StrLaws.split_free _ c) hf (StrLaws.join_split _ _)
  intro e
  have:=PyProof.Rows.split_pos (Str.join ⟨#[c]⟩ ws) ⟨#[c]⟩
  rw [e] at this
  cases this
def qhe (c:Nat):Bool:=97≤c && c≤122
def qht (c:Nat):Bool:=48≤c && c≤57
def qb9 (w:Str):Bool:=1≤w.length && w.length≤12 && (L w).all qhe
def qeH (l:List Nat):Bool:=1≤l.length && l.length≤4 && l.all qht
def qj9 (l:List Nat):Option Int:=match l with
  | 45::r=>if qeH r && r.head? != some 48 then some (-(NumText.digitsVal r:Int)) else none
  | _=>if qeH l && (l.head? != some 48 || l == [48]) then some (NumText.digitsVal l:Int) else none
def qcA (w:Str):Option Int:=qj9 (L w)
def nstr (i:Int):Str:=Str.ofString (toString i)
theorem qnu {m:Nat} (h:m<10):(Nat.digitChar m).toNat=48+m:=by
  have:∀ m:Nat,m<10→(Nat.digitChar m).toNat=48+m:=by decide
  exact this m h
def dg (m:Nat):List Nat:=(Nat.toDigits 10 m).map Char.toNat
theorem qb4 {m:Nat} (h:m<10):dg m=[48+m]:=by
  unfold dg
  rw [Nat.toDigits_of_lt_base h]
  show [(Nat.digitChar m).toNat]=_
  rw [qnu h]
theorem qfC {m:Nat} (h:10≤m):dg m=dg (m / 10)++[48+m % 10]:=by
  have hm:m % 10<10:=Nat.mod_lt m (by decide)
  have t:Nat.toDigits 10 (m / 10)++Nat.toDigits 10 (m % 10)=Nat.toDigits 10 (10*(m / 10)+m % 10):=Nat.toDigits_append_toDigits (by decide) (by omega) hm
  rw [Nat.div_add_mod] at t
  rw [← qb4 hm]
  unfold dg
  rw [← t,List.map_append]
theorem qim:∀ m:Nat,(dg m).all qht=true:=by
  intro m
  induction m using Nat.strongRecOn with
  | _ m ih =>
    by_cases h:m<10
    · rw [qb4 h];simp [qht];omega
    · rw [qfC (by omega),List.all_append,ih (m / 10) (by omega)]
      simp [qht];omega
theorem qg5:∀ (k m:Nat),m<10 ^ (k+1)→(dg m).length≤k+1
  | 0,m,h=>by rw [qb4 (by simpa using h)];simp
  | k+1,m,h=>by
    by_cases c:m<10
    · rw [qb4 c];simp
    · rw [qfC (by omega),List.length_append]
      have:=qg5 k (m / 10) (by rw [Nat.pow_succ] at h;omega)
      simp;omega
theorem qlV:∀ m:Nat,1≤(dg m).length:=by
  intro m
  by_cases h:m<10
  · rw [qb4 h];simp
  · rw [qfC (by omega),List.length_append];simp
theorem qiD:∀ m:Nat,0<m→(dg m).head?≠some 48:=by
  intro m
  induction m using Nat.strongRecOn with
  | _ m ih =>
    intro h0
    by_cases h:m<10
    · rw [qb4 h];simp;omega
    · rw [qfC (by omega)]
      have:=ih (m / 10) (by omega) (by omega)
      have hp:=qlV (m / 10)
      cases e:dg (m / 10) with
      | nil=>rw [e] at hp;cases hp
      | cons a r=>rw [e] at this;simpa using this
theorem qlu (m:Nat):NumText.digitsVal (dg m)=m:=PySem.W.KIN.val_back m
theorem qnf (m:Nat):L (nstr (m:Int))=dg m:=PySem.W.KIN.signs_num m
theorem qnn (m:Nat):L (nstr (-((m+1:Nat):Int)))=45::dg (m+1):=by
  have e:toString (-((m+1:Nat):Int))="-"++toString (m+1):=rfl
  unfold nstr L
  rw [e,PyProof.Rows.signs_ofString,String.toList_append,List.map_append]
  show [45]++_=_
  have:=PySem.W.KIN.signs_num (m+1)
  rw [PyProof.Rows.signs_ofString] at this
  have e2:(toString (m+1)).toList.map Char.toNat=dg (m+1):=this
  rw [e2]
  rfl
theorem qev (n:Int):(∃ m:Nat,n=(m:Int))∨∃ m:Nat,n = -((m+1:Nat):Int):=by
  rcases Int.lt_or_le n 0 with h | h
  · exact .inr ⟨(-n - 1).toNat,by omega⟩
  · exact .inl ⟨n.toNat,by omega⟩
theorem qi0 {m:Nat} (h:m<10000):qeH (dg m)=true:=by
  unfold qeH
  rw [qim,decide_eq_true (qlV m),decide_eq_true (qg5 3 m (by omega))]
  rfl
theorem qqg (m:Nat) (r:List Nat):dg m≠45::r:=fun e=>by
  have:=qim m
  rw [e,List.all_cons] at this
  revert this
  simp [qht]
theorem qbV {n:Int} (h:n.natAbs<10000):qcA (nstr n)=some n:=by
  unfold qcA
  rcases qev n with ⟨m,rfl⟩ | ⟨m,rfl⟩
  · rw [qnf]
    have hm:m<10000:=by omega
    have e:qj9 (dg m)=if qeH (dg m) && ((dg m).head? != some 48 || dg m == [48]) then some (NumText.digitsVal (dg m):Int) else none:=by
      unfold qj9
      split
      · next r h=>exact absurd h (qqg m r)
      · rfl
    rw [e,qi0 hm,qlu,if_pos]
    by_cases c:m=0
    · subst c;rw [qb4 (by decide)];rfl
    · have:=qiD m (by omega)
      rw [bne_iff_ne.mpr this]
      rfl
  · rw [qnn]
    have hm:m+1<10000:=by omega
    show (if qeH (dg (m+1)) && (dg (m+1)).head? != some 48 then some (-(NumText.digitsVal (dg (m+1)):Int)) else none)=_
    rw [qi0 hm,qlu,bne_iff_ne.mpr (qiD (m+1) (by omega))]
    exact if_pos rfl
theorem qqj (n:Int):∀ c∈L (nstr n),c=45∨(48≤c∧c≤57):=by
  have hd:∀ m,∀ c∈dg m,48≤c∧c≤57:=fun m c hc=>by
    have:=List.all_eq_true.mp (qim m) c hc
    simpa [qht] using this
  intro c hc
  rcases qev n with ⟨m,rfl⟩ | ⟨m,rfl⟩
  · rw [qnf] at hc
    exact .inr (hd m c hc)
  · rw [qnn] at hc
    rcases List.mem_cons.mp hc with e | hc
    · exact .inl e
    · exact .inr (hd _ c hc)
theorem qbm {n:Int} (h:n.natAbs<10000):(nstr n).length≤5:=by
  have e:(nstr n).length=(L (nstr n)).length:=by unfold L;rw [Array.length_toList];rfl
  rw [e]
  rcases qev n with ⟨m,rfl⟩ | ⟨m,rfl⟩
  · rw [qnf]
    have:=qg5 3 m (by omega)
    omega
  · rw [qnn,List.length_cons]
    have:=qg5 3 (m+1) (by omega)
    omega
theorem qlc {w:Str} {n:Int} (h:qcA w=some n):intText? w=some n∧w.length≤5:=by
  have e:w.length=(L w).length:=by unfold L;rw [Array.length_toList];rfl
  have fg:∀ {l:List Nat},qeH l=true→1≤l.length∧l.length≤4∧NumText.AllDigits l:=fun {l} h=>by
    unfold qeH at h
    simp only [Bool.and_eq_true,decide_eq_true_eq] at h
    refine ⟨h.1.1,h.1.2,fun c hc=>?_⟩
    have:=List.all_eq_true.mp h.2 c hc
    simpa [qht] using this
  unfold qcA qj9 at h
  split at h
  · next r hr =>
    split at h
    · next c =>
      cases h
      obtain ⟨h1,h2,h3⟩:=fg (Bool.and_eq_true_iff.mp c).1
      have hl:w.length≤5:=by rw [e,hr,List.length_cons];omega
      exact ⟨intText_neg hr h3 (by intro z;rw [z] at h1;cases h1) (by omega),hl⟩
    · cases h
  · split at h
    · next c =>
      cases h
      obtain ⟨h1,h2,h3⟩:=fg (Bool.and_eq_true_iff.mp c).1
      exact ⟨intText_digits h3 (by intro z;have z:L w=[]:=z;rw [z] at h1;cases h1) (by omega),by omega⟩
    · cases h
abbrev Tm:=Int × Str
def qfH:List Str→Option (List Tm)
  | [a,b]=>match qcA a with
    | some n=>if qb9 b then some [(n,b)] else none
    | none=>none
  | a::b::p::rest=>match qcA a with
    | some n=>if qb9 b then (if p="+" then (qfH rest).map ((n,b)::·) else none) else none
    | none=>none
  | _=>none
def qhV (ws:List Str):Option (List Tm):=if ws=[("0":Str)] then some [] else if ws.length % 3=2 then qfH ws else none
def qaZ:List Tm→List Str
  | []=>["0"]
  | [(n,x)]=>[nstr n,x]
  | (n,x)::r=>nstr n::x::"+"::qaZ r
def qm0 (t:Tm):Prop:=t.1.natAbs<10000∧qb9 t.2=true
theorem qjD:∀ {ts:List Tm},ts≠[]→(∀ t∈ts,qm0 t)→qfH (qaZ ts)=some ts∧(qaZ ts).length % 3=2∧2≤(qaZ ts).length
  | [],h,_=>absurd rfl h
  | [(n,x)],_,h=>by
    obtain ⟨h1,h2⟩:=h _ List.mem_cons_self
    refine ⟨?_,rfl,Nat.le_refl _⟩
    show (match qcA (nstr n) with | some n=>if qb9 x then some [(n,x)] else none | none=>none)=_
    rw [qbV h1]
    exact if_pos h2
  | (n,x)::(m,y)::r,_,h=>by
    obtain ⟨h1,h2⟩:=h _ List.mem_cons_self
    obtain ⟨e1,e2,e3⟩:=qjD (ts:=(m,y)::r) (by simp) fun t ht=>h t (List.mem_cons_of_mem _ ht)
    refine ⟨?_,?_,?_⟩
    · show (match qcA (nstr n) with | some n=>if qb9 x then (if ("+":Str)="+" then (qfH (qaZ ((m,y)::r))).map ((n,x)::·) else none) else none | none=>none)=_
      rw [qbV h1,e1]
      show (if qb9 x=true then _ else _)=_
      rw [if_pos h2,if_pos rfl]
      rfl
    · show ((qaZ ((m,y)::r)).length+1+1+1) % 3=2
      omega
    · show 2≤(qaZ ((m,y)::r)).length+1+1+1
      omega
theorem qjs {ts:List Tm} (h:∀ t∈ts,qm0 t):qhV (qaZ ts)=some ts:=by
  unfold qhV
  cases ts with
  | nil=>exact if_pos rfl
  | cons t r =>
    obtain ⟨e1,e2,e3⟩:=qjD (ts:=t::r) (by simp) h
    rw [if_neg (fun e=>by rw [e] at e3;simp at e3),if_pos e2,e1]
inductive Frm where
  | unk (x:Str) (l:Int) (m:Option Int)
  | row (ts:List Tm) (b:Int) (t:Bool)
  | worth (ts:List Tm) (s:Int)
def nth (ws:List Str) (i:Nat):Str:=ws.getD i ""
def qlt (ws:List Str):Option Frm :=
  if (ws.length=4∨ws.length=6)∧nth ws 2="from"∧qb9 (nth ws 1)=true then
    match qcA (nth ws 3) with
    | none=>none
    | some l=>if ws.length=4 then some (.unk (nth ws 1) l none) else
      match qcA (nth ws 5) with
      | none=>none
      | some m=>if nth ws 4="to" then some (.unk (nth ws 1) l (some m)) else none
  else none
def qnG (ws:List Str):Option Frm :=
  if 5≤ws.length∧nth ws (ws.length - 3)="at"∧(nth ws (ws.length - 2)="least"∨nth ws (ws.length - 2)="most") then
    match qhV ((ws.drop 1).take (ws.length - 4)),qcA (nth ws (ws.length - 1)) with
    | some ts,some b=>some (.row ts b (nth ws (ws.length - 2) == "most"))
    | _,_=>none
  else none
def qd9 (ws:List Str):Option Frm:=(qhV (ws.drop 1)).map fun ts=>.worth ts (if nth ws 0="most" then 1 else -1)
def qjI (ws:List Str):Option Frm :=
  if nth ws 0="unknown" then qlt ws else if nth ws 0="row" then qnG ws else if nth ws 0="most"∨nth ws 0="least" then qd9 ws else none
def qiW (x:Str):Option Frm:=qjI (Txt.split x " ")
def atW (t:Bool) (b:Int):List Str:=[("at":Str),(if t then ("most":Str) else ("least":Str)),nstr b]
def qeA:Frm→List Str
  | .unk x l none=>["unknown",x,"from",nstr l]
  | .unk x l (some m)=>["unknown",x,"from",nstr l,"to",nstr m]
  | .row ts b t=>"row"::(qaZ ts++atW t b)
  | .worth ts s=>(if s=1 then ("most":Str) else ("least":Str))::qaZ ts
def qex:Frm→Prop
  | .unk x l m=>qb9 x=true∧l.natAbs<10000∧∀ k,m=some k→k.natAbs<10000
  | .row ts b _=>(∀ t∈ts,qm0 t)∧b.natAbs<10000
  | .worth ts s=>(∀ t∈ts,qm0 t)∧(s=1∨s = -1)
theorem qld {f:Frm} (h:qex f):qjI (qeA f)=some f:=by
  cases f with
  | unk x l m =>
    obtain ⟨h1,h2,h3⟩:=h
    cases m with
    | none =>
      show qlt ["unknown",x,"from",nstr l]=_
      unfold qlt
      rw [if_pos ⟨.inl rfl,rfl,h1⟩]
      show (match qcA (nstr l) with | none=>none | some l=>some (Frm.unk x l none))=_
      rw [qbV h2]
    | some m =>
      show qlt ["unknown",x,"from",nstr l,"to",nstr m]=_
      unfold qlt
      rw [if_pos ⟨.inr rfl,rfl,h1⟩]
      show (match qcA (nstr l) with | none=>none | some l=>match qcA (nstr m) with | none=>none | some m=>some (Frm.unk x l (some m)))=_
      rw [qbV h2,qbV (h3 m rfl)]
  | row ts b t =>
    obtain ⟨h1,h2⟩:=h
    show qnG ("row"::(qaZ ts++atW t b))=_
    have hp:1≤(qaZ ts).length:=by
      cases ts with
      | nil=>exact Nat.le_refl _
      | cons t r=>have:=(qjD (ts:=t::r) (by simp) h1).2.2;omega
    have hl:(("row":Str)::(qaZ ts++atW t b)).length=(qaZ ts).length+4:=by simp [atW]
    have at_:∀ k,k<3→nth ("row"::(qaZ ts++atW t b)) ((qaZ ts).length+1+k)=nth (atW t b) k:=fun k hk=>by
      unfold nth
      rw [show (qaZ ts).length+1+k=((qaZ ts).length+k)+1 by omega]
      show (qaZ ts++atW t b).getD ((qaZ ts).length+k) ""=_
      rw [List.getD_eq_getElem?_getD,List.getElem?_append_right (by omega),Nat.add_sub_cancel_left]
      rfl
    unfold qnG
    rw [hl]
    have a0:=at_ 0 (by omega)
    have a1:=at_ 1 (by omega)
    have a2:=at_ 2 (by omega)
    rw [show (qaZ ts).length+4 - 3=(qaZ ts).length+1+0 by omega,show (qaZ ts).length+4 - 2=(qaZ ts).length+1+1 by omega,show (qaZ ts).length+4 - 1=(qaZ ts).length+1+2 by omega,show (qaZ ts).length+4 - 4=(qaZ ts).length by omega,a0,a1,a2]
    have hd:((("row":Str)::(qaZ ts++atW t b)).drop 1).take (qaZ ts).length=qaZ ts:=by
      show (qaZ ts++_).take (qaZ ts).length=_
      rw [List.take_append_of_le_length (Nat.le_refl _),List.take_length]
    rw [hd,qjs h1]
    show (if 5≤(qaZ ts).length+4∧("at":Str)="at"∧((if t then ("most":Str) else "least")="least"∨(if t then ("most":Str) else "least")="most") then (match some ts,qcA (nstr b) with | some ts,some b=>some (Frm.row ts b ((if t then ("most":Str) else "least") == "most")) | _,_=>none) else none)=_
    rw [qbV h2]
    cases t with
    | true=>rw [if_pos ⟨by omega,rfl,.inr rfl⟩];rfl
    | false=>rw [if_pos ⟨by omega,rfl,.inl rfl⟩];rfl
  | worth ts s =>
    obtain ⟨h1,h2⟩:=h
    rcases h2 with rfl | rfl
    · show qd9 ("most"::qaZ ts)=_
      unfold qd9
      show (qhV (qaZ ts)).map _=_
      rw [qjs h1]
      rfl
    · show qd9 ("least"::qaZ ts)=_
      unfold qd9
      show (qhV (qaZ ts)).map _=_
      rw [qjs h1]
      rfl
def Pln (w:Str):Prop:=∀ c∈L w,33≤c∧c≤126
theorem qdm (n:Int):Pln (nstr n):=fun c hc=>by have:=qqj n c hc;omega
theorem qhv {w:Str} (h:qb9 w=true):Pln w:=fun c hc=>by
  unfold qb9 at h
  simp only [Bool.and_eq_true] at h
  have:=List.all_eq_true.mp h.2 c hc
  simp [qhe] at this
  omega
theorem qjM {w:Str} (h:(L w).all (fun c=>33≤c && c≤126)=true):Pln w:=fun c hc=>by
  have:=List.all_eq_true.mp h c hc
  simpa using this
theorem qgA:∀ {ts:List Tm},(∀ t∈ts,qm0 t)→∀ w∈qaZ ts,Pln w
  | [],_,w,hw=>by rw [List.mem_singleton.mp hw];exact qjM (by decide +kernel)
  | [(n,x)],h,w,hw=>by
    simp only [qaZ,List.mem_cons,List.not_mem_nil,or_false] at hw
    rcases hw with rfl | rfl
    · exact qdm n
    · exact qhv (h _ List.mem_cons_self).2
  | (n,x)::(m,y)::r,h,w,hw=>by
    rcases List.mem_cons.mp (show w∈nstr n::x::("+":Str)::qaZ ((m,y)::r) from hw) with rfl | hw
    · exact qdm n
    rcases List.mem_cons.mp hw with rfl | hw
    · exact qhv (h _ List.mem_cons_self).2
    rcases List.mem_cons.mp hw with rfl | hw
    · exact qjM (by decide +kernel)
    · exact qgA (fun t ht=>h t (List.mem_cons_of_mem _ ht)) w hw
theorem qir {f:Frm} (h:qex f):∀ w∈qeA f,Pln w:=by
  intro w hw
  have k:∀ z∈(["unknown","from","to","row","at","most","least"]:List Str),Pln z:=fun z hz=>by
    have:∀ z∈(["unknown","from","to","row","at","most","least"]:List Str),(L z).all (fun c=>33≤c && c≤126)=true:=by decide +kernel
    exact qjM (this z hz)
  cases f with
  | unk x l m =>
    cases m with
    | none =>
      simp only [qeA,List.mem_cons,List.not_mem_nil,or_false] at hw
      rcases hw with rfl | rfl | rfl | rfl
      · exact k _ (by simp)
      · exact qhv h.1
      · exact k _ (by simp)
      · exact qdm _
    | some m =>
      simp only [qeA,List.mem_cons,List.not_mem_nil,or_false] at hw
      rcases hw with rfl | rfl | rfl | rfl | rfl | rfl
      · exact k _ (by simp)
      · exact qhv h.1
      · exact k _ (by simp)
      · exact qdm _
      · exact k _ (by simp)
      · exact qdm _
  | row ts b t =>
    rcases List.mem_cons.mp (show w∈("row":Str)::(qaZ ts++atW t b) from hw) with rfl | hw
    · exact k _ (by simp)
    rcases List.mem_append.mp hw with hw | hw
    · exact qgA h.1 w hw
    · simp only [atW,List.mem_cons,List.not_mem_nil,or_false] at hw
      rcases hw with rfl | rfl | rfl
      · exact k _ (by simp)
      · cases t <;> exact k _ (by simp)
      · exact qdm _
  | worth ts s =>
    rcases List.mem_cons.mp (show w∈(if s=1 then ("most":Str) else ("least":Str))::qaZ ts from hw) with rfl | hw
    · split <;> exact k _ (by simp)
    · exact qgA h.1 w hw
def qbK (f:Frm):Str:=Str.join " " (qeA f)
theorem qmw {f:Frm} (h:qex f):qiW (qbK f)=some f:=by
  unfold qiW qbK
  have hb:(" ":Str)=⟨#[32]⟩:=by decide
  have hne:qeA f≠[]:=by
    cases f with
    | unk x l m=>cases m <;> simp [qeA]
    | row ts b t=>simp [qeA]
    | worth ts s=>simp [qeA]
  rw [hb,qeN hne fun w hw hc=>by have:=qir h w hw 32 hc;omega]
  exact qld h
theorem qha {c:Nat} {s:Str}:∀ {ws:List Str},c∈L (Str.join s ws)→c∈L s∨∃ w∈ws,c∈L w
  | [],h=>by cases h
  | [x],h=>.inr ⟨x,List.mem_cons_self,h⟩
  | x::y::r,h=>by
    rw [qcH] at h
    rcases List.mem_append.mp h with h | h
    · exact .inr ⟨x,List.mem_cons_self,h⟩
    · rcases List.mem_append.mp h with h | h
      · exact .inl h
      · rcases qha h with h | ⟨w,hw,h⟩
        · exact .inl h
        · exact .inr ⟨w,List.mem_cons_of_mem _ hw,h⟩
theorem qeP {f:Frm} (h:qex f):∀ c∈L (qbK f),32≤c∧c≤126:=fun c hc=>by
  rcases qha hc with hc | ⟨w,hw,hc⟩
  · have hb:L (" ":Str)=[32]:=by decide
    rw [hb] at hc
    have:=List.mem_singleton.mp hc
    omega
  · have:=qir h w hw c hc
    omega
theorem qnz {fs:List Frm} (hne:fs≠[]) (h:∀ f∈fs,qex f):Txt.split (Str.join "\n" (fs.map qbK)) "\n"=fs.map qbK:=by
  have hb:("\n":Str)=⟨#[10]⟩:=by decide
  rw [hb]
  refine qeN (by simpa using hne) fun w hw hc=>?_
  obtain ⟨f,hf,rfl⟩:=List.mem_map.mp hw
  have:=qeP (h f hf) 10 hc
  omega
end Tx
namespace L2
open PySem PySem.Spec PyProof.Rows
theorem qf8:∀ l:List (Str × Tok),Vals ((l.map (·.1)).map V.str) (strValues l)
  | []=>.nil
  | (x,t)::l=>.cons ⟨t,rfl⟩ (qf8 l)
theorem qjZ (K:PySem.W.Frag) (Φ:Hp):∀ zs:List Str,RpL K Φ (zs.map D.str) (zs.map V.str)
  | []=>.nil
  | z::zs=>.cons (.str z) (qjZ K Φ zs)
def qnM:V→List V→Hp→VK→Prop:=fun x vs H Q=>∃ a b:Str,x=.str a∧vs=[.str b]∧(b.length == 0)=false∧a.length+2≤sizeLine∧∀ p,H p=none→Q (.ref p) (upd H p (.lst ((Txt.split a b).map V.str)))
section
variable {X : Cx}
theorem qlr:MtR X "str.split" qnM:=by
  intro pins s σ H x vs v us Q I rx rv h
  obtain ⟨a,b,rfl,rfl,hy,hsz,q⟩:=h
  obtain ⟨t,rfl⟩:=rx
  obtain ⟨u,rfl,ru⟩:=rv.one
  obtain ⟨tu,rfl⟩:=ru
  have fin:∀ (l:List (Str × Tok)) (k:Nat),l.map (·.1)=Txt.split a b→EP X pins σ Q (.ref s.heap.objs.size) { s with heap:=s.heap.push { cls:=.type "list",data:=.seq (strValues l).toArray },toks:=k }:=fun l k e=>by
    have hf:H s.heap.objs.size=none:=I.hok.fresh (Nat.le_refl _)
    have hl:((Txt.split a b).map V.str).length≤sizeLine:=by
      rw [List.length_map]
      exact Nat.le_trans (split_le a b) hsz
    refine ⟨.ref s.heap.objs.size,upd H s.heap.objs.size (.lst ((Txt.split a b).map V.str)),I.laid (t':=k) (fun b u e=>Heap.get?_push_of_some _ e) (Nat.le_refl _) ?_,rfl,q _ hf⟩
    exact ⟨hl,strValues l,0,by rw [← e];exact qf8 l,Heap.get?_push_size _ rfl⟩
  have z1:a.length≤sizeLine:=by omega
  have z2:(Builtin.Str.partsBetween a (Builtin.Str.occurrences a b 0 a.length (a.length+1)) b.length).length≤sizeLine:=by
    rw [length_partsBetween]
    have:=StrLaws.occ_length_le a b 0 a.length (a.length+1)
    omega
  cases h1:(decide (a.length<b.length) || decide (Builtin.Str.strKind a<Builtin.Str.strKind b))
  · cases hf:(Builtin.Str.occurrences a b 0 a.length (a.length+1)).isEmpty
    · refine call_meets F.slot_str_split (typeIs_str _ _ _) F.entry_str_split (F.args_str_split_2 _ _) (meets_str_split_sep a b t tu h1 hy hf z1 z2) ?_
      show EP X pins σ Q _ { s with toks:=_,heap:=s.heap.push { cls:=.type "list",data:=.seq (strsFrom s.toks (Builtin.Str.partsBetween a (Builtin.Str.occurrences a b 0 a.length (a.length+1)) b.length)).toArray } }
      rw [strsFrom_eq]
      exact fin (numbered s.toks _) _ ((numbered_texts _ _).trans ((if_neg (ne_true_of_eq_false h1)).trans (if_neg (ne_true_of_eq_false hf))).symm)
    · exact call_meets F.slot_str_split (typeIs_str _ _ _) F.entry_str_split (F.args_str_split_2 _ _) (meets_str_split_not_found a b t tu h1 hy hf)
        (fin [(a,t)] s.toks ((if_neg (ne_true_of_eq_false h1)).trans (if_pos hf)).symm)
  · exact call_meets F.slot_str_split (typeIs_str _ _ _) F.entry_str_split (F.args_str_split_2 _ _) (meets_str_split_cannot_occur a b t tu h1)
      (fin [(a,t)] s.toks (if_pos h1).symm)
def ql2:V→List V→Hp→VK→Prop:=fun x vs H Q=>∃ a b:Str,x=.str a∧vs=[.str b]∧Q (.bl (Txt.startswith a b)) H
theorem qiK:MtR X "str.startswith" ql2:=by
  intro pins s σ H x vs v us Q I rx rv h
  obtain ⟨a,b,rfl,rfl,q⟩:=h
  obtain ⟨t,rfl⟩:=rx
  obtain ⟨u,rfl,ru⟩:=rv.one
  obtain ⟨tu,rfl⟩:=ru
  exact SC.startswith ⟨.bl _,H,I,rfl,q⟩
def qnU (K:PySem.W.Frag):V→List V→Hp→VK→Prop:=fun x vs H Q=>∃ (sep:Str) (p:Addr) (zs:List Str),x=.str sep∧vs=[.ref p]∧SqL K H p (zs.map V.str)∧JoinOk sep zs=true∧Q (.str (Txt.join sep zs)) H
theorem qkC:MtR X "str.join" (qnU X.K):=by
  intro pins s σ H x vs v us Q I rx rv h
  obtain ⟨sep,p,zs,rfl,rfl,hq,hok,q⟩:=h
  obtain ⟨t,rfl⟩:=rx
  obtain ⟨u,rfl,ru⟩:=rv.one
  cases ru
  obtain ⟨its,r,pl,hz⟩:=I.list hq
  obtain ⟨l,rfl,e⟩:=qf9 r
  exact SC.join pl.isList e hok fun t' k=>⟨.str _,H,I.tok k,⟨t',rfl⟩,q⟩
end
section
variable {K : PySem.W.Frag} {X : Cx} {a b : Expr} {ta tb : TD} {apos cpos pos : Pos} {tg e : Expr} {t : TD}
def qot (ta tb:TD):TDL:=fun ρ R=>ta ρ fun x=>∃ s,x=.str s∧tb ρ fun y=>∃ c,y=.str c∧(c.length == 0)=false∧s.length+2≤sizeLine∧R ((Txt.split s c).map D.str)
theorem qjo (ha:PQ K X a ta) (hb:PD K X b tb) (hfew:((backTo cpos (starEach [b] X.env)).all (fun x=>!x.1) && (backToKw cpos (keywordEach [] X.env)).all (fun x=>x.1.isSome) && decide (([b]:List Expr).length+([]:List Keyword).length+(if ([]:List Keyword).isEmpty then 0 else 1)<30))=true)
    (hse:starEach [b] X.env=(false,eval b X.env)::starEach [] X.env) (hbase:attributeBase a "split" X.env (eval a X.env)=eval a X.env:=by rfl) (hline:(apos.endLine == cpos.line)=true:=by rfl):PF K X (.Call (.Attribute a "split" apos) [b] [] cpos) (qot ta tb) :=
  ⟨fun hK=>(qgO PySem.F.plainAttrs_str PySem.F.slot_str_split PySem.F.type_str_split qlr (ha.pe hK) (qa8 (hb.pe hK) pa_nil hse) hbase hfew hline hse qac).imp fun σ H Q hq0=>by
    obtain ⟨H0,Φ,ρ,R,E,t,k⟩:=hq0
    refine ⟨H0,Φ,ρ,_,E,t,fun dx Φ1 H1 x t1 g1 rx=>?_⟩
    obtain ⟨s,rfl,t1⟩:=t1
    cases rx.str
    refine ⟨rfl,H0,Φ1,ρ,_,E.gr g1,t1,fun dy Φ2 H2 y t2 g2 ry=>?_⟩
    obtain ⟨c,rfl,hc,hs,q⟩:=t2
    cases ry
    exact ⟨s,c,rfl,rfl,hc,hs,fun p hp=>k _ _ _ p _ q ((g1.trans g2).trans (.fresh g2.s hp _)) ((g1.trans g2).h.free hp) (g2.s.free hp) qai (qjZ K _ _)⟩⟩
def qni (ta tb:TD):TD:=fun ρ R=>ta ρ fun x=>∃ s,x=.str s∧tb ρ fun y=>∃ c,y=.str c∧R (.bl (Txt.startswith s c))
theorem qlf (ha:PQ K X a ta) (hb:PD K X b tb) (hfew:((backTo cpos (starEach [b] X.env)).all (fun x=>!x.1) && (backToKw cpos (keywordEach [] X.env)).all (fun x=>x.1.isSome) && decide (([b]:List Expr).length+([]:List Keyword).length+(if ([]:List Keyword).isEmpty then 0 else 1)<30))=true)
    (hse:starEach [b] X.env=(false,eval b X.env)::starEach [] X.env) (hbase:attributeBase a "startswith" X.env (eval a X.env)=eval a X.env:=by rfl) (hline:(apos.endLine == cpos.line)=true:=by rfl):PD K X (.Call (.Attribute a "startswith" apos) [b] [] cpos) (qni ta tb) :=
  ⟨fun hK=>(qgO PySem.F.plainAttrs_str PySem.F.slot_str_startswith PySem.F.type_str_startswith qiK (ha.pe hK) (qa8 (hb.pe hK) pa_nil hse) hbase hfew hline hse qac).imp fun σ H Q hq0=>by
    obtain ⟨H0,Φ,ρ,R,E,t,k⟩:=hq0
    refine ⟨H0,Φ,ρ,_,E,t,fun dx Φ1 H1 x t1 g1 rx=>?_⟩
    obtain ⟨s,rfl,t1⟩:=t1
    cases rx.str
    refine ⟨rfl,H0,Φ1,ρ,_,E.gr g1,t1,fun dy Φ2 H2 y t2 g2 ry=>?_⟩
    obtain ⟨c,rfl,q⟩:=t2
    cases ry
    exact ⟨s,c,rfl,rfl,k _ _ _ _ q (g1.trans g2) (.bl _)⟩⟩
def qnP (ta tb:TD):TD:=fun ρ R=>ta ρ fun x=>∃ sep,x=.str sep∧tb ρ fun y=>∃ zs:List Str,y=.lst (zs.map D.str)∧JoinOk sep zs=true∧R (.str (Txt.join sep zs))
theorem qiG (ha:PQ K X a ta) (hb:PD K X b tb) (hfew:((backTo cpos (starEach [b] X.env)).all (fun x=>!x.1) && (backToKw cpos (keywordEach [] X.env)).all (fun x=>x.1.isSome) && decide (([b]:List Expr).length+([]:List Keyword).length+(if ([]:List Keyword).isEmpty then 0 else 1)<30))=true)
    (hse:starEach [b] X.env=(false,eval b X.env)::starEach [] X.env) (hbase:attributeBase a "join" X.env (eval a X.env)=eval a X.env:=by rfl) (hline:(apos.endLine == cpos.line)=true:=by rfl):PD K X (.Call (.Attribute a "join" apos) [b] [] cpos) (qnP ta tb) :=
  ⟨fun hK=>(qgO PySem.F.plainAttrs_str PySem.F.slot_str_join PySem.F.type_str_join qkC (ha.pe hK) (qa8 (hb.pe hK) pa_nil hse) hbase hfew hline hse qac).imp fun σ H Q hq0=>by
    obtain ⟨H0,Φ,ρ,R,E,t,k⟩:=hq0
    refine ⟨H0,Φ,ρ,_,E,t,fun dx Φ1 H1 x t1 g1 rx=>?_⟩
    obtain ⟨sep,rfl,t1⟩:=t1
    cases rx.str
    refine ⟨rfl,H0,Φ1,ρ,_,E.gr g1,t1,fun dy Φ2 H2 y t2 g2 ry=>?_⟩
    obtain ⟨zs,rfl,hok,q⟩:=t2
    obtain ⟨p,vs,rfl,hp,rl⟩:=(RpQ.lst g2.s (.inl ry))
    cases qll rl
    exact ⟨sep,p,zs,rfl,rfl,SqL.of hp,hok,k _ Φ2 H2 _ q (g1.trans g2) (.str _)⟩⟩
def qsu (neg:Bool):RD2:=fun dx dy R=>∃ (c:Nat) (y:Str),dx=.str ⟨#[c]⟩∧dy=.str y∧R (.bl (neg != decide (c∈y.cps.toList)))
theorem qpF:OpD K X (compareOp .In) (qsu false):=⟨fun hK pins s σ H x y u v Q I rx ry hq0=>by
  obtain ⟨Φ,dx,dy,R,sm,hx,hy,⟨c,z,rfl,rfl,h⟩,kk⟩:=hq0
  cases hx.str
  cases hy.str
  obtain ⟨t1,rfl⟩:=rx
  obtain ⟨t2,rfl⟩:=ry
  refine P.in_str ⟨.bl _,H,I,rfl,?_⟩
  rw [StrLaws.found_one]
  exact kk _ Φ H _ (by rw [Bool.false_bne] at h;exact h) (.refl sm) (.bl _)⟩
def Its (x:Str):It:=⟨fun i _=>i<x.cps.size,fun i H v H'=>H'=H∧∃ c,x.cps[i]?=some c∧v=.str ⟨#[c]⟩,fun i _=>x.cps.size≤i⟩
theorem qh2 {P:Program} {w:World} {K:PySem.W.Frag} {tg:Expr} (x:Str) (t:Tok) (it:Addr):Turn P w K tg (Its x) [it] it (fun i h=>h.IsStrIter it "str_ascii_iterator" x t i) where
  mem:=by simp
  obj:=fun i h st b hb=>by
    have e:b=it:=by simpa using hb
    subst e
    obtain ⟨o,e,c,d⟩:=st
    exact ⟨o,e,fun v z=>by rw [d] at z;cases z⟩
  keep:=fun i h h' st k=>let ⟨o,ho,r⟩:=st;⟨o,k it (by simp) o ho,r⟩
  item:=by
    intro X hP hw hK hc i pins s σ H E I hf st hg
    subst hP hw hK
    have hg:i<x.cps.size:=hg
    obtain ⟨f0,f1,f2,f3,f4,f5⟩:=hf it (by simp)
    have hx:x.cps[i]?=some x.cps[i]:=by simp [hg]
    refine wpAny_pyNext_ascii_item st hx fun h' st' sb=>?_
    have I1:Inv X pins σ H { s with heap:=h',toks:=s.toks+1 }:=I.turned (fun b o hb e=>(sb.2 b hb).trans e) f0 f1 f3 f4 f5
    obtain ⟨o,e,c,d⟩:=id st'
    exact ⟨_,rfl,qju (s:={ s with heap:=h',toks:=s.toks+1 }) e c d (by decide) ⟨.str ⟨#[x.cps[i]]⟩,H,I1,⟨_,rfl⟩,⟨rfl,_,hx,rfl⟩,st',fun b hb=>(hf b hb).1⟩⟩
  done:=by
    intro X hP hw hK hc i pins s σ H E I hf st hg
    subst hP hw hK
    have hg:x.cps.size≤i:=hg
    obtain ⟨f0,f1,f2,f3,f4,f5⟩:=hf it (by simp)
    exact wpAny_pyNext_ascii_end (I.ok.hd hc) st (by simp [hg]) fun h' eb=>⟨rfl,I.turned (t':=s.toks) (fun b o hb e=>eb b o hb e) f0 f1 f3 f4 f5⟩
  self:=fun _ _ _ _ _ st h=>wpAny_pyIter_striter_ascii st h
def qq7 (tl:TE):TI:=fun σ H R=>tl σ H fun x H1=>∃ z,x=.str z∧z.cps.all (·<128)=true∧R (Its z) H1
theorem qox {l:Expr} {tl:TE} (hl:PE X l tl):PI X tg l (qq7 tl):=by
  intro pins s σ H R I h
  refine thn (hl pins s σ H _ I h) fun v s1 hq0=>?_
  obtain ⟨x,H1,I1,r1,z,rfl,ha,q⟩:=hq0
  obtain ⟨t,rfl⟩:=r1
  refine wpAny_pyIter_ascii ha ?_
  refine ⟨s1.heap.objs.size,[s1.heap.objs.size],_,_,H1,rfl,I1.kept (t':=s1.toks) fun b o e=>Heap.get?_push_of_some _ e,qh2 z t _,⟨_,Heap.get?_push_size _ rfl,rfl,rfl⟩,fun b hb=>?_,q⟩
  have e:b=s1.heap.objs.size:=by simpa using hb
  subst e
  exact I1.fpOk (Nat.le_refl _) (I1.hok.fresh (Nat.le_refl _))
def sgn (c:Nat):Str:=⟨#[c]⟩
def qlW (x:Str):List D:=x.cps.toList.map fun c=>D.str (sgn c)
theorem qgF (Φ:Hp) (x:Str):SteadyD K (Its x) Φ (qlW x):=by
  have hl:(qlW x).length=x.cps.size:=by unfold qlW;rw [List.length_map,Array.length_toList]
  refine ⟨fun i H s hi=>(by rw [hl] at hi;exact hi),fun i Φ2 H v H2 d s2 s hd y=>?_,fun H s=>Nat.le_of_eq hl.symm⟩
  obtain ⟨rfl,c,hc,rfl⟩:=y
  unfold qlW at hd
  rw [List.getElem?_map,Array.getElem?_toList,hc] at hd
  cases hd
  exact ⟨_,.refl s,.str _⟩
def qr8 (t:TD):TDL:=fun ρ R=>t ρ fun d=>∃ x,d=.str x∧x.cps.all (·<128)=true∧R (qlW x)
theorem qna (h:PD K X e t):PID K X tg e (qr8 t):=⟨fun hK=>(qox (h.pe hK)).imp fun σ H R' hq0=>by
  obtain ⟨H0,Φ,ρ,R,E,t,k⟩:=hq0
  refine ⟨H0,Φ,ρ,_,E,t,fun d Φ1 H1 v r g rv=>?_⟩
  obtain ⟨x,rfl,ha,r⟩:=r
  cases rv
  exact ⟨x,rfl,ha,k _ Φ1 H1 _ r g (qgF Φ1 x)⟩⟩
def qp2:SpD:=fun ds R=>∃ i:Int,ds=[.int i]∧i.natAbs<2 ^ 1900∧R (.str (Tx.nstr i))
theorem qlw {i:Int} (h:i.natAbs<2 ^ 1900):i.natAbs.log2<1920:=by
  by_cases c:i.natAbs=0
  · rw [c];decide
  · exact Nat.lt_of_lt_of_le ((Nat.log2_lt c).mpr h) (by decide)
def qqZ:SpD:=fun ds R=>∃ (x:Str) (n:Int),ds=[.str x]∧x.length≤640∧intText? x=some n∧R (.int n)
theorem qpy:CallD K X (.type "int") qqZ:=⟨fun hK pins s σ H xs us Q I rr hq0=>by
  obtain ⟨Φ,ds,R,sm,hl,⟨x,n,rfl,hz,hn,h⟩,k⟩:=hq0
  obtain ⟨v,rfl,r⟩:=qcP hl
  cases r.str
  obtain ⟨u,rfl,ru⟩:=rr.one
  obtain ⟨t,rfl⟩:=ru
  exact PySem.W.KIN.call_text hn hz ⟨.int n,H,I.tok _,⟨_,rfl⟩,k _ Φ H _ h (.refl sm) (.int n)⟩⟩
theorem qlN:CallD K X (.type "str") qp2:=⟨fun hK pins s σ H xs us Q I rr hq0=>by
  obtain ⟨Φ,ds,R,sm,hl,⟨i,rfl,hz,h⟩,k⟩:=hq0
  obtain ⟨v,rfl,r⟩:=qcP hl
  cases r.int
  obtain ⟨u,rfl,ru⟩:=rr.one
  obtain ⟨t,rfl⟩:=ru
  exact P.str_of_int (qlw hz) ⟨.str _,H,I.tok _,⟨_,rfl⟩,k _ Φ H _ h (.refl sm) (.str _)⟩⟩
theorem qi3 {x y:Str} {tk:Tok} (hg:Gl X x) (hm:X.mg x=some (.str y tk)) (hd:(x == ("__debug__":Str))=false:=by decide):PD K X (.Name x pos) (qo7 (.str y)) :=
  ⟨fun hK=>(qjv (v:=.str y) hg hm ⟨tk,rfl⟩ hd).imp fun σ H Q hq0=>by
    obtain ⟨H0,Φ,ρ,R,E,t,k⟩:=hq0
    exact k _ Φ H _ t (.refl E.fz) (.str y)⟩
end
abbrev TDS:=Rho→(Str→Prop)→Prop
structure PJ (K:PySem.W.Frag) (X:Cx) (e:Expr) (t:TDS):Prop where
  pj:X.K=K→∀ (pins:List (Addr × Obj)) (s:Shared) (σ:St) (H0 Φ H:Hp) (ρ:Rho) (R:Str→Prop) (Q:Str→Hp→Prop),Inv X pins σ H s→EnvD K H0 Φ H σ ρ→t ρ R→(∀ y Φ' H',R y→Gr Φ H Φ' H'→Q y H') →
    wpAny (model X.prog X.w) X.A (eval e X.env) (fun v s1=>∃ y tk Φ' H',v=.str y tk∧Inv X pins σ H' s1∧Gr Φ H Φ' H'∧R y∧Q y H') X.xe s
structure PJs (K:PySem.W.Frag) (X:Cx) (es:List Expr) (t:TDS):Prop where
  pj:X.K=K→∀ (pins:List (Addr × Obj)) (s:Shared) (σ:St) (H0 Φ H:Hp) (ρ:Rho) (R:Str→Prop) (Q:VK) (out:Str),Inv X pins σ H s→EnvD K H0 Φ H σ ρ→t ρ R→out.length+1000000*es.length≤sizeLine→(∀ y Φ' H',R y→Gr Φ H Φ' H'→Q (.str (out++y)) H') →
    wpAny (model X.prog X.w) X.A (joinParts out (evalEach es X.env)) (EP X pins σ Q) X.xe s
section
variable {K : PySem.W.Frag} {X : Cx} {e e2 : Expr} {es : List Expr} {pos : Pos} {t u : TDS} {ta : TD}
def jC (x:Str):TDS:=fun _ R=>R x
theorem j_c {x:Str} {j}:PJ K X (.Constant (.str x) j pos) (jC x):=⟨fun hK pins s σ H0 Φ H ρ R Q I E h k=>by
  refine wpAny_mono (qlz pins s σ H (fun v H'=>v=.str x∧H'=H) I ⟨rfl,rfl⟩) (fun v s1 hq=>?_) fun _ _ h=>h
  obtain ⟨v',H1,I1,rv,rfl,rfl⟩:=hq
  obtain ⟨tk,rfl⟩:=rv
  exact ⟨x,tk,Φ,H1,rfl,I1,.refl E.fz,h,k _ Φ H1 h (.refl E.fz)⟩⟩
def jV (t:TD):TDS:=fun ρ R=>t ρ fun d=>match d with | .str x=>x.length≤1000000∧R x | .int i=>i.natAbs<2 ^ 1900∧R (Tx.nstr i) | _=>False
theorem j_v (h:PD K X e ta):PJ K X (.FormattedValue e (-1) none pos) (jV ta):=⟨fun hK pins s σ H0 Φ H ρ R Q I E ht k=>by
  refine FormattedValue_plain (thn (h.pe hK pins s σ H (fun v H'=>∃ d Φ',Gr Φ H Φ' H'∧Rp K Φ' d v∧(match d with | .str x=>x.length≤1000000∧R x | .int i=>i.natAbs<2 ^ 1900∧R (Tx.nstr i) | _=>False)) I ⟨H0,Φ,ρ,_,E,ht,fun d Φ' H' v r g rv=>⟨d,Φ',g,rv,r⟩⟩) fun v s1 hq0=>?_)
  obtain ⟨v',H1,I1,rv,d,Φ1,g,rd,r⟩:=hq0
  cases d with
  | str x =>
    cases rd
    obtain ⟨tk,rfl⟩:=rv
    exact formatField_str (fun t' tk'=>⟨x,t',Φ1,H1,rfl,I1.tok _,g,r.2,k _ Φ1 H1 r.2 g⟩) (by have:=r.1;have:=sizeLine_eq;omega)
  | int i =>
    cases rd
    obtain ⟨tk,rfl⟩:=rv
    exact formatField_int_small (qlw r.1) ⟨Tx.nstr i,_,Φ1,H1,rfl,I1.tok _,g,r.2,k _ Φ1 H1 r.2 g⟩
  | _=>exact r.elim⟩
def qsb (t:TDS):TDS:=fun ρ R=>t ρ fun y=>y.length≤1000000∧R y
def qpW (t u:TDS):TDS:=fun ρ R=>t ρ fun y=>y.length≤1000000∧u ρ fun z=>R (y++z)
theorem qa4 (a b:Str):(a++b).length=a.length+b.length:=by
  show (a.cps++b.cps).size=a.cps.size+b.cps.size
  rw [Array.size_append]
theorem qlG (h:PJ K X e t):PJs K X [e] (qsb t):=⟨fun hK pins s σ H0 Φ H ρ R Q out I E ht hs k=>by
  refine joinParts_cons (wpAny_mono (h.pj hK pins s σ H0 Φ H ρ _ (fun y H'=>y.length≤1000000∧Q (.str (out++y)) H') I E ht fun y Φ' H' r g=>⟨r.1,k y Φ' H' r.2 g⟩) (fun v s1 hq=>?_) fun _ _ h=>h)
  obtain ⟨y,tk,Φ',H',rfl,I1,g,r,hy,q⟩:=hq
  have hl:(out++y).length≤sizeLine:=by rw [qa4];simp only [List.length_cons,List.length_nil] at hs;omega
  exact ⟨hl,joinParts_nil ⟨.str _,H',I1.tok _,⟨_,rfl⟩,q⟩ hl⟩⟩
theorem qeu (h:PJ K X e t) (hr:PJs K X es u):PJs K X (e::es) (qpW t u):=⟨fun hK pins s σ H0 Φ H ρ R Q out I E ht hs k=>by
  refine joinParts_cons (wpAny_mono (h.pj hK pins s σ H0 Φ H ρ _ (fun _ _=>True) I E ht fun _ _ _ _ _=>trivial) (fun v s1 hq=>?_) fun _ _ h=>h)
  obtain ⟨y,tk,Φ',H',rfl,I1,g,⟨hy,r⟩,_⟩:=hq
  rw [List.length_cons] at hs
  have hl:(out++y).length≤sizeLine:=by rw [qa4];omega
  refine ⟨hl,hr.pj hK pins s1 σ H0 Φ' H' ρ _ Q (out++y) I1 (E.gr g) r (by rw [qa4];omega) fun z Φ2 H2 rz g2=>?_⟩
  rw [PySem.Str.append_assoc]
  exact k (y++z) Φ2 H2 rz (g.trans g2)⟩
def qsM (t:TDS):TD:=fun ρ R=>t ρ fun y=>R (.str y)
theorem qoC (h:PJs K X (e::e2::es) t) (hn:Nat.ble es.length 10=true:=by rfl):PD K X (.JoinedStr (e::e2::es) pos) (qsM t):=⟨fun hK pins s σ H Q I hq0=>by
  obtain ⟨H0,Φ,ρ,R,E,t,k⟩:=hq0
  refine JoinedStr_many ?_
  refine h.pj hK pins s σ H0 Φ H ρ _ Q Str.empty I E t ?_ fun y Φ' H' r g=>?_
  · have:=Nat.le_of_ble_eq_true hn
    have:=sizeLine_eq
    simp only [List.length_cons]
    show 0+_≤_
    omega
  · rw [PySem.Str.empty_append]
    exact k _ Φ' H' _ r g (.str y)⟩
end
def qqO (lo st:Int) (n:Nat):It:=⟨fun i _=>i<n,fun i H x H'=>H'=H∧x=.int (lo+i*st),fun i _=>n≤i⟩
theorem qgE {P:Program} {w:World} {K:PySem.W.Frag} {tg:Expr} (it:Addr) (lo st:Int) (n:Nat):Turn P w K tg (qqO lo st n) [it] it (fun i h=>IsRangeIter h it (lo+(i:Nat)*st) ((n:Int) - (i:Nat)) st) where
  mem:=by simp
  obj:=fun i h st b hb=>by
    have e:b=it:=by simpa using hb
    subst e
    exact ⟨_,st,fun v z=>by
      have z':Data.fields _=Data.cell v:=z
      cases z'⟩
  keep:=fun i h h' st k=>k it (by simp) _ st
  item:=by
    intro X hP hw hK hc i pins s σ H E I hf st' hg
    subst hP hw hK
    obtain ⟨f0,f1,f2,f3,f4,f5⟩:=hf it (by simp)
    have W:=Walks.range (prog:=X.prog) (w:=X.w) (I.ok.hd hc) it lo st n
    refine W.item i s _ _ hg st' fun v h' tk hv st' kk=>?_
    obtain ⟨t,rfl⟩:=hv
    have I1:Inv X pins σ H { s with heap:=h',toks:=tk }:=I.turned (fun b o hb e=>kk b o (by simpa using hb) e) f0 f1 f3 f4 f5
    exact ⟨_,rfl,qju (s:={ s with heap:=h',toks:=tk }) (n:="range_iterator") st' rfl rfl (by decide) ⟨.int (lo+i*st),H,I1,⟨t,rfl⟩,⟨rfl,rfl⟩,st',fun b hb=>(hf b hb).1⟩⟩
  done:=by
    intro X hP hw hK hc i pins s σ H E I hf st hg
    subst hP hw hK
    obtain ⟨f0,f1,f2,f3,f4,f5⟩:=hf it (by simp)
    exact wpAny_pyNext_range_end (I.ok.hd hc) st (by have:n≤i:=hg;omega) fun h' eb=>⟨rfl,I.turned (t':=s.toks) (fun b o hb e=>eb b o hb e) f0 f1 f3 f4 f5⟩
  self:=fun _ _ _ _ _ st h=>wpAny_pyIter_rangeiter st h
def qik (lo hi st:Int):Nat:=((hi - lo+st - 1) / st).toNat
def qct (lo hi st:Int):List D:=(List.range (qik lo hi st)).map fun (i:Nat)=>D.int (lo+(i:Int)*st)
section
variable {K : PySem.W.Frag} {X : Cx} {tg : Expr}
def qqq (ta:TA):TI:=fun σ H R=>ta σ H fun vs H1=>∃ i j k:Int,vs=[.int i,.int j,.int k]∧(-(2 ^ 61)≤i∧i<2 ^ 61∧-(2 ^ 61)≤j∧j<2 ^ 61∧0<k∧k≤1000)∧R (qqO i k (qik i j k)) H1
theorem rs3 {i j k:Int} (hk:0<k):Builtin.Range.rangeSize i j k=(qik i j k:Int):=by
  unfold Builtin.Range.rangeSize qik
  rw [if_pos hk]
  by_cases c:i<j
  · rw [if_pos c,show j - i+k - 1=(j - i - 1)+1*k by omega,Int.add_mul_ediv_right _ _ (by omega)]
    have:=Int.ediv_nonneg (a:=j - i - 1) (b:=k) (by omega) (by omega)
    omega
  · rw [if_neg c]
    have:(j - i+k - 1) / k<1:=Int.ediv_lt_of_lt_mul hk (by omega)
    omega
theorem sm3 {i j k:Int} (h:-(2 ^ 61)≤i∧i<2 ^ 61∧-(2 ^ 61)≤j∧j<2 ^ 61∧0<k∧k≤1000):Builtin.Range.small i j k=true:=by
  have h1:=Int.ediv_nonneg (a:=j - i - 1) (b:=k)
  have h2:=Int.ediv_le_self k (a:=j - i - 1)
  unfold Builtin.Range.small Builtin.Range.rangeSize
  rw [if_pos (show k>0 by omega),if_pos (show k>0 by omega)]
  simp only [Builtin.Range.rangeFitsLong,Bool.and_eq_true,Bool.or_eq_true,decide_eq_true_eq,beq_iff_eq]
  split <;> omega
theorem qiJ {a b c:Expr} {ta:TA} {p pos:Pos} (hg:Gl X "range") (hm:X.mg "range"=none) (ha:PA X [a,b,c] ta) (hs:starEach [a,b,c] X.env=[(false,eval a X.env),(false,eval b X.env),(false,eval c X.env)]:=by rfl) (hs2:starEach [b,c] X.env=[(false,eval b X.env),(false,eval c X.env)]:=by rfl) :
    PI X tg (.Call (.Name "range" p) [a,b,c] [] pos) (qqq ta):=by
  intro pins s σ H R I h
  refine Call_ (qeq I hg hm boot_range (PyProof.Rows.callWith_type1 (thn (ha pos pins s σ H _ I h) fun us s1 hq0=>?_) (by rw [hs,hs2]) (by rw [hs2];rfl)))
  obtain ⟨vs,H1,I1,r1,i,j,k,e,hb,q⟩:=hq0
  subst e
  cases r1 with
  | cons r rr =>
    cases rr with
    | cons r' rr =>
      cases rr with
      | cons r2 rr =>
        cases rr
        obtain ⟨t,rfl⟩:=r
        obtain ⟨t',rfl⟩:=r'
        obtain ⟨t2,rfl⟩:=r2
        refine call_range_3 (by omega) ?_ (.inl (PyProof.noPylong_small (by omega)))
        have I2:Inv X pins σ H1 { s1 with heap:=s1.heap.push { cls:=.type "range",data:=.fields #[.int i t,.int j t',.int k t2] },toks:=s1.toks }:=I1.kept fun b o e=>Heap.get?_push_of_some _ e
        refine wpAny_pyIter_range (IsRange.new ..) (sm3 hb) ?_
        refine ⟨_,[_],_,_,H1,rfl,I2.kept (t':=s1.toks) fun b o e=>Heap.get?_push_of_some _ e,qgE _ i k (qik i j k),?_,fun b hb=>?_,q⟩
        · have e1:i+((0:Nat):Int)*k=i:=by simp
          have e2:((qik i j k:Nat):Int) - ((0:Nat):Int)=Builtin.Range.rangeSize i j k:=by rw [rs3 hb.2.2.2.2.1];omega
          show IsRangeIter _ _ (i+((0:Nat):Int)*k) (((qik i j k:Nat):Int) - ((0:Nat):Int)) k
          rw [e1,e2]
          exact Heap.get?_push_size _ rfl
        · have e:=List.mem_singleton.mp hb
          subst e
          exact I2.fpOk (Nat.le_refl _) (I2.hok.fresh (Nat.le_refl _))
theorem qiR {Φ:Hp} {i j k:Int} {vs:List V} (r:RpL K Φ [.int i,.int j,.int k] vs):vs=[.int i,.int j,.int k]:=by
  match vs,r with
  | [a,b,c],r =>
    have h0:=r.2 0 a _ rfl rfl
    have h1:=r.2 1 b _ rfl rfl
    have h2:=r.2 2 c _ rfl rfl
    cases h0;cases h1;cases h2
    rfl
  | [],r=>cases r.1
  | [_],r=>cases r.1
  | [_,_],r=>cases r.1
  | _::_::_::_::_,r=>cases r.1
theorem qeC (Φ:Hp) (lo hi st:Int):SteadyD K (qqO lo st (qik lo hi st)) Φ (qct lo hi st):=by
  have hl:(qct lo hi st).length=qik lo hi st:=by unfold qct;rw [List.length_map,List.length_range]
  refine ⟨fun i H s hi=>(by rw [hl] at hi;exact hi),fun i Φ2 H v H2 d s2 s hd y=>?_,fun H s=>Nat.le_of_eq hl.symm⟩
  obtain ⟨rfl,rfl⟩:=y
  unfold qct at hd
  rw [List.getElem?_map] at hd
  cases h:(List.range (qik lo hi st))[i]? with
  | none=>rw [h] at hd;cases hd
  | some k =>
    rw [h] at hd
    cases hd
    obtain ⟨hlt,e⟩:=List.getElem?_eq_some_iff.mp h
    rw [List.getElem_range] at e
    subst e
    exact ⟨_,.refl s,.int _⟩
def ql3 (t:TDL):TDL:=fun ρ R=>t ρ fun ds=>∃ i j k:Int,ds=[.int i,.int j,.int k]∧(-(2 ^ 61)≤i∧i<2 ^ 61∧-(2 ^ 61)≤j∧j<2 ^ 61∧0<k∧k≤1000)∧R (qct i j k)
theorem qkP {a b c:Expr} {tl:TDL} {p pos:Pos} (hg:Gl X "range") (hm:X.mg "range"=none) (ha:PAD K X [a,b,c] tl) (hs:starEach [a,b,c] X.env=[(false,eval a X.env),(false,eval b X.env),(false,eval c X.env)]:=by rfl) (hs2:starEach [b,c] X.env=[(false,eval b X.env),(false,eval c X.env)]:=by rfl) :
    PID K X tg (.Call (.Name "range" p) [a,b,c] [] pos) (ql3 tl):=⟨fun hK=>(qiJ hg hm (ha.pa hK) hs hs2).imp fun σ H R' hq0=>by
  obtain ⟨H0,Φ,ρ,R,E,t,k⟩:=hq0
  refine ⟨H0,Φ,ρ,_,E,t,fun ds Φ1 H1 vs r g rl hl=>?_⟩
  obtain ⟨i,j,st,rfl,hb,r⟩:=r
  have e:=qiR rl
  subst e
  exact ⟨i,j,st,rfl,hb,k _ Φ1 H1 _ r g (qeC Φ1 i j st)⟩⟩
def qkq (T:String):Bool:=T == "tuple" || T == "str"
def qqK:List V→Hp→VK→Prop:=fun vs H Q=>∃ x T b,vs=[x,.ty T]∧(IsiV K H x T b∨(x=.non∧qkq T=true∧b=false))∧Q (.bl b) H
theorem qiE (hK:X.K=K):qez X (.builtin "isinstance") (qqK (K:=K)):=by
  intro pins s σ H xs us Q I r h
  obtain ⟨x,T,b,rfl,hi | ⟨rfl,hT,rfl⟩,q⟩:=h
  · exact qfX hK pins s σ H _ us Q I r ⟨x,T,b,rfl,hi,q⟩
  obtain ⟨u,v,rfl,ru,rv⟩:=qrI r
  have rv:v=.type T:=rv
  subst rv
  cases ru
  have fin:∀ (c:Bool) (t:Nat),Q (.bl c) H→EP X pins σ Q (.bool c) { s with toks:=t }:=fun c t q=>⟨.bl c,H,I.tok t,rfl,q⟩
  unfold qkq at hT
  rcases Bool.or_eq_true _ _ ▸ hT with e | e
  · rw [eq_of_beq e];exact IsiPair.NoneType_tuple (fin _ _ q)
  · rw [eq_of_beq e];exact IsiPair.NoneType_str (fin _ _ q)
def qrs (d:D) (T:String):Option Bool:=match d with
  | .non=>if qkq T then some false else none
  | d=>qq1 d T
def qqR (T:String) (t:TD):TD:=fun ρ R=>t ρ fun d=>∃ r,qrs d T=some r∧R (.bl r)
theorem qhh {T:String} {tx:Str} {p p2:Pos} {a:Expr} {t:TD} {pos:Pos} (hg:Gl X "isinstance") (hm:X.mg "isinstance"=none) (ha:PQ K X a t) (hT:PE X (.Name tx p2) (tC (.ty T)))
    (he:starEach [a,.Name tx p2] X.env=(false,eval a X.env)::starEach [.Name tx p2] X.env) (he2:starEach [.Name tx p2] X.env=(false,eval (.Name tx p2) X.env)::starEach [] X.env):PD K X (.Call (.Name "isinstance" p) [a,.Name tx p2] [] pos) (qqR T t) :=
  ⟨fun hK=>(qe0 (qiE hK) hg hm boot_isinstance (qa8 (ha.pe hK) (qa8 hT pa_nil he2) he) (by decide) (by decide) he (qaj he2 qac)).imp fun σ H Q hq0=>by
    obtain ⟨H0,Φ,ρ,R,E,t,k⟩:=hq0
    exact ⟨H0,Φ,ρ,_,E,t,fun d Φ1 H1 v r g rv=>by
      obtain ⟨rr,hr,r⟩:=r
      cases d with
      | non =>
        cases rv.non
        unfold qrs at hr
        by_cases c:qkq T=true
        · rw [if_pos c] at hr
          cases hr
          exact ⟨.non,T,false,rfl,.inr ⟨rfl,c,rfl⟩,k _ Φ1 H1 _ r g (.bl _)⟩
        · rw [if_neg c] at hr;cases hr
      | _=>exact ⟨v,T,rr,rfl,.inl (qlE g.s rv hr),k _ Φ1 H1 _ r g (.bl _)⟩⟩⟩
end
end L2
open PySem
namespace L2
section
variable {K : PySem.W.Frag} {X : Cx} {e b b1 b2 : Expr} {te t1 t2 : TX} {pos npos npos2 spos spos2 tpos : Pos} {x : Str} {kt : Nat}
def qru (i:Nat) (v:Int) (tk:TX) (Rx:XD→qaB→Prop) (R:qaB→Prop):qaB→Prop:=fun ρ1=>ownL ρ1 i fun _ _=>tk ρ1 (xV fun kk ρ2=>match kk with | .int n=>ownL ρ2 i fun a ds=>∃ j,ixN ds.length n=some j∧NF (ds.set j (.int v)) fun es=>NF (ρ2.set i (some (.ob a (.lst es)))) R | _=>False) Rx
def qqG (i:Nat) (te t1 t2:TX):TSM:=fun De ρ=>te ρ (xV fun d ρ1=>match d with | .tup [.int u,.int v]=>qru i u t1 De.ex (qru i v t2 De.ex De.nx) ρ1 | _=>False) De.ex
theorem qoM (i:Nat) (hc:X.calm=true) (he:PX K X e te) (hk1:PX K X b1 t1) (hk2:PX K X b2 t2) (hN:X.N[i]?=some x:=by rfl) (hv:Vis X.env.scope x:=by first | exact Or.inl rfl | exact Or.inr (Or.inl rfl) | exact Or.inr (Or.inr rfl)) (hd:(x == ("__debug__":Str))=false:=by decide) (hcd:(x == ("__classdict__":Str))=false:=by decide)
    (ha1:∀ v,assign (.Subscript (.Name x npos) b1 spos) X.env v=(do
      let ov ← holding [v] (eval (.Name x npos) X.env)
      let iv ← holding [v,ov] (eval b1 X.env)
      standAt spos
      holding [v,ov,iv] (setItem ov iv v)
      release [v,ov,iv] []):=by intro _;rfl)
    (ha2:∀ v,assign (.Subscript (.Name x npos2) b2 spos2) X.env v=(do
      let ov ← holding [v] (eval (.Name x npos2) X.env)
      let iv ← holding [v,ov] (eval b2 X.env)
      standAt spos2
      holding [v,ov,iv] (setItem ov iv v)
      release [v,ov,iv] []):=by intro _;rfl)
    (hn:(assignEach [.Subscript (.Name x npos) b1 spos,.Subscript (.Name x npos2) b2 spos2] X.env).length=2:=by rfl)
    (hst:(assignEach [.Subscript (.Name x npos) b1 spos,.Subscript (.Name x npos2) b2 spos2] X.env).findIdx? (·.1)=none:=by rfl)
    (he1:(assignEach [.Subscript (.Name x npos) b1 spos,.Subscript (.Name x npos2) b2 spos2] X.env).map (·.2)=assign (.Subscript (.Name x npos) b1 spos) X.env::(assignEach [.Subscript (.Name x npos2) b2 spos2] X.env).map (·.2):=by rfl)
    (he2:(assignEach [.Subscript (.Name x npos2) b2 spos2] X.env).map (·.2)=assign (.Subscript (.Name x npos2) b2 spos2) X.env::(assignEach [] X.env).map (·.2):=by rfl)
    (hs:swapsWithSole [.Tuple [.Subscript (.Name x npos) b1 spos,.Subscript (.Name x npos2) b2 spos2] kt tpos] e pos.line X.env=pure false:=by rfl) (hw:swappedStores [.Tuple [.Subscript (.Name x npos) b1 spos,.Subscript (.Name x npos2) b2 spos2] kt tpos] e X.env=pure none:=by rfl)
    (h1:(assignEach [.Tuple [.Subscript (.Name x npos) b1 spos,.Subscript (.Name x npos2) b2 spos2] kt tpos] X.env).map (·.2)=[assign (.Tuple [.Subscript (.Name x npos) b1 spos,.Subscript (.Name x npos2) b2 spos2] kt tpos) X.env]:=by rfl) :
    PSM K X (.Assign [.Tuple [.Subscript (.Name x npos) b1 spos,.Subscript (.Name x npos2) b2 spos2] kt tpos] e pos) (qqG i te t1 t2) :=
  ⟨fun hK=>(qgg (he.pe hK) (qfl hK hc (qcB (qhy (pv i hN hv hd hcd) (hk1.pe hK) qcV ha1) (qcB (qhy (pv i hN hv hd hcd) (hk2.pe hK) qcV ha2) pgs_nil he2) he1) hn hst) hs hw h1).imp fun E σ H hq0=>by
    obtain ⟨Φ0,H0,Φ,ρ,De,g,V,t,k⟩:=hq0
    refine ⟨Φ0,H0,Φ,[],ρ,[],_,De.ex,st0 g V k.ex,t,fun s ρ1 Φ1 H1 v r S1 _=>?_⟩
    obtain ⟨d,rfl,r⟩:=r.get
    have rd:=S1.last
    match d,r,rd with
    | .tup [.int u,.int w],r,rd =>
      cases rd with
      | tup h1 h2 h3 =>
        rename_i p vs
        obtain ⟨v1,v2,rfl⟩:∃ v1 v2,vs=[v1,v2]:=by
          match vs,h2 with
          | [v1,v2],_=>exact ⟨v1,v2,rfl⟩
        cases h3 0 v1 (.int u) rfl rfl
        cases h3 1 v2 (.int w) rfl rfl
        refine ⟨p,_,rfl,.of (S1.E.fz _ _ h1),rfl,_,_,rfl,?_⟩
        obtain ⟨a1,ds1,ho1,r⟩:=ownL.get r
        obtain ⟨q,vs,e1,_⟩:=S1.list ho1
        refine ⟨_,e1,Φ0,H0,Φ1,_,ρ1,_,_,De.ex,S1,r,fun s2 ρ2 Φ2 H2 w' r2 S2 _=>?_⟩
        obtain ⟨kk,rfl,r2⟩:=r2.get
        obtain ⟨_,rk⟩:=S2.last2
        cases kk with
        | int n =>
          cases rk
          obtain ⟨a2,ds2,ho2,j,hj,r2⟩:=ownL.get r2
          obtain ⟨q2,vs2,e2,hp2,rl2,k2⟩:=S2.list ho2
          rw [e1] at e2
          cases e2
          have S3:=k2 _ _ (rl2.set (.int u) j)
          refine ⟨q,vs2,n,j,rfl,rfl,hp2,by rw [rl2.1];exact hj,_,_,rfl,?_⟩
          have r3:=r2.get.get
          obtain ⟨a3,ds3,ho3,r3⟩:=ownL.get r3
          have S4:=st0 S3.g S3.env k.ex
          obtain ⟨q3,vs3,e3,_⟩:=S4.list ho3
          refine ⟨_,e3,Φ0,H0,Φ2,_,_,_,_,De.ex,S4,r3,fun s5 ρ5 Φ5 H5 w5 r5 S5 _=>?_⟩
          obtain ⟨kk,rfl,r5⟩:=r5.get
          have rk:=S5.last
          cases kk with
          | int n2 =>
            cases rk
            obtain ⟨a6,ds6,ho6,j6,hj6,r6⟩:=ownL.get r5
            obtain ⟨q6,vs6,e6,hp6,rl6,k6⟩:=S5.list ho6
            rw [e3] at e6
            cases e6
            have S7:=k6 _ _ (rl6.set (.int w) j6)
            refine ⟨q3,vs6,n2,j6,rfl,rfl,hp6,by rw [rl6.1];exact hj6,?_⟩
            exact ⟨rfl,k.nx _ Φ5 _ σ r6.get.get S7.g S7.env⟩
          | _=>exact r5.elim
        | _=>exact r2.elim⟩
end
section
variable {K : PySem.W.Frag} {H0 H H' Φ Φ' Φ0 : Hp} {σ : St} {ρ : qaB} {fp : Nat → List Addr} {p q : Addr} {i k : Nat} {z : List D} {d : D}
theorem qdo {x y:Sm} {m:Nat} (h:(ρ++[some y])[m]?=some (some x)):(m<ρ.length∧ρ[m]?=some (some x))∨(m=ρ.length∧x=y):=by
  rcases Nat.lt_or_ge m ρ.length with c | c
  · rw [List.getElem?_append_left c] at h
    exact .inl ⟨c,h⟩
  · rw [List.getElem?_append_right c] at h
    cases e:m - ρ.length with
    | zero=>rw [e] at h;cases h;exact .inr ⟨by omega,rfl⟩
    | succ n=>rw [e] at h;cases h
theorem qel {α:Type} {l:List α} {y:α} {m:Nat} (h:m=l.length):(l++[y])[m]?=some y:=by rw [h,List.getElem?_append_right (Nat.le_refl _),Nat.sub_self];rfl
theorem EnvM.prO {v0:V} (E:EnvM K H0 Φ H (σ++[some v0]) (ρ++[some (.ob none (.pr z d))])) (hl:ρ.length=σ.length) :
    ∃ p q v,v0=.ref p∧Φ p=some (.tup [.ref q,v])∧Rp K Φ d v∧EnvM K H0 Φ H (σ++[some (.ref q)]) (ρ++[some (.own z)]):=by
  obtain ⟨fp,E⟩:=E
  have h0:(ρ++[some (Sm.ob none (.pr z d))])[ρ.length]?=some (some (.ob none (.pr z d))):=qel rfl
  obtain ⟨p,e,_,r⟩:=E.ow _ _ _ h0
  rw [qel hl] at e
  cases e
  generalize hF:fp ρ.length=F at r
  cases r with
  | pr h1 h2 h3 h4 =>
    rename_i q v ws
    have up:∀ {m:Nat} {c:Option Addr} {om:Om},(ρ++[some (Sm.own z)])[m]?=some (some (.ob c om))→∃ c' om',(ρ++[some (Sm.ob none (.pr z d))])[m]?=some (some (.ob c' om')):=fun {m c om} h=>by
      rcases qdo h with ⟨c1,h9⟩ | ⟨c1,h9⟩
      · exact ⟨c,om,by rw [List.getElem?_append_left c1];exact h9⟩
      · exact ⟨_,_,qel c1⟩
    refine ⟨p,q,v,rfl,h1,h4,fp,E.fz,by have:=E.len;simpa using this,fun m d' h=>?_,fun m c om h=>?_,fun m c om h=>?_,fun m n c c' om om' hm hn=>?_,E.tb⟩
    · rcases qdo h with ⟨c1,h9⟩ | ⟨c1,h9⟩
      · obtain ⟨v',e',r'⟩:=E.sl m d' (by rw [List.getElem?_append_left c1];exact h9)
        exact ⟨v',by rw [List.getElem?_append_left (by omega)] at e' ⊢;exact e',r'⟩
      · cases h9
    · rcases qdo h with ⟨c1,h9⟩ | ⟨c1,h9⟩
      · obtain ⟨v',e',ha,r'⟩:=E.ow m c om (by rw [List.getElem?_append_left c1];exact h9)
        exact ⟨v',by rw [List.getElem?_append_left (by omega)] at e' ⊢;exact e',ha,r'⟩
      · cases h9
        refine ⟨q,qel (c1.trans hl),(fun _ z=>by cases z),?_⟩
        rw [c1,hF]
        exact .lst h2 h3
    · obtain ⟨c',om',h'⟩:=up h
      exact E.no m c' om' h'
    · obtain ⟨c1,o1,g1⟩:=up hm
      obtain ⟨c2,o2,g2⟩:=up hn
      exact E.dj m n c1 c2 o1 o2 g1 g2
theorem EnvM.mkP {v1 v2:V} (E:EnvM K H0 Φ H (σ++[some v1,some v2]) (ρ++[some (.own z),some (.v d)])) (hl:ρ.length=σ.length) (g:Gr Φ H Φ' H') (hp:Φ' p=some (.tup [v1,v2])) :
    EnvM K H0 Φ' H' (σ++[some (.ref p)]) (ρ++[some (.ob none (.pr z d))]):=by
  obtain ⟨fp,E⟩:=E.gr g
  have h1:(ρ++[some (Sm.own z),some (.v d)])[ρ.length]?=some (some (.ob none (.lst z))):=by rw [List.getElem?_append_right (Nat.le_refl _),Nat.sub_self];rfl
  have h2:(ρ++[some (Sm.own z),some (.v d)])[ρ.length+1]?=some (some (.v d)):=by rw [List.getElem?_append_right (by omega),Nat.add_sub_cancel_left];rfl
  obtain ⟨q,e1,_,r1⟩:=E.ow _ _ _ h1
  obtain ⟨v,e2,r2⟩:=E.sl _ _ h2
  rw [hl,List.getElem?_append_right (Nat.le_refl _),Nat.sub_self] at e1
  rw [hl,List.getElem?_append_right (by omega),Nat.add_sub_cancel_left] at e2
  cases e1
  cases e2
  obtain ⟨f1,w1,a1,b1⟩:=r1.lst_inv
  have up:∀ {m:Nat} {c:Option Addr} {om:Om},(ρ++[some (Sm.ob none (.pr z d))])[m]?=some (some (.ob c om))→∃ c' om',(ρ++[some (Sm.own z),some (.v d)])[m]?=some (some (.ob c' om')):=fun {m c om} h=>by
    rcases qdo h with ⟨c1,h9⟩ | ⟨c1,h9⟩
    · exact ⟨c,om,by rw [List.getElem?_append_left c1];exact h9⟩
    · exact ⟨_,_,by rw [c1];exact h1⟩
  refine ⟨fp,E.fz,by rw [List.length_append,List.length_append,hl];rfl,fun m d' h=>?_,fun m c om h=>?_,fun m c om h=>?_,fun m n c c' om om' hm hn=>?_,E.tb⟩
  · rcases qdo h with ⟨c1,h9⟩ | ⟨c1,h9⟩
    · obtain ⟨v',e',r'⟩:=E.sl m d' (by rw [List.getElem?_append_left c1];exact h9)
      exact ⟨v',by rw [List.getElem?_append_left (by omega)] at e' ⊢;exact e',r'⟩
    · cases h9
  · rcases qdo h with ⟨c1,h9⟩ | ⟨c1,h9⟩
    · obtain ⟨v',e',ha,r'⟩:=E.ow m c om (by rw [List.getElem?_append_left c1];exact h9)
      exact ⟨v',by rw [List.getElem?_append_left (by omega)] at e' ⊢;exact e',ha,r'⟩
    · cases h9
      refine ⟨p,qel (c1.trans hl),(fun _ z=>by cases z),?_⟩
      rw [c1,f1]
      exact .pr hp a1 b1 r2
  · obtain ⟨c',om',h'⟩:=up h
    exact E.no m c' om' h'
  · obtain ⟨c1,o1,g1⟩:=up hm
    obtain ⟨c2,o2,g2⟩:=up hn
    exact E.dj m n c1 c2 o1 o2 g1 g2
end
section
variable {K : PySem.W.Frag} {X : Cx} {e : Expr} {es : List Expr} {te : TX} {tA : TXA} {pos p1 p2 p4 : Pos}
def qr9 (tA:TXA):TX:=fun ρ R Rx=>tA ρ (fun as ρ1=>∃ z d,as=[.t (.own z),.t (.v d)]∧R (.ob none (.pr z d)) ρ1) Rx
theorem qp8 {k:Nat} (h:PXA K X es tA) (hes:Nat.ble es.length 1000=true:=by rfl):PX K X (.Tuple es k pos) (qr9 tA) :=
  ⟨fun hK=>(qjA (h.pa hK)).imp fun σ H Q hq0=>by
    obtain ⟨Φ0,H0,Φ,τ,ρ,κ,R,Rx,S,t,k⟩:=hq0
    refine ⟨Φ0,H0,Φ,τ,ρ,κ,_,Rx,S,t,fun as ρ1 Φ1 H1 vs ts r1 hl hv S1 f1=>?_⟩
    obtain ⟨z,d,rfl,r⟩:=r1
    cases hv with | t hv=>cases hv with | t hv =>
    cases hv
    rename_i v1 v2
    refine ⟨by rw [sizeLine_eq];show 2≤16777216;decide,fun p hp=>?_⟩
    have g:=Gr.new S1.g.s hp (.tup [v1,v2])
    have lk:κ.length=τ.length:=S.lk
    have l2:=S1.l
    have E:=S1.E
    have E':EnvM K H0 Φ1 H1 ((σ++τ)++[some v1,some v2]) ((ρ1++κ)++[some (.own z),some (.v d)]):=by
      rw [List.append_assoc,List.append_assoc];exact E
    have E2:=E'.mkP (p:=p) (by rw [List.length_append,List.length_append];omega) g qai
    rw [List.append_assoc,List.append_assoc] at E2
    exact k _ ρ1 _ _ _ r ⟨S1.g.trans g,l2,E2,S1.x⟩ (f1.trans g.f)⟩
def qsl (i1 i2:Nat) (te:TX):TSM:=fun De ρ=>te ρ (fun s ρ1=>∃ z d,s=.ob none (.pr z d)∧De.nx ((ρ1.set i1 (some (.own z))).set i2 (some (.v d)))) De.ex
theorem qra {k:Nat} {n1 n2:Str} (i1 i2:Nat) (hc:X.calm=true) (hN:X.N.Nodup) (h1:X.N[i1]?=some n1) (h2:X.N[i2]?=some n2) (l1:Loc X.env.scope n1) (l2:Loc X.env.scope n2) (he:PX K X e te)
    (f1:X.fn n1=true∨X.env.scope.names.lookup n1=some .local:=by first | exact .inl rfl | exact .inr rfl | assumption) (f2:X.fn n2=true∨X.env.scope.names.lookup n2=some .local:=by first | exact .inl rfl | exact .inr rfl | assumption)
    (hs:swapsWithSole [.Tuple [.Name n1 p1,.Name n2 p2] k p4] e pos.line X.env=pure false:=by rfl) (hw:swappedStores [.Tuple [.Name n1 p1,.Name n2 p2] k p4] e X.env=pure none:=by rfl)
    (ha:(assignEach [.Tuple [.Name n1 p1,.Name n2 p2] k p4] X.env).map (·.2)=[assign (.Tuple [.Name n1 p1,.Name n2 p2] k p4) X.env]:=by rfl)
    (c1:(assignEach [.Name n1 p1,.Name n2 p2] X.env).map (·.2)=assign (.Name n1 p1) X.env::(assignEach [.Name n2 p2] X.env).map (·.2):=by rfl) (c2:(assignEach [.Name n2 p2] X.env).map (·.2)=assign (.Name n2 p2) X.env::(assignEach [] X.env).map (·.2):=by rfl)
    (hn:(assignEach [.Name n1 p1,.Name n2 p2] X.env).length=2:=by rfl) (hst:(assignEach [.Name n1 p1,.Name n2 p2] X.env).findIdx? (·.1)=none:=by rfl) :
    PSM K X (.Assign [.Tuple [.Name n1 p1,.Name n2 p2] k p4] e pos) (qsl i1 i2 te) :=
  ⟨fun hK=>(qgg (he.pe hK) (qly hc (qcB (qfr hN h1 l1 f1) (qcB (qfr hN h2 l2 f2) pgs_nil c2) c1) hn hst) hs hw ha).imp fun E σ H hq0=>by
    obtain ⟨Φ0,H0,Φ,ρ,De,g,V,t,k⟩:=hq0
    refine ⟨Φ0,H0,Φ,[],ρ,[],_,De.ex,st0 g V k.ex,t,fun s ρ1 Φ1 H1 v r S1 _=>?_⟩
    obtain ⟨z,d,rfl,r⟩:=r
    have E1:EnvM K H0 Φ1 H1 (σ++[some v]) (ρ1++[some (.ob none (.pr z d))]):=S1.E
    obtain ⟨p,q,w,rfl,hp,hr,E2⟩:=E1.prO S1.l
    refine ⟨p,_,rfl,SqT.of (E1.fz _ _ hp),rfl,_,_,rfl,_,_,rfl,rfl,?_⟩
    exact k.nx _ Φ1 H1 _ r S1.g (((E2.store i1).snocV hr).store i2)⟩
end
end L2
namespace Kx
open PySem L2
section
variable {P : Program} {w : World} {K : PySem.W.Frag} {mg : Str → Option Value} {base : Heap}
def top (i:Nat):Stmt:=PySem.Challenge.pw_cutyard_k07_read.main.body.getD i (.Pass ⟨0,0,0,0⟩)
abbrev qcY:Stmt:=top 7
theorem qj5:FnScope ["row"] ["row"] (qaf qcY):=⟨rfl,rfl,rfl,by decide +kernel,rfl,by decide +kernel,by decide +kernel⟩
abbrev qcs:Stmt:=top 15
theorem qhZ:FnScope ["word"] ["word"] (qaf qcs):=⟨rfl,rfl,rfl,by decide +kernel,rfl,by decide +kernel,by decide +kernel⟩
abbrev qbb:Stmt:=top 16
theorem sc_number_form:FnScope ["word","figures"] ["word"] (qaf qbb):=⟨rfl,rfl,rfl,by decide +kernel,rfl,by decide +kernel,by decide +kernel⟩
abbrev qcC:Stmt:=top 17
theorem sc_sum_form:FnScope ["words","terms","place","number","name"] ["words"] (qaf qcC):=⟨rfl,rfl,rfl,by decide +kernel,rfl,by decide +kernel,by decide +kernel⟩
abbrev qbl:Stmt:=top 18
theorem sc_unknown_form:FnScope ["words","least","most"] ["words"] (qaf qbl):=⟨rfl,rfl,rfl,by decide +kernel,rfl,by decide +kernel,by decide +kernel⟩
abbrev qcE:Stmt:=top 19
theorem sc_row_form:FnScope ["words","terms","number"] ["words"] (qaf qcE):=⟨rfl,rfl,rfl,by decide +kernel,rfl,by decide +kernel,by decide +kernel⟩
abbrev qbS:Stmt:=top 20
theorem sc_worth_form:FnScope ["words","terms"] ["words"] (qaf qbS):=⟨rfl,rfl,rfl,by decide +kernel,rfl,by decide +kernel,by decide +kernel⟩
abbrev qb1:Stmt:=top 21
theorem sc_line_form:FnScope ["line","words"] ["line"] (qaf qb1):=⟨rfl,rfl,rfl,by decide +kernel,rfl,by decide +kernel,by decide +kernel⟩
abbrev qbB:Stmt:=top 22
theorem sc_sum_entries:FnScope ["terms","names","at","entries","came","number","name"] ["terms","names","at"] (qaf qbB):=⟨rfl,rfl,rfl,by decide +kernel,rfl,by decide +kernel,by decide +kernel⟩
abbrev qaU:Stmt:=top 23
theorem qdt:FnScope ["entries"] ["entries"] (qaf qaU):=⟨rfl,rfl,rfl,by decide +kernel,rfl,by decide +kernel,by decide +kernel⟩
abbrev qcb:Stmt:=top 25
theorem sc_read_plan:FnScope ["text","reading","lines","place","line","goal","sense","plan"] ["text"] (qaf qcb):=⟨rfl,rfl,rfl,by decide +kernel,rfl,by decide +kernel,by decide +kernel⟩
abbrev qbT:Stmt:=top 27
theorem qe8:FnScope ["_law_told"] ["_law_told"] (qaf qbT):=⟨rfl,rfl,rfl,by decide +kernel,rfl,by decide +kernel,by decide +kernel⟩
abbrev qb6:Stmt:=top 28
theorem sc__law_pool:FnScope ["_law_script","_law_seed","_law_cell","_law_rest"] ["_law_script"] (qaf qb6):=⟨rfl,rfl,rfl,by decide +kernel,rfl,by decide +kernel,by decide +kernel⟩
abbrev qb3:Stmt:=top 29
theorem sc__law_draw:FnScope ["_law_pool_here","_law_many","_law_digit","_law_step","_law_mixed"] ["_law_pool_here","_law_many"] (qaf qb3):=⟨rfl,rfl,rfl,by decide +kernel,rfl,by decide +kernel,by decide +kernel⟩
abbrev qbQ:Stmt:=top 30
theorem sc__law_fresh:FnScope ["_law_names_here","_law_name","_law_sign"] ["_law_names_here","_law_name"] (qaf qbQ):=⟨rfl,rfl,rfl,by decide +kernel,rfl,by decide +kernel,by decide +kernel⟩
abbrev qca:Stmt:=top 31
theorem sc__law_word:FnScope ["_law_pool_here","_law_size","_law_word_here","_law_k"] ["_law_pool_here","_law_size"] (qaf qca):=⟨rfl,rfl,rfl,by decide +kernel,rfl,by decide +kernel,by decide +kernel⟩
abbrev qbR:Stmt:=top 32
theorem sc__law_names:FnScope ["_law_pool_here","_law_count","_law_letters","_law_words","_law_manner","_law_shift","_law_base","_law_names_here","_law_k","_law_name","_law_at"] ["_law_pool_here","_law_count"] (qaf qbR):=⟨rfl,rfl,rfl,by decide +kernel,rfl,by decide +kernel,by decide +kernel⟩
abbrev qby:Stmt:=top 33
theorem sc__law_number:FnScope ["_law_pool_here","_law_pick"] ["_law_pool_here"] (qaf qby):=⟨rfl,rfl,rfl,by decide +kernel,rfl,by decide +kernel,by decide +kernel⟩
abbrev qa9:Stmt:=top 34
theorem sc__law_terms:FnScope ["_law_pool_here","_law_count","_law_places","_law_k","_law_at"] ["_law_pool_here","_law_count"] (qaf qa9):=⟨rfl,rfl,rfl,by decide +kernel,rfl,by decide +kernel,by decide +kernel⟩
abbrev qbY:Stmt:=top 35
theorem qgM:FnScope ["_law_terms_here","_law_names_here"] ["_law_terms_here","_law_names_here"] (qaf qbY):=⟨rfl,rfl,rfl,by decide +kernel,rfl,by decide +kernel,by decide +kernel⟩
abbrev qbj:Stmt:=top 36
theorem sc__law_entries:FnScope ["_law_terms_here","_law_count","_law_sign","_law_entries_here","_law_place","_law_number_here"] ["_law_terms_here","_law_count","_law_sign"] (qaf qbj):=⟨rfl,rfl,rfl,by decide +kernel,rfl,by decide +kernel,by decide +kernel⟩
abbrev qbc:Stmt:=top 37
theorem sc__law_unknowns:FnScope ["_law_pool_here","_law_names_here","_law_lines","_law_bounds","_law_name","_law_least","_law_most","_law_line"] ["_law_pool_here","_law_names_here"] (qaf qbc):=⟨rfl,rfl,rfl,by decide +kernel,rfl,by decide +kernel,by decide +kernel⟩
abbrev qb2:Stmt:=top 38
theorem sc__law_text:FnScope ["_law_pool_here","_law_count","_law_names_here","_law_lines","_law_bounds","_law_rows","_law_k","_law_terms_here","_law_bound","_law_sign","_law_sense"] ["_law_pool_here","_law_count"] (qaf qb2):=⟨rfl,rfl,rfl,by decide +kernel,rfl,by decide +kernel,by decide +kernel⟩
abbrev qba:Stmt:=top 39
theorem qcZ:FnScope ["_law_told","_law_due"] ["_law_told","_law_due"] (qaf qba):=⟨rfl,rfl,rfl,by decide +kernel,rfl,by decide +kernel,by decide +kernel⟩
abbrev qlk:Stmt:=top 40
theorem sc_law:FnScope ["_law_script","_law_pool_here","_law_text_here","_law_due","_law_other","_law_second"] ["_law_script"] (qaf qlk):=⟨rfl,rfl,rfl,by decide +kernel,rfl,by decide +kernel,by decide +kernel⟩
abbrev qaA:Stmt:=qfg (top 24) 0
theorem qcJ:FnScope ["self"] ["self"] (qaf qaA):=⟨rfl,rfl,rfl,by decide +kernel,rfl,by decide +kernel,by decide +kernel⟩
abbrev qay:Stmt:=qfg (top 24) 1
theorem sc_Reading__read_line:FnScope ["self","line","at","form"] ["self","line","at"] (qaf qay):=⟨rfl,rfl,rfl,by decide +kernel,rfl,by decide +kernel,by decide +kernel⟩
abbrev qaq:Stmt:=qfg (top 24) 2
theorem qb0:FnScope ["self","form","at"] ["self","form","at"] (qaf qaq):=⟨rfl,rfl,rfl,by decide +kernel,rfl,by decide +kernel,by decide +kernel⟩
abbrev qaz:Stmt:=qfg (top 24) 3
theorem sc_Reading__read_row:FnScope ["self","form","at","entries","row"] ["self","form","at"] (qaf qaz):=⟨rfl,rfl,rfl,by decide +kernel,rfl,by decide +kernel,by decide +kernel⟩
structure TxtReading (K:PySem.W.Frag) (mg:Str→Option Value) (C:Addr):Prop where
  cl:Cls K C
  n_names:NoAttr K C "names"
  n_bounds:NoAttr K C "bounds"
  n_rows:NoAttr K C "rows"
  n_worth:NoAttr K C "worth"
  mgC:mg "Reading"=some (.ref C)
  ns:PySem.W.nsIn K mainGlobals "Reading"=some (some (.ref C))
theorem toB {R:D→Prop} {a b:Bool} (q:R (.bl a)) (e:b=a):R (.bl b):=e ▸ q
theorem qnK {a b:Int} (h:(a == b)=true):a=b:=eq_of_beq h
theorem qrn {a b:Int} (h:(a == b)=false):a≠b:=fun e=>by subst e;rw [beq_self_eq_true] at h;cases h
open Tx
def asc (w:Str):Prop:=w.cps.all (·<128)=true∧w.length≤100000
theorem qmx {w:Str} {i:Nat} {d:D} (h:(qlW w)[i]?=some d):∃ c,d=.str (sgn c)∧(L w)[i]?=some c:=by
  unfold qlW at h
  rw [List.getElem?_map] at h
  obtain ⟨c,e,rfl⟩:=Option.map_eq_some_iff.mp h
  exact ⟨c,rfl,e⟩
theorem qpB (c:Nat):(false != decide (c∈("abcdefghijklmnopqrstuvwxyz":Str).cps.toList))=qhe c:=by
  have e:("abcdefghijklmnopqrstuvwxyz":Str).cps.toList=[97,98,99,100,101,102,103,104,105,106,107,108,109,110,111,112,113,114,115,116,117,118,119,120,121,122]:=by decide +kernel
  rw [Bool.false_bne,e,Bool.eq_iff_iff]
  simp [qhe]
  omega
theorem qo4 (c:Nat):(false != decide (c∈("0123456789":Str).cps.toList))=qht c:=by
  have e:("0123456789":Str).cps.toList=[48,49,50,51,52,53,54,55,56,57]:=by decide +kernel
  rw [Bool.false_bne,e,Bool.eq_iff_iff]
  simp [qht]
  omega
theorem qgB {w:Str} (h:w.length≤100000):w.length≤sizeLine:=by have:=sizeLine_eq;omega
theorem qn8 {n:Nat} (h:n≤100000):n<sizeLine:=by have:=sizeLine_eq;omega
theorem qh1 (w:Str):(L w).length=w.length:=by unfold L;rw [Array.length_toList];rfl
def qd4:SpD:=fun ds R=>∃ (w:Str),ds=[.str w]∧asc w∧R (.bl (qb9 w))
theorem qhY {n:Nat} {f:Addr} {fd:FuncData} (F:Fun K "is_name" "is_name" qcs f fd) (z_all:mg "all"=none) (z_MOST_LETTERS:∃ tk,mg "MOST_LETTERS"=some (.int 12 tk)) (z_len:mg "len"=none) (z_LETTERS:∃ tk,mg "LETTERS"=some (.str "abcdefghijklmnopqrstuvwxyz" tk)):FnOk P w K mg base CX0 (n+1) f fd ["word"] (lSp K qd4):=by
  refine F.okD qhZ (fun ds R h=>?_) (fun cdv A outer s H E ds R hr h=>?_)
  · obtain ⟨w,rfl,_⟩:=h;rfl
  obtain ⟨w,rfl,ha,q⟩:=h
  refine ⟨_,(qbo (qdH (PWD.td (qjm (qaK qqr (PD.q (qaN qb7 rfl z_len PySem.boot_len (qaw (dvq 0) qaG qaa) qaa qac)) (PD.q qad) (qas _)) (qfD (qaK qmg (PD.q (qaN qb7 rfl z_len PySem.boot_len (qaw (dvq 0) qaG qaa) qaa qac)) (PD.q (qfa rfl z_MOST_LETTERS.choose_spec)) (qas _))))) (qaR (qaX qkg)) qbu)
      (qaR (qaX (qaN (qnp rfl) rfl z_all PyProof.Rows.boot_all (qaw (PD.q (PF.d (qdk (k:=1) (N':=["sign"]) (cap:=[none]) rfl (.ok (show qcO ["word"] (qaf qcs) _ ["sign"] [none]=true by decide +kernel)) (by decide +kernel) (qdw (by decide)) (qna (dv 0)) (fun _ _ _ _ _=>(qck (i:=0) (show List.Nodup (["sign"]:List Str) by decide +kernel) rfl (Or.inl rfl))) (fun _ _ _ _ _=>(qhJ qpF (dvq 0) (PD.q (qi3 rfl z_LETTERS.choose_spec)) (by with_unfolding_all rfl)))))) qaG qaJ) qaJ qac)))),?_⟩
  have sz:=qgB ha.2
  have no:¬ (1≤w.length∧w.length≤12)→qb9 w=false:=fun h=>by
    unfold qb9
    rcases Decidable.not_and_iff_or_not.mp h with h | h
    · rw [decide_eq_false h];rfl
    · rw [decide_eq_false h,Bool.and_false];rfl
  refine ⟨fun ρ=>(1≤w.length∧w.length≤12)∧ρ=[some (.v (.str w))],?_,?_⟩
  · refine ⟨sz,fun h=>⟨fun _=>?_,fun h=>tf h⟩,fun h=>⟨sz,fun h2=>?_,fun h2=>⟨⟨?_,?_⟩,rfl⟩⟩⟩
    · exact toB q (no (by have:=of_decide_eq_true h;omega)).symm
    · exact toB q (no (by have:=of_decide_eq_true h2;omega)).symm
    · have:=of_decide_eq_false h;omega
    · have:=of_decide_eq_false h2;omega
  rintro ρ ⟨⟨h1,h2⟩,rfl⟩
  refine ⟨w,rfl,ha.1,?_⟩
  refine qc1 (f:=fun c=>D.str (sgn c)) (fun c=>D.bl (qhe c)) (by rw [Array.length_toList];exact qn8 ha.2) (fun c _=>⟨c,_,rfl,rfl,by rw [qpB]⟩) ?_
  refine ⟨(L w).map qhe,by rw [List.map_map];rfl,?_⟩
  refine toB q ?_
  unfold qb9
  rw [decide_eq_true h1,decide_eq_true h2]
  show ((L w).map qhe).all id=_
  rw [List.all_map]
  rfl
theorem qfY (w:Str):Txt.startswith w "-"=((L w).head? == some 45):=by
  have hb:("-":Str)=⟨#[45]⟩:=by decide
  have h:=PySem.StrLaws.subAt_one w 45 0
  rw [hb,Bool.eq_iff_iff,beq_iff_eq,List.head?_eq_getElem?]
  refine Iff.trans ?_ h
  unfold Txt.startswith
  rw [Bool.and_eq_true,decide_eq_true_eq]
def qkb (l:List Nat):List Nat:=match l with | 45::r=>r | l=>l
theorem qdK {l:List Nat} (h:(l.head? == some 45)=true):∃ r,l=45::r∧qkb l=r:=by
  cases l with
  | nil=>cases h
  | cons a r =>
    have:a=45:=by simpa using h
    subst this
    exact ⟨r,rfl,rfl⟩
theorem qdS {l:List Nat} (h:(l.head? == some 45)=false):qkb l=l∧qj9 l=if qeH l && (l.head? != some 48 || l == [48]) then some (NumText.digitsVal l:Int) else none:=by
  unfold qkb qj9
  constructor
  · split
    · next r=>simp at h
    · rfl
  · split
    · next r=>simp at h
    · rfl
theorem qlO {l:List Nat} (h:qeH (qkb l)=false):qj9 l=none:=by
  cases c:l.head? == some 45 with
  | true =>
    obtain ⟨r,rfl,e⟩:=qdK c
    rw [e] at h
    show (if qeH r && _ then _ else none)=none
    rw [h];rfl
  | false =>
    obtain ⟨e,e2⟩:=qdS c
    rw [e] at h
    rw [e2,h];rfl
theorem qh9 {l:List Nat} (h:(qkb l).head?=some 48) (hw:l≠[48]):qj9 l=none:=by
  cases c:l.head? == some 45 with
  | true =>
    obtain ⟨r,rfl,e⟩:=qdK c
    rw [e] at h
    show (if qeH r && r.head? != some 48 then _ else none)=none
    rw [h];simp
  | false =>
    obtain ⟨e,e2⟩:=qdS c
    rw [e] at h
    rw [e2,h];simp [hw]
theorem qmf {l:List Nat} (h:qeH (qkb l)=true) (hw:(qkb l).head?≠some 48∨l=[48]):∃ n,qj9 l=some n:=by
  cases c:l.head? == some 45 with
  | true =>
    obtain ⟨r,rfl,e⟩:=qdK c
    rw [e] at h hw
    refine ⟨-(NumText.digitsVal r:Int),?_⟩
    show (if qeH r && r.head? != some 48 then _ else none)=_
    rcases hw with hw | hw
    · rw [h,bne_iff_ne.mpr hw];rfl
    · cases hw
  | false =>
    obtain ⟨e,e2⟩:=qdS c
    rw [e] at h hw
    refine ⟨(NumText.digitsVal l:Int),?_⟩
    rw [e2,h,if_pos]
    rcases hw with hw | hw
    · rw [bne_iff_ne.mpr hw];rfl
    · rw [hw];rfl
theorem qsj (l:List Nat):qcG l (some 1) none=l.drop 1:=by
  unfold qcG
  rw [HT.sIx_none,show (some (1:Int))=some ((1:Nat):Int) from rfl,HT.sIx_nat]
  rw [List.take_of_length_le (by rw [List.length_drop];omega)]
  cases l with
  | nil=>rfl
  | cons a r=>simp
def qdb (w:Str):Str:=if ((L w).head? == some 45)=true then qh6 w (some 1) none else w
theorem qf1 (w:Str):L (qdb w)=qkb (L w):=by
  unfold qdb
  cases c:(L w).head? == some 45 with
  | true =>
    rw [if_pos rfl]
    obtain ⟨r,e,e2⟩:=qdK c
    rw [e2]
    show (qcG (L w) (some 1) none).toArray.toList=r
    rw [qsj,e]
    rfl
  | false=>rw [if_neg (by simp)];exact (qdS c).1.symm
theorem qls {w:Str} (h:asc w):asc (qdb w):=by
  have hl:(qdb w).length≤w.length:=by
    unfold qdb
    split
    · exact qmV _ _ _
    · exact Nat.le_refl _
  refine ⟨?_,by have:=h.2;omega⟩
  rw [← Array.all_toList,List.all_eq_true]
  intro c hc
  have h1:=h.1
  rw [← Array.all_toList,List.all_eq_true] at h1
  refine h1 c ?_
  have hc:c∈L (qdb w):=hc
  rw [qf1] at hc
  unfold qkb at hc
  split at hc
  · next r e =>
    show c∈L w
    rw [e]
    exact List.mem_cons_of_mem _ hc
  · exact hc
def qpG:Option Int→D
  | none=>.non
  | some n=>.int n
def qbD:SpD:=fun ds R=>∃ (w:Str),ds=[.str w]∧asc w∧R (qpG (qcA w))
theorem qrV {w:Str} (h:(w == "0")=true):L w=[48]:=by
  have:=eq_of_beq h
  subst this
  decide
theorem qeD {n:Nat} {f:Addr} {fd:FuncData} (F:Fun K "number_form" "number_form" qbb f fd) (z_int:mg "int"=none) (z_MOST_FIGURES:∃ tk,mg "MOST_FIGURES"=some (.int 4 tk)) (z_all:mg "all"=none) (z_len:mg "len"=none) (z_FIGURES:∃ tk,mg "FIGURES"=some (.str "0123456789" tk)):FnOk P w K mg base CX0 (n+1) f fd ["word"] (lSp K qbD):=by
  refine F.okD sc_number_form (fun ds R h=>?_) (fun cdv A outer s H E ds R hr h=>?_)
  · obtain ⟨w,rfl,_⟩:=h;rfl
  obtain ⟨w,rfl,ha,q⟩:=h
  refine ⟨_,(qbo (qfq (i:=1) sc_number_form.nd rfl (Or.inl rfl) (qqm (qft (PD.q (qlf (dvq 0) qax (qbv qab) qab)) (fun _=>rfl)) (qlT (dvq 0) (qc7 (PD.q qad)) qer) (dv 0)))
      (qbo (qdH (PWD.td (qjm (qaK qqr (PD.q (qaN qb7 rfl z_len PySem.boot_len (qaw (dvq 1) qaG qaa) qaa qac)) (PD.q qad) (qas _)) (qfD (qaK qmg (PD.q (qaN qb7 rfl z_len PySem.boot_len (qaw (dvq 1) qaG qaa) qaa qac)) (PD.q (qfa rfl z_MOST_FIGURES.choose_spec)) (qas _))))) (qaR (qaX qaQ)) qbu)
      (qbo (qdH (qjE (qft (PD.q (qaN (qnp rfl) rfl z_all PyProof.Rows.boot_all (qaw (PD.q (PF.d (qdk (k:=1) (N':=["sign"]) (cap:=[none]) rfl (.ok (show qcO ["word","figures"] (qaf qbb) _ ["sign"] [none]=true by decide +kernel)) (by decide +kernel) (qdw (by decide)) (qna (dv 1)) (fun _ _ _ _ _=>(qck (i:=0) (show List.Nodup (["sign"]:List Str) by decide +kernel) rfl (Or.inl rfl))) (fun _ _ _ _ _=>(qhJ qpF (dvq 0) (PD.q (qi3 rfl z_FIGURES.choose_spec)) (by with_unfolding_all rfl)))))) qaG qaJ) qaJ qac)) (fun _=>rfl))) (qaR (qaX qaQ)) qbu)
      (qbo (qdH (PWD.td (qmQ (qaK (qeG hr.units) (PD.q (qbF (dvq 1) (PD.q qad) (fun _ _=>rfl))) (PD.q qax) (qas _)) (qiL (qaK (qmi hr.units) (dvq 0) (PD.q qax) (qas _))))) (qaR (qaX qaQ)) qbu)
      (qaR (qaX (qaW qpy rfl z_int PyProof.Rows.boot_int (qaw (dvq 0) qaG qaa) qaa qac))))))),?_⟩
  have sz:=qgB ha.2
  have hf:=qls ha
  have szf:=qgB hf.2
  have qn:qj9 (L w)=none→R .non:=fun h=>by have:qcA w=none:=h;rw [this] at q;exact q
  refine ⟨fun ρ=>ρ=[some (.v (.str w)),some (.v (.str (qdb w)))],?_,?_⟩
  · refine ⟨_,rfl,_,rfl,?_⟩
    rw [qfY]
    refine ⟨fun h=>⟨sz,_,rfl,?_⟩,fun h=>?_⟩
    · unfold qdb;rw [if_pos h];rfl
    · unfold qdb;rw [h,if_neg (by simp)];rfl
  rintro ρ rfl
  have f4:∀ f:Str,qeH (L f)=true→1≤f.length∧f.length≤4:=fun f h=>by
    unfold qeH at h
    simp only [Bool.and_eq_true,decide_eq_true_eq,qh1] at h
    exact h.1
  refine ⟨fun ρ=>(1≤(qdb w).length∧(qdb w).length≤4)∧ρ=[some (.v (.str w)),some (.v (.str (qdb w)))],?_,?_⟩
  · have bad:¬ (1≤(qdb w).length∧(qdb w).length≤4)→R .non:=fun h=>qn (qlO (by
      rw [← qf1]
      cases e:qeH (L (qdb w)) with
      | false=>rfl
      | true=>exact absurd (f4 _ e) h))
    refine ⟨szf,fun h=>⟨fun _=>bad ?_,fun h=>tf h⟩,fun h=>⟨szf,fun h2=>bad ?_,fun h2=>⟨⟨?_,?_⟩,rfl⟩⟩⟩
    · have:=of_decide_eq_true h;omega
    · have:=of_decide_eq_true h2;omega
    · have:=of_decide_eq_false h;omega
    · have:=of_decide_eq_false h2;omega
  rintro ρ ⟨⟨l1,l4⟩,rfl⟩
  refine ⟨fun ρ=>qeH (L (qdb w))=true∧ρ=[some (.v (.str w)),some (.v (.str (qdb w)))],⟨qdb w,rfl,hf.1,?_⟩,?_⟩
  · refine qc1 (f:=fun c=>D.str (sgn c)) (fun c=>D.bl (qht c)) (by rw [Array.length_toList];exact qn8 hf.2) (fun c _=>⟨c,_,rfl,rfl,by rw [qo4]⟩) ?_
    refine ⟨(L (qdb w)).map qht,by rw [List.map_map];rfl,?_⟩
    have e:(((L (qdb w)).map qht).all id)=(L (qdb w)).all qht:=by rw [List.all_map];rfl
    have e2:qeH (L (qdb w))=(L (qdb w)).all qht:=by unfold qeH;rw [qh1,decide_eq_true l1,decide_eq_true l4];rfl
    refine ⟨fun h=>?_,fun h=>?_⟩
    · refine qn (qlO ?_)
      rw [← qf1,e2,← e]
      simpa using h
    · refine ⟨?_,rfl⟩
      rw [e2,← e]
      simpa using h
  rintro ρ ⟨hfg,rfl⟩
  have hd:∃ c,(L (qdb w)).head?=some c:=by
    cases e:L (qdb w) with
    | nil=>have:=qh1 (qdb w);rw [e] at this;simp at this;omega
    | cons a r=>exact ⟨a,rfl⟩
  obtain ⟨c,hc⟩:=hd
  have hat:atI (qdb w).cps.toList 0=some c:=qiH (i:=0) (by rw [← List.head?_eq_getElem?];exact hc) rfl
  refine ⟨fun ρ=>(c≠48∨L w=[48])∧ρ=[some (.v (.str w)),some (.v (.str (qdb w)))],⟨szf,c,hat,fun h=>⟨fun h2=>?_,fun h2=>⟨.inr ?_,rfl⟩⟩,fun h=>⟨fun h2=>ff h2,fun _=>⟨.inl fun e=>?_,rfl⟩⟩⟩,?_⟩
  · have e:=eq_of_beq h
    have e0:c=48:=by
      have h9:L (⟨#[c]⟩:Str)=L "0":=congrArg L e
      have:[c]=[48]:=h9.trans (by decide)
      exact List.head_eq_of_cons_eq this
    refine qn (qh9 (by rw [← qf1,hc,e0]) fun z=>?_)
    have:w="0":=qnx (z.trans (by decide))
    rw [this] at h2
    exact ff h2
  · exact qrV (by simpa using h2)
  · subst e
    exact absurd h (by decide)
  rintro ρ ⟨hw,rfl⟩
  rw [qf1] at hfg hc
  obtain ⟨n,hn⟩:=qmf hfg (by rw [hc];rcases hw with h | h;exact .inl (fun e=>h (Option.some.inj e));exact .inr h)
  have hn:qcA w=some n:=hn
  obtain ⟨h1,h2⟩:=qlc hn
  rw [hn] at q
  exact ⟨w,n,rfl,by omega,h1,q⟩
def tmD (t:Tm):D:=.tup [.int t.1,.str t.2]
def qsg:Option (List Tm)→D
  | none=>.non
  | some ts=>.tup (ts.map tmD)
open Tx
def qds:SpD:=fun ds R=>∃ (ws:List Str),ds=[.lst (ws.map D.str)]∧ws.length≤1000∧(∀ w∈ws,asc w)∧R (qsg (qhV ws))
theorem qnC (ws:List Str):cmB 40 (.lst (ws.map D.str)) (.lst [.str "0"])=some (decide (ws=[("0":Str)])):=by
  match ws with
  | []=>rfl
  | [w] =>
    show (if 1=1 then cmL (cmB 39) [.str w] [.str "0"] else some false)=_
    rw [if_pos rfl]
    show ((cmB 39 (.str w) (.str "0")).bind fun b=>(cmL (cmB 39) [] []).map (b && ·))=_
    show some ((w == "0") && true)=_
    rw [Bool.and_true]
    congr 1
    rw [Bool.eq_iff_iff]
    simp
  | w::w2::r =>
    show (if ((w::w2::r).map D.str).length=1 then _ else some false)=_
    rw [if_neg (by simp)]
    simp
theorem qsp {i:Nat} {ρ:Rho} {d:D} {R:D→Prop} (h:ρ[i]?=some (some (.v d))) (k:R d):qkD i ρ R:=by
  unfold qkD
  rw [h]
  exact k
theorem qod {d e:D} {b:Bool} {R:D→Prop} (h:cmB 40 d e=some b) (q:R (.bl b)):zEq d e R:=by
  unfold zEq
  rw [h]
  exact q
def qfT (ws:List Str) (N i:Nat) (ts:List Tm):Prop:=qfH ws=if i=N then some ts else (if i=0∨nth ws (3*i - 1)="+" then (qfH (ws.drop (3*i))).map (ts++·) else none)
theorem qhx {ws:List Str} {i:Nat} {w:Str} (h:ws[i]?=some w):nth ws i=w:=by unfold nth;rw [List.getD_eq_getElem?_getD,h];rfl
theorem qgG {ws:List Str} {i:Nat} {w:Str} (h:ws[i]?=some w):ws.drop i=w::ws.drop (i+1):=by
  obtain ⟨hi,e⟩:=List.getElem?_eq_some_iff.mp h
  rw [← e]
  exact List.drop_eq_getElem_cons hi
theorem qkr {ws:List Str} {N i:Nat} {ts:List Tm} (hN:ws.length+1=3*N) (hi:i<N) (h:qfT ws N i ts):∃ a b,ws[3*i]?=some a∧ws[3*i+1]?=some b∧(qcA a=none→qfH ws=none)∧(qb9 b=false→qfH ws=none)∧(0<i→nth ws (3*i - 1)≠"+"→qfH ws=none)∧∀ n,qcA a=some n→qb9 b=true→(i=0∨nth ws (3*i - 1)="+")→qfT ws N (i+1) (ts++[(n,b)]):=by
  have ha:ws[3*i]?=some (ws[3*i]'(by omega)):=List.getElem?_eq_getElem (by omega)
  have hb:ws[3*i+1]?=some (ws[3*i+1]'(by omega)):=List.getElem?_eq_getElem (by omega)
  generalize ws[3*i]'(by omega)=a at ha
  generalize ws[3*i+1]'(by omega)=b at hb
  have hd:ws.drop (3*i)=a::b::ws.drop (3*i+2):=by rw [qgG ha,qgG hb]
  unfold qfT at h
  rw [if_neg (by omega),hd] at h
  refine ⟨a,b,ha,hb,?_⟩
  by_cases c:i+1=N
  · have e:ws.drop (3*i+2)=[]:=List.drop_eq_nil_of_le (by omega)
    rw [e] at h
    have hs:qfH [a,b]=match qcA a with | some n=>if qb9 b then some [(n,b)] else none | none=>none:=rfl
    rw [hs] at h
    refine ⟨fun z=>?_,fun z=>?_,fun z1 z2=>?_,fun n z1 z2 z3=>?_⟩
    · rw [h,z];split <;> rfl
    · rw [h,z];split
      · cases qcA a <;> rfl
      · rfl
    · rw [h,if_neg (by intro z;rcases z with z | z;omega;exact z2 z)]
    · unfold qfT
      rw [if_pos c,h,if_pos z3,z1]
      show (if qb9 b=true then some [(n,b)] else none).map _=_
      rw [if_pos z2]
      rfl
  · have hp:ws[3*i+2]?=some (ws[3*i+2]'(by omega)):=List.getElem?_eq_getElem (by omega)
    generalize ws[3*i+2]'(by omega)=p at hp
    have e:ws.drop (3*i+2)=p::ws.drop (3*(i+1)):=qgG hp
    rw [e] at h
    have hs:qfH (a::b::p::ws.drop (3*(i+1)))=match qcA a with | some n=>if qb9 b then (if p="+" then (qfH (ws.drop (3*(i+1)))).map ((n,b)::·) else none) else none | none=>none:=by first | (rw [qfH];rfl) | rw [qfH]
    rw [hs] at h
    refine ⟨fun z=>?_,fun z=>?_,fun z1 z2=>?_,fun n z1 z2 z3=>?_⟩
    · rw [h,z];split <;> rfl
    · rw [h,z];split
      · cases qcA a <;> rfl
      · rfl
    · rw [h,if_neg (by intro z;rcases z with z | z;omega;exact z2 z)]
    · unfold qfT
      rw [if_neg c,h,if_pos z3,z1]
      show (if qb9 b=true then (if p="+" then (qfH (ws.drop (3*(i+1)))).map ((n,b)::·) else none) else none).map (ts++·)=_
      rw [if_pos z2,show 3*(i+1) - 1=3*i+2 by omega,qhx hp]
      by_cases cp:p="+"
      · rw [if_pos cp,if_pos (.inr cp),Option.map_map]
        congr 1
        funext x
        simp
      · rw [if_neg cp,if_neg (by intro z;rcases z with z | z;omega;exact cp z)]
        rfl
theorem qjr {n N:Nat} (h:n+1=3*N):qik 0 (n:Int) 3=N:=by
  unfold qik
  omega
theorem qgC {n:Nat} {f:Addr} {fd:FuncData} (F:Fun K "sum_form" "sum_form" qcC f fd) (Q_number_form:Cl P w K mg base n "number_form" ["word"] qbD) (Q_is_name:Cl P w K mg base n "is_name" ["word"] qd4) (z_range:mg "range"=none) (z_tuple:mg "tuple"=none) (z_len:mg "len"=none):FnOk P w K mg base CX0 (n+1) f fd ["words"] (lSp K qds):=by
  refine F.okD sc_sum_form (fun ds R h=>?_) (fun cdv A outer s H E ds R hr h=>?_)
  · obtain ⟨ws,rfl,_⟩:=h;rfl
  obtain ⟨ws,rfl,hl,ha,q⟩:=h
  refine ⟨_,(qbo (qdH (qaK (qeG hr.units) (dvq 0) (PD.q (PF.d (qdJ (qae qax qau qab)))) (qas _)) (qaR (qaX (qbp qau))) qbu)
      (qbo (qdH (qaK (qmi hr.units) (PD.q (qbE qd3 (PD.q (qaN qb7 rfl z_len PySem.boot_len (qaw (dvq 0) qaG qaa) qaa qac)) (PD.q qad))) (PD.q qad) (qas _)) (qaR (qaX qaQ)) qbu)
      (qbU (qoG (i:=1) sc_sum_form.nd rfl (Or.inl rfl) (qdJ qau))
      (qbU (qn6 PassesOwn.never rfl (qkP rfl z_range (qae qad (qae (qaN qb7 rfl z_len PySem.boot_len (qaw (dvq 0) qaG qaa) qaa qac) (qae qad qau qab) qaD) qab)) (qck (i:=2) sc_sum_form.nd rfl (Or.inl rfl)) (qbU (qfq (i:=3) sc_sum_form.nd rfl (Or.inl rfl) (qaP Q_number_form hr rfl (qae (qbF (dvq 0) (dvq 2) (fun _ _=>rfl)) qau qah) qah qac))
      (qbU (qfq (i:=4) sc_sum_form.nd rfl (Or.inl rfl) (qbF (dvq 0) (PD.q (qbE qbH (dvq 2) (PD.q qad))) (fun _ _=>rfl)))
      (qbo (qdH (PWD.td (qjm (qaK qj8 (dvq 3) (PD.q qaQ) (qas _)) (qfD (qjE (qft (PD.q (qaP Q_is_name hr rfl (qae (dv 4) qau qaa) qaa qac)) (fun _=>rfl)))))) (qaR (qaX qaQ)) qbu)
      (qbo (qdH (PWD.td (qmQ (qaK qmg (dvq 2) (PD.q qad) (qas _)) (qiL (qaK (qmi hr.units) (PD.q (qbF (dvq 0) (PD.q (qbE qh8 (dvq 2) (PD.q qad))) (fun _ _=>rfl))) (PD.q qax) (qas _))))) (qaR (qaX qaQ)) qbu)
      (qaR (qlm 1 (qbp (qae (dv 3) (qae (dv 4) qau qaa) qaa)) (qbv qbk) qbk)))))))
      (qaR (qaX (qaW qbJ rfl z_tuple PyProof.Rows.boot_tuple (qaw (dvq 1) qaG qaa) qaa qac))))))),?_⟩
  have at_:∀ {i:Nat} {w:Str} {k:Int},ws[i]?=some w→k=(i:Int)→atI (ws.map D.str) k=some (.str w):=fun h e=>qdx h e
  refine ⟨fun ρ=>ws≠[("0":Str)]∧ρ=[some (.v (.lst (ws.map D.str))),none,none,none,none],?_,?_⟩
  · dsimp only [sIf,qmB,dOp,qrk,qrr,qmj,dC,qpY]
    refine qsp (d:=.lst (ws.map D.str)) rfl ?_
    refine qod (qnC ws) ?_
    refine ⟨fun h=>?_,fun h=>⟨of_decide_eq_false h,rfl⟩⟩
    have h:=of_decide_eq_true h
    unfold qhV at q
    rw [if_pos h] at q
    exact q
  rintro ρ ⟨hne,rfl⟩
  have hq:qhV ws=if ws.length % 3=2 then qfH ws else none:=by unfold qhV;rw [if_neg hne]
  refine ⟨fun ρ=>ws.length % 3=2∧ρ=[some (.v (.lst (ws.map D.str))),none,none,none,none],?_,?_⟩
  · have e:(((ws.map D.str).length:Nat):Int) % 3=((ws.length % 3:Nat):Int):=by rw [List.length_map];omega
    refine ⟨(by decide:(0:Int)<3),fun h=>?_,fun h=>⟨?_,rfl⟩⟩
    · have h2:ws.length % 3≠2:=fun z=>by
        rw [e,z] at h
        exact ff h
      rw [hq,if_neg h2] at q
      exact q
    · by_cases c:ws.length % 3=2
      · exact c
      · exfalso
        rw [e] at h
        have:(((ws.length % 3:Nat):Int) == 2)=true:=by simpa using h
        have:=qnK this
        omega
  rintro ρ ⟨h3,rfl⟩
  rw [hq,if_pos h3] at q
  obtain ⟨N,hN⟩:∃ N,ws.length+1=3*N:=⟨(ws.length+1) / 3,by omega⟩
  have hL:(((ws.map D.str).length:Nat):Int)=(ws.length:Int):=by rw [List.length_map]
  refine ⟨0,_,3,rfl,⟨by decide,by decide,by omega,by omega,by decide,by decide⟩,?_⟩
  refine ⟨fun i ρ=>∃ (ts:List Tm) (u2 u3 u4:Option Sl),ρ=[some (.v (.lst (ws.map D.str))),some (.own (ts.map tmD)),u2,u3,u4]∧ts.length=i∧qfT ws N i ts,⟨[],_,_,_,rfl,rfl,?_⟩,?_,?_⟩
  · unfold qfT
    rw [if_neg (by omega),if_pos (.inl rfl),Nat.mul_zero,List.drop_zero]
    cases qfH ws <;> rfl
  · rintro i d ρ hd ⟨ts,u2,u3,u4,rfl,hi,hs⟩
    unfold qct at hd
    rw [List.getElem?_map] at hd
    obtain ⟨j,hj,rfl⟩:=Option.map_eq_some_iff.mp hd
    obtain ⟨hlt,ej⟩:=List.getElem?_eq_some_iff.mp hj
    rw [List.getElem_range] at ej
    subst ej
    rw [List.length_range,hL,qjr hN] at hlt
    obtain ⟨a,b,hA,hB,n1,n2,n3,go⟩:=qkr hN hlt hs
    have qn:qfH ws=none→R .non:=fun z=>by rw [z] at q;exact q
    have aA:=ha a (List.mem_of_getElem? hA)
    have aB:=ha b (List.mem_of_getElem? hB)
    refine ⟨_,at_ hA (by omega),a,rfl,aA,?_⟩
    refine ⟨_,at_ hB (by omega),?_⟩
    refine ⟨fun ρ=>∃ n,qcA a=some n∧qb9 b=true∧ρ=[some (.v (.lst (ws.map D.str))),some (.own (ts.map tmD)),some (.v (.int (0+(i:Int)*3))),some (.v (.int n)),some (.v (.str b))],?_,?_⟩
    · cases e:qcA a with
      | none=>exact ⟨fun _=>⟨fun _=>qn (n1 e),fun h=>tf h⟩,fun h=>tf h⟩
      | some n =>
        refine ⟨fun h=>ff h,fun _=>⟨b,rfl,aB,?_⟩⟩
        cases e2:qb9 b with
        | false=>exact ⟨fun _=>qn (n2 e2),fun h=>tf h⟩
        | true=>exact ⟨fun h=>ff h,fun _=>⟨n,rfl,rfl,rfl⟩⟩
    rintro ρ ⟨n,hn,hb,rfl⟩
    refine ⟨fun ρ=>(i=0∨nth ws (3*i - 1)="+")∧ρ=[some (.v (.lst (ws.map D.str))),some (.own (ts.map tmD)),some (.v (.int (0+(i:Int)*3))),some (.v (.int n)),some (.v (.str b))],⟨fun h=>?_,fun h=>⟨fun h=>ff h,fun _=>⟨.inl (by have:=of_decide_eq_false h;omega),rfl⟩⟩⟩,?_⟩
    · have h:=of_decide_eq_true h
      have hp:ws[3*i - 1]?=some (ws[3*i - 1]'(by omega)):=List.getElem?_eq_getElem (by omega)
      generalize ws[3*i - 1]'(by omega)=p at hp
      have ep:=qhx hp
      refine ⟨_,at_ hp (by omega),fun h2=>qn (n3 (by omega) ?_),fun h2=>⟨.inr ?_,rfl⟩⟩
      · rw [ep];intro z;subst z;exact ff h2
      · rw [ep];exact eq_of_beq (by simpa using h2)
    rintro ρ ⟨hp,rfl⟩
    refine ⟨qaC (by rw [List.length_map];omega),_,qnl tmD ts (n,b),ts++[(n,b)],_,_,_,rfl,by rw [List.length_append,hi];rfl,go n hn hb hp⟩
  · rintro ρ ⟨ts,u2,u3,u4,rfl,hi,hs⟩
    have e:(qct 0 (((ws.map D.str).length:Nat):Int) 3).length=N:=by unfold qct;rw [List.length_map,List.length_range,hL,qjr hN]
    rw [e] at hs
    unfold qfT at hs
    rw [if_pos rfl] at hs
    rw [hs] at q
    exact q
open Tx
def qj6:Frm→D
  | .unk x l m=>.tup [.str "unknown",.str x,.tup [.int l,qpG m]]
  | .row ts b t=>.tup [.str "row",.tup (ts.map tmD),.int b,.bl t]
  | .worth ts s=>.tup [.str "worth",.tup (ts.map tmD),.int s]
def qnJ:Option Frm→D
  | none=>.non
  | some f=>qj6 f
theorem qch {ws:List Str} {k:Int} (i:Nat) (hi:i<ws.length) (e:k=(i:Int)):atI (ws.map D.str) k=some (.str (nth ws i)):=qdx (by rw [qhx (List.getElem?_eq_getElem hi)];exact List.getElem?_eq_getElem hi) e
theorem qe6 {ws:List Str} {i:Nat} (hi:i<ws.length):nth ws i∈ws:=by rw [qhx (List.getElem?_eq_getElem hi)];exact List.getElem_mem hi
def qcQ:SpD:=fun ds R=>∃ (ws:List Str),ds=[.lst (ws.map D.str)]∧ws.length≤1000∧(∀ w∈ws,asc w)∧R (qnJ (qlt ws))
theorem eqs {a b:Str} (h:(!(a == b))=false):a=b:=eq_of_beq (by simpa using h)
theorem nes {a b:Str} (h:(!(a == b))=true):a≠b:=fun e=>by subst e;simp at h
theorem qmu {n:Nat}:qfI (.inl (n:Int)) [.inl 4,.inl 6]=decide (n=4∨n=6):=by
  rw [Bool.eq_iff_iff,qfk,decide_eq_true_eq]
  simp
  omega
theorem qri {b:Bool} (h:(true != b)=true):b=false:=by cases b <;> simp_all
theorem qrD {b:Bool} (h:(true != b)=false):b=true:=by cases b <;> simp_all
theorem qep {n:Nat} {f:Addr} {fd:FuncData} (F:Fun K "unknown_form" "unknown_form" qbl f fd) (Q_number_form:Cl P w K mg base n "number_form" ["word"] qbD) (Q_is_name:Cl P w K mg base n "is_name" ["word"] qd4) (z_len:mg "len"=none):FnOk P w K mg base CX0 (n+1) f fd ["words"] (lSp K qcQ):=by
  refine F.okD sc_unknown_form (fun ds R h=>?_) (fun cdv A outer s H E ds R hr h=>?_)
  · obtain ⟨ws,rfl,_⟩:=h;rfl
  obtain ⟨ws,rfl,hl,ha,q⟩:=h
  refine ⟨_,(qbo (qdH (PWD.td (qjm (qaK qfv (PD.q (qaN qb7 rfl z_len PySem.boot_len (qaw (dvq 0) qaG qaa) qaa qac)) (PD.q (qbp (qae qad (qae qad qau qab) qab))) (by with_unfolding_all rfl)) (qjm (qaK (qmi hr.units) (PD.q (qbF (dvq 0) (PD.q qad) (fun _ _=>rfl))) (PD.q qax) (qas _)) (qfD (qjE (qft (PD.q (qaP Q_is_name hr rfl (qae (qbF (dvq 0) (PD.q qad) (fun _ _=>rfl)) qau qah) qah qac)) (fun _=>rfl))))))) (qaR (qaX qaQ)) qbu)
      (qbU (qfq (i:=1) sc_unknown_form.nd rfl (Or.inl rfl) (qaP Q_number_form hr rfl (qae (qbF (dvq 0) (PD.q qad) (fun _ _=>rfl)) qau qah) qah qac))
      (qbo (qdH (qaK qj8 (dvq 1) (PD.q qaQ) (qas _)) (qaR (qaX qaQ)) qbu)
      (qbo (qdH (qaK (qeG hr.units) (PD.q (qaN qb7 rfl z_len PySem.boot_len (qaw (dvq 0) qaG qaa) qaa qac)) (PD.q qad) (qas _)) (qaR (qaX (qbp (qae qax (qae (qbF (dvq 0) (PD.q qad) (fun _ _=>rfl)) (qae (qbp (qae (dv 1) (qae qaQ qau qab) qaa)) qau qbk) qah) qab)))) qbu)
      (qbU (qfq (i:=2) sc_unknown_form.nd rfl (Or.inl rfl) (qaP Q_number_form hr rfl (qae (qbF (dvq 0) (PD.q qad) (fun _ _=>rfl)) qau qah) qah qac))
      (qbo (qdH (PWD.td (qjm (qaK (qmi hr.units) (PD.q (qbF (dvq 0) (PD.q qad) (fun _ _=>rfl))) (PD.q qax) (qas _)) (qfD (qaK qj8 (dvq 2) (PD.q qaQ) (qas _))))) (qaR (qaX qaQ)) qbu)
      (qaR (qaX (qbp (qae qax (qae (qbF (dvq 0) (PD.q qad) (fun _ _=>rfl)) (qae (qbp (qae (dv 1) (qae (dv 2) qau qaa) qaa)) qau qbk) qah) qab)))))))))),?_⟩
  have hL:(((ws.map D.str).length:Nat):Int)=(ws.length:Int):=by rw [List.length_map]
  have bad:¬ ((ws.length=4∨ws.length=6)∧nth ws 2="from"∧qb9 (nth ws 1)=true)→R .non:=fun h=>by unfold qlt at q;rw [if_neg h] at q;exact q
  refine ⟨fun ρ=>((ws.length=4∨ws.length=6)∧nth ws 2="from"∧qb9 (nth ws 1)=true)∧ρ=[some (.v (.lst (ws.map D.str))),none,none],?_,?_⟩
  · refine ⟨.inl _,[.inl 4,.inl 6],rfl,rfl,?_⟩
    rw [hL,qmu]
    refine ⟨fun h=>⟨fun _=>bad fun z=>?_,fun h=>tf h⟩,fun h=>?_⟩
    · exact of_decide_eq_false (qri h) z.1
    have h46:=of_decide_eq_true (qrD h)
    refine ⟨_,qch 2 (by omega) rfl,fun h2=>⟨fun _=>bad fun z=>nes h2 z.2.1,fun h=>tf h⟩,fun h2=>?_⟩
    refine ⟨_,qch 1 (by omega) rfl,_,rfl,ha _ (qe6 (by omega)),?_⟩
    cases e:qb9 (nth ws 1) with
    | false=>exact ⟨fun _=>bad fun z=>(by rw [e] at z;cases z.2.2),fun h=>tf h⟩
    | true=>exact ⟨fun h=>ff h,fun _=>⟨⟨h46,eqs h2,rfl⟩,rfl⟩⟩
  rintro ρ ⟨hC,rfl⟩
  unfold qlt at q
  rw [if_pos hC] at q
  have h46:=hC.1
  refine ⟨_,qch 3 (by omega) rfl,_,rfl,ha _ (qe6 (by omega)),?_⟩
  cases e:qcA (nth ws 3) with
  | none =>
    rw [e] at q
    refine ⟨fun ρ=>False,⟨fun _=>q,fun h=>tf h⟩,?_⟩
    rintro ρ ⟨⟩
  | some l =>
    rw [e] at q
    refine ⟨fun ρ=>ρ=[some (.v (.lst (ws.map D.str))),some (.v (.int l)),none],⟨fun h=>ff h,fun _=>rfl⟩,?_⟩
    rintro ρ rfl
    have q:R (qnJ (if ws.length=4 then some (.unk (nth ws 1) l none) else match qcA (nth ws 5) with | none=>none | some m=>if nth ws 4="to" then some (.unk (nth ws 1) l (some m)) else none)):=q
    refine ⟨fun ρ=>ws.length=6∧ρ=[some (.v (.lst (ws.map D.str))),some (.v (.int l)),none],⟨fun h=>?_,fun h=>⟨?_,rfl⟩⟩,?_⟩
    · have h:=qnK h
      rw [if_pos (by omega)] at q
      exact ⟨_,qch 1 (by omega) rfl,q⟩
    · have h:=qrn h
      omega
    rintro ρ ⟨h6,rfl⟩
    rw [if_neg (by omega)] at q
    refine ⟨_,qch 5 (by omega) rfl,_,rfl,ha _ (qe6 (by omega)),?_⟩
    refine ⟨fun ρ=>∃ m,qcA (nth ws 5)=some m∧nth ws 4="to"∧ρ=[some (.v (.lst (ws.map D.str))),some (.v (.int l)),some (.v (.int m))],⟨_,qch 4 (by omega) rfl,fun h=>⟨fun _=>?_,fun h=>tf h⟩,fun h=>?_⟩,?_⟩
    · have:(match qcA (nth ws 5) with | none=>none | some m=>if nth ws 4="to" then some (Frm.unk (nth ws 1) l (some m)) else none)=none:=by
        cases qcA (nth ws 5) with
        | none=>rfl
        | some m=>exact if_neg (nes h)
      rw [this] at q
      exact q
    · cases e5:qcA (nth ws 5) with
      | none=>rw [e5] at q;exact ⟨fun _=>q,fun h=>tf h⟩
      | some m=>exact ⟨fun h=>ff h,fun _=>⟨m,rfl,eqs h,rfl⟩⟩
    rintro ρ ⟨m,e5,e4,rfl⟩
    rw [e5] at q
    have q:R (qnJ (if nth ws 4="to" then some (.unk (nth ws 1) l (some m)) else none)):=q
    rw [if_pos e4] at q
    exact ⟨_,qch 1 (by omega) rfl,q⟩
def qeM:SpD:=fun ds R=>∃ (ws:List Str),ds=[.lst (ws.map D.str)]∧ws.length≤1000∧(∀ w∈ws,asc w)∧R (qnJ (qnG ws))
theorem qe4 {ws:List Str} {k:Int} (i:Nat) (h0:0<i) (hi:i≤ws.length) (e:k = -(i:Int)):atI (ws.map D.str) k=some (.str (nth ws (ws.length - i))):=by
  have h:=qch (ws:=ws) (k:=((ws.length - i:Nat):Int)) (ws.length - i) (by omega) rfl
  rw [← h,e]
  unfold atI ixN
  rw [List.length_map,if_neg (by omega),if_pos (by omega)]
  congr 1
  rw [if_pos (by omega),if_pos (by omega)]
  congr 1
  omega
theorem ql4 {ws:List Str} (h:5≤ws.length):qcG (ws.map D.str) (some 1) (some (-3))=((ws.drop 1).take (ws.length - 4)).map D.str:=by
  rw [qfi]
  congr 1
  unfold qcG
  rw [show (some (1:Int))=some ((1:Nat):Int) from rfl,HT.sIx_nat,Nat.min_eq_left (by omega)]
  have:HT.sIx ws.length ws.length (some (-3))=ws.length - 3:=by unfold HT.sIx;simp;omega
  rw [this,show ws.length - 3 - 1=ws.length - 4 by omega]
theorem qiu {ws:List Str} (h:1≤ws.length):qcG (ws.map D.str) (some 1) none=(ws.drop 1).map D.str:=by
  rw [qfi]
  congr 1
  unfold qcG
  rw [HT.sIx_none,show (some (1:Int))=some ((1:Nat):Int) from rfl,HT.sIx_nat,Nat.min_eq_left h,List.take_of_length_le (by rw [List.length_drop];omega)]
theorem qiZ {x a b:Str}:qfI (.inr x) [.inr a,.inr b]=decide (x=a∨x=b):=by
  rw [Bool.eq_iff_iff,qfk,decide_eq_true_eq]
  simp
theorem qgH {n:Nat} {f:Addr} {fd:FuncData} (F:Fun K "row_form" "row_form" qcE f fd) (Q_sum_form:Cl P w K mg base n "sum_form" ["words"] qds) (Q_number_form:Cl P w K mg base n "number_form" ["word"] qbD) (z_len:mg "len"=none):FnOk P w K mg base CX0 (n+1) f fd ["words"] (lSp K qeM):=by
  refine F.okD sc_row_form (fun ds R h=>?_) (fun cdv A outer s H E ds R hr h=>?_)
  · obtain ⟨ws,rfl,_⟩:=h;rfl
  obtain ⟨ws,rfl,hl,ha,q⟩:=h
  refine ⟨_,(qbo (qdH (PWD.td (qjm (qaK qqr (PD.q (qaN qb7 rfl z_len PySem.boot_len (qaw (dvq 0) qaG qaa) qaa qac)) (PD.q qad) (qas _)) (qjm (qaK (qmi hr.units) (PD.q (qbF (dvq 0) (PD.q (qdi (PD.q qad))) (fun _ _=>rfl))) (PD.q qax) (qas _)) (qfD (qaK qfv (PD.q (qbF (dvq 0) (PD.q (qdi (PD.q qad))) (fun _ _=>rfl))) (PD.q (qbp (qae qax (qae qax qau qab) qab))) (by with_unfolding_all rfl)))))) (qaR (qaX qaQ)) qbu)
      (qbU (qfq (i:=1) sc_row_form.nd rfl (Or.inl rfl) (qaP Q_sum_form hr rfl (qae (qlT (dvq 0) (qc7 (PD.q qad)) (qc7 (PD.q (qdi (PD.q qad))))) qau qah) qah qac))
      (qbU (qfq (i:=2) sc_row_form.nd rfl (Or.inl rfl) (qaP Q_number_form hr rfl (qae (qbF (dvq 0) (PD.q (qdi (PD.q qad))) (fun _ _=>rfl)) qau qah) qah qac))
      (qbo (qdH (PWD.td (qjm (qaK qj8 (dvq 1) (PD.q qaQ) (qas _)) (qfD (qaK qj8 (dvq 2) (PD.q qaQ) (qas _))))) (qaR (qaX qaQ)) qbu)
      (qaR (qaX (qbp (qae qax (qae (dv 1) (qae (dv 2) (qae (qhJ (qeG hr.units) (PD.q (qbF (dvq 0) (PD.q (qdi (PD.q qad))) (fun _ _=>rfl))) (PD.q qax) (qas _)) qau qib) qaa) qaa) qab)))))))),?_⟩
  have bad:¬ (5≤ws.length∧nth ws (ws.length - 3)="at"∧(nth ws (ws.length - 2)="least"∨nth ws (ws.length - 2)="most"))→R .non:=fun h=>by unfold qnG at q;rw [if_neg h] at q;exact q
  refine ⟨fun ρ=>(5≤ws.length∧nth ws (ws.length - 3)="at"∧(nth ws (ws.length - 2)="least"∨nth ws (ws.length - 2)="most"))∧ρ=[some (.v (.lst (ws.map D.str))),none,none],?_,?_⟩
  · have hL:(((ws.map D.str).length:Nat):Int)=(ws.length:Int):=by rw [List.length_map]
    refine ⟨fun h=>⟨fun _=>bad fun z=>?_,fun h=>tf h⟩,fun h=>?_⟩
    · have:=of_decide_eq_true h;omega
    have h5:5≤ws.length:=by have:=of_decide_eq_false h;omega
    refine ⟨_,qe4 3 (by decide) (by omega) rfl,fun h2=>⟨fun _=>bad fun z=>nes h2 z.2.1,fun h=>tf h⟩,fun h2=>?_⟩
    refine ⟨_,qe4 2 (by decide) (by omega) rfl,.inr _,[.inr "least",.inr "most"],rfl,rfl,?_⟩
    rw [qiZ]
    refine ⟨fun h3=>bad fun z=>?_,fun h3=>⟨⟨h5,eqs h2,?_⟩,rfl⟩⟩
    · exact of_decide_eq_false (qri h3) z.2.2
    · exact of_decide_eq_true (qrD h3)
  rintro ρ ⟨hC,rfl⟩
  unfold qnG at q
  rw [if_pos hC] at q
  have h5:=hC.1
  refine ⟨_,ql4 h5,_,rfl,?_,fun w hw=>ha w (List.mem_of_mem_drop (List.mem_of_mem_take hw)),?_⟩
  · rw [List.length_take,List.length_drop];omega
  refine ⟨_,qe4 1 (by decide) (by omega) rfl,_,rfl,ha _ (qe6 (by omega)),?_⟩
  refine ⟨fun ρ=>∃ ts b,qhV ((ws.drop 1).take (ws.length - 4))=some ts∧qcA (nth ws (ws.length - 1))=some b∧ρ=[some (.v (.lst (ws.map D.str))),some (.v (.tup (ts.map tmD))),some (.v (.int b))],?_,?_⟩
  · cases e1:qhV ((ws.drop 1).take (ws.length - 4)) with
    | none=>rw [e1] at q;exact ⟨fun _=>⟨fun _=>q,fun h=>tf h⟩,fun h=>tf h⟩
    | some ts =>
      refine ⟨fun h=>ff h,fun _=>?_⟩
      cases e2:qcA (nth ws (ws.length - 1)) with
      | none=>rw [e1,e2] at q;exact ⟨fun _=>q,fun h=>tf h⟩
      | some b=>exact ⟨fun h=>ff h,fun _=>⟨ts,b,rfl,rfl,rfl⟩⟩
  rintro ρ ⟨ts,b,e1,e2,rfl⟩
  rw [e1,e2] at q
  exact ⟨_,qe4 2 (by decide) (by omega) rfl,q⟩
def qdz:SpD:=fun ds R=>∃ (ws:List Str),ds=[.lst (ws.map D.str)]∧1≤ws.length∧ws.length≤1000∧(∀ w∈ws,asc w)∧R (qnJ (qd9 ws))
theorem qfm {n:Nat} {f:Addr} {fd:FuncData} (F:Fun K "worth_form" "worth_form" qbS f fd) (Q_sum_form:Cl P w K mg base n "sum_form" ["words"] qds):FnOk P w K mg base CX0 (n+1) f fd ["words"] (lSp K qdz):=by
  refine F.okD sc_worth_form (fun ds R h=>?_) (fun cdv A outer s H E ds R hr h=>?_)
  · obtain ⟨ws,rfl,_⟩:=h;rfl
  obtain ⟨ws,rfl,h1,hl,ha,q⟩:=h
  refine ⟨_,(qbU (qfq (i:=1) sc_worth_form.nd rfl (Or.inl rfl) (qaP Q_sum_form hr rfl (qae (qlT (dvq 0) (qc7 (PD.q qad)) qer) qau qah) qah qac))
      (qbo (qdH (qaK qj8 (dvq 1) (PD.q qaQ) (qas _)) (qaR (qaX qaQ)) qbu)
      (qaR (qaX (qbp (qae qax (qae (dv 1) (qae (qqm (qaK (qeG hr.units) (PD.q (qbF (dvq 0) (PD.q qad) (fun _ _=>rfl))) (PD.q qax) (qas _)) qad (qdi (PD.q qad))) qau qfx) qaa) qab)))))),?_⟩
  unfold qd9 at q
  refine ⟨_,qiu h1,_,rfl,by rw [List.length_drop];omega,fun w hw=>ha w (List.mem_of_mem_drop hw),?_⟩
  cases e1:qhV (ws.drop 1) with
  | none =>
    rw [e1] at q
    refine ⟨fun ρ=>False,⟨fun _=>q,fun h=>tf h⟩,?_⟩
    rintro ρ ⟨⟩
  | some ts =>
    rw [e1] at q
    refine ⟨fun ρ=>ρ=[some (.v (.lst (ws.map D.str))),some (.v (.tup (ts.map tmD)))],⟨fun h=>ff h,fun _=>rfl⟩,?_⟩
    rintro ρ rfl
    have q:R (qj6 (.worth ts (if nth ws 0="most" then 1 else -1))):=q
    refine ⟨_,qch 0 (by omega) rfl,fun h=>?_,fun h=>?_⟩
    · rw [if_pos (eq_of_beq h)] at q;exact q
    · rw [if_neg (fun z=>by rw [z] at h;simp at h)] at q;exact q
theorem qg8 {c:Nat} {s w:Str}:∀ {ws:List Str},w∈ws→c∈L w→c∈L (Str.join s ws)
  | [x],hw,hc=>by rw [List.mem_singleton.mp hw] at hc;exact hc
  | x::y::r,hw,hc=>by
    rw [qcH]
    rcases List.mem_cons.mp hw with rfl | hw
    · exact List.mem_append_left _ hc
    · exact List.mem_append_right _ (List.mem_append_right _ (qg8 hw hc))
theorem qit {x:Str} (h:asc x):∀ w∈Txt.split x " ",asc w:=fun w hw=>by
  have hl:=PyProof.Rows.part_short hw
  refine ⟨?_,by have:=h.2;omega⟩
  have h1:=h.1
  rw [← Array.all_toList,List.all_eq_true] at h1 ⊢
  intro c hc
  refine h1 c ?_
  have e:=PySem.StrLaws.join_split x " "
  have:c∈L (Str.join " " (Txt.split x " ")):=qg8 hw hc
  rw [e] at this
  exact this
def qd8:SpD:=fun ds R=>∃ (x:Str),ds=[.str x]∧asc x∧x.length≤900∧R (qnJ (qiW x))
theorem qgl {n:Nat} {f:Addr} {fd:FuncData} (F:Fun K "line_form" "line_form" qb1 f fd) (Q_unknown_form:Cl P w K mg base n "unknown_form" ["words"] qcQ) (Q_row_form:Cl P w K mg base n "row_form" ["words"] qeM) (Q_worth_form:Cl P w K mg base n "worth_form" ["words"] qdz):FnOk P w K mg base CX0 (n+1) f fd ["line"] (lSp K qd8):=by
  refine F.okD sc_line_form (fun ds R h=>?_) (fun cdv A outer s H E ds R hr h=>?_)
  · obtain ⟨x,rfl,_⟩:=h;rfl
  obtain ⟨x,rfl,ha,hx,q⟩:=h
  refine ⟨_,(qbU (qfq (i:=1) sc_line_form.nd rfl (Or.inl rfl) (PF.d (qjo (dvq 0) qax (qbv qab) qab)))
      (qbo (qdH (qaK (qeG hr.units) (PD.q (qbF (dvq 1) (PD.q qad) (fun _ _=>rfl))) (PD.q qax) (qas _)) (qaR (qaX (qaP Q_unknown_form hr rfl (qae (dv 1) qau qaa) qaa qac))) qbu)
      (qbo (qdH (qaK (qeG hr.units) (PD.q (qbF (dvq 1) (PD.q qad) (fun _ _=>rfl))) (PD.q qax) (qas _)) (qaR (qaX (qaP Q_row_form hr rfl (qae (dv 1) qau qaa) qaa qac))) qbu)
      (qbo (qdH (qaK qrm (PD.q (qbF (dvq 1) (PD.q qad) (fun _ _=>rfl))) (PD.q (qbp (qae qax (qae qax qau qab) qab))) (by with_unfolding_all rfl)) (qaR (qaX (qaP Q_worth_form hr rfl (qae (dv 1) qau qaa) qaa qac))) qbu)
      (qaR (qaX qaQ)))))),?_⟩
  have hs:=qit ha
  have h1:=PyProof.Rows.split_pos x " "
  have h2:=PyProof.Rows.split_le x " "
  unfold qiW qjI at q
  obtain ⟨ws,hws⟩:∃ ws,ws=Txt.split x " ":=⟨_,rfl⟩
  rw [← hws] at hs h1 h2 q
  refine ⟨_,rfl,_,rfl,by decide,by have:=sizeLine_eq;omega,?_⟩
  rw [← hws]
  refine ⟨fun ρ=>nth ws 0≠"unknown"∧ρ=[some (.v (.str x)),some (.v (.lst (ws.map D.str)))],⟨_,qch 0 (by omega) rfl,fun h=>?_,fun h=>⟨fun z=>(by rw [z] at h;simp at h),rfl⟩⟩,?_⟩
  · rw [if_pos (eq_of_beq h)] at q
    exact ⟨ws,rfl,by omega,hs,q⟩
  rintro ρ ⟨n1,rfl⟩
  rw [if_neg n1] at q
  refine ⟨fun ρ=>nth ws 0≠"row"∧ρ=[some (.v (.str x)),some (.v (.lst (ws.map D.str)))],⟨_,qch 0 (by omega) rfl,fun h=>?_,fun h=>⟨fun z=>(by rw [z] at h;simp at h),rfl⟩⟩,?_⟩
  · rw [if_pos (eq_of_beq h)] at q
    exact ⟨ws,rfl,by omega,hs,q⟩
  rintro ρ ⟨n2,rfl⟩
  rw [if_neg n2] at q
  refine ⟨fun ρ=>¬ (nth ws 0="most"∨nth ws 0="least"),⟨_,qch 0 (by omega) rfl,.inr _,[.inr "most",.inr "least"],rfl,rfl,?_⟩,?_⟩
  · rw [qiZ,Bool.false_bne]
    refine ⟨fun h=>?_,fun h=>of_decide_eq_false h⟩
    rw [if_pos (of_decide_eq_true h)] at q
    exact ⟨ws,rfl,by omega,by omega,hs,q⟩
  rintro ρ n3
  rw [if_neg n3] at q
  exact q
open Tx
def look (ts:List Tm) (x:Str):Int:=match ts.find? (fun t=>decide (t.2=x)) with | some t=>t.1 | none=>0
def qcu (ns:List Str) (ts:List Tm):List Int:=ns.map (look ts)
theorem qfZ {ts:List Tm} {n:Int} {x y:Str} (h:y≠x):look (ts++[(n,x)]) y=look ts y:=by
  unfold look
  rw [List.find?_append]
  cases e:ts.find? (fun t=>decide (t.2=y)) with
  | some t=>rfl
  | none =>
    have:decide (x=y)=false:=decide_eq_false (Ne.symm h)
    simp [List.find?_cons,this]
theorem qgk {ts:List Tm} {n:Int} {x:Str} (h:x∉ts.map (·.2)):look (ts++[(n,x)]) x=n:=by
  unfold look
  rw [List.find?_append]
  have e:ts.find? (fun t=>decide (t.2=x))=none:=by
    rw [List.find?_eq_none]
    intro t ht hx
    exact h (List.mem_map.mpr ⟨t,ht,of_decide_eq_true hx⟩)
  rw [e]
  simp [List.find?_cons]
theorem qjS {ns:List Str} {ts:List Tm} {n:Int} {x:Str} {j:Nat} (hn:ns.Nodup) (hx:x∉ts.map (·.2)) (hj:ns[j]?=some x):qcu ns (ts++[(n,x)])=(qcu ns ts).set j n:=by
  unfold qcu
  refine List.ext_getElem? fun i=>?_
  rw [List.getElem?_map]
  by_cases c:j=i
  · subst c
    rw [hj,List.getElem?_set_self (by rw [List.length_map];exact qag hj)]
    show some (look _ x)=_
    rw [qgk hx]
  · rw [List.getElem?_set_ne c,List.getElem?_map]
    cases e:ns[i]? with
    | none=>rfl
    | some y =>
      have:y≠x:=fun z=>c ((List.getElem?_inj (qag hj) hn).mp (by rw [hj,e,z]))
      show some (look _ y)=some (look _ y)
      rw [qfZ this]
theorem qkd (ns:List Str):(qcu ns []).map D.int=List.replicate ns.length (.int 0):=by
  unfold qcu
  rw [List.map_map]
  refine List.ext_getElem? fun i=>?_
  rw [List.getElem?_map,List.getElem?_replicate]
  by_cases c:i<ns.length
  · rw [List.getElem?_eq_getElem c,if_pos c];rfl
  · rw [List.getElem?_eq_none (by omega),if_neg c];rfl
theorem qjx {xs:List Str} {x:Str} (h:x∈xs) (hl:xs.length≤1000) {R:D→Prop} (k:∀ j:Nat,j<xs.length→xs[j]?=some x→R (.int (j:Int))):qeR (.lst (xs.map D.str)) (.str x) R:=by
  have hj:xs.findIdx (fun s=>s == x)<xs.length:=List.findIdx_lt_length_of_exists ⟨x,h,beq_self_eq_true x⟩
  unfold qeR
  refine ⟨by rw [List.length_map];exact hl,xs.map (fun s=>s == x),xs.findIdx (fun s=>s == x),by simp,fun i d b hd hb=>?_,?_,fun i hi=>?_,k _ hj ?_⟩
  · obtain ⟨s,rfl,hs⟩:=qci hd
    rw [List.getElem?_map,hs] at hb
    cases hb
    rfl
  · rw [List.getElem?_map,qao hj]
    exact congrArg some (List.findIdx_getElem (p:=fun s=>s == x))
  · have hi':i<xs.length:=by omega
    rw [List.getElem?_map,qao hi']
    have:=List.not_of_lt_findIdx hi
    show some (xs[i] == x)=some false
    simpa using this
  · have:=List.findIdx_getElem (p:=fun s=>s == x) (w:=hj)
    rw [qao hj]
    exact congrArg some (eq_of_beq this)
def qm1 (ns:List Str) (ts:List Tm):Prop:=(∀ t∈ts,t.2∈ns)∧(ts.map (·.2)).Nodup
theorem qgT (xs:List Str):xs.map D.str=(xs.map Sum.inr).map qk6:=by rw [List.map_map];rfl
theorem qeh {x:Str} {xs:List Str}:qfI (.inr x) (xs.map Sum.inr)=decide (x∈xs):=by
  rw [Bool.eq_iff_iff,qfk,decide_eq_true_eq]
  simp
def qcd:SpD:=fun ds R=>∃ (ts:List Tm) (ns:List Str) (at_:D),ds=[.tup (ts.map tmD),.lst (ns.map D.str),at_]∧ns.Nodup∧ns.length≤8∧ts.length≤900∧qm1 ns ts∧R (.tup ((qcu ns ts).map D.int))
theorem qh5 {ts:List Tm} {i:Nat} {t:Tm} (hn:(ts.map (·.2)).Nodup) (h:ts[i]?=some t):t.2∉(ts.take i).map (·.2):=fun hm=>by
  rw [List.map_take] at hm
  obtain ⟨k,hk⟩:=List.getElem?_of_mem hm
  have hki:k<i:=by have:=qag hk;rw [List.length_take] at this;omega
  rw [List.getElem?_take_of_lt hki] at hk
  have h2:(ts.map (·.2))[i]?=some t.2:=by rw [List.getElem?_map,h];rfl
  have:=(List.getElem?_inj (qag hk) hn).mp (hk.trans h2.symm)
  omega
theorem qoo {n j:Nat} (h:j<n):ixN n (j:Int)=some j:=by unfold ixN;rw [if_pos (by omega),if_pos (by omega)];rfl
theorem qey {n:Nat} {f:Addr} {fd:FuncData} (F:Fun K "sum_entries" "sum_entries" qbB f fd) (z_tuple:mg "tuple"=none) (z_len:mg "len"=none):FnOk P w K mg base CX0 (n+1) f fd ["terms","names","at"] (lSp K qcd):=by
  refine F.okD sc_sum_entries (fun ds R h=>?_) (fun cdv A outer s H E ds R hr h=>?_)
  · obtain ⟨ts,ns,at_,rfl,_⟩:=h;rfl
  obtain ⟨ts,ns,at_,rfl,hn,hl,htl,ht,q⟩:=h
  refine ⟨_,(qbU (qoG (i:=3) sc_sum_entries.nd rfl (Or.inl rfl) (qn3 (PD.q (PF.d (qdJ (qae qad qau qab)))) (PD.q (qaN qb7 rfl z_len PySem.boot_len (qaw (dvq 1) qaG qaa) qaa qac))))
      (qbU (qon (i:=4) sc_sum_entries.nd rfl (Or.inl rfl))
      (qbU (qn6 PassesOwn.never rfl (qfP (dv 0)) (ql7 (n:=2) rfl (qdg (qck (i:=5) sc_sum_entries.nd rfl (Or.inl rfl)) (qdg (qck (i:=6) sc_sum_entries.nd rfl (Or.inl rfl)) qiO))) (qbo (qdH (qaK qfv (dvq 6) (dvq 1) (by with_unfolding_all rfl)) (qaR qiI) qbu)
      (qbo (qdH (qqh 4 hr.units (dv 6)) (qaR qiI) qbu)
      (qbU (qoK 4 hr.units (dv 6) qkg)
      (qaR (qp0 3 (dv 5) (PD.q (qmS hr.units (dvq 1) (dv 6) rfl (qbv qaa) qaa))))))))
      (qaR (qaX (qaW qbJ rfl z_tuple PyProof.Rows.boot_tuple (qaw (dvq 3) qaG qaa) qaa qac)))))),?_⟩
  have hL:(((ns.map D.str).length:Nat):Int)=(ns.length:Int):=by rw [List.length_map]
  refine ⟨⟨by omega,by omega,small (by show 1*_≤1000;omega)⟩,(qcu ns []).map D.int,?_,?_⟩
  · rw [qmz,qkd,hL,Int.toNat_natCast,List.map_replicate]
  refine ⟨fun i ρ=>∃ (u5 u6:Option Sl),ρ=[some (.v (.tup (ts.map tmD))),some (.v (.lst (ns.map D.str))),some (.v at_),some (.own ((qcu ns (ts.take i)).map D.int)),some (.dct (((ts.take i).map (·.2)).map Sum.inr)),u5,u6],⟨_,_,rfl⟩,?_,?_⟩
  · rintro i d ρ hd ⟨u5,u6,rfl⟩
    obtain ⟨t,rfl,hti⟩:=qci hd
    have hm:=ht.1 t (List.mem_of_getElem? hti)
    have hno:=qh5 ht.2 hti
    have hi:=qag hti
    refine ⟨rfl,?_⟩
    refine ⟨fun ρ=>ρ=[some (.v (.tup (ts.map tmD))),some (.v (.lst (ns.map D.str))),some (.v at_),some (.own ((qcu ns (ts.take i)).map D.int)),some (.dct (((ts.take i).map (·.2)).map Sum.inr)),some (.v (.int t.1)),some (.v (.str t.2))],⟨.inr t.2,ns.map Sum.inr,rfl,by rw [← qgT];rfl,?_⟩,?_⟩
    · rw [qeh,decide_eq_true hm]
      exact ⟨fun h=>ff h,fun _=>rfl⟩
    rintro ρ rfl
    refine ⟨fun ρ=>ρ=[some (.v (.tup (ts.map tmD))),some (.v (.lst (ns.map D.str))),some (.v at_),some (.own ((qcu ns (ts.take i)).map D.int)),some (.dct (((ts.take i).map (·.2)).map Sum.inr)),some (.v (.int t.1)),some (.v (.str t.2))],⟨.inr t.2,rfl,?_⟩,?_⟩
    · rw [qeh,decide_eq_false hno]
      exact ⟨fun h=>ff h,fun _=>rfl⟩
    rintro ρ rfl
    have e1:=qbI hti
    refine ⟨.inr t.2,rfl,qaC (by rw [List.length_map,List.length_map,List.length_take];omega),((ts.take (i+1)).map (·.2)).map Sum.inr,?_,?_⟩
    · rw [qeh,decide_eq_false hno,if_neg (by simp),e1,List.map_append,List.map_append]
      rfl
    refine ⟨trivial,?_⟩
    show qeR (.lst (ns.map D.str)) (.str t.2) _
    refine qjx hm (by omega) fun j hj hjs=>?_
    refine ⟨j,qoo (by rw [List.length_map];unfold qcu;rw [List.length_map];exact hj),(qcu ns (ts.take (i+1))).map D.int,?_,_,_,rfl⟩
    rw [e1,show t=(t.1,t.2) from rfl,qjS hn hno hjs,List.map_set]
  · rintro ρ ⟨u5,u6,rfl⟩
    rw [List.length_map,List.take_length]
    exact q
abbrev Bdn:=Int × Option Int
abbrev Rw:=List Int × Int
def qkR (b:Bdn):D:=.tup [.int b.1,qpG b.2]
def rwD (r:Rw):D:=.tup [.tup (r.1.map D.int),.int r.2]
def trR (r:Rw):Rw:=(r.1.map fun x=>-x,-r.2)
def qhG:SpD:=fun ds R=>∃ r:Rw,ds=[rwD r]∧r.1.length≤1000∧R (rwD (trR r))
theorem qip {n:Nat} {f:Addr} {fd:FuncData} (F:Fun K "turned" "turned" qcY f fd) (z_tuple:mg "tuple"=none):FnOk P w K mg base CX0 (n+1) f fd ["row"] (lSp K qhG):=by
  refine F.okD qj5 (fun ds R h=>?_) (fun cdv A outer s H E ds R hr h=>?_)
  · obtain ⟨r,rfl,_⟩:=h;rfl
  obtain ⟨r,rfl,hl,q⟩:=h
  refine ⟨_,(qaR (qaX (qbp (qae (qaW qbJ rfl z_tuple PyProof.Rows.boot_tuple (qaw (PD.q (PF.d (qdk (k:=1) (N':=["entry"]) (cap:=[none]) rfl (.ok (show qcO ["row"] (qaf qcY) _ ["entry"] [none]=true by decide +kernel)) (by decide +kernel) (qdw (by decide)) (qfP (qbF (dvq 0) (PD.q qad) (fun _ _=>rfl))) (fun _ _ _ _ _=>(qck (i:=0) (show List.Nodup (["entry"]:List Str) by decide +kernel) rfl (Or.inl rfl))) (fun _ _ _ _ _=>(qdi (dvq 0)))))) qaG qaJ) qaJ qac) (qae (qdi (PD.q (qbF (dvq 0) (PD.q qad) (fun _ _=>rfl)))) qau qcz) qaD)))),?_⟩
  refine ⟨_,rfl,?_⟩
  refine qgj (f:=D.int) (fun x=>-x) (qaC hl) (fun x _=>rfl) ?_
  exact ⟨_,rfl,q⟩
theorem qc6 (es:List Int):NoL (.tup (es.map D.int)):=.tup fun d hd=>by
  obtain ⟨x,_,rfl⟩:=List.mem_map.mp hd
  exact .int x
theorem qfL (r:Rw):NoL (rwD r):=.tup fun d hd=>by
  simp only [List.mem_cons,List.not_mem_nil,or_false] at hd
  rcases hd with rfl | rfl
  · exact qc6 _
  · exact .int _
theorem qgv (b:Bdn):NoL (qkR b):=.tup fun d hd=>by
  simp only [List.mem_cons,List.not_mem_nil,or_false] at hd
  rcases hd with rfl | rfl
  · exact .int _
  · cases b.2
    · exact .non
    · exact .int _
structure Rd where
  ns:List Str
  bs:List Bdn
  rs:List Rw
  wo:Option Rw
def qqM:Option Rw→D
  | none=>.non
  | some w=>rwD w
def rdF (s:Rd):List (Str × Fl):=[("names",.l (s.ns.map D.str)),("bounds",.l (s.bs.map qkR)),("rows",.l (s.rs.map rwD)),("worth",.v (qqM s.wo))]
abbrev rdO (s:Rd):Om:=.obj "Reading" (rdF s)
def rd0:Rd:=⟨[],[],[],none⟩
structure RdOk (s:Rd):Prop where
  nd:s.ns.Nodup
  nl:s.ns.length≤8
  rl:s.rs.length≤12
  bl:s.bs.length≤8
def qlq (s:Rd) (x:Str) (l:Int) (m:Option Int):Rd:={ s with ns:=s.ns++[x],bs:=s.bs++[(l,m)] }
def qkj (s:Rd) (ts:List Tm) (b:Int) (t:Bool):Rd:={ s with rs:=s.rs++[if t then trR (qcu s.ns ts,b) else (qcu s.ns ts,b)] }
def qpv (s:Rd) (ts:List Tm) (sn:Int):Rd:={ s with wo:=some (qcu s.ns ts,sn) }
inductive StepOk (s:Rd):Frm→Rd→Prop where
  | unk {x:Str} {l:Int} {m:Option Int}:s.rs=[]→x∉s.ns→s.ns.length<8→StepOk s (.unk x l m) (qlq s x l m)
  | row {ts:List Tm} {b:Int} {t:Bool}:qm1 s.ns ts→ts.length≤900→s.rs.length<12→StepOk s (.row ts b t) (qkj s ts b t)
  | worth {ts:List Tm} {sn:Int}:qm1 s.ns ts→ts.length≤900→StepOk s (.worth ts sn) (qpv s ts sn)
def qbL:SpM:=fun as R _=>∃ (a:Option Addr),as=[.ob a (.obj "Reading" [])]∧R (.v .non) [rdO rd0]
theorem qcL {n:Nat} {f:Addr} {fd:FuncData} (F:Fun K "__init__" "Reading.__init__" qaA f fd) {C_Reading:Addr} (T_Reading:TxtReading K mg C_Reading):FnOk P w K mg base CX0 (n+1) f fd ["self"] (qdD K qbL):=by
  refine F.okM qcJ (fun as R Rx h=>?_) (fun cdv A outer s H E as R Rx qs hcd hr h hqs=>?_)
  · obtain ⟨a,rfl,_⟩:=h;rfl
  obtain ⟨a,rfl,q⟩:=h
  obtain ⟨pa,rfl⟩:=qih hqs
  refine ⟨_,(qan (qgX 0 T_Reading.cl T_Reading.n_names T_Reading.ns (qle (qdJ qau)))
      (qan (qgX 0 T_Reading.cl T_Reading.n_bounds T_Reading.ns (qle (qdJ qau)))
      (qan (qgX 0 T_Reading.cl T_Reading.n_rows T_Reading.ns (qle (qdJ qau)))
      (qaL (qlJ 0 T_Reading.cl T_Reading.n_worth T_Reading.ns (qaO qaQ)))))),?_⟩
  refine ⟨_,_,rfl,rfl,(by decide),_,rfl,?_⟩
  refine ⟨_,_,rfl,rfl,(by show 1<1000;decide),_,rfl,?_⟩
  refine ⟨_,_,rfl,rfl,(by show 2<1000;decide),_,rfl,?_⟩
  refine ⟨_,_,rfl,rfl,(by show 3<1000;decide),rdF rd0,rfl,?_⟩
  exact ⟨_,rfl,q⟩
def qbg:SpM:=fun as R _=>∃ (a:Option Addr) (s:Rd) (x:Str) (l:Int) (m:Option Int) (at_:D),as=[.ob a (rdO s),.v (qj6 (.unk x l m)),.v at_]∧RdOk s∧s.rs=[]∧x∉s.ns∧s.ns.length<8∧R (.v .non) [rdO (qlq s x l m)]
theorem qbX {n:Nat} {f:Addr} {fd:FuncData} (F:Fun K "read_unknown" "Reading.read_unknown" qaq f fd) {C_Reading:Addr} (T_Reading:TxtReading K mg C_Reading) (z_MOST_UNKNOWNS:∃ tk,mg "MOST_UNKNOWNS"=some (.int 8 tk)) (z_len:mg "len"=none):FnOk P w K mg base CX0 (n+1) f fd ["self","form","at"] (qdD K qbg):=by
  refine F.okM qb0 (fun as R Rx h=>?_) (fun cdv A outer s H E as R Rx qs hcd hr h hqs=>?_)
  · obtain ⟨a,s,x,l,m,at_,rfl,_⟩:=h;rfl
  obtain ⟨a,s,x,l,m,at_,rfl,hs,h0,hx,h8,q⟩:=h
  obtain ⟨pa,rfl⟩:=qih hqs
  refine ⟨_,(qcw (qe7 (qdh (qaK qmg (PD.q (qaN qb7 rfl z_len PySem.boot_len (qaw (PD.q (qde T_Reading.cl T_Reading.n_rows T_Reading.ns (dvq 0))) qaG qar) qar qac)) (PD.q qad) (qas _))) (qaL qdu) qc0)
      (qcw (qe7 (qdh (qaK qrm (PD.q (qbF (dvq 1) (PD.q qad) (fun _ _=>rfl))) (PD.q (qde T_Reading.cl T_Reading.n_names T_Reading.ns (dvq 0))) (by with_unfolding_all rfl))) (qaL qdu) qc0)
      (qcw (qe7 (qdh (qaK (qeG hr.units) (PD.q (qaN qb7 rfl z_len PySem.boot_len (qaw (PD.q (qde T_Reading.cl T_Reading.n_names T_Reading.ns (dvq 0))) qaG qar) qar qac)) (PD.q (qfa rfl z_MOST_UNKNOWNS.choose_spec)) (qas _))) (qaL qdu) qc0)
      (qan (qiY 0 T_Reading.cl T_Reading.n_names T_Reading.ns (qbF (dvq 1) (PD.q qad) (fun _ _=>rfl)) (qbv qah) qah)
      (qaL (qiY 0 T_Reading.cl T_Reading.n_bounds T_Reading.ns (qbF (dvq 1) (PD.q qad) (fun _ _=>rfl)) (qbv qah) qah)))))),?_⟩
  have n8:=hs.nl
  have b8:=hs.bl
  refine ⟨fun ρ=>ρ=[some (.ob (some pa) (rdO s)),some (.v (qj6 (.unk x l m))),some (.v at_)],⟨rfl,_,rfl,fun h=>?_,fun _=>rfl⟩,?_⟩
  · rw [h0] at h;exact ff h
  rintro ρ rfl
  refine ⟨fun ρ=>ρ=[some (.ob (some pa) (rdO s)),some (.v (qj6 (.unk x l m))),some (.v at_)],⟨_,rfl,rfl,_,rfl,.inr x,s.ns.map Sum.inr,rfl,by rw [← qgT];rfl,?_⟩,?_⟩
  · rw [qeh,decide_eq_false hx]
    exact ⟨fun h=>ff h,fun _=>rfl⟩
  rintro ρ rfl
  refine ⟨fun ρ=>ρ=[some (.ob (some pa) (rdO s)),some (.v (qj6 (.unk x l m))),some (.v at_)],⟨rfl,_,rfl,fun h=>?_,fun _=>rfl⟩,?_⟩
  · have:=qnK h
    rw [List.length_map] at this
    omega
  rintro ρ rfl
  refine ⟨_,_,s.ns.map D.str,rfl,rfl,_,rfl,.str _,qaC (by rw [List.length_map];omega),rdF { s with ns:=s.ns++[x] },(by show _=rdF _;rw [rdF,rdF,List.map_append];rfl),?_⟩
  refine ⟨_,_,s.bs.map qkR,rfl,rfl,_,rfl,qgv (l,m),qaC (by rw [List.length_map];omega),rdF (qlq s x l m),(by show _=rdF _;rw [rdF,rdF,qlq,List.map_append,List.map_append];rfl),?_⟩
  exact ⟨_,rfl,q⟩
def qbM:SpM:=fun as R _=>∃ (a:Option Addr) (s:Rd) (ts:List Tm) (b:Int) (t:Bool) (at_:D),as=[.ob a (rdO s),.v (qj6 (.row ts b t)),.v at_]∧RdOk s∧qm1 s.ns ts∧ts.length≤900∧s.rs.length<12∧R (.v .non) [rdO (qkj s ts b t)]
theorem qcI {n:Nat} {f:Addr} {fd:FuncData} (F:Fun K "read_row" "Reading.read_row" qaz f fd) {C_Reading:Addr} (T_Reading:TxtReading K mg C_Reading) (Q_sum_entries:Cl P w K mg base n "sum_entries" ["terms","names","at"] qcd) (Q_turned:Cl P w K mg base n "turned" ["row"] qhG) (z_MOST_ROWS:∃ tk,mg "MOST_ROWS"=some (.int 12 tk)) (z_len:mg "len"=none):FnOk P w K mg base CX0 (n+1) f fd ["self","form","at"] (qdD K qbM):=by
  refine F.okM sc_Reading__read_row (fun as R Rx h=>?_) (fun cdv A outer s H E as R Rx qs hcd hr h hqs=>?_)
  · obtain ⟨a,s,ts,b,t,at_,rfl,_⟩:=h;rfl
  obtain ⟨a,s,ts,b,t,at_,rfl,hs,ht,htl,h12,q⟩:=h
  obtain ⟨pa,rfl⟩:=qih hqs
  refine ⟨_,(qan (qaM (i:=3) sc_Reading__read_row.nd rfl (Or.inl rfl) (qeK (qaP Q_sum_entries hr rfl (qae (qbF (dvq 1) (PD.q qad) (fun _ _=>rfl)) (qae (qde T_Reading.cl T_Reading.n_names T_Reading.ns (dvq 0)) (qae (dv 2) qau qaa) qar) qah) qah (qaj qar (qaj qaa qac)))))
      (qcw (qe7 (qdh (qaK (qeG hr.units) (PD.q (qaN qb7 rfl z_len PySem.boot_len (qaw (PD.q (qde T_Reading.cl T_Reading.n_rows T_Reading.ns (dvq 0))) qaG qar) qar qac)) (PD.q (qfa rfl z_MOST_ROWS.choose_spec)) (qas _))) (qaL qdu) qc0)
      (qan (qaM (i:=4) sc_Reading__read_row.nd rfl (Or.inl rfl) (qaO (qbp (qae (dv 3) (qae (qbF (dvq 1) (PD.q qad) (fun _ _=>rfl)) qau qah) qaa))))
      (qaL (qiY 0 T_Reading.cl T_Reading.n_rows T_Reading.ns (qqm (qft (PD.q (qbF (dvq 1) (PD.q qad) (fun _ _=>rfl))) (fun _=>rfl)) (qaP Q_turned hr rfl (qae (dv 4) qau qaa) qaa qac) (dv 4)) (qbv qfx) qfx))))),?_⟩
  have n8:=hs.nl
  refine ⟨_,rfl,rfl,_,rfl,ts,s.ns,at_,rfl,hs.nd,hs.nl,htl,ht,qc6 _,?_⟩
  dsimp only [qam,qal,qa0,qa6,qbr,qbi,qbs,List.set]
  refine ⟨fun ρ=>ρ=[some (.ob (some pa) (rdO s)),some (.v (qj6 (.row ts b t))),some (.v at_),some (.v (.tup ((qcu s.ns ts).map D.int))),none],⟨rfl,_,rfl,fun h=>?_,fun _=>rfl⟩,?_⟩
  · have:=qnK h
    rw [List.length_map] at this
    omega
  rintro ρ rfl
  refine ⟨_,rfl,?_⟩
  dsimp only [qam,qal,qa0,qa6,qbr,qbi,qbs,List.set]
  have hel:(qcu s.ns ts).length≤1000:=by unfold qcu;rw [List.length_map];omega
  have fin:∀ r:Rw,(if t then trR (qcu s.ns ts,b) else (qcu s.ns ts,b))=r→qdI "rows" (.l (s.rs.map rwD++[rwD r])) (rdF s)=rdF (qkj s ts b t):=fun r e=>by
    unfold qkj
    rw [e]
    show _=rdF _
    rw [rdF,rdF,List.map_append]
    rfl
  cases t with
  | true=>exact ⟨_,_,s.rs.map rwD,rfl,rfl,_,rfl,fun _=>⟨(qcu s.ns ts,b),rfl,hel,qfL _,qaC (by rw [List.length_map];omega),_,fin _ rfl,_,rfl,q⟩,fun h=>tf h⟩
  | false=>exact ⟨_,_,s.rs.map rwD,rfl,rfl,_,rfl,fun h=>ff h,fun _=>⟨qfL (qcu s.ns ts,b),qaC (by rw [List.length_map];omega),_,fin _ rfl,_,rfl,q⟩⟩
def qbx:SpM:=fun as R _=>∃ (a:Option Addr) (s s':Rd) (x:Str) (f:Frm) (at_:D),as=[.ob a (rdO s),.v (.str x),.v at_]∧RdOk s∧asc x∧x.length≤900∧qiW x=some f∧s.wo=none∧StepOk s f s'∧R (.v .non) [rdO s']
theorem qcn {n:Nat} {f:Addr} {fd:FuncData} (F:Fun K "read_line" "Reading.read_line" qay f fd) {C_Reading:Addr} (T_Reading:TxtReading K mg C_Reading) (Q_line_form:Cl P w K mg base n "line_form" ["line"] qd8) (Q_sum_entries:Cl P w K mg base n "sum_entries" ["terms","names","at"] qcd) (R_Reading__read_unknown:MthM P w K mg base n C_Reading "read_unknown" ["self","form","at"] qbg) (R_Reading__read_row:MthM P w K mg base n C_Reading "read_row" ["self","form","at"] qbM):FnOk P w K mg base CX0 (n+1) f fd ["self","line","at"] (qdD K qbx):=by
  refine F.okM sc_Reading__read_line (fun as R Rx h=>?_) (fun cdv A outer s H E as R Rx qs hcd hr h hqs=>?_)
  · obtain ⟨a,s,s',x,f,at_,rfl,_⟩:=h;rfl
  obtain ⟨a,s,s',x,f,at_,rfl,hs,hx,hl,hf,hw,hst,q⟩:=h
  obtain ⟨pa,rfl⟩:=qih hqs
  refine ⟨_,(qan (qaM (i:=3) sc_Reading__read_line.nd rfl (Or.inl rfl) (qaO (qaP Q_line_form hr rfl (qae (dv 1) qau qaa) qaa qac)))
      (qcw (qe7 (qdh (PWD.td (qjm (qaK qj8 (dvq 3) (PD.q qaQ) (qas _)) (qfD (qaK qng (PD.q (qde T_Reading.cl T_Reading.n_worth T_Reading.ns (dvq 0))) (PD.q qaQ) (qas _)))))) (qaL qdu) qc0)
      (qaL (qe7 (qdG (qaK (qeG hr.units) (PD.q (qbF (dvq 3) (PD.q qad) (fun _ _=>rfl))) (PD.q qax) (qas _))) (qaL (qiB (qiM 0 R_Reading__read_unknown hr T_Reading.cl T_Reading.ns (qav (qaO (dv 3)) (qav (qaO (dv 2)) qaI qaa) qaa) qaa (qaj qaa qac)))) (qaL (qe7 (qdG (qaK (qeG hr.units) (PD.q (qbF (dvq 3) (PD.q qad) (fun _ _=>rfl))) (PD.q qax) (qas _))) (qaL (qiB (qiM 0 R_Reading__read_row hr T_Reading.cl T_Reading.ns (qav (qaO (dv 3)) (qav (qaO (dv 2)) qaI qaa) qaa) qaa (qaj qaa qac)))) (qaL (qlJ 0 T_Reading.cl T_Reading.n_worth T_Reading.ns (qeK (qbp (qae (qaP Q_sum_entries hr rfl (qae (qbF (dvq 3) (PD.q qad) (fun _ _=>rfl)) (qae (qde T_Reading.cl T_Reading.n_names T_Reading.ns (dvq 0)) (qae (dv 2) qau qaa) qar) qah) qah (qaj qar (qaj qaa qac))) (qae (qbF (dvq 3) (PD.q qad) (fun _ _=>rfl)) qau qah) qaD))))))))))),?_⟩
  refine ⟨x,rfl,hx,hl,?_⟩
  rw [hf]
  have wn:qqM s.wo=.non:=by rw [hw];rfl
  cases hst with
  | @unk nx nl nm h1 h2 h3 =>
    dsimp only [qam,qal,qa0,qa6,qbr,qbi,qbs,List.set]
    refine ⟨fun ρ=>ρ=[some (.ob (some pa) (rdO s)),some (.v (.str x)),some (.v at_),some (.v (qj6 (.unk nx nl nm)))],⟨fun h=>ff h,fun _=>⟨rfl,_,rfl,?_⟩⟩,?_⟩
    · rw [wn];exact ⟨fun h=>ff h,fun _=>rfl⟩
    rintro ρ rfl
    exact ⟨_,rfl,fun _=>⟨⟨_,_,rfl,rfl⟩,_,rfl,rfl,_,s,_,_,_,at_,rfl,hs,h1,h2,h3,_,rfl,q⟩,fun h=>tf h⟩
  | @row ts nb nt h1 h2 h3 =>
    dsimp only [qam,qal,qa0,qa6,qbr,qbi,qbs,List.set]
    refine ⟨fun ρ=>ρ=[some (.ob (some pa) (rdO s)),some (.v (.str x)),some (.v at_),some (.v (qj6 (.row ts nb nt)))],⟨fun h=>ff h,fun _=>⟨rfl,_,rfl,?_⟩⟩,?_⟩
    · rw [wn];exact ⟨fun h=>ff h,fun _=>rfl⟩
    rintro ρ rfl
    exact ⟨_,rfl,fun h=>ff h,fun _=>⟨_,rfl,fun _=>⟨⟨_,_,rfl,rfl⟩,_,rfl,rfl,_,s,_,_,_,at_,rfl,hs,h1,h2,h3,_,rfl,q⟩,fun h=>tf h⟩⟩
  | @worth ts sn h1 h2 =>
    dsimp only [qam,qal,qa0,qa6,qbr,qbi,qbs,List.set]
    refine ⟨fun ρ=>ρ=[some (.ob (some pa) (rdO s)),some (.v (.str x)),some (.v at_),some (.v (qj6 (.worth ts sn)))],⟨fun h=>ff h,fun _=>⟨rfl,_,rfl,?_⟩⟩,?_⟩
    · rw [wn];exact ⟨fun h=>ff h,fun _=>rfl⟩
    rintro ρ rfl
    refine ⟨_,rfl,fun h=>ff h,fun _=>⟨_,rfl,fun h=>ff h,fun _=>⟨_,rfl,rfl,_,rfl,ts,s.ns,at_,rfl,hs.nd,hs.nl,h2,h1,_,rfl,qfL (qcu s.ns ts,sn),?_⟩⟩⟩
    exact ⟨_,_,rfl,rfl,(by show 4<1000;decide),rdF (qpv s ts sn),rfl,_,rfl,q⟩
open Tx
def qcf:SpD:=fun ds R=>∃ es:List Int,ds=[.tup (es.map D.int)]∧es.length≤1000∧R (.tup ((es.map fun x=>-x).map D.int))
theorem qdj {n:Nat} {f:Addr} {fd:FuncData} (F:Fun K "turned_numbers" "turned_numbers" qaU f fd) (z_tuple:mg "tuple"=none):FnOk P w K mg base CX0 (n+1) f fd ["entries"] (lSp K qcf):=by
  refine F.okD qdt (fun ds R h=>?_) (fun cdv A outer s H E ds R hr h=>?_)
  · obtain ⟨es,rfl,_⟩:=h;rfl
  obtain ⟨es,rfl,hl,q⟩:=h
  refine ⟨_,(qaR (qaX (qaW qbJ rfl z_tuple PyProof.Rows.boot_tuple (qaw (PD.q (PF.d (qdk (k:=1) (N':=["entry"]) (cap:=[none]) rfl (.ok (show qcO ["entries"] (qaf qaU) _ ["entry"] [none]=true by decide +kernel)) (by decide +kernel) (qdw (by decide)) (qfP (dv 0)) (fun _ _ _ _ _=>(qck (i:=0) (show List.Nodup (["entry"]:List Str) by decide +kernel) rfl (Or.inl rfl))) (fun _ _ _ _ _=>(qdi (dvq 0)))))) qaG qaJ) qaJ qac))),?_⟩
  refine qgj (f:=D.int) (fun x=>-x) (qaC hl) (fun x _=>rfl) ?_
  exact q
structure Rdg (fs:List Frm) (g:Nat→Rd):Prop where
  z:g 0=rd0
  st:∀ (i:Nat) (f:Frm),fs[i]?=some f→StepOk (g i) f (g (i+1))∧(g i).wo=none
  ok:∀ i,RdOk (g i)
def qmI (sn:Int) (es:List Int):List Int:=if sn = -1 then es.map fun x=>-x else es
def qnB (s:Rd) (es:List Int) (sn:Int):D:=.tup [.tup (s.ns.map D.str),.tup [.tup (s.bs.map qkR),.tup (s.rs.map rwD),.tup ((qmI sn es).map D.int)],.int sn]
def qec:SpD:=fun ds R=>∃ (fs:List Frm) (g:Nat→Rd) (es:List Int) (sn:Int),ds=[.str (Str.join "\n" (fs.map qbK))]∧fs≠[]∧fs.length≤40∧(∀ f∈fs,qex f∧(qbK f).length≤900)∧Rdg fs g∧(g fs.length).wo=some (es,sn)∧es.length≤1000∧R (qnB (g fs.length) es sn)
theorem qmm {f:Frm} (h:qex f) (hl:(qbK f).length≤900):asc (qbK f):=by
  refine ⟨?_,by omega⟩
  rw [← Array.all_toList,List.all_eq_true]
  intro c hc
  have:=qeP h c hc
  exact decide_eq_true (by omega)
theorem qc2 {s:Str}:∀ {ws:List Str} {B:Nat},(∀ w∈ws,w.length≤B)→(Str.join s ws).length≤ws.length*(B+s.length)
  | [],B,_=>by show 0≤_;omega
  | [x],B,h=>by
    have:=h x List.mem_cons_self
    show x.length≤1*(B+s.length)
    omega
  | x::y::r,B,h=>by
    have h1:=h x List.mem_cons_self
    have h2:=qc2 (s:=s) (ws:=y::r) (B:=B) fun w hw=>h w (List.mem_cons_of_mem _ hw)
    show (x++s++Str.join s (y::r)).length≤_
    rw [qa4,qa4]
    simp only [List.length_cons] at h2 ⊢
    rw [Nat.succ_mul]
    omega
abbrev SP (x:D) (s:Rd) (ls:List Str) (u3 u4 u5 u6 u7:Option Sm):qaB:=[some (.v x),some (.ob none (rdO s)),some (.v (.lst (ls.map D.str))),u3,u4,u5,u6,u7]
theorem qfJ {n:Nat} {f:Addr} {fd:FuncData} (F:Fun K "read_plan" "read_plan" qcb f fd) {C_Reading:Addr} (T_Reading:TxtReading K mg C_Reading) (Q_turned_numbers:Cl P w K mg base (n+1) "turned_numbers" ["entries"] qcf) (R_Reading____init__:MkM P w K mg base n C_Reading ["self"] qbL) (R_Reading__read_line:MthM P w K mg base (n+1) C_Reading "read_line" ["self","line","at"] qbx) (z_enumerate:mg "enumerate"=none) (z_tuple:mg "tuple"=none) (z_len:mg "len"=none):FnOk P w K mg base CX0 (n+2) f fd ["text"] (qdD K (zM qec)):=by
  refine F.okM sc_read_plan (fun as R Rx h=>?_) (fun cdv A outer s H E as R Rx qs hcd hr h hqs=>?_)
  · obtain ⟨_,rfl,fs,g,es,sn,rfl,_⟩:=h;rfl
  obtain ⟨_,rfl,fs,g,es,sn,rfl,hne,hl,hf,hg,hw,hes,q⟩:=h
  obtain rfl:=qpI hqs
  refine ⟨_,(qan (qaM (i:=1) sc_read_plan.nd rfl (Or.inl rfl) (qmJ R_Reading____init__ hr rfl T_Reading.mgC T_Reading.ns))
      (qan (qaM (i:=2) sc_read_plan.nd rfl (Or.inl rfl) (qaO (PF.d (qjo (dvq 0) qax (qbv qab) qab))))
      (qan (qfG PassesOwn.never rfl (qeB (qmc rfl z_enumerate (qae (dv 2) qau qaa))) (qkX (n:=2) rfl (qcr (qbq (i:=3) sc_read_plan.nd rfl (Or.inl rfl)) (qcr (qbq (i:=4) sc_read_plan.nd rfl (Or.inl rfl)) qhs))) (qaL (qiB (qiM 1 R_Reading__read_line hr T_Reading.cl T_Reading.ns (qav (qaO (dv 4)) (qav (qaO (qbE qbH (dvq 3) (PD.q qad))) qaI qbz) qaa) qaa (qaj qbz qac)))))
      (qcw (qe7 (qdh (qaK qj8 (PD.q (qde T_Reading.cl T_Reading.n_worth T_Reading.ns (dvq 1))) (PD.q qaQ) (qas _))) (qaL qdu) qc0)
      (qan (qaM (i:=5) sc_read_plan.nd rfl (Or.inl rfl) (qeK (qbF (PD.q (qde T_Reading.cl T_Reading.n_worth T_Reading.ns (dvq 1))) (PD.q qad) (fun _ _=>rfl))))
      (qan (qaM (i:=6) sc_read_plan.nd rfl (Or.inl rfl) (qeK (qbF (PD.q (qde T_Reading.cl T_Reading.n_worth T_Reading.ns (dvq 1))) (PD.q qad) (fun _ _=>rfl))))
      (qcw (qe7 (qdG (qaK (qeG hr.units) (dvq 6) (PD.q (qdi (PD.q qad))) (qas _))) (qaL (qaM (i:=5) sc_read_plan.nd rfl (Or.inl rfl) (qaO (qaP Q_turned_numbers hr rfl (qae (dv 5) qau qaa) qaa qac)))) qc0)
      (qan (qaM (i:=7) sc_read_plan.nd rfl (Or.inl rfl) (qeK (qbp (qae (qaW qbJ rfl z_tuple PyProof.Rows.boot_tuple (qaw (PD.q (qde T_Reading.cl T_Reading.n_bounds T_Reading.ns (dvq 1))) qaG qar) qar qac) (qae (qaW qbJ rfl z_tuple PyProof.Rows.boot_tuple (qaw (PD.q (qde T_Reading.cl T_Reading.n_rows T_Reading.ns (dvq 1))) qaG qar) qar qac) (qae (dv 5) qau qaa) qaD) qaD))))
      (qaL (qcl (qeK (qbp (qae (qaW qbJ rfl z_tuple PyProof.Rows.boot_tuple (qaw (PD.q (qde T_Reading.cl T_Reading.n_names T_Reading.ns (dvq 1))) qaG qar) qar qac) (qae (dv 7) (qae (dv 6) qau qaa) qaa) qaD))))))))))))),?_⟩
  have hls:=qnz hne fun f hf'=>(hf f hf').1
  have htl:(Str.join "\n" (fs.map qbK)).length≤100000:=by
    have:=qc2 (s:="\n") (ws:=fs.map qbK) (B:=900) fun w hw=>by
      obtain ⟨f,hf',rfl⟩:=List.mem_map.mp hw
      exact (hf f hf').2
    have e:("\n":Str).length=1:=by decide
    rw [e,List.length_map] at this
    omega
  have hlf:=hg.ok fs.length
  refine ⟨none,rfl,?_⟩
  dsimp only [qam,qal,qa0,qa6,qbr,qbi,qbs,List.set]
  refine ⟨_,rfl,_,rfl,by decide,by have:=sizeLine_eq;omega,?_⟩
  rw [hls]
  dsimp only [qam,qal,qa0,qa6,qbr,qbi,qbs,List.set]
  refine ⟨fun i ρ=>∃ u3 u4:Option Sm,ρ=SP (.str (Str.join "\n" (fs.map qbK))) (g i) (fs.map qbK) u3 u4 none none none,⟨_,_,by rw [hg.z];rfl⟩,?_,?_⟩
  · rintro i d ρ hd ⟨u3,u4,rfl⟩
    obtain ⟨y,hy,rfl⟩:=qhp hd
    obtain ⟨x,rfl,hx⟩:=qci hy
    rw [List.getElem?_map] at hx
    obtain ⟨f,hfi,rfl⟩:=Option.map_eq_some_iff.mp hx
    obtain ⟨h1,h2⟩:=hg.st i f hfi
    have hk:=hf f (List.mem_of_getElem? hfi)
    refine ⟨rfl,?_⟩
    dsimp only [qam,qal,qa0,qa6,qbr,qbi,qbs,List.set]
    refine ⟨⟨_,_,rfl,rfl⟩,_,rfl,rfl,_,g i,g (i+1),qbK f,f,_,rfl,hg.ok i,qmm hk.1 hk.2,hk.2,qmw hk.1,h2,h1,_,_,rfl⟩
  rintro ρ ⟨u3,u4,rfl⟩
  rw [qd1,List.length_map,List.length_map]
  refine ⟨fun ρ=>ρ=SP (.str (Str.join "\n" (fs.map qbK))) (g fs.length) (fs.map qbK) u3 u4 none none none,⟨rfl,_,rfl,?_⟩,?_⟩
  · rw [hw];exact ⟨fun h=>ff h,fun _=>rfl⟩
  rintro ρ rfl
  have ew:qqM (g fs.length).wo=rwD (es,sn):=by rw [hw];rfl
  refine ⟨rfl,_,rfl,?_⟩
  rw [ew]
  refine ⟨_,rfl,qc6 _,?_⟩
  dsimp only [qam,qal,qa0,qa6,qbr,qbi,qbs,List.set]
  refine ⟨rfl,_,rfl,?_⟩
  rw [ew]
  refine ⟨_,rfl,.int _,?_⟩
  dsimp only [qam,qal,qa0,qa6,qbr,qbi,qbs,List.set]
  refine ⟨fun ρ=>ρ=SP (.str (Str.join "\n" (fs.map qbK))) (g fs.length) (fs.map qbK) u3 u4 (some (.v (.tup ((qmI sn es).map D.int)))) (some (.v (.int sn))) none,⟨fun h=>?_,fun h=>?_⟩,?_⟩
  · have h:=qnK h
    exact ⟨es,rfl,hes,by unfold qmI;rw [if_pos h];rfl⟩
  · have h:=qrn h
    unfold qmI
    rw [if_neg h]
    rfl
  rintro ρ rfl
  refine ⟨rfl,_,rfl,rfl,_,rfl,?_,?_⟩
  · refine .tup fun d hd=>?_
    simp only [List.mem_cons,List.not_mem_nil,or_false] at hd
    rcases hd with rfl | rfl | rfl
    · refine .tup fun e he=>?_
      obtain ⟨b,_,rfl⟩:=List.mem_map.mp he
      exact qgv b
    · refine .tup fun e he=>?_
      obtain ⟨b,_,rfl⟩:=List.mem_map.mp he
      exact qfL b
    · exact qc6 _
  dsimp only [qam,qal,qa0,qa6,qbr,qbi,qbs,List.set]
  refine ⟨rfl,_,rfl,?_,q⟩
  refine .tup fun d hd=>?_
  simp only [List.mem_cons,List.not_mem_nil,or_false] at hd
  rcases hd with rfl | rfl | rfl
  · refine .tup fun e he=>?_
    obtain ⟨b,_,rfl⟩:=List.mem_map.mp he
    exact .str b
  · refine .tup fun d hd=>?_
    simp only [List.mem_cons,List.not_mem_nil,or_false] at hd
    rcases hd with rfl | rfl | rfl
    · refine .tup fun e he=>?_
      obtain ⟨b,_,rfl⟩:=List.mem_map.mp he
      exact qgv b
    · refine .tup fun e he=>?_
      obtain ⟨b,_,rfl⟩:=List.mem_map.mp he
      exact qfL b
    · exact qc6 _
  · exact .int _
open Tx
theorem qbd (s x y:Str) (r:List Str):Str.join s (x::y::r)=x++s++Str.join s (y::r):=rfl
theorem qjw:("unknown ":Str)="unknown"++" ":=by decide
theorem qhi:(" from ":Str)=" "++("from"++" "):=by decide
theorem qo2:(" to ":Str)=" "++("to"++" "):=by decide
theorem qkI:(" + ":Str)=" "++("+"++" "):=by decide
theorem qjt:("row ":Str)="row"++" ":=by decide
theorem qiz:(" at least ":Str)=" "++("at"++(" "++("least"++" "))):=by decide
theorem qjG:(" at most ":Str)=" "++("at"++(" "++("most"++" "))):=by decide
theorem qqi:("most ":Str)="most"++" ":=by decide
theorem qqW:("least ":Str)="least"++" ":=by decide
theorem qsx (x:Str) (l:Int):"unknown "++(x++(" from "++nstr l))=qbK (.unk x l none):=by
  unfold qbK qeA
  rw [qbd,qbd,qbd,qjw,qhi]
  simp only [Str.append_assoc]
  rfl
theorem qql (x:Str) (l m:Int):"unknown "++(x++(" from "++(nstr l++(" to "++nstr m))))=qbK (.unk x l (some m)):=by
  unfold qbK qeA
  rw [qbd,qbd,qbd,qbd,qbd,qjw,qhi,qo2]
  simp only [Str.append_assoc]
  rfl
theorem qbO {s:Str}:∀ {xs ys:List Str},xs≠[]→ys≠[]→Str.join s (xs++ys)=Str.join s xs++(s++Str.join s ys)
  | [],_,h,_=>absurd rfl h
  | [x],y::ys,_,_=>by rw [List.singleton_append,qbd,Str.append_assoc];rfl
  | [x],[],_,h=>absurd rfl h
  | x::x2::xs,ys,_,h=>by
    rw [List.cons_append,List.cons_append,qbd,qbd,← List.cons_append,qbO (xs:=x2::xs) (by simp) h]
    simp only [Str.append_assoc]
theorem qd2:∀ ts:List Tm,qaZ ts≠[]
  | []=>by simp [qaZ]
  | [(n,x)]=>by simp [qaZ]
  | (n,x)::_::_=>by simp [qaZ]
def tmS (t:Tm):Str:=nstr t.1++(" "++t.2)
theorem qrp:∀ {ts:List Tm},ts≠[]→Str.join " + " (ts.map tmS)=Str.join " " (qaZ ts)
  | [],h=>absurd rfl h
  | [(n,x)],_=>by
    show tmS (n,x)=Str.join " " [nstr n,x]
    rw [qbd,Str.append_assoc]
    rfl
  | (n,x)::(m,y)::r,_=>by
    have ih:=qrp (ts:=(m,y)::r) (by simp)
    show Str.join " + " (tmS (n,x)::tmS (m,y)::r.map tmS)=Str.join " " ([nstr n,x,"+"]++qaZ ((m,y)::r))
    rw [qbd,qbO (by simp) (qd2 _)]
    have ih:Str.join " + " (tmS (m,y)::r.map tmS)=_:=ih
    rw [ih]
    show (nstr n++(" "++x))++" + "++_=Str.join " " [nstr n,x,"+"]++_
    rw [qbd,qbd,qkI]
    simp only [Str.append_assoc]
    rfl
def qhH (ts:List Tm):Str:=Str.join " " (qaZ ts)
theorem qsE (ts:List Tm) (b:Int):"row "++(qhH ts++(" at least "++nstr b))=qbK (.row ts b false):=by
  unfold qhH
  show _=Str.join " " (("row":Str)::(qaZ ts++atW false b))
  have e:("row":Str)::(qaZ ts++atW false b)=[("row":Str)]++(qaZ ts++atW false b):=rfl
  rw [e,qbO (by simp) (by simp [atW]),qbO (qd2 ts) (by simp [atW]),qjt,qiz]
  show _="row"++(" "++(Str.join " " (qaZ ts)++(" "++Str.join " " [("at":Str),"least",nstr b])))
  rw [qbd,qbd]
  simp only [Str.append_assoc]
  rfl
theorem qqF (ts:List Tm) (b:Int):"row "++(qhH ts++(" at most "++nstr b))=qbK (.row ts b true):=by
  unfold qhH
  show _=Str.join " " (("row":Str)::(qaZ ts++atW true b))
  have e:("row":Str)::(qaZ ts++atW true b)=[("row":Str)]++(qaZ ts++atW true b):=rfl
  rw [e,qbO (by simp) (by simp [atW]),qbO (qd2 ts) (by simp [atW]),qjt,qjG]
  show _="row"++(" "++(Str.join " " (qaZ ts)++(" "++Str.join " " [("at":Str),"most",nstr b])))
  rw [qbd,qbd]
  simp only [Str.append_assoc]
  rfl
theorem qlD (ts:List Tm):"most "++qhH ts=qbK (.worth ts 1)∧"least "++qhH ts=qbK (.worth ts (-1)):=by
  have e:∀ x:Str,x::qaZ ts=[x]++qaZ ts:=fun _=>rfl
  constructor
  · unfold qhH
    show _=Str.join " " (("most":Str)::qaZ ts)
    rw [e,qbO (by simp) (qd2 ts),qqi,Str.append_assoc]
    rfl
  · unfold qhH
    show _=Str.join " " (("least":Str)::qaZ ts)
    rw [e,qbO (by simp) (qd2 ts),qqW,Str.append_assoc]
    rfl
abbrev Rwt:=List Tm × Int × Bool
def qlL (ns:List Str) (r:Rwt):Rw:=if r.2.2 then trR (qcu ns r.1,r.2.1) else (qcu ns r.1,r.2.1)
def qka (ns:List Str) (bs:List Bdn) (rs:List Rwt) (wts:List Tm) (sn:Int):List Frm:=(List.zipWith (fun x b=>Frm.unk x b.1 b.2) ns bs)++(rs.map (fun r=>Frm.row r.1 r.2.1 r.2.2)++[Frm.worth wts sn])
def gSt (ns:List Str) (bs:List Bdn) (rs:List Rwt) (wts:List Tm) (sn:Int) (i:Nat):Rd :=
  if i≤ns.length then ⟨ns.take i,bs.take i,[],none⟩ else if i≤ns.length+rs.length then ⟨ns,bs,(rs.take (i - ns.length)).map (qlL ns),none⟩ else ⟨ns,bs,rs.map (qlL ns),some (qcu ns wts,sn)⟩
theorem qfc {ns:List Str} {bs:List Bdn} {rs:List Rwt} {wts:List Tm} {sn:Int} (hb:bs.length=ns.length) {k:Nat} (hk:k≤rs.length):gSt ns bs rs wts sn (ns.length+k)=⟨ns,bs,(rs.take k).map (qlL ns),none⟩:=by
  unfold gSt
  by_cases c:k=0
  · subst c
    rw [if_pos (by omega),Nat.add_zero,List.take_length,← hb,List.take_length]
    rfl
  · rw [if_neg (by omega),if_pos (by omega),Nat.add_sub_cancel_left]
theorem qoI {ns:List Str} {bs:List Bdn} {rs:List Rwt} {wts:List Tm} {sn:Int} (hn:ns.Nodup) (h8:ns.length≤8) (hb:bs.length=ns.length) (h12:rs.length≤12) (hr:∀ r∈rs,qm1 ns r.1∧r.1.length≤900) (hw:qm1 ns wts) (hwl:wts.length≤900):Rdg (qka ns bs rs wts sn) (gSt ns bs rs wts sn):=by
  have hz:(List.zipWith (fun x b=>Frm.unk x b.1 b.2) ns bs).length=ns.length:=by rw [List.length_zipWith,hb,Nat.min_self]
  refine ⟨by unfold gSt;rw [if_pos (by omega),List.take_zero,List.take_zero];rfl,fun i f hf=>?_,fun i=>?_⟩
  · unfold qka at hf
    rcases Nat.lt_or_ge i ns.length with c | c
    · rw [List.getElem?_append_left (by omega),List.getElem?_zipWith] at hf
      have hx:ns[i]?=some ns[i]:=List.getElem?_eq_getElem c
      have hbi:bs[i]?=some (bs[i]'(by omega)):=List.getElem?_eq_getElem (by omega)
      rw [hx,hbi] at hf
      cases hf
      have e1:gSt ns bs rs wts sn i=⟨ns.take i,bs.take i,[],none⟩:=by unfold gSt;rw [if_pos (by omega)]
      have e2:gSt ns bs rs wts sn (i+1)=⟨ns.take (i+1),bs.take (i+1),[],none⟩:=by unfold gSt;rw [if_pos (by omega)]
      rw [e1,e2,qbI hx,qbI hbi]
      refine ⟨.unk rfl (fun hm=>?_) (by show (ns.take i).length<8;rw [List.length_take];omega),rfl⟩
      have hm:ns[i]∈ns.take i:=hm
      obtain ⟨k,hk⟩:=List.getElem?_of_mem hm
      have hki:k<i:=by have:=qag hk;rw [List.length_take] at this;omega
      rw [List.getElem?_take_of_lt hki] at hk
      have:=(List.getElem?_inj (qag hk) hn).mp (hk.trans hx.symm)
      omega
    · obtain ⟨k,rfl⟩:∃ k,i=ns.length+k:=⟨i - ns.length,by omega⟩
      rw [List.getElem?_append_right (by omega),hz,Nat.add_sub_cancel_left] at hf
      rcases Nat.lt_or_ge k rs.length with c2 | c2
      · rw [List.getElem?_append_left (by rw [List.length_map];exact c2),List.getElem?_map] at hf
        have hx:rs[k]?=some rs[k]:=List.getElem?_eq_getElem c2
        rw [hx] at hf
        cases hf
        obtain ⟨h1,h2⟩:=hr rs[k] (List.getElem_mem c2)
        rw [qfc hb (by omega),Nat.add_assoc,qfc hb (by omega),qbI hx,List.map_append]
        exact ⟨.row h1 h2 (by show ((rs.take k).map (qlL ns)).length<12;rw [List.length_map,List.length_take];omega),rfl⟩
      · rw [List.getElem?_append_right (by rw [List.length_map];exact c2),List.length_map] at hf
        obtain rfl:k=rs.length:=by
          have:=qag hf
          simp at this
          omega
        rw [Nat.sub_self] at hf
        cases hf
        have e2:gSt ns bs rs wts sn (ns.length+rs.length+1)=⟨ns,bs,rs.map (qlL ns),some (qcu ns wts,sn)⟩:=by unfold gSt;rw [if_neg (by omega),if_neg (by omega)]
        rw [qfc hb (Nat.le_refl _),e2,List.take_length]
        exact ⟨.worth hw hwl,rfl⟩
  · unfold gSt
    split
    · exact ⟨hn.sublist (List.take_sublist _ _),by show (ns.take i).length≤8;rw [List.length_take];omega,by show 0≤12;omega,by show (bs.take i).length≤8;rw [List.length_take];omega⟩
    · split
      · exact ⟨hn,h8,by show ((rs.take _).map _).length≤12;rw [List.length_map,List.length_take];omega,by show bs.length≤8;omega⟩
      · exact ⟨hn,h8,by show (rs.map _).length≤12;rw [List.length_map];omega,by show bs.length≤8;omega⟩
theorem qny {ns:List Str} {bs:List Bdn} {rs:List Rwt} {wts:List Tm} {sn:Int} (hb:bs.length=ns.length):gSt ns bs rs wts sn (qka ns bs rs wts sn).length=⟨ns,bs,rs.map (qlL ns),some (qcu ns wts,sn)⟩:=by
  have hl:(qka ns bs rs wts sn).length=ns.length+rs.length+1:=by unfold qka;simp [hb];omega
  rw [hl]
  unfold gSt
  rw [if_neg (by omega),if_neg (by omega)]
open Tx
def NmOk (ns:List Str):Prop:=ns.Nodup∧ns.length≤8∧∀ x∈ns,qb9 x=true
def smi (z:Int):Prop:=z.natAbs<10000
theorem qeV {x:Str} (h:qb9 x=true):x.length≤12:=by
  unfold qb9 at h
  simp only [Bool.and_eq_true,decide_eq_true_eq] at h
  exact h.1.2
theorem big {z:Int} (h:smi z):z.natAbs<2 ^ 1900:=Nat.lt_of_lt_of_le (show z.natAbs<2 ^ 20 by unfold smi at h;omega) (Nat.pow_le_pow_right (by decide) (by decide))
theorem le6 {x:Str} {n:Nat} (h:x.length≤n) (hn:n≤1000000:=by decide):x.length≤1000000:=Nat.le_trans h hn
theorem qfR {s:Str} {zs:List Str} (B:Nat) (hB:∀ z∈zs,z.length≤B) (hf:zs.length*B+zs.length*s.length≤16777216):JoinOk s zs=true:=by
  unfold JoinOk
  rw [PySem.StrLaws.joinFits (B:=B) hB hf]
  rfl
def qrG (bs:List Bdn) (rs:List Rw) (gl:List Int):D:=.tup [.tup (bs.map qkR),.tup (rs.map rwD),.tup (gl.map D.int)]
def qrd:Frm→Prop
  | .unk _ _ _=>True
  | .row ts _ _=>ts.length≤8
  | .worth ts _=>ts.length≤8
theorem qdN:∀ ts:List Tm,(qaZ ts).length≤3*ts.length+1
  | []=>by simp [qaZ]
  | [(n,x)]=>by simp [qaZ]
  | (n,x)::t::r=>by
    have:=qdN (t::r)
    show (qaZ (t::r)).length+3≤_
    simp only [List.length_cons] at this ⊢
    omega
theorem qeZ:∀ {ts:List Tm},(∀ t∈ts,qm0 t)→∀ w∈qaZ ts,w.length≤12
  | [],_,w,hw=>by
    rw [List.mem_singleton.mp hw]
    decide
  | [(n,x)],h,w,hw=>by
    have h1:=h (n,x) List.mem_cons_self
    simp only [qaZ,List.mem_cons,List.not_mem_nil,or_false] at hw
    rcases hw with rfl | rfl
    · exact Nat.le_trans (qbm h1.1) (by decide)
    · exact qeV h1.2
  | (n,x)::t::r,h,w,hw=>by
    have h1:=h (n,x) List.mem_cons_self
    have hw:w∈nstr n::x::"+"::qaZ (t::r):=hw
    simp only [List.mem_cons] at hw
    rcases hw with rfl | rfl | rfl | hw
    · exact Nat.le_trans (qbm h1.1) (by decide)
    · exact qeV h1.2
    · decide
    · exact qeZ (fun t ht=>h t (List.mem_cons_of_mem _ ht)) w hw
theorem qmP {f:Frm} (h:qex f) (ht:qrd f):(qbK f).length≤900:=by
  have c1:(" ":Str).length=1:=by decide
  have k:∀ z∈(["unknown","from","to","row","at","most","least"]:List Str),z.length≤12:=by decide
  have h1:∀ w∈qeA f,w.length≤12:=by
    intro w hw
    cases f with
    | unk x l m =>
      obtain ⟨g1,g2,g3⟩:=h
      have l5:=qbm g2
      have x5:=qeV g1
      cases m with
      | none =>
        simp only [qeA,List.mem_cons,List.not_mem_nil,or_false] at hw
        rcases hw with rfl | rfl | rfl | rfl
        · exact k _ (by simp)
        · exact x5
        · exact k _ (by simp)
        · omega
      | some m =>
        have m5:=qbm (g3 m rfl)
        simp only [qeA,List.mem_cons,List.not_mem_nil,or_false] at hw
        rcases hw with rfl | rfl | rfl | rfl | rfl | rfl
        · exact k _ (by simp)
        · exact x5
        · exact k _ (by simp)
        · omega
        · exact k _ (by simp)
        · omega
    | row ts b t =>
      obtain ⟨g1,g2⟩:=h
      have b5:=qbm g2
      simp only [qeA,List.mem_cons,List.mem_append,atW,List.not_mem_nil,or_false] at hw
      rcases hw with rfl | hw | rfl | rfl | rfl
      · exact k _ (by simp)
      · exact qeZ g1 w hw
      · exact k _ (by simp)
      · cases t <;> exact k _ (by simp)
      · omega
    | worth ts s =>
      obtain ⟨g1,g2⟩:=h
      simp only [qeA,List.mem_cons] at hw
      rcases hw with rfl | hw
      · split <;> exact k _ (by simp)
      · exact qeZ g1 w hw
  have h2:(qeA f).length≤29:=by
    cases f with
    | unk x l m=>cases m <;> simp [qeA]
    | row ts b t =>
      have:=qdN ts
      have ht:ts.length≤8:=ht
      simp only [qeA,List.length_cons,List.length_append,atW,List.length_nil]
      omega
    | worth ts s =>
      have:=qdN ts
      have ht:ts.length≤8:=ht
      simp only [qeA,List.length_cons]
      omega
  have:=qc2 (s:=" ") (ws:=qeA f) (B:=12) h1
  rw [c1] at this
  unfold qbK
  omega
def Pl (n:Nat) (o:Om):Prop:=∃ (r sd c:Int),o=.lst [.int r,.int sd,.int c]∧0≤c∧c≤n
theorem Pl.mono {n m:Nat} {o:Om} (h:Pl n o) (hm:n≤m):Pl m o:=by
  obtain ⟨r,st,c,e,h2,h3⟩:=h
  exact ⟨r,st,c,e,h2,by omega⟩
theorem lt9 {z:Int} (h:z<2 ^ 64):z<2 ^ 9000:=by
  have h1:(2:Nat) ^ 64≤2 ^ 9000:=Nat.pow_le_pow_right (by decide) (by omega)
  have h2:(2:Int) ^ 64≤2 ^ 9000:=by exact_mod_cast h1
  omega
def qen:SpM:=fun as R _=>∃ (ns:List Int),as=[.v (.fzl (ns.map D.int))]∧ns.length≤63∧∀ o,Pl 0 o→R (.ob none o) []
theorem qf0 {n:Nat} {f:Addr} {fd:FuncData} (F:Fun K "_law_pool" "_law_pool" qb6 f fd) (z_len:mg "len"=none):FnOk P w K mg base CX0 (n+1) f fd ["_law_script"] (qdD K qen):=by
  refine F.okM sc__law_pool (fun as R Rx h=>?_) (fun cdv A outer s H E as R Rx qs hcd hr h hqs=>?_)
  · obtain ⟨ns,rfl,_⟩:=h;rfl
  obtain ⟨ns,rfl,hl,q⟩:=h
  obtain rfl:=qpI hqs
  refine ⟨_,(qan (qaM (i:=1) sc__law_pool.nd rfl (Or.inl rfl) (qaO qad))
      (qan (qfG PassesOwn.never rfl (qeB (qfP (qlT (dvq 0) qer (qc7 (PD.q qad))))) (qbq (i:=2) sc__law_pool.nd rfl (Or.inl rfl)) (qaL (qaM (i:=1) sc__law_pool.nd rfl (Or.inl rfl) (qaO (qbE qd3 (PD.q (qbE qbH (PD.q (qbE qbH (PD.q (qbE qee (dvq 1) (PD.q qad))) (PD.q (qbE qd3 (dvq 2) (PD.q qad))))) (PD.q qad))) (PD.q qad))))))
      (qan (qaM (i:=3) sc__law_pool.nd rfl (Or.inl rfl) (qaO qad))
      (qcw (qe7 (qdG (PWD.td (qmQ (qaK qmg (PD.q (qaN qb7 rfl z_len PySem.boot_len (qaw (dvq 0) qaG qaa) qaa qac)) (PD.q qad) (qas _)) (qiL (qaK qsT (PD.q (qbF (dvq 0) (PD.q qad) (fun _ _=>rfl))) (PD.q (qbE qpX (PD.q qad) (PD.q qad))) (qas _)))))) (qaL (qaM (i:=3) sc__law_pool.nd rfl (Or.inl rfl) (qaO (qbF (dvq 0) (PD.q qad) (fun _ _=>rfl))))) qc0)
      (qaL (qcl (qle (qdJ (qae (dv 3) (qae (dv 1) (qae qad qau qab) qaa) qaa))))))))),?_⟩
  have fin:∀ r sd:Int,Pl 0 (.lst [.int r,.int sd,.int 0]):=fun r sd=>⟨r,sd,0,rfl,by omega,by omega⟩
  refine ⟨(qcG ns none (some 63)).map D.int,qfi D.int ns none (some 63),?_⟩
  refine ⟨fun i ρ=>∃ (v:Int) (u2:Option Sm),ρ=[some (.v (.fzl (ns.map D.int))),some (.v (.int v)),u2,none],⟨_,_,rfl⟩,?_,?_⟩
  · rintro i d ρ hd ⟨v,u2,rfl⟩
    obtain ⟨x,rfl,hx⟩:=qci hd
    exact ⟨qfo (by decide) (by decide),(by decide:(0:Int)<1000000007),(by decide:(0:Int)<2147483647),_,some (.v (.int x)),rfl⟩
  rintro ρ ⟨v,u2,rfl⟩
  refine ⟨fun ρ=>∃ r:Int,ρ=[some (.v (.fzl (ns.map D.int))),some (.v (.int v)),u2,some (.v (.int r))],⟨fun h=>?_,fun h=>?_⟩,?_⟩
  · have h:=dP h
    obtain ⟨y,hy⟩:=qnA (ns:=ns) (k:=0) (by decide) (by rw [List.length_map] at h;exact h)
    exact ⟨_,hy,⟨by decide,by decide,by decide⟩,fun _=>⟨_,hy,_,rfl⟩,fun _=>⟨_,rfl⟩⟩
  · exact ⟨fun c=>(by cases c),fun _=>⟨_,rfl⟩⟩
  rintro ρ ⟨r,rfl⟩
  exact q _ (fin r v)
def qaY:SpM:=fun as R _=>∃ (a:Option Addr) (o:Om) (z:Int) (n:Nat),as=[.ob a o,.v (.int z)]∧Pl n o∧n<2 ^ 20∧0<z∧z<2 ^ 9000∧∀ (x:Int) (o':Om),0≤x→x<z→Pl (n+1) o'→R (.v (.int x)) [o']
theorem qfW {n:Nat} {f:Addr} {fd:FuncData} (F:Fun K "_law_draw" "_law_draw" qb3 f fd) :FnOk P w K mg base CX0 (n+1) f fd ["_law_pool_here","_law_many"] (qdD K qaY):=by
  refine F.okM sc__law_draw (fun as R Rx h=>?_) (fun cdv A outer s H E as R Rx qs hcd hr h hqs=>?_)
  · obtain ⟨a,o,z,n,rfl,_⟩:=h;rfl
  obtain ⟨a,o,z,n,rfl,hp,hn,h0,hz,q⟩:=h
  obtain ⟨pa,rfl⟩:=qih hqs
  refine ⟨_,(qcw (qe7 (qdG (qaK qmg (PD.q (qbF (dvq 0) (PD.q qad) (fun _ _=>rfl))) (PD.q qad) (qas _))) (qan (qaM (i:=2) sc__law_draw.nd rfl (Or.inl rfl) (qaO (qbE qd3 (PD.q (qbF (dvq 0) (PD.q qad) (fun _ _=>rfl))) (dvq 1))))
      (qan (qpn 0 (qaO (qbE qj1 (PD.q (qbF (dvq 0) (PD.q qad) (fun _ _=>rfl))) (dvq 1))) (qaO qad))
      (qaL (qcl (qaO (dv 2)))))) qc0)
      (qan (qkz 0 qnN (qaO qad) (qaO qad))
      (qan (qaM (i:=3) sc__law_draw.nd rfl (Or.inl rfl) (qaO (qbF (dvq 0) (PD.q qad) (fun _ _=>rfl))))
      (qan (qaM (i:=4) sc__law_draw.nd rfl (Or.inl rfl) (qaO (qbE qee (PD.q (qbE qbH (PD.q (qbE qbH (PD.q (qbE qbH (PD.q (qbF (dvq 0) (PD.q qad) (fun _ _=>rfl))) (PD.q (qbE qee (PD.q (qbE qee (PD.q qad) (dvq 3))) (dvq 3))))) (PD.q (qbE qee (PD.q qad) (dvq 3))))) (PD.q qad))) (PD.q qad))))
      (qaL (qcl (qaO (qbE qd3 (PD.q (qbE qd3 (PD.q (qbE qee (PD.q (qbE qd3 (dvq 4) (PD.q qad))) (PD.q qad))) (PD.q qad))) (dvq 1))))))))),?_⟩
  obtain ⟨r,st,c,rfl,hc0,hcn⟩:=hp
  refine ⟨fun ρ=>ρ=[some (.ob (some pa) (.lst [.int r,.int st,.int c])),some (.v (.int z)),none,none,none],⟨_,rfl,fun h=>?_,fun _=>rfl⟩,?_⟩
  · exact ⟨_,rfl,h0,_,rfl,CDivB.of h0 hz,_,rfl,_,rfl,_,rfl,q _ _ (Int.emod_nonneg _ (by omega)) (Int.emod_lt_of_pos _ h0) ⟨_,st,c,rfl,hc0,by omega⟩⟩
  rintro ρ rfl
  refine ⟨trivial,2,c,rfl,rfl,(by show 2<3;decide),_,rfl,_,rfl,?_⟩
  have b1:-(2 ^ 64)<c+1:=by omega
  have b2:c+1<2 ^ 64:=by omega
  refine ⟨_,rfl,qcU (by decide) (by decide),qfo b1 b2,qcU (by decide) (by decide),qfo (by decide) (by decide),(by decide:(0:Int)<2147483647),qfo (by decide) (by decide),(by decide:(0:Int)<1000000007),h0,?_⟩
  exact ⟨_,rfl,q _ _ (Int.emod_nonneg _ (by omega)) (Int.emod_lt_of_pos _ h0) ⟨r,st,c+1,rfl,by omega,by omega⟩⟩
open Tx
theorem qdO {α:Type} [DecidableEq α]:∀ {xs ys:List α},xs.Nodup→(∀ x∈xs,x∈ys)→xs.length≤ys.length
  | [],_,_,_=>Nat.zero_le _
  | x::xs,ys,h,hs=>by
    rw [List.nodup_cons] at h
    have:=qdO (ys:=ys.erase x) h.2 fun y hy=>(List.mem_erase_of_ne fun e=>h.1 (by rw [← e];exact hy)).mpr (hs y (List.mem_cons_of_mem _ hy))
    have hm:=hs x List.mem_cons_self
    rw [List.length_erase_of_mem hm] at this
    have hp:=List.length_pos_of_mem hm
    rw [List.length_cons]
    omega
def qm9 (w:Str):Prop:=(L w).all qhe=true
def mkS (l:List Nat):Str:=⟨l.toArray⟩
theorem qqJ (l:List Nat):L (mkS l)=l:=rfl
theorem qmb (w:Str):mkS (L w)=w:=rfl
theorem qe1 (l m:List Nat):mkS l++mkS m=mkS (l++m):=by
  show (⟨l.toArray++m.toArray⟩:Str)=⟨(l++m).toArray⟩
  rw [List.append_toArray]
theorem qgr (l:List Nat):(mkS l).length=l.length:=rfl
theorem qmr {l m:List Nat} (h:mkS l=mkS m):l=m:=by
  have:L (mkS l)=L (mkS m):=by rw [h]
  exact this
theorem nm_iff {l:List Nat}:qb9 (mkS l)=true↔1≤l.length∧l.length≤12∧l.all qhe=true:=by
  unfold qb9
  rw [Bool.and_eq_true,Bool.and_eq_true,decide_eq_true_eq,decide_eq_true_eq,qgr,qqJ,and_assoc]
theorem qrL:("abcdefghijklmnopqrstuvwxyz":Str).cps.toList=(List.range 26).map (97+·):=by decide +kernel
theorem qn4 {i c:Nat} (h:(L ("abcdefghijklmnopqrstuvwxyz":Str))[i]?=some c):c=97+i∧i<26:=by
  have e:L ("abcdefghijklmnopqrstuvwxyz":Str)=(List.range 26).map (97+·):=qrL
  rw [e,List.getElem?_map] at h
  have hi:i<26:=by
    rcases Nat.lt_or_ge i 26 with c | c
    · exact c
    · rw [List.getElem?_eq_none (by rw [List.length_range];exact c)] at h;cases h
  rw [List.getElem?_range hi] at h
  cases h
  exact ⟨rfl,hi⟩
theorem qq0 (c:Nat) (t:List Nat):qh6 (mkS (c::t)) (some 1) none=mkS t:=by
  unfold qh6
  have e:qcG (mkS (c::t)).cps.toList (some 1) none=t:=by
    show qcG (c::t) (some 1) none=t
    unfold qcG HT.sIx
    simp
  rw [e]
  rfl
theorem qiy {i:Nat} (h:i<26):qhe (97+i)=true:=by unfold qhe;simp;omega
def qdC:SpM:=fun as R _=>∃ (a:Option Addr) (ns:List Str) (x:Str),as=[.ob a (.lst (ns.map D.str)),.v (.str x)]∧ns.length≤20∧qb9 x=true∧∀ y:Str,qb9 y=true→y∉ns→R (.v (.str y)) [.lst (ns.map D.str)]
theorem qfy {n:Nat} {f:Addr} {fd:FuncData} (F:Fun K "_law_fresh" "_law_fresh" qbQ f fd) :FnOk P w K mg base CX0 (n+1) f fd ["_law_names_here","_law_name"] (qdD K qdC):=by
  refine F.okM sc__law_fresh (fun as R Rx h=>?_) (fun cdv A outer s H E as R Rx qs hcd hr h hqs=>?_)
  · obtain ⟨a,ns,x,rfl,_⟩:=h;rfl
  obtain ⟨a,ns,x,rfl,hl,hx,q⟩:=h
  obtain ⟨pa,rfl⟩:=qih hqs
  refine ⟨_,(qan (qfG PassesOwn.never rfl (qeB (qna qax)) (qbq (i:=2) sc__law_fresh.nd rfl (Or.inl rfl)) (qcw (qe7 (qdG (qaK qfv (dvq 1) (dvq 0) (by with_unfolding_all rfl))) (qaL (qcl (qaO (dv 1)))) qc0)
      (qaL (qaM (i:=1) sc__law_fresh.nd rfl (Or.inl rfl) (qaO (qbE qbH (dvq 2) (PD.q (qlT (dvq 1) (qc7 (PD.q qad)) qer))))))))
      (qaL (qcl (qaO (dv 1))))),?_⟩
  obtain ⟨c0,t,hxt⟩:∃ c t,L x=c::t:=by
    cases h:L x with
    | nil =>
      have:1≤(L x).length:=(nm_iff.mp (by rw [qmb];exact hx)).1
      rw [h] at this
      simp at this
    | cons c t=>exact ⟨c,t,rfl⟩
  obtain rfl:x=mkS (c0::t):=by rw [← hxt];rfl
  have hxn:=nm_iff.mp hx
  have htn:∀ i,i<26→qb9 (mkS ((97+i)::t))=true:=fun i hi=>by
    refine nm_iff.mpr ⟨by simp,hxn.2.1,?_⟩
    have h3:=hxn.2.2
    rw [List.all_cons,Bool.and_eq_true] at h3 ⊢
    exact ⟨qiy hi,h3.2⟩
  refine ⟨_,rfl,by decide +kernel,?_⟩
  refine ⟨fun i ρ=>∃ (c:Nat) (u2:Option Sm),ρ=[some (.ob (some pa) (.lst (ns.map D.str))),some (.v (.str (mkS (c::t)))),u2]∧qb9 (mkS (c::t))=true∧(0<i→c=96+i)∧∀ j,1≤j→j<i→mkS ((96+j)::t)∈ns,⟨c0,_,rfl,hx,fun h=>absurd h (by omega),fun j h1 h2=>absurd h2 (by omega)⟩,?_,?_⟩
  · rintro i d ρ hd ⟨c,u2,rfl,hc,hci,hj⟩
    obtain ⟨s,rfl,hs⟩:=qmx hd
    obtain ⟨rfl,hi⟩:=qn4 hs
    refine ⟨fun ρ=>mkS (c::t)∈ns∧ρ=[some (.ob (some pa) (.lst (ns.map D.str))),some (.v (.str (mkS (c::t)))),some (.v (.str (sgn (97+i))))],⟨.inr _,_,rfl,by rw [← qgT];rfl,?_⟩,?_⟩
    · rw [qeh]
      by_cases h:mkS (c::t)∈ns
      · rw [decide_eq_true h]
        exact ⟨fun e=>ff e,fun _=>⟨h,rfl⟩⟩
      · rw [decide_eq_false h]
        exact ⟨fun _=>⟨_,rfl,q _ hc h⟩,fun e=>tf e⟩
    · rintro ρ ⟨hm,rfl⟩
      have h12:(c::t).length≤12:=(nm_iff.mp hc).2.1
      refine ⟨qgB (by show (c::t).length≤100000;omega),mkS t,qq0 c t,?_⟩
      refine ⟨?_,?_⟩
      · show 1+t.length≤sizeLine
        have:=sizeLine_eq
        simp only [List.length_cons] at h12
        omega
      have e:sgn (97+i)++mkS t=mkS ((97+i)::t):=qe1 [97+i] t
      rw [e]
      refine ⟨97+i,_,rfl,htn i hi,fun _=>by omega,fun j h1 h2=>?_⟩
      by_cases e:j=i
      · subst e
        rw [← hci h1]
        exact hm
      · exact hj j h1 (by omega)
  rintro ρ ⟨c,u2,rfl,hc,hci,hj⟩
  exfalso
  have hlen:(qlW ("abcdefghijklmnopqrstuvwxyz":Str)).length=26:=by decide +kernel
  rw [hlen] at hj
  have:=qdO (xs:=(List.range 25).map fun j=>mkS ((97+j)::t)) (ys:=ns) ?_ ?_
  · rw [List.length_map,List.length_range] at this
    omega
  · refine List.Pairwise.map _ (fun a b hab e=>hab ?_) (List.nodup_range (n:=25))
    have:=List.cons.inj (qmr e)
    omega
  · intro y hy
    obtain ⟨j,hj1,rfl⟩:=List.mem_map.mp hy
    have hj1:=List.mem_range.mp hj1
    have:=hj (j+1) (by omega) (by omega)
    have e:96+(j+1)=97+j:=by omega
    rw [e] at this
    exact this
def qeg:SpM:=fun as R _=>∃ (a:Option Addr) (o:Om) (n m:Nat),as=[.ob a o,.v (.int (n:Nat))]∧Pl m o∧m+100<2 ^ 20∧n≤12∧∀ (w:Str) (o':Om),qm9 w→w.length=n→Pl (m+n) o'→R (.v (.str w)) [o']
theorem qlP {x:Int} (h0:0≤x) (h1:x<26):∃ c,atI ("abcdefghijklmnopqrstuvwxyz":Str).cps.toList x=some c∧qhe c=true:=by
  obtain ⟨k,rfl⟩:=Int.eq_ofNat_of_zero_le h0
  refine ⟨97+k,?_,qiy (by omega)⟩
  rw [qrL]
  exact qiH (i:=k) (by rw [List.getElem?_map,List.getElem?_range (by omega)];rfl) rfl
theorem qga {n:Nat} {f:Addr} {fd:FuncData} (F:Fun K "_law_word" "_law_word" qca f fd) (R__law_draw:ClM P w K mg base n "_law_draw" ["_law_pool_here","_law_many"] qaY) (z_range:mg "range"=none):FnOk P w K mg base CX0 (n+1) f fd ["_law_pool_here","_law_size"] (qdD K qeg):=by
  refine F.okM sc__law_word (fun as R Rx h=>?_) (fun cdv A outer s H E as R Rx qs hcd hr h hqs=>?_)
  · obtain ⟨a,o,n,m,rfl,_⟩:=h;rfl
  obtain ⟨a,o,n,m,rfl,hp,hm,hn,q⟩:=h
  obtain ⟨pa,rfl⟩:=qih hqs
  refine ⟨_,(qan (qaM (i:=2) sc__law_word.nd rfl (Or.inl rfl) (qaO qax))
      (qan (qfG PassesOwn.never rfl (qeB (qdP rfl z_range (qae (dv 1) qau qaa))) (qbq (i:=3) sc__law_word.nd rfl (Or.inl rfl)) (qaL (qaM (i:=2) sc__law_word.nd rfl (Or.inl rfl) (qm2 qbH (qaO (dv 2)) (qrE (qaO qax) (qaE R__law_draw hr rfl (qaF 0 (qav (qaO qad) qaI qab) qaa) qaa (qaj qab qac)) (fun _ _=>rfl))))))
      (qaL (qcl (qaO (dv 2)))))),?_⟩
  refine ⟨⟨by omega,by omega⟩,fun i ρ=>∃ (w:Str) (o':Om) (u3:Option Sm),ρ=[some (.ob (some pa) o'),some (.v (.int (n:Nat))),some (.v (.str w)),u3]∧qm9 w∧w.length=i∧Pl (m+i) o',⟨"",o,_,rfl,by unfold qm9;decide,rfl,hp⟩,?_,?_⟩
  · rintro i d ρ hd ⟨w,o',u3,rfl,hw,hwl,hp'⟩
    obtain ⟨hi,rfl⟩:=qbZ hd
    dsimp only [qam,qal,qa0,qa6,qbr,qbi,qbs,List.set]
    refine ⟨⟨_,_,rfl⟩,_,rfl,rfl,_,_,26,_,rfl,hp',by omega,by decide,lt9 (by decide),fun x o2 x0 x1 hp2=>?_⟩
    dsimp only [qam,qal,qa0,qa6,qbr,qbi,qbs,List.set]
    obtain ⟨c,hc,hcl⟩:=qlP x0 x1
    refine ⟨qgB (by decide),c,hc,?_⟩
    have:=sizeLine_eq
    refine ⟨by show w.length+1≤sizeLine;omega,w++mkS [c],o2,_,rfl,?_,by rw [qa4,hwl];rfl,hp2⟩
    unfold qm9 at hw ⊢
    have e:L (w++mkS [c])=L w++[c]:=by rw [← qmb w,qe1,qqJ,qqJ]
    rw [e,List.all_append,hw]
    simpa using hcl
  rintro ρ ⟨w,o',u3,rfl,hw,hwl,hp'⟩
  rw [qa2,Int.toNat_natCast] at hwl hp'
  exact ⟨_,rfl,q w o' hw hwl hp'⟩
open Tx
def qdB:SpM:=fun as R _=>∃ (a:Option Addr) (o:Om) (n m:Nat),as=[.ob a o,.v (.int (n:Nat))]∧Pl m o∧m+1000<2 ^ 20∧n≤8∧∀ (ns:List Str) (o':Om),NmOk ns→ns.length=n→Pl (m+200) o'→R (.own (ns.map D.str)) [o']
def WL:List Str:=["from","to","at","least","most","row","unknown","o","minus"]
theorem qqL:∀ w∈WL,qb9 w=true:=by decide +kernel
theorem qmU {ns:List Str} {k:Int} (h0:0≤k) (h1:k<ns.length):∃ y∈ns,atI (ns.map D.str) k=some (.str y):=by
  obtain ⟨i,rfl⟩:=Int.eq_ofNat_of_zero_le h0
  have hi:i<ns.length:=by omega
  exact ⟨ns[i],List.getElem_mem hi,qdx (i:=i) (List.getElem?_eq_getElem hi) rfl⟩
theorem qjU {w:Str} {z:Int} (j:Nat) (h:z=(j:Int)):qh6 w none (some z)=mkS ((L w).take j):=by
  subst h
  unfold qh6
  show mkS (qcG (L w) none (some (j:Int)))=_
  have e:qcG (L w) none (some (j:Int))=(L w).take j:=by
    unfold qcG
    rw [HT.sIx_nat,HT.sIx_none,List.drop_zero,Nat.sub_zero,← List.take_eq_take_min]
  rw [e]
theorem qnq {w:Str} {z:Int} (j:Nat) (h:z=(j:Int)):qh6 w (some z) none=mkS ((L w).drop j):=by
  subst h
  unfold qh6
  show mkS (qcG (L w) (some (j:Int)) none)=_
  have e:qcG (L w) (some (j:Int)) none=(L w).drop j:=by
    unfold qcG
    rw [HT.sIx_nat,HT.sIx_none]
    rcases Nat.lt_or_ge j (L w).length with c | c
    · rw [Nat.min_eq_left (by omega),List.take_of_length_le (by rw [List.length_drop];omega)]
    · rw [Nat.min_eq_right c,List.drop_length,List.take_nil,List.drop_eq_nil_of_le c]
  rw [e]
theorem qho {w:Str} (h:qm9 w) (j:Nat):((L w).take j).all qhe=true:=List.all_eq_true.mpr fun c hc=>List.all_eq_true.mp h c (List.mem_of_mem_take hc)
theorem qk8 {w:Str} (h:qm9 w) (j:Nat):((L w).drop j).all qhe=true:=List.all_eq_true.mpr fun c hc=>List.all_eq_true.mp h c (List.mem_of_mem_drop hc)
theorem qpk {w:Str} (h:qm9 w) (h1:1≤w.length) (h2:w.length≤12):qb9 w=true:=by
  rw [← qmb w]
  exact nm_iff.mpr ⟨by rw [qh1];exact h1,by rw [qh1];exact h2,h⟩
theorem NmOk.snoc {ns:List Str} {y:Str} (h:NmOk ns) (hl:ns.length<8) (hy:qb9 y=true) (hn:y∉ns):NmOk (ns++[y]):=by
  refine ⟨?_,by rw [List.length_append];show ns.length+1≤8;omega,fun x hx=>?_⟩
  · rw [List.nodup_append]
    refine ⟨h.1,by simp,fun a ha b hb e=>?_⟩
    rw [List.mem_singleton.mp hb] at e
    exact hn (e ▸ ha)
  · rcases List.mem_append.mp hx with hx | hx
    · exact h.2.2 x hx
    · rw [List.mem_singleton.mp hx];exact hy
abbrev NS (pa:Addr) (n:Nat) (o:Om) (ma sh:Int) (ba:Str) (ns:List Str) (u8 u9 u10:Option Sm):qaB:=[some (.ob (some pa) o),some (.v (.int (n:Nat))),some (.v (.str "abcdefghijklmnopqrstuvwxyz")),some (.v (.tup (WL.map D.str))),some (.v (.int ma)),some (.v (.int sh)),some (.v (.str ba)),some (.own (ns.map D.str)),u8,u9,u10]
theorem qfw {n:Nat} {f:Addr} {fd:FuncData} (F:Fun K "_law_names" "_law_names" qbR f fd) (R__law_draw:ClM P w K mg base n "_law_draw" ["_law_pool_here","_law_many"] qaY) (R__law_word:ClM P w K mg base n "_law_word" ["_law_pool_here","_law_size"] qeg) (R__law_fresh:ClM P w K mg base n "_law_fresh" ["_law_names_here","_law_name"] qdC) (z_range:mg "range"=none):FnOk P w K mg base CX0 (n+1) f fd ["_law_pool_here","_law_count"] (qdD K qdB):=by
  refine F.okM sc__law_names (fun as R Rx h=>?_) (fun cdv A outer s H E as R Rx qs hcd hr h hqs=>?_)
  · obtain ⟨a,o,n,m,rfl,_⟩:=h;rfl
  obtain ⟨a,o,n,m,rfl,hp,hm,hn,q⟩:=h
  obtain ⟨pa,rfl⟩:=qih hqs
  refine ⟨_,(qan (qaM (i:=2) sc__law_names.nd rfl (Or.inl rfl) (qaO qax))
      (qan (qaM (i:=3) sc__law_names.nd rfl (Or.inl rfl) (qaO (qbp (qae qax (qae qax (qae qax (qae qax (qae qax (qae qax (qae qax (qae qax (qae qax qau qab) qab) qab) qab) qab) qab) qab) qab) qab))))
      (qan (qaM (i:=4) sc__law_names.nd rfl (Or.inl rfl) (qaE R__law_draw hr rfl (qaF 0 (qav (qaO qad) qaI qab) qaa) qaa (qaj qab qac)))
      (qan (qaM (i:=5) sc__law_names.nd rfl (Or.inl rfl) (qaE R__law_draw hr rfl (qaF 0 (qav (qaO qad) qaI qab) qaa) qaa (qaj qab qac)))
      (qan (qaM (i:=6) sc__law_names.nd rfl (Or.inl rfl) (qaE R__law_word hr rfl (qaF 0 (qav (qaO qad) qaI qab) qaa) qaa (qaj qab qac)))
      (qan (qaM (i:=7) sc__law_names.nd rfl (Or.inl rfl) (qle (qdJ qau)))
      (qan (qfG PassesOwn.never rfl (qeB (qdP rfl z_range (qae (dv 1) qau qaa))) (qbq (i:=8) sc__law_names.nd rfl (Or.inl rfl)) (qan (qaM (i:=9) sc__law_names.nd rfl (Or.inl rfl) (qaE R__law_word hr rfl (qaF 0 (qav (qm2 qbH (qaO qad) (qaE R__law_draw hr rfl (qaF 0 (qav (qaO qad) qaI qab) qaa) qaa (qaj qab qac))) qaI qbz) qaa) qaa (qaj qbz qac)))
      (qcw (qe7 (qdG (qaK (qeG hr.units) (dvq 4) (PD.q qad) (qas _))) (qaL (qaM (i:=9) sc__law_names.nd rfl (Or.inl rfl) (qaO (qbF (dvq 3) (PD.q (qbE qd3 (PD.q (qbE qbH (dvq 5) (dvq 8))) (PD.q qad))) (fun _ _=>rfl))))) (qaL (qe7 (qdG (qaK (qeG hr.units) (dvq 4) (PD.q qad) (qas _))) (qaL (qaM (i:=9) sc__law_names.nd rfl (Or.inl rfl) (qaO (qlT (dvq 6) qer (qc7 (PD.q (qbE qbH (PD.q (qbE qd3 (PD.q (qbE qbH (dvq 5) (PD.q (qbE qee (PD.q qad) (dvq 8))))) (PD.q qad))) (PD.q qad)))))))) (qaL (qe7 (qdG (qaK (qeG hr.units) (dvq 4) (PD.q qad) (qas _))) (qan (qaM (i:=10) sc__law_names.nd rfl (Or.inl rfl) (qaO (qbE qd3 (dvq 5) (PD.q qad))))
      (qaL (qaM (i:=9) sc__law_names.nd rfl (Or.inl rfl) (qaO (qbE qbH (PD.q (qbE qbH (PD.q (qlT (dvq 6) qer (qc7 (dvq 10)))) (PD.q (qbF (dvq 2) (PD.q (qbE qd3 (PD.q (qbE qbH (dvq 5) (dvq 8))) (PD.q qad))) (fun _ _=>rfl))))) (PD.q (qlT (dvq 6) (qc7 (PD.q (qbE qbH (dvq 10) (PD.q qad)))) qer))))))) qc0)))))
      (qaL (qcD 7 (qaE R__law_fresh hr rfl (qaF 7 (qav (qaO (dv 9)) qaI qaa) qaa) qaa (qaj qaa qac)) (qbv qaD) qaD)))))
      (qaL (qcl (qlR 7)))))))))),?_⟩
  refine ⟨⟨_,_,rfl⟩,_,rfl,rfl,_,_,4,m,rfl,hp,by omega,by decide,lt9 (by decide),fun ma o1 ma0 ma1 hp1=>?_⟩
  dsimp only [qam,qal,qa0,qa6,qbr,qbi,qbs,List.set]
  refine ⟨⟨_,_,rfl⟩,_,rfl,rfl,_,_,26,_,rfl,hp1,by omega,by decide,lt9 (by decide),fun sh o2 sh0 sh1 hp2=>?_⟩
  dsimp only [qam,qal,qa0,qa6,qbr,qbi,qbs,List.set]
  refine ⟨⟨_,_,rfl⟩,_,rfl,rfl,_,_,12,_,rfl,hp2,by omega,by decide,fun ba o3 hba hbl hp3=>?_⟩
  dsimp only [qam,qal,qa0,qa6,qbr,qbi,qbs,List.set]
  have bll:(L ba).length=12:=by rw [qh1];exact hbl
  have bsz:ba.length≤sizeLine:=qgB (by omega)
  refine ⟨⟨by omega,by omega⟩,fun i ρ=>∃ (ns:List Str) (o':Om) (u8 u9 u10:Option Sm),ρ=NS pa n o' ma sh ba ns u8 u9 u10∧NmOk ns∧ns.length=i∧Pl (m+14+13*i) o',⟨[],o3,_,_,_,rfl,⟨List.nodup_nil,by decide,fun x hx=>by cases hx⟩,rfl,hp3⟩,?_,?_⟩
  · rintro i d ρ hd ⟨ns,o4,u8,u9,u10,rfl,hns,hnl,hp4⟩
    obtain ⟨hi,rfl⟩:=qbZ hd
    have hi':i<n:=by omega
    dsimp only [qam,qal,qa0,qa6,qbr,qbi,qbs,List.set]
    refine ⟨⟨_,_,rfl⟩,⟨_,_,rfl⟩,_,rfl,rfl,_,_,12,_,rfl,hp4,by omega,by decide,lt9 (by decide),fun x o5 x0 x1 hp5=>?_⟩
    dsimp only [qam,qal,qa0,qa6,qbr,qbi,qbs,List.set]
    obtain ⟨k,rfl⟩:=Int.eq_ofNat_of_zero_le x0
    refine ⟨_,rfl,rfl,_,_,1+k,_,rfl,hp5,by omega,by omega,fun w o6 hw hwl hp6=>?_⟩
    dsimp only [qam,qal,qa0,qa6,qbr,qbi,qbs,List.set]
    have hw1:qb9 w=true:=qpk hw (by omega) (by omega)
    have c9:(0:Int)<9:=by decide
    have c12:(0:Int)<12:=by decide
    have c26:(0:Int)<26:=by decide
    refine ⟨fun ρ=>∃ (y:Str) (u10:Option Sm),ρ=NS pa n o6 ma sh ba ns (some (.v (.int (0+(i:Nat))))) (some (.v (.str y))) u10∧qb9 y=true,⟨fun _=>?_,fun _=>⟨fun _=>?_,fun _=>⟨fun _=>?_,fun _=>⟨w,_,rfl,hw1⟩⟩⟩⟩,?_⟩
    · obtain ⟨y,hy,he⟩:=qmU (ns:=WL) (k:=(sh+(0+(i:Nat))) % 9) (Int.emod_nonneg _ (by decide)) (Int.emod_lt_of_pos _ c9)
      exact ⟨c9,_,he,y,_,rfl,qqL y hy⟩
    · have h0:0≤(sh+5*(0+(i:Int))) % 12:=Int.emod_nonneg _ (by decide)
      have h1:(sh+5*(0+(i:Int))) % 12<12:=Int.emod_lt_of_pos _ c12
      obtain ⟨j,hj⟩:=Int.eq_ofNat_of_zero_le h0
      refine ⟨qcU (by decide) (by decide),c12,?_⟩
      refine ⟨bsz,_,qjU (j+1) (by omega),_,_,rfl,nm_iff.mpr ⟨?_,?_,qho hba _⟩⟩
      · rw [List.length_take];omega
      · rw [List.length_take];omega
    · have h0:0≤sh % 12:=Int.emod_nonneg _ (by decide)
      have h1:sh % 12<12:=Int.emod_lt_of_pos _ c12
      obtain ⟨j,hj⟩:=Int.eq_ofNat_of_zero_le h0
      obtain ⟨c,hc,hcl⟩:=qlP (x:=(sh+(0+(i:Nat))) % 26) (Int.emod_nonneg _ (by decide)) (Int.emod_lt_of_pos _ c26)
      have hs:=sizeLine_eq
      refine ⟨c12,bsz,_,qjU j hj,c26,qgB (by decide),c,hc,?_⟩
      have l1:(mkS ((L ba).take j)).length=j:=by rw [qgr,List.length_take];omega
      refine ⟨by rw [l1];show j+1≤sizeLine;omega,bsz,_,qnq (j+1) (by omega),?_⟩
      have e:mkS ((L ba).take j)++mkS [c]++mkS ((L ba).drop (j+1))=mkS ((L ba).take j++[c]++(L ba).drop (j+1)):=by rw [qe1,qe1]
      refine ⟨?_,_,_,congrArg (fun y=>NS pa n o6 ma sh ba ns (some (.v (.int (0+(i:Nat))))) (some (.v (.str y))) (some (.v (.int (sh % 12))))) e,nm_iff.mpr ?_⟩
      · rw [qa4,l1,qgr,List.length_drop]
        show j+1+((L ba).length - (j+1))≤sizeLine
        omega
      · refine ⟨?_,?_,?_⟩
        · simp only [List.length_append,List.length_take,List.length_drop,List.length_cons,List.length_nil];omega
        · simp only [List.length_append,List.length_take,List.length_drop,List.length_cons,List.length_nil];omega
        · rw [List.all_append,List.all_append,qho hba,qk8 hba]
          simpa using hcl
    · rintro ρ ⟨y,u10,rfl,hy⟩
      refine ⟨⟨_,_,rfl⟩,_,rfl,rfl,_,ns,y,rfl,by omega,hy,fun z hz hzn=>?_⟩
      dsimp only [qam,qal,qa0,qa6,qbr,qbi,qbs,List.set]
      refine ⟨by rw [List.length_map];exact qaC (by omega),_,qnl D.str ns z,?_⟩
      exact ⟨_,o6,_,_,_,rfl,hns.snoc (by omega) hz hzn,by rw [List.length_append,hnl];rfl,hp6.mono (by omega)⟩
  rintro ρ ⟨ns,o4,u8,u9,u10,rfl,hns,hnl,hp4⟩
  rw [qa2,Int.toNat_natCast] at hnl hp4
  exact ⟨_,rfl,q ns o4 hns hnl (hp4.mono (by omega))⟩
def qbA:SpM:=fun as R _=>∃ (a:Option Addr) (o:Om) (m:Nat),as=[.ob a o]∧Pl m o∧m+100<2 ^ 20∧∀ (z:Int) (o':Om),smi z→Pl (m+2) o'→R (.v (.int z)) [o']
def NL:List Int:=[1,-1,9,-10,9999,-9999]
theorem qpO:∀ z∈NL,smi z:=by unfold smi;decide
theorem qkY {ns:List Int} {k:Int} (h0:0≤k) (h1:k<ns.length):∃ y∈ns,atI (ns.map D.int) k=some (.int y):=by
  obtain ⟨i,rfl⟩:=Int.eq_ofNat_of_zero_le h0
  have hi:i<ns.length:=by omega
  exact ⟨ns[i],List.getElem_mem hi,qdx (i:=i) (List.getElem?_eq_getElem hi) rfl⟩
theorem qeE {n:Nat} {f:Addr} {fd:FuncData} (F:Fun K "_law_number" "_law_number" qby f fd) (R__law_draw:ClM P w K mg base n "_law_draw" ["_law_pool_here","_law_many"] qaY):FnOk P w K mg base CX0 (n+1) f fd ["_law_pool_here"] (qdD K qbA):=by
  refine F.okM sc__law_number (fun as R Rx h=>?_) (fun cdv A outer s H E as R Rx qs hcd hr h hqs=>?_)
  · obtain ⟨a,o,m,rfl,_⟩:=h;rfl
  obtain ⟨a,o,m,rfl,hp,hm,q⟩:=h
  obtain ⟨pa,rfl⟩:=qih hqs
  refine ⟨_,(qan (qaM (i:=1) sc__law_number.nd rfl (Or.inl rfl) (qaE R__law_draw hr rfl (qaF 0 (qav (qaO qad) qaI qab) qaa) qaa (qaj qab qac)))
      (qcw (qe7 (qdG (qaK (qeG hr.units) (dvq 1) (PD.q qad) (qas _))) (qaL (qcl (qaO qad))) qc0)
      (qcw (qe7 (qdG (qaK (qeG hr.units) (dvq 1) (PD.q qad) (qas _))) (qaL (qcl (qrE (qaO (qbp (qae qad (qae (qdi (PD.q qad)) (qae qad (qae (qdi (PD.q qad)) (qae qad (qae (qdi (PD.q qad)) qau qcz) qab) qcz) qab) qcz) qab))) (qaE R__law_draw hr rfl (qaF 0 (qav (qaO qad) qaI qab) qaa) qaa (qaj qab qac)) (fun _ _=>rfl)))) qc0)
      (qaL (qcl (qm2 qh8 (qaE R__law_draw hr rfl (qaF 0 (qav (qaO qad) qaI qab) qaa) qaa (qaj qab qac)) (qaO qad))))))),?_⟩
  refine ⟨⟨_,_,rfl⟩,_,rfl,rfl,_,_,6,m,rfl,hp,by omega,by decide,lt9 (by decide),fun x o1 x0 x1 hp1=>?_⟩
  dsimp only [qam,qal,qa0,qa6,qbr,qbi,qbs,List.set]
  refine ⟨fun ρ=>ρ=[some (.ob (some pa) o1),some (.v (.int x))],⟨fun _=>⟨_,rfl,q _ _ (by unfold smi;decide) (hp1.mono (by omega))⟩,fun _=>rfl⟩,?_⟩
  rintro ρ rfl
  refine ⟨fun ρ=>ρ=[some (.ob (some pa) o1),some (.v (.int x))],⟨fun _=>?_,fun _=>rfl⟩,?_⟩
  · refine ⟨⟨_,_,rfl⟩,_,rfl,rfl,_,_,6,_,rfl,hp1,by omega,by decide,lt9 (by decide),fun y o2 y0 y1 hp2=>?_⟩
    dsimp only [qam,qal,qa0,qa6,qbr,qbi,qbs,List.set]
    obtain ⟨z,hz,he⟩:=qkY (ns:=NL) y0 y1
    exact ⟨_,he,_,rfl,q _ _ (qpO z hz) hp2⟩
  rintro ρ rfl
  refine ⟨⟨_,_,rfl⟩,_,rfl,rfl,_,_,19999,_,rfl,hp1,by omega,by decide,lt9 (by decide),fun y o2 y0 y1 hp2=>?_⟩
  dsimp only [qam,qal,qa0,qa6,qbr,qbi,qbs,List.set]
  exact ⟨_,rfl,q _ _ (by unfold smi;omega) hp2⟩
open Tx
abbrev Pn:=Nat × Int
def pnD (t:Pn):D:=.tup [.int (t.1:Nat),.int t.2]
def PnOk (n:Nat) (ts:List Pn):Prop:=(ts.map (·.1)).Nodup∧∀ t∈ts,t.1<n∧smi t.2
def qdv:SpM:=fun as R _=>∃ (a:Option Addr) (o:Om) (n m:Nat),as=[.ob a o,.v (.int (n:Nat))]∧Pl m o∧m+200<2 ^ 20∧n≤8∧∀ (ts:List Pn) (o':Om),PnOk n ts→Pl (m+40) o'→R (.own (ts.map pnD)) [o']
def plD (p:Nat):D:=.int (p:Nat)
theorem qmp (i:Nat):D.int (0+(i:Int))=plD i:=by unfold plD;rw [Int.zero_add]
def PsOk (n:Nat) (ps:List Nat):Prop:=ps.Nodup∧∀ p∈ps,p<n
theorem PsOk.perm {n:Nat} {ps qs:List Nat} (h:PsOk n ps) (e:List.Perm qs ps):PsOk n qs:=⟨e.nodup_iff.mpr h.1,fun p hp=>h.2 p (e.mem_iff.mp hp)⟩
theorem qfu {n:Nat} {f:Addr} {fd:FuncData} (F:Fun K "_law_terms" "_law_terms" qa9 f fd) (R__law_draw:ClM P w K mg base n "_law_draw" ["_law_pool_here","_law_many"] qaY) (R__law_number:ClM P w K mg base n "_law_number" ["_law_pool_here"] qbA) (z_range:mg "range"=none) (z_len:mg "len"=none):FnOk P w K mg base CX0 (n+1) f fd ["_law_pool_here","_law_count"] (qdD K qdv):=by
  refine F.okM sc__law_terms (fun as R Rx h=>?_) (fun cdv A outer s H E as R Rx qs hcd hr h hqs=>?_)
  · obtain ⟨a,o,n,m,rfl,_⟩:=h;rfl
  obtain ⟨a,o,n,m,rfl,hp,hm,hn,q⟩:=h
  obtain ⟨pa,rfl⟩:=qih hqs
  refine ⟨_,(qan (qm5 (i:=2) (N':=["_law_k","_law_pool_here"]) (cap:=[none,some 0]) rfl sc__law_terms.nd rfl (Or.inl rfl) (.ok (show qcO ["_law_pool_here","_law_count","_law_places","_law_k","_law_at"] (qaf qa9) _ ["_law_k","_law_pool_here"] [none,some 0]=true by decide +kernel)) (by decide +kernel) (qeB (qdP rfl z_range (qae (dv 1) qau qaa))) (fun _ _ _ _ _=>(qbq (i:=0) (show List.Nodup (["_law_k","_law_pool_here"]:List Str) by decide +kernel) rfl (Or.inl rfl))) (fun _ _ _ _ _=>(qnh (qlv qmg (qaE R__law_draw hr rfl (qaF 1 (qav (qaO qad) qaI qab) qaa) qaa (qaj qab qac)) (qaO qad) (qas _)))) (fun _ _ _ _ _=>(qaO (dv 0))))
      (qan (qfG PassesOwn.never rfl (qeB (qdP rfl z_range (qae (qaN qb7 rfl z_len PySem.boot_len (qaw (dvq 2) qaG qaa) qaa qac) qau qaD))) (qbq (i:=3) sc__law_terms.nd rfl (Or.inl rfl)) (qan (qaM (i:=4) sc__law_terms.nd rfl (Or.inl rfl) (qaE R__law_draw hr rfl (qaF 0 (qav (qaO (qaN qb7 rfl z_len PySem.boot_len (qaw (dvq 2) qaG qaa) qaa qac)) qaI qaD) qaa) qaa (qaj qaD qac)))
      (qaL (qoM 2 rfl (qaO (qbp (qae (qbF (dvq 2) (dvq 4) (fun _ _=>rfl)) (qae (qbF (dvq 2) (dvq 3) (fun _ _=>rfl)) qau qah) qah))) (qaO (dv 3)) (qaO (dv 4))))))
      (qo9 2 (qaL (qcl (qoU (N':=["_law_place","_law_pool_here"]) (cap:=[none,some 0]) rfl (.ok (show qcO ["_law_pool_here","_law_count","_law_places","_law_k","_law_at"] (qaf qa9) _ ["_law_place","_law_pool_here"] [none,some 0]=true by decide +kernel)) (by decide +kernel) (qeB (qfP (dv 2))) (fun _ _ _ _ _=>(qbq (i:=0) (show List.Nodup (["_law_place","_law_pool_here"]:List Str) by decide +kernel) rfl (Or.inl rfl))) (fun _ _ _ _ _=>qmT) (fun _ _ _ _ _=>(qp4 (qav (qaO (dv 0)) (qav (qaE R__law_number hr rfl (qaF 1 qaI qaa) qaa qac) qaI qaD) qaa))))))))),?_⟩
  refine ⟨⟨by omega,by omega⟩,qaC (by rw [qa2];omega),fun i ys ρc=>∃ (ps:List Nat) (u:Option Sm) (o':Om),ys=ps.map plD∧PsOk i ps∧ρc=[u,some (.ob (some pa) o')]∧Pl (m+i) o',⟨[],_,o,rfl,⟨List.nodup_nil,fun p h=>by cases h⟩,rfl,hp⟩,?_,?_⟩
  · rintro i d ys ρc hd ⟨ps,u,o1,rfl,hps,rfl,hp1⟩
    obtain ⟨hi,rfl⟩:=qbZ hd
    dsimp only [qam,qal,qa0,qa6,qbr,qbi,qbs,List.set]
    refine ⟨⟨_,_,rfl⟩,_,rfl,rfl,_,_,3,_,rfl,hp1,by omega,by decide,lt9 (by decide),fun x o2 x0 x1 hp2=>?_⟩
    dsimp only [qam,qal,qa0,qa6,qbr,qbi,qbs,List.set]
    refine ⟨fun _=>⟨ps++[i],_,o2,by rw [qmp,List.map_append];rfl,?_,rfl,hp2⟩,fun _=>⟨ps,_,o2,rfl,⟨hps.1,fun p h=>by have:=hps.2 p h;omega⟩,rfl,hp2⟩⟩
    refine ⟨?_,fun p h=>?_⟩
    · rw [List.nodup_append]
      refine ⟨hps.1,by simp,fun x hx y hy e=>?_⟩
      have:=hps.2 x hx
      rw [e,List.mem_singleton.mp hy] at this
      omega
    · rcases List.mem_append.mp h with h | h
      · have:=hps.2 p h;omega
      · rw [List.mem_singleton.mp h];omega
  rintro ys ρc ⟨ps,u,o1,rfl,hps,rfl,hp1⟩
  rw [qa2,Int.toNat_natCast] at hps hp1
  have hpl:ps.length≤n:=by
    have:=qdO (ys:=List.range n) hps.1 fun x hx=>List.mem_range.mpr (hps.2 x hx)
    rw [List.length_range] at this
    exact this
  refine ⟨o1,rfl,?_⟩
  dsimp only [qam,qal,qa0,qa6,qbr,qbi,qbs,List.set]
  refine ⟨⟨by rw [List.length_map];omega,by rw [List.length_map];omega⟩,fun i ρ=>∃ (qs:List Nat) (o':Om) (u3 u4:Option Sm),ρ=[some (.ob (some pa) o'),some (.v (.int (n:Nat))),some (.own (qs.map plD)),u3,u4]∧PsOk n qs∧qs.length=ps.length∧Pl (m+8+i) o',⟨ps,o1,_,_,rfl,hps,rfl,hp1.mono (by omega)⟩,?_,?_⟩
  · rintro i d ρ hd ⟨qs,o2,u3,u4,rfl,hqs',hql,hp2⟩
    obtain ⟨hi,rfl⟩:=qbZ hd
    rw [List.length_map,Int.toNat_natCast] at hi
    dsimp only [qam,qal,qa0,qa6,qbr,qbi,qbs,List.set]
    refine ⟨⟨_,_,rfl⟩,_,rfl,rfl,_,_,_,_,rfl,hp2,by omega,by rw [List.length_map];omega,lt9 (by rw [List.length_map];omega),fun x o3 x0 x1 hp3=>?_⟩
    dsimp only [qam,qal,qa0,qa6,qbr,qbi,qbs,List.set]
    rw [List.length_map] at x1
    obtain ⟨k,rfl⟩:=Int.eq_ofNat_of_zero_le x0
    have hk:k<qs.length:=by omega
    have hi2:i<qs.length:=by omega
    refine ⟨_,qdx (i:=k) (List.getElem?_eq_getElem hk) rfl,_,qdx (i:=i) (List.getElem?_eq_getElem hi2) (Int.zero_add _),?_⟩
    refine ⟨i,by rw [Int.zero_add];exact qe5 (by rw [List.length_map];exact hi2),(qs.set i qs[k]).map plD,by rw [List.map_set];rfl,_,rfl,?_⟩
    refine ⟨k,qe5 (by rw [List.length_map,List.length_set];exact hk),((qs.set i qs[k]).set k qs[i]).map plD,by rw [List.map_set (l:=qs.set i qs[k])];rfl,_,rfl,?_⟩
    exact ⟨_,o3,_,_,rfl,hqs'.perm (List.set_set_perm hi2 hk),by rw [List.length_set,List.length_set,hql],hp3⟩
  rintro ρ ⟨qs,o2,u3,u4,rfl,hqs',hql,hp2⟩
  rw [qa2,List.length_map,Int.toNat_natCast] at hp2
  dsimp only [qam,qal,qa0,qa6,qbr,qbi,qbs,List.set]
  refine ⟨by rw [List.length_map];exact qaC (by omega),fun i ys ρc=>∃ (ts:List Pn) (u:Option Sm) (o':Om),ys=ts.map pnD∧ts.map (·.1)=qs.take i∧(∀ t∈ts,smi t.2)∧ρc=[u,some (.ob (some pa) o')]∧Pl (m+16+2*i) o',⟨[],_,o2,rfl,rfl,fun t h=>(by cases h),rfl,hp2.mono (by omega)⟩,?_,?_⟩
  · rintro i d ys ρc hd ⟨ts,u,o3,rfl,h1,h2,rfl,hp3⟩
    obtain ⟨p,rfl,hp1'⟩:=qci hd
    have hi:=qag hp1'
    dsimp only [qam,qal,qa0,qa6,qbr,qbi,qbs,List.set]
    refine ⟨fun _=>?_,fun h=>(by cases h)⟩
    refine ⟨⟨_,_,rfl⟩,_,rfl,rfl,_,_,_,rfl,hp3,by omega,fun z o4 hz hp4=>?_⟩
    exact ⟨ts++[(p,z)],_,o4,by rw [List.map_append];rfl,by rw [List.map_append,h1,qbI hp1'];rfl,fun t ht=>by
      rcases List.mem_append.mp ht with ht | ht
      · exact h2 t ht
      · rw [List.mem_singleton.mp ht];exact hz,rfl,hp4⟩
  rintro ys ρc ⟨ts,u,o3,rfl,h1,h2,rfl,hp3⟩
  rw [List.length_map] at h1 hp3
  rw [List.take_length] at h1
  refine ⟨o3,rfl,_,rfl,q ts o3 ⟨by rw [h1];exact hqs'.1,fun t ht=>⟨hqs'.2 _ (by rw [← h1];exact List.mem_map_of_mem ht),h2 t ht⟩⟩ (hp3.mono (by omega))⟩
def qcR (ns:List Str) (ts:List Pn):List Tm:=ts.map fun t=>(t.2,ns.getD t.1 "")
theorem PnOk.len {n:Nat} {ts:List Pn} (h:PnOk n ts):ts.length≤n:=by
  have:=qdO (ys:=List.range n) h.1 fun x hx=>by
    obtain ⟨t,ht,rfl⟩:=List.mem_map.mp hx
    exact List.mem_range.mpr (h.2 t ht).1
  rw [List.length_range,List.length_map] at this
  exact this
theorem qdc {ns:List Str} {p:Nat} (h:p<ns.length):ns[p]?=some (ns.getD p ""):=by
  rw [List.getD_eq_getElem?_getD,List.getElem?_eq_getElem h]
  rfl
theorem qdr {ns:List Str} {ts:List Pn} (hn:NmOk ns) (ht:PnOk ns.length ts):(∀ t∈qcR ns ts,qm0 t)∧qm1 ns (qcR ns ts)∧(qcR ns ts).length≤8:=by
  have mem:∀ t∈qcR ns ts,t.2∈ns:=fun t h=>by
    obtain ⟨p,hp,rfl⟩:=List.mem_map.mp h
    exact List.mem_of_getElem? (qdc (ht.2 p hp).1)
  refine ⟨fun t h=>⟨?_,hn.2.2 _ (mem t h)⟩,⟨mem,?_⟩,?_⟩
  · obtain ⟨p,hp,rfl⟩:=List.mem_map.mp h
    exact (ht.2 p hp).2
  · unfold qcR
    rw [List.map_map]
    have key:∀ l:List Pn,(l.map (·.1)).Nodup→(∀ t∈l,t.1<ns.length)→(l.map fun t=>ns.getD t.1 "").Nodup:=by
      intro l
      induction l with
      | nil=>intro _ _;exact List.nodup_nil
      | cons t l ih =>
        intro h1 h2
        rw [List.map_cons,List.nodup_cons] at h1 ⊢
        refine ⟨fun hm=>h1.1 ?_,ih h1.2 fun x hx=>h2 x (List.mem_cons_of_mem _ hx)⟩
        obtain ⟨x,hx,e⟩:=List.mem_map.mp hm
        have e1:=qdc (h2 x (List.mem_cons_of_mem _ hx))
        have e2:=qdc (h2 t List.mem_cons_self)
        rw [e,← e2] at e1
        have:=(List.getElem?_inj (h2 x (List.mem_cons_of_mem _ hx)) hn.1).mp e1
        rw [← this]
        exact List.mem_map_of_mem hx
    exact key ts ht.1 fun t h=>(ht.2 t h).1
  · unfold qcR
    rw [List.length_map]
    exact Nat.le_trans ht.len hn.2.1
def qeW:SpD:=fun ds R=>∃ (ns:List Str) (ts:List Pn),ds=[.lst (ts.map pnD),.lst (ns.map D.str)]∧NmOk ns∧PnOk ns.length ts∧R (.str (qhH (qcR ns ts)))
theorem szs {x y:Str} {a b:Nat} (h1:x.length≤a) (h2:y.length≤b) (h:a+b≤100000:=by decide):x.length+y.length≤sizeLine:=by
  have:=sizeLine_eq
  omega
theorem qmn {x y:Str} {a b:Nat} (h1:x.length≤a) (h2:y.length≤b):(x++y).length≤a+b:=by rw [qa4];omega
theorem qgs {n:Nat} {f:Addr} {fd:FuncData} (F:Fun K "_law_sum" "_law_sum" qbY f fd) (z_len:mg "len"=none) (z_str:mg "str"=none):FnOk P w K mg base CX0 (n+1) f fd ["_law_terms_here","_law_names_here"] (lSp K qeW):=by
  refine F.okD qgM (fun ds R h=>?_) (fun cdv A outer s H E ds R hr h=>?_)
  · obtain ⟨ns,ts,rfl,_⟩:=h;rfl
  obtain ⟨ns,ts,rfl,hn,ht,q⟩:=h
  refine ⟨_,(qbo (qdH (qaK (qeG hr.units) (PD.q (qaN qb7 rfl z_len PySem.boot_len (qaw (dvq 0) qaG qaa) qaa qac)) (PD.q qad) (qas _)) (qaR (qaX qax)) qbu)
      (qaR (qaX (qiG (PD.q qax) (PF.d (qdk (k:=2) (N':=["_law_place","_law_number_here","_law_names_here"]) (cap:=[none,none,some 1]) rfl (.ok (show qcO ["_law_terms_here","_law_names_here"] (qaf qbY) _ ["_law_place","_law_number_here","_law_names_here"] [none,none,some 1]=true by decide +kernel)) (by decide +kernel) (qlB (n:=2) (qfn (qdw (by decide)) (qfn (qdw (by decide)) qlU))) (qfP (dv 0)) (fun _ _ _ _ _=>(ql7 (n:=2) rfl (qdg (qck (i:=0) (show List.Nodup (["_law_place","_law_number_here","_law_names_here"]:List Str) by decide +kernel) rfl (Or.inl rfl)) (qdg (qck (i:=1) (show List.Nodup (["_law_place","_law_number_here","_law_names_here"]:List Str) by decide +kernel) rfl (Or.inl rfl)) qiO)))) (fun _ _ _ _ _=>(qbE qbH (PD.q (qbE qbH (PD.q (qaW qlN rfl z_str PyProof.Rows.boot_str (qaw (dvq 1) qaG qaa) qaa qac)) (PD.q qax))) (PD.q (qbF (dvq 2) (dvq 0) (fun _ _=>rfl))))))) (qbv qaJ) qaJ)))),?_⟩
  obtain ⟨k1,k2,k3⟩:=qdr hn ht
  have tl:=ht.len
  have n8:=hn.2.1
  refine ⟨fun ρ=>ts≠[]∧ρ=[some (.v (.lst (ts.map pnD))),some (.v (.lst (ns.map D.str)))],⟨fun h=>?_,fun h=>⟨fun z=>?_,rfl⟩⟩,?_⟩
  · have h:=qnK h
    rw [List.length_map] at h
    have e:ts=[]:=List.length_eq_zero_iff.mp (by omega)
    rw [e] at q
    exact q
  · rw [z] at h;exact tf h
  rintro ρ ⟨hne,rfl⟩
  have hne2:qcR ns ts≠[]:=fun z=>hne (List.map_eq_nil_iff.mp z)
  refine ⟨_,rfl,?_⟩
  refine qc1 (f:=pnD) (fun t=>D.str (tmS (t.2,ns.getD t.1 ""))) (qaC (by omega)) (fun t h=>?_) ?_
  · obtain ⟨h1,h2⟩:=ht.2 t h
    have a6:=qbm h2
    have b6:=qeV (hn.2.2 _ (List.mem_of_getElem? (qdc h1)))
    have c1:(" ":Str).length≤1:=by decide
    refine ⟨rfl,_,rfl,big h2,szs a6 c1,_,qdx (i:=t.1) (qdc h1) rfl,szs (qmn a6 c1) b6,?_⟩
    unfold tmS
    rw [Str.append_assoc]
  refine ⟨(qcR ns ts).map tmS,by unfold qcR;rw [List.map_map,List.map_map];rfl,qfR 18 (fun z hz=>?_) ?_,?_⟩
  · obtain ⟨t,h,rfl⟩:=List.mem_map.mp hz
    have h1:=qbm (k1 t h).1
    have h2:=qeV (k1 t h).2
    have c:(" ":Str).length=1:=by decide
    unfold tmS
    rw [qa4,qa4,c]
    omega
  · have c:(" + ":Str).length=3:=by decide
    rw [List.length_map,c]
    omega
  · have e:Txt.join " + " ((qcR ns ts).map tmS)=qhH (qcR ns ts):=(PySem.StrLaws.glued_eq_join _ _).trans (qrp hne2)
    rw [e]
    exact q
def qd5 (l:List Pn) (j:Nat):Int:=match l.find? (fun t=>decide (t.1=j)) with | some t=>t.2 | none=>0
def qeI (n:Nat) (sn:Int) (l:List Pn):List Int:=(List.range n).map fun j=>sn*qd5 l j
theorem qi9 {n:Nat} {sn:Int} {l:List Pn} {t:Pn} (h:t.1∉l.map (·.1)) (ht:t.1<n):qeI n sn (l++[t])=(qeI n sn l).set t.1 (sn*t.2):=by
  unfold qeI
  refine List.ext_getElem? fun j=>?_
  rw [List.getElem?_map,List.getElem?_set]
  rcases Nat.lt_or_ge j n with c | c
  · rw [List.getElem?_range c,List.length_map,List.length_range,List.getElem?_map,List.getElem?_range c]
    have e:qd5 (l++[t]) j=if t.1=j then t.2 else qd5 l j:=by
      unfold qd5
      rw [List.find?_append]
      by_cases z:t.1=j
      · have h0:l.find? (fun t=>decide (t.1=j))=none:=List.find?_eq_none.mpr fun x hx hc=>h (by rw [z,← of_decide_eq_true hc];exact List.mem_map_of_mem hx)
        rw [h0,if_pos z,List.find?_cons_of_pos (p:=fun t:Pn=>decide (t.1=j)) (decide_eq_true z)]
        rfl
      · rw [if_neg z,List.find?_cons_of_neg (p:=fun t:Pn=>decide (t.1=j)) (by simpa using z),List.find?_nil,Option.or_none]
    show some (sn*qd5 (l++[t]) j)=_
    rw [e]
    by_cases z:t.1=j
    · rw [if_pos z,if_pos z,if_pos (by omega)]
    · rw [if_neg z,if_neg z]
      rfl
  · rw [List.getElem?_eq_none (by rw [List.length_range];exact c),if_neg (by omega),List.getElem?_map,List.getElem?_eq_none (by rw [List.length_range];exact c)]
    rfl
def qcN:SpD:=fun ds R=>∃ (ts:List Pn) (n:Nat) (sn:Int),ds=[.lst (ts.map pnD),.int (n:Nat),.int sn]∧n≤8∧PnOk n ts∧(sn=1∨sn = -1)∧R (.tup ((qeI n sn ts).map D.int))
theorem qeb {n:Nat} {f:Addr} {fd:FuncData} (F:Fun K "_law_entries" "_law_entries" qbj f fd) (z_tuple:mg "tuple"=none):FnOk P w K mg base CX0 (n+1) f fd ["_law_terms_here","_law_count","_law_sign"] (qdD K (zM qcN)):=by
  refine F.okM sc__law_entries (fun as R Rx h=>?_) (fun cdv A outer s H E as R Rx qs hcd hr h hqs=>?_)
  · obtain ⟨_,rfl,ts,n,sn,rfl,_⟩:=h;rfl
  obtain ⟨_,rfl,ts,n,sn,rfl,hn,ht,hs,q⟩:=h
  obtain rfl:=qpI hqs
  refine ⟨_,(qan (qaM (i:=3) sc__law_entries.nd rfl (Or.inl rfl) (qle (qn3 (PD.q (PF.d (qdJ (qae qad qau qab)))) (dvq 1))))
      (qan (qfG PassesOwn.never rfl (qeB (qfP (dv 0))) (qkX (n:=2) rfl (qcr (qbq (i:=4) sc__law_entries.nd rfl (Or.inl rfl)) (qcr (qbq (i:=5) sc__law_entries.nd rfl (Or.inl rfl)) qhs))) (qaL (qpn 3 (qaO (qbE qee (dvq 2) (dvq 5))) (qaO (dv 4)))))
      (qaL (qcl (qaO (qaW qbJ rfl z_tuple PyProof.Rows.boot_tuple (qaw (dvq 3) qaG qaa) qaa qac)))))),?_⟩
  have tl:=ht.len
  have hs1:=sizeLine_eq
  refine ⟨⟨by omega,by omega,by show 1*(n:Int).toNat≤sizeLine;omega⟩,(qeI n sn []).map D.int,?_,?_⟩
  · unfold qeI
    rw [Int.toNat_natCast,List.map_map]
    have e:(D.int ∘ fun j=>sn*qd5 [] j)=fun _:Nat=>D.int 0:=by
      funext j
      show D.int (sn*0)=_
      rw [Int.mul_zero]
    rw [e,List.map_const',List.length_range]
    exact List.flatten_replicate_singleton
  dsimp only [qam,qal,qa0,qa6,qbr,qbi,qbs,List.set]
  refine ⟨fun i ρ=>∃ (u4 u5:Option Sm),ρ=[some (.v (.lst (ts.map pnD))),some (.v (.int (n:Nat))),some (.v (.int sn)),some (.own ((qeI n sn (ts.take i)).map D.int)),u4,u5],⟨_,_,rfl⟩,?_,?_⟩
  · rintro i d ρ hd ⟨u4,u5,rfl⟩
    obtain ⟨t,rfl,ht1⟩:=qci hd
    obtain ⟨a1,a2⟩:=ht.2 t (List.mem_of_getElem? ht1)
    refine ⟨rfl,?_⟩
    dsimp only [qam,qal,qa0,qa6,qbr,qbi,qbs,List.set]
    refine ⟨qcU (by omega) (by omega),t.1,qe5 (by unfold qeI;rw [List.length_map,List.length_map,List.length_range];exact a1),(qeI n sn (ts.take (i+1))).map D.int,?_,_,_,rfl⟩
    rw [qbI ht1,qi9 ?_ a1,List.map_set]
    intro hm
    obtain ⟨k,hk⟩:=List.getElem?_of_mem hm
    have hk1:k<i:=by
      have:=qag hk
      rw [List.length_map,List.length_take] at this
      omega
    rw [List.getElem?_map,List.getElem?_take_of_lt hk1,← List.getElem?_map] at hk
    have hi1:(ts.map (·.1))[i]?=some t.1:=by rw [List.getElem?_map,ht1];rfl
    have:=(List.getElem?_inj (qag hk) ht.1).mp (hk.trans hi1.symm)
    omega
  rintro ρ ⟨u4,u5,rfl⟩
  rw [List.length_map,List.take_length]
  exact q
open Tx
def qcq:SpM:=fun as R _=>∃ (a:Option Addr) (o:Om) (ns:List Str) (m:Nat),as=[.ob a o,.v (.lst (ns.map D.str))]∧Pl m o∧m+200<2 ^ 20∧NmOk ns∧∀ (bs:List Bdn) (o':Om),bs.length=ns.length→(∀ b∈bs,smi b.1∧∀ k,b.2=some k→smi k)→Pl (m+40) o'→R (.ob none (.pr (((List.zipWith (fun x (b:Bdn)=>Frm.unk x b.1 b.2) ns bs).map qbK).map D.str) (.tup (bs.map qkR)))) [o']
abbrev qgK (ns:List Str) (bs:List Bdn):List Frm:=List.zipWith (fun x (b:Bdn)=>Frm.unk x b.1 b.2) ns bs
theorem qjB {ns:List Str} {bs:List Bdn} {x:Str} {b:Bdn} (h:ns.length=bs.length):qgK (ns++[x]) (bs++[b])=qgK ns bs++[Frm.unk x b.1 b.2]:=by
  unfold qgK
  rw [List.zipWith_append h]
  rfl
theorem qej (W:List Frm) (f:Frm) {w:Str} (h:w=qbK f):(W.map qbK).map D.str++[D.str w]=((W++[f]).map qbK).map D.str:=by
  rw [h,List.map_append,List.map_append]
  rfl
theorem qda {α:Type} {P:α→Prop} {xs:List α} {x:α} (h:∀ y∈xs,P y) (hx:P x):∀ y∈xs++[x],P y:=fun y hy=>by
  rcases List.mem_append.mp hy with hy | hy
  · exact h y hy
  · rw [List.mem_singleton.mp hy];exact hx
def qrB (n:Nat) (bs:List Bdn):Prop:=bs.length=n∧∀ b∈bs,smi b.1∧∀ k,b.2=some k→smi k
abbrev US (pa:Addr) (o:Om) (ns:List Str) (fs:List Frm) (bs:List Bdn) (u4 u5 u6 u7:Option Sm):qaB:=[some (.ob (some pa) o),some (.v (.lst (ns.map D.str))),some (.own ((fs.map qbK).map D.str)),some (.own (bs.map qkR)),u4,u5,u6,u7]
theorem qdF {n:Nat} {f:Addr} {fd:FuncData} (F:Fun K "_law_unknowns" "_law_unknowns" qbc f fd) (R__law_number:ClM P w K mg base n "_law_number" ["_law_pool_here"] qbA) (R__law_draw:ClM P w K mg base n "_law_draw" ["_law_pool_here","_law_many"] qaY) (z_tuple:mg "tuple"=none):FnOk P w K mg base CX0 (n+1) f fd ["_law_pool_here","_law_names_here"] (qdD K qcq):=by
  refine F.okM sc__law_unknowns (fun as R Rx h=>?_) (fun cdv A outer s H E as R Rx qs hcd hr h hqs=>?_)
  · obtain ⟨a,o,ns,m,rfl,_⟩:=h;rfl
  obtain ⟨a,o,ns,m,rfl,hp,hm,hn,q⟩:=h
  obtain ⟨pa,rfl⟩:=qih hqs
  refine ⟨_,(qan (qaM (i:=2) sc__law_unknowns.nd rfl (Or.inl rfl) (qle (qdJ qau)))
      (qan (qaM (i:=3) sc__law_unknowns.nd rfl (Or.inl rfl) (qle (qdJ qau)))
      (qan (qfG PassesOwn.never rfl (qeB (qfP (dv 1))) (qbq (i:=4) sc__law_unknowns.nd rfl (Or.inl rfl)) (qan (qaM (i:=5) sc__law_unknowns.nd rfl (Or.inl rfl) (qaE R__law_number hr rfl (qaF 0 qaI qaa) qaa qac))
      (qan (qaM (i:=6) sc__law_unknowns.nd rfl (Or.inl rfl) (qaE R__law_number hr rfl (qaF 0 qaI qaa) qaa qac))
      (qan (qaM (i:=7) sc__law_unknowns.nd rfl (Or.inl rfl) (qaO (qoC (qeu j_c (qeu (j_v (dv 4)) (qeu j_c (qlG (j_v (dv 5)))))))))
      (qcw (qe7 (qlv (qeG hr.units) (qaE R__law_draw hr rfl (qaF 0 (qav (qaO qad) qaI qab) qaa) qaa (qaj qab qac)) (qaO qad) (qas _)) (qaL (qaM (i:=6) sc__law_unknowns.nd rfl (Or.inl rfl) (qaO qaQ))) (qaL (qaM (i:=7) sc__law_unknowns.nd rfl (Or.inl rfl) (qaO (qoC (qeu (j_v (dv 7)) (qeu j_c (qlG (j_v (dv 6))))))))))
      (qan (qcD 2 (qaO (dv 7)) (qbv qaa) qaa)
      (qaL (qcD 3 (qaO (qbp (qae (dv 5) (qae (dv 6) qau qaa) qaa))) (qbv qbk) qbk))))))))
      (qaL (qcl (qp8 (qav (qlR 2) (qav (qaO (qaW qbJ rfl z_tuple PyProof.Rows.boot_tuple (qaw (dvq 3) qaG qaa) qaa qac)) qaI qaD) qaa))))))),?_⟩
  have n8:=hn.2.1
  refine ⟨fun i ρ=>∃ (bs:List Bdn) (o':Om) (u4 u5 u6 u7:Option Sm),ρ=US pa o' ns (qgK (ns.take i) bs) bs u4 u5 u6 u7∧qrB i bs∧Pl (m+5*i) o',⟨[],o,_,_,_,_,rfl,⟨rfl,fun b h=>by cases h⟩,hp⟩,?_,?_⟩
  · rintro i d ρ hd ⟨bs,o1,u4,u5,u6,u7,rfl,⟨hbl,hb⟩,hp1⟩
    obtain ⟨x,rfl,hx⟩:=qci hd
    have hi:=qag hx
    have x6:=qeV (hn.2.2 x (List.mem_of_getElem? hx))
    have c1:("unknown ":Str).length≤8:=by decide
    have c2:(" from ":Str).length≤6:=by decide
    have c3:(" to ":Str).length≤4:=by decide
    dsimp only [qam,qal,qa0,qa6,qbr,qbi,qbs,List.set]
    refine ⟨⟨_,_,rfl⟩,_,rfl,rfl,_,_,_,rfl,hp1,by omega,fun l o2 hl hp2=>?_⟩
    dsimp only [qam,qal,qa0,qa6,qbr,qbi,qbs,List.set]
    refine ⟨⟨_,_,rfl⟩,_,rfl,rfl,_,_,_,rfl,hp2,by omega,fun k o3 hk hp3=>?_⟩
    dsimp only [qam,qal,qa0,qa6,qbr,qbi,qbs,List.set]
    have l6:=qbm hl
    have k6:=qbm hk
    have ll:("unknown "++(x++(" from "++nstr l))).length≤8+(12+(6+5)):=qmn c1 (qmn x6 (qmn c2 l6))
    refine ⟨le6 c1,le6 x6,le6 x6,le6 c2,big hl,le6 l6,?_⟩
    dsimp only [qam,qal,qa0,qa6,qbr,qbi,qbs,List.set]
    refine ⟨fun ρ=>∃ (mo:Option Int) (o':Om),ρ=US pa o' ns (qgK (ns.take i) bs) bs (some (.v (.str x))) (some (.v (.int l))) (some (.v (qpG mo))) (some (.v (.str (qbK (.unk x l mo)))))∧(∀ k,mo=some k→smi k)∧Pl (m+5*i+5) o',?_,?_⟩
    · refine ⟨⟨_,_,rfl⟩,_,rfl,rfl,_,_,3,_,rfl,hp3,by omega,by decide,lt9 (by decide),fun y o4 y0 y1 hp4=>?_⟩
      dsimp only [qam,qal,qa0,qa6,qbr,qbi,qbs,List.set]
      refine ⟨fun _=>⟨none,o4,?_,fun k h=>(by cases h),hp4⟩,fun _=>?_⟩
      · rw [← qsx]
        rfl
      · refine ⟨le6 ll,le6 ll,le6 c3,big hk,le6 k6,some k,o4,?_,fun k' h=>(by cases h;exact hk),hp4⟩
        rw [← qql]
        show _=US pa o4 ns (qgK (ns.take i) bs) bs _ _ _ _
        simp only [Str.append_assoc]
        rfl
    · rintro ρ ⟨mo,o4,rfl,hmo,hp4⟩
      have hul:(qgK (ns.take i) bs).length≤8:=by rw [List.length_zipWith,List.length_take];omega
      refine ⟨by rw [List.length_map,List.length_map];exact qaC (by omega),((qgK (ns.take (i+1)) (bs++[(l,mo)])).map qbK).map D.str,?_,?_⟩
      · rw [qbI hx,qjB (by rw [List.length_take,hbl];omega)]
        exact qej _ (Frm.unk x l mo) rfl
      dsimp only [qam,qal,qa0,qa6,qbr,qbi,qbs,List.set]
      exact ⟨by rw [List.length_map];exact qaC (by omega),_,qnl qkR bs (l,mo),bs++[(l,mo)],o4,_,_,_,_,rfl,⟨by rw [List.length_append,hbl];rfl,qda hb ⟨hl,hmo⟩⟩,hp4⟩
  rintro ρ ⟨bs,o1,u4,u5,u6,u7,rfl,⟨hbl,hb⟩,hp1⟩
  rw [List.length_map] at hbl hp1
  rw [List.length_map,List.take_length]
  exact ⟨_,_,rfl,_,rfl,q bs o1 hbl hb (hp1.mono (by omega))⟩
def sg (t:Bool):Int:=if t then -1 else 1
theorem qmA (t:Bool):sg t=1∨sg t = -1:=by cases t <;> decide
theorem qrz (t:Bool):-(2 ^ 64)<sg t∧sg t<2 ^ 64:=by cases t <;> decide
def atS (t:Bool):Str:=if t then " at most " else " at least "
def moS (t:Bool):Str:=if t then "least " else "most "
theorem qqX (t:Bool):atI [D.str " at least ",D.str " at most "] ((1 - sg t) / 2)=some (.str (atS t)):=by cases t <;> rfl
theorem qqe (t:Bool):atI [D.str "most ",D.str "least "] ((1 - sg t) / 2)=some (.str (moS t)):=by cases t <;> rfl
theorem qmL (t:Bool):(atS t).length≤10:=by cases t <;> decide
theorem qme (t:Bool):(moS t).length≤6:=by cases t <;> decide
theorem qqE (ts:List Tm) (b:Int) (t:Bool):"row "++(qhH ts++(atS t++nstr b))=qbK (.row ts b t):=by
  cases t
  · exact qsE ts b
  · exact qqF ts b
theorem qmW (ts:List Tm) (t:Bool):moS t++qhH ts=qbK (.worth ts (sg t)):=by
  cases t
  · exact (qlD ts).1
  · exact (qlD ts).2
abbrev Rp3:=List Pn × Int × Bool
def qoL (ns:List Str) (r:Rp3):Rwt:=(qcR ns r.1,r.2.1,r.2.2)
def qkQ (ns:List Str) (r:Rp3):Frm:=Frm.row (qcR ns r.1) r.2.1 r.2.2
def qn5 (n:Nat) (r:Rp3):Rw:=(qeI n (sg r.2.2) r.1,sg r.2.2*r.2.1)
def qqf (n:Nat) (r:Rp3):Prop:=PnOk n r.1∧smi r.2.1
abbrev fs7 (ns:List Str) (bs:List Bdn) (rs:List Rp3) (wt:List Pn) (t:Bool):List Frm:=qka ns bs (rs.map (qoL ns)) (qcR ns wt) (sg t)
abbrev qnQ (ns:List Str) (bs:List Bdn) (rs:List Rp3) (wt:List Pn) (t:Bool):D:=.tup [.tup (ns.map D.str),qrG bs (rs.map (qn5 ns.length)) (qeI ns.length (sg t) wt),.int (sg t)]
structure T7 (n:Nat) (ns:List Str) (bs:List Bdn) (rs:List Rp3) (wt:List Pn):Prop where
  nm:NmOk ns
  nl:ns.length=n
  bo:qrB n bs
  rl:rs.length≤12
  ro:∀ r∈rs,qqf n r
  wo:PnOk n wt
def qeo:SpM:=fun as R _=>∃ (a:Option Addr) (o:Om) (n m:Nat),as=[.ob a o,.v (.int (n:Nat))]∧Pl m o∧m+3000<2 ^ 20∧n≤8∧∀ (ns:List Str) (bs:List Bdn) (rs:List Rp3) (wt:List Pn) (t:Bool) (o':Om),T7 n ns bs rs wt→Pl (m+1000) o'→R (.v (.tup [.str (Str.join "\n" ((fs7 ns bs rs wt t).map qbK)),qnQ ns bs rs wt t])) [o']
theorem qjR {n:Nat} {ns:List Str} {bs:List Bdn} {rs:List Rp3} {wt:List Pn} {t:Bool} (h:T7 n ns bs rs wt):∀ f∈fs7 ns bs rs wt t,qex f∧(qbK f).length≤900:=by
  obtain ⟨hn,rfl,hb,hrl,hr,hw⟩:=h
  intro f hf
  have key:qex f∧qrd f:=by
    unfold fs7 qka at hf
    rcases List.mem_append.mp hf with hf | hf
    · obtain ⟨i,hi⟩:=List.getElem?_of_mem hf
      rw [List.getElem?_zipWith] at hi
      cases hx:ns[i]? with
      | none=>rw [hx] at hi;cases hi
      | some x =>
        cases hb1:bs[i]? with
        | none=>rw [hx,hb1] at hi;cases hi
        | some b =>
          rw [hx,hb1] at hi
          cases hi
          have h1:=hb.2 b (List.mem_of_getElem? hb1)
          exact ⟨⟨hn.2.2 x (List.mem_of_getElem? hx),h1.1,h1.2⟩,trivial⟩
    · rcases List.mem_append.mp hf with hf | hf
      · rw [List.map_map] at hf
        obtain ⟨r,hr1,rfl⟩:=List.mem_map.mp hf
        obtain ⟨h1,h2⟩:=hr r hr1
        obtain ⟨k1,k2,k3⟩:=qdr hn h1
        exact ⟨⟨k1,h2⟩,k3⟩
      · rw [List.mem_singleton.mp hf]
        obtain ⟨k1,k2,k3⟩:=qdr hn hw
        exact ⟨⟨k1,qmA t⟩,k3⟩
  exact ⟨key.1,qmP key.1 key.2⟩
theorem qgz {n:Nat} {ns:List Str} {bs:List Bdn} {rs:List Rp3} {wt:List Pn} {t:Bool} (h:T7 n ns bs rs wt):(fs7 ns bs rs wt t).length≤40:=by
  have h1:=h.nm.2.1
  have h2:=h.rl
  unfold fs7 qka
  simp only [List.length_append,List.length_zipWith,List.length_map,List.length_cons,List.length_nil]
  omega
abbrev X7 (pa:Addr) (n:Nat) (o:Om) (ns:List Str) (fs:List Frm) (bs:List Bdn) (rs:List Rp3) (u6 u7 u8 u9 u10:Option Sm):qaB:=[some (.ob (some pa) o),some (.v (.int (n:Nat))),some (.v (.lst (ns.map D.str))),some (.own ((fs.map qbK).map D.str)),some (.v (.tup (bs.map qkR))),some (.own ((rs.map (qn5 n)).map rwD)),u6,u7,u8,u9,u10]
theorem qhE {ns:List Str} {ts:List Pn} (hn:NmOk ns) (ht:PnOk ns.length ts):(qhH (qcR ns ts)).length≤325:=by
  obtain ⟨k1,k2,k3⟩:=qdr hn ht
  have h1:=qc2 (s:=" ") (ws:=qaZ (qcR ns ts)) (B:=12) (qeZ k1)
  have h2:=qdN (qcR ns ts)
  have c1:(" ":Str).length=1:=by decide
  rw [c1] at h1
  unfold qhH
  omega
theorem qfM {n:Nat} {f:Addr} {fd:FuncData} (F:Fun K "_law_text" "_law_text" qb2 f fd) (R__law_names:ClM P w K mg base n "_law_names" ["_law_pool_here","_law_count"] qdB) (R__law_unknowns:ClM P w K mg base n "_law_unknowns" ["_law_pool_here","_law_names_here"] qcq) (R__law_terms:ClM P w K mg base n "_law_terms" ["_law_pool_here","_law_count"] qdv) (R__law_draw:ClM P w K mg base n "_law_draw" ["_law_pool_here","_law_many"] qaY) (R__law_number:ClM P w K mg base n "_law_number" ["_law_pool_here"] qbA) (Q__law_sum:Cl P w K mg base n "_law_sum" ["_law_terms_here","_law_names_here"] qeW) (Q__law_entries:Cl P w K mg base n "_law_entries" ["_law_terms_here","_law_count","_law_sign"] qcN) (z_range:mg "range"=none) (z_tuple:mg "tuple"=none) (z_str:mg "str"=none):FnOk P w K mg base CX0 (n+1) f fd ["_law_pool_here","_law_count"] (qdD K qeo):=by
  refine F.okM sc__law_text (fun as R Rx h=>?_) (fun cdv A outer s H E as R Rx qs hcd hr h hqs=>?_)
  · obtain ⟨a,o,n,m,rfl,_⟩:=h;rfl
  obtain ⟨a,o,n,m,rfl,hp,hm,hn,q⟩:=h
  obtain ⟨pa,rfl⟩:=qih hqs
  refine ⟨_,(qan (qaM (i:=2) sc__law_text.nd rfl (Or.inl rfl) (qqY (qaE R__law_names hr rfl (qaF 0 (qav (qaO (dv 1)) qaI qaa) qaa) qaa (qaj qaa qac))))
      (qan (qra 3 4 rfl sc__law_text.nd rfl rfl (Or.inl rfl) (Or.inl rfl) (qaE R__law_unknowns hr rfl (qaF 0 (qav (qaO (dv 2)) qaI qaa) qaa) qaa (qaj qaa qac)))
      (qan (qaM (i:=5) sc__law_text.nd rfl (Or.inl rfl) (qle (qdJ qau)))
      (qan (qfG PassesOwn.never rfl (qjd rfl z_range (qav (qaE R__law_draw hr rfl (qaF 0 (qav (qaO qad) qaI qab) qaa) qaa (qaj qab qac)) qaI qaD)) (qbq (i:=6) sc__law_text.nd rfl (Or.inl rfl)) (qan (qaM (i:=7) sc__law_text.nd rfl (Or.inl rfl) (qqY (qaE R__law_terms hr rfl (qaF 0 (qav (qaO (dv 1)) qaI qaa) qaa) qaa (qaj qaa qac))))
      (qan (qaM (i:=8) sc__law_text.nd rfl (Or.inl rfl) (qaE R__law_number hr rfl (qaF 0 qaI qaa) qaa qac))
      (qcw (qaM (i:=9) sc__law_text.nd rfl (Or.inl rfl) (qm2 qh8 (qaO qad) (qm2 qee (qaO qad) (qaE R__law_draw hr rfl (qaF 0 (qav (qaO qad) qaI qab) qaa) qaa (qaj qab qac)))))
      (qan (qcD 3 (qaO (qbE qbH (PD.q (qbE qbH (PD.q (qbE qbH (PD.q qax) (PD.q (qaP Q__law_sum hr rfl (qae (dv 7) (qae (dv 2) qau qaa) qaa) qaa (qaj qaa qac))))) (PD.q (qbF (PD.q (qbp (qae qax (qae qax qau qab) qab))) (PD.q (qbE qj1 (PD.q (qbE qh8 (PD.q qad) (dvq 9))) (PD.q qad))) (fun _ _=>rfl))))) (PD.q (qaW qlN rfl z_str PyProof.Rows.boot_str (qaw (dvq 8) qaG qaa) qaa qac)))) (qbv qbz) qbz)
      (qaL (qcD 5 (qaO (qbp (qae (qaP Q__law_entries hr rfl (qae (dv 7) (qae (dv 1) (qae (dv 9) qau qaa) qaa) qaa) qaa (qaj qaa (qaj qaa qac))) (qae (qbE qee (dvq 9) (dvq 8)) qau qbz) qaD))) (qbv qbk) qbk)))))))
      (qan (qaM (i:=7) sc__law_text.nd rfl (Or.inl rfl) (qqY (qaE R__law_terms hr rfl (qaF 0 (qav (qaO (dv 1)) qaI qaa) qaa) qaa (qaj qaa qac))))
      (qcw (qaM (i:=10) sc__law_text.nd rfl (Or.inl rfl) (qm2 qh8 (qaO qad) (qm2 qee (qaO qad) (qaE R__law_draw hr rfl (qaF 0 (qav (qaO qad) qaI qab) qaa) qaa (qaj qab qac)))))
      (qan (qcD 3 (qaO (qbE qbH (PD.q (qbF (PD.q (qbp (qae qax (qae qax qau qab) qab))) (PD.q (qbE qj1 (PD.q (qbE qh8 (PD.q qad) (dvq 10))) (PD.q qad))) (fun _ _=>rfl))) (PD.q (qaP Q__law_sum hr rfl (qae (dv 7) (qae (dv 2) qau qaa) qaa) qaa (qaj qaa qac))))) (qbv qbz) qbz)
      (qo9 3 (qaL (qcl (qaO (qbp (qae (qiG (PD.q qax) (dv 3) (qbv qaa) qaa) (qae (qbp (qae (qaW qbJ rfl z_tuple PyProof.Rows.boot_tuple (qaw (dvq 2) qaG qaa) qaa qac) (qae (qbp (qae (dv 4) (qae (qaW qbJ rfl z_tuple PyProof.Rows.boot_tuple (qaw (dvq 5) qaG qaa) qaa qac) (qae (qaP Q__law_entries hr rfl (qae (dv 7) (qae (dv 1) (qae (dv 10) qau qaa) qaa) qaa) qaa (qaj qaa (qaj qaa qac))) qau qaD) qaD) qaa)) (qae (dv 10) qau qaa) qbk) qaD)) qau qbk) qaD))))))))))))),?_⟩
  refine ⟨⟨_,_,rfl⟩,_,rfl,rfl,_,_,n,m,rfl,hp,by omega,hn,fun ns o1 hns hnl hp1=>?_⟩
  dsimp only [qam,qal,qa0,qa6,qbr,qbi,qbs,List.set]
  refine ⟨⟨_,_,rfl⟩,_,rfl,rfl,_,_,ns,_,rfl,hp1,by omega,hns,fun bs o2 hbl hb hp2=>?_⟩
  refine ⟨_,_,rfl,?_⟩
  dsimp only [qam,qal,qa0,qa6,qbr,qbi,qbs,List.set]
  refine ⟨⟨_,_,rfl⟩,_,rfl,rfl,_,_,13,_,rfl,hp2,by omega,by decide,lt9 (by decide),fun x o3 x0 x1 hp3=>?_⟩
  dsimp only [qam,qal,qa0,qa6,qbr,qbi,qbs,List.set]
  obtain ⟨K0,rfl⟩:=Int.eq_ofNat_of_zero_le x0
  refine ⟨⟨by omega,by omega⟩,fun i ρ=>∃ (rs:List Rp3) (o':Om) (u6 u7 u8 u9:Option Sm),ρ=X7 pa n o' ns (qgK ns bs++rs.map (qkQ ns)) bs rs u6 u7 u8 u9 none∧rs.length=i∧(∀ r∈rs,qqf n r)∧Pl (m+241+43*i) o',⟨[],o3,_,_,_,_,by rw [List.map_nil,List.append_nil];rfl,rfl,fun r h=>(by cases h),hp3⟩,?_,?_⟩
  · rintro i d ρ hd ⟨rs,o4,u6,u7,u8,u9,rfl,hrl,hr,hp4⟩
    obtain ⟨hi,rfl⟩:=qbZ hd
    have hi13:i<13:=by omega
    dsimp only [qam,qal,qa0,qa6,qbr,qbi,qbs,List.set]
    refine ⟨⟨_,_,rfl⟩,_,rfl,rfl,_,_,n,_,rfl,hp4,by omega,hn,fun ts o5 hts hp5=>?_⟩
    dsimp only [qam,qal,qa0,qa6,qbr,qbi,qbs,List.set]
    refine ⟨⟨_,_,rfl⟩,_,rfl,rfl,_,_,_,rfl,hp5,by omega,fun b o6 hb6 hp6=>?_⟩
    dsimp only [qam,qal,qa0,qa6,qbr,qbi,qbs,List.set]
    refine ⟨fun ρ=>∃ (t:Bool) (o':Om),ρ=X7 pa n o' ns (qgK ns bs++rs.map (qkQ ns)) bs rs (some (.v (.int (0+(i:Nat))))) (some (.v (.lst (ts.map pnD)))) (some (.v (.int b))) (some (.v (.int (sg t)))) none∧Pl (m+241+43*i+43) o',?_,?_⟩
    · refine ⟨⟨_,_,rfl⟩,_,rfl,rfl,_,_,2,_,rfl,hp6,by omega,by decide,lt9 (by decide),fun y o7 y0 y1 hp7=>?_⟩
      dsimp only [qam,qal,qa0,qa6,qbr,qbi,qbs,List.set]
      refine ⟨qcU (by decide) (by decide),?_⟩
      obtain rfl | rfl:y=0∨y=1:=by omega
      · exact ⟨false,o7,rfl,hp7⟩
      · exact ⟨true,o7,rfl,hp7⟩
    · rintro ρ ⟨t,o7,rfl,hp7⟩
      have hts':PnOk ns.length ts:=by rw [hnl];exact hts
      have s6:=qhE hns hts'
      have b6:=qbm hb6
      have a6:=qmL t
      have c1:("row ":Str).length≤4:=by decide
      have hul:(qgK ns bs++rs.map (qkQ ns)).length≤100:=by rw [List.length_append,List.length_zipWith,List.length_map];omega
      refine ⟨ns,ts,rfl,hns,hts',szs c1 s6,CDivB.of (by decide) (lt9 (by decide)),_,qqX t,szs (qmn c1 s6) a6,_,rfl,big hb6,szs (qmn (qmn c1 s6) a6) b6,?_⟩
      refine ⟨by rw [List.length_map,List.length_map];exact qaC (by omega),((qgK ns bs++(rs++[(ts,b,t)]).map (qkQ ns)).map qbK).map D.str,?_,?_⟩
      · rw [List.map_append (f:=qkQ ns),← List.append_assoc]
        refine qej _ (qkQ ns (ts,b,t)) ?_
        show _=qbK (Frm.row (qcR ns ts) b t)
        rw [← qqE]
        simp only [Str.append_assoc]
      dsimp only [qam,qal,qa0,qa6,qbr,qbi,qbs,List.set]
      refine ⟨ts,n,sg t,rfl,hn,hts,qmA t,qcU (qrz t).1 (qrz t).2,?_⟩
      refine ⟨by rw [List.length_map,List.length_map];exact qaC (by omega),((rs++[(ts,b,t)]).map (qn5 n)).map rwD,by rw [List.map_append,List.map_append];rfl,?_⟩
      exact ⟨rs++[(ts,b,t)],o7,_,_,_,_,rfl,by rw [List.length_append,hrl];rfl,qda hr ⟨hts,hb6⟩,hp7⟩
  rintro ρ ⟨rs,o4,u6,u7,u8,u9,rfl,hrl,hr,hp4⟩
  rw [qa2,Int.toNat_natCast] at hrl hp4
  refine ⟨⟨_,_,rfl⟩,_,rfl,rfl,_,_,n,_,rfl,hp4,by omega,hn,fun wt o5 hwt hp5=>?_⟩
  dsimp only [qam,qal,qa0,qa6,qbr,qbi,qbs,List.set]
  refine ⟨fun ρ=>∃ (t:Bool) (o':Om),ρ=X7 pa n o' ns (qgK ns bs++rs.map (qkQ ns)) bs rs u6 (some (.v (.lst (wt.map pnD)))) u8 u9 (some (.v (.int (sg t))))∧Pl (m+1000) o',?_,?_⟩
  · refine ⟨⟨_,_,rfl⟩,_,rfl,rfl,_,_,2,_,rfl,hp5,by omega,by decide,lt9 (by decide),fun y o7 y0 y1 hp7=>?_⟩
    dsimp only [qam,qal,qa0,qa6,qbr,qbi,qbs,List.set]
    refine ⟨qcU (by decide) (by decide),?_⟩
    obtain rfl | rfl:y=0∨y=1:=by omega
    · exact ⟨false,o7,rfl,hp7.mono (by omega)⟩
    · exact ⟨true,o7,rfl,hp7.mono (by omega)⟩
  rintro ρ ⟨t,o7,rfl,hp7⟩
  have hwt':PnOk ns.length wt:=by rw [hnl];exact hwt
  have T:T7 n ns bs rs wt:=⟨hns,hnl,⟨by rw [hbl,hnl],hb⟩,by omega,hr,hwt⟩
  have s6:=qhE hns hwt'
  have a6:=qme t
  have hul:(qgK ns bs++rs.map (qkQ ns)).length≤100:=by rw [List.length_append,List.length_zipWith,List.length_map];omega
  have hF:fs7 ns bs rs wt t=qgK ns bs++rs.map (qkQ ns)++[Frm.worth (qcR ns wt) (sg t)]:=by
    unfold fs7 qka
    rw [List.map_map,List.append_assoc]
    rfl
  refine ⟨CDivB.of (by decide) (lt9 (by decide)),_,qqe t,ns,wt,rfl,hns,hwt',szs a6 s6,?_⟩
  refine ⟨by rw [List.length_map,List.length_map];exact qaC (by omega),_,qej _ (Frm.worth (qcR ns wt) (sg t)) (qmW _ t),?_⟩
  rw [← hF]
  subst hnl
  have hfl:=qgz (t:=t) T
  refine ⟨_,rfl,(fs7 ns bs rs wt t).map qbK,rfl,qfR 900 (fun z hz=>?_) ?_,?_⟩
  · obtain ⟨f,hf,rfl⟩:=List.mem_map.mp hz
    exact (qjR T f hf).2
  · have c:("\n":Str).length=1:=by decide
    rw [List.length_map,c]
    omega
  have e:Txt.join "\n" ((fs7 ns bs rs wt t).map qbK) = Str.join "\n" ((fs7 ns bs rs wt t).map qbK):=PySem.StrLaws.glued_eq_join _ _
  rw [e]
  refine ⟨wt,ns.length,sg t,rfl,hn,hwt,qmA t,?_⟩
  exact ⟨_,rfl,q ns bs rs wt t o7 T hp7⟩
open Tx
def Smo:Nat→D→Prop
  | 0,_=>False
  | _+1,.non=>True
  | _+1,.int _=>True
  | _+1,.str _=>True
  | m+1,.tup ds=>ds.length≤1000∧∀ d∈ds,Smo m d
  | _+1,_=>False
def qbf (m:Nat):SpD:=fun ds R=>∃ d,ds=[d,d]∧Smo m d∧R (.bl true)
theorem qcX {ds:List D} {R:D→Prop} (h:qbf 0 ds R):False:=by
  obtain ⟨d,_,h,_⟩:=h
  unfold Smo at h
  exact h
def qdA:SpD:=fun ds R=>∃ i:Int,ds=[.int i]∧R (.bl true)
theorem qfj {n:Nat} {f:Addr} {fd:FuncData} (F:Fun K "_law_whole" "_law_whole" qbT f fd) (z_isinstance:mg "isinstance"=none) (z_int:mg "int"=none) (z_bool:mg "bool"=none):FnOk P w K mg base CX0 (n+1) f fd ["_law_told"] (lSp K qdA):=by
  refine F.okD qe8 (fun ds R h=>?_) (fun cdv A outer s H E ds R hr h=>?_)
  · obtain ⟨i,rfl,_⟩:=h;rfl
  obtain ⟨i,rfl,q⟩:=h
  refine ⟨_,(qaR (qaX (qkp (qpb rfl z_isinstance (dvq 0) (qdq (v:=.ty "int") rfl z_int PyProof.Rows.boot_int rfl) qaa qaa) (qlp (qqd (PD.q (qpb rfl z_isinstance (dvq 0) (qdq (v:=.ty "bool") rfl z_bool PyProof.Rows.boot_bool rfl) qaa qaa))))))),?_⟩
  exact ⟨_,rfl,fun _=>⟨_,rfl,q⟩,fun h=>(by cases h)⟩
abbrev qf5:SpD:=qbf 6
theorem qeF {n:Nat} {f:Addr} {fd:FuncData} (F:Fun K "_law_alike" "_law_alike" qba f fd):FnOk P w K mg base CX0 (n+1) f fd ["_law_told","_law_due"] (lSp K (qbf 0)) :=
  F.okD qcZ (fun ds R h=>(qcX h).elim) (fun cdv A outer s H E ds R hr h=>(qcX h).elim)
theorem qa1 {m n:Nat} {f:Addr} {fd:FuncData} (F:Fun K "_law_alike" "_law_alike" qba f fd) (Q__law_whole:Cl P w K mg base n "_law_whole" ["_law_told"] qdA) (Q__law_alike:Cl P w K mg base n "_law_alike" ["_law_told","_law_due"] (qbf m)) (z_isinstance:mg "isinstance"=none) (z_tuple:mg "tuple"=none) (z_str:mg "str"=none) (z_all:mg "all"=none) (z_len:mg "len"=none) (z_zip:mg "zip"=none):FnOk P w K mg base CX0 (n+1) f fd ["_law_told","_law_due"] (lSp K (qbf (m+1))):=by
  refine F.okD qcZ (fun ds R h=>?_) (fun cdv A outer s H E ds R hr h=>?_)
  · obtain ⟨d,rfl,_⟩:=h;rfl
  obtain ⟨d,rfl,hd,q⟩:=h
  refine ⟨_,(qbo (qdH (qft (PD.q (qhh rfl z_isinstance (dvq 1) (qdq (v:=.ty "tuple") rfl z_tuple PyProof.Rows.boot_tuple rfl) qaa qaa)) (fun _=>rfl)) (qbo (qdH (PWD.td (qjm (qjE (qft (PD.q (qhh rfl z_isinstance (dvq 0) (qdq (v:=.ty "tuple") rfl z_tuple PyProof.Rows.boot_tuple rfl) qaa qaa)) (fun _=>rfl))) (qfD (qaK (qmi hr.units) (PD.q (qaN qb7 rfl z_len PySem.boot_len (qaw (dvq 0) qaG qaa) qaa qac)) (PD.q (qaN qb7 rfl z_len PySem.boot_len (qaw (dvq 1) qaG qaa) qaa qac)) (qas _))))) (qaR (qaX qkg)) qbu)
      (qaR (qaX (qaN (qnp rfl) rfl z_all PyProof.Rows.boot_all (qaw (PD.q (PF.d (qdk (k:=2) (N':=["_law_one","_law_other"]) (cap:=[none,none]) rfl (.ok (show qcO ["_law_told","_law_due"] (qaf qba) _ ["_law_one","_law_other"] [none,none]=true by decide +kernel)) (by decide +kernel) (qlB (n:=2) (qfn (qdw (by decide)) (qfn (qdw (by decide)) qlU))) (qoy rfl z_zip (qae (dv 0) (qae (dv 1) qau qaa) qaa)) (fun _ _ _ _ _=>(ql7 (n:=2) rfl (qdg (qck (i:=0) (show List.Nodup (["_law_one","_law_other"]:List Str) by decide +kernel) rfl (Or.inl rfl)) (qdg (qck (i:=1) (show List.Nodup (["_law_one","_law_other"]:List Str) by decide +kernel) rfl (Or.inl rfl)) qiO)))) (fun _ _ _ _ _=>(qaP Q__law_alike hr rfl (qae (dv 0) (qae (dv 1) qau qaa) qaa) qaa (qaj qaa qac)))))) qaG qaJ) qaJ qac)))) qbu)
      (qbo (qdH (qaK qj8 (dvq 1) (PD.q qaQ) (qas _)) (qaR (qaX (qhJ qj8 (dvq 0) (PD.q qaQ) (qas _)))) qbu)
      (qbo (qdH (qft (PD.q (qhh rfl z_isinstance (dvq 1) (qdq (v:=.ty "str") rfl z_str PyProof.Rows.boot_str rfl) qaa qaa)) (fun _=>rfl)) (qaR (qaX (qkp (qhh rfl z_isinstance (dvq 0) (qdq (v:=.ty "str") rfl z_str PyProof.Rows.boot_str rfl) qaa qaa) (qlp (qhJ (qeG hr.units) (dvq 0) (dvq 1) (qas _)))))) qbu)
      (qaR (qaX (qkp (qaP Q__law_whole hr rfl (qae (dv 0) qau qaa) qaa qac) (qlp (qhJ (qeG hr.units) (dvq 0) (dvq 1) (qas _))))))))),?_⟩
  cases d with
  | non =>
    refine ⟨fun ρ=>ρ=[some (.v .non),some (.v .non)],⟨_,rfl,fun h=>(by cases h),fun _=>rfl⟩,?_⟩
    rintro ρ rfl
    refine ⟨fun ρ=>False,⟨fun _=>q,fun h=>(by cases h)⟩,?_⟩
    rintro ρ ⟨⟩
  | int i =>
    refine ⟨fun ρ=>ρ=[some (.v (.int i)),some (.v (.int i))],⟨_,rfl,fun h=>(by cases h),fun _=>rfl⟩,?_⟩
    rintro ρ rfl
    refine ⟨fun ρ=>ρ=[some (.v (.int i)),some (.v (.int i))],⟨fun h=>(by cases h),fun _=>rfl⟩,?_⟩
    rintro ρ rfl
    refine ⟨fun ρ=>ρ=[some (.v (.int i)),some (.v (.int i))],⟨_,rfl,fun h=>(by cases h),fun _=>rfl⟩,?_⟩
    rintro ρ rfl
    refine ⟨i,rfl,fun _=>?_,fun h=>(by cases h)⟩
    exact toB q (beq_self_eq_true i)
  | str i =>
    refine ⟨fun ρ=>ρ=[some (.v (.str i)),some (.v (.str i))],⟨_,rfl,fun h=>(by cases h),fun _=>rfl⟩,?_⟩
    rintro ρ rfl
    refine ⟨fun ρ=>ρ=[some (.v (.str i)),some (.v (.str i))],⟨fun h=>(by cases h),fun _=>rfl⟩,?_⟩
    rintro ρ rfl
    refine ⟨fun ρ=>False,⟨_,rfl,fun _=>?_,fun h=>(by cases h)⟩,?_⟩
    · refine ⟨_,rfl,fun _=>?_,fun h=>(by cases h)⟩
      exact toB q (beq_self_eq_true i)
    rintro ρ ⟨⟩
  | tup ds =>
    have hd:ds.length≤1000∧∀ d∈ds,Smo m d:=by unfold Smo at hd;exact hd
    refine ⟨fun ρ=>False,⟨_,rfl,fun _=>?_,fun h=>(by cases h)⟩,?_⟩
    · refine ⟨fun ρ=>ρ=[some (.v (.tup ds)),some (.v (.tup ds))],⟨_,rfl,fun h=>(by cases h),fun _=>?_⟩,?_⟩
      · have e:(!(((ds.length:Nat):Int) == ((ds.length:Nat):Int)))=false:=by rw [beq_self_eq_true];rfl
        exact ⟨fun h=>(by have:=h.symm.trans e;cases this),fun _=>rfl⟩
      rintro ρ rfl
      refine ⟨_,_,rfl,rfl,?_⟩
      have hzl:(qnD ds ds).length=ds.length:=by rw [qfB,Nat.min_self]
      refine qhq (List.replicate ds.length (.bl true)) (by rw [List.length_replicate,hzl]) (by rw [hzl];exact qaC hd.1) (fun i y=>i<ds.length∧y=.bl true) (fun i y h=>by rw [h.2,List.getElem?_replicate,if_pos h.1]) (fun i e he=>?_) ?_
      · obtain ⟨x,y,hx,hy,rfl⟩:=qiS he
        cases hx.symm.trans hy
        exact ⟨rfl,x,rfl,hd.2 x (List.mem_of_getElem? hx),qag hx,rfl⟩
      refine ⟨List.replicate ds.length true,by rw [List.map_replicate];rfl,?_⟩
      exact toB q (show (List.replicate ds.length true).all id=true by rw [List.all_replicate];simp)
    rintro ρ ⟨⟩
  | _=>unfold Smo at hd;exact hd.elim
open Tx
abbrev sp_law:=qoQ
abbrev qq9:=qlZ
theorem qg3 {m:Nat} (hm:2≤m) {es:List Int} (h:es.length≤1000):Smo m (.tup (es.map D.int)):=by
  obtain ⟨k,rfl⟩:∃ k,m=k+2:=⟨m - 2,by omega⟩
  refine ⟨by rw [List.length_map];exact h,fun d hd=>?_⟩
  obtain ⟨x,_,rfl⟩:=List.mem_map.mp hd
  trivial
theorem qo1 {ns:List Str} {bs:List Bdn} {rs:List Rw} {gl:List Int} {sn:Int} (h1:ns.length≤1000) (h2:bs.length≤1000) (h3:rs.length≤1000) (h4:∀ r∈rs,r.1.length≤1000) (h5:gl.length≤1000):Smo 6 (.tup [.tup (ns.map D.str),qrG bs rs gl,.int sn]):=by
  refine ⟨by simp,fun d hd=>?_⟩
  simp only [List.mem_cons,List.not_mem_nil,or_false] at hd
  rcases hd with rfl | rfl | rfl
  · refine ⟨by rw [List.length_map];exact h1,fun d hd=>?_⟩
    obtain ⟨x,_,rfl⟩:=List.mem_map.mp hd
    trivial
  · refine ⟨by simp,fun d hd=>?_⟩
    simp only [List.mem_cons,List.not_mem_nil,or_false] at hd
    rcases hd with rfl | rfl | rfl
    · refine ⟨by rw [List.length_map];exact h2,fun d hd=>?_⟩
      obtain ⟨⟨l,mo⟩,_,rfl⟩:=List.mem_map.mp hd
      refine ⟨by simp,fun d hd=>?_⟩
      simp only [List.mem_cons,List.not_mem_nil,or_false] at hd
      rcases hd with rfl | rfl
      · trivial
      · cases mo <;> trivial
    · refine ⟨by rw [List.length_map];exact h3,fun d hd=>?_⟩
      obtain ⟨r,hr,rfl⟩:=List.mem_map.mp hd
      refine ⟨by simp,fun d hd=>?_⟩
      simp only [List.mem_cons,List.not_mem_nil,or_false] at hd
      rcases hd with rfl | rfl
      · exact qg3 (by decide) (h4 r hr)
      · trivial
    · exact qg3 (by decide) h5
  · trivial
theorem qpa {ns:List Str} (hn:ns.Nodup) {i:Nat} {x:Str} (hx:ns[i]?=some x):∀ {ts:List Pn},(∀ t∈ts,t.1<ns.length)→look (qcR ns ts) x=qd5 ts i
  | [],_=>rfl
  | t::ts,h=>by
    have ih:=qpa hn hx (ts:=ts) fun t ht=>h t (List.mem_cons_of_mem _ ht)
    have e1:=qdc (h t List.mem_cons_self)
    have iff:ns.getD t.1 ""=x↔t.1=i:=by
      constructor
      · intro e
        rw [e] at e1
        exact (List.getElem?_inj (h t List.mem_cons_self) hn).mp (e1.trans hx.symm)
      · intro e
        rw [e,hx] at e1
        rw [e]
        exact (Option.some.inj e1).symm
    unfold look qd5 at ih ⊢
    show (match ((t.2,ns.getD t.1 "")::qcR ns ts).find? (fun t=>decide (t.2=x)) with | some t=>t.1 | none=>0)=_
    by_cases c:t.1=i
    · rw [List.find?_cons_of_pos (p:=fun t:Tm=>decide (t.2=x)) (decide_eq_true (iff.mpr c)),List.find?_cons_of_pos (p:=fun t:Pn=>decide (t.1=i)) (decide_eq_true c)]
    · rw [List.find?_cons_of_neg (p:=fun t:Tm=>decide (t.2=x)) (by simpa using fun z=>c (iff.mp z)),List.find?_cons_of_neg (p:=fun t:Pn=>decide (t.1=i)) (by simpa using c)]
      exact ih
theorem qrA {ns:List Str} {ts:List Pn} (hn:ns.Nodup) (ht:∀ t∈ts,t.1<ns.length):qcu ns (qcR ns ts)=(List.range ns.length).map (qd5 ts):=by
  unfold qcu
  refine List.ext_getElem? fun i=>?_
  rw [List.getElem?_map,List.getElem?_map]
  cases hx:ns[i]? with
  | none =>
    have:=List.getElem?_eq_none_iff.mp hx
    rw [List.getElem?_eq_none (by rw [List.length_range];exact this)]
    rfl
  | some x =>
    rw [List.getElem?_range (qag hx)]
    show some _=some _
    rw [qpa hn hx ht]
theorem qog (n:Nat) (ts:List Pn):qeI n 1 ts=(List.range n).map (qd5 ts):=List.map_congr_left fun j _=>Int.one_mul _
theorem qoF (n:Nat) (ts:List Pn):qeI n (-1) ts=((List.range n).map (qd5 ts)).map fun x=>-x:=by
  rw [List.map_map]
  exact List.map_congr_left fun j _=>Int.neg_one_mul _
theorem qsr {ns:List Str} (hn:ns.Nodup) {r:Rp3} (hr:qqf ns.length r):qlL ns (qoL ns r)=qn5 ns.length r:=by
  obtain ⟨ts,b,t⟩:=r
  have e:=qrA hn fun t ht=>(hr.1.2 t ht).1
  cases t
  · show (qcu ns (qcR ns ts),b)=(qeI ns.length 1 ts,1*b)
    rw [e,qog,Int.one_mul]
  · show trR (qcu ns (qcR ns ts),b)=(qeI ns.length (-1) ts,-1*b)
    rw [e,qoF,Int.neg_one_mul]
    rfl
theorem qnW {ns:List Str} (hn:ns.Nodup) {wt:List Pn} (hw:PnOk ns.length wt) (t:Bool):qmI (sg t) (qcu ns (qcR ns wt))=qeI ns.length (sg t) wt:=by
  have e:=qrA hn fun t ht=>(hw.2 t ht).1
  rw [e]
  cases t
  · show qmI 1 _=qeI ns.length 1 wt
    rw [qog]
    rfl
  · show qmI (-1) _=qeI ns.length (-1) wt
    rw [qoF]
    rfl
theorem qo5 {n:Nat} {ns:List Str} {bs:List Bdn} {rs:List Rp3} {wt:List Pn} {t:Bool} (h:T7 n ns bs rs wt):∃ (g:Nat→Rd) (es:List Int),fs7 ns bs rs wt t≠[]∧Rdg (fs7 ns bs rs wt t) g∧(g (fs7 ns bs rs wt t).length).wo=some (es,sg t)∧es.length≤1000∧qnB (g (fs7 ns bs rs wt t).length) es (sg t)=qnQ ns bs rs wt t:=by
  obtain ⟨hn,rfl,hb,hrl,hr,hw⟩:=h
  have n8:=hn.2.1
  have e:=qny (ns:=ns) (bs:=bs) (rs:=rs.map (qoL ns)) (wts:=qcR ns wt) (sn:=sg t) hb.1
  have rows:(rs.map (qoL ns)).map (qlL ns)=rs.map (qn5 ns.length):=by
    rw [List.map_map]
    exact List.map_congr_left fun r h=>qsr hn.1 (hr r h)
  rw [rows] at e
  obtain ⟨w1,w2,w3⟩:=qdr hn hw
  refine ⟨gSt ns bs (rs.map (qoL ns)) (qcR ns wt) (sg t),qcu ns (qcR ns wt),?_,?_,?_,?_,?_⟩
  · unfold fs7 qka;simp
  · refine qoI hn.1 n8 hb.1 (by rw [List.length_map];exact hrl) (fun r' hr'=>?_) w2 (by omega)
    obtain ⟨r,h,rfl⟩:=List.mem_map.mp hr'
    obtain ⟨k1,k2,k3⟩:=qdr hn (hr r h).1
    exact ⟨k2,by show (qcR ns r.1).length≤900;omega⟩
  · unfold fs7
    rw [e]
  · unfold qcu
    rw [List.length_map]
    omega
  · unfold fs7
    rw [e]
    unfold qnB
    rw [qnW hn.1 hw t]
    rfl
theorem qro {n:Nat} {ns:List Str} {bs:List Bdn} {rs:List Rp3} {wt:List Pn} {t:Bool} (h:T7 n ns bs rs wt):Smo 6 (qnQ ns bs rs wt t):=by
  have n8:=h.nm.2.1
  have hl:=h.nl
  have hb:=h.bo.1
  have hrl:=h.rl
  have el:∀ (sn:Int) (ts:List Pn),(qeI ns.length sn ts).length≤1000:=fun sn ts=>by
    unfold qeI
    rw [List.length_map,List.length_range]
    omega
  refine qo1 (by omega) (by omega) (by rw [List.length_map];omega) (fun r hr=>?_) (el _ _)
  obtain ⟨r,_,rfl⟩:=List.mem_map.mp hr
  exact el _ _
theorem qoV {n:Nat} {f:Addr} {fd:FuncData} (F:Fun K "law" "law" qlk f fd) (R__law_pool:ClM P w K mg base n "_law_pool" ["_law_script"] qen) (R__law_text:ClM P w K mg base n "_law_text" ["_law_pool_here","_law_count"] qeo) (R__law_draw:ClM P w K mg base n "_law_draw" ["_law_pool_here","_law_many"] qaY) (Q__law_alike:Cl P w K mg base n "_law_alike" ["_law_told","_law_due"] qf5) (Q_read_plan:Cl P w K mg base n "read_plan" ["text"] qec):FnOk P w K mg base CX0 (n+1) f fd ["_law_script"] (qdD K (zM qq9)):=by
  refine F.okM sc_law (fun as R Rx h=>?_) (fun cdv A outer s H E as R Rx qs hcd hr h hqs=>?_)
  · obtain ⟨_,rfl,ns,rfl,_⟩:=h;rfl
  obtain ⟨_,rfl,ns,rfl,hz,q⟩:=h
  obtain rfl:=qpI hqs
  refine ⟨_,(qan (qaM (i:=1) sc_law.nd rfl (Or.inl rfl) (qaE R__law_pool hr rfl (qav (qaO (dv 0)) qaI qaa) qaa qac))
      (qan (qor (qaE R__law_text hr rfl (qaF 1 (qav (qaE R__law_draw hr rfl (qaF 1 (qav (qaO qad) qaI qab) qaa) qaa (qaj qab qac)) qaI qaD) qaa) qaa (qaj qaD qac)) (qkX (n:=2) rfl (qcr (qbq (i:=2) sc_law.nd rfl (Or.inl rfl)) (qcr (qbq (i:=3) sc_law.nd rfl (Or.inl rfl)) qhs))))
      (qan (qor (qaE R__law_text hr rfl (qaF 1 (qav (qaE R__law_draw hr rfl (qaF 1 (qav (qaO qad) qaI qab) qaa) qaa (qaj qab qac)) qaI qaD) qaa) qaa (qaj qaD qac)) (qkX (n:=2) rfl (qcr (qbq (i:=4) sc_law.nd rfl (Or.inl rfl)) (qcr (qbq (i:=5) sc_law.nd rfl (Or.inl rfl)) qhs))))
      (qcw (qe7 (qdG (qjE (qft (PD.q (qaP Q__law_alike hr rfl (qae (qaP Q_read_plan hr rfl (qae (dv 2) qau qaa) qaa qac) (qae (dv 3) qau qaa) qaD) qaD (qaj qaa qac))) (fun _=>rfl)))) (qaL (qcl (qaO qkg))) qc0)
      (qaL (qcl (qaO (qkp (qaP Q__law_alike hr rfl (qae (qaP Q_read_plan hr rfl (qae (dv 4) qau qaa) qaa qac) (qae (dv 5) qau qaa) qaD) qaD (qaj qaa qac)) (qlp (qaP Q__law_alike hr rfl (qae (qaP Q_read_plan hr rfl (qae (dv 2) qau qaa) qaa qac) (qae (dv 3) qau qaa) qaD) qaD (qaj qaa qac))))))))))),?_⟩
  refine ⟨_,rfl,rfl,ns,rfl,hz,fun o0 hp0=>?_⟩
  dsimp only [qam,qal,qa0,qa6,qbr,qbi,qbs,List.set]
  refine ⟨⟨_,_,rfl⟩,⟨_,_,rfl⟩,_,rfl,rfl,_,_,9,0,rfl,hp0,by decide,by decide,lt9 (by decide),fun x o1 x0 x1 hp1=>?_⟩
  obtain ⟨k,rfl⟩:=Int.eq_ofNat_of_zero_le x0
  refine ⟨_,rfl,rfl,_,_,k,_,rfl,hp1,by decide,by omega,fun n1 b1 r1 w1 t1 o2 T1 hp2=>?_⟩
  refine ⟨rfl,?_⟩
  dsimp only [qam,qal,qa0,qa6,qbr,qbi,qbs,List.set]
  refine ⟨⟨_,_,rfl⟩,⟨_,_,rfl⟩,_,rfl,rfl,_,_,4,_,rfl,hp2,by decide,by decide,lt9 (by decide),fun y o3 y0 y1 hp3=>?_⟩
  obtain ⟨k2,rfl⟩:=Int.eq_ofNat_of_zero_le y0
  refine ⟨_,rfl,rfl,_,_,k2,_,rfl,hp3,by decide,by omega,fun n2 b2 r2 w2 t2 o4 T2 hp4=>?_⟩
  refine ⟨rfl,?_⟩
  dsimp only [qam,qal,qa0,qa6,qbr,qbi,qbs,List.set]
  obtain ⟨g1,e1,a1,a2,a3,a4,a5⟩:=qo5 (t:=t1) T1
  obtain ⟨g2,e2,c1,c2,c3,c4,c5⟩:=qo5 (t:=t2) T2
  have S1:=qro (t:=t1) T1
  have S2:=qro (t:=t2) T2
  have F1:=qgz (t:=t1) T1
  have F2:=qgz (t:=t2) T2
  have G1:=qjR (t:=t1) T1
  have G2:=qjR (t:=t2) T2
  generalize hd1:qnQ n1 b1 r1 w1 t1=D1 at S1 a5 ⊢
  generalize hd2:qnQ n2 b2 r2 w2 t2=D2 at S2 c5 ⊢
  generalize hf1:fs7 n1 b1 r1 w1 t1=f1 at *
  generalize hf2:fs7 n2 b2 r2 w2 t2=f2 at *
  refine ⟨fun ρ=>ρ=[some (.v (.fzl (ns.map D.int))),some (.ob none o4),some (.v (.str (Str.join "\n" (f1.map qbK)))), some (.v D1), some (.v (.str (Str.join "\n" (f2.map qbK)))),some (.v D2)],?_,?_⟩
  · refine ⟨f1,g1,e1,sg t1,rfl,a1,F1,G1,a2,a3,a4,?_⟩
    rw [a5]
    exact ⟨_,rfl,S1,fun h=>(by cases h),fun _=>rfl⟩
  rintro ρ rfl
  refine ⟨f2,g2,e2,sg t2,rfl,c1,F2,G2,c2,c3,c4,?_⟩
  rw [c5]
  refine ⟨_,rfl,S2,fun _=>?_,fun h=>(by cases h)⟩
  refine ⟨f1,g1,e1,sg t1,rfl,a1,F1,G1,a2,a3,a4,?_⟩
  rw [a5]
  exact ⟨_,rfl,S1,q⟩
end
theorem qhf {A:Type} {p:List A→Prop} (h:∀ a0,p [a0]):∀ us:List A,us.length=1→p us
  | [a0],_=>h a0
theorem qgu {A:Type} {p:List A→Prop} (h:∀ a0 a1,p [a0,a1]):∀ us:List A,us.length=2→p us
  | [a0,a1],_=>h a0 a1
theorem qow {A:Type} {p:List A→Prop} (h:∀ a0 a1 a2,p [a0,a1,a2]):∀ us:List A,us.length=3→p us
  | [a0,a1,a2],_=>h a0 a1 a2
theorem all_mk {l:PySem.W.OpenLaw} {w:World} {K:PySem.W.Frag} {h:Heap} {mg:Str→Option Value} {fa f26 f27 f28 f29:Addr} {C_Reading:Addr} (X:K.In h) (G:h.Ns mainGlobals mg) (hfa:mg "law"=some (.ref fa))
    {od26 an26 od27 an27 od28 an28 od29 an29:Option Addr} {sl26 sl27 sl28 sl29:Array (Option Value)} {oc26 kV26 dc26 pm26 cd26 ct26 oc27 kV27 dc27 pm27 cd27 ct27 oc28 kV28 dc28 pm28 cd28 ct28 oc29 kV29 dc29 pm29 cd29 ct29:Value}
    (aC_Reading:PySem.W.nsIn K mainGlobals "Reading"=some (some (.ref C_Reading)))
    (a1:Has K qcY "turned")
    (a2:Has K qcs "is_name")
    (a3:Has K qbb "number_form")
    (a4:Has K qcC "sum_form")
    (a5:Has K qbl "unknown_form")
    (a6:Has K qcE "row_form")
    (a7:Has K qbS "worth_form")
    (a8:Has K qb1 "line_form")
    (a9:Has K qbB "sum_entries")
    (a10:Has K qaU "turned_numbers")
    (a11:Has K qcb "read_plan")
    (a12:Has K qbT "_law_whole")
    (a13:Has K qb6 "_law_pool")
    (a14:Has K qb3 "_law_draw")
    (a15:Has K qbQ "_law_fresh")
    (a16:Has K qca "_law_word")
    (a17:Has K qbR "_law_names")
    (a18:Has K qby "_law_number")
    (a19:Has K qa9 "_law_terms")
    (a20:Has K qbY "_law_sum")
    (a21:Has K qbj "_law_entries")
    (a22:Has K qbc "_law_unknowns")
    (a23:Has K qb2 "_law_text")
    (a24:Has K qba "_law_alike")
    (a25:Has K qlk "law")
    (a26:PySem.W.findIn K (.ref C_Reading) "__init__"=some (some (.ref f26))) (i26:PySem.W.isFn K (.ref f26)=true) (l26:K.lookup f26=some ⟨oc26,od26,.func (PySem.W.fnOf "__init__" "Reading.__init__" (qbt qaA) (qa3 qaA) (qaf qaA) .none kV26 dc26 pm26 an26 cd26 ct26),sl26⟩) (c26:PySem.W.codeIn K cd26 "Reading.__init__"=true) (k26:PySem.W.keepIn K (.ref f26)=true)
    (a27:PySem.W.findIn K (.ref C_Reading) "read_line"=some (some (.ref f27))) (i27:PySem.W.isFn K (.ref f27)=true) (l27:K.lookup f27=some ⟨oc27,od27,.func (PySem.W.fnOf "read_line" "Reading.read_line" (qbt qay) (qa3 qay) (qaf qay) .none kV27 dc27 pm27 an27 cd27 ct27),sl27⟩) (c27:PySem.W.codeIn K cd27 "Reading.read_line"=true) (k27:PySem.W.keepIn K (.ref f27)=true)
    (a28:PySem.W.findIn K (.ref C_Reading) "read_unknown"=some (some (.ref f28))) (i28:PySem.W.isFn K (.ref f28)=true) (l28:K.lookup f28=some ⟨oc28,od28,.func (PySem.W.fnOf "read_unknown" "Reading.read_unknown" (qbt qaq) (qa3 qaq) (qaf qaq) .none kV28 dc28 pm28 an28 cd28 ct28),sl28⟩) (c28:PySem.W.codeIn K cd28 "Reading.read_unknown"=true) (k28:PySem.W.keepIn K (.ref f28)=true)
    (a29:PySem.W.findIn K (.ref C_Reading) "read_row"=some (some (.ref f29))) (i29:PySem.W.isFn K (.ref f29)=true) (l29:K.lookup f29=some ⟨oc29,od29,.func (PySem.W.fnOf "read_row" "Reading.read_row" (qbt qaz) (qa3 qaz) (qaf qaz) .none kV29 dc29 pm29 an29 cd29 ct29),sl29⟩) (c29:PySem.W.codeIn K cd29 "Reading.read_row"=true) (k29:PySem.W.keepIn K (.ref f29)=true)
    (pg_Reading:PySem.W.plainGet K C_Reading Str.empty=true) (hd_Reading:PySem.W.hasDictIn K C_Reading=true) (po_Reading:PySem.W.plainOver K C_Reading=true) (sa_Reading:PySem.W.findIn K (.ref C_Reading) "__setattr__"=some (some (.builtin "object.__setattr__"))) (mk_Reading:PySem.W.makesIn K C_Reading=true) (kc_Reading:PySem.W.keepIn K (.ref C_Reading)=true)
    (n_Reading_names:PySem.W.findIn K (.ref C_Reading) "names"=some none)
    (n_Reading_bounds:PySem.W.findIn K (.ref C_Reading) "bounds"=some none)
    (n_Reading_rows:PySem.W.findIn K (.ref C_Reading) "rows"=some none)
    (n_Reading_worth:PySem.W.findIn K (.ref C_Reading) "worth"=some none)
    (y_tuple:PySem.W.nsIn K mainGlobals "tuple"=some none)
    (y_all:PySem.W.nsIn K mainGlobals "all"=some none)
    {tk_MOST_LETTERS:Tok} (y_MOST_LETTERS:PySem.W.nsIn K mainGlobals "MOST_LETTERS"=some (some (.int 12 tk_MOST_LETTERS)))
    (y_len:PySem.W.nsIn K mainGlobals "len"=some none)
    {tk_LETTERS:Tok} (y_LETTERS:PySem.W.nsIn K mainGlobals "LETTERS"=some (some (.str "abcdefghijklmnopqrstuvwxyz" tk_LETTERS)))
    (y_int:PySem.W.nsIn K mainGlobals "int"=some none)
    {tk_MOST_FIGURES:Tok} (y_MOST_FIGURES:PySem.W.nsIn K mainGlobals "MOST_FIGURES"=some (some (.int 4 tk_MOST_FIGURES)))
    {tk_FIGURES:Tok} (y_FIGURES:PySem.W.nsIn K mainGlobals "FIGURES"=some (some (.str "0123456789" tk_FIGURES)))
    (y_range:PySem.W.nsIn K mainGlobals "range"=some none)
    (y_enumerate:PySem.W.nsIn K mainGlobals "enumerate"=some none)
    (y_isinstance:PySem.W.nsIn K mainGlobals "isinstance"=some none)
    (y_bool:PySem.W.nsIn K mainGlobals "bool"=some none)
    (y_str:PySem.W.nsIn K mainGlobals "str"=some none)
    (y_zip:PySem.W.nsIn K mainGlobals "zip"=some none)
    {tk_MOST_UNKNOWNS:Tok} (y_MOST_UNKNOWNS:PySem.W.nsIn K mainGlobals "MOST_UNKNOWNS"=some (some (.int 8 tk_MOST_UNKNOWNS)))
    {tk_MOST_ROWS:Tok} (y_MOST_ROWS:PySem.W.nsIn K mainGlobals "MOST_ROWS"=some (some (.int 12 tk_MOST_ROWS))) :
    ∃ fd:FuncData,(∀ (s:Shared) (v:Value),BindsTo s fd ⟨[v],[]⟩ [("_law_script",v)])∧∀ base:Heap,K.In base→base.Ns mainGlobals mg→FnOk l.prog w K mg base CX0 8 fa fd ["_law_script"] (sp_law K):=by
  obtain ⟨f1,d1,F1,m1,_⟩:=a1.fn X G
  obtain ⟨f2,d2,F2,m2,_⟩:=a2.fn X G
  obtain ⟨f3,d3,F3,m3,_⟩:=a3.fn X G
  obtain ⟨f4,d4,F4,m4,_⟩:=a4.fn X G
  obtain ⟨f5,d5,F5,m5,_⟩:=a5.fn X G
  obtain ⟨f6,d6,F6,m6,_⟩:=a6.fn X G
  obtain ⟨f7,d7,F7,m7,_⟩:=a7.fn X G
  obtain ⟨f8,d8,F8,m8,_⟩:=a8.fn X G
  obtain ⟨f9,d9,F9,m9,_⟩:=a9.fn X G
  obtain ⟨f10,d10,F10,m10,_⟩:=a10.fn X G
  obtain ⟨f11,d11,F11,m11,_⟩:=a11.fn X G
  obtain ⟨f12,d12,F12,m12,_⟩:=a12.fn X G
  obtain ⟨f13,d13,F13,m13,_⟩:=a13.fn X G
  obtain ⟨f14,d14,F14,m14,_⟩:=a14.fn X G
  obtain ⟨f15,d15,F15,m15,_⟩:=a15.fn X G
  obtain ⟨f16,d16,F16,m16,_⟩:=a16.fn X G
  obtain ⟨f17,d17,F17,m17,_⟩:=a17.fn X G
  obtain ⟨f18,d18,F18,m18,_⟩:=a18.fn X G
  obtain ⟨f19,d19,F19,m19,_⟩:=a19.fn X G
  obtain ⟨f20,d20,F20,m20,_⟩:=a20.fn X G
  obtain ⟨f21,d21,F21,m21,_⟩:=a21.fn X G
  obtain ⟨f22,d22,F22,m22,_⟩:=a22.fn X G
  obtain ⟨f23,d23,F23,m23,_⟩:=a23.fn X G
  obtain ⟨f24,d24,F24,m24,_⟩:=a24.fn X G
  obtain ⟨f25,d25,F25,m25,_,_,_,e⟩:=a25.fn X G
  have F26:=qfQ (st:=qaA) l26 c26 k26
  have b26:=F26.binds (ps:=["self"]) <| fun _ _ _ _ _ _=>qhf fun _=>rfl
  have F27:=qfQ (st:=qay) l27 c27 k27
  have b27:=F27.binds (ps:=["self","line","at"]) <| fun _ _ _ _ _ _=>qow fun _ _ _=>rfl
  have F28:=qfQ (st:=qaq) l28 c28 k28
  have b28:=F28.binds (ps:=["self","form","at"]) <| fun _ _ _ _ _ _=>qow fun _ _ _=>rfl
  have F29:=qfQ (st:=qaz) l29 c29 k29
  have b29:=F29.binds (ps:=["self","form","at"]) <| fun _ _ _ _ _ _=>qow fun _ _ _=>rfl
  cases hfa.symm.trans m25
  refine ⟨d25,fun s v=>by rw [e];exact .of_eq rfl,fun base _ _=>?_⟩
  have z_tuple:=PySem.W.mg_none_of X G y_tuple
  have z_all:=PySem.W.mg_none_of X G y_all
  have z_MOST_LETTERS:∃ tk,mg "MOST_LETTERS"=some (.int 12 tk):=⟨_,PySem.W.mg_of X G y_MOST_LETTERS⟩
  have z_len:=PySem.W.mg_none_of X G y_len
  have z_LETTERS:∃ tk,mg "LETTERS"=some (.str "abcdefghijklmnopqrstuvwxyz" tk):=⟨_,PySem.W.mg_of X G y_LETTERS⟩
  have z_int:=PySem.W.mg_none_of X G y_int
  have z_MOST_FIGURES:∃ tk,mg "MOST_FIGURES"=some (.int 4 tk):=⟨_,PySem.W.mg_of X G y_MOST_FIGURES⟩
  have z_FIGURES:∃ tk,mg "FIGURES"=some (.str "0123456789" tk):=⟨_,PySem.W.mg_of X G y_FIGURES⟩
  have z_range:=PySem.W.mg_none_of X G y_range
  have z_enumerate:=PySem.W.mg_none_of X G y_enumerate
  have z_isinstance:=PySem.W.mg_none_of X G y_isinstance
  have z_bool:=PySem.W.mg_none_of X G y_bool
  have z_str:=PySem.W.mg_none_of X G y_str
  have z_zip:=PySem.W.mg_none_of X G y_zip
  have z_MOST_UNKNOWNS:∃ tk,mg "MOST_UNKNOWNS"=some (.int 8 tk):=⟨_,PySem.W.mg_of X G y_MOST_UNKNOWNS⟩
  have z_MOST_ROWS:∃ tk,mg "MOST_ROWS"=some (.int 12 tk):=⟨_,PySem.W.mg_of X G y_MOST_ROWS⟩
  have T_Reading:TxtReading K mg C_Reading:=⟨⟨pg_Reading,hd_Reading,po_Reading,sa_Reading⟩,n_Reading_names,n_Reading_bounds,n_Reading_rows,n_Reading_worth,PySem.W.mg_of X G aC_Reading,aC_Reading⟩
  have H1:=qip (P:=l.prog) (w:=w) (mg:=mg) (base:=base) (n:=0) F1 z_tuple
  have Q1:=F1.cl m1 H1 <| fun _ _ _ _ _ _=>qhf fun _=>rfl
  have H2:=qhY (P:=l.prog) (w:=w) (mg:=mg) (base:=base) (n:=0) F2 z_all z_MOST_LETTERS z_len z_LETTERS
  have Q2:=F2.cl m2 H2 <| fun _ _ _ _ _ _=>qhf fun _=>rfl
  have H3:=qeD (P:=l.prog) (w:=w) (mg:=mg) (base:=base) (n:=0) F3 z_int z_MOST_FIGURES z_all z_len z_FIGURES
  have Q3:=F3.cl m3 H3 <| fun _ _ _ _ _ _=>qhf fun _=>rfl
  have H4:=qgC (n:=1) F4 (Q3.mono (by decide)) (Q2.mono (by decide)) z_range z_tuple z_len
  have Q4:=F4.cl m4 H4 <| fun _ _ _ _ _ _=>qhf fun _=>rfl
  have H5:=qep (n:=1) F5 (Q3.mono (by decide)) (Q2.mono (by decide)) z_len
  have Q5:=F5.cl m5 H5 <| fun _ _ _ _ _ _=>qhf fun _=>rfl
  have H6:=qgH (n:=2) F6 (Q4.mono (by decide)) (Q3.mono (by decide)) z_len
  have Q6:=F6.cl m6 H6 <| fun _ _ _ _ _ _=>qhf fun _=>rfl
  have H7:=qfm (n:=2) F7 (Q4.mono (by decide))
  have Q7:=F7.cl m7 H7 <| fun _ _ _ _ _ _=>qhf fun _=>rfl
  have H8:=qgl (n:=3) F8 (Q5.mono (by decide)) (Q6.mono (by decide)) (Q7.mono (by decide))
  have Q8:=F8.cl m8 H8 <| fun _ _ _ _ _ _=>qhf fun _=>rfl
  have H9:=qey (P:=l.prog) (w:=w) (mg:=mg) (base:=base) (n:=0) F9 z_tuple z_len
  have Q9:=F9.cl m9 H9 <| fun _ _ _ _ _ _=>qow fun _ _ _=>rfl
  have H10:=qdj (P:=l.prog) (w:=w) (mg:=mg) (base:=base) (n:=0) F10 z_tuple
  have Q10:=F10.cl m10 H10 <| fun _ _ _ _ _ _=>qhf fun _=>rfl
  have H12:=qfj (P:=l.prog) (w:=w) (mg:=mg) (base:=base) (n:=0) F12 z_isinstance z_int z_bool
  have Q12:=F12.cl m12 H12 <| fun _ _ _ _ _ _=>qhf fun _=>rfl
  have H13:=qf0 (P:=l.prog) (w:=w) (mg:=mg) (base:=base) (n:=0) F13 z_len
  have R13:=F13.clM m13 H13 <| fun _ _ _ _ _ _=>qhf fun _=>rfl
  have H14:=qfW (P:=l.prog) (w:=w) (mg:=mg) (base:=base) (n:=0) F14
  have R14:=F14.clM m14 H14 <| fun _ _ _ _ _ _=>qgu fun _ _=>rfl
  have H15:=qfy (P:=l.prog) (w:=w) (mg:=mg) (base:=base) (n:=0) F15
  have R15:=F15.clM m15 H15 <| fun _ _ _ _ _ _=>qgu fun _ _=>rfl
  have H16:=qga (n:=1) F16 (R14.mono (by decide)) z_range
  have R16:=F16.clM m16 H16 <| fun _ _ _ _ _ _=>qgu fun _ _=>rfl
  have H17:=qfw (n:=2) F17 (R14.mono (by decide)) (R16.mono (by decide)) (R15.mono (by decide)) z_range
  have R17:=F17.clM m17 H17 <| fun _ _ _ _ _ _=>qgu fun _ _=>rfl
  have H18:=qeE (n:=1) F18 (R14.mono (by decide))
  have R18:=F18.clM m18 H18 <| fun _ _ _ _ _ _=>qhf fun _=>rfl
  have H19:=qfu (n:=2) F19 (R14.mono (by decide)) (R18.mono (by decide)) z_range z_len
  have R19:=F19.clM m19 H19 <| fun _ _ _ _ _ _=>qgu fun _ _=>rfl
  have H20:=qgs (P:=l.prog) (w:=w) (mg:=mg) (base:=base) (n:=0) F20 z_len z_str
  have Q20:=F20.cl m20 H20 <| fun _ _ _ _ _ _=>qgu fun _ _=>rfl
  have H21:=qeb (P:=l.prog) (w:=w) (mg:=mg) (base:=base) (n:=0) F21 z_tuple
  have Q21:=F21.cl m21 (H21.imp qgq) <| fun _ _ _ _ _ _=>qow fun _ _ _=>rfl
  have H22:=qdF (n:=2) F22 (R18.mono (by decide)) (R14.mono (by decide)) z_tuple
  have R22:=F22.clM m22 H22 <| fun _ _ _ _ _ _=>qgu fun _ _=>rfl
  have H23:=qfM (n:=3) F23 (R17.mono (by decide)) (R22.mono (by decide)) (R19.mono (by decide)) (R14.mono (by decide)) (R18.mono (by decide)) (Q20.mono (by decide)) (Q21.mono (by decide)) z_range z_tuple z_str
  have R23:=F23.clM m23 H23 <| fun _ _ _ _ _ _=>qgu fun _ _=>rfl
  have H24_0:=qeF (P:=l.prog) (w:=w) (mg:=mg) (base:=base) (n:=0) F24
  have Q24_0:=F24.cl m24 H24_0 <| fun _ _ _ _ _ _=>qgu fun _ _=>rfl
  have H24_1:=qa1 (m:=0) (n:=1) F24 (Q12.mono (by decide)) Q24_0 z_isinstance z_tuple z_str z_all z_len z_zip
  have Q24_1:=F24.cl m24 H24_1 <| fun _ _ _ _ _ _=>qgu fun _ _=>rfl
  have H24_2:=qa1 (m:=1) (n:=2) F24 (Q12.mono (by decide)) Q24_1 z_isinstance z_tuple z_str z_all z_len z_zip
  have Q24_2:=F24.cl m24 H24_2 <| fun _ _ _ _ _ _=>qgu fun _ _=>rfl
  have H24_3:=qa1 (m:=2) (n:=3) F24 (Q12.mono (by decide)) Q24_2 z_isinstance z_tuple z_str z_all z_len z_zip
  have Q24_3:=F24.cl m24 H24_3 <| fun _ _ _ _ _ _=>qgu fun _ _=>rfl
  have H24_4:=qa1 (m:=3) (n:=4) F24 (Q12.mono (by decide)) Q24_3 z_isinstance z_tuple z_str z_all z_len z_zip
  have Q24_4:=F24.cl m24 H24_4 <| fun _ _ _ _ _ _=>qgu fun _ _=>rfl
  have H24_5:=qa1 (m:=4) (n:=5) F24 (Q12.mono (by decide)) Q24_4 z_isinstance z_tuple z_str z_all z_len z_zip
  have Q24_5:=F24.cl m24 H24_5 <| fun _ _ _ _ _ _=>qgu fun _ _=>rfl
  have H24:=qa1 (m:=5) (n:=6) F24 (Q12.mono (by decide)) Q24_5 z_isinstance z_tuple z_str z_all z_len z_zip
  have Q24:=F24.cl m24 H24 <| fun _ _ _ _ _ _=>qgu fun _ _=>rfl
  have H26:=qcL (P:=l.prog) (w:=w) (mg:=mg) (base:=base) (n:=0) F26 T_Reading
  have R26:=MkM.mk ⟨_,_,H26,b26,⟨mk_Reading,a26,i26,kc_Reading⟩⟩
  have H28:=qbX (P:=l.prog) (w:=w) (mg:=mg) (base:=base) (n:=0) F28 T_Reading z_MOST_UNKNOWNS z_len
  have R28:=MthM.mk ⟨_,_,H28,b28,⟨a28,i28,k28⟩⟩
  have H29:=qcI (n:=1) F29 T_Reading (Q9.mono (by decide)) (Q1.mono (by decide)) z_MOST_ROWS z_len
  have R29:=MthM.mk ⟨_,_,H29,b29,⟨a29,i29,k29⟩⟩
  have H27:=qcn (n:=4) F27 T_Reading (Q8.mono (by decide)) (Q9.mono (by decide)) (R28.mono (by decide)) (R29.mono (by decide))
  have R27:=MthM.mk ⟨_,_,H27,b27,⟨a27,i27,k27⟩⟩
  have H11:=qfJ (n:=4) F11 T_Reading (Q10.mono (by decide)) (R26.mono (by decide)) (R27.mono (by decide)) z_enumerate z_tuple z_len
  have Q11:=F11.cl m11 (H11.imp qgq) <| fun _ _ _ _ _ _=>qhf fun _=>rfl
  have H25:=qoV (n:=7) F25 (R13.mono (by decide)) (R23.mono (by decide)) (R14.mono (by decide)) (Q24.mono (by decide)) (Q11.mono (by decide))
  exact (H25.imp qgq).imp qkE
theorem walk {l:PySem.W.OpenLaw} {q:Program} {loose:List Str} {XP:(Str→Option Value)→Heap→Prop} {YP:World→Heap→Prop} {d:DefRec} {K:Params→PySem.W.Frag} (hn:l.most=some 63) (hdf:d.params.defaults=[]) (him:PyProof.Rows.importsNone q=true)
    (hY:∀ (w:World) (h:Heap),YP w h→(K w.params).In h) (hN:∀ w:World,PySem.W.nsIn (K w.params) mainGlobals "least_grown"=some none∧PySem.W.nsIn (K w.params) mainGlobals "greatest_first"=some none)
    (F:∀ (w:World) (mg:Str→Option Value) (fa:Addr) (h:Heap),(K w.params).In h→h.Ns mainGlobals mg→mg d.name=some (.ref fa) →
      ∃ fd:FuncData,(∀ (s:Shared) (u:Value),BindsTo s fd ⟨[u],[]⟩ [("_law_script",u)])∧∀ base:Heap,(K w.params).In base→base.Ns mainGlobals mg→FnOk l.prog w (K w.params) mg base CX0 8 fa fd ["_law_script"] (sp_law (K w.params))) :
    PySem.W.WalkO q loose XP YP l.row.toRowW d [] (fun f vs=>PySem.call f vs) :=
  L2.walk_of (n:=63) (k:=8) (x:="_law_script") (CX:=fun _=>CX0) (sp:=fun w=>sp_law (K w.params)) hn (by decide) hdf him ⟨rfl,by decide,by decide⟩ hY F (fun w H a ns hl _ hS=>⟨a,ns,rfl,hS,hl,(fun t ht=>by rw [qja (hN w)] at ht;cases ht),fun _=>rfl⟩) fun _ _ _ _ _ z=>z
end Kx
namespace Kx
open PySem PySem.W L2
def KK:Params→Frag:=fun P =>
  (nat_lit 2,⟨.none,none,(.dict #[] 0),#[]⟩) ::
  (nat_lit 3,⟨(.type "dict"),none,(.dict #[dE P "__name__" 165 ((.str "law_cutyard_k07_read" 480)),dE P "__doc__" 166 (.none),dE P "__package__" 167 (.none),dE P "__loader__" 168 ((.builtin "__main__.__loader__#opaque")),dE P "__spec__" 169 (.none),dE P "__annotations__" 170 ((.ref 6)),dE P "__builtins__" 171 ((.ref 4)),dE P "__file__" 173 ((.str "/claim/cut.py" 172)),dE P "__cached__" 174 (.none),dE P "YardError" 206 ((.ref 24)),dE P "NoName" 231 ((.ref 44)),dE P "Twice" 256 ((.ref 63)),dE P "TooGreat" 281 ((.ref 82)),dE P "NoText" 306 ((.ref 101)),dE P "turned" 314 ((.ref 108)),dE P "MOST_UNKNOWNS" 316 ((.int 8 315)),dE P "MOST_ROWS" 318 ((.int 12 317)),dE P "LETTERS" 322 ((.str "abcdefghijklmnopqrstuvwxyz" 321)),dE P "FIGURES" 324 ((.str "0123456789" 323)),dE P "MOST_LETTERS" 326 ((.int 12 325)),dE P "MOST_FIGURES" 328 ((.int 4 327)),dE P "is_name" 334 ((.ref 113)),dE P "number_form" 340 ((.ref 118)),dE P "sum_form" 351 ((.ref 125)),dE P "unknown_form" 360 ((.ref 132)),dE P "row_form" 369 ((.ref 139)),dE P "worth_form" 377 ((.ref 146)),dE P "line_form" 385 ((.ref 153)),dE P "sum_entries" 398 ((.ref 160)),dE P "turned_numbers" 404 ((.ref 165)),dE P "Reading" 465 ((.ref 203)),dE P "read_plan" 479 ((.ref 214)),dE P "_law_whole" 488 ((.ref 221)),dE P "_law_pool" 498 ((.ref 228)),dE P "_law_draw" 509 ((.ref 235)),dE P "_law_fresh" 518 ((.ref 242)),dE P "_law_word" 528 ((.ref 249)),dE P "_law_names" 545 ((.ref 256)),dE P "_law_number" 553 ((.ref 263)),dE P "_law_terms" 559 ((.ref 268)),dE P "_law_sum" 565 ((.ref 273)),dE P "_law_entries" 577 ((.ref 280)),dE P "_law_unknowns" 591 ((.ref 287)),dE P "_law_text" 608 ((.ref 294)),dE P "_law_alike" 614 ((.ref 299)),dE P "law" 626 ((.ref 306))] 46),#[]⟩) ::
(nat_lit 40,cO "__init__" 219 "NoName.__init__" 220 221 6 2 3 35 181 36 (.ref 37) (.ref 38) 39 224 225) ::
(nat_lit 59,cO "__init__" 244 "Twice.__init__" 245 246 10 2 3 54 181 55 (.ref 56) (.ref 57) 58 249 250) ::
(nat_lit 78,cO "__init__" 269 "TooGreat.__init__" 270 271 14 2 3 73 181 74 (.ref 75) (.ref 76) 77 274 275) ::
(nat_lit 97,cO "__init__" 294 "NoText.__init__" 295 296 18 2 3 92 181 93 (.ref 94) (.ref 95) 96 299 300) ::
(nat_lit 107,cO "turned" 309 "turned" 310 311 21 1 3 104 181 105 .none .none 106 312 313) ::
  (nat_lit 108,fO qcY "turned" "turned" "cutyard.rows" 307 107) ::
(nat_lit 112,cO "is_name" 329 "is_name" 330 331 30 1 3 109 181 110 .none .none 111 332 333) ::
  (nat_lit 113,fO qcs "is_name" "is_name" "cutyard.texts" 319 112) ::
(nat_lit 117,cO "number_form" 335 "number_form" 336 337 34 1 3 114 181 115 .none .none 116 338 339) ::
  (nat_lit 118,fO qbb "number_form" "number_form" "cutyard.texts" 319 117) ::
(nat_lit 124,cO "sum_form" 341 "sum_form" 342 343 43 1 3 119 181 120 (.ref 121) (.ref 122) 123 349 350) ::
  (nat_lit 125,fO qcC "sum_form" "sum_form" "cutyard.texts" 319 124) ::
(nat_lit 131,cO "unknown_form" 352 "unknown_form" 353 354 58 1 3 126 181 127 (.ref 128) (.ref 129) 130 358 359) ::
  (nat_lit 132,fO qbl "unknown_form" "unknown_form" "cutyard.texts" 319 131) ::
(nat_lit 138,cO "row_form" 361 "row_form" 362 363 70 1 3 133 181 134 (.ref 135) (.ref 136) 137 367 368) ::
  (nat_lit 139,fO qcE "row_form" "row_form" "cutyard.texts" 319 138) ::
(nat_lit 145,cO "worth_form" 370 "worth_form" 371 372 78 1 3 140 181 141 (.ref 142) (.ref 143) 144 375 376) ::
  (nat_lit 146,fO qbS "worth_form" "worth_form" "cutyard.texts" 319 145) ::
(nat_lit 152,cO "line_form" 378 "line_form" 379 380 83 1 3 147 181 148 (.ref 149) (.ref 150) 151 383 384) ::
  (nat_lit 153,fO qb1 "line_form" "line_form" "cutyard.texts" 319 152) ::
(nat_lit 159,cO "sum_entries" 386 "sum_entries" 387 388 92 3 3 154 181 155 (.ref 156) (.ref 157) 158 396 397) ::
  (nat_lit 160,fO qbB "sum_entries" "sum_entries" "cutyard.texts" 319 159) ::
(nat_lit 164,cO "turned_numbers" 399 "turned_numbers" 400 401 103 1 3 161 181 162 .none .none 163 402 403) ::
  (nat_lit 165,fO qaU "turned_numbers" "turned_numbers" "cutyard.texts" 319 164) ::
(nat_lit 178,cO "__init__" 417 "Reading.__init__" 418 419 107 1 3 173 181 174 (.ref 175) (.ref 176) 177 421 422) ::
  (nat_lit 179,fO qaA "__init__" "Reading.__init__" "cutyard.texts" 319 178) ::
(nat_lit 185,cO "read_line" 424 "Reading.read_line" 425 426 113 3 3 180 181 181 (.ref 182) (.ref 183) 184 431 432) ::
  (nat_lit 186,fO qay "read_line" "Reading.read_line" "cutyard.texts" 319 185) ::
(nat_lit 192,cO "read_unknown" 434 "Reading.read_unknown" 435 436 124 3 3 187 181 188 (.ref 189) (.ref 190) 191 440 441) ::
  (nat_lit 193,fO qaq "read_unknown" "Reading.read_unknown" "cutyard.texts" 319 192) ::
(nat_lit 199,cO "read_row" 443 "Reading.read_row" 444 445 134 3 3 194 181 195 (.ref 196) (.ref 197) 198 451 452) ::
  (nat_lit 200,fO qaz "read_row" "Reading.read_row" "cutyard.texts" 319 199) ::
  (nat_lit 201,⟨(.type "tuple"),none,(.seq #[(.str "bounds" 454),(.str "names" 455),(.str "rows" 456),(.str "worth" 457)] 0),#[]⟩) ::
  (nat_lit 202,⟨(.type "dict"),none,(.dict #[dE P "__module__" 412 ((.str "cutyard.texts" 319)),dE P "__firstlineno__" 416 ((.int 105 415)),dE P "__init__" 423 ((.ref 179)),dE P "read_line" 433 ((.ref 186)),dE P "read_unknown" 442 ((.ref 193)),dE P "read_row" 453 ((.ref 200)),dE P "__static_attributes__" 458 ((.ref 201)),dE P "__dict__" 460 ((.ref 204)),dE P "__weakref__" 462 ((.ref 205)),dE P "__doc__" 463 (.none)] 4),#[]⟩) ::
  (nat_lit 203,⟨(.type "type"),none,(.cls ⟨"Reading",[(.type "object")],[(.ref 203),(.type "object")],202,"Reading",true,[],[],false,none,false⟩),#[none,none,(some (.str "Reading" 405)),(some (.str "Reading" 413)),(some (.builtin "object.__new__")),(some (.bool true))]⟩) ::
  (nat_lit 204,⟨(.type "getset_descriptor"),none,(.fields #[(.str "__dict__" 459),(.ref 203),(.builtin "function.__dict__"),(.builtin "function.__dict__#set")]),#[]⟩) ::
  (nat_lit 205,⟨(.type "getset_descriptor"),none,(.fields #[(.str "__weakref__" 461),(.ref 203),(.builtin "ExceptionGroup.__weakref__"),.none]),#[]⟩) ::
(nat_lit 213,cO "read_plan" 466 "read_plan" 467 468 140 1 3 208 181 209 (.ref 210) (.ref 211) 212 477 478) ::
  (nat_lit 214,fO qcb "read_plan" "read_plan" "cutyard.texts" 319 213) ::
(nat_lit 220,cO "_law_whole" 482 "_law_whole" 483 484 154 1 3 215 181 216 (.ref 217) (.ref 218) 219 486 487) ::
  (nat_lit 221,fO qbT "_law_whole" "_law_whole" "law_cutyard_k07_read" 480 220) ::
(nat_lit 227,cO "_law_pool" 489 "_law_pool" 490 491 156 1 3 222 181 223 (.ref 224) (.ref 225) 226 496 497) ::
  (nat_lit 228,fO qb6 "_law_pool" "_law_pool" "law_cutyard_k07_read" 480 227) ::
(nat_lit 234,cO "_law_draw" 499 "_law_draw" 500 501 164 2 3 229 181 230 (.ref 231) (.ref 232) 233 507 508) ::
  (nat_lit 235,fO qb3 "_law_draw" "_law_draw" "law_cutyard_k07_read" 480 234) ::
(nat_lit 241,cO "_law_fresh" 510 "_law_fresh" 511 512 173 2 3 236 181 237 (.ref 238) (.ref 239) 240 516 517) ::
  (nat_lit 242,fO qbQ "_law_fresh" "_law_fresh" "law_cutyard_k07_read" 480 241) ::
(nat_lit 248,cO "_law_word" 519 "_law_word" 520 521 179 2 3 243 181 244 (.ref 245) (.ref 246) 247 526 527) ::
  (nat_lit 249,fO qca "_law_word" "_law_word" "law_cutyard_k07_read" 480 248) ::
(nat_lit 255,cO "_law_names" 529 "_law_names" 530 531 184 2 3 250 181 251 (.ref 252) (.ref 253) 254 543 544) ::
  (nat_lit 256,fO qbR "_law_names" "_law_names" "law_cutyard_k07_read" 480 255) ::
(nat_lit 262,cO "_law_number" 546 "_law_number" 547 548 202 1 3 257 181 258 (.ref 259) (.ref 260) 261 551 552) ::
  (nat_lit 263,fO qby "_law_number" "_law_number" "law_cutyard_k07_read" 480 262) ::
(nat_lit 267,cO "_law_terms" 554 "_law_terms" 555 556 209 2 3 264 181 265 .none .none 266 557 558) ::
  (nat_lit 268,fO qa9 "_law_terms" "_law_terms" "law_cutyard_k07_read" 480 267) ::
(nat_lit 272,cO "_law_sum" 560 "_law_sum" 561 562 215 2 3 269 181 270 .none .none 271 563 564) ::
  (nat_lit 273,fO qbY "_law_sum" "_law_sum" "law_cutyard_k07_read" 480 272) ::
(nat_lit 279,cO "_law_entries" 566 "_law_entries" 567 568 219 3 3 274 181 275 (.ref 276) (.ref 277) 278 575 576) ::
  (nat_lit 280,fO qbj "_law_entries" "_law_entries" "law_cutyard_k07_read" 480 279) ::
(nat_lit 286,cO "_law_unknowns" 578 "_law_unknowns" 579 580 224 2 3 281 181 282 (.ref 283) (.ref 284) 285 589 590) ::
  (nat_lit 287,fO qbc "_law_unknowns" "_law_unknowns" "law_cutyard_k07_read" 480 286) ::
(nat_lit 293,cO "_law_text" 592 "_law_text" 593 594 238 2 3 288 181 289 (.ref 290) (.ref 291) 292 606 607) ::
  (nat_lit 294,fO qb2 "_law_text" "_law_text" "law_cutyard_k07_read" 480 293) ::
(nat_lit 298,cO "_law_alike" 609 "_law_alike" 610 611 252 2 3 295 181 296 .none .none 297 612 613) ::
  (nat_lit 299,fO qba "_law_alike" "_law_alike" "law_cutyard_k07_read" 480 298) ::
(nat_lit 305,cO "law" 615 "law" 616 617 262 1 3 300 181 301 (.ref 302) (.ref 303) 304 624 625) ::
  (nat_lit 306,fO qlk "law" "law" "law_cutyard_k07_read" 480 305)::[]
end Kx
def PySem.W.Fast.tw3223485322063866892:=PySem.Challenge.pw_cutyard_k07_read
theorem PySem.W.Fast.te3223485322063866892:PySem.Challenge.pw_cutyard_k07_read=PySem.W.Fast.tw3223485322063866892:=rfl
def PySem.W.Fast.tw5385739360559341639:=Kx.KK
theorem PySem.W.Fast.te5385739360559341639:Kx.KK=PySem.W.Fast.tw5385739360559341639:=rfl
theorem PySem.W.Fast.tw10470100582496709951:True:=trivial
theorem PySem.W.Fast.tw10990609191908404092:True:=trivial
theorem PySem.W.Fast.tw11702832243863933010:True:=trivial
theorem PySem.W.Fast.tw11835469297592695672:True:=trivial
theorem PySem.W.Fast.tw12494696355491255267:True:=trivial
theorem PySem.W.Fast.tw12881708706519042266:True:=trivial
theorem PySem.W.Fast.tw1325472753053055845:True:=trivial
theorem PySem.W.Fast.tw13775309049224531994:True:=trivial
theorem PySem.W.Fast.tw14373894970862859079:True:=trivial
theorem PySem.W.Fast.tw16486766251584780280:True:=trivial
theorem PySem.W.Fast.tw217145471193595864:True:=trivial
theorem PySem.W.Fast.tw2579354382294549794:True:=trivial
theorem PySem.W.Fast.tw2686154479942112017:True:=trivial
theorem PySem.W.Fast.tw2864781242989445269:True:=trivial
theorem PySem.W.Fast.tw287742985875927899:True:=trivial
theorem PySem.W.Fast.tw3061348936726715345:True:=trivial
theorem PySem.W.Fast.tw3771218812004294516:True:=trivial
theorem PySem.W.Fast.tw5085921222875821160:True:=trivial
theorem PySem.W.Fast.tw5168387417645684062:True:=trivial
theorem PySem.W.Fast.tw5615040697904445930:True:=trivial
theorem PySem.W.Fast.tw9011487455953806567:True:=trivial
theorem PySem.W.Fast.tw9840368351548723466:True:=trivial
open PySem PySem.W PyProof.Rows
set_option maxRecDepth 100000 in
set_option maxHeartbeats 0 in
theorem PySem.Challenge.cw_cutyard_k07_read_holds : PySem.Challenge.rw_cutyard_k07_read.Holds := by
  w_on;o_law;o_head (kHook Kx.KK (2::3::40::59::78::97::107::108::112::113::117::118::124::125::131::132::138::139::145::146::152::153::159::160::164::165::178::179::185::186::192::193::199::200::201::202::203::204::205::213::214::220::221::227::228::234::235::241::242::248::249::255::256::262::263::267::268::272::273::279::280::286::287::293::294::298::299::305::306::[]) (fun _=>by kernel_rfl));(case hw=>w_witness2)
  k_fill
  refine Kx.walk (l:=PySem.Challenge.rw_cutyard_k07_read) rfl rfl (by decide +kernel) (fun w h Y=>PySem.W.kIn_of Y) (fun w=>⟨?N1,?N2⟩) ?F
  (case N1=>k_is);(case N2=>k_is)
  case F =>
    intro w mg fa h KX G hmg
    refine' Kx.all_mk KX G hmg ?aC_Reading ?a1 ?a2 ?a3 ?a4 ?a5 ?a6 ?a7 ?a8 ?a9 ?a10 ?a11 ?a12 ?a13 ?a14 ?a15 ?a16 ?a17 ?a18 ?a19 ?a20 ?a21 ?a22 ?a23 ?a24 ?a25 ?a26 ?i26 ?l26 ?c26 ?k26 ?a27 ?i27 ?l27 ?c27 ?k27 ?a28 ?i28 ?l28 ?c28 ?k28 ?a29 ?i29 ?l29 ?c29 ?k29 ?pg_Reading ?hd_Reading ?po_Reading ?sa_Reading ?mk_Reading ?kc_Reading ?n_Reading_names ?n_Reading_bounds ?n_Reading_rows ?n_Reading_worth ?y_tuple ?y_all ?y_MOST_LETTERS ?y_len ?y_LETTERS ?y_int ?y_MOST_FIGURES ?y_FIGURES ?y_range ?y_enumerate ?y_isinstance ?y_bool ?y_str ?y_zip ?y_MOST_UNKNOWNS ?y_MOST_ROWS
    (case aC_Reading=>k_is);(case pg_Reading=>k_is);(case hd_Reading=>k_is);(case po_Reading=>k_is);(case sa_Reading=>k_is);(case mk_Reading=>k_is);(case kc_Reading=>k_is);(case n_Reading_names=>k_is);(case n_Reading_bounds=>k_is);(case n_Reading_rows=>k_is);(case n_Reading_worth=>k_is)
    (case a26=>k_is);(case i26=>k_is);(case l26=>k_is);(case c26=>k_is);(case k26=>k_is)
    (case a27=>k_is);(case i27=>k_is);(case l27=>k_is);(case c27=>k_is);(case k27=>k_is)
    (case a28=>k_is);(case i28=>k_is);(case l28=>k_is);(case c28=>k_is);(case k28=>k_is)
    (case a29=>k_is);(case i29=>k_is);(case l29=>k_is);(case c29=>k_is);(case k29=>k_is)
    (case y_tuple=>k_is)
    (case y_all=>k_is)
    (case y_MOST_LETTERS=>k_is)
    (case y_len=>k_is)
    (case y_LETTERS=>k_is)
    (case y_int=>k_is)
    (case y_MOST_FIGURES=>k_is)
    (case y_FIGURES=>k_is)
    (case y_range=>k_is)
    (case y_enumerate=>k_is)
    (case y_isinstance=>k_is)
    (case y_bool=>k_is)
    (case y_str=>k_is)
    (case y_zip=>k_is)
    (case y_MOST_UNKNOWNS=>k_is)
    (case y_MOST_ROWS=>k_is)
    all_goals (refine' L2.Has.of ?a ?l ?c;(case a=>k_is);(case l=>k_is);(case c=>k_is))

