import PyProof.Rows.All
import Wide.All
import OpenK.AllK
import Wide.FinOn
import Lean
import PyProof.EqAt
import PyProof.EqKinds
import PyProof.TupleCall
import PyProof.NeKinds
import KE.KLam
import KE.KMinKey
import KE.KSortTup
import PyProof.AutoListH
import PyProof.MeetsStr
import PyProof.StrLawsJoin
import PyProof.FitsReplace
import PyProof.Rows.TupDisplay
import PyProof.ListRange
import PyProof.ZipIter
import PyProof.ListNew
import KE.KSortKey
import PyProof.StationsW
import PyProof.ExcClass2
import PyProof.ExcInit
import PyProof.ExcBaseAll.ValueError
import PyProof.RulesAs
import PyProof.NsDelKeeps
import PyProof.ExcAttrAll.ValueError
import PyProof.IsiBase
import KE.KIsAll
import PyProof.InstStoreFacts
import PyProof.Rows.SetFrom
import PyProof.SetRoads
import KE.KRevIter
import PyProof.StrLawsChain
import PyProof.StrLawsTight
import PyProof.Rows.StrItems
import PyProof.Rows.StrSplitCount
import KE.KIntText
import PyProof.StrCalls2
import PyProof.StrLoop
import PyProof.StrWalks
import PyProof.StrOps
import PyProof.StrLawsIn
import PyProof.Rows.FStr
import PyProof.Rows.StrSplitAre
import PyProof.CallStr
import PyProof.IsiNone
import PyProof.Rows.Range3
import PyProof.Rows.ChunkLeaf
import PySem.Challenge.RW_cutyard_k70_a_desk_changed
open PySem.W (instObj methodObj Frag lookIn InstAt plainGet hasDictIn findIn handedIn plainGet_of isFn plainOver takerIn makesIn typeIn emptyDict keepIn callWith_K methodCall_KW callWith_K0 cellsFrom_some fnOf codeIn kIn_of mg_of nsIn kitOne)
set_option Elab.async false
set_option linter.all false
set_option maxRecDepth 100000
abbrev HV:=@List.length_map
abbrev HW:=@List.getElem?_append_left
abbrev HX:=@List.getElem?_append_right
abbrev HY:=@List.length_append
abbrev HZ:=@PySem.wpAny_bind
abbrev Ia:=@if_pos
abbrev Ib:=@if_neg
abbrev Ic:=@List.mem_cons_of_mem
abbrev Ie:=@List.mem_cons_self
abbrev Ig:=@PySem.Heap.get?_push_of_some
abbrev Ih:=@Nat.le_refl
abbrev Ii:=@List.getElem?_map
abbrev Ij:=@List.length_cons
abbrev Ik:=@List.mem_cons
abbrev Il:=@List.size_toArray
abbrev Im:=@List.length_set
abbrev Io:=@PySem.wpAny_pure
abbrev Ip:=@List.mem_singleton
abbrev Iq:=@PySem.Heap.lt_size
abbrev Ir:=@of_decide_eq_true
abbrev Iv:=@PySem.boot_len
abbrev Iw:=@List.append_assoc
abbrev Iy:=@PySem.Heap.get?_push_size
abbrev Iz:=@Bool.and_eq_true
abbrev IA:=@List.mem_of_getElem?
abbrev IB:=@List.getElem?_eq_getElem
abbrev IC:=@List.all_eq_true
abbrev ID:=@decide_eq_false
abbrev IE:=@List.map_cons
abbrev IF:=@Nat.le_trans
abbrev IG:=@List.lookup_cons
abbrev IH:=@of_decide_eq_false
abbrev II:=@List.mem_append
abbrev IJ:=@List.map_append
abbrev IK:=@Option.some.inj
abbrev IL:=@List.getElem?_set_ne
abbrev IM:=@List.mem_map
abbrev IP:=@List.getElem?_set_self
abbrev IQ:=@List.not_mem_nil
abbrev IS:=@List.nodup_cons
abbrev IT:=@Nat.lt_of_lt_of_le
abbrev IU:=@Nat.lt_or_ge
abbrev IV:=@Bool.false_ne_true
abbrev IW:=@List.append_nil
abbrev IX:=@List.getElem?_eq_none
abbrev IY:=@List.flatten_cons
abbrev IZ:=@decide_eq_true_eq
abbrev I0:=@List.length_take
abbrev Ja:=@Nat.ne_of_lt
abbrev Jb:=@List.mem_append_right
abbrev Jc:=@decide_eq_true
abbrev Je:=@List.length_range
abbrev Jf:=@beq_self_eq_true
abbrev Jg:=@PySem.Str.append_assoc
abbrev Jh:=@List.length_nil
abbrev Ji:=@PySem.wpAny_loadPart_at
abbrev Jj:=@Ne.symm
abbrev Jk:=@List.getElem?_eq_some_iff
abbrev Jl:=@Array.length_toList
abbrev Jm:=@List.length_drop
abbrev Jn:=@Nat.sub_self
abbrev Jo:=@List.ext_getElem?
abbrev Jp:=@List.getD_eq_getElem?_getD
abbrev Jq:=@PyProof.Rows.boot_tuple
abbrev Jr:=@Int.eq_ofNat_of_zero_le
abbrev Js:=@List.nodup_append
abbrev Jt:=@PyProof.Rows.boot_str
abbrev Ju:=@PySem.sizeLine_eq
abbrev Jv:=@PySem.mem_of_lookup
abbrev Jw:=@PySem.wpAny_field
abbrev Jx:=@List.length_eq_zero_iff
abbrev Jy:=@PySem.Heap.size_push
abbrev Jz:=@List.replicate_succ
abbrev JA:=@List.length_replicate
abbrev JB:=@PyProof.Rows.slot_tuple_getitem
abbrev JC:=@List.eraseIdx_eq_take_drop_succ
abbrev JD:=@congrArg
abbrev JE:=@PySem.F.excBase_ValueError
abbrev JF:=@PySem.wpAny_mono
abbrev JG:=@PySem.wpAny_loadPart'
abbrev JH:=@List.map_map
abbrev JI:=@PySem.W.mg_none_of
abbrev JJ:=@or_false
abbrev JK:=@List.take_of_length_le
abbrev JL:=@Int.toNat_natCast
abbrev JM:=@PySem.Heap.get?_none_of_le
abbrev JN:=@List.mem_append_left
abbrev JO:=@List.mem_range
abbrev JP:=@PySem.Heap.get?_update_other
abbrev JQ:=@Bool.eq_iff_iff
abbrev JR:=@List.getElem?_eq_none_iff
abbrev JS:=@PySem.F.store_ValueError
abbrev JT:=@PySem.wpAny_holding
abbrev JU:=@PySem.call_meets
abbrev JV:=@PySem.wpAny_callSpecial?_slot
abbrev JW:=@PySem.F.plainAttrs_list
abbrev JX:=@PySem.wpAny_newObj_type
abbrev JY:=@PyProof.Rows.callWith_type1
abbrev JZ:=@PySem.PassesOwn.never
abbrev J0:=@PySem.StrLaws.glued_eq_join
abbrev J1:=@List.getElem?_range
abbrev J2:=@List.mem_filterMap
abbrev J3:=@PySem.Heap.get?_update_self
abbrev J4:=@Nat.zero_le
abbrev J5:=@List.find?_cons
abbrev J6:=@List.dropLast_concat
abbrev J7:=@PySem.wpAny_truthy_bool
abbrev J8:=@Nat.lt_irrefl
abbrev J9:=@List.getElem?_replicate
abbrev Ka:=@Nat.add_sub_cancel_left
abbrev Kb:=@beq_eq_false_iff_ne
abbrev Kc:=@List.map_congr_left
abbrev Kd:=@PySem.wpAny_isSubtype_exc
abbrev Ke:=@PySem.wpAny_seqItems
abbrev Kf:=@List.take_length
abbrev Kg:=@List.find?_cons_of_neg
abbrev Kh:=@Nat.le_of_lt
abbrev Ki:=@PySem.wpAny_Call_Name_kw
abbrev Kj:=@PySem.wpAny_setField_rec
abbrev Kk:=@PySem.F.attrBase_ValueError
abbrev Kl:=@PySem.wpAny_passesOwn
abbrev Km:=@List.of_mem_zip
abbrev Kn:=@List.any_cons
abbrev Ko:=@PySem.F.slot_tuple_iterator_next
abbrev Kp:=@List.getElem?_inj
abbrev Kq:=@List.getElem?_of_mem
abbrev Kr:=@Bool.false_bne
abbrev Ks:=@Nat.lt_succ_self
abbrev Kt:=@List.getElem?_take_of_lt
abbrev Ku:=@PySem.wpAny_call_entry
abbrev Kv:=@PySem.W.mg_of
abbrev Kw:=@PySem.Obj.data_mapFields
abbrev Kz:=@List.find?_cons_of_pos
abbrev KA:=@PySem.Obj.isFreed_of_fields
abbrev KC:=@Decidable.em
abbrev KD:=@List.eq_nil_or_concat
abbrev KG:=@List.concat_eq_append
abbrev KH:=@beq_iff_eq
abbrev KI:=@List.getElem_mem
abbrev KJ:=@PySem.F.slot_tuple_mul
abbrev KL:=@List.cons_append
abbrev KN:=@Array.all_toList
abbrev KO:=@List.mem_of_mem_drop
abbrev KP:=@PySem.wpAny_standAt
abbrev KQ:=@if_true
abbrev KR:=@List.length_zipWith
abbrev KS:=@PySem.wpAny_execs_nil
abbrev KU:=@List.nil_append
abbrev KW:=@Nat.min_eq_left
abbrev KY:=@PySem.codeAny_mono
abbrev KZ:=@PySem.F.args_tuple_add_2
abbrev K0:=@PySem.AutoSeq1.sub_tuple_tuple
abbrev K1:=@List.getElem?_drop
abbrev K2:=@List.contains_cons
abbrev K3:=@PySem.W.mg_of
abbrev K4:=@PySem.wpAny_setField
abbrev K5:=@List.drop_zero
abbrev K6:=@PySem.F.entry_tuple_add
abbrev K7:=@Nat.lt_succ_of_lt
abbrev K8:=@List.getElem?_set
abbrev K9:=@PySem.wpAny_pyNext_list_item
abbrev La:=@PySem.F.slot_tuple_add
abbrev Lb:=@Option.map_eq_some_iff
abbrev Lc:=@PyProof.Rows.split_pos
abbrev Ld:=@PySem.F.plainAttrs_str
abbrev Le:=@PySem.Paired.length
abbrev Lg:=@PySem.wpAny_onRaise
abbrev Lh:=@Nat.le_add_right
abbrev Li:=@List.any_eq_true
abbrev Lj:=@PySem.wpAny_pyNext_list_end
abbrev Lk:=@Array.getElem?_toList
abbrev Ll:=@Nat.add_sub_add_right
abbrev Lm:=@PySem.F.slot_list_pop
abbrev Lo:=@PySem.F.type_list_pop
abbrev Lq:=@PyProof.Rows.boot_int
abbrev Lr:=@PySem.plainObj_wpAny_Assign_Attribute
abbrev Ls:=@List.eraseIdxIfInBounds_toArray
abbrev Lu:=@PySem.W.callWith_K
abbrev Lv:=@Nat.le_of_eq
abbrev Lw:=@PySem.typeIs_str
abbrev Lx:=@List.length_dropLast
abbrev Ly:=@PySem.F.slot_int_rmul
abbrev Lz:=@List.forIn_cons
abbrev LA:=@Nat.not_lt
abbrev LB:=@PySem.wpAny_updateSeq_pair
abbrev LC:=@PySem.F.slot_zip_next
abbrev LD:=@PySem.call_isinstance
abbrev LF:=@List.length_eraseIdx
abbrev LG:=@List.getLast?_concat
abbrev LH:=@List.filterMap_cons
abbrev LI:=@ne_true_of_eq_false
abbrev LJ:=@PySem.F.args_tuple_iterator_next_1
abbrev LK:=@List.nodup_nil
abbrev LL:=@Array.find?_toList
abbrev LM:=@List.filterMap_map
abbrev LN:=@List.lookup_append
abbrev LO:=@PySem.F.entry_tuple_iterator_next
abbrev LQ:=@Bool.false_eq_true
abbrev LR:=@PySem.F.args_tuple_mul_2
abbrev LS:=@PyProof.Rows.signs_ofString
abbrev LU:=@PySem.F.args_str_split_2
abbrev LV:=@List.find?_eq_none
abbrev LX:=@Int.emod_lt_of_pos
abbrev LY:=@PySem.W.methodCall_KW
abbrev LZ:=@List.all_cons
abbrev L0:=@List.map_take
abbrev L1:=@PySem.wpAny_pyIter_list
abbrev L3:=@PySem.F.entry_tuple_mul
abbrev L4:=@PySem.F.entry_str_split
abbrev L5:=@PySem.wpAny_call
abbrev L6:=@PySem.typeIs_int
abbrev L7:=@List.drop_eq_getElem_cons
abbrev L8:=@Nat.mod_lt
abbrev L9:=@List.mem_of_find?_eq_some
abbrev Ma:=@Nat.ne_of_gt
abbrev Mb:=@Option.isSome_iff_exists
abbrev Mc:=@PySem.noFill_tuple_add
abbrev Md:=@if_false
abbrev Me:=@PySem.wpAny_typeOf
abbrev Mf:=@Nat.mul_comm
abbrev Mg:=@List.map_nil
abbrev Mh:=@PySem.AutoSeq1.idx_int
abbrev Mi:=@List.any_map
abbrev Mj:=@List.mem_flatten
abbrev Ml:=@PySem.F.slot_list_append
abbrev Mm:=@PySem.F.type_list_append
abbrev Mn:=@PySem.F.slot_tuple_index
abbrev Mo:=@Bool.or_true
abbrev Mp:=@PySem.F.slot_str_split
abbrev Mq:=@List.map_zip_eq_zipWith
abbrev Mr:=@List.getElem?_cons_succ
abbrev Ms:=@List.filter_cons_of_pos
abbrev Mt:=@List.mem_filter
abbrev Mu:=@PySem.wpAny_ite_false
abbrev Mv:=@Bool.or_eq_true
abbrev Mw:=@List.length_zip
abbrev Mx:=@beq_false_of_ne
abbrev Mz:=@List.all_append
abbrev MA:=@Int.emod_nonneg
abbrev MB:=@Nat.le_succ
abbrev MC:=@List.head?_eq_getElem?
abbrev MD:=@List.drop_eq_nil_of_le
abbrev ME:=@List.length_singleton
abbrev MF:=@List.forIn_nil
abbrev MG:=@List.dropLast_eq_take
abbrev MH:=@Nat.le_of_ble_eq_true
abbrev MI:=@List.getElem?_zipWith
abbrev MJ:=@PySem.W.KIN.signs_num
abbrev MK:=@PyProof.Rows.boot_all
abbrev ML:=@PyProof.Rows.split_le
abbrev MM:=@bne_iff_ne
abbrev MN:=@List.map_drop
abbrev MO:=@List.all_map
abbrev MP:=@Int.zero_add
local macro_rules|`(tactic|ac_rfl)=>`(tactic|exact⟨rfl,rfl,rfl,by decide +kernel,rfl,by decide +kernel,by decide +kernel⟩)
local macro_rules|`(tactic|lia)=>`(tactic|decide +kernel)
local macro_rules|`(tactic|nofun)=>`(tactic|first|exact Or.inl rfl|exact Or.inr (Or.inl rfl)|exact Or.inr (Or.inr rfl)|exact .inr rfl|assumption)
theorem VZ{c:Sort _}{a:c}{b:Prop}:a=a\/b:=.inl rfl
namespace L2
open PySem PySem.Spec PyProof.Rows
noncomputable abbrev aD:=Sum Int Str
noncomputable def jm:aD->Value->Bool
 |.inl k,v=>Value.isInt k v
 |.inr x,v=>Value.isStrOf x v
noncomputable def yT(w:World):aD->Int
 |.inl k=>hashInt k
 |.inr x=>hashStr w x
def gy:∀{k:aD}{v:Value},jm k v=true->(∃i t,k=Sum.inl i/\v=Value.int i t)\/(∃x t,k=Sum.inr x/\v=Value.str x t)
 |.inl i,v,h=>by obtain⟨t,e⟩:=Value.isInt_shape (k:=i) (v:=v) h;exact .inl ⟨i,t,rfl,e⟩
 |.inr x,v,h=>by obtain⟨t,e⟩:=Value.isStrOf_shape (x:=x) (v:=v) h;exact .inr ⟨x,t,rfl,e⟩
def FV(i:Int)(t:Tok):jm (.inl i) (.int i t)=true:=by simp[jm,Value.isInt]
def DJ(x:Str)(t:Tok):jm (.inr x) (.str x t)=true:=by simp[jm,Value.isStrOf]
def yO(a b:Int):decide ((Sum.inl a:aD)=Sum.inl b)=(a==b):=by
 by_cases e:a=b
 ·subst e;simp
 ·have h:¬ (Sum.inl a:aD)=Sum.inl b:=λq=>e (Sum.inl.inj q);rw[ID h];exact (Kb.mpr e).symm
def wH(a b:Str):decide ((Sum.inr a:aD)=Sum.inr b)=decide (a=b):=by
 by_cases e:a=b
 ·subst e;simp
 ·have h:¬ (Sum.inr a:aD)=Sum.inr b:=λq=>e (Sum.inr.inj q);rw[ID h,ID e]
def Dr(a:Int)(b:Str):decide ((Sum.inl a:aD)=Sum.inr b)=false:=ID (λq=>nomatch q)
def Cw(a:Str)(b:Int):decide ((Sum.inr a:aD)=Sum.inl b)=false:=ID (λq=>nomatch q)
noncomputable def dW(prog:Program)(w:World):PySem.KeyKind prog w aD where
 is:=jm
 hash:=yT w
 inj:=λv a b g f=>by
  rcases gy g with⟨i,t,rfl,rfl⟩|⟨x,t,rfl,rfl⟩
  ·rcases gy f with⟨j,u,rfl,e⟩|⟨y,u,rfl,e⟩
   ·injection e with e1 _;rw[e1]
   ·exact nomatch e
  ·rcases gy f with⟨j,u,rfl,e⟩|⟨y,u,rfl,e⟩
   ·exact nomatch e
   ·injection e with e1 _;rw[e1]
 byValue:=λk v h=>by rcases gy h with⟨i,t,rfl,rfl⟩|⟨x,t,rfl,rfl⟩<;>rfl
 pyHash:=λc h=>by
  rcases gy c with⟨i,t,rfl,rfl⟩|⟨x,t,rfl,rfl⟩
  ·exact wpAny_pyHash_int h
  ·exact wpAny_pyHash_str h
 eqBool:=λl c h=>by
  rcases gy l with⟨i,t,rfl,rfl⟩|⟨x,t,rfl,rfl⟩
  ·rcases gy c with⟨j,u,rfl,rfl⟩|⟨y,u,rfl,rfl⟩
   ·rw[yO]at h;exact wpAny_eqBool_int h
   ·rw[Dr]at h;exact SeqAt.EqAt.int_str i t y u _ _ _ _ h
  ·rcases gy c with⟨j,u,rfl,rfl⟩|⟨y,u,rfl,rfl⟩
   ·rw[Cw]at h;exact SeqAt.EqAt.str_int x t j u _ _ _ _ h
   ·rw[wH]at h;exact wpAny_eqBool_str h
 «strs»:=λk x t v h=>by
  rcases gy h with⟨i,u,rfl,e⟩|⟨y,u,rfl,e⟩
  ·exact nomatch e
  ·injection e with e1 _;subst e1;cases v<;>rfl
def CV(prog:Program)(w:World)(i:Int)(t:Tok):(dW prog w).is (.inl i) (.int i t)=true:=FV i t
def C2(prog:Program)(w:World)(x:Str)(t:Tok):(dW prog w).is (.inr x) (.str x t)=true:=DJ x t
inductive V where
 |non|bl (b:Bool)|int (i:Int)|str (x:Str)|byt (b:Array UInt8)|flt (b:UInt64)|ref (a:Addr)|ty (n:String)
 deriving DecidableEq
noncomputable def RelV:V->Value->Prop
 |.non,u=>u=Value.none
 |.bl b,u=>u=Value.bool b
 |.int i,u=>∃t,u=Value.int i t
 |.str x,u=>∃t,u=Value.str x t
 |.byt b,u=>∃t,u=Value.bytes b t
 |.flt b,u=>∃t,u=Value.float b t
 |.ref a,u=>u=Value.ref a
 |.ty n,u=>u=Value.type n
noncomputable abbrev Vals:List V->List Value->Prop:=Paired RelV
def Vals.length{xs:List V}{us:List Value}(r:Vals xs us):xs.length=us.length:=Le r
def Vals.get:∀{xs:List V}{us:List Value}{i:Nat}{x:V},Vals xs us->xs[i]?=some x->∃u,us[i]?=some u/\RelV x u
 |_,_,_,_,.nil,e=>by simp at e
 |_,_,0,_,.cons r _,e=>by simp at e;subst e;exact⟨_,rfl,r⟩
 |_,_,i+1,x,.cons _ t,e=>by obtain⟨u,a,c⟩:=Vals.get (i:=i) (x:=x) t (by simpa using e);exact⟨u,by simpa using a,c⟩
def Vals.set{x:V}{u:Value}(r:RelV x u):∀{xs:List V}{us:List Value}(i:Nat),Vals xs us->Vals (xs.set i x) (us.set i u)
 |_,_,_,.nil=>.nil
 |_,_,0,.cons _ t=>.cons r t
 |_,_,i+1,.cons q t=>.cons q (Vals.set r i t)
def Vals.append:∀{xs ys:List V}{us ws:List Value},Vals xs us->Vals ys ws->Vals (xs++ys) (us++ws)
 |_,_,_,_,.nil,s=>s
 |_,_,_,_,.cons r t,s=>.cons r (Vals.append t s)
def Vals.take:∀{xs:List V}{us:List Value}(n:Nat),Vals xs us->Vals (xs.take n) (us.take n)
 |_,_,0,_=>.nil
 |_,_,_+1,.nil=>.nil
 |_,_,n+1,.cons r t=>.cons r (Vals.take n t)
def Vals.drop:∀{xs:List V}{us:List Value}(n:Nat),Vals xs us->Vals (xs.drop n) (us.drop n)
 |_,_,0,r=>r
 |_,_,_+1,.nil=>.nil
 |_,_,n+1,.cons _ t=>Vals.drop n t
noncomputable def RelO:Option V->Option Value->Prop
 |some v,some u=>RelV v u
 |none,none=>True
 |_,_=>False
noncomputable def KV{a:Type}:List (a×V)->List (a×Value)->Prop:=Paired λ(p:a×V)(q:a×Value)=>p.1=q.1/\RelV p.2 q.2
noncomputable def kV:aD->V
 |.inl i=>.int i
 |.inr x=>.str x
inductive HO where
  |lst (xs:List V)
  |tup (xs:List V)
  |dK (MU:List (aD×V))|dT (MU:List (List aD×V))
  |set (S:Int->Bool) (n:Nat)
  |ins (C dx:Addr) (fs:List (Str×V))
  |own (x:Addr)
  |xd (fs:List (Str×V))
  |met (f x:Addr)
  |rng (lo hi:Int)
  |frz (o:Obj) (u:HO)
  |tbl (ps:Array Value)
  |ext (φ:Heap->Prop)
noncomputable abbrev Hp:=Addr->Option HO
noncomputable def aj(H:Hp)(a:Addr)(o:HO):Hp:=λb=>if b=a then some o else H b
def bg{H:Hp}{a:Addr}{o:HO}:aj H a o a=some o:=by unfold aj;rw[Ia rfl]
def aE{H:Hp}{a b:Addr}{o:HO}(h:b≠a):aj H a o b=H b:=by unfold aj;rw[Ib h]
def Ef{H:Hp}{a b:Addr}{o u:HO}(h:H a=some o)(h':H b=some u)(d:o≠u):a≠b:=by intro e;subst e;rw[h]at h';exact d (IK h')
def cD{H:Hp}{a b:Addr}{o:HO}(h:H a=some o)(h':H b=none):a≠b:=by intro e;subst e;rw[h]at h';cases h'
noncomputable def IsTupD(h:Heap)(a:Addr)(c:Array Value):Prop:=∃o,h.get? a=some o/\(o.cls=.type "tuple"/\o.dict=none)/\∃n,o.data=.seq c n
def IsTupD.tup{h:Heap}{a:Addr}{f:Array Value}(x:IsTupD h a f):IsTup h a f:=let ⟨o,e,c,d⟩:=x;⟨o,e,c.1,d⟩
def IsTupD.lt{h:Heap}{a:Addr}{c:Array Value}(x:IsTupD h a c):a<h.objs.size:=x.tup.lt
def IsTupD.new(h:Heap)(a:Array Value):IsTupD (h.push { cls:=.type "tuple",data:=.seq a }) h.objs.size a:=⟨_,Iy _ rfl,⟨rfl,rfl⟩,_,rfl⟩
section
variable(P:Program)(w:World)
noncomputable def ObjOk(H:Hp)(h:Heap)(a:Addr):HO->Prop
 |.lst xs=>xs.length<=sizeLine/\∃(g:List Value)(n:Nat),Vals xs g/\h.get? a=some { cls:=.type "list",data:=.seq g.toArray n }
 |.tup xs=>xs.length<=sizeLine/\∃g:List Value,Vals xs g/\IsTupD h a g.toArray
 |.dK j=>j.length<=sizeLine/\(a==sysModules)=false/\∃vs,KV j vs/\h.DictOf (dW P w) a vs
 |.dT j=>j.length<=sizeLine/\(a==sysModules)=false/\∃xs:List (List aD×Addr×Value),
   Paired (λ(p:List aD×V)(q:List aD×Addr×Value)=>p.1=q.1/\H q.2.1=some (.tup (p.1.map kV))/\RelV p.2 q.2.2) j xs /\
   ∃o es A,h.get? a=some o/\o.ExactDict/\o.data=.dict es A/\es.toList=xs.map (entryOfKey (tupleKind (dW P w)))/\(xs.map (·.1)).Nodup
 |.set S n=>h.SetOf (intKind P w) a S n
 |.ins C l fs=>H l=some (.own a)/\fs.length<=1000/\l≠a/\h.get? a=some (instObj C l) /\
   ∃e,h.Ns1 l e/\(∀f,RelO (fs.lookup f) (e f))/\PySem.Within e (fs.map (·.1))
 |.own _=>∃o,h.get? a=some o
 |.xd fs=>∃e,h.Ns1 a e/\∀f,RelO (fs.lookup f) (e f)
 |.rng lo B=>∃t u v,h.get? a=some { cls:=.type "range",data:=.fields #[.int lo t,.int B u,.int 1 v] }
 |.frz o u=>h.get? a=some o/\ObjOk H h a u
 |.tbl ps=>h.get? a=some { cls:=.none,data:=.fields #[] }\/∃(c:Addr)(o:Obj)(vs:Array Value)(x y:Value)(q:Str)(t t':Tok),ps=#[x,y,.str q t]/\H c=some (.frz o (.own a)) /\
   h.get? a=some { cls:=.none,data:=.fields #[x,y,.ref c] }/\o.data=.fields vs/\vs[1]?=some (.str q t')
 |.met f x=>h.get? a=some (methodObj (.ref f) (.ref x))
 |.ext m=>m h/\(∃o,h.get? a=some o)/\∀r z:Heap,m r->(∀o,r.get? a=some o->z.get? a=some o)->m z
noncomputable def HOk(H:Hp)(h:Heap):Prop:=∀a o,H a=some o->ObjOk P w H h a o
end
section
variable{P:Program}{w:World}{H H':Hp}{h h':Heap}{a:Addr}{o:HO}
def ObjOk.lt(x:ObjOk P w H h a o):a<h.objs.size:=by
 cases o with
 |lst xs=>obtain⟨_,_,_,_,e⟩:=x;exact Iq e
 |tup xs=>obtain⟨_,_,_,p⟩:=x;exact p.lt
 |dK c=>obtain⟨_,_,_,_,o,_,_,e,_⟩:=x;exact Iq e
 |dT c=>obtain⟨_,_,_,_,o,_,_,e,_⟩:=x;exact Iq e
 |set S n=>obtain⟨o,_,_,_,e,_⟩:=x;exact Iq e
 |ins C g fs=>obtain⟨_,_,_,e,_⟩:=x;exact Iq e
 |own y=>obtain⟨_,e⟩:=x;exact Iq e
 |xd fs=>obtain⟨_,⟨_,_,_,e,_⟩,_⟩:=x;exact Iq e
 |rng lo j=>obtain⟨_,_,_,e⟩:=x;exact Iq e
 |frz l u=>obtain⟨e,_⟩:=x;exact Iq e
 |tbl ps=>rcases x with x|⟨_,_,_,_,_,_,_,_,_,_,x,_⟩<;>exact Iq x
 |met f y=>exact Iq (show h.get? a=some _ from x)
 |ext m=>obtain⟨_,⟨_,e⟩,_⟩:=x;exact Iq e
def Paired.mapP{e g:Type}{F G:e->g->Prop}:∀{l₁:List e}{c:List g},Paired F l₁ c->(∀a b,F a b->G a b)->Paired G l₁ c
 |_,_,.nil,_=>.nil
 |_,_,.cons r t,f=>.cons (f _ _ r) (Paired.mapP t f)
def ObjOk.stay(x:ObjOk P w H h a o)(k:∀b u,(b=a\/H b=some (.own a))->h.get? b=some u->h'.get? b=some u)
  (K:∀b,H b=some (.own a)->H' b=some (.own a)) (M:∀b xs,H b=some (.tup xs)->H' b=some (.tup xs)) (J:∀b o u,H b=some (.frz o u)->H' b=some (.frz o u)):ObjOk P w H' h' a o:=by
 induction o with
 |lst xs=>obtain⟨z,l,n,r,e⟩:=x;exact⟨z,l,n,r,k _ _ (.inl rfl) e⟩
 |tup xs=>obtain⟨z,l,r,g,e,c⟩:=x;exact⟨z,l,r,g,k _ _ (.inl rfl) e,c⟩
 |dK E=>obtain⟨z,y,vs,r,g,es,j,e,c⟩:=x;exact⟨z,y,vs,r,g,es,j,k _ _ (.inl rfl) e,c⟩
 |dT E=>
  obtain⟨z,y,xs,r,g,es,j,e,c⟩:=x;exact⟨z,y,xs,Paired.mapP r λp q z=>⟨z.1,M _ _ z.2.1,z.2.2⟩,g,es,j,k _ _ (.inl rfl) e,c⟩
 |set S n=>obtain⟨g,es,j,t,e,c⟩:=x;exact⟨g,es,j,t,k _ _ (.inl rfl) e,c⟩
 |ins C O fs=>
  obtain⟨d,z,ne,e,A,⟨B,es,j,m,c⟩,r⟩:=x;exact⟨K _ d,z,ne,k _ _ (.inl rfl) e,A,⟨B,es,j,k _ _ (.inr d) m,c⟩,r⟩
 |own y=>obtain⟨g,e⟩:=x;exact⟨g,k _ _ (.inl rfl) e⟩
 |xd fs=>obtain⟨A,⟨B,es,j,e,c⟩,r⟩:=x;exact⟨A,⟨B,es,j,k _ _ (.inl rfl) e,c⟩,r⟩
 |rng lo Q=>obtain⟨t,u,v,e⟩:=x;exact⟨t,u,v,k _ _ (.inl rfl) e⟩
 |frz g u N=>obtain⟨e,q⟩:=x;exact⟨k _ _ (.inl rfl) e,N q⟩
 |tbl ps=>
  rcases x with x|⟨c,o,vs,y,z,q,t,t',F,m,G,I⟩
  ·exact .inl (k a _ (.inl rfl) x)
  ·exact .inr ⟨c,o,vs,y,z,q,t,t',F,J _ _ _ m,k a _ (.inl rfl) G,I⟩
 |met f y=>
  have e:h.get? a=some (methodObj (.ref f) (.ref y)):=x;show h'.get? a=some (methodObj (.ref f) (.ref y));exact k a _ (.inl rfl) e
 |ext R=>obtain⟨p,⟨o,e⟩,st⟩:=x;exact⟨st _ _ p λo q=>k _ _ (.inl rfl) q,⟨o,k _ _ (.inl rfl) e⟩,st⟩
def HOk.lt(x:HOk P w H h)(e:H a=some o):a<h.objs.size:=(x a o e).lt
def HOk.fresh(x:HOk P w H h)(e:h.objs.size<=a):H a=none:=by
 cases q:H a with
 |none=>rfl
 |some u=>exact absurd (IT (x.lt q) e) (J8 _)
def HOk.kept(x:HOk P w H h)(k:∀b u,h.get? b=some u->h'.get? b=some u):HOk P w H h':=λa o e=>
 (x a o e).stay (λb u _ q=>k b u q) (λ_ q=>q) (λ_ _ q=>q) λ_ _ _ q=>q
def HOk.laid(x:HOk P w H h)(k:∀b u,h.get? b=some u->h'.get? b=some u)(j:h.objs.size<=a)(new:ObjOk P w (aj H a o) h' a o):HOk P w (aj H a o) h':=λb u e=>by
 have f:=x.fresh j;by_cases g:b=a
 ·subst g;rw[bg]at e;cases e;exact new
 ·rw[aE g]at e
  exact (x b u e).stay (λc v _ q=>k c v q) (λc q=>by rw[aE (cD q f)];exact q) (λc xs q=>by rw[aE (cD q f)];exact q) λc l m q=>by rw[aE (cD q f)];exact q
end
noncomputable def Rd(H:Hp)(a:Addr)(u:HO):Prop:=H a=some u\/∃o,H a=some (.frz o u)
def Rd.ok{P:Program}{w:World}{H:Hp}{h:Heap}{a:Addr}{u:HO}(r:Rd H a u)(x:HOk P w H h):ObjOk P w H h a u:=by
 rcases r with r|⟨o,r⟩
 ·exact x a u r
 ·obtain⟨_,q⟩:=x a _ r;exact q
noncomputable def j9:Option HO->Prop
 |some (.lst _)=>True
 |some (.dK _)=>True
 |some (.dT _)=>True
 |some (.set _ _)=>True
 |some (.ins _ _ _)=>True
 |some (.ext _)=>True
 |_=>False
section
variable{P:Program}{w:World}{H:Hp}{h h':Heap}{x e:Addr}{o':HO}
def HOk.write(ok:HOk P w H h)(a:j9 (H x))(p:e=x\/H e=some (.own x))(k:∀b u,b≠e->h.get? b=some u->h'.get? b=some u)(A:∃u,h'.get? e=some u)
  (new:ObjOk P w (aj H x o') h' x o'):HOk P w (aj H x o') h':=λb u q=>by
 have o:∀c y,H c=some (.own y)->c≠x:=λc y r z=>by subst z;rw[r]at a;exact a
 have B:∀c xs,H c=some (.tup xs)->c≠x:=λc xs r z=>by subst z;rw[r]at a;exact a
 have C:∀c l m,H c=some (.frz l m)->c≠x:=λc l m r z=>by subst z;rw[r]at a;exact a
 by_cases g:b=x
 ·subst g;rw[bg]at q;cases q;exact new
 ·rw[aE g]at q;by_cases f:b=e
  ·have t:H b=some (.own x):=by
    rcases p with z|z
    ·exact absurd (f.trans z) g
    ·rw[f];exact z
   rw[q]at t;cases t;obtain⟨v,E⟩:=A;exact⟨v,by rw[f];exact E⟩
  ·refine (ok b u q).stay (λc v j r=>k c v ?_ r) (λc r=>by rw[aE (o c b r)];exact r) (λc xs r=>by rw[aE (B c xs r)];exact r) λc l m r=>by rw[aE (C c l m r)];exact r
   rcases j with rfl|j
   ·exact f
   ·rintro rfl;rcases p with z|z
    ·exact o c b j z
    ·rw[j]at z;cases z;exact g rfl
end
structure Un(fs ex:List Addr)(H H':Hp)(h h':Heap):Prop where
 keep:∀b o,h.get? b=some o->H b=none->b∉fs->b∉ex->h'.get? b=some o
 slot:∀b o,h.get? b=some o->H b=none->b∈fs->b∉ex->∃sl,h'.get? b=some { o with slots:=sl }
 free:∀b o,h.get? b=some o->H b=none->b∉ex->H' b=none
 there:∀b o,h.get? b=some o->b∉ex->∃o',h'.get? b=some o'
 tups:∀b xs,H b=some (.tup xs)->H' b=some (.tup xs)
 frzs:∀b o u,H b=some (.frz o u)->H' b=some (.frz o u)
 tbls:∀b ps,H b=some (.tbl ps)->H' b=some (.tbl ps)
section
variable{fs ex:List Addr}{H H1:Hp}{h h1 h':Heap}{a x e:Addr}{o:HO}
def Un.any(u:Un fs ex H H1 h h1){b:Addr}{c:Obj}(q:h.get? b=some c)(n:H b=none)(g:b∉ex):∃sl,h1.get? b=some { c with slots:=sl }:=by
 by_cases f:b∈fs
 ·exact u.slot b c q n f g
 ·exact⟨c.slots,u.keep b c q n f g⟩
def Un.kept(k:∀b u,h.get? b=some u->h'.get? b=some u):Un fs ex H H h h':=
 ⟨λb c q _ _ _=>k b c q,λb c q _ _ _=>⟨c.slots,k b c q⟩,λ_ _ _ n _=>n,λb c q _=>⟨c,k b c q⟩,λ_ _ q=>q,λ_ _ _ q=>q,λ_ _ q=>q⟩
def Un.refl:Un fs ex H H h h:=Un.kept λ_ _ q=>q
def Un.laid(k:∀b u,h.get? b=some u->h'.get? b=some u)(f:h.objs.size<=a)(c:H a=none):Un fs ex H (aj H a o) h h' where
 keep:=λb u q _ _ _=>k b u q
 slot:=λb u q _ _ _=>⟨u.slots,k b u q⟩
 free:=λb u q n _=>by rw[aE (Ja (IT (Iq q) f))];exact n
 there:=λb u q _=>⟨u,k b u q⟩
 tups:=λb xs q=>by rw[aE (cD q c)];exact q
 frzs:=λb u xs q=>by rw[aE (cD q c)];exact q
 tbls:=λb ps q=>by rw[aE (cD q c)];exact q
def Un.write(c:j9 (H x))(p:e=x\/H e=some (.own x))(k:∀b u,b≠e->h.get? b=some u->h'.get? b=some u)(m:∃u,h'.get? e=some u):Un fs ex H (aj H x o) h h':=by
 have l:∀b,H b=none->b≠x:=λb n z=>by subst z;rw[n]at c;exact c
 have j:∀b,H b=none->b≠e:=λb n z=>by
  subst z;rcases p with r|r
  ·exact l b n r
  ·rw[n]at r;cases r
 have f:∀b u,H b=some u->¬ j9 (some u)->b≠x:=λb u q nm z=>by subst z;rw[q]at c;exact nm c
 refine⟨λb u q n _ _=>k b u (j b n) q,λb u q n _ _=>⟨u.slots,k b u (j b n) q⟩,λb u q n _=>by rw[aE (l b n)];exact n,λb u q _=>?_,
  λb xs q=>by rw[aE (f b _ q λz=>z)];exact q,λb u xs q=>by rw[aE (f b _ q λz=>z)];exact q,λb ps q=>by rw[aE (f b _ q λz=>z)];exact q⟩
 by_cases g:b=e
 ·subst g;exact m
 ·exact⟨u,k b u g q⟩
end
noncomputable def lr(h:Heap)(H:Hp):List Addr:=(List.range h.objs.size).filter λa=>(H a).isSome
noncomputable def gj(h:Heap)(H:Hp):Heap:=PySem.W.hideAll h (lr h H)
def GG(h:Heap)(H:Hp):(gj h H).objs.size=h.objs.size:=PySem.W.hideAll_size _ _
def Hz{h:Heap}{H:Hp}{b:Addr}{o:Obj}(e:h.get? b=some o)(n:H b=none):(gj h H).get? b=some o:=
 PySem.W.hideAll_get _ e λa=>by have q:(H b).isSome=true:=(Mt.mp a).2;rw[n]at q;simp at q
def Gm{h:Heap}{H:Hp}{b:Addr}{o:Obj}(e:(gj h H).get? b=some o):h.get? b=some o/\H b=none:=by
 have a:h.get? b=some o:=PySem.W.of_hideAll (lr h H) e;refine⟨a,?_⟩
 cases q:H b with
 |none=>rfl
 |some x=>
  have c:b∈lr h H:=Mt.mpr ⟨JO.mpr (Iq a),by simp[q]⟩;have z:(gj h H).get? b=none:=PySem.W.hideAll_none (lr h H) c;rw[z]at e;cases e
structure Mod(K:Frag)(mg:Str->Option Value)(base:Heap):Prop where
 kin:K.In base
 glob:base.Ns mainGlobals mg
 blt:∃mb,base.Ns builtinsNs mb/\∀x:Str,x≠"__name__"->mb x=bootBuiltins x
 nolimit:base.NoLimit
 bmod:∃bm ob,mg "__builtins__"=some (.ref bm)/\bm≠builtinsNs/\base.get? bm=some ob/\ob.cls=.type "module"/\ob.dict=some builtinsNs/\ob.data=.plain
 seer:base.NoSeer
 dig:∃mc,base.Ns cStatics mc/\mc "sys.int_max_str_digits"=none
structure Cx where
 prog:Program
 w:World
 K:Frag
 mg:Str->Option Value
 base:Heap
 A:Around
 N:List Str
 s₀:Shared
 H₀:Hp
 env:Env
 outer:List Env
 stack:List Env
 ex:List Addr
 fn:Str->Bool
 calm:Bool
 pn:List (Addr×Obj)
 xe:Value->Shared->Prop
noncomputable def b8(l:List Env):List Addr:=l.filterMap (·.frame)
noncomputable abbrev Cx.fs(X:Cx):List Addr:=b8 X.outer
noncomputable def bR(a:Scope)(x:Str):Prop:=a.names.lookup x=some .local\/a.names.lookup x=some .cell\/a.names.lookup x=some .free
noncomputable def gb(a:Scope)(x:Str):Prop:=a.names.lookup x=some .local\/a.names.lookup x=some .cell
noncomputable def zX(env:Env)(h:Heap)(m:Str->Option Value)(x:Str)(u:Value):Prop:=
 (env.kindOf x=some .local/\m x=some u)\/((env.kindOf x=some .cell\/env.kindOf x=some .free)/\∃c,env.cells.lookup x=some c/\h.IsCell c (some u))
structure Cx.Ok(X:Cx):Prop where
 mod:Mod X.K X.mg X.base
 kind:X.env.scope.kind=.function
 glob:X.env.globals=mainGlobals
 blt:X.env.builtins=builtinsNs
 above:X.s₀.heap.objs.size<=X.env.locals
 inj:∀x y c,X.env.cells.lookup x=some c->X.env.cells.lookup y=some c->x=y
 has:∀x,(X.env.kindOf x=some .cell\/X.env.kindOf x=some .free)->∃c,X.env.cells.lookup x=some c
 cab:∀x c,X.fn x=true->X.env.cells.lookup x=some c->X.s₀.heap.objs.size<=c
 hd:X.calm=true->X.A.handled=none
 frames:X.A.frames=some X.stack
 stk:X.stack=X.outer\/(X.stack=X.env::X.outer/\X.env.frame=some X.env.locals)
 exf:∀b∈X.ex,b≠X.env.locals/\∀x c,X.env.cells.lookup x=some c->c≠b
 bs:∀b o,X.base.get? b=some o->X.s₀.heap.get? b=some o/\X.H₀ b=none
 bsz:X.base.objs.size<=X.s₀.heap.objs.size
 noex:∀b o,X.base.get? b=some o->b∉X.ex
 exfs:∀b∈X.ex,b∉X.fs
 funs:X.s₀.heap.FunFrames X.base X.outer
 frf:∀b∈X.fs,X.H₀ b=none
structure Inv(X:Cx)(pins:List (Addr×Obj))(σ:List (Option V))(H:Hp)(s:Shared):Prop where
 ok:X.Ok
 os:s.os=X.s₀.os
 bare:AllBare s.gens
 base:Un X.fs X.ex X.H₀ H X.s₀.heap s.heap
 loc:∃m,s.heap.Ns X.env.locals m/\∀(i:Nat)(x:Str)(v:V),X.N[i]?=some x->σ[i]?=some (some v)->bR X.env.scope x->∃u,RelV v u/\zX X.env s.heap m x u
 cell:∀x c,X.env.cells.lookup x=some c->∃v,s.heap.IsCell c v
 free:H X.env.locals=none
 freeC:∀x c,X.env.cells.lookup x=some c->H c=none
 pin:∀p∈X.pn++pins,s.heap.get? p.1=some p.2/\H p.1=none/\p.1≠X.env.locals/\p.1∉X.fs/\∀v,p.2.data≠.cell v
 hok:HOk X.prog X.w H s.heap
 len:σ.length=X.N.length
section
variable{X:Cx}{pins:List (Addr×Obj)}{σ:List (Option V)}{H H':Hp}{s:Shared}{h':Heap}
def Cx.Ok.nofr(ok:X.Ok){b:Addr}{o:Obj}(e:X.base.get? b=some o):b∉X.fs:=λa=>by have:=(ok.funs.mem a).1;rw[e]at this;cases this
def Inv.bs(I:Inv X pins σ H s):∀b o,X.base.get? b=some o->s.heap.get? b=some o/\H b=none:=λb o e=>
 ⟨I.base.keep b o (I.ok.bs b o e).1 (I.ok.bs b o e).2 (I.ok.nofr e) (I.ok.noex b o e),I.base.free b o (I.ok.bs b o e).1 (I.ok.bs b o e).2 (I.ok.noex b o e)⟩
def Inv.bk(I:Inv X pins σ H s):∀b o,X.base.get? b=some o->s.heap.get? b=some o:=λb o e=>(I.bs b o e).1
def Inv.mod(I:Inv X pins σ H s):Mod X.K X.mg X.base:=I.ok.mod
def Inv.kIn(I:Inv X pins σ H s):X.K.In s.heap:=I.ok.mod.kin.keeps I.bk
def Inv.lt(I:Inv X pins σ H s):X.env.locals<s.heap.objs.size:=let ⟨_,hn,_⟩:=I.loc;hn.lt
def Inv.sz(I:Inv X pins σ H s):X.s₀.heap.objs.size<=s.heap.objs.size:=IF I.ok.above (Kh I.lt)
def Inv.nofs(I:Inv X pins σ H s){a:Addr}(h:s.heap.objs.size<=a):a∉X.fs:=λc=>by obtain⟨_,o,e,_⟩:=I.ok.funs.mem c;exact absurd (IT (Iq e) (IF I.sz h)) (J8 _)
def Inv.cne(I:Inv X pins σ H s):∀x c,X.env.cells.lookup x=some c->c≠X.env.locals:=λx c e z=>by obtain⟨v,o,a,hd⟩:=I.cell x c e;obtain⟨m,⟨j,es,h,f,g,_⟩,_⟩:=I.loc;rw[z,f]at a;cases a;rw[g]at hd;cases hd
def Inv.funs(I:Inv X pins σ H s):s.heap.FunFrames X.base X.outer:=by
 have all:∀(l:List Env),(∀b∈b8 l,b∈X.fs)->X.s₀.heap.FunFrames X.base l->s.heap.FunFrames X.base l:=by
  intro l
  induction l with
  |nil=>intro _ _;trivial
  |cons env r u=>
   intro g j;obtain⟨h,⟨L,o,f,m,p,hd⟩,t⟩:=j;have a:L∈X.fs:=g L (by unfold b8;rw[LH,f];exact Ie);obtain⟨sl,e⟩:=I.base.slot L o p (I.ok.frf L a) a λz=>I.ok.exfs L z a;exact⟨h,⟨L,_,f,m,e,hd⟩,u (λb c=>g b (by unfold b8;rw[LH,f];exact Ic _ c)) t⟩
 exact all X.outer (λ_ c=>c) I.ok.funs
def Inv.stack(I:Inv X pins σ H s):s.heap.FunFrames X.base X.stack:=by
 rcases I.ok.stk with e|⟨e,a⟩
 ·rw[e];exact I.funs
 ·rw[e];obtain⟨m,c,_⟩:=I.loc;refine .cons (by rw[I.ok.kind];decide) a c ?_ I.funs;exact JM (IF I.ok.bsz I.ok.above)
def Inv.stkSub(I:Inv X pins σ H s):∀b∈b8 X.stack,b∈X.env.locals::X.fs:=λb a=>by
 rcases I.ok.stk with e|⟨e,c⟩
 ·rw[e]at a;exact Ic _ a
 ·rw[e]at a;unfold b8 at a;rw[LH,c]at a;exact a
def Inv.stkFree(I:Inv X pins σ H s):∀b∈b8 X.stack,H b=none:=λb a=>by
 rcases Ik.mp (I.stkSub b a)with e|a
 ·rw[e];exact I.free
 ·obtain⟨_,o,c,_⟩:=I.ok.funs.mem a;exact I.base.free b o c (I.ok.frf b a) λz=>I.ok.exfs b z a
def Inv.step{g':Array GenState}{t':Nat}{d':Drawn}{ch:List Addr}(I:Inv X pins σ H s)
  (t:∀b∈ch,(b∈X.ex\/X.s₀.heap.objs.size<=b)/\b≠X.env.locals/\(∀x c,X.env.cells.lookup x=some c->c≠b)/\∀p∈X.pn++pins,p.1≠b)
  (keep:∀b o,b≠X.env.locals->b∉X.fs->b∉ch->s.heap.get? b=some o->H b=none->h'.get? b=some o)
  (slot:∀b o,b≠X.env.locals->b∈X.fs->b∉ch->s.heap.get? b=some o->H b=none->∃sl,h'.get? b=some { o with slots:=sl }) (free:∀b o,b∉ch->s.heap.get? b=some o->H b=none->H' b=none)
  (there:∀b o,b∉ch->s.heap.get? b=some o->∃A,h'.get? b=some A)
  (tups:∀b xs,H b=some (.tup xs)->H' b=some (.tup xs)) (frzs:∀b o u,H b=some (.frz o u)->H' b=some (.frz o u)) (tbls:∀b ps,H b=some (.tbl ps)->H' b=some (.tbl ps))
  (ns:∀m,s.heap.Ns X.env.locals m->h'.Ns X.env.locals m) (hok:HOk X.prog X.w H' h') (N:AllBare g') :
  Inv X pins σ H' { s with heap:=h',gens:=g',drawn:=d',toks:=t' }:=by
 have y:∀b o,X.s₀.heap.get? b=some o->b≠X.env.locals:=λb o e=>Ja (IT (Iq e) I.ok.above)
 have B:∀b o,X.s₀.heap.get? b=some o->b∉X.ex->b∉ch:=λb o e a h=>by
  rcases (t b h).1 with z|z
  ·exact a z
  ·exact absurd (IT (Iq e) z) (J8 _)
 have f:∀x c,X.env.cells.lookup x=some c->∀v,s.heap.IsCell c v->h'.IsCell c v:=λx c e v K=>by
  obtain⟨o,j,hd⟩:=K;have w:c∉ch:=λz=>(t c z).2.2.1 x c e rfl;by_cases F:c∈X.fs
  ·obtain⟨sl,q⟩:=slot c o (I.cne x c e) F w j (I.freeC x c e);exact⟨_,q,hd⟩
  ·exact⟨o,keep c o (I.cne x c e) F w j (I.freeC x c e),hd⟩
 refine⟨I.ok,I.os,N,⟨λb o e n h a=>?_,λb o e n h a=>?_,λb o e n a=>?_,λb o e a=>?_,λb xs e=>tups b xs (I.base.tups b xs e),λb o xs e=>frzs b o xs (I.base.frzs b o xs e),λb ps e=>tbls b ps (I.base.tbls b ps e)⟩,?_,λx c e=>?_,?_,λx c e=>?_,λp G=>?_,hok,I.len⟩
 ·exact keep b o (y b o e) h (B b o e a) (I.base.keep b o e n h a) (I.base.free b o e n a)
 ·obtain⟨sl,g⟩:=I.base.slot b o e n h a;obtain⟨E,C⟩:=slot b _ (y b o e) h (B b o e a) g (I.base.free b o e n a);exact⟨E,C⟩
 ·obtain⟨A,g⟩:=I.base.there b o e a;exact free b A (B b o e a) g (I.base.free b o e n a)
 ·obtain⟨A,g⟩:=I.base.there b o e a;exact there b A (B b o e a) g
 ·obtain⟨m,P,O⟩:=I.loc;refine⟨m,ns m P,λi x v g C M=>?_⟩;obtain⟨u,r,l⟩:=O i x v g C M;refine⟨u,r,?_⟩;rcases l with l|⟨k,c,e,z⟩
  ·exact .inl l
  ·exact .inr ⟨k,c,e,f x c e _ z⟩
 ·obtain⟨v,z⟩:=I.cell x c e;exact⟨v,f x c e v z⟩
 ·obtain⟨m,⟨o,_,_,j,_⟩,_⟩:=I.loc;exact free _ o (λz=>(t _ z).2.1 rfl) j I.free
 ·obtain⟨v,o,j,hd⟩:=I.cell x c e;exact free c o (λz=>(t c z).2.2.1 x c e rfl) j (I.freeC x c e)
 ·obtain⟨e,n,ne,J,d⟩:=I.pin p G;have w:p.1∉ch:=λz=>(t p.1 z).2.2.2 p G rfl;exact⟨keep p.1 p.2 ne J w e n,free p.1 p.2 w e n,ne,J,d⟩
def Inv.un{t':Nat}(I:Inv X pins σ H s)(u:Un X.fs [] H H' s.heap h')(hok:HOk X.prog X.w H' h'):Inv X pins σ H' { s with heap:=h',toks:=t' }:=by
 obtain⟨m,⟨o,es,t,f,r⟩,_⟩:=id I.loc;obtain⟨sl,j⟩:=u.any f I.free (by simp)
 exact I.step (g':=s.gens) (d':=s.drawn) (ch:=[]) (λ_ z=>nomatch z) (λb o _ a _ e n=>u.keep b o e n a (by simp)) (λb o _ a _ e n=>u.slot b o e n a (by simp)) (λb o _ e n=>u.free b o e n (by simp)) (λb o _ e=>u.there b o e (by simp)) u.tups u.frzs u.tbls (λv l=>by
  obtain⟨w,g,h,c,p⟩:=l;rw[f]at c;cases c
  exact⟨_,g,h,j,p⟩) hok I.bare
def Inv.call{g':Array GenState}{t':Nat}{d':Drawn}{ch:List Addr}(I:Inv X pins σ H s)(u:Un (b8 X.stack) ch H H' s.heap h')(hok:HOk X.prog X.w H' h')(w:AllBare g')
  (h:∀b∈ch,(b∈X.ex\/X.s₀.heap.objs.size<=b)/\b≠X.env.locals/\(∀x c,X.env.cells.lookup x=some c->c≠b)/\∀p∈X.pn++pins,p.1≠b) :
  Inv X pins σ H' { s with heap:=h',gens:=g',drawn:=d',toks:=t' }:=by
 obtain⟨m,⟨o,es,B,j,r⟩,_⟩:=id I.loc;obtain⟨sl,f⟩:=u.any j I.free λz=>(h _ z).2.1 rfl
 exact I.step (ch:=ch) h (λb o f v a e n=>u.keep b o e n (λz=>(Ik.mp (I.stkSub b z)).elim f v) a) (λb o _ _ a e n=>u.any e n a) (λb o a e n=>u.free b o e n a) (λb o a e=>u.there b o e a) u.tups u.frzs u.tbls (λC y=>by
  obtain⟨E,l,t,g,A⟩:=y;rw[j]at g;cases g
  exact⟨_,l,t,f,A⟩) hok w
def Inv.turned{t':Nat}{a:Addr}(I:Inv X pins σ H s)(k:∀b o,b≠a->s.heap.get? b=some o->h'.get? b=some o)(B:H a=none)(h:a≠X.env.locals)
  (l:a∈X.ex\/X.s₀.heap.objs.size<=a) (t:∀x c,X.env.cells.lookup x=some c->c≠a) (w:∀p∈X.pn++pins,p.1≠a):Inv X pins σ H { s with heap:=h',toks:=t' }:=by
 have g:∀b u,H b=some u->b≠a:=λb u e z=>by rw[z,B]at e;cases e
 refine I.step (g':=s.gens) (d':=s.drawn) (ch:=[a]) (λb y=>?_) (λb o _ _ f e _=>k b o (λz=>f (by simp[z])) e) (λb o _ _ f e _=>⟨o.slots,k b o (λz=>f (by simp[z])) e⟩) (λ_ _ _ _ n=>n)
  (λb o f e=>⟨o,k b o (λz=>f (by simp[z])) e⟩) (λ_ _ e=>e) (λ_ _ _ e=>e) (λb ps e=>e) (λm A=>?_) (λb u e=>?_) I.bare
 ·have e:b=a:=by simpa using y
  subst e;exact⟨l,h,t,w⟩
 ·obtain⟨o,es,j,C,r⟩:=A;exact⟨o,es,j,k _ o (Jj h) C,r⟩
 ·refine (I.hok b u e).stay (λc v f q=>k c v ?_ q) (λ_ q=>q) (λ_ _ q=>q) λ_ _ _ q=>q;rcases f with z|z
  ·rw[z];exact g b u e
  ·exact g c _ z
def Inv.tok(I:Inv X pins σ H s)(t:Nat):Inv X pins σ H { s with toks:=t }:=I.un (h':=s.heap) (t':=t) Un.refl I.hok
def Inv.kept{t':Nat}(I:Inv X pins σ H s)(k:∀b u,s.heap.get? b=some u->h'.get? b=some u):Inv X pins σ H { s with heap:=h',toks:=t' }:=I.un (Un.kept k) (I.hok.kept k)
def Inv.laid{a:Addr}{o:HO}{t':Nat}(I:Inv X pins σ H s)(k:∀b u,s.heap.get? b=some u->h'.get? b=some u)(c:s.heap.objs.size<=a)(new:ObjOk X.prog X.w (aj H a o) h' a o) :
  Inv X pins σ (aj H a o) { s with heap:=h',toks:=t' }:=I.un (Un.laid k c (I.hok.fresh c)) (I.hok.laid k c new)
def Inv.write{x e:Addr}{o:HO}{t':Nat}(I:Inv X pins σ H s)(f:j9 (H x))(c:e=x\/H e=some (.own x))(k:∀b u,b≠e->s.heap.get? b=some u->h'.get? b=some u)(a:∃u,h'.get? e=some u)
  (new:ObjOk X.prog X.w (aj H x o) h' x o):Inv X pins σ (aj H x o) { s with heap:=h',toks:=t' }:=I.un (Un.write f c k a) (I.hok.write f c k a new)
def Inv.pins_of{a:List (Addr×Obj)}(I:Inv X pins σ H s)(h:∀p∈a,s.heap.get? p.1=some p.2/\H p.1=none/\p.1≠X.env.locals/\p.1∉X.fs/\∀v,p.2.data≠.cell v):Inv X a σ H s:=
 ⟨I.ok,I.os,I.bare,I.base,I.loc,I.cell,I.free,I.freeC,λp c=>(II.mp c).elim (λz=>I.pin p (JN _ z)) (h p),I.hok,I.len⟩
def tR{N:List Str}(f:N.Nodup){i j:Nat}{x:Str}(a:N[i]?=some x)(b:N[j]?=some x):i=j:=by obtain⟨g,c⟩:=Jk.mp a;obtain⟨h,e⟩:=Jk.mp b;exact (List.getElem_inj f).mp (c.trans e.symm)
def qb{M:Model}{A:Around}{E:Value->Shared->Prop}{i:Nat}{x:Str}{v:V}{u:Value}{Q:Unit->Shared->Prop}(I:Inv X pins σ H s)(hN:X.N.Nodup)(K:X.N[i]?=some x)(w:gb X.env.scope x)(r:RelV v u)
  (h:∀s',Inv X pins (σ.set i (some v)) H s'->(∃a,Heap.SameBut a s.heap s'.heap/\(a=X.env.locals\/X.env.cells.lookup x=some a))->Q () s') (hf:X.fn x=true\/X.env.scope.names.lookup x=some .local:=by nofun):wpAny M A (storeName X.env x u) Q E s:=by
 obtain⟨m,S,hl⟩:=id I.loc
 have Ru:(X.env.scope.kind==.class ||(X.env.scope.kind==.module&&X.env.locals != X.env.globals))=false:=by rw[I.ok.kind];rfl
 have C:i<σ.length:=by rw[I.len];exact (Jk.mp K).1
 have cne:=I.cne
 have l:∀{a:Addr}{h':Heap},(∃o,s.heap.get? a=some o/\H a=none)->Heap.SameBut a s.heap h'->HOk X.prog X.w H h':=λ{a h'} ha f b ob e=>by
  obtain⟨_,_,Rm⟩:=ha;refine (I.hok b ob e).stay (λc O t q=>(f.2 c ?_).trans q) (λ_ q=>q) (λ_ _ q=>q) λ_ _ _ q=>q;rintro rfl;rcases t with rfl|t
  ·rw[Rm]at e;cases e
  ·rw[Rm]at t;cases t
 rcases w with F|F
 ·refine wpAny_storeName_local F S (λh' Tf f=>?_) Ru;obtain⟨oL,_,_,T,_⟩:=id S;refine h _ ⟨I.ok,I.os,I.bare,⟨λb o e n G w=>?_,λb o e n G w=>?_,I.base.free,λb o e w=>?_,I.base.tups,I.base.frzs,I.base.tbls⟩,⟨_,Tf,λj y v' g B R=>?_⟩,λy c e=>?_,I.free,I.freeC,λp U=>?_,l ⟨oL,T,I.free⟩ f,by simpa using I.len⟩ ⟨_,f,.inl rfl⟩
  ·exact (f.2 b (Ja (IT (Iq e) I.ok.above))).trans (I.base.keep b o e n G w)
  ·obtain⟨sl,g⟩:=I.base.slot b o e n G w;exact⟨sl,(f.2 b (Ja (IT (Iq e) I.ok.above))).trans g⟩
  ·obtain⟨Z,g⟩:=I.base.there b o e w;exact⟨Z,(f.2 b (Ja (IT (Iq e) I.ok.above))).trans g⟩
  ·by_cases J:j=i
   ·subst J;rw[K]at g;cases g;rw[IP C]at B;cases B;exact⟨u,r,.inl ⟨F,by simp⟩⟩
   ·rw[IL (Jj J)]at B;obtain⟨u',r',q⟩:=hl j y v' g B R;refine⟨u',r',?_⟩;rcases q with⟨k,e⟩|⟨k,c,e,z⟩
    ·refine .inl ⟨k,?_⟩;have:y≠x:=λe=>J (tR hN g (e▸K));simp[this,e]
    ·exact .inr ⟨k,c,e,z.sameBut f (cne y c e)⟩
  ·obtain⟨O,z⟩:=I.cell y c e;exact⟨O,z.sameBut f (cne y c e)⟩
  ·obtain⟨e,n,ne,Y,d⟩:=I.pin p U;exact⟨(f.2 p.1 ne).trans e,n,ne,Y,d⟩
 ·have P:X.fn x=true:=by
   rcases hf with z|z
   ·exact z
   ·rw[z]at F;cases F
  obtain⟨c,t⟩:=I.ok.has x (.inl F);obtain⟨O,z⟩:=I.cell x c t;refine wpAny_storeName_cell I.ok.kind F t z (λh' Sa f=>?_);obtain⟨oc,RX,T6⟩:=id z;refine h { s with heap:=h' } ⟨I.ok,I.os,I.bare,⟨λb o e n G w=>?_,λb o e n G w=>?_,I.base.free,λb o e w=>?_,I.base.tups,I.base.frzs,I.base.tbls⟩,⟨m,S.sameBut f (Jj (cne x c t)),λj y v' g B R=>?_⟩,λy N e=>?_,I.free,I.freeC,λp U=>?_,l ⟨oc,RX,I.freeC x c t⟩ f,by simpa using I.len⟩ ⟨c,f,.inr t⟩
  ·exact (f.2 b (Ja (IT (Iq e) (I.ok.cab x c P t)))).trans (I.base.keep b o e n G w)
  ·obtain⟨sl,g⟩:=I.base.slot b o e n G w;exact⟨sl,(f.2 b (Ja (IT (Iq e) (I.ok.cab x c P t)))).trans g⟩
  ·obtain⟨Z,g⟩:=I.base.there b o e w;exact⟨Z,(f.2 b (Ja (IT (Iq e) (I.ok.cab x c P t)))).trans g⟩
  ·by_cases J:j=i
   ·subst J;rw[K]at g;cases g;rw[IP C]at B;cases B;exact⟨u,r,.inr ⟨.inl F,c,t,Sa⟩⟩
   ·rw[IL (Jj J)]at B;obtain⟨u',r',q⟩:=hl j y v' g B R;refine⟨u',r',?_⟩;rcases q with q|⟨k,N,e,z'⟩
    ·exact .inl q
    ·refine .inr ⟨k,N,e,z'.sameBut f ?_⟩;rintro rfl;exact J (tR hN g (I.ok.inj _ _ _ e t▸K))
  ·by_cases Rv:N=c
   ·subst Rv;exact⟨_,Sa⟩
   ·obtain⟨w2,z2⟩:=I.cell y N e;exact⟨w2,z2.sameBut f Rv⟩
  ·obtain⟨e,n,ne,Y,d⟩:=I.pin p U;refine⟨(f.2 p.1 ?_).trans e,n,ne,Y,d⟩;intro q;rw[q,RX]at e;have q':oc=p.2:=IK e;exact d O (by rw[←q'];exact T6)
def oR{M:Model}{A:Around}{E:Value->Shared->Prop}{i:Nat}{x:Str}{v:V}{u:Value}{Q:Unit->Shared->Prop}(I:Inv X pins σ H s)(c:X.N.Nodup)(f:X.N[i]?=some x)(g:gb X.env.scope x)(r:RelV v u)
  (h:∀s',Inv X pins (σ.set i (some v)) H s'->Q () s') (e:X.fn x=true\/X.env.scope.names.lookup x=some .local:=by nofun):wpAny M A (storeName X.env x u) Q E s:=
 qb I c f g r (λs' a _=>h s' a) e
def Inv.call'{s':Shared}{ch:List Addr}(I:Inv X pins σ H s)(g:s'.os=s.os)(u:Un (b8 X.stack) ch H H' s.heap s'.heap)(hok:HOk X.prog X.w H' s'.heap)(f:AllBare s'.gens)
  (a:∀b∈ch,(b∈X.ex\/X.s₀.heap.objs.size<=b)/\b≠X.env.locals/\(∀x c,X.env.cells.lookup x=some c->c≠b)/\∀p∈X.pn++pins,p.1≠b):Inv X pins σ H' s':=by
 obtain⟨h',g',d',t',h⟩:=s';have e:h=s.os:=g;subst e;exact I.call (g':=g') (t':=t') (d':=d') u hok f a
end
noncomputable abbrev XK:=Value->Option Addr->Hp->Prop
noncomputable abbrev St:=List (Option V)
noncomputable abbrev VK:=V->Hp->Prop
noncomputable abbrev TE:=St->Hp->VK->Prop
noncomputable abbrev TT:=St->Hp->(Bool->Hp->Prop)->Prop
noncomputable abbrev TA:=St->Hp->(List V->Hp->Prop)->Prop
structure Ends where
 nx:St->Hp->Prop
 rt:VK
 bk:St->Hp->Prop:=λ_ _=>False
 ct:St->Hp->Prop:=λ_ _=>False
noncomputable abbrev TS:=Ends->St->Hp->Prop
noncomputable def EP(X:Cx)(a:List (Addr×Obj))(e:St)(Q:VK)(u:Value)(s':Shared):Prop:=∃v c,Inv X a e c s'/\RelV v u/\Q v c
noncomputable def TP(X:Cx)(a:List (Addr×Obj))(e:St)(Q:Bool->Hp->Prop)(b:Bool)(s':Shared):Prop:=∃c,Inv X a e c s'/\Q b c
noncomputable def AP(X:Cx)(a:List (Addr×Obj))(e:St)(Q:List V->Hp->Prop)(us:List Value)(s':Shared):Prop:=∃vs c,Inv X a e c s'/\Vals vs us/\Q vs c
noncomputable def SP(X:Cx)(c:List (Addr×Obj))(D:Ends)(f:Flow)(s':Shared):Prop:=
 match f with
 |.next=>∃a e,Inv X c a e s'/\D.nx a e
 |.brk=>∃a e,Inv X c a e s'/\D.bk a e
 |.cont=>∃a e,Inv X c a e s'/\D.ct a e
 |.ret u=>∃v a e,Inv X c a e s'/\RelV v u/\D.rt v e
noncomputable def PE(X:Cx)(e:Expr)(t:TE):Prop:=
 ∀(a:List (Addr×Obj))(s:Shared)(c:St)(H:Hp)(Q:VK),Inv X a c H s->t c H Q->wpAny (model X.prog X.w) X.A (eval e X.env) (EP X a c Q) X.xe s
noncomputable def PT(X:Cx)(e:Expr)(t:TT):Prop:=
 ∀(a:List (Addr×Obj))(s:Shared)(c:St)(H:Hp)(Q:Bool->Hp->Prop),Inv X a c H s->t c H Q->wpAny (model X.prog X.w) X.A (isTrue e X.env (eval e X.env)) (TP X a c Q) X.xe s
noncomputable def PW(X:Cx)(e:Expr)(t:TT):Prop:=
 ∀(c:Sem Value)(a:List (Addr×Obj))(s:Shared)(f:St)(H:Hp)(Q:Bool->Hp->Prop),Inv X a f H s->t f H Q->wpAny (model X.prog X.w) X.A (isTrue e X.env c) (TP X a f Q) X.xe s
def PW.pt{X:Cx}{e:Expr}{t:TT}(h:PW X e t):PT X e t:=h _
noncomputable def PA(X:Cx)(es:List Expr)(t:TA):Prop:=
 ∀(c:Pos)(a:List (Addr×Obj))(s:Shared)(e:St)(H:Hp)(Q:List V->Hp->Prop),Inv X a e H s->t e H Q->wpAny (model X.prog X.w) X.A (spliced (backTo c (starEach es X.env))) (AP X a e Q) X.xe s
noncomputable def PS(X:Cx)(st:Stmt)(t:TS):Prop:=
 ∀(a:List (Addr×Obj))(s:Shared)(c:St)(H:Hp)(D:Ends),Inv X a c H s->t D c H->wpAny (model X.prog X.w) X.A (exec st X.env) (SP X a D) X.xe s
noncomputable def PSs(X:Cx)(st:List Stmt)(t:TS):Prop:=
 ∀(a:List (Addr×Obj))(s:Shared)(c:St)(H:Hp)(D:Ends),Inv X a c H s->t D c H->wpAny (model X.prog X.w) X.A (execs st X.env) (SP X a D) X.xe s
def aq{e:Type}{t:Sem e}{Q c:e->Shared->Prop}{M:Model}{A:Around}{E:Value->Shared->Prop}{s:Shared}(h:wpAny M A t Q E s)(f:∀a s,Q a s->c a s):wpAny M A t c E s:=JF h f λ_ _ x=>x
section
variable{X:Cx}
noncomputable def iu(i:Nat):TE:=λa H Q=>∃v,a[i]?=some (some v)/\Q v H
noncomputable def tC(v:V):TE:=λ_ H Q=>Q v H
def oQ{i:Nat}{x:Str}{j:Pos}(w:X.N[i]?=some x)(B:bR X.env.scope x)(hd:(x==("__debug__":Str))=false:=by decide)(t:(x==("__classdict__":Str))=false:=by decide):PE X (.Name x j) (iu i):=by
 intro g s C H Q I h;obtain⟨v,e,h⟩:=h;obtain⟨m,A,y⟩:=I.loc;obtain⟨u,r,l⟩:=y i x v w e B;have a:EP X g C Q u s:=⟨v,H,I,r,h⟩;rcases l with⟨f,z⟩|⟨f,c,p,o⟩
 ·exact wpAny_Name (wpAny_loadName_local I.ok.kind f A z a) hd
 ·rcases f with f|f
  ·exact wpAny_Name (wpAny_loadName_cell I.ok.kind f p o a) hd
  ·exact wpAny_Name (wpAny_loadName_free I.ok.kind f p o a t) hd
def D7{i j pos}:PE X (.Constant (.int i) j pos) (tC (.int i)):=λ_ _ _ H _ I h=>wpAny_Constant_int ⟨.int i,H,I.tok _,⟨_,rfl⟩,h⟩
def Cc{b j pos}:PE X (.Constant (.bool b) j pos) (tC (.bl b)):=λ_ _ _ H _ I h=>Constant_bool ⟨.bl b,H,I,rfl,h⟩
def AH{j pos}:PE X (.Constant .none j pos) (tC .non):=λ_ _ _ H _ I h=>Constant_none ⟨.non,H,I,rfl,h⟩
def sU{x j pos}:PE X (.Constant (.str x) j pos) (tC (.str x)):=λ_ _ _ H _ I h=>Calls.Constant_str ⟨.str x,H,I.tok _,⟨_,rfl⟩,h⟩
noncomputable def Gl(X:Cx)(x:Str):Prop:=X.env.kindOf x=some .globalImplicit
def ia{E:Value->Shared->Prop}{a:List (Addr×Obj)}{s:Shared}{g:St}{H:Hp}{x:Str}{u:Value}{c:Pos}{Q:Value->Shared->Prop}(I:Inv X a g H s)(e:Gl X x)(f:X.mg x=some u)(h:Q u s)
  (hd:(x==("__debug__":Str))=false:=by decide):wpAny (model X.prog X.w) X.A (eval (.Name x c) X.env) Q E s:=
 Calls.Name_function_global I.ok.kind e (Calls.loadGlobal_global (by rw[I.ok.glob];exact I.mod.glob.keeps I.bk) f h) hd
def iw{E:Value->Shared->Prop}{a:List (Addr×Obj)}{s:Shared}{o:St}{H:Hp}{x:Str}{u:Value}{c:Pos}{Q:Value->Shared->Prop}(I:Inv X a o H s)(g:Gl X x)(j:X.mg x=none)(m:bootBuiltins x=some u)(h:Q u s)
  (l:x≠"__name__":=by decide) (hd:(x==("__debug__":Str))=false:=by decide):wpAny (model X.prog X.w) X.A (eval (.Name x c) X.env) Q E s:=by
 obtain⟨p,e,f⟩:=I.mod.blt;exact Calls.Name_function_global I.ok.kind g (Calls.loadGlobal_builtin (by rw[I.ok.glob];exact I.mod.glob.keeps I.bk) j (by rw[I.ok.blt];exact e.keeps I.bk) ((f x l).trans m) h) hd
def uI{x:Str}{v:V}{u:Value}{a:Pos}(c:Gl X x)(e:X.mg x=some u)(r:RelV v u)(hd:(x==("__debug__":Str))=false:=by decide):PE X (.Name x a) (tC v):=
 λ_ _ _ H _ I h=>ia I c e ⟨v,H,I,r,h⟩ hd
def Fb{x:Str}{v:V}{u:Value}{a:Pos}(c:Gl X x)(e:X.mg x=none)(g:bootBuiltins x=some u)(r:RelV v u)(f:x≠"__name__":=by decide)(hd:(x==("__debug__":Str))=false:=by decide):PE X (.Name x a) (tC v):=
 λ_ _ _ H _ I h=>iw I c e g ⟨v,H,I,r,h⟩ f hd
variable{a b:Expr}{ta tb:TE}{pos:Pos}
noncomputable def PC(X:Cx)(h:CmpOp)(a b:Expr)(t:TE):Prop:=
 ∀(c:List (Addr×Obj))(s:Shared)(g:St)(H:Hp)(Q:VK),Inv X c g H s->t g H Q->
  wpAny (model X.prog X.w) X.A (eval a X.env) (λv e=>wpAny (model X.prog X.w) X.A (eval b X.env) (λu f=>wpAny (model X.prog X.w) X.A (compareOp h v u) (EP X c g Q) X.xe f) X.xe e) X.xe s
noncomputable def tB(t:TE):TT:=λf H Q=>t f H λx e=>∃c,x=.bl c/\Q c e
def zd{g:CmpOp}{t:TE}(h:PC X g a b t)(f:behindInMarks g b=false:=by first|exact nobehind _ (by decide) (by decide)|rfl):PT X (.Compare a [g] [b] pos) (tB t):=by intro e s y H Q I p;refine wpAny_isTrue_Compare1 (aq (h e s y H _ I p) λv z f=>aq f λu A o=>aq o λc B m=>?_) f;obtain⟨x,j,l,w,r⟩:=m;obtain⟨d,rfl,q⟩:=r;cases w;exact J7 ⟨j,l,q⟩
variable{tA Tg:TT}{rest:List Expr}
noncomputable def Eh(t u:TT):TT:=λf H Q=>t f H λc e=>if c=true then u f e Q else Q false e
noncomputable def BE(t u:TT):TT:=λf H Q=>t f H λc e=>if c=true then Q true e else u f e Q
noncomputable def Hd(t:TT):TT:=λf H Q=>t f H λc e=>Q (!c) e
def rp(g:PT X a tA):PW X (.BoolOp .And [a] pos) tA:=by
 intro m f s j H Q I h;refine isTrue_and (aq (g f s j H Q I h) λc l e=>?_)
 cases c with
 |true=>exact isTrue_and_nil e
 |false=>exact e
def wS(g:PT X a tA):PW X (.BoolOp .Or [a] pos) tA:=by
 intro m f s j H Q I h;refine isTrue_or (aq (g f s j H Q I h) λc l e=>?_)
 cases c with
 |false=>exact isTrue_or_nil e
 |true=>exact e
def uX(o:PT X a tA)(p:PW X (.BoolOp .And (b::rest) pos) Tg):PW X (.BoolOp .And (a::b::rest) pos) (Eh tA Tg):=by
 intro t e s l H Q I h;refine isTrue_and (aq (o e s l H _ I h) λc r m=>?_);obtain⟨f,g,j⟩:=m
 cases c with
 |true=>exact p t e r l f Q g j
 |false=>exact⟨f,g,j⟩
def CT(o:PT X a tA)(p:PW X (.BoolOp .Or (b::rest) pos) Tg):PW X (.BoolOp .Or (a::b::rest) pos) (BE tA Tg):=by
 intro t e s l H Q I h;refine isTrue_or (aq (o e s l H _ I h) λc r m=>?_);obtain⟨f,g,j⟩:=m
 cases c with
 |true=>exact⟨f,g,j⟩
 |false=>exact p t e r l f Q g j
def rP(g:PT X a tA):PT X (.UnaryOp .Not a pos) (Hd tA):=by intro e s j H Q I h;exact isTrue_not (g e s j H (λc f=>Q (!c) f) I h)
noncomputable def zJ(ta tb:TE):TE:=λf H Q=>ta f H λx e=>∃c,x=.bl c/\if c=true then tb f e Q else Q (.bl false) e
def tL{op}{t:TE}(h:PE X a t):PE X (.BoolOp op [a] pos) t:=λc s f H Q I e=>BoolOp_one (h c s f H Q I e)
def sd(o:PE X a ta)(p:PE X (.BoolOp .And (b::rest) pos) tb):PE X (.BoolOp .And (a::b::rest) pos) (zJ ta tb):=by
 intro e s l H Q I h;refine BoolOp_and (aq (o e s l H _ I h) λv t m=>?_);obtain⟨x,g,j,r,f⟩:=m;obtain⟨c,rfl,f⟩:=f;cases r;refine J7 ?_
 cases c with
 |true=>exact p e t l g Q j f
 |false=>exact⟨.bl false,g,j,rfl,f⟩
noncomputable def CZ(t:TT)(ta tb:TE):TE:=λe H Q=>t e H λc f=>if c=true then ta e f Q else tb e f Q
def Av{c:Expr}(t:PT X c tA)(p:PE X a ta)(r:PE X b tb):PE X (.IfExp c a b pos) (CZ tA ta tb):=by
 intro e s f H Q I h;refine wpAny_IfExp (aq (t e s f H _ I h) λd m o=>?_);obtain⟨g,j,l⟩:=o
 cases d with
 |true=>exact p e m f g Q j l
 |false=>exact r e m f g Q j l
end
noncomputable def SqL(K:Frag)(H:Hp)(a:Addr)(xs:List V):Prop:=
 Rd H a (.lst xs) \/
  ∃(o:Obj)(c:Array Value)(n:Nat),K.lookup a=some o/\o.cls=.type "list"/\o.dict=none/\o.data=.seq c n/\c.size<=sizeLine/\Vals xs c.toList
noncomputable def SqT(K:Frag)(H:Hp)(a:Addr)(xs:List V):Prop:=
 Rd H a (.tup xs) \/
  ∃(o:Obj)(c:Array Value)(n:Nat),K.lookup a=some o/\o.cls=.type "tuple"/\o.data=.seq c n/\c.size<=sizeLine/\Vals xs c.toList
noncomputable def C8:Value->Option V
 |.none=>some .non
 |.bool b=>some (.bl b)
 |.int i _=>some (.int i)
 |.str x _=>some (.str x)
 |.bytes b _=>some (.byt b)
 |.float b _=>some (.flt b)
 |.ref a=>some (.ref a)
 |.type n=>some (.ty n)
 |_=>none
def RelV.abs{x:V}{u:Value}(r:RelV x u):C8 u=some x:=by
 cases x with
 |non=>cases r;rfl
 |bl _=>cases r;rfl
 |int _=>obtain⟨t,rfl⟩:=r;rfl
 |str _=>obtain⟨t,rfl⟩:=r;rfl
 |byt _=>obtain⟨t,rfl⟩:=r;rfl
 |flt _=>obtain⟨t,rfl⟩:=r;rfl
 |ref _=>cases r;rfl
 |ty _=>cases r;rfl
def RelV.inj{x y:V}{u:Value}(r:RelV x u)(q:RelV y u):x=y:=IK (r.abs.symm.trans q.abs)
def Vals.inj:∀{xs ys:List V}{us:List Value},Vals xs us->Vals ys us->xs=ys
 |_,_,_,.nil,.nil=>rfl
 |_,_,_,.cons r t,.cons a t'=>by rw[r.inj a,Vals.inj t t']
section
variable{X:Cx}{pins:List (Addr×Obj)}{σ:St}{H:Hp}{s:Shared}{a:Addr}{xs ys:List V}
def SqL.of{K:Frag}(h:H a=some (.lst xs)):SqL K H a xs:=.inl (.inl h)
def SqT.of{K:Frag}(h:H a=some (.tup xs)):SqT K H a xs:=.inl (.inl h)
def Inv.list(I:Inv X pins σ H s)(h:SqL X.K H a xs):∃c:List Value,Vals xs c/\PlainL s.heap a c.toArray/\xs.length<=sizeLine:=by
 rcases h with h|⟨o,c,n,g,f,hd,j,l,r⟩
 ·obtain⟨z,c,n,r,e⟩:=h.ok I.hok;exact⟨c,r,⟨_,n,e,rfl,rfl,rfl⟩,z⟩
 ·refine⟨c.toList,r,⟨o,n,I.kIn a o g,f,hd,by simpa using j⟩,?_⟩;have e:=r.length;simp only[Jl]at e;omega
def Inv.tuple(I:Inv X pins σ H s)(h:SqT X.K H a xs):∃c:List Value,Vals xs c/\IsTup s.heap a c.toArray/\xs.length<=sizeLine:=by
 rcases h with h|⟨o,c,n,g,f,j,l,r⟩
 ·obtain⟨z,c,r,p⟩:=h.ok I.hok;exact⟨c,r,p.tup,z⟩
 ·refine⟨c.toList,r,⟨o,I.kIn a o g,f,n,by simpa using j⟩,?_⟩;have e:=r.length;simp only[Jl]at e;omega
def Inv.list_inj(I:Inv X pins σ H s)(h:SqL X.K H a xs)(h':SqL X.K H a ys):xs=ys:=by
 obtain⟨f,r,⟨o,n,e,_,_,d⟩,_⟩:=I.list h;obtain⟨Na,g,⟨l,j,c,_,_,d'⟩,_⟩:=I.list h';rw[e]at c;cases c;rw[d]at d';injection d' with d1 _
 have:f=Na:=by simpa using JD Array.toList d1
 subst this;exact r.inj g
def Inv.tuple_inj(I:Inv X pins σ H s)(h:SqT X.K H a xs)(h':SqT X.K H a ys):xs=ys:=by
 obtain⟨f,r,⟨o,e,_,n,d⟩,_⟩:=I.tuple h;obtain⟨Na,g,⟨l,c,_,j,d'⟩,_⟩:=I.tuple h';rw[e]at c;cases c;rw[d]at d';injection d' with d1 _
 have:f=Na:=by simpa using JD Array.toList d1
 subst this;exact r.inj g
end
noncomputable abbrev Cx.wish(X:Cx)(E:Value->Shared->Prop):Cx:={ X with xe:=E }
noncomputable abbrev Cx.nox(X:Cx):Cx:=X.wish λ_ _=>False
def Cx.Ok.wish{X:Cx}(ok:X.Ok)(E:Value->Shared->Prop):(X.wish E).Ok:=
 ⟨ok.mod,ok.kind,ok.glob,ok.blt,ok.above,ok.inj,ok.has,ok.cab,ok.hd,ok.frames,ok.stk,ok.exf,ok.bs,ok.bsz,ok.noex,ok.exfs,ok.funs,ok.frf⟩
def Cx.Ok.unwish{X:Cx}{E:Value->Shared->Prop}(ok:(X.wish E).Ok):X.Ok:=
 ⟨ok.mod,ok.kind,ok.glob,ok.blt,ok.above,ok.inj,ok.has,ok.cab,ok.hd,ok.frames,ok.stk,ok.exf,ok.bs,ok.bsz,ok.noex,ok.exfs,ok.funs,ok.frf⟩
section
variable{X:Cx}{pins:List (Addr×Obj)}{σ:St}{H:Hp}{s:Shared}{E:Value->Shared->Prop}
def Inv.wish(I:Inv X pins σ H s)(E:Value->Shared->Prop):Inv (X.wish E) pins σ H s:=⟨I.ok.wish E,I.os,I.bare,I.base,I.loc,I.cell,I.free,I.freeC,I.pin,I.hok,I.len⟩
def Inv.unwish(I:Inv (X.wish E) pins σ H s):Inv X pins σ H s:=⟨I.ok.unwish,I.os,I.bare,I.base,I.loc,I.cell,I.free,I.freeC,I.pin,I.hok,I.len⟩
def SP.unwish{D:Ends}{f:Flow}{s':Shared}(h:SP (X.wish E) pins D f s'):SP X pins D f s':=by
 cases f with
 |next=>obtain⟨a,c,I,q⟩:=h;exact⟨a,c,I.unwish,q⟩
 |brk=>obtain⟨a,c,I,q⟩:=h;exact⟨a,c,I.unwish,q⟩
 |cont=>obtain⟨a,c,I,q⟩:=h;exact⟨a,c,I.unwish,q⟩
 |ret u=>obtain⟨v,a,c,I,r,q⟩:=h;exact⟨v,a,c,I.unwish,r,q⟩
def PSs.nox{st:List Stmt}{t:TS}(h:PSs X.nox st t):PSs X st t:=λpins s σ H D I a=>
 JF (h pins s σ H D (I.wish _) a) (λ_ _ q=>q.unwish) λ_ _ z=>False.elim z
end
section
variable{X:Cx}{st:Stmt}{rest:List Stmt}{t u:TS}{e:Expr}{te:TE}{pos:Pos}
noncomputable def GL:TS:=λD a H=>D.nx a H
noncomputable def Bu(t u:TS):TS:=λD a H=>t { D with nx:=u D } a H
def pss_nil:PSs X [] GL:=λ_ _ a H _ I h=>KS ⟨a,H,I,h⟩
def so(l:PS X st t)(m:PSs X rest u):PSs X (st::rest) (Bu t u):=by
 intro a s p H D I h;refine wpAny_execs_cons (aq (l a s p H { D with nx:=u D } I h) λf o q=>?_)
 cases f with
 |next=>
  obtain⟨c,g,j,q⟩:=q;exact m a o c g D j q
 |ret v=>exact q
 |brk=>exact q
 |cont=>exact q
def vV(c:PS X st t):PSs X [st] t:=by
 intro a s g H D I h;refine wpAny_execs_cons (aq (c a s g H D I h) λf j q=>?_)
 cases f with
 |next=>exact KS q
 |ret v=>exact q
 |brk=>exact q
 |cont=>exact q
def Inv.quiet{a:List (Addr×Obj)}{c:St}{H:Hp}{s:Shared}(I:Inv X a c H s):interactive X.env=false:=by simp[interactive,I.ok.kind]
noncomputable def En(te:TE):TS:=λD a H=>te a H λ_ c=>D.nx a c
def nI(l:PE X e te)(m:swapsWith e none pos.line X.env=pure false:=by rfl):PS X (.Expr e pos) (En te):=by intro a s c H D I h;exact wpAny_Expr_any (aq (l a s c H _ I h) λv r j=>by obtain⟨x,f,g,p,o⟩:=j;exact⟨c,f,g,o⟩) I.quiet m
noncomputable def yW(te:TE):TS:=λD a H=>te a H D.rt
def Er(l:PE X e te):PS X (.Return (some e) pos) (yW te):=by intro a s c H D I h;exact wpAny_Return_some (aq (l a s c H _ I h) λv p j=>by obtain⟨x,f,g,o,m⟩:=j;exact⟨x,c,f,g,o,m⟩)
noncomputable def DO(c:TT)(t u:TS):TS:=λD a H=>c a H λb f=>if b=true then t D a f else u D a f
def Ea{c:Expr}{a b:List Stmt}{p:TT}(x:PT X c p)(v:PSs X a t)(w:PSs X b u):PS X (.If c a b pos) (DO p t u):=by
 intro f s g H D I h;refine wpAny_If (aq (x f s g H _ I h) λd o r=>?_);obtain⟨j,l,m⟩:=r
 cases d with
 |true=>exact v f o g j D l m
 |false=>exact w f o g j D l m
noncomputable def Ch:TS:=λ_ _ _=>False
def ps_never:PS X st Ch:=λ_ _ _ _ _ _ h=>h.elim
end
noncomputable abbrev TG:=V->St->Hp->(St->Hp->Prop)->Prop
noncomputable abbrev dq:=List V->St->Hp->(St->Hp->Prop)->Prop
noncomputable def PG(X:Cx)(a:Expr)(t:TG):Prop:=
 ∀(c:List (Addr×Obj))(s:Shared)(g:St)(H:Hp)(v:V)(u:Value)(Q:St->Hp->Prop),Inv X c g H s->RelV v u->t v g H Q->
  wpAny (model X.prog X.w) X.A (assign a X.env u) (λ_ s'=>∃e f,Inv X c e f s'/\Q e f) X.xe s
noncomputable def PGs(X:Cx)(ts:List Expr)(t:dq):Prop:=
 ∀(a:List (Addr×Obj))(s:Shared)(f:St)(H:Hp)(vs:List V)(us:List Value)(Q:St->Hp->Prop),Inv X a f H s->Vals vs us->t vs f H Q->
  wpAny (model X.prog X.w) X.A (assignInOrder ((assignEach ts X.env).map (·.2)) us) (λ_ s'=>∃c e,Inv X a c e s'/\Q c e) X.xe s
noncomputable abbrev km:=V->V->V->Hp->(Hp->Prop)->Prop
noncomputable def pz(X:Cx)(t:km):Prop:=
 ∀(a:List (Addr×Obj))(s:Shared)(g:St)(H:Hp)(o i v:V)(f e u:Value)(Q:Hp->Prop),Inv X a g H s->RelV o f->RelV i e->RelV v u->t o i v H Q->
  wpAny (model X.prog X.w) X.A (setItem f e u) (λ_ s'=>∃c,Inv X a g c s'/\Q c) X.xe s
noncomputable abbrev mm:=V->V->Hp->VK->Prop
noncomputable def qd(X:Cx)(e:Operator)(t:mm):Prop:=
 ∀(a:List (Addr×Obj))(s:Shared)(c:St)(H:Hp)(x y:V)(v u:Value)(Q:VK),Inv X a c H s->RelV x v->RelV y u->t x y H Q->
  wpAny (model X.prog X.w) X.A (inplaceOp e v u) (EP X a c Q) X.xe s
section
variable{X:Cx}{pos:Pos}
noncomputable def jT(i:Nat):TG:=λv a H Q=>Q (a.set i (some v)) H
def sq{i:Nat}{x:Str}(e:X.N.Nodup)(g:X.N[i]?=some x)(j:gb X.env.scope x)(f:X.fn x=true\/X.env.scope.names.lookup x=some .local:=by nofun):PG X (.Name x pos) (jT i):=by intro a s l H v u Q I r h;exact wpAny_assign_Name (oR I e g j r (λs' c=>⟨_,H,c,h⟩) f)
noncomputable def GS:dq:=λvs a H Q=>vs=[]/\Q a H
noncomputable def BS(t:TG)(u:dq):dq:=λvs e H Q=>∃v r,vs=v::r/\t v e H λa c=>u r a c Q
def pgs_nil:PGs X [] GS:=by intro a s c H vs us Q I r h;obtain⟨e,h⟩:=h;subst e;cases r;exact assignInOrder_nil ⟨c,H,I,h⟩
def ve{e:Expr}{es:List Expr}{t:TG}{u:dq}(m:PG X e t)(o:PGs X es u)
  (p:(assignEach (e::es) X.env).map (·.2)=assign e X.env::(assignEach es X.env).map (·.2):=by rfl):PGs X (e::es) (BS t u):=by
 intro a s z H vs us Q I r h;obtain⟨v,A,l,h⟩:=h;subst l
 cases r with
 |cons r x=>
  rw[p];refine assignInOrder_cons (aq (m a s z H _ _ _ I r h) λ_ y j=>?_);obtain⟨c,f,g,w⟩:=j;exact o a y c f _ _ Q g x w
noncomputable def oK(K:Frag)(n:Nat)(t:dq):TG:=λv c H Q=>∃a xs,v=.ref a/\SqT K H a xs/\xs.length=n/\t xs c H Q
def Co{es:List Expr}{k:Nat}{t:dq}{n:Nat}(w:X.calm=true)(h:PGs X es t)
  (y:(assignEach es X.env).length=n:=by rfl) (m:(assignEach es X.env).findIdx? (·.1)=none:=by rfl):PG X (.Tuple es k pos) (oK X.K n t):=by
 intro c s j H v u Q I r f;obtain⟨a,xs,p,z,x,f⟩:=f;subst p;cases r;obtain⟨C,g,A,E⟩:=I.tuple z;refine assign_Tuple_tuple (I.ok.hd w) A (by simp[y,←x,g.length]) m λh' B=>?_;have l:Inv X c j H { s with heap:=h' }:=I.kept (t':=s.toks) λb o e=>B b o (Ja (Iq e)) e;exact h c _ j H xs _ Q l (by simpa using g) f
noncomputable def BP(to g:TE)(t:km):TG:=λv a H Q=>to a H λo c=>g a c λi e=>t o i v e λf=>Q a f
def Fj{o i:Expr}{to g:TE}{t:km}(G:PE X o to)(F:PE X i g)(J:pz X t)
  (E:∀v,assign (.Subscript o i pos) X.env v=(do
   let c ←holding [v] (eval o X.env)
   let e ←holding [v,c] (eval i X.env)
   standAt pos
   holding [v,c,e] (setItem c e v)
   release [v,c,e] []):=by intro _;rfl):PG X (.Subscript o i pos) (BP to g t):=by
 intro a s f H v u Q I r h;rw[E];refine HZ (JT (aq (G a s f H _ I h) λc R A=>?_));obtain⟨x,j,p,O,K⟩:=A;refine HZ (JT (aq (F a R f j _ p K) λe S B=>?_));obtain⟨y,l,w,P,M⟩:=B;refine HZ (KP (HZ (JT (aq (J a S f l x y v c e u _ w O P r M) λ_ T C=>?_))));obtain⟨m,z,N⟩:=C;exact wpAny_release ⟨f,m,z,N⟩
noncomputable def kU(e:TE)(g:TG):TS:=λD a H=>e a H λx c=>g x a c D.nx
def ud{c e:Expr}{f:TE}{g:TG}(r:PE X e f)(t:PG X c g)(u:swapsWithSole [c] e pos.line X.env=pure false:=by rfl)(w:swappedStores [c] e X.env=pure none:=by rfl)
  (p:(assignEach [c] X.env).map (·.2)=[assign c X.env]:=by rfl):PS X (.Assign [c] e pos) (kU f g):=by
 intro a s j H D I h;refine wpAny_Assign_stores (aq (r a s j H _ I h) λv A o=>?_) u w;obtain⟨x,l,m,z,y⟩:=o;rw[p];exact aq (t a A j l x v _ m z y) λ_ B q=>q
def Gp{i:Nat}{x:Str}{e:Expr}{f:TE}{a:Pos}(o:X.N.Nodup)(t:X.N[i]?=some x)(w:gb X.env.scope x)(p:PE X e f)(u:swapsWith e (some (.Name x a)) pos.line X.env=pure false:=by rfl)(r:X.fn x=true\/X.env.scope.names.lookup x=some .local:=by nofun) :
  PS X (.Assign [.Name x a] e pos) (kU f (jT i)):=by
 intro c s B H D I h;refine wpAny_Assign_Name (aq (p c s B H _ I h) λv C m=>?_) u;obtain⟨y,g,j,A,z⟩:=m;exact oR j o t w A (λE l=>⟨_,g,l,z⟩) r
noncomputable def C3(to t r:TE)(l:V->V->Hp->VK->Prop)(p:mm)(m:km):TS:=λD a H=>to a H λo c=>t a c λi e=>l o i e λx f=>r a f λy g=>p x y g λz h=>m o i z h λj=>D.nx a j
noncomputable def nY(X:Cx)(t:V->V->Hp->VK->Prop):Prop:=
 ∀(a:List (Addr×Obj))(s:Shared)(f:St)(H:Hp)(o i:V)(e c:Value)(Q:VK),Inv X a f H s->RelV o e->RelV i c->t o i H Q->
  wpAny (model X.prog X.w) X.A (getItem e c) (EP X a f Q) X.xe s
def Bo{o i e:Expr}{to w u:TE}{j:V->V->Hp->VK->Prop}{m:mm}{l:km}{p:Operator}{S:Pos}(ho:PE X o to)(hi:PE X i w)(hg:nY X j)(he:PE X e u)(hp:qd X p m)(hs:pz X l)
  (Z:∀f c new,augStore i f c new=(do holding [new,f,c] (setItem f c new);release [new,f,c] [];pure .next):=by intros;rfl):PS X (.AugAssign (.Subscript o i S) p e pos) (C3 to w u j m l):=by
 intro a s g H D I h;refine wpAny_AugAssign_SubscriptAny (aq (ho a s g H _ I h) λf s1 P=>?_) Z;obtain⟨x,z,G,r,q1⟩:=P;refine aq (hi a s1 g z _ G q1) λc s2 Q=>?_;obtain⟨y,A,J,t,q2⟩:=Q;refine aq (hg a s2 g A x y f c _ J r t q2) λold s3 R=>?_;obtain⟨x3,B,K,r3,q3⟩:=R;refine aq (he a s3 g B _ K q3) λv s4 T=>?_;obtain⟨x4,C,M,r4,q4⟩:=T;refine aq (hp a s4 g C x3 x4 old v _ M r3 r4 q4) λnew s5 U=>?_;obtain⟨x5,E,N,r5,q5⟩:=U
 exact aq (hs a s5 g E x y x5 f c new _ N r t r5 q5) λ_ s6 Y=>by obtain⟨F,O,q6⟩:=Y;exact⟨g,F,O,q6⟩
noncomputable def sX(f:Int->Int->Int):mm:=λx y H Q=>∃i j,x=.int i/\y=.int j/\Q (.int (f i j)) H
def D2:qd X .Add (sX λi j=>i+j):=by intro a s l H x y v u Q I f g h;obtain⟨i,j,c,e,q⟩:=h;subst c;subst e;obtain⟨t,rfl⟩:=f;obtain⟨t',rfl⟩:=g;exact iadd_int ⟨.int _,H,I.tok _,⟨_,rfl⟩,q⟩
end
section
variable{X:Cx}{pos:Pos}
noncomputable def Dx(c:TT)(tb:TS):TS:=λD a H=>∃W:Nat->St->Hp->Prop,(∃m,W m a H)/\∀m a H,W m a H->
 c a H λb g=>if b=true then ∃N:St->Hp->Prop,(∀e f,N e f->∃h,h<m/\W h e f)/\tb { D with nx:=N,ct:=N,bk:=D.nx } a g else D.nx a g
def xS{c:Expr}{j:List Stmt}{G:TT}{tb:TS}(F:PassesOwn (model X.prog X.w) X.A X.env X.xe)(O:PT X c G)(M:PSs X j tb):PS X (.While c j [] pos) (Dx G tb):=by
 intro a s U H D I h;obtain⟨W,⟨P,S⟩,m⟩:=h;refine wpAny_While (codeAny_whileLoop (λn s'=>∃o z,Inv X a o z s'/\W n o z) ?_ P ⟨U,H,I,S⟩);rintro n Q ⟨g,A,J,T⟩;refine Kl F (aq (O a Q g A _ J (m n g A T)) λb R K=>?_);obtain⟨B,C,p⟩:=K
 cases b with
 |true=>
  obtain⟨N,E,p⟩:=p;rw[Ia rfl];refine Kl F (aq (M a R g B _ C p) λf Y r=>?_)
  cases f with
  |next=>
   obtain⟨e,l,t,x⟩:=r;obtain⟨w,u,y⟩:=E e l x;exact⟨w,u,e,l,t,y⟩
  |cont=>
   obtain⟨e,l,t,x⟩:=r;obtain⟨w,u,y⟩:=E e l x;exact⟨w,u,e,l,t,y⟩
  |brk=>exact r
  |ret v=>exact r
 |false=>
  rw[Ib IV];exact KS ⟨g,B,C,p⟩
end
structure It where
 go:Nat->Hp->Prop
 yld:Nat->Hp->V->Hp->Prop
 stop:Nat->Hp->Prop
noncomputable def dF(X:Cx)(a:List (Addr×Obj))(H:Hp)(b:Addr):Prop:=
 H b=none/\b≠X.env.locals/\b∉X.fs/\(b∈X.ex\/X.s₀.heap.objs.size<=b)/\(∀x c,X.env.cells.lookup x=some c->c≠b)/\∀p∈X.pn++a,p.1≠b
def Inv.fpOk{X:Cx}{a:List (Addr×Obj)}{l:St}{H g:Hp}{s:Shared}{b:Addr}(I:Inv X a l H s)(f:s.heap.objs.size<=b)(h:g b=none):dF X a g b:=by
 refine⟨h,Ma (IT I.lt f),I.nofs f,.inr (IF I.sz f),λx c e z=>?_,λp j z=>?_⟩
 ·obtain⟨v,q⟩:=I.cell x c e;exact absurd (IT q.lt (by rw[z];exact f)) (J8 _)
 ·exact absurd (IT (Iq (I.pin p j).1) (by rw[z];exact f)) (J8 _)
structure Turn(P:Program)(w:World)(K:Frag)(tg:Expr)(J:It)(fp:List Addr)(it:Addr)(tn:Nat->Heap->Prop):Prop where
 mem:it∈fp
 obj:∀i h,tn i h->∀b∈fp,∃o,h.get? b=some o/\∀v,o.data≠.cell v
 keep:∀i h h',tn i h->(∀b∈fp,∀o,h.get? b=some o->h'.get? b=some o)->tn i h'
 item:∀(X:Cx),X.prog=P->X.w=w->X.K=K->X.calm=true->∀(i:Nat)(pins:List (Addr×Obj))(s:Shared)(σ:St)(H:Hp)(E:Value->Shared->Prop),Inv X pins σ H s->(∀b∈fp,dF X pins H b)->tn i s.heap->J.go i H->
  wpAny (model P w) X.A (pyNext (.ref it)) (λr s1=>∃u,r=some u /\
   wpAny (model P w) X.A (letOwnedTupleGo tg (.ref it) u) (λ_ s2=>∃x H',Inv X pins σ H' s2/\RelV x u/\J.yld i H x H'/\tn (i+1) s2.heap/\∀b∈fp,H' b=none) E s1) E s
 done:∀(X:Cx),X.prog=P->X.w=w->X.K=K->X.calm=true->∀(i:Nat)(pins:List (Addr×Obj))(s:Shared)(σ:St)(H:Hp)(E:Value->Shared->Prop),Inv X pins σ H s->(∀b∈fp,dF X pins H b)->tn i s.heap->J.stop i H->
  wpAny (model P w) X.A (pyNext (.ref it)) (λr s1=>r=none/\Inv X pins σ H s1) E s
 self:∀(A:Around)(i:Nat)(s:Shared)(Q:Value->Shared->Prop)(E:Value->Shared->Prop),tn i s.heap->Q (.ref it) s->wpAny (model P w) A (pyIter (.ref it)) Q E s
noncomputable abbrev TI:=St->Hp->(It->Hp->Prop)->Prop
noncomputable def rX(X:Cx)(a:List (Addr×Obj))(m:St)(l:Expr)(R:It->Hp->Prop)(j:Value)(g:Shared):Prop:=
 ∃(f:Addr)(e:List Addr)(h:Nat->Heap->Prop)(J:It)(c:Hp),j=.ref f/\Inv X a m c g/\Turn X.prog X.w X.K l J e f h/\h 0 g.heap/\(∀b∈e,dF X a c b)/\R J c
noncomputable def PI(X:Cx)(g c:Expr)(h:TI):Prop:=
 ∀(a:List (Addr×Obj))(s:Shared)(e:St)(H:Hp)(R:It->Hp->Prop),Inv X a e H s->h e H R->
  wpAny (model X.prog X.w) X.A (eval c X.env) (λv f=>wpAny (model X.prog X.w) X.A (pyIter v) (rX X a e g R) X.xe f) X.xe s
def kH{M:Model}{A:Around}{E:Value->Shared->Prop}{s:Shared}{e:Expr}{c:Addr}{u:Value}{o:Obj}{n:String}{vs:Array Value}{Q:Unit->Shared->Prop}(j:s.heap.get? c=some o)(f:o.cls=.type n)(hd:o.data=.fields vs)
  (g:["enumerate","zip","dict_itemiterator","dict_reverseitemiterator","odict_iterator","itertools.zip_longest","itertools.pairwise"].contains n=false) (a:Q () s):wpAny M A (letOwnedTupleGo e (.ref c) u) Q E s:=by
 unfold letOwnedTupleGo
 cases e<;>first
  |exact Io a
  |(cases u<;>first
   |exact Io a
   |(refine HZ (wpAny_load j ?_)
     rw [f, hd];show wpAny M A (if (["enumerate", "zip", "dict_itemiterator", "dict_reverseitemiterator", "odict_iterator", "itertools.zip_longest", "itertools.pairwise"].contains n&&vs[0]?==some (rawInt _)) = true then _ else _) Q E s;rw [Ib (by intro h; rw [g, Bool.false_and]at h; cases h)]
     exact Io a))
noncomputable def qk(K:Frag)(a:Addr):It:=
 ⟨λi H=>∃xs x,SqL K H a xs/\xs[i]?=some x,λi H x c=>c=H/\∀xs,SqL K H a xs->xs[i]?=some x,λi H=>∃xs,SqL K H a xs/\xs.length<=i⟩
noncomputable def qD(K:Frag)(a:Addr):It:=
 ⟨λi H=>∃xs x,SqT K H a xs/\xs[i]?=some x,λi H x c=>c=H/\∀xs,SqT K H a xs->xs[i]?=some x,λi H=>∃xs,SqT K H a xs/\xs.length<=i⟩
noncomputable def nE(lo:Int)(n:Nat):It:=⟨λi _=>i<n,λi H x a=>a=H/\x=.int (lo+i),λi _=>n<=i⟩
def Gd{P:Program}{w:World}{K:Frag}{tg:Expr}(a j:Addr):Turn P w K tg (qk K a) [j] j (λi h=>h.IsListIter j a i) where
 mem:=by simp
 obj:=λi h st b g=>by
  have e:b=j:=by simpa using g
  subst e;obtain⟨o,e,c,d⟩:=st;exact⟨o,e,λv z=>by rw[d]at z;cases z⟩
 keep:=λi h h' st k=>st.at λo e=>k j (by simp) o e
 item:=by
  intro X F J C Q i f s R H E I l st G;subst F J C;obtain⟨xs,x,m,M⟩:=G;obtain⟨T,N,p,hz⟩:=I.list m;obtain⟨u,Z,ru⟩:=N.get M;obtain⟨r,t,Y,y,A,B⟩:=l j (by simp);refine K9 st p.isList (x:=u) (by simpa using Z) λh' O sb=>?_;have S:Inv X f R H { s with heap:=h' }:=I.turned (t':=s.toks) (λb o g e=>(sb.2 b g).trans e) r t y A B;obtain⟨o,e,c,d⟩:=id O;exact⟨u,rfl,kH (s:={ s with heap:=h' }) e c d (by decide) ⟨x,H,S,ru,⟨rfl,λys hy=>by rw[I.list_inj hy m];exact M⟩,O,λb g=>(l b g).1⟩⟩
 done:=by
  intro X F J C Q i f s R H E I l st G;subst F J C;obtain⟨xs,m,M⟩:=G;obtain⟨T,N,p,hz⟩:=I.list m;obtain⟨r,t,Y,y,A,B⟩:=l j (by simp);have hl:=N.length;exact Lj (I.ok.hd Q) st p.isList (by simp;omega) λh' U=>⟨rfl,I.turned (t':=s.toks) (λb o g e=>U b o g e) r t y A B⟩
 self:=λ_ _ _ _ _ st h=>wpAny_pyIter_listiter st h
def GE{P:Program}{w:World}{K:Frag}{tg:Expr}(a j:Addr):Turn P w K tg (qD K a) [j] j (λi h=>h.IsTupleIter j a i) where
 mem:=by simp
 obj:=λi h st b g=>by
  have e:b=j:=by simpa using g
  subst e;obtain⟨o,e,c,d⟩:=st;exact⟨o,e,λv z=>by rw[d]at z;cases z⟩
 keep:=λi h h' st k=>st.at λo e=>k j (by simp) o e
 item:=by
  intro X G M F R i f s S H E I l st J;subst G M F;obtain⟨xs,x,m,N⟩:=J;obtain⟨r,O,p,hz⟩:=I.tuple m;obtain⟨u,Z,ru⟩:=O.get N;obtain⟨t,y,Y,A,B,C⟩:=l j (by simp);refine wpAny_pyNext_tuple_item st (show s.heap.IsTuple a r.toArray from p) (x:=u) (by simpa using Z) λh' Q sb=>?_;have T:Inv X f S H { s with heap:=h' }:=I.turned (t':=s.toks) (λb o g e=>(sb.2 b g).trans e) t y A B C;obtain⟨o,e,c,d⟩:=id Q;exact⟨u,rfl,kH (s:={ s with heap:=h' }) e c d (by decide) ⟨x,H,T,ru,⟨rfl,λys hy=>by rw[I.tuple_inj hy m];exact N⟩,Q,λb g=>(l b g).1⟩⟩
 done:=by
  intro X G M F R i f s S H E I l st J;subst G M F;obtain⟨xs,m,N⟩:=J;obtain⟨r,O,p,hz⟩:=I.tuple m;obtain⟨t,y,Y,A,B,C⟩:=l j (by simp);have hl:=O.length;exact wpAny_pyNext_tuple_end (I.ok.hd R) st (show s.heap.IsTuple a r.toArray from p) (by simp;omega) λh' U=>⟨rfl,I.turned (t':=s.toks) (λb o g e=>U b o g e) t y A B C⟩
 self:=λ_ _ _ _ _ st h=>wpAny_pyIter_tupleiter st h
def HA{P:Program}{w:World}{K:Frag}{R:Expr}(a:Addr)(lo:Int)(n:Nat):Turn P w K R (nE lo n) [a] a (λi h=>IsRangeIter h a (lo+(i:Nat)*1) ((n:Int)-(i:Nat)) 1) where
 mem:=by simp
 obj:=λi h st b f=>by
  have e:b=a:=by simpa using f
  subst e
  exact⟨_,st,λv z=>by
   have S:Data.fields _=Data.cell v:=z
   cases S⟩
 keep:=λi h h' st k=>k a (by simp) _ st
 item:=by
  intro X x B u y i c s G H E I g st A;subst x B u;obtain⟨j,l,N,m,p,r⟩:=g a (by simp);have W:=Walks.range (prog:=X.prog) (w:=X.w) (I.ok.hd y) a lo 1 n;refine W.item i s _ _ A st λv h' F O C Q=>?_;obtain⟨t,rfl⟩:=O;have J:Inv X c G H { s with heap:=h',toks:=F }:=I.turned (λb o f e=>Q b o (by simpa using f) e) j l m p r;refine⟨_,rfl,kH (s:={ s with heap:=h',toks:=F }) (n:="range_iterator") C rfl rfl (by decide) ⟨.int (lo+i),H,J,⟨t,?_⟩,⟨rfl,rfl⟩,C,λb f=>(g b f).1⟩⟩;rw[Int.mul_one]
 done:=by intro X x B u y i c s G H E I g st A;subst x B u;obtain⟨j,l,N,m,p,r⟩:=g a (by simp);exact wpAny_pyNext_range_end (I.ok.hd y) st (by have:n<=i:=A;omega) λh' M=>⟨rfl,I.turned (t':=s.toks) (λb o f e=>M b o f e) j l m p r⟩
 self:=λ_ _ _ _ _ st h=>wpAny_pyIter_rangeiter st h
section
variable{X:Cx}{tg:Expr}
def zG{c:List (Addr×Obj)}{h:St}{H:Hp}{s:Shared}{R:It->Hp->Prop}{E:Value->Shared->Prop}{lo a:Int}{t u v:Tok}{g:Nat}(I:Inv X c h H s)(m:-(2^62)<=lo)(p:lo<2^62)(r:-(2^62)<=a)(w:a<2^62)
  (q:R (nE lo (a-lo).toNat) H):wpAny (model X.prog X.w) X.A (pyIter (.ref s.heap.objs.size)) (rX X c h tg R) E { s with heap:=s.heap.push { cls:=.type "range",data:=.fields #[.int lo t,.int a u,.int 1 v] },toks:=g }:=by
 refine wpAny_pyIter_range (IsRange.new ..) (small_one m p r w) ?_;have f:Inv X c h H { s with heap:=s.heap.push { cls:=.type "range",data:=.fields #[.int lo t,.int a u,.int 1 v] },toks:=g }:=I.kept λb o e=>Ig _ e
 refine⟨(s.heap.push { cls:=.type "range",data:=.fields #[.int lo t,.int a u,.int 1 v] }).objs.size,[(s.heap.push { cls:=.type "range",data:=.fields #[.int lo t,.int a u,.int 1 v] }).objs.size],_,_,H,rfl,
  f.kept (t':=g) λb o e=>Ig _ e,HA _ lo (a-lo).toNat,?_,λb x=>?_,q⟩
 ·have j:lo+((0:Nat):Int)*1=lo:=by simp
  have l:(((a-lo).toNat:Nat):Int)-((0:Nat):Int)=Builtin.Range.rangeSize lo a 1:=by rw[rangeSize_one];split<;>omega
  show IsRangeIter _ _ (lo+((0:Nat):Int)*1) ((((a-lo).toNat:Nat):Int)-((0:Nat):Int)) 1;rw[j,l];exact Iy _ rfl
 ·have e:b=(s.heap.push { cls:=.type "range",data:=.fields #[.int lo t,.int a u,.int 1 v] }).objs.size:=by simpa using x
  subst e;exact f.fpOk (Ih _) (f.hok.fresh (Ih _))
noncomputable def xL(c:TA):TI:=λe H R=>c e H λvs a=>∃j:Int,vs=[.int j]/\-(2^62)<=j/\j<2^62/\R (nE 0 j.toNat) a
def uz{a:Expr}{l:TA}{p f:Pos}(v:Gl X "range")(w:X.mg "range"=none)(u:PA X [a] l)(x:starEach [a] X.env=[(false,eval a X.env)]:=by rfl):PI X tg (.Call (.Name "range" p) [a] [] f) (xL l):=by
 intro c s B H R I h;refine Call_ (iw I v w boot_range (JY (aq (u f c s B H _ I h) λus E o=>?_) x rfl));obtain⟨vs,C,m,z,g⟩:=o;obtain⟨j,e,g,y,q⟩:=g;subst e
 cases z with
 |cons r A=>
  cases A;obtain⟨t,rfl⟩:=r;exact call_range_1 (zG m (by omega) (by omega) g y (by simpa using q))
noncomputable def Hf(o:TI)(g:TG)(tb:TS):TS:=λD a H=>o a H λJ j=>∃W:Nat->Nat->St->Hp->Prop,(∃m,W 0 m a j)/\∀i m a H,W i m a H->
 (J.stop i H/\D.nx a H)\/(J.go i H/\∃N:St->Hp->Prop,(∀e c,N e c->∃h,h<m/\W (i+1) h e c)/\∀x c,J.yld i H x c->g x a c λf l=>tb { D with nx:=N,ct:=N,bk:=D.nx } f l)
noncomputable def jN(a:List Addr)(h:Heap):List (Addr×Obj):=a.filterMap λb=>(h.get? b).map λo=>(b,o)
def mt{a:List Addr}{h:Heap}{b:Addr}{o:Obj}(c:b∈a)(e:h.get? b=some o):(b,o)∈jN a h:=J2.mpr ⟨b,c,by rw[e];rfl⟩
def zO{a:List Addr}{h:Heap}{p:Addr×Obj}(g:p∈jN a h):p.1∈a/\h.get? p.1=some p.2:=by
 obtain⟨b,f,e⟩:=J2.mp g
 cases q:h.get? b with
 |none=>rw[q]at e;cases e
 |some o=>
  rw[q]at e;have c:(b,o)=p:=IK e;subst c;exact⟨f,q⟩
def Inv.pinned{a:List (Addr×Obj)}{h:St}{H:Hp}{s:Shared}{c:List Addr}(I:Inv X a h H s)(r:∀b∈c,dF X a H b)(t:∀b∈c,∃o,s.heap.get? b=some o/\∀v,o.data≠.cell v):Inv X (a++jN c s.heap) h H s:=
 I.pins_of λp u=>(II.mp u).elim (λz=>I.pin p (Jb _ z)) λz=>by obtain⟨g,e⟩:=zO z;obtain⟨j,l,m,_⟩:=r p.1 g;obtain⟨o,f,d⟩:=t p.1 g;rw[e]at f;cases f;exact⟨e,j,l,m,d⟩
def Inv.unpinned{a pl:List (Addr×Obj)}{c:St}{H:Hp}{s:Shared}(I:Inv X (a++pl) c H s):Inv X a c H s:=I.pins_of λp e=>I.pin p (Jb _ (JN _ e))
def AN{t:Expr}{A:List Stmt}{wi:TI}{g:TG}{tb:TS}{S:Pos}(F:PassesOwn (model X.prog X.w) X.A X.env X.xe)(hc:X.calm=true)(hi:PI X tg t wi)(hg:PG X tg g)(p:PSs X A tb)
  (hs:∀x,foldedSetIterable t X.env x=pure x:=by intro _;rfl):PS X (.For tg t A [] S) (Hf wi g tb):=by
 intro a s σ H D I h;refine wpAny_For (aq (hi a s σ H _ I h) λv s1 h1=>aq h1 λTi s2 h2=>?_) hs;obtain⟨it,C,tn,J,H2,e,I2,T,Ro,f2,W,⟨m0,w0⟩,M⟩:=h2;subst e;have Q:∀{z:Hp},(∀b∈C,z b=none)->∀b∈C,dF X a z b:=λhn b p=>⟨hn b p,(f2 b p).2⟩;refine codeAny_forLoop_any (λn s'=>∃i w z,Inv X a w z s'/\tn i s'.heap/\(∀b∈C,z b=none)/\W i n w z) ?_ m0 ⟨0,σ,H2,I2,Ro,λb p=>(f2 b p).1,w0⟩;rintro n s3 ⟨i,y,O,I3,K,E,w3⟩;rcases M i n y O w3 with⟨stop,qn⟩|⟨go,N,hN,step⟩
 ·refine Kl F (aq (T.done X rfl rfl rfl hc i a s3 y O X.xe I3 (Q E) K stop) λr s4 MQ=>?_);obtain⟨R,I4⟩:=MQ;subst R;exact KS ⟨y,O,I4,qn⟩
 ·refine Kl F (aq (T.item X rfl rfl rfl hc i a s3 y O X.xe I3 (Q E) K go) λr s4 NR=>?_);obtain⟨u,R,h4⟩:=NR;subst R;refine Kl F (aq h4 λ_ s5 OT=>?_);obtain⟨x,Z,I5,r5,y5,aV,Tj⟩:=OT;have P:=I5.pinned (Q Tj) (T.obj _ _ aV);refine Kl F (aq (hg _ s5 y Z x u _ P r5 (step x Z y5)) λ_ s6 Sb=>?_);obtain⟨Y,H6,I6,q6⟩:=Sb;refine Kl F (aq (p _ s6 Y H6 _ I6 q6) λf U B=>?_)
  have again:∀{c:St}{j:Hp},Inv X (a++jN C s5.heap) c j U->N c j->∃m,m<n/\∃i w z,Inv X a w z U/\tn i U.heap/\(∀b∈C,z b=none)/\W i m w z:=λ{c j} l G=>by obtain⟨m',hm,w7⟩:=hN c j G;refine⟨m',hm,i+1,c,j,l.unpinned,T.keep _ _ _ aV λb p o e=>(l.pin (b,o) (Jb _ (Jb _ (mt p e)))).1,λb p=>?_,w7⟩;obtain⟨o,e,d⟩:=T.obj _ _ aV b p;exact (l.pin (b,o) (Jb _ (Jb _ (mt p e)))).2.1
  cases f with
  |next=>obtain⟨c,j,l,G⟩:=B;exact again l G
  |cont=>obtain⟨c,j,l,G⟩:=B;exact again l G
  |brk=>obtain⟨c,j,l,B⟩:=B;exact⟨c,j,l.unpinned,B⟩
  |ret v=>obtain⟨x7,c,j,l,r7,B⟩:=B;exact⟨x7,c,j,l.unpinned,r7,B⟩
end
noncomputable abbrev R2:=V->V->Hp->VK->Prop
noncomputable def bI(X:Cx)(f:Value->Value->Sem Value)(r:R2):Prop:=
 ∀(a:List (Addr×Obj))(s:Shared)(c:St)(H:Hp)(x y:V)(v u:Value)(Q:VK),Inv X a c H s->RelV x v->RelV y u->r x y H Q->
  wpAny (model X.prog X.w) X.A (f v u) (EP X a c Q) X.xe s
noncomputable def qA(X:Cx)(f:Value->Sem Value)(r:V->Hp->VK->Prop):Prop:=
 ∀(a:List (Addr×Obj))(s:Shared)(c:St)(H:Hp)(x:V)(v:Value)(Q:VK),Inv X a c H s->RelV x v->r x H Q->
  wpAny (model X.prog X.w) X.A (f v) (EP X a c Q) X.xe s
noncomputable def eU(X:Cx)(f:Value)(r:List V->Hp->VK->Prop):Prop:=
 ∀(a:List (Addr×Obj))(s:Shared)(c:St)(H:Hp)(xs:List V)(us:List Value)(Q:VK),Inv X a c H s->Vals xs us->r xs H Q->
  wpAny (model X.prog X.w) X.A (call f us) (EP X a c Q) X.xe s
noncomputable def zK(X:Cx)(r:V->Hp->(Bool->Hp->Prop)->Prop):Prop:=
 ∀(a:List (Addr×Obj))(s:Shared)(c:St)(H:Hp)(x:V)(v:Value)(Q:Bool->Hp->Prop),Inv X a c H s->RelV x v->r x H Q->
  wpAny (model X.prog X.w) X.A (truthy v) (TP X a c Q) X.xe s
noncomputable def g9(r:R2)(f tb:TE):TE:=λa H Q=>f a H λx c=>tb a c λy e=>r x y e Q
noncomputable def CF(r:V->Hp->VK->Prop)(c:TE):TE:=λe H Q=>c e H λx a=>r x a Q
noncomputable def rI(C:Int->Int->Prop)(g:Int->Int->V):R2:=λx y H Q=>∃i j,x=.int i/\y=.int j/\C i j/\Q (g i j) H
noncomputable def gA(g:Int->Int->V):R2:=λx y H Q=>∃i j,x=.int i/\y=.int j/\Q (g i j) H
noncomputable def rU(g:Int->V):V->Hp->VK->Prop:=λx H Q=>∃i,x=.int i/\Q (g i) H
section
variable{X:Cx}{a b:Expr}{ta tb:TE}{pos:Pos}
def p6(z:PE X a ta)(A:PE X b tb){c:List (Addr×Obj)}{s:Shared}{g:St}{H:Hp}{R:V->V->Hp->Prop}(I:Inv X c g H s)
  (h:ta g H λx o=>tb g o λy e=>R x y e) {Q:Value->Shared->Prop} {f:Value->Value->Sem Value}
  (B:∀v u m x y e,Inv X c g e m->RelV x v->RelV y u->R x y e->wpAny (model X.prog X.w) X.A (f v u) Q X.xe m) :
  wpAny (model X.prog X.w) X.A (eval a X.env) (λv j=>wpAny (model X.prog X.w) X.A (eval b X.env) (λu l=>wpAny (model X.prog X.w) X.A (f v u) Q X.xe l) X.xe j) X.xe s:=by
 refine aq (z c s g H _ I h) λv J t=>?_;obtain⟨x,o,p,F,C⟩:=t;refine aq (A c J g o _ p C) λu m w=>?_;obtain⟨y,e,r,G,E⟩:=w;exact B v u m x y e r F G E
def oE{e:Operator}{r:R2}(m:bI X (binaryOp e) r)(j:PE X a ta)(l:PE X b tb):PE X (.BinOp a e b pos) (g9 r ta tb):=by intro c s w H Q I h;exact wpAny_BinOp (p6 j l I h λv u t x y f g o p q=>m c t w f x y v u Q g o p q)
def Cs{e:UnaryOp}{r:V->Hp->VK->Prop}(o:qA X (unaryOp e) r)(m:PE X a ta):PE X (.UnaryOp e a pos) (CF r ta):=by intro c s f H Q I h;exact UnaryOp_ (aq (m c s f H _ I h) λv u l=>by obtain⟨x,g,j,t,p⟩:=l;exact o c u f g x v Q j t p)
def nO{f:Value->Value->Sem Value}{C:Int->Int->Prop}{g:Int->Int->Int}
  (rule:∀(i j:Int)(t u:Tok)(s:Shared)(Q:Value->Shared->Prop)(E:Value->Shared->Prop),C i j->Q (.int (g i j) s.toks) { s with toks:=s.toks+1 }->wpAny (model X.prog X.w) X.A (f (.int i t) (.int j u)) Q E s) :
  bI X f (rI C λi j=>.int (g i j)):=by
 intro c s o H x y v u Q I l m h;obtain⟨i,j,rfl,rfl,e,q⟩:=h;obtain⟨t,rfl⟩:=l;obtain⟨t',rfl⟩:=m;exact rule i j t t' s _ _ e ⟨.int (g i j),H,I.tok _,⟨_,rfl⟩,q⟩
def uv{f:Value->Value->Sem Value}{g:Int->Int->Int}
  (rule:∀(i j:Int)(t u:Tok)(s:Shared)(Q:Value->Shared->Prop)(E:Value->Shared->Prop),Q (.int (g i j) s.toks) { s with toks:=s.toks+1 }->wpAny (model X.prog X.w) X.A (f (.int i t) (.int j u)) Q E s) :
  bI X f (gA λi j=>.int (g i j)):=by
 intro c s m H x y v u Q I e l h;obtain⟨i,j,rfl,rfl,q⟩:=h;obtain⟨t,rfl⟩:=e;obtain⟨t',rfl⟩:=l;exact rule i j t t' s _ _ ⟨.int (g i j),H,I.tok _,⟨_,rfl⟩,q⟩
def pK{f:Value->Value->Sem Value}{g:Int->Int->Bool}
  (rule:∀(i j:Int)(t u:Tok)(s:Shared)(Q:Value->Shared->Prop)(E:Value->Shared->Prop),Q (.bool (g i j)) s->wpAny (model X.prog X.w) X.A (f (.int i t) (.int j u)) Q E s) :
  bI X f (gA λi j=>.bl (g i j)):=by
 intro c s m H x y v u Q I e l h;obtain⟨i,j,rfl,rfl,q⟩:=h;obtain⟨t,rfl⟩:=e;obtain⟨t',rfl⟩:=l;exact rule i j t t' s _ _ ⟨.bl (g i j),H,I,rfl,q⟩
noncomputable def wd(i j:Int):Prop:=0<=j/\j<=1000000/\i.natAbs<2^64
def Fz:bI X (binaryOp .Add) (gA λi j=>.int (i+j)):=uv λ_ _ _ _ _ _ _ q=>add_int q
def Hl:bI X (binaryOp .Sub) (gA λi j=>.int (i-j)):=uv λ_ _ _ _ _ _ _ q=>sub_int q
def FL:bI X (binaryOp .Mod) (rI (λ_ j=>0<j) λi j=>.int (i % j)):=nO λi j _ _ _ _ _ c q=>by have e:(0:Int)<j:=c;exact mod_int' (by omega) (by rw[Int.fmod_eq_emod_of_nonneg i (by omega)];exact q)
def yr:bI X (binaryOp .Pow) (rI wd λi j=>.int (i^j.toNat)):=nO λ_ _ _ _ _ _ _ c q=>pow_int_small c.1 c.2.1 c.2.2 q
def Fi{f:Value->Sem Value}{g:Int->Int}
  (rule:∀(i:Int)(t:Tok)(s:Shared)(Q:Value->Shared->Prop)(E:Value->Shared->Prop),Q (.int (g i) s.toks) { s with toks:=s.toks+1 }->wpAny (model X.prog X.w) X.A (f (.int i t)) Q E s) :
  qA X f (rU λi=>.int (g i)):=by
 intro c s j H x v Q I e h;obtain⟨i,rfl,q⟩:=h;obtain⟨t,rfl⟩:=e;exact rule i t s _ _ ⟨.int (g i),H,I.tok _,⟨_,rfl⟩,q⟩
def xC:qA X (unaryOp .USub) (rU λi=>.int (-i)):=Fi λ_ _ _ _ _ q=>neg_int q
end
section
variable{X:Cx}{a b c:Expr}{ta tb tc:TE}{pos:Pos}
def l9{f:List (Addr×Obj)}{h:St}{H:Hp}{s:Shared}{Q:VK}{k g:Bool}(I:Inv X f h H s)(q:Q (.bl k) H)(e:k=g):EP X f h Q (.bool g) s:=by subst e;exact⟨.bl k,H,I,rfl,q⟩
def yf:bI X (compareOp .Lt) (gA λi j=>.bl (decide (i<j))):=pK λ_ _ _ _ _ _ _ q=>lt_int q
def yC:bI X (compareOp .Gt) (gA λi j=>.bl (decide (j<i))):=pK λ_ _ _ _ _ _ _ q=>gt_int q
def yi:bI X (compareOp .GtE) (gA λi j=>.bl (decide (j<=i))):=pK λ_ _ _ _ _ _ _ q=>ge_int q
def EB:bI X (compareOp .Is) (λx y H Q=>y=.non/\Q (.bl (decide (x=.non))) H):=by
 intro e s j H x y v u Q I f g h;obtain⟨rfl,q⟩:=h;cases g;refine is_none_gen (l9 I q ?_)
 cases x<;>first
  |(cases f;rfl)
  |(obtain⟨t,rfl⟩:=f;rfl)
def EZ:bI X (compareOp .IsNot) (λx y H Q=>y=.non/\Q (.bl (!decide (x=.non))) H):=by
 intro e s j H x y v u Q I f g h;obtain⟨rfl,q⟩:=h;cases g;refine isnot_none_gen (l9 I q ?_)
 cases x<;>first
  |(cases f;rfl)
  |(obtain⟨t,rfl⟩:=f;rfl)
def au(b:Expr){e:CmpOp}(h:e≠.In:=by decide)(j:e≠.NotIn:=by decide):behindInMarks e b=false:=by
 have f:(e==CmpOp.In)=false:=by cases e<;>first|rfl|exact absurd rfl h
 have g:(e==CmpOp.NotIn)=false:=by cases e<;>first|rfl|exact absurd rfl j
 cases b<;>simp[behindInMarks,f,g]
def uZ{f:CmpOp}{r:R2}(p:bI X (compareOp f) r)(l:PE X a ta)(m:PE X b tb)(o:behindInMarks f b=false):PE X (.Compare a [f] [b] pos) (g9 r ta tb):=by intro e s A H Q I h;exact wpAny_Compare1 (p6 l m I h λv u z x y g j t w q=>p e z A g x y v u Q j t w q) o
noncomputable def ly(t:TE):TT:=λf H Q=>t f H λx e=>∃k,x=.bl k/\Q k e
def uu{g:CmpOp}{r:R2}(E:bI X (compareOp g) r)(A:PE X a ta)(B:PE X b tb)(C:behindInMarks g b=false):PT X (.Compare a [g] [b] pos) (ly (g9 r ta tb)):=by
 intro f s j H Q I h
 refine wpAny_isTrue_Compare1 (aq (A f s j H _ I h) λv O ⟨x,l,p,K,F⟩=>aq (B f O j l _ p F) λu P ⟨y,m,t,M,G⟩=>
  aq (E f P j m x y v u _ t K M G) λc R ⟨z,o,w,N,k,e,J⟩=>?_) C
 subst e;cases N;exact J7 ⟨o,w,J⟩
noncomputable def xE(r l:R2)(ta tb tc:TE):TE:=λe H Q=>ta e H λx g=>tb e g λy h=>r x y h λz f=>∃k,z=.bl k /\
 (if k=true then tc e f λm j=>l y m j Q else Q (.bl false) f)
def As{l j:CmpOp}{r t:R2}(U:bI X (compareOp l) r)(M:bI X (compareOp j) t)(P:PE X a ta)(R:PE X b tb)(S:PE X c tc)
  (T:lastMarks [l,j] [b,c]=false:=by with_unfolding_all rfl):PT X (.Compare a [l,j] [b,c] pos) (ly (xE r t ta tb tc)):=by
 intro f s g H Q I h
 refine isTrue_chain (aq (P f s g H _ I h) λv s1 ⟨x,A,F,r1,Z⟩=>test_link (aq (R f s1 g A _ F Z) λu s2 ⟨y,B,G,w,q2⟩=>
  aq (U f s2 g B x y v u _ G r1 w q2) λd s3 ⟨z,m,o,r3,k,e,p⟩=>?_)) T
 subst e;cases r3;refine J7 ?_
 cases k with
 |false=>
  obtain⟨k',N,Y⟩:=p;cases N;exact ite_ff ⟨m,o,Y⟩
 |true=>
  refine ite_tt (test_last (aq (S f s3 g m _ o p) λw' s4 ⟨z',C,J,r4,q4⟩=>aq (M f s4 g C y z' u w' _ J w r4 q4) λd' s5 ⟨z2,E,K,r5,k2,O,q5⟩=>?_));subst O;cases r5;exact J7 ⟨E,K,q5⟩
noncomputable def qF(K:Frag)(x:V)(H:Hp)(k:Bool):Prop:=
 match x with
 |.non=>k=false
 |.bl b=>k=b
 |.int i=>k=(i != 0)
 |.str y=>y.length<=sizeLine/\k=((y.length:Int) != 0)
 |.byt y=>y.size<=sizeLine/\k=((y.size:Int) != 0)
 |.ref p=>(∃xs,SqL K H p xs/\k=!xs.isEmpty)\/(∃xs,SqT K H p xs/\k=!xs.isEmpty)\/∃e,H p=some (.dK e)/\k=!e.isEmpty
 |_=>False
def CB{f:Type}{e:List (f×V)}{vs:List (f×Value)}(r:KV e vs):(!vs.isEmpty)=!e.isEmpty:=by cases r<;>rfl
def rW{xs:List V}{e:List Value}(r:Vals xs e):(!e.toArray.isEmpty)=!xs.isEmpty:=by cases r<;>simp
def hX:(sizeLine:Nat)<2^63:=by rw[Ju];decide
def FN:zK X (λx H Q=>∃k,qF X.K x H k/\Q k H):=by
 intro w s F H x v Q I l h;obtain⟨k,e,q⟩:=h;have C:=hX;have E:sizeLine=16777216:=Ju
 cases x with
 |non=>
  cases l;have f:k=false:=e;subst f;exact truthy_none ⟨H,I,q⟩
 |bl b=>
  cases l;have f:k=b:=e;subst f;exact J7 ⟨H,I,q⟩
 |int i=>
  obtain⟨t,rfl⟩:=l;have f:k=(i != 0):=e;subst f;exact PySem.P.truthy_int ⟨H,I,q⟩
 |str y=>
  obtain⟨t,rfl⟩:=l;obtain⟨B,f⟩:y.length<=sizeLine/\k=((y.length:Int) != 0):=e;subst f;exact PySem.P.truthy_str (by omega) ⟨H,I.tok _,q⟩
 |byt y=>
  obtain⟨t,rfl⟩:=l;obtain⟨B,f⟩:y.size<=sizeLine/\k=((y.size:Int) != 0):=e;subst f;exact PySem.W.truthy_bytes (by omega) ⟨H,I.tok _,q⟩
 |ref p=>
  cases l;have f:(∃xs,SqL X.K H p xs/\k=!xs.isEmpty)\/(∃xs,SqT X.K H p xs/\k=!xs.isEmpty)\/∃j,H p=some (.dK j)/\k=!j.isEmpty:=e;rcases f with⟨xs,o,f⟩|⟨xs,o,f⟩|⟨j,o,f⟩
  ·subst f;obtain⟨z,r,pl,u⟩:=I.list o;have g:=r.length;exact wpAny_truthy_list pl.isList (by simp only[Il];omega) ⟨H,I.tok _,by rw[rW r];exact q⟩
  ·subst f;obtain⟨z,r,pl,u⟩:=I.tuple o;have g:=r.length;exact truthy_tuple pl (by simp only[Il];omega) ⟨H,I.tok _,by rw[rW r];exact q⟩
  ·subst f;obtain⟨u,A,vs,r,m⟩:j.length<=sizeLine/\(p==sysModules)=false/\∃vs,KV j vs/\s.heap.DictOf (dW X.prog X.w) p vs:=I.hok p _ o;have g:j.length=vs.length:=Le r;exact wpAny_truthy_dict A m (by omega) ⟨H,I.tok _,by rw[CB r];exact q⟩
 |_=>exact (show False from e).elim
def rH(p:PE X a ta)(r:∀e,isTrue a X.env e=(do let v ←e;standAt a.pos;holding [v] (truthy v))) :
  PT X a (λg H Q=>ta g H λx j=>∃k,qF X.K x j k/\Q k j):=by
 intro f s g H Q I h;exact isTrue_plain (aq (p f s g H _ I h) λv w o=>by obtain⟨x,l,m,u,t⟩:=o;exact FN f w g l x v Q m u t) (r _)
def Cj:bI X (binaryOp .Add) (λx y H Q=>∃i j,x=.str i/\y=.str j/\i.length+j.length<=sizeLine/\Q (.str (i++j)) H):=by intro e s o H x y v u Q I g l h;obtain⟨i,j,rfl,rfl,f,q⟩:=h;obtain⟨t,rfl⟩:=g;obtain⟨t',rfl⟩:=l;exact add_str (λt' m=>⟨.str (i++j),H,I.tok _,⟨_,rfl⟩,q⟩) f
def gQ{x:V}{us:List Value}(r:Vals [x] us):∃u,us=[u]/\RelV x u:=by
 cases r with
 |cons e f=>cases f;exact⟨_,rfl,e⟩
def xZ{x y:V}{us:List Value}(r:Vals [x,y] us):∃u e,us=[u,e]/\RelV x u/\RelV y e:=by
 cases r with
 |cons f g=>
  cases g with
  |cons h j=>cases j;exact⟨_,_,rfl,f,h⟩
def A4(g:X.calm=true):eU X (.builtin "max") (λxs H Q=>∃i j,xs=[.int i,.int j]/\Q (.int (if j>i then j else i)) H):=by
 intro f s o H xs us Q I r h;obtain⟨i,j,rfl,q⟩:=h;obtain⟨u,m,rfl,⟨t,rfl⟩,⟨t',rfl⟩⟩:=xZ r;refine max_two_ints (I.ok.hd g) λh' l k=>⟨_,H,I.kept k,?_,q⟩;by_cases e:j>i
 ·rw[Ia e,Ia e];exact⟨_,rfl⟩
 ·rw[Ib e,Ib e];exact⟨_,rfl⟩
def vc:eU X (.type "int") (λxs H Q=>(∃i,xs=[.int i]/\Q (.int i) H)\/∃k,xs=[.bl k]/\Q (.int (if k then 1 else 0)) H):=by
 intro e s g H xs us Q I r h;rcases h with⟨i,rfl,q⟩|⟨k,rfl,q⟩
 ·obtain⟨u,rfl,t,rfl⟩:=gQ r;exact call_int_int ⟨.int i,H,I,⟨_,rfl⟩,q⟩
 ·obtain⟨u,rfl,f⟩:=gQ r;cases f;exact call_int_bool ⟨.int (if k then 1 else 0),H,I.tok _,⟨_,rfl⟩,q⟩
end
structure ObjM(h:Heap)(x dx C:Addr)(mA:Str->Option Value):Prop where
 obj:h.get? x=some (instObj C dx)
 ns:h.Ns1 dx mA
 ne:dx≠x
def BI{h:Heap}{c:Addr}{f:Str->Option Value}(n:h.Ns1 c f):∃g,h.get? c=some g/\∀name,lookIn name g=some (f name):=by
 obtain⟨o,es,v,r,hd,m,_,p⟩:=n;refine⟨o,r,λname=>?_⟩;have e:=p name;unfold nsFind findBy at e;rw[←LL]at e;unfold lookIn;rw[hd];dsimp only;split
 ·rename_i y q;rw[q]at e;exact JD some e
 ·rename_i q;rw[q]at e
  have a:es.toList.any (·.refKey)=false:=by rw[List.any_eq_false];intro y u;obtain⟨z,t,j⟩:=m y (Array.mem_toList_iff.mp u);simp[DictEntry.refKey,j]
  have l:¬ es.toList.any (·.refKey)=true:=by rw[a];exact IV
  rw[Ib l];exact JD some e
def ObjM.look{h:Heap}{x c C:Addr}{e:Str->Option Value}(I:ObjM h x c C e):∃a,InstAt h x (instObj C c) C (some a)/\∀name,lookIn name a=some (e name):=
 let ⟨a,ho,hl⟩:=BI I.ns
 ⟨a,⟨I.obj,rfl,rfl,ho⟩,hl⟩
section
variable{prog:Program}{w:World}{A:Around}{E:Value->Shared->Prop}{s:Shared}{K:Frag}{x dx C f:Addr}{mA:Str->Option Value}{name:Str}{v:Value}
def yH{a:Bool}{Q:Value->Shared->Prop}(X:K.In s.heap)(I:ObjM s.heap x dx C mA)(g:plainGet K C name=true)(j:hasDictIn K C=true)
  (e:findIn K (.ref C) name=some none) (m:mA name=some v) (c:handedIn v=true) (h:Q v { s with toks:=s.toks+1 }) :
  wpAny (model prog w) A (getAttr (.ref x) name a) Q E s:=by
 obtain⟨o,J,l⟩:=I.look;exact PySem.W.get_value X J (plainGet_of g).1 (PySem.W.findObj_own j e rfl (by rw[l,m])) c h
def yD{pl:Sem Bool}{Q:Value×List Value->Shared->Prop}(X:K.In s.heap)(I:ObjM s.heap x dx C mA)(a:plainGet K C name=true)
  (c:findIn K (.ref C) name=some (some (.ref f))) (g:isFn K (.ref f)=true) (j:mA name=none) (h:Q (.ref f,[.ref x]) s) :
  wpAny (model prog w) A (getMethod (.ref x) name pl) Q E s:=by
 obtain⟨l,J,e⟩:=I.look;exact PySem.W.method_fn X J (plainGet_of a).1 (plainGet_of a).2 c (KH.mp g) (by show (lookIn name l).map (·.isSome)=some false;rw[e,j];rfl) h
def Bg{ns:List Str}{Q:Unit->Shared->Prop}(X:K.In s.heap)(I:ObjM s.heap x dx C mA)
  (B:findIn K (.ref C) "__setattr__"=some (some (.builtin "object.__setattr__"))) (z:plainOver K C=true) (F:takerIn K C name=some none) (u:hasDictIn K C=true)
  (G:PySem.Within mA ns) (hsz:ns.length<=sizeLine)
  (h:∀h',ObjM h' x dx C (λy=>if y=name then some v else mA y)->Heap.SameBut dx s.heap h'->Q () { s with heap:=h',toks:=s.toks+2 }) :
  wpAny (model prog w) A (setAttr (.ref x) name v) Q E s:=by
 obtain⟨P,J,N⟩:=I.look;refine PySem.W.set_plain X J B (PySem.W.osa_open (s:={ s with toks:=s.toks+1 }) (r:=none) X J z F λb=>?_);obtain⟨M,t,g⟩:=PySem.W.any_some u;have H:s.heap.get? x=some ⟨.ref C,some dx,.plain,#[]⟩:=I.obj;refine HZ (Io (HZ (HZ (wpAny_loadPart H (HZ (PySem.W.Looks.here (s:={ s with toks:=s.toks+1 }) (PySem.W.looks_clsIn X t) ?_))))));rw[g];refine Io (a:=some dx) (HZ (Io (HZ ?_)));refine wpAny_nsSet1 (s:={ s with toks:=s.toks+1 }) I.ns λh' e c=>?_;obtain⟨O,p,o,j,l,m⟩:=e.count (PySem.Within.cons name v G);refine HZ (wpAny_lookBehind j (by rw[l];exact pastItsLine_dict (IF m (by rw[Ij];omega))) ?_);exact Io (h _ ⟨(c.2 _ (Jj I.ne)).trans I.obj,e,I.ne⟩ c)
def BA{R:Result->Shared->Prop}{vs:List Value}{a:List (Str×Value)}(X:K.In s.heap)(j:makesIn K C=true)
  (e:findIn K (.ref C) "__init__"=some (some (.ref f))) (c:typeIn K (.ref f)=some (.type "function"))
  (h:codeAny (model prog w) (A.under (.builtin "type.__call__" ⟨.ref C::vs,a⟩)) (.call (.ref f) ⟨.ref (s.heap.objs.size+1)::vs,a⟩) (PySem.W.InitBack (s.heap.objs.size+1) R)
   { s with heap:=(s.heap.push emptyDict).push (instObj C s.heap.objs.size) }) :
  codeAny (model prog w) A (.call (.ref C) ⟨vs,a⟩) R s:=by
 obtain⟨l,g,d,t,os⟩:=s;exact PySem.W.make_core (PySem.W.makes_of X j) (PySem.W.looks_findIn X e) (λself=>PySem.W.bind_fn X self c) (.inl rfl) h
end
noncomputable def cg(f:Str)(v:V):List (Str×V)->List (Str×V)
 | []=>[(f,v)]
 |(g,x)::r=>if g=f then (g,v)::r else (g,x)::cg f v r
def uH(f g:Str)(v:V):∀fs:List (Str×V),(cg f v fs).lookup g=if g=f then some v else fs.lookup g
 | []=>by
  show List.lookup g [(f,v)]=_;by_cases h:g=f
  ·have a:(g==f)=true:=KH.mpr h;simp only[List.lookup,a,Ia h]
  ·have a:(g==f)=false:=Kb.mpr h;simp only[List.lookup,a,Ib h]
 |(k,x)::r=>by
  have j:=uH f g v r;rw[show cg f v ((k,x)::r)=(if k=f then (k,v)::r else (k,x)::cg f v r)from rfl];by_cases c:k=f
  ·rw[Ia c];by_cases h:g=k
   ·have a:(g==k)=true:=KH.mpr h;simp only[List.lookup,a,Ia (h.trans c)]
   ·have a:(g==k)=false:=Kb.mpr h;simp only[List.lookup,a,Ib (λe:g=f=>h (e.trans c.symm))]
  ·rw[Ib c];by_cases h:g=k
   ·have a:(g==k)=true:=KH.mpr h;simp only[List.lookup,a,Ib (λe:g=f=>c (h.symm.trans e))]
   ·have a:(g==k)=false:=Kb.mpr h;simp only[List.lookup,a];exact j
def ox(f:Str)(v:V):∀fs:List (Str×V),f∈(cg f v fs).map (·.1)/\∀g,g∈fs.map (·.1)->g∈(cg f v fs).map (·.1)
 | []=>⟨by simp[cg],λg h=>by simp at h⟩
 |(k,x)::r=>by
  obtain⟨c,j⟩:=ox f v r;rw[show cg f v ((k,x)::r)=(if k=f then (k,v)::r else (k,x)::cg f v r)from rfl];by_cases a:k=f
  ·rw[Ia a];subst a;exact⟨by simp,λg h=>by simpa using h⟩
  ·rw[Ib a];refine⟨?_,λg h=>?_⟩
   ·rw[IE];exact Ic _ c
   ·rw[IE]at h ⊢;rcases Ik.mp h with e|e
    ·exact Ik.mpr (.inl e)
    ·exact Ic _ (j g e)
def sV(f:Str)(v:V):∀fs:List (Str×V),(cg f v fs).length<=fs.length+1
 | []=>by simp[cg]
 |(k,x)::r=>by
  have c:=sV f v r;rw[show cg f v ((k,x)::r)=(if k=f then (k,v)::r else (k,x)::cg f v r)from rfl];by_cases a:k=f
  ·rw[Ia a,Ij,Ij];omega
  ·rw[Ib a,Ij,Ij];omega
def RelO.some_of{v:V}{o:Option Value}(r:RelO (some v) o):∃u,o=some u/\RelV v u:=by
 cases o with
 |none=>exact (show False from r).elim
 |some u=>exact⟨u,rfl,r⟩
def RelO.none_of{o:Option Value}(r:RelO none o):o=none:=by
 cases o with
 |none=>rfl
 |some u=>exact (show False from r).elim
def wM{v:V}{u:Value}(r:RelV v u):handedIn u=true:=by
 cases v with
 |non=>cases (show u=Value.none from r);rfl
 |bl b=>cases (show u=Value.bool b from r);rfl
 |int i=>obtain⟨t,e⟩:=(show ∃t,u=Value.int i t from r);cases e;rfl
 |str x=>obtain⟨t,e⟩:=(show ∃t,u=Value.str x t from r);cases e;rfl
 |byt b=>obtain⟨t,e⟩:=(show ∃t,u=Value.bytes b t from r);cases e;rfl
 |flt b=>obtain⟨t,e⟩:=(show ∃t,u=Value.float b t from r);cases e;rfl
 |ref a=>cases (show u=Value.ref a from r);rfl
 |ty n=>cases (show u=Value.type n from r);rfl
section
variable{P:Program}{w:World}{H:Hp}{h:Heap}{a C dx:Addr}{fs:List (Str×V)}
def oh(hok:HOk P w H h)(e:H a=some (.ins C dx fs)):∃c,ObjM h a dx C c/\(∀f,RelO (fs.lookup f) (c f))/\PySem.Within c (fs.map (·.1))/\fs.length<=1000/\H dx=some (.own a):=by obtain⟨d,z,ne,g,c,n,r,q⟩:=(show ObjOk P w H h a (.ins C dx fs)from hok a _ e);exact⟨c,⟨g,n,ne⟩,r,q,z,d⟩
end
structure Cls(K:Frag)(C:Addr):Prop where
 pg:plainGet K C Str.empty=true
 hd:hasDictIn K C=true
 po:plainOver K C=true
 sa:findIn K (.ref C) "__setattr__"=some (some (.builtin "object.__setattr__"))
def Cls.get{K:Frag}{C:Addr}(c:Cls K C)(f:Str):plainGet K C f=true:=c.pg
noncomputable def NoAttr(K:Frag)(C:Addr)(f:Str):Prop:=findIn K (.ref C) f=some none
def NoAttr.taker{K:Frag}{C:Addr}{f:Str}(n:NoAttr K C f):takerIn K C f=some none:=by unfold takerIn;rw[show findIn K (.ref C) f=some none from n];rfl
structure Meth(K:Frag)(C:Addr)(m:Str)(f:Addr):Prop where
 at_:findIn K (.ref C) m=some (some (.ref f))
 fn:isFn K (.ref f)=true
 kp:keepIn K (.ref f)=true
section
variable{X:Cx}{pins:List (Addr×Obj)}{σ:St}{H:Hp}{s:Shared}{a C dx:Addr}{fs:List (Str×V)}{f:Str}{v:V}{A:Around}{E:Value->Shared->Prop}
def yP{b:Bool}{Q:Value->Shared->Prop}(I:Inv X pins σ H s)(e:H a=some (.ins C dx fs))(c:Cls X.K C)(n:NoAttr X.K C f)(l:fs.lookup f=some v)
  (h:∀u s',Inv X pins σ H s'->RelV v u->Q u s'):wpAny (model X.prog X.w) A (getAttr (.ref a) f b) Q E s:=by
 obtain⟨m,O,r,_,_,_⟩:=oh I.hok e;obtain⟨u,j,g⟩:=RelO.some_of (v:=v) (o:=m f) (by rw[←l];exact r f);exact yH I.kIn O (c.get f) c.hd n j (wM g) (h u _ (I.tok _) g)
def p8{m:Str}{g:Addr}{pl:Sem Bool}{Q:Value×List Value->Shared->Prop}(I:Inv X pins σ H s)(e:H a=some (.ins C dx fs))(c:Cls X.K C)(k:Meth X.K C m g)(l:fs.lookup m=none)
  (h:Q (.ref g,[.ref a]) s):wpAny (model X.prog X.w) A (getMethod (.ref a) m pl) Q E s:=by
 obtain⟨o,O,r,_,_,_⟩:=oh I.hok e;have j:o m=none:=RelO.none_of (by rw[←l];exact r m);exact yD I.kIn O (c.get m) k.at_ k.fn j h
def AV{y:V}{u:Value}{Q:Unit->Shared->Prop}(I:Inv X pins σ H s)(e:H a=some (.ins C dx fs))(c:Cls X.K C)(n:NoAttr X.K C f)(J:fs.length<1000)(F:RelV y u)
  (h:∀s',Inv X pins σ (aj H a (.ins C dx (cg f y fs))) s'->Q () s'):wpAny (model X.prog X.w) A (setAttr (.ref a) f u) Q E s:=by
 obtain⟨m,O,r,p,_,l⟩:=oh I.hok e
 have B:(fs.map (·.1)).length<=sizeLine:=by rw[HV,Ju];omega
 refine Bg I.kIn O c.sa c.po n.taker c.hd p B λh' j G=>h _ ?_
 have hd:∃o,h'.get? dx=some o:=let ⟨o,_,_,e',_⟩:=j.ns;⟨o,e'⟩
 refine I.write (x:=a) (e:=dx) (by rw[e];exact True.intro) (.inr l) (λb q t z=>(G.2 b t).trans z) hd ?_;refine⟨by rw[aE O.ne];exact l,?_,O.ne,j.obj,_,j.ns,λg=>?_,λg w=>?_⟩
 ·have:=sV f y fs;omega
 ·show RelO ((cg f y fs).lookup g) (if g=f then some u else m g);rw[uH];by_cases q:g=f
  ·rw[Ia q,Ia q];exact F
  ·rw[Ib q,Ib q];exact r g
 ·by_cases q:g=f
  ·rw[q];exact (ox f y fs).1
  ·refine (ox f y fs).2 g (p g λz=>w ?_);show (if g=f then some u else m g)=none;rw[Ib q];exact z
def Inv.made(I:Inv X pins σ H s):Inv X pins σ (aj (aj H s.heap.objs.size (.own (s.heap.objs.size+1))) (s.heap.objs.size+1) (.ins C s.heap.objs.size []))
  { s with heap:=(s.heap.push emptyDict).push (instObj C s.heap.objs.size) }:=by
 have c:(s.heap.push emptyDict).get? s.heap.objs.size=some emptyDict:=Iy s.heap rfl
 have h:((s.heap.push emptyDict).push (instObj C s.heap.objs.size)).get? (s.heap.objs.size+1)=some (instObj C s.heap.objs.size):=by
  have:=Iy (s.heap.push emptyDict) (o:=instObj C s.heap.objs.size) rfl
  rwa [Jy]at this
 have j:(s.heap.push emptyDict).Ns s.heap.objs.size (λ_=>none):=⟨emptyDict,#[],_,c,rfl,(λe l=>absurd l (by simp)),λ_=>rfl⟩;have g:=I.laid (a:=s.heap.objs.size) (o:=.own (s.heap.objs.size+1)) (h':=s.heap.push emptyDict) (t':=s.toks) (λb u q=>Ig _ q) (Ih _) ⟨_,c⟩;refine g.laid (a:=s.heap.objs.size+1) (o:=.ins C s.heap.objs.size []) (t':=s.toks) (λb u q=>Ig _ q) (Lv (Jy _ _)) ?_;have ne:s.heap.objs.size≠s.heap.objs.size+1:=Ja (Ks _);refine⟨by rw[aE ne,bg],J4 _,ne,h,λ_=>none,(Heap.Ns1.of_empty j).at λo q=>Ig _ q,λ_=>True.intro,λy m=>absurd rfl m⟩
def r6{prog:Program}{w:World}{env:Env}{e:Expr}{f:Str}{g:Pos}{s:Shared}{Q:Value->Shared->Prop}(j:attributeBase e f env (eval e env)=eval e env)
  (h:wpAny (model prog w) A (eval e env) (λo c=>wpAny (model prog w) A (getAttr o f true) Q E c) E s):wpAny (model prog w) A (eval (.Attribute e f g) env) Q E s:=
 Attribute_any_ h (by rw[arm_eval_Attribute,j])
end
noncomputable def tI(K:Frag)(g:TE)(f:Str):TE:=λh H Q=>g h H λx c=>∃a C e fs v,x=.ref a/\c a=some (.ins C e fs)/\Cls K C/\NoAttr K C f/\fs.lookup f=some v/\Q v c
noncomputable def A9(K:Frag)(j l:TE)(f:Str):TS:=λD c H=>l c H λy h=>j c h λx e=>∃a C g fs,x=.ref a/\e a=some (.ins C g fs)/\Cls K C/\NoAttr K C f/\fs.length<1000 /\
 D.nx c (aj e a (.ins C g (cg f y fs)))
section
variable{X:Cx}{o e value:Expr}{f:Str}{pos pos':Pos}{ta tv:TE}
def yo(y:PE X e ta)(w:attributeBase e f X.env (eval e X.env)=eval e X.env):PE X (.Attribute e f pos) (tI X.K ta f):=by intro g s B H Q I h;refine r6 w (aq (y g s B H _ I h) λu F r=>?_);obtain⟨x,j,m,A,a,C,E,fs,v,ex,t,c,n,l,q⟩:=r;subst ex;obtain rfl:u=Value.ref a:=A;exact yP m t c n l λJ G p z=>⟨v,j,p,z,q⟩
def ub(w:PE X o ta)(A:PE X value tv)(z:swapsWith value (some (.Attribute o f pos')) pos.line X.env=pure false):PS X (.Assign [.Attribute o f pos'] value pos) (A9 X.K ta tv f):=by intro g s j H D I h;refine Lr (aq (A g s j H _ I h) λu J ⟨y,m,p,G,q⟩=>aq (w g J j m _ p q) λB N ⟨x,K,r,F,a,C,M,fs,ex,v,c,n,l,E⟩=>?_) z;subst ex;obtain rfl:B=Value.ref a:=F;exact AV r v c n l G λO t=>⟨j,_,t,E⟩
end
structure Room(k:Nat)(A:Around):Prop where
 hd:A.handled=none
 dp:A.depth+3*k+5<recursionLimit
 un:A.units+16*k+200<cLine
def Room.mono{j k:Nat}{A:Around}(r:Room k A)(h:j<=k):Room j A:=⟨r.hd,by have:=r.dp;omega,by have:=r.un;omega⟩
def Room.deeper{k:Nat}{A:Around}(r:Room (k+1) A)(env:Env):Room k (A.deeper env):=
 ⟨r.hd,by have:=r.dp;show A.depth+1+3*k+5<_;omega,by have:=r.un;show A.units+3+16*k+200<_;omega⟩
def yg{A:Around}{C:Addr}{us:List Value}{a:List (Str×Value)}:(A.under (.builtin "type.__call__" ⟨.ref C::us,a⟩)).depth=A.depth+1:=by
 first|rfl|simp[Around.under,Code.weight,Code.isCreation,Code.isGuard,Code.isCaller,Code.frames,Code.isFrame,guardIds]
def wz{A:Around}{C:Addr}{us:List Value}{a:List (Str×Value)}:(A.under (.builtin "type.__call__" ⟨.ref C::us,a⟩)).units=A.units+1:=by
 first|rfl|simp[Around.under,Code.cUnits,Code.frames,Code.isFrame]
def Room.make{k:Nat}{A:Around}(r:Room (k+1) A)(C:Addr)(us:List Value)(a:List (Str×Value)):Room k (A.under (.builtin "type.__call__" ⟨.ref C::us,a⟩)):=
 ⟨r.hd,by have:=r.dp;rw[yg];omega,by have:=r.un;rw[wz];omega⟩
def Room.depth{k:Nat}{A:Around}(r:Room k A):A.depth<recursionLimit:=by have:=r.dp;omega
def Room.units{k:Nat}{A:Around}(r:Room k A):A.units+64<cLine:=by have:=r.un;omega
noncomputable def ql:TA:=λ_ H Q=>Q [] H
noncomputable def G3(f:TE)(g:TA):TA:=λa H Q=>f a H λx c=>g a c λxs e=>Q (x::xs) e
section
variable{X:Cx}{e:Expr}{es:List Expr}{te:TE}{t:TA}{pos:Pos}
def pa_nil:PA X [] ql:=λ_ _ _ _ H Q I h=>Calls.spliced_nil ⟨[],H,I,.nil,h⟩
def dA(p:PE X e te)(r:PA X es t)(v:starEach (e::es) X.env=(false,eval e X.env)::starEach es X.env:=by rfl):PA X (e::es) (G3 te t):=by
 intro pos a s c H Q I h;rw[v];show wpAny _ _ (spliced ((false,eval e X.env)::backTo pos (starEach es X.env))) _ _ s;refine Calls.spliced_cons (aq (p a s c H _ I h) λu B m=>?_);obtain⟨x,f,j,z,w⟩:=m
 exact aq (r pos a B c f _ j w) λus C o=>by obtain⟨xs,g,l,A,y⟩:=o;exact⟨x::xs,g,l,.cons z A,y⟩
noncomputable def w6(t:TA):TE:=λc H Q=>t c H λxs a=>xs.length<=sizeLine/\∀p,a p=none->Q (.ref p) (aj a p (.tup xs))
noncomputable def DB(t:TA):TE:=λc H Q=>t c H λxs a=>xs.length<=sizeLine/\∀p,a p=none->Q (.ref p) (aj a p (.lst xs))
def sE{x1}(h:PA X es t):PE X (.Tuple es x1 pos) (w6 t):=by
 intro a s m H Q I l;refine wpAny_Tuple_spliced (aq (h pos a s m H _ I l) λus c ⟨xs,f,g,r,z,q⟩=>⟨by rw[←r.length];exact z,?_⟩);have j:f c.heap.objs.size=none:=g.hok.fresh (Ih _);refine⟨.ref c.heap.objs.size,aj f c.heap.objs.size (.tup xs),g.laid (t':=c.toks) (λb u e=>Ig _ e) (Ih _) ?_,rfl,q _ j⟩;exact⟨z,us,r,⟨_,Iy _ rfl,⟨rfl,rfl⟩,_,rfl⟩⟩
def wZ(h:PA X es t):PE X (.List es pos) (DB t):=by
 intro a s m H Q I l;refine wpAny_List_spliced (aq (h pos a s m H _ I l) λus c ⟨xs,f,g,r,z,q⟩=>⟨by rw[←r.length];exact z,?_⟩);have j:f c.heap.objs.size=none:=g.hok.fresh (Ih _);refine⟨.ref c.heap.objs.size,aj f c.heap.objs.size (.lst xs),g.laid (t':=c.toks) (λb u e=>Ig _ e) (Ih _) ?_,rfl,q _ j⟩;exact⟨z,us,0,r,Iy _ rfl⟩
end
noncomputable abbrev Sp:=List V->Hp->VK->XK->Prop
noncomputable abbrev cq:=List Env->Hp->Shared->XK->Value->Shared->Prop
structure Env0(P:Program)(w:World)(K:Frag)(mg:Str->Option Value)(base:Heap)(A:Around)(outer:List Env)(s:Shared)(H:Hp):Prop where
 frames:A.frames=some outer
 mod:Mod K mg base
 bs:∀b o,base.get? b=some o->s.heap.get? b=some o/\H b=none
 bsz:base.objs.size<=s.heap.objs.size
 funs:s.heap.FunFrames base outer
 frf:∀b∈b8 outer,H b=none
 hok:HOk P w H s.heap
 bare:AllBare s.gens
noncomputable def CE(outer:List Env)(P:Program)(w:World)(H:Hp)(s:Shared)(Q:VK)(u:Value)(s':Shared):Prop:=
 ∃v a,s'.os=s.os/\AllBare s'.gens/\Un (b8 outer) [] H a s.heap s'.heap/\HOk P w a s'.heap/\RelV v u/\Q v a
noncomputable def CR(CX:cq)(outer:List Env)(P:Program)(w:World)(H:Hp)(s:Shared)(Q:VK)(E:XK)(r:Result)(s':Shared):Prop:=
 match r with
 |.ok (.ret u)=>CE outer P w H s Q u s'
 |.ok _=>False
 |.error e=>CX outer H s E e s'
structure FnOk(P:Program)(w:World)(K:Frag)(mg:Str->Option Value)(base:Heap)(CX:cq)(k:Nat)(f:Addr)(fd:FuncData)(ps:List Str)(sp:Sp):Prop where
 len:∀vs H Q E,sp vs H Q E->vs.length=ps.length
 run:∀(A:Around)(outer:List Env)(s:Shared)(H:Hp)(args:Args)(us:List Value)(vs:List V)(Q:VK)(E:XK),Room k A->Env0 P w K mg base A outer s H->BindsTo s fd args (ps.zip us)->Vals vs us->sp vs H Q E->
  codeAny (model P w) A (.call (.ref f) args) (CR CX outer P w H s Q E) s
def FnOk.mono{P:Program}{w:World}{K:Frag}{mg:Str->Option Value}{base:Heap}{CX:cq}{j k:Nat}{f:Addr}{a:FuncData}{ps:List Str}{sp:Sp}(F:FnOk P w K mg base CX j f a ps sp)(h:j<=k) :
  FnOk P w K mg base CX k f a ps sp:=⟨F.len,λA outer s H args us vs Q E c=>F.run A outer s H args us vs Q E (c.mono h)⟩
def FnOk.imp{P:Program}{w:World}{K:Frag}{mg:Str->Option Value}{base:Heap}{CX:cq}{k:Nat}{f:Addr}{c:FuncData}{ps:List Str}{sp a:Sp}(F:FnOk P w K mg base CX k f c ps sp)
  (h:∀vs H Q E,a vs H Q E->sp vs H Q E):FnOk P w K mg base CX k f c ps a:=
 ⟨λvs H Q E q=>F.len vs H Q E (h _ _ _ _ q),λA outer s H args us vs Q E j g e m l=>F.run A outer s H args us vs Q E j g e m (h _ _ _ _ l)⟩
def Env0.make{P:Program}{w:World}{K:Frag}{mg:Str->Option Value}{base:Heap}{A:Around}{outer:List Env}{s:Shared}{H:Hp}(e:Env0 P w K mg base A outer s H)(C:Addr)(us:List Value)(a:List (Str×Value)) :
  Env0 P w K mg base (A.under (.builtin "type.__call__" ⟨.ref C::us,a⟩)) outer s H:=⟨by first|exact e.frames|(simpa [Around.under,Code.envs,Code.isFrame,pushEnvs] using e.frames),e.mod,e.bs,e.bsz,e.funs,e.frf,e.hok,e.bare⟩
section
variable{X:Cx}{pins:List (Addr×Obj)}{σ:St}{H:Hp}{s s':Shared}
def Inv.env0(I:Inv X pins σ H s):Env0 X.prog X.w X.K X.mg X.base X.A X.stack s H:=
 ⟨I.ok.frames,I.ok.mod,I.bs,IF I.ok.bsz I.sz,I.stack,I.stkFree,I.hok,I.bare⟩
def Inv.after{Q:VK}{u:Value}(I:Inv X pins σ H s)(h:CE X.stack X.prog X.w H s Q u s'):EP X pins σ Q u s':=by obtain⟨v,a,os,bare,un,hok,r,q⟩:=h;obtain⟨e,g,d,t,c⟩:=s';obtain rfl:c=s.os:=os;exact⟨v,a,I.call (h':=e) (g':=g) (d':=d) (t':=t) (ch:=[]) un hok bare (λb z=>absurd z (by simp)),r,q⟩
end
noncomputable def wv(sp:Sp)(dvs:List V)(E:XK)(t:TA):TE:=λc H Q=>t c H λvs a=>sp (vs++dvs) a Q E
noncomputable def Ak(C:Addr)(m:Str)(sp:Sp)(dvs:List V)(E:XK)(h:TE)(t:TA):TE:=λe H Q=>h e H λx c=>∃a g fs,x=.ref a/\c a=some (.ins C g fs)/\fs.lookup m=none /\
 t e c λvs f=>sp (x::(vs++dvs)) f Q E
noncomputable def xb(C:Addr)(sp:Sp)(dvs:List V)(E:XK)(t:TA):TE:=λf H Q=>t f H λvs c=>∀x a,c x=none->c a=none->a≠x->
 sp (.ref x::(vs++dvs)) (aj (aj c a (.own x)) x (.ins C a [])) (λv e=>v=.non/\Q (.ref x) e) E
noncomputable def Binds(K:Frag)(a:FuncData)(ps:List Str)(ds:List Value):Prop:=
 ∀(s:Shared)(us:List Value),K.In s.heap->(us++ds).length=ps.length->BindsTo s a ⟨us,[]⟩ (ps.zip (us++ds))
def Binds.all{K:Frag}{a:FuncData}{ps:List Str}(h:∀us:List Value,us.length=ps.length->bindArgs a ⟨us,[]⟩=pure (ps.zip us)):Binds K a ps []:=λs us _ c=>by rw[IW]at c ⊢;exact .of_eq (h us c)
noncomputable def ie(CX:cq)(X:Cx)(E:XK):Prop:=∀(a:List (Addr×Obj))(c:St)(H:Hp)(s:Shared)(e:Value)(s':Shared),Inv X a c H s->CX X.stack H s E e s'->X.xe e s'
section
variable{X:Cx}{CX:cq}{k:Nat}{f C:Addr}{fd:FuncData}{ps:List Str}{sp:Sp}{dvs:List V}{ds:List Value}{E:XK}{x m:Str}{p pos apos:Pos}{e o:Expr}{es:List Expr}{ta:TE}{t:TA}
def tN{a:List (Addr×Obj)}{g:St}{H:Hp}{s:Shared}{Q:VK}{us:List Value}{vs:List V}(F:FnOk X.prog X.w X.K X.mg X.base CX k f fd ps sp)(w:Room k X.A)(l:Binds X.K fd ps ds)(hd:Vals dvs ds)(y:ie CX X E)
  (I:Inv X a g H s) (r:Vals vs us) (h:sp (vs++dvs) H Q E):wpAny (model X.prog X.w) X.A (call (.ref f) us) (EP X a g Q) X.xe s:=by
 have j:Vals (vs++dvs) (us++ds):=r.append hd
 have v:(us++ds).length=ps.length:=by rw[←j.length];exact F.len _ _ _ _ h
 refine L5 (KY (F.run X.A X.stack s H ⟨us,[]⟩ (us++ds) (vs++dvs) Q E w I.env0 (l s us I.kIn v) j h) λr s' c=>?_)
 cases r with
 |error e=>exact y a g H s e s' I c
 |ok fl=>
  cases fl with
  |ret u=>exact I.after c
  |next=>exact False.elim c
  |brk=>exact False.elim c
  |cont=>exact False.elim c
def uR(F:FnOk X.prog X.w X.K X.mg X.base CX k f fd ps sp)(A:Room k X.A)(w:Gl X x)(z:X.mg x=some (.ref f))(y:keepIn X.K (.ref f)=true)(u:Binds X.K fd ps ds)(hd:Vals dvs ds)(B:ie CX X E)
  (l:PA X (e::es) t) (g:(x==("__debug__":Str))=false:=by decide) (v:starEach (e::es) X.env=(false,eval e X.env)::starEach es X.env:=by rfl) (j:(backTo pos (starEach es X.env)).any (·.1)=false:=by rfl) :
  PE X (.Call (.Name x p) (e::es) [] pos) (wv sp dvs E t):=by
 intro a s G H Q I h;refine Ki (ia I w z ?_ g);refine Lu (h₀:=X.base) I.ok.mod.kin y (aq (l pos a s G H _ I h) λus K ⟨vs,J,c,r,q⟩=>⟨c.kIn,?_⟩) v j;exact tN F A u hd B c r q
def EI{pl:Sem Bool}(M:PE X o ta)(c:Cls X.K C)(w:Meth X.K C m f)(F:FnOk X.prog X.w X.K X.mg X.base CX k f fd ps sp)(N:Room k X.A)(K:Binds X.K fd ps ds)(hd:Vals dvs ds)(P:ie CX X E)(J:PA X (e::es) t)
  (B:starEach (e::es) X.env=(false,eval e X.env)::starEach es X.env:=by rfl) (A:(backTo pos (starEach es X.env)).any (·.1)=false:=by rfl)
  (O:eval (.Call (.Attribute o m apos) (e::es) [] pos) X.env=(do
   let ov ←eval o X.env
   standAt apos.atName
   let (f,first) ←holding [ov] (getMethod ov m pl)
   callWith pos f first (backTo pos (starEach (e::es) X.env)) (backToKw pos (keywordEach [] X.env))):=by rfl) :
  PE X (.Call (.Attribute o m apos) (e::es) [] pos) (Ak C m sp dvs E ta t):=by
 intro g s y H Q I h;refine LY (pl:=pl) (aq (M g s y H _ I h) λu T ⟨x,z,j,S,a,Y,fs,ex,G,l,q⟩=>?_) O;subst ex;obtain rfl:u=Value.ref a:=S;refine p8 j G c w l ?_;refine Lu (first:=[.ref a]) (h₀:=X.base) I.ok.mod.kin w.kp (aq (J pos g T y z _ j q) λus Z ⟨vs,U,v,r,R⟩=>⟨v.kIn,?_⟩) B A;exact tN (us:=.ref a::us) (vs:=.ref a::vs) F N K hd P v (.cons rfl r) R
structure Mk(K:Frag)(C f:Addr):Prop where
 makes:makesIn K C=true
 init:findIn K (.ref C) "__init__"=some (some (.ref f))
 fn:isFn K (.ref f)=true
 kp:keepIn K (.ref C)=true
def xv{a:List (Addr×Obj)}{l:St}{H:Hp}{s:Shared}{Q:VK}{us:List Value}{vs:List V}(M:Mk X.K C f)(F:FnOk X.prog X.w X.K X.mg X.base CX k f fd ps sp)(N:Room (k+1) X.A)(J:Binds X.K fd ps ds)(hd:Vals dvs ds)
  (O:ie CX X E) (I:Inv X a l H s) (r:Vals vs us)
  (h:∀x j,H x=none->H j=none->j≠x->sp (.ref x::(vs++dvs)) (aj (aj H j (.own x)) x (.ins C j [])) (λv A=>v=.non/\Q (.ref x) A) E) :
  wpAny (model X.prog X.w) X.A (call (.ref C) us) (EP X a l Q) X.xe s:=by
 have w:=h (s.heap.objs.size+1) s.heap.objs.size (I.hok.fresh (MB _)) (I.hok.fresh (Ih _)) (Ja (Ks _));have g:=Inv.made (C:=C) I;have y:Vals (V.ref (s.heap.objs.size+1)::(vs++dvs)) (Value.ref (s.heap.objs.size+1)::(us++ds)):=.cons rfl (r.append hd)
 have K:(Value.ref (s.heap.objs.size+1)::us++ds).length=ps.length:=by have e:=y.length;rw[F.len _ _ _ _ w]at e;exact e.symm
 refine L5 (BA (f:=f) I.kIn M.makes M.init (KH.mp M.fn) (KY (F.run _ X.stack _ _ ⟨Value.ref (s.heap.objs.size+1)::us,[]⟩ (Value.ref (s.heap.objs.size+1)::(us++ds)) _ _ E (N.make C us [])
  (g.env0.make C us []) (J _ (Value.ref (s.heap.objs.size+1)::us) g.kIn K) y w) λr s' c=>?_))
 cases r with
 |error e=>exact O a l _ _ e s' g c
 |ok fl=>
  cases fl with
  |ret u=>
   obtain⟨v,z,B,R,G,P⟩:=g.after c;subst G;exact⟨R,⟨V.ref (s.heap.objs.size+1),z,B,rfl,P⟩⟩
  |next=>exact False.elim c
  |brk=>exact False.elim c
  |cont=>exact False.elim c
def Bv(M:Mk X.K C f)(F:FnOk X.prog X.w X.K X.mg X.base CX k f fd ps sp)(r:Room (k+1) X.A)(j:Gl X x)(l:X.mg x=some (.ref C))(g:Binds X.K fd ps ds)(hd:Vals dvs ds)(u:ie CX X E)
  (c:(x==("__debug__":Str))=false:=by decide):PE X (.Call (.Name x p) [] [] pos) (xb C sp dvs E ql):=by
 intro a s v H Q I h;refine Ki (ia I j l ?_ c);exact callWith_K0 I.kIn M.kp (xv (us:=[]) M F r g hd u I .nil h)
end
structure FnScope(N P:List Str)(sc:Scope):Prop where
 kind:sc.kind=.function
 co:sc.isCoroutine=false
 gen:sc.isGenerator=false
 nd:N.Nodup
 pre:N.take P.length=P
 par:∀x∈P,sc.names.lookup x=some .local\/sc.names.lookup x=some .cell
 nofree:∀y∈sc.names,y.2≠.free
def tV{kindOf:Str->Option NameKind}{x:Str}:∀{binds:List (Str×Value)}{m:Str->Option Value},(∀v,(x,v)∉binds)->bindL kindOf binds m x=m x
 | [],_,_=>rfl
 |(n,v)::r,m,h=>by
  unfold bindL;rw[tV λw a=>h w (Ic _ a)];split
  ·have:x≠n:=by rintro rfl;exact h v Ie
   simp[this]
  ·rfl
def rT{kindOf:Str->Option NameKind}{x:Str}:∀{binds:List (Str×Value)}{m:Str->Option Value},(∀v,(x,v)∉binds)->bindC kindOf binds m x=m x
 | [],_,_=>rfl
 |(n,v)::r,m,h=>by
  unfold bindC;rw[rT λw a=>h w (Ic _ a)];split
  ·rfl
  ·have:x≠n:=by rintro rfl;exact h v Ie
   simp[this]
def wq{kindOf:Str->Option NameKind}{x:Str}{v:Value}:∀{P:List Str}{vs:List Value}{i:Nat}{m:Str->Option Value},P.Nodup->P[i]?=some x->vs[i]?=some v->kindOf x=some .local->
  bindL kindOf (P.zip vs) m x=some v
 | [],_,_,_,_,h,_,_=>by simp at h
 |_::_,[],_,_,_,_,h,_=>by simp at h
 |p::P,w::vs,0,m,nd,a,c,e=>by
  simp at a c;subst a;subst c;show bindL kindOf ((p,w)::P.zip vs) m p=_;unfold bindL;rw[tV λv f=>(IS.mp nd).1 (Km f).1,Ia e];simp
 |p::P,w::vs,i+1,m,nd,a,c,e=>by show bindL kindOf ((p,w)::P.zip vs) m x=_;unfold bindL;exact wq (i:=i) (IS.mp nd).2 (by simpa using a) (by simpa using c) e
def rQ{kindOf:Str->Option NameKind}{x:Str}{v:Value}:∀{P:List Str}{vs:List Value}{i:Nat}{m:Str->Option Value},P.Nodup->P[i]?=some x->vs[i]?=some v->kindOf x≠some .local->
  bindC kindOf (P.zip vs) m x=some v
 | [],_,_,_,_,h,_,_=>by simp at h
 |_::_,[],_,_,_,_,h,_=>by simp at h
 |p::P,w::vs,0,m,nd,a,c,e=>by
  simp at a c;subst a;subst c;show bindC kindOf ((p,w)::P.zip vs) m p=_;unfold bindC;rw[rT λv f=>(IS.mp nd).1 (Km f).1,Ib e];simp
 |p::P,w::vs,i+1,m,nd,a,c,e=>by show bindC kindOf ((p,w)::P.zip vs) m x=_;unfold bindC;exact rQ (i:=i) (IS.mp nd).2 (by simpa using a) (by simpa using c) e
noncomputable def start(N:List Str)(vs:List V):St:=vs.map some++List.replicate (N.length-vs.length) none
noncomputable def fY(CX:cq)(P:Program)(w:World)(K:Frag)(mg:Str->Option Value)(base:Heap)(N:List Str)(qual:Str)(scope:Scope)(f:Addr)(a:Value)(A:Around)(outer:List Env)(s:Shared)(H:Hp)(E:XK):Cx where
 prog:=P
 w:=w
 K:=K
 mg:=mg
 base:=base
 A:=A.deeper (envOfC qual scope s.heap.objs.size f a)
 N:=N
 s₀:=s
 H₀:=H
 env:=envOfC qual scope s.heap.objs.size f a
 outer:=outer
 stack:=envOfC qual scope s.heap.objs.size f a::outer
 ex:=[]
 calm:=true
 fn:=λ_=>true
 pn:=[]
 xe:=λe s'=>wpAny (model P w) (A.deeper (envOfC qual scope s.heap.objs.size f a)) (leaving (envOfC qual scope s.heap.objs.size f a) e) (λ_ c=>CX outer H s E e c) (λg c=>CX outer H s E g c) s'
def pJ{a:Scope}{n:Nat}{x:Str}(h:a.names.lookup x=some .cell):∃c,(cellsFrom n a.names []).lookup x=some c:=by have q:=cellsFrom_some a.names n [] (.inl h);exact Mb.mp q
def EV{CX:cq}{P:Program}{w:World}{K:Frag}{mg:Str->Option Value}{base:Heap}{N ps:List Str}{qual:Str}{scope:Scope}{f:Addr}{t:Value}{A:Around}{outer:List Env}{s J:Shared}{H:Hp}{E:XK}{us:List Value}{vs:List V}
  (S:FnScope N ps scope) (hd:A.handled=none) (j:Env0 P w K mg base A outer s H) (T:vs.length=ps.length) (r:Vals vs us)
  (x:InCallC s s.heap.objs.size (bindL (envOfC qual scope s.heap.objs.size f t).kindOf (ps.zip us) λ_=>none) (cellsFrom (s.heap.objs.size+1) scope.names []) (bindC (envOfC qual scope s.heap.objs.size f t).kindOf (ps.zip us) λ_=>none) J) :
  Inv (fY CX P w K mg base N qual scope f t A outer s H E) [] (start N vs) H J:=by
 have Q:ps.length<=N.length:=by have:=JD List.length S.pre;rw[I0]at this;omega
 obtain⟨B,U,rfl,G⟩:=x.done;have F:∀b:Addr,b∉(fY CX P w K mg base N qual scope f t A outer s H E).ex:=λb z=>absurd (show b∈([]:List Addr)from z) (by simp)
 refine⟨⟨j.mod,S.kind,rfl,rfl,Ih _,λy z c B g=>?_,λy l=>?_,λy c _ h=>?_,λ_=>hd,Around.frames_deeper j.frames,.inr ⟨rfl,rfl⟩,λb z=>absurd z (F b),j.bs,j.bsz,λb _ _=>F b,λb z=>absurd z (F b),j.funs,j.frf⟩,
  rfl,j.bare,Un.kept G,⟨_,x.toInCall.ns,λi y v B g R=>?_⟩,λy c h=>⟨_,x.cell y c h⟩,j.hok.fresh (Ih _),λy c h=>?_,λp m=>absurd (show p∈([]:List (Addr×Obj))from m) (by simp),j.hok.kept G,?_⟩
 ·exact name_of_addr x.apart (Jv B) (Jv g)
 ·have l:scope.names.lookup y=some .cell\/scope.names.lookup y=some .free:=l;rcases l with l|l
  ·exact pJ l
  ·exact absurd rfl (S.nofree _ (Jv l))
 ·exact Kh (x.above y c (Jv h))
 ·have C:i<vs.length:=by
   unfold start at g;by_cases C:i<vs.length
   ·exact C
   ·rw[HX (by simpa using C)]at g;rw[J9]at g;split at g<;>cases g
  have M:vs[i]?=some v:=by
   unfold start at g;rw[HW (by simpa using C),Ii]at g
   cases e:vs[i]? with
   |none=>rw[e]at g;cases g
   |some a=>rw[e]at g;cases g;rfl
  obtain⟨u,I,O⟩:=r.get M
  have m:ps[i]?=some y:=by rw[←S.pre,Kt (by omega)];exact B
  have o:ps.Nodup:=by rw[←S.pre];exact S.nd.sublist (List.take_sublist _ _)
  refine⟨u,O,?_⟩;rcases S.par y (IA m)with k|k
  ·exact .inl ⟨k,wq o m I k⟩
  ·obtain⟨c,e⟩:=pJ (n:=s.heap.objs.size+1) k;refine .inr ⟨.inl k,c,e,?_⟩;have q:=x.cell y c e;rw[rQ o m I (by show scope.names.lookup y≠_;rw[k];decide)]at q;exact q
 ·exact j.hok.fresh (Kh (x.above y c (Jv h)))
 ·unfold start;show _=N.length;rw[HY,HV,JA];omega
def on{CX:cq}{P:Program}{w:World}{K:Frag}{mg:Str->Option Value}{base:Heap}{k:Nat}{f:Addr}{name qual:Str}{a:Arguments}{c:List Stmt}{scope:Scope}{R kV m T j ct oc:Value}{O od:Option Addr}
  {Qg:Array (Option Value)} {N ps:List Str} {sp:Sp} (lk:K.lookup f=some ⟨oc,od,.func (fnOf name qual a c scope R kV m T O j ct),Qg⟩) (Y:codeIn K j qual=true) (S:FnScope N ps scope)
  (len:∀vs H Q E,sp vs H Q E->vs.length=ps.length)
  (Z:∀(A:Around)(outer:List Env)(s:Shared)(H:Hp)(vs:List V)(Q:VK)(E:XK),Room k (A.deeper (envOfC qual scope s.heap.objs.size f j))->sp vs H Q E->
   ∃t,PSs (fY CX P w K mg base N qual scope f j A outer s H E) c t/\t { nx:=λ_ h=>Q .non h,rt:=Q } (start N vs) H) :
  FnOk P w K mg base CX (k+1) f (fnOf name qual a c scope R kV m T O j ct) ps sp:=by
 refine⟨len,λA outer s H args us vs Q E B p hb r M=>?_⟩;have hl:=len _ _ _ _ M;have G:K.In s.heap:=p.mod.kin.keeps λb o e=>(p.bs b o e).1;have C:s.heap.NoLimit:=p.mod.nolimit.keeps λb o e=>(p.bs b o e).1
 have Sg:∀y∈ps.zip us,scope.names.lookup y.1=some .local\/(scope.names.lookup y.1=some .cell/\((cellsFrom (s.heap.objs.size+1) scope.names []).lookup y.1).isSome=true):=λX hy=>by
  obtain⟨n,v⟩:=X;rcases S.par n (Km hy).1 with q|q
  ·exact .inl q
  ·exact .inr ⟨q,cellsFrom_some _ _ _ (.inl q)⟩
 refine codeAny_call_function B.depth (G _ _ lk) rfl S.co S.gen rfl (PySem.W.codeRec_of G Y) (hb _ _ _ _ ?_);refine wpAny_newFunctionEnv_cells S.kind Sg λenv he U x=>?_;subst he;refine⟨C.keeps x.toInCall.keep,codeAny_func ?_⟩;obtain⟨t,ht,hq⟩:=Z A outer s H vs Q E (B.deeper _) M;have I:Inv (fY CX P w K mg base N qual scope f j A outer s H E) [] (start N vs) H U:=EV S B.hd p hl r x;refine JF (ht [] U (start N vs) H _ I hq) (λfl s' l=>?_) λe s' l=>l
 have z:∀{g:St}{h:Hp}{v:V}{u:Value},Inv (fY CX P w K mg base N qual scope f j A outer s H E) [] g h s'->RelV v u->Q v h->CE outer P w H s Q u s':=
  λ{g h v u} J F q=>⟨v,h,J.os,J.bare,J.base,J.hok,F,q⟩
 cases fl with
 |ret u=>
  obtain⟨v,g,h,J,F,q⟩:=l;exact z J F q
 |next=>
  obtain⟨g,h,J,q⟩:=l;exact z (v:=V.non) (u:=Value.none) J rfl q
 |brk=>
  obtain⟨_,_,_,q⟩:=l;exact False.elim q
 |cont=>
  obtain⟨_,_,_,q⟩:=l;exact False.elim q
section
variable{X:Cx}{x:Str}{p pos:Pos}{e:Expr}{es:List Expr}{t:TA}{id T:String}{r:List V->Hp->VK->Prop}
noncomputable def sr(r:List V->Hp->VK->Prop)(t:TA):TE:=λc H Q=>t c H λvs a=>r vs a Q
def pI(u:eU X (.builtin id) r)(w:Gl X x)(y:X.mg x=none)(A:bootBuiltins x=some (.builtin id))(o:PA X (e::es) t)(z:x≠"__name__":=by decide)(l:(x==("__debug__":Str))=false:=by decide)
  (v:starEach (e::es) X.env=(false,eval e X.env)::starEach es X.env:=by rfl) (m:(backTo pos (starEach es X.env)).any (·.1)=false:=by rfl):PE X (.Call (.Name x p) (e::es) [] pos) (sr r t):=by
 intro a s c H Q I h;refine Ki (iw I w y A ?_ z l);exact PyProof.Rows.callWith_builtin1 (aq (o pos a s c H _ I h) λus E j=>by obtain⟨vs,f,g,C,B⟩:=j;exact u a E c f vs us Q g C B) v m
def pY(u:eU X (.type T) r)(w:Gl X x)(y:X.mg x=none)(A:bootBuiltins x=some (.type T))(o:PA X (e::es) t)(z:x≠"__name__":=by decide)(l:(x==("__debug__":Str))=false:=by decide)
  (v:starEach (e::es) X.env=(false,eval e X.env)::starEach es X.env:=by rfl) (m:(backTo pos (starEach es X.env)).any (·.1)=false:=by rfl):PE X (.Call (.Name x p) (e::es) [] pos) (sr r t):=by
 intro a s c H Q I h;refine Ki (iw I w y A ?_ z l);exact JY (aq (o pos a s c H _ I h) λus E j=>by obtain⟨vs,f,g,C,B⟩:=j;exact u a E c f vs us Q g C B) v m
end
end L2
namespace HT
open PySem PyProof.Rows
section
variable{prog:Program}{w:World}{A:Around}{E:Value->Shared->Prop}{s:Shared}
def cat_tup{t b:Addr}{vs ws:List Value}{Q:Value->Shared->Prop}(x:IsTup s.heap t vs.toArray)(v:IsTup s.heap b ws.toArray)(o:vs≠[])
  (r:ws=[]->Q (.ref t) s) (u:ws≠[]->Q (.ref s.heap.objs.size) { s with heap:=s.heap.push { cls:=.type "tuple",data:=.seq (vs++ws).toArray } })
  (hsz:vs.length+ws.length<=sizeLine):wpAny (model prog w) A (binaryOp .Add (.ref t) (.ref b)) Q E s:=by
 obtain⟨⟨cls,dd,data,sl⟩,f,m,n,hd⟩:=id x;obtain⟨⟨y,l,data2,h⟩,c,j,p,a⟩:=id v;simp only at m hd j a;subst m hd j a
 have e:vs.toArray++ws.toArray=(vs++ws).toArray:=by simp
 by_cases g:ws=[]
 ·exact concat_meets ⟨_,f,rfl⟩ ⟨_,c,rfl⟩ Mc seq_tuple_add La K6 (KZ _ _)
   (tuple_addW1 t b vs.toArray ws.toArray n p dd l sl h (by simpa using o) (by simp[g])) ⟨f,c,r g⟩
 ·refine concat_meets ⟨_,f,rfl⟩ ⟨_,c,rfl⟩ Mc seq_tuple_add La K6 (KZ _ _)
   (tuple_addW2 t b vs.toArray ws.toArray n p dd l sl h (by simpa using o) (by simpa using g) (by rw[Il,Il];exact hsz)) ⟨f,c,?_⟩
  rw[e];exact u g
noncomputable def sIx(n d:Nat):Option Int->Nat
 |none=>d
 |some v=>if v<0 then (v+(n:Int)).toNat else min v.toNat n
def sIx_none(n d:Nat):sIx n d none=d:=rfl
def sIx_nat(n d k:Nat):sIx n d (some (k:Int))=min k n:=by show (if (k:Int)<0 then ((k:Int)+(n:Int)).toNat else min (k:Int).toNat n)=min k n;rw[Ib (by omega),JL]
def EU(n d:Nat)(hd:d<=n)(o:Option Int):sIx n d o<=n:=by
 cases o with
 |none=>exact hd
 |some v=>
  show (if v<0 then (v+(n:Int)).toNat else min v.toNat n)<=n;by_cases a:v<0
  ·rw[Ia a];omega
  ·rw[Ib a];exact Nat.min_le_right _ _
def uO(v:Int)(n d:Nat):(if v<0 then max (v+(n:Int)) 0 else min v (n:Int))=((sIx n d (some v):Nat):Int):=by
 show (if v<0 then max (v+(n:Int)) 0 else min v (n:Int))=(((if v<0 then (v+(n:Int)).toNat else min v.toNat n):Nat):Int);by_cases a:v<0
 ·simp only[Ia a];omega
 ·simp only[Ib a];omega
def zL(lo a:Option Int)(n:Nat):Builtin.Slice.sliceAdjust lo a 1 (n:Int)=(((sIx n 0 lo:Nat):Int),((sIx n n a:Nat):Int)):=by
 have c:¬ ((1:Int)<0):=by omega
 unfold Builtin.Slice.sliceAdjust;simp only[c,Md];refine Prod.ext ?_ ?_
 ·cases lo with
  |none=>rfl
  |some v=>exact uO v n 0
 ·cases a with
  |none=>rfl
  |some v=>exact uO v n n
def BK(i j:Nat):Builtin.Slice.slicePlaces (i:Int) (j:Int) 1=j-i:=by
 unfold Builtin.Slice.slicePlaces
 have a:(1:Int)>0:=by omega
 simp only[a,KQ,Int.ediv_one];split<;>omega
def vR{v:Value}{o:Option Int}{Q:Option Int->Shared->Prop}(p:IsPart v o)(h:Q o s):wpAny (model prog w) A (Builtin.Slice.slicePartIndex v) Q E s:=by
 cases p with
 |none=>exact slicePart_none h
 |int i t=>exact slicePart_int h
def sD{sl:Addr}{f g:Value}{lo a:Option Int}{n:Nat}{Q:Int×Int×Nat->Shared->Prop}(j:s.heap.IsSliceOf sl f g .none)(pl:IsPart f lo)(l:IsPart g a)
  (h:Q (((sIx n 0 lo:Nat):Int),1,sIx n n a-sIx n 0 lo) s):wpAny (model prog w) A (Builtin.Slice.sliceApplied (.ref sl) (pure (n:Int))) Q E s:=by
 obtain⟨os,c,m,e⟩:=id j;unfold Builtin.Slice.sliceApplied Builtin.Slice.sliceFields;refine HZ (HZ (Jw c e (x:=f) rfl (HZ (Jw c e (x:=g) rfl (HZ (Jw c e (x:=.none) rfl (Io ?_)))))));refine HZ (slicePart_none ?_);show wpAny _ _ (if ((1:Int)==0)=true then _ else _) _ _ s;rw[Ib (by decide)];refine HZ (vR pl (HZ (vR l (HZ (Io ?_)))));show wpAny _ _ (match Builtin.Slice.sliceAdjust lo a 1 (n:Int)with|(lo,a)=>pure (lo,(1:Int),Builtin.Slice.slicePlaces lo a 1)) _ _ s;rw[zL lo a n];show wpAny _ _ (pure (((sIx n 0 lo:Nat):Int),(1:Int),Builtin.Slice.slicePlaces ((sIx n 0 lo:Nat):Int) ((sIx n n a:Nat):Int) 1)) _ _ s;rw[BK];exact Io h
def ye(xs:Array Value)(i k:Nat):((List.range k).filterMap λ(m:Nat)=>xs[((i:Int)+(m:Int)*1).toNat]?).toArray=((xs.toList.drop i).take k).toArray:=by
 have e:(λ(m:Nat)=>xs[((i:Int)+(m:Int)*1).toNat]?)=λm=>xs[i+m]?:=by
  funext m
  have:((i:Int)+(m:Int)*1).toNat=i+m:=by omega
  rw[this]
 rw[e];have:=pick_run xs i k;rw[LM]at this;have a:((λx=>xs[x]?) ∘ λx=>i+x)=λm=>xs[i+m]?:=rfl;rw[a]at this;rw[this]
def getItem_tuple_cut{t sl:Addr}{a:Array Value}{j l:Value}{lo c:Option Int}{Q:Value->Shared->Prop}(f:IsTup s.heap t a)(g:s.heap.IsSliceOf sl j l .none)(pl:IsPart j lo)(x:IsPart l c)
  (v:¬ (sIx a.size 0 lo=0/\sIx a.size a.size c=a.size))
  (h:Q (.ref s.heap.objs.size) { s with heap:=s.heap.push { cls:=.type "tuple",data:=.seq ((a.toList.drop (sIx a.size 0 lo)).take (sIx a.size a.size c-sIx a.size 0 lo)).toArray } })
  (hsz:a.size<=sizeLine):wpAny (model prog w) A (getItem (.ref t) (.ref sl)) Q E s:=by
 have e:sizeOk (.seq ((a.toList.drop (sIx a.size 0 lo)).take (sIx a.size a.size c-sIx a.size 0 lo)).toArray):=by show ((a.toList.drop (sIx a.size 0 lo)).take (sIx a.size a.size c-sIx a.size 0 lo)).toArray.size<=sizeLine;rw[Il,I0,Jm,Jl];omega
 have z:sIx a.size a.size c<=a.size:=EU _ _ (Ih _) c;obtain⟨os,p,r,y⟩:=id g;have u:s.TypeIs (.ref sl) "slice":=⟨os,p,r⟩;unfold getItem
 try with_reducible refine JT ?_
 first|refine HZ (Io ?_)|skip
 refine HZ (wpAny_sequenceKey f.typeIs (by decide) ?_)
 refine HZ (JV (name:=Str.ofString "__getitem__") f.typeIs JB
  (Ku JB f.typeIs entry_tuple_getitem ?_ (args_tuple_getitem _ _)))
 show wpAny _ _ (Builtin.Tuple.tupleItemsOf (.ref t) >>= _) _ _ s;refine HZ (tupleItemsOf_ f ?_);refine HZ (Me u ?_);rw[Ia (by decide)];refine HZ (sD g pl x ?_)
 have o:¬ ((((sIx a.size 0 lo:Nat):Int)==0&&(1:Int)==1&&(sIx a.size a.size c-sIx a.size 0 lo)==a.size)=true):=by
  intro q;rw[Iz,Iz]at q;have B:((sIx a.size 0 lo:Nat):Int)=0:=eq_of_beq q.1.1;have C:sIx a.size a.size c-sIx a.size 0 lo=a.size:=eq_of_beq q.2;exact v ⟨by omega,by omega⟩
 show wpAny _ _ (if (((sIx a.size 0 lo:Nat):Int)==0&&(1:Int)==1&&(sIx a.size a.size c-sIx a.size 0 lo)==a.size)=true then _ else _) _ _ s;rw[Ib o,ye]
 first
  |exact HZ (m:=Builtin.Tuple.tupleExact _) (JX (Io ⟨_,rfl,Io h⟩) e)
  |exact HZ (m:=Builtin.Tuple.tupleExact _) (JX (HZ (Io (Io ⟨_,rfl,Io h⟩))) e)
  |exact HZ (HZ (m:=Builtin.Tuple.tupleExact _) (JX (Io (Io ⟨_,rfl,Io h⟩)) e))
  |exact HZ (HZ (m:=Builtin.Tuple.tupleExact _) (JX (Io ⟨_,rfl,Io h⟩) e))
end
end HT
namespace L2
open PySem PySem.Spec PyProof.Rows
noncomputable abbrev TO:=St->Hp->(Option Int->Hp->Prop)->Prop
noncomputable def PO(X:Cx)(e:Option Expr)(t:TO):Prop:=
 ∀(a:List (Addr×Obj))(s:Shared)(c:St)(H:Hp)(Q:Option Int->Hp->Prop),Inv X a c H s->t c H Q->
  wpAny (model X.prog X.w) X.A (evalPart e X.env) (λu s'=>∃o f,Inv X a c f s'/\IsPart u o/\Q o f) X.xe s
noncomputable def xl:TO:=λ_ H Q=>Q none H
noncomputable def Cf(t:TE):TO:=λc H Q=>t c H λx a=>∃i,x=.int i/\Q (some i) a
section
variable{X:Cx}{e:Expr}{te:TE}{lo hi:Option Expr}{tl th:TO}{pos p2:Pos}
def po_none:PO X none xl:=by intro a s c H Q I h;rw[evalPart_none];exact Io ⟨none,H,I,.none,h⟩
def Di(h:PE X e te):PO X (some e) (Cf te):=by intro a s o H Q I j;rw[evalPart_some];refine aq (h a s o H _ I j) λu p g=>?_;obtain⟨x,c,f,m,l⟩:=g;obtain⟨i,rfl,q⟩:=l;obtain⟨t,rfl⟩:=m;exact⟨some i,c,f,.int i t,q⟩
noncomputable def SlR(X:Cx)(r:V->Option Int->Option Int->Hp->VK->Prop):Prop:=
 ∀(a:List (Addr×Obj))(s:Shared)(g:St)(H:Hp)(x:V)(v c f:Value)(lo hi:Option Int)(sl:Addr)(Q:VK),Inv X a g H s->RelV x v->s.heap.IsSliceOf sl c f .none->IsPart c lo->IsPart f hi->r x lo hi H Q->
  ∃T id,typeLookup (.type T) "__getitem__"=pure (some (.builtin id))/\s.TypeIs v T/\wpAny (model X.prog X.w) X.A (getItem v (.ref sl)) (EP X a g Q) X.xe s
def SlR.or{r g:V->Option Int->Option Int->Hp->VK->Prop}(h:SlR X r)(h':SlR X g):SlR X (λx lo hi H Q=>r x lo hi H Q\/g x lo hi H Q):=by
 intro a s o H x v l m lo hi sl Q I j c pl f q;rcases q with q|q
 ·exact h a s o H x v l m lo hi sl Q I j c pl f q
 ·exact h' a s o H x v l m lo hi sl Q I j c pl f q
noncomputable def Dv(r:V->Option Int->Option Int->Hp->VK->Prop)(te:TE)(tl th:TO):TE:=λa H Q=>te a H λx c=>tl a c λl f=>th a f λu g=>r x l u g Q
def FA{r:V->Option Int->Option Int->Hp->VK->Prop}(F:SlR X r)(B:PE X e te)(E:PO X lo tl)(J:PO X hi th):PE X (.Subscript e (.Slice lo hi none p2) pos) (Dv r te tl th):=by
 intro a s f H Q I h;refine Subscript_ (aq (B a s f H _ I h) λv R ⟨x,o,t,P,M⟩=>?_);refine wpAny_Slice (aq (E a R f o _ t M) λg S ⟨l,p,w,pl,N⟩=>aq (J a S f p _ w N) λj c ⟨u,m,y,K,O⟩=>?_);rw[evalPart_none];refine Io ?_;have z:Inv X a f m { c with heap:=c.heap.push { cls:=.type "slice",data:=.fields #[g,j,.none] } }:=y.kept (t':=c.toks) λb U q=>Ig _ q;obtain⟨T,id,A,G,C⟩:=F a { c with heap:=c.heap.push { cls:=.type "slice",data:=.fields #[g,j,.none] } } f m x v g j l u c.heap.objs.size Q z P (Heap.IsSliceOf.new ..) pl K O;show wpAny (model X.prog X.w) X.A (subscriptTail e (.Slice lo hi none p2) v (.ref c.heap.objs.size)) (EP X a f Q) X.xe { c with heap:=c.heap.push { cls:=.type "slice",data:=.fields #[g,j,.none] } };exact tail_any (ops:=[.ref c.heap.objs.size,v]) G A C (by with_unfolding_all rfl)
noncomputable def gK(xs:List V)(lo hi:Option Int):List V:=(xs.drop (HT.sIx xs.length 0 lo)).take (HT.sIx xs.length xs.length hi-HT.sIx xs.length 0 lo)
def v3(xs:List V)(lo hi:Option Int):(gK xs lo hi).length<=xs.length:=by unfold gK;rw[I0,Jm];omega
noncomputable def uS(K:Frag):V->Option Int->Option Int->Hp->VK->Prop:=λx lo hi H Q=>∃a xs,x=.ref a/\SqT K H a xs /\
 ¬ (HT.sIx xs.length 0 lo=0/\HT.sIx xs.length xs.length hi=xs.length)/\∀p,H p=none->Q (.ref p) (aj H p (.tup (gK xs lo hi)))
def sl_tup:SlR X (uS X.K):=by
 intro j s B H x v z A lo hi sl Q I w m pl u h;obtain⟨a,xs,rfl,t,p,q⟩:=h;cases w;obtain⟨l,r,f,g⟩:=I.tuple t
 have c:l.toArray.size=xs.length:=by rw[Il];exact r.length.symm
 refine⟨"tuple",_,JB.lookup,f.typeIs,?_⟩;refine HT.getItem_tuple_cut f m pl u (by rw[c];exact p) ?_ (by rw[c];exact g);rw[c];refine⟨.ref s.heap.objs.size,_,I.laid (t':=s.toks) (o:=.tup (gK xs lo hi)) (λb y q=>Ig _ q) (Ih _) ?_,rfl,q _ (I.hok.fresh (Ih _))⟩;exact⟨IF (v3 xs lo hi) g,_,(r.drop (HT.sIx xs.length 0 lo)).take (HT.sIx xs.length xs.length hi-HT.sIx xs.length 0 lo),IsTupD.new _ _⟩
noncomputable def yS(K:Frag):R2:=λx y H Q=>∃a b xs ys,x=.ref a/\y=.ref b/\SqT K H a xs/\SqT K H b ys/\xs≠[]/\xs.length+ys.length<=sizeLine /\
 (ys=[]->Q (.ref a) H)/\(ys≠[]->∀p,H p=none->Q (.ref p) (aj H p (.tup (xs++ys))))
def Vals.nil_iff{xs:List V}{us:List Value}(r:Vals xs us):us=[]↔xs=[]:=by
 cases r with
 |nil=>simp
 |cons _ _=>simp
def E9:bI X (binaryOp .Add) (yS X.K):=by intro j s J H x y v u Q I B C h;obtain⟨a,b,xs,ys,rfl,rfl,l,m,p,g,t,A⟩:=h;cases B;cases C;obtain⟨E,f,r,_⟩:=I.tuple l;obtain⟨F,c,p2,_⟩:=I.tuple m;refine HT.cat_tup r p2 (λz=>p (f.nil_iff.mp z)) (λz=>⟨.ref a,H,I,rfl,t (c.nil_iff.mp z)⟩) (λz=>?_) (by rw[←f.length,←c.length];exact g);refine⟨.ref s.heap.objs.size,_,I.laid (t':=s.toks) (o:=.tup (xs++ys)) (λb G q=>Ig _ q) (Ih _) ?_,rfl,A (λw=>z (c.nil_iff.mpr w)) _ (I.hok.fresh (Ih _))⟩;exact⟨by rw[HY];exact g,_,f.append c,IsTupD.new _ _⟩
end
noncomputable def ei(n:Nat)(i:Int):Option Nat:=if 0<=i then (if i<n then some i.toNat else none) else if -(n:Int)<=i then some (i+n).toNat else none
noncomputable def bK{a:Type}(xs:List a)(i:Int):Option a:=(ei xs.length i).bind λj=>xs[j]?
def sB{n:Nat}{i:Int}{j:Nat}(h:ei n i=some j):seqIndex? i n=some j/\j<n/\-(n:Int)<=i/\i<n:=by
 unfold ei at h;by_cases c:0<=i
 ·rw[Ia c]at h;by_cases a:i<n
  ·rw[Ia a]at h;have e:i.toNat=j:=IK h;exact⟨by rw[seqIndex_of c a,e],by omega,by omega,a⟩
  ·rw[Ib a]at h;cases h
 ·rw[Ib c]at h;by_cases a:-(n:Int)<=i
  ·rw[Ia a]at h;have e:(i+n).toNat=j:=IK h;exact⟨by rw[seqIndex_neg (by omega) a,e],by omega,a,by omega⟩
  ·rw[Ib a]at h;cases h
def qE{a:Type}{xs:List a}{i:Int}{v:a}(h:bK xs i=some v):∃j,seqIndex? i xs.length=some j/\xs[j]?=some v/\j<xs.length/\-(xs.length:Int)<=i/\i<xs.length:=by
 unfold bK at h
 cases e:ei xs.length i with
 |none=>rw[e]at h;cases h
 |some j=>
  rw[e]at h;obtain⟨c,f,g,l⟩:=sB e;exact⟨j,c,h,f,g,l⟩
def BJ{a:Type}{xs:List a}{j:Nat}{v:a}(h:xs[j]?=some v):bK xs (j:Int)=some v:=by
 have c:j<xs.length:=(Jk.mp h).1
 have e:ei xs.length (j:Int)=some j:=by unfold ei;rw[Ia (by omega),Ia (by omega)];simp
 unfold bK;rw[e];exact h
noncomputable def oo(b:Expr):Prop:=∀o i,subscripted b false o i=operate [o,i] (getItem o i)
noncomputable def jK(X:Cx)(r:R2):Prop:=
 ∀(e a:Expr)(c:List (Addr×Obj))(s:Shared)(f:St)(H:Hp)(x y:V)(v u:Value)(Q:VK),Inv X c f H s->RelV x v->RelV y u->r x y H Q->
  subscripted a false v u=operate [v,u] (getItem v u)->wpAny (model X.prog X.w) X.A (subscriptTail e a v u) (EP X c f Q) X.xe s
noncomputable def jr(X:Cx)(id:String)(r:V->List V->Hp->VK->Prop):Prop:=
 ∀(a:List (Addr×Obj))(s:Shared)(c:St)(H:Hp)(x:V)(xs:List V)(v:Value)(us:List Value)(Q:VK),Inv X a c H s->RelV x v->Vals xs us->r x xs H Q->
  wpAny (model X.prog X.w) X.A (call (.builtin id) (v::us)) (EP X a c Q) X.xe s
section
variable{X:Cx}{a b:Expr}{ta tb:TE}{pos:Pos}
def vH{r:R2}(l:jK X r)(g:PE X a ta)(j:PE X b tb)(m:oo b):PE X (.Subscript a b pos) (g9 r ta tb):=by intro c s w H Q I h;exact Subscript_ (p6 g j I h λv u t x y e f o p q=>l a b c t w e x y v u Q f o p q (m _ _))
noncomputable def yL(K:Frag):R2:=λx y H Q=>∃p xs i v,x=.ref p/\y=.int i/\SqL K H p xs/\bK xs i=some v/\Q v H
noncomputable def BL(K:Frag):R2:=λx y H Q=>∃p xs i v,x=.ref p/\y=.int i/\SqT K H p xs/\bK xs i=some v/\Q v H
noncomputable def Gh:R2:=λx y H Q=>∃z i c,x=.str z/\y=.int i/\z.length<=sizeLine/\bK z.cps.toList i=some c/\Q (.str ⟨#[c]⟩) H
def tw:jK X (yL X.K):=by
 intro m l c s C H x y v u Q I P R h B;obtain⟨p,xs,i,z,rfl,rfl,O,M,q⟩:=h;cases P;obtain⟨t,rfl⟩:=R;obtain⟨E,r,pl,U⟩:=I.list O;obtain⟨j,f,G,S,J,K⟩:=qE M;obtain⟨w,o,F⟩:=r.get G;have N:=r.length;have T:=hX;have e:EP X c C Q w s:=⟨z,H,I,F,q⟩;by_cases A:0<=i
 ·have g:i.toNat=j:=by rw[seqIndex_of A K]at f;exact IK f
  exact item_listR pl.isList A (by omega) (by rw[g];simpa using o) e B
 ·have g:(i+(E.toArray.size:Int)).toNat=j:=by rw[seqIndex_neg (by omega) J]at f;rw[Il,←N];exact IK f
  exact subscriptTail_builtinR (x:=w) pl.isList.typeIs slot_list_getitem.lookup
   (wpAny_getItem_list_neg (Q:=λr s'=>r=w/\EP X c C Q r s') pl.isList (by omega) (by rw[Il]<;>omega) (by omega) (by rw[g];simpa using o) ⟨rfl,e⟩) B
def B6:jK X (BL X.K):=by
 intro g f c s l H x y v u Q I J K h G;obtain⟨p,xs,i,z,rfl,rfl,F,C,q⟩:=h;cases J;obtain⟨t,rfl⟩:=K;obtain⟨M,r,pl,S⟩:=I.tuple F;obtain⟨j,A,B,N,O,P⟩:=qE C;obtain⟨w,o,m⟩:=r.get B;have E:=r.length;have R:=hX;have e:EP X c l Q w s:=⟨z,H,I,m,q⟩
 exact subscriptTail_builtinR (x:=w) pl.typeIs slot_tuple_getitem.lookup
  (getItem_tuple (j:=j) (Q:=λr s'=>r=w/\EP X c l Q r s') pl (by omega) (by omega) (by rw[Il,←E];exact A) (by simpa using o) ⟨rfl,e⟩) G
def zV:jK X Gh:=by
 intro f e l s M H x y v u Q I E F h C;obtain⟨z,i,c,rfl,rfl,K,A,q⟩:=h;obtain⟨t,rfl⟩:=E;obtain⟨t',rfl⟩:=F;obtain⟨j,g,p,G,r,w⟩:=qE A
 have B:z.cps.toList.length=z.length:=by simp[Str.length]
 rw[B]at g r w;have J:=hX
 exact tail_any (Lw s z t) slot_str_getitem.lookup (getItem_str (c:=c) (by
  have m:decide (i < -(2^63:Int))=false:=ID (by omega);have o:decide (i≥2^63)=false:=ID (by omega)
  rw[m,o,Bool.or_false]) (by rw[g];simpa using p) ⟨.str ⟨#[c]⟩,H,I.tok _,⟨_,rfl⟩,q⟩) C
def Aw(c:List Value)(n j:Nat)(u:Value):Obj.mapSeq (·.setIfInBounds j u) { cls:=.type "list",data:=.seq c.toArray n }={ cls:=.type "list",data:=.seq (c.set j u).toArray n }:=by simp[Obj.mapSeq]
def Inv.lst{c:List (Addr×Obj)}{g:St}{H:Hp}{s:Shared}{p:Addr}{xs:List V}(I:Inv X c g H s)(h:H p=some (.lst xs)) :
  ∃(f:List Value)(n:Nat),Vals xs f/\s.heap.get? p=some { cls:=.type "list",data:=.seq f.toArray n }/\xs.length<=sizeLine:=by
 obtain⟨z,f,n,r,e⟩:=I.hok p _ h;exact⟨f,n,r,e,z⟩
def Inv.lstUpd{c:List (Addr×Obj)}{m:St}{H:Hp}{s:Shared}{p:Addr}{xs ys:List V}{j Na:List Value}{n g:Nat}{f:Obj->Obj}(I:Inv X c m H s)(h:H p=some (.lst xs))
  (v:s.heap.get? p=some { cls:=.type "list",data:=.seq j.toArray n }) (l:f { cls:=.type "list",data:=.seq j.toArray n }={ cls:=.type "list",data:=.seq Na.toArray g }) (r:Vals ys Na) (w:ys.length<=sizeLine) (t:Nat) :
  Inv X c m (aj H p (.lst ys)) { s with heap:=s.heap.update p f,toks:=t }:=by
 have e:(s.heap.update p f).get? p=some { cls:=.type "list",data:=.seq Na.toArray g }:=by
  rw[J3 f v (by rw[l]<;>rfl),l]
 refine I.write (x:=p) (e:=p) (by rw[h];trivial) (.inl rfl) (λb u o q=>(JP _ _ (Jj o)).trans q) ⟨_,e⟩ ?_;exact⟨w,Na,g,r,e⟩
noncomputable def xI:V->V->V->Hp->(Hp->Prop)->Prop:=λo i v H Q=>∃p xs k j,o=.ref p/\i=.int k/\H p=some (.lst xs)/\ei xs.length k=some j/\Q (aj H p (.lst (xs.set j v)))
def uT:pz X xI:=by
 intro c s G H o i v N M u Q I ro E F h;obtain⟨p,xs,k,j,rfl,rfl,A,B,q⟩:=h;cases ro;obtain⟨t,rfl⟩:=E;obtain⟨w,n,r,l,C⟩:=I.lst A;obtain⟨e,J,y,z⟩:=sB B;have g:=r.length;have K:=hX
 have m:Inv X c G (aj H p (.lst (xs.set j v))) { s with heap:=s.heap.update p (Obj.mapSeq (·.setIfInBounds j u)) }:=
  I.lstUpd A l (Aw w n j u) (r.set F j) (by rw[Im];exact C) s.toks
 by_cases x:0<=k
 ·have f:k.toNat=j:=by rw[seqIndex_of x z]at e;exact IK e
  exact PySem.W.ki_setAt l x (by omega) (by rw[Il,←g];exact z) (by rw[f];exact⟨_,m,q⟩)
 ·have f:(k+(w.toArray.size:Int)).toNat=j:=by rw[seqIndex_neg (by omega) y]at e;rw[Il,←g];exact IK e
  exact PySem.W.ki_setBack l (by omega) (by rw[Il,←g];exact y) (by omega) (by rw[f];exact⟨_,m,q⟩)
def xu(lo c:Option Int)(n:Nat):(sliceBounds lo c none n).1=((HT.sIx n 0 lo:Nat):Int)/\(sliceBounds lo c none n).2.1=((HT.sIx n n c:Nat):Int)/\(sliceBounds lo c none n).2.2=1:=by
 refine⟨?_,?_,rfl⟩
 ·cases lo with
  |none=>simp[sliceBounds,HT.sIx]
  |some i=>
   simp only[sliceBounds,HT.sIx,Option.getD_none,show (1:Int)>0 by decide,KQ];by_cases h:i<0
   ·simp only[h,KQ]<;>omega
   ·simp only[h,Md]<;>omega
 ·cases c with
  |none=>simp[sliceBounds,HT.sIx]
  |some i=>
   simp only[sliceBounds,HT.sIx,Option.getD_none,show (1:Int)>0 by decide,KQ];by_cases h:i<0
   ·simp only[h,KQ]<;>omega
   ·simp only[h,Md]<;>omega
def Cu(c:List Value)(lo e:Option Int):slicePick c.toArray lo e none=((c.drop (HT.sIx c.length 0 lo)).take (HT.sIx c.length c.length e-HT.sIx c.length 0 lo)).toArray:=by obtain⟨f,g,h⟩:=xu lo e c.toArray.size;unfold slicePick;rw[f,g,h];simp only[sliceRange_one,pick_run,Il]<;>rfl
noncomputable def r8(K:Frag):V->Option Int->Option Int->Hp->VK->Prop:=λx lo c H Q=>∃a xs,x=.ref a/\SqL K H a xs/\∀p,H p=none->Q (.ref p) (aj H p (.lst (gK xs lo c)))
def sl_list:SlR X (r8 X.K):=by
 intro g s A H x v y z lo e sl Q I t j pl p h;obtain⟨a,xs,rfl,l,q⟩:=h;cases t;obtain⟨u,r,f,m⟩:=I.list l;have c:=r.length;refine⟨"list",_,slot_list_getitem.lookup,f.isList.typeIs,?_⟩;refine wpAny_getItem_list_slice f.isList j pl p .none (by simp) ?_ (by rw[Il]<;>omega);rw[Cu,←c];refine⟨.ref s.heap.objs.size,_,I.laid (t':=s.toks) (o:=.lst (gK xs lo e)) (λb w q=>Ig _ q) (Ih _) ?_,rfl,q _ (I.hok.fresh (Ih _))⟩;exact⟨IF (v3 xs lo e) m,_,0,(r.drop (HT.sIx xs.length 0 lo)).take (HT.sIx xs.length xs.length e-HT.sIx xs.length 0 lo),Iy _ rfl⟩
noncomputable def gf:V->Bool
 |.non=>true
 |.bl _=>true
 |.int _=>true
 |.str _=>true
 |_=>false
noncomputable def gt:V->V->Bool
 |.non,.non=>true
 |.bl a,.bl b=>a==b
 |.bl a,.int b=>(if a then 1 else 0)==b
 |.int a,.bl b=>a==(if b then 1 else 0)
 |.int a,.int b=>a==b
 |.str a,.str b=>a==b
 |_,_=>false
def BV{A:Around}{s:Shared}{y x:V}{u v:Value}(f:RelV y u)(c:RelV x v)(g:gf y=true)(e:gf x=true):SeqAt.EqAt A s u v (gt y x):=by
 cases y with
 |non=>
  cases f
  cases x with
  |non=>cases c;exact SeqAt.EqAt.same _
  |bl b=>cases c;exact SeqAt.EqAt.none_bool b
  |int b=>obtain⟨t,rfl⟩:=c;exact SeqAt.EqAt.none_int b t
  |str b=>obtain⟨t,rfl⟩:=c;exact SeqAt.EqAt.none_str b t
  |_=>exact absurd (show false=true from e) IV
 |bl a=>
  cases f
  cases x with
  |non=>cases c;exact SeqAt.EqAt.bool_none a
  |bl b=>cases c;exact SeqAt.EqAt.bool_bool a b
  |int b=>obtain⟨t,rfl⟩:=c;exact SeqAt.EqAt.bool_int a b t
  |str b=>obtain⟨t,rfl⟩:=c;exact SeqAt.EqAt.bool_str a b t
  |_=>exact absurd (show false=true from e) IV
 |int a=>
  obtain⟨t',rfl⟩:=f
  cases x with
  |non=>cases c;exact SeqAt.EqAt.int_none a t'
  |bl b=>cases c;exact SeqAt.EqAt.int_bool a t' b
  |int b=>obtain⟨t,rfl⟩:=c;exact SeqAt.EqAt.int_int a t' b t
  |str b=>obtain⟨t,rfl⟩:=c;exact SeqAt.EqAt.int_str a t' b t
  |_=>exact absurd (show false=true from e) IV
 |str a=>
  obtain⟨t',rfl⟩:=f
  cases x with
  |non=>cases c;exact SeqAt.EqAt.str_none a t'
  |bl b=>cases c;exact SeqAt.EqAt.str_bool a t' b
  |int b=>obtain⟨t,rfl⟩:=c;exact SeqAt.EqAt.str_int a t' b t
  |str b=>obtain⟨t,rfl⟩:=c;exact SeqAt.EqAt.str_str a t' b t
  |_=>exact absurd (show false=true from e) IV
 |_=>exact absurd (show false=true from g) IV
noncomputable def dD(x:V)(u:Value):Bool:=match u with
 |.none=>gt .non x
 |.bool b=>gt (.bl b) x
 |.int i _=>gt (.int i) x
 |.str z _=>gt (.str z) x
 |_=>false
def vB{x y:V}{u:Value}(r:RelV y u)(f:gf y=true):dD x u=gt y x:=by
 cases y with
 |non=>cases r;rfl
 |bl b=>cases r;rfl
 |int i=>obtain⟨t,rfl⟩:=r;rfl
 |str z=>obtain⟨t,rfl⟩:=r;rfl
 |_=>exact absurd (show false=true from f) IV
def kE{x:V}:∀{xs:List V}{us:List Value},Vals xs us->xs.all gf=true->us.any (dD x)=xs.any λy=>gt y x
 |_,_,.nil,_=>rfl
 |y::xs,u::us,.cons r t,f=>by rw[LZ,Iz]at f;rw[Kn,Kn,vB r f.1,kE t f.2]
def jI{A:Around}{s:Shared}{x:V}{v:Value}(g:RelV x v)(e:gf x=true):∀{xs:List V}{us:List Value},Vals xs us->xs.all gf=true->∀u∈us,SeqAt.EqAt A s u v (dD x u)
 |_,_,.nil,_=>λu c=>by cases c
 |y::xs,u::us,.cons r t,f=>λh c=>by
  rw[LZ,Iz]at f;rcases Ik.mp c with rfl|c
  ·rw[vB r f.1];exact BV r g f.1 e
  ·exact jI g e t f.2 h c
noncomputable def eY(x:V)(xs:List V):Bool:=xs.any λy=>gt y x
noncomputable def sN(K:Frag)(c:Bool):R2:=λx y H Q=>∃p xs,y=.ref p/\(SqL K H p xs\/SqT K H p xs)/\gf x=true/\xs.all gf=true/\Q (.bl (if c then !eY x xs else eY x xs)) H
def vI:bI X (compareOp .In) (sN X.K false):=by
 intro j s t H x y v u Q I l o h;obtain⟨p,xs,rfl,e,g,fs,q⟩:=h;cases o;rcases e with e|e
 ·obtain⟨c,r,pl,m⟩:=I.list e;refine SeqAt.in_listAt (dD x) pl.isList (λw f=>jI l g r fs w (by simpa using f)) ⟨.bl _,H,I,rfl,?_⟩;rw[show c.toArray.any (dD x)=c.any (dD x)by simp,kE r fs];exact q
 ·obtain⟨c,r,pl,m⟩:=I.tuple e;refine SeqAt.in_tupleAt (dD x) pl (λw f=>jI l g r fs w (by simpa using f)) ⟨.bl _,H,I,rfl,?_⟩;rw[show c.toArray.any (dD x)=c.any (dD x)by simp,kE r fs];exact q
def EC:bI X (compareOp .NotIn) (sN X.K true):=by
 intro j s t H x y v u Q I l o h;obtain⟨p,xs,rfl,e,g,fs,q⟩:=h;cases o;rcases e with e|e
 ·obtain⟨c,r,pl,m⟩:=I.list e;refine SeqAt.notIn_listAt (dD x) pl.isList (λw f=>jI l g r fs w (by simpa using f)) ⟨.bl _,H,I,rfl,?_⟩;rw[show c.toArray.any (dD x)=c.any (dD x)by simp,kE r fs];exact q
 ·obtain⟨c,r,pl,m⟩:=I.tuple e;refine SeqAt.notIn_tupleAt (dD x) pl (λw f=>jI l g r fs w (by simpa using f)) ⟨.bl _,H,I,rfl,?_⟩;rw[show c.toArray.any (dD x)=c.any (dD x)by simp,kE r fs];exact q
def qC:eU X (.builtin "len") (λxs H Q=>∃p ys,xs=[.ref p]/\(SqL X.K H p ys\/SqT X.K H p ys)/\Q (.int ys.length) H):=by
 intro g s t H xs us Q I r h;obtain⟨p,ys,rfl,e,q⟩:=h;obtain⟨u,rfl,m⟩:=gQ r;cases m;have o:=hX;rcases e with e|e
 ·obtain⟨j,f,pl,l⟩:=I.list e;have c:=f.length;exact Calls.call_len_list pl.isList (by simp only[Il]<;>omega) ⟨.int ys.length,H,I.tok _,⟨s.toks+1,by rw[Il,c]⟩,q⟩
 ·obtain⟨j,f,pl,l⟩:=I.tuple e;have c:=f.length;exact len_tuple pl (by simp only[Il]<;>omega) ⟨.int ys.length,H,I.tok _,⟨s.toks+1,by rw[Il,c]⟩,q⟩
def wD:eU X (.builtin "len") (λxs H Q=>∃z,xs=[.str z]/\z.length<=sizeLine/\Q (.int z.length) H):=by
 intro c s g H xs us Q I r h;obtain⟨z,rfl,f,q⟩:=h;obtain⟨u,rfl,t,rfl⟩:=gQ r;have e:=hX;exact len_str (by omega) ⟨.int z.length,H,I.tok _,⟨_,rfl⟩,q⟩
def qm:eU X (.type "tuple") (λxs H Q=>∃p ys,xs=[.ref p]/\((SqL X.K H p ys/\∀l,H l=none->Q (.ref l) (aj H l (.tup ys)))\/(SqT X.K H p ys/\Q (.ref p) H))):=by
 intro c s w H xs us Q I r h;obtain⟨p,ys,rfl,h⟩:=h;obtain⟨u,rfl,y⟩:=gQ r;cases y;rcases h with⟨g,q⟩|⟨g,q⟩
 ·obtain⟨f,j,pl,v⟩:=I.list g;have t:=j.length;refine call_tuple_list pl.isList (λh' kp=>?_) (by simp only[Il]<;>omega);have m:Inv X c w H { s with heap:=h' }:=I.kept (t':=s.toks) kp
  have x:Inv X c w (aj H h'.objs.size (.tup ys)) { s with heap:=h'.push { cls:=.type "tuple",data:=.seq f.toArray } }:=
   m.laid (t':=s.toks) (λb o e=>Ig _ e) (Ih _) (show ObjOk X.prog X.w _ _ _ (.tup ys)from ⟨v,f,j,IsTupD.new _ _⟩)
  exact⟨.ref h'.objs.size,_,x,rfl,q _ (m.hok.fresh (Ih _))⟩
 ·obtain⟨f,j,pl,v⟩:=I.tuple g;exact call_tuple_same pl ⟨.ref p,H,I,rfl,q⟩
noncomputable def o9(K:Frag)(T:String)(x:V)(H:Hp):Prop:=match x with
 |.str _=>T="str"
 |.int _=>T="int"
 |.ref p=>(T="list"/\∃xs,SqL K H p xs)\/(T="tuple"/\((∃xs,H p=some (.tup xs))\/∃o,K.lookup p=some o/\o.cls=.type "tuple"/\o.dict=none)) \/
   (T="dict"/\((∃c,H p=some (.dK c))\/∃c,H p=some (.dT c)))\/(T="set"/\∃S n,H p=some (.set S n))
 |_=>False
def rD{h:List (Addr×Obj)}{y:St}{H:Hp}{s:Shared}{T:String}{x:V}{v:Value}(I:Inv X h y H s)(r:RelV x v)(j:o9 X.K T x H) :
  s.TypeIs v T/\∀a,v=.ref a->∃l,s.heap.get? a=some l/\l.dict=none:=by
 cases x with
 |str z=>
  obtain⟨t,rfl⟩:=r;cases (show T="str" from j);exact⟨Lw s z t,λ_ e=>nomatch e⟩
 |int i=>
  obtain⟨t,rfl⟩:=r;cases (show T="int" from j);exact⟨L6 s i t,λ_ e=>nomatch e⟩
 |ref p=>
  cases r;rcases j with⟨rfl,xs,w⟩|⟨rfl,⟨xs,f⟩|⟨o,f,u,hd⟩⟩|⟨rfl,f⟩|⟨rfl,S,n,f⟩
  ·obtain⟨A,_,pl,_⟩:=I.list w;refine⟨pl.isList.typeIs,λa e=>?_⟩;cases e;obtain⟨o,n,e,c,hd,_⟩:=pl;exact⟨o,e,hd⟩
  ·obtain⟨_,_,_,o,e,⟨c,hd⟩,_⟩:=I.hok p _ f;refine⟨⟨o,e,c⟩,λa g=>?_⟩;cases g;exact⟨o,e,hd⟩
  ·refine⟨⟨o,I.kIn p o f,u⟩,λa e=>?_⟩;cases e;exact⟨o,I.kIn _ o f,hd⟩
  ·have z:∃o,s.heap.get? p=some o/\o.ExactDict:=by
    rcases f with⟨m,f⟩|⟨m,f⟩
    ·obtain⟨_,_,_,_,o,_,_,e,ex,_⟩:=I.hok p _ f;exact⟨o,e,ex⟩
    ·obtain⟨_,_,_,_,o,_,_,e,ex,_⟩:=I.hok p _ f;exact⟨o,e,ex⟩
   obtain⟨o,e,ex⟩:=z;refine⟨⟨o,e,ex.1⟩,λa g=>?_⟩;cases g;exact⟨o,e,ex.2.1⟩
  ·obtain⟨o,_,_,_,e,ex,_⟩:=I.hok p _ f;refine⟨⟨o,e,ex.1⟩,λa g=>?_⟩;cases g;exact⟨o,e,ex.2.1⟩
 |_=>exact False.elim j
noncomputable def CP(K:Frag)(T:String)(r:V->List V->Hp->VK->Prop)(to:TE):TE:=λe H Q=>to e H λx c=>o9 K T x c/\r x [] c Q
noncomputable def Be(K:Frag)(T:String)(r:V->List V->Hp->VK->Prop)(to:TE)(t:TA):TE:=λe H Q=>to e H λx c=>o9 K T x c/\t e c λxs f=>r x xs f Q
variable{o e:Expr}{es:List Expr}{to:TE}{t:TA}{name:Str}{apos MW:Pos}{T id:String}{r:V->List V->Hp->VK->Prop}
def vi(C:PlainAttrs T)(slot:Slot T name id)(w:typeOf (.builtin id)=pure (.type "method_descriptor"))(A:jr X id r)(B:PE X o to)
  (m:attributeBase o name X.env (eval o X.env)=eval o X.env:=by rfl) (p:(apos.endLine==MW.line)=true:=by rfl):PE X (.Call (.Attribute o name apos) [] [] MW) (CP X.K T r to):=by
 intro c s j H Q I h;refine wpAny_Call_method0_late m p (aq (B c s j H _ I h) λv F u=>?_);obtain⟨x,l,f,g,G,E⟩:=u;obtain⟨y,z⟩:=rD f g G;exact⟨T,id,C,slot,w,y,z,Calls.callWith_builtin rfl (PySem.evalArgs_none (A c F j l x [] v [] Q f g .nil E))⟩
def hG(O:PlainAttrs T)(slot:Slot T name id)(E:typeOf (.builtin id)=pure (.type "method_descriptor"))(K:jr X id r)(M:PE X o to)(J:PA X (e::es) t)
  (w:attributeBase o name X.env (eval o X.env)=eval o X.env:=by rfl)
  (A:((backTo MW (starEach (e::es) X.env)).all (λx=>!x.1)&&(backToKw MW (keywordEach [] X.env)).all (λx=>x.1.isSome)
   && decide ((e::es).length+([]:List Keyword).length+(if ([]:List Keyword).isEmpty then 0 else 1)<30))=true:=by rfl)
  (y:(apos.endLine==MW.line)=true:=by rfl) (N:starEach (e::es) X.env=(false,eval e X.env)::starEach es X.env:=by rfl) (C:(backTo MW (starEach es X.env)).any (·.1)=false:=by rfl) :
  PE X (.Call (.Attribute o name apos) (e::es) [] MW) (Be X.K T r to t):=by
 intro c s f H Q I h;refine wpAny_Call_method_late w A y rfl (aq (M c s f H _ I h) λv U z=>?_);obtain⟨x,m,g,l,Z,P⟩:=z;obtain⟨F,G⟩:=rD g l Z;refine⟨T,id,O,slot,E,F,G,?_⟩;have j:=J MW c U f m _ g P;rw[N]at j ⊢;refine Calls.callWith_builtin (by show (false ||(backTo MW (starEach es X.env)).any (·.1))=false;rw[C]<;>rfl) (Calls.evalArgs_plain ?_)
 exact aq j λus Y B=>by obtain⟨vs,p,u,S,R⟩:=B;exact K c Y f p x vs v us Q u l S R
end
noncomputable def mC(X:Cx)(id:String)(r:V->List V->Hp->VK->Prop):Prop:=
 ∀(a:List (Addr×Obj))(s:Shared)(c:St)(H:Hp)(x:V)(xs:List V)(v:Value)(us:List Value)(Q:VK),Inv X a c H s->RelV x v->Vals xs us->r x xs H Q->
  wpAny (model X.prog X.w) X.A (call (.builtin id) (v::us)) (EP X a c Q) X.xe s
def Vals.one:∀{x:V}{us:List Value},Vals [x] us->∃u,us=[u]/\RelV x u
 |_,_,.cons r .nil=>⟨_,rfl,r⟩
def Vals.zero:∀{us:List Value},Vals [] us->us=[]
 |_,.nil=>rfl
def Vals.dropLast{xs:List V}{us:List Value}(h:Vals xs us):Vals xs.dropLast us.dropLast:=by
 induction h with
 |nil=>exact .nil
 |cons r t a=>
  cases t with
  |nil=>exact .nil
  |cons q t'=>exact .cons r a
def Vals.eraseIdx:∀{xs:List V}{us:List Value}(i:Nat),Vals xs us->Vals (xs.eraseIdx i) (us.eraseIdx i)
 |_,_,_,.nil=>.nil
 |_,_,0,.cons _ t=>t
 |_,_,i+1,.cons r t=>.cons r (Vals.eraseIdx i t)
def Vals.rep{xs:List V}{us:List Value}(h:Vals xs us):∀k:Nat,Vals (List.replicate k xs).flatten (List.replicate k us).flatten
 |0=>.nil
 |k+1=>by rw[Jz,Jz,IY,IY];exact Vals.append h (Vals.rep h k)
def Cz{f:Type}(l:List f):l.eraseIdx (l.length-1)=l.dropLast:=by
 induction l with
 |nil=>rfl
 |cons a r c=>
  cases r with
  |nil=>rfl
  |cons b r=>
   have e:(a::b::r).length-1=((b::r).length-1)+1:=by
    have g:(a::b::r).length=r.length+2:=rfl;have h:(b::r).length=r.length+1:=rfl;omega
   rw[e,List.eraseIdx_cons_succ,c]
   all_goals rfl
def sy{a:Type}:∀(l:List a)(i:Nat),(l.eraseIdx i).length<=l.length
 | [],_=>Ih _
 |_::_,0=>MB _
 |_::r,i+1=>Nat.succ_le_succ (sy r i)
def pO(c:List Value):∀(k:Nat)(a:List Value),
  List.foldl (λg h=>g++h) a.toArray (List.replicate k c.toArray)=(a++(List.replicate k c).flatten).toArray
 |0,a=>by simp
 |k+1,a=>by
  have e:a.toArray++c.toArray=(a++c).toArray:=by simp
  have f:(a++c)++(List.replicate k c).flatten=a++(List.replicate (k+1) c).flatten:=by rw[Jz,IY,Iw]
  rw[←f,←pO c k (a++c),←e,Jz,List.foldl_cons]
section
variable{X:Cx}{pins:List (Addr×Obj)}{σ:St}{H:Hp}{s:Shared}{l:Addr}{xs ys:List V}
def Inv.lset{a Na:List Value}{n:Nat}{f:Array Value->Array Value}{t':Nat}(I:Inv X pins σ H s)(c:H l=some (.lst xs))
  (e:s.heap.get? l=some { cls:=.type "list",data:=.seq a.toArray n }) (h:f a.toArray=Na.toArray) (m:Vals ys Na) (o:ys.length<=sizeLine) :
  Inv X pins σ (aj H l (.lst ys)) { s with heap:=s.heap.update l (Obj.mapSeq f),toks:=t' }:=by
 have q:=PySem.IsL.update e f;rw[h]at q;refine I.write (x:=l) (e:=l) (by rw[c];exact trivial) (.inl rfl) (λp u g j=>(JP s.heap (Obj.mapSeq f) (Jj g)).trans j) ⟨_,q⟩ ?_;exact⟨o,Na,_,m,q⟩
def Inv.lnew{a:List Value}{t':Nat}(I:Inv X pins σ H s)(c:Vals ys a)(e:ys.length<=sizeLine) :
  Inv X pins σ (aj H s.heap.objs.size (.lst ys)) { s with heap:=s.heap.push { cls:=.type "list",data:=.seq a.toArray },toks:=t' }:=
 I.laid (λ_ _ q=>Ig _ q) (Ih _) ⟨e,a,0,c,Iy _ rfl⟩
def Inv.fresh(I:Inv X pins σ H s):H s.heap.objs.size=none:=I.hok.fresh (Ih _)
def Inv.lstM(I:Inv X pins σ H s)(c:H l=some (.lst xs)):xs.length<=sizeLine/\∃(a:List Value)(n:Nat),Vals xs a/\xs.length=a.length/\s.heap.get? l=some { cls:=.type "list",data:=.seq a.toArray n }:=by obtain⟨z,a,n,r,e⟩:=I.hok l _ c;exact⟨z,a,n,r,r.length,e⟩
def sf{n:Nat}(h:n<=sizeLine):Builtin.List.listTooLong n=false:=by unfold Builtin.List.listTooLong;exact ID (by omega)
end
section
variable{X:Cx}
noncomputable def Bh:V->List V->Hp->VK->Prop:=λx vs H Q=>∃l xs y,x=.ref l/\vs=[y]/\H l=some (.lst xs)/\xs.length<sizeLine/\Q .non (aj H l (.lst (xs++[y])))
def qO:mC X "list.append" Bh:=by intro f s t H x vs v us Q I m j h;obtain⟨l,xs,y,rfl,rfl,c,p,q⟩:=h;cases m;obtain⟨u,rfl,g⟩:=j.one;obtain⟨z,a,n,r,o,e⟩:=I.lstM c;refine JU F.slot_list_append ⟨_,e,rfl⟩ F.entry_list_append (F.args_list_append_2 _ _) (PySem.list_append l a.toArray n u (by rw[Il];omega)) ⟨e,?_⟩;refine⟨.non,_,I.lset (Na:=a++[u]) c e (by simp) (r.append (.cons g .nil)) ?_,rfl,q⟩;rw[HY,ME];omega
noncomputable def wf:V->List V->Hp->VK->Prop:=λx vs H Q=>∃l b xs a,x=.ref l/\vs=[.ref b]/\H l=some (.lst xs)/\H b=some (.lst a)/\xs.length+a.length<=sizeLine/\Q .non (aj H l (.lst (xs++a)))
def yX:mC X "list.extend" wf:=by
 intro g s K H x vs v us Q I A y h;obtain⟨l,b,xs,J,rfl,rfl,f,o,E,q⟩:=h;cases A;obtain⟨u,rfl,w⟩:=y.one;cases w;obtain⟨z,a,n,r,C,e⟩:=I.lstM f;obtain⟨G,c,p,t,B,m⟩:=I.lstM o
 have hsz:a.toArray.size+c.toArray.size<=sizeLine:=by rw[Il,Il];omega
 have j:¬ (!a.toArray.isEmpty&&Builtin.List.listTooLong (a.toArray.size+c.toArray.size))=true:=by rw[sf hsz,Bool.and_false];exact IV
 refine JU F.slot_list_extend ⟨_,e,rfl⟩ F.entry_list_extend (F.args_list_extend_2 _ _)
  (AutoSeq1.list_extend_list_list_0 l a.toArray n b c.toArray p j (by rw[Il];omega) (by omega)) ⟨e,m,?_⟩
 refine⟨.non,_,I.lset (Na:=a++c) f e (by simp) (r.append t) ?_,rfl,q⟩;rw[HY];omega
noncomputable def Dw:V->List V->Hp->VK->Prop:=λx vs H Q=>∃l xs y,x=.ref l/\vs=[]/\H l=some (.lst xs)/\xs[xs.length-1]?=some y/\Q y (aj H l (.lst xs.dropLast))
def tW:mC X "list.pop" Dw:=by
 intro g s B H x vs v us Q I A w h;obtain⟨l,xs,y,rfl,rfl,f,p,q⟩:=h;cases A;have c:=w.zero;subst c;obtain⟨z,a,n,r,m,e⟩:=I.lstM f;obtain⟨u,o,t⟩:=r.get p
 have j:a.toArray[a.toArray.size-1]?=some u:=by show a.toArray[a.length-1]?=some u;rw[←Lk,←m];exact o
 refine JU F.slot_list_pop ⟨_,e,rfl⟩ F.entry_list_pop (F.args_list_pop_1 _) (MeetsSeq.list_pop_last l a.toArray n u j (by rw[Il];omega)) ⟨e,?_⟩;refine⟨y,_,I.lset (Na:=a.dropLast) f e ?_ r.dropLast ?_,t,q⟩
 ·show a.toArray.eraseIdxIfInBounds (a.toArray.size-1)=a.dropLast.toArray;rw[Il,Ls,Cz]
 ·rw[Lx];omega
noncomputable def Am:V->List V->Hp->VK->Prop:=λx vs H Q=>∃l xs i k y,x=.ref l/\vs=[.int i]/\H l=some (.lst xs)/\-(2^63)<=i/\i<2^63/\seqIndex? i xs.length=some k/\xs[k]?=some y/\Q y (aj H l (.lst (xs.eraseIdx k)))
def Hb:mC X "list.pop" Am:=by
 intro f s J H x vs v us Q I G E h;obtain⟨l,xs,i,k,y,rfl,rfl,c,j,m,o,B,q⟩:=h;cases G;obtain⟨u,rfl,C⟩:=E.one;obtain⟨t,rfl⟩:=C;obtain⟨z,a,n,r,p,e⟩:=I.lstM c;obtain⟨w,A,g⟩:=r.get B
 refine JU F.slot_list_pop ⟨_,e,rfl⟩ F.entry_list_pop (F.args_list_pop_2 _ _)
  (MeetsSeq.list_pop_at l a.toArray n i t k w (fitsIndex_both j m) (by rw[Il,←p];exact o) (by rw[←Lk];exact A) (by rw[Il];omega)) ⟨e,?_⟩
 refine⟨y,_,I.lset (Na:=a.eraseIdx k) c e ?_ (r.eraseIdx k) ?_,g,q⟩
 ·show a.toArray.eraseIdxIfInBounds k=(a.eraseIdx k).toArray;rw[Ls]
 ·have:=sy xs k;omega
noncomputable def DX:R2:=λx y H Q=>∃l b xs a,x=.ref l/\y=.ref b/\H l=some (.lst xs)/\H b=some (.lst a)/\xs.length+a.length<=sizeLine/\∀p,H p=none->Q (.ref p) (aj H p (.lst (xs++a)))
def ED:bI X (binaryOp .Add) DX:=by
 intro f s J H x y v u Q I t w h;obtain⟨l,b,xs,G,rfl,rfl,o,m,C,q⟩:=h;cases t;cases w;obtain⟨z,a,n,r,B,e⟩:=I.lstM o;obtain⟨F,c,E,p,A,g⟩:=I.lstM m;refine PySem.P.add_list e g ?_ (by rw[Il,Il];omega)
 have j:a.toArray++c.toArray=(a++c).toArray:=by simp
 rw[j];exact⟨.ref _,_,I.lnew (t':=s.toks) (r.append p) (by rw[HY];omega),rfl,q _ I.fresh⟩
noncomputable def yp:R2:=λx y H Q=>∃l k xs,x=.ref l/\y=.int k/\H l=some (.lst xs)/\-(2^63)<=k/\k<2^63/\xs.length*k.toNat<=sizeLine /\
 ∀p,H p=none->Q (.ref p) (aj H p (.lst (List.replicate k.toNat xs).flatten))
def pT{c:Type}(xs:List c)(k:Nat):(List.replicate k xs).flatten.length=k*xs.length:=by
 induction k with
 |zero=>simp
 |succ k a=>rw[Jz,IY,HY,a,Nat.succ_mul,Nat.add_comm]
def vh:bI X (binaryOp .Mult) yp:=by
 intro p s R H x y v u Q I N O h;obtain⟨l,k,xs,rfl,rfl,K,G,J,o,q⟩:=h;cases N;obtain⟨t,rfl⟩:=O;obtain⟨z,c,n,r,M,e⟩:=I.lstM K
 have f:c.toArray.size*k.toNat<=sizeLine:=by rw[Il,←M];exact o
 have w:¬ c.toArray.size*k.toNat>(2^63-1)/8:=by
  have:(sizeLine:Nat)<=(2^63-1)/8:=by decide
  omega
 have C:¬ (!Builtin.List.listFitsIndex k)=true:=by rw[fitsIndex_both G J];exact IV
 have A:¬ Builtin.List.listTooLong (c.toArray.size*k.toNat)=true:=by rw[sf f];exact IV
 have B:List.foldl (λg j=>g++j) #[] (List.replicate (if c.toArray.isEmpty=true then 0 else k.toNat) c.toArray)=(List.replicate k.toNat c).flatten.toArray:=by
  have E:∀m:Nat,List.foldl (λg j=>g++j) #[] (List.replicate m c.toArray)=(List.replicate m c).flatten.toArray:=λm=>by have:=pO c m [];rw[KU]at this;exact this
  rw[E]
  cases c with
  |nil=>simp
  |cons a P=>rw[Ib (by simp)]
 refine wpAny_binaryOp_repeat_ref (T:="list") (U:="int") (by decide) ⟨_,e,rfl⟩ (λs'=>L6 s' k t) noFill_list_mul F.fills_int_mul Ly repeat_list F.slot_int_index.lookup
  (JU Ly (L6 s k t) F.entry_int_rmul (F.args_int_rmul_2 _ _) (int___rmul___int_list k t l c.toArray n)
   ⟨e,rfl,⟨_,e,rfl⟩,JU F.slot_list_mul ⟨_,e,rfl⟩ F.entry_list_mul (F.args_list_mul_2 _ _) (AutoListH.list___mul___list_int_3 l c.toArray n k t C w A) ⟨e,?_⟩⟩)
 rw[B];exact⟨.ref _,_,I.lnew (t':=s.toks) (r.rep k.toNat) (by rw[pT,Mf];exact o),rfl,q _ I.fresh⟩
end
end L2
namespace Att
open PySem PySem.W PySem.Calls PyProof.Rows
def BG{P:Params}{h:Heap}:∀(ns:List Int)(vs:List Value),WellAll P h vs (ns.map WData.int)->IntsAre vs ns:=by
 intro ns
 induction ns with
 |nil=>
  intro vs w;rw[Mg]at w;cases w;exact .nil
 |cons n ns c=>
  intro vs w;rw[IE]at w
  cases w with
  |cons a b=>
   cases a;exact .cons _ _ (c _ b)
def AT{l:OpenLaw}{n:Nat}(w:l.most=some n){P:Params}{h:Heap}{args:List WData}{vals:List Value}
  (j:l.row.toRowW.claim.pre args=true) (o:WellAll P h vals args) :
  ∃a vs ns,vals=[Value.ref a]/\args=[WData.list (ns.map WData.int)]/\h.get? a=some { cls:=.type "list",data:=.seq vs.toArray }/\IntsAre vs ns/\ns.length<=n:=by
 have g:WShape.hasAll [] args [.list .int]=true:=(pre_splitW j).1;have m:l.pre.holds [] { args:=args }=true:=(pre_splitW j).2;obtain⟨d,r,rfl,t,u⟩:=hasAllW_cons g;obtain rfl:=hasAllW_nil u;obtain⟨xs,rfl,v⟩:=hasW_list t;obtain⟨ns,rfl⟩:=items_int v
 have c:ns.length<=n:=by
  unfold OpenLaw.pre at m
  have e:(WTm.not (.lt (.lit (.int (n:Int))) (.len (.arg 0)))).holds [] { args:=[.list (ns.map .int)] }=true:=by have e:=(holds_andW m).1;rw[w]at e;exact e
  have f:=condW_of e (w_not (w_lt w_lit (w_len_list (w_arg rfl))));rw[HV]at f;refine Nat.le_of_not_lt λq=>?_
  have y:(n:Int)<((ns.length:Nat):Int):=by omega
  first
   |(rw[Jc y]at f;exact absurd f (by decide))
   |(simp at f;omega)
 cases o with
 |cons z A=>
  cases A
  cases z with
  |list x p=>exact⟨_,_,ns,rfl,rfl,x,BG ns _ p,c⟩
def Aa(l:OpenLaw)(args:List WData):l.row.toRowW.claim.post args (.bool true) args=true:=
 postW_of (r:=l.row.toRowW) (X:=(true==true))
  (show WShape.has [] (.bool true) .bool=true by first|rfl|decide|simp[WShape.has,WShape.arms,WShape.armsAll])
  (show (WTm.eq .res (.lit (.bool true))).value [] { args:=args,res:=some (.bool true),after:=args }=some (.bool (true==true))from w_eq_bool (w_res rfl) w_lit) rfl
def attach_call{l:OpenLaw}{n:Nat}{q:Program}{e:List Str}{v:(Str->Option Value)->Heap->Prop}{x:World->Heap->Prop}{d:DefRec}
  (Q:l.most=some n) (H:d.params.defaults=[])
  (call:∀(w:World)(s₀ c:Shared)(mg t:Str->Option Value)(j:Addr)(o:Obj)(u p g:Value)(a:Addr)(vs:List Value)(ns:List Int),
   Ground q e [] v w s₀ mg t c.heap->x w c.heap->
   c.heap.get? j=some o->o.data=.func (docDef d.name d.params d.body d.scope u p g)->c.heap.CodeRec p d.name->mg d.name=some (.ref j)->
   c.heap.get? a=some { cls:=.type "list",data:=.seq vs.toArray }->IntsAre vs ns->ns.length<=n->c.gens=#[]->
   codeAny (model l.prog w) callerA (.call (.ref j) ⟨[.ref a],[]⟩) (λr s'=>r=.ok (.ret (.bool true))/\OldK c.heap s'.heap/\s'.os=c.os/\AllBare s'.gens) c) :
  WalkO q e v x l.row.toRowW d [] (λf vs=>PySem.call f vs):=by
 intro w s₀ c mg t G Y j o u p g I kV R hd A y F N args vals as E z T B O;obtain rfl:I=.none:=Dflts.none y H;obtain rfl:kV=.none:=Dflts.noKw y;obtain⟨a,vs,ns,rfl,rfl,C,h,m⟩:=AT Q E B;refine enter_call (KY (call w s₀ c mg t j o u p g a vs ns G Y R (fd_plain hd) A F C h m N) λr s' S=>?_);obtain⟨rfl,J,K,M⟩:=S;exact⟨.inl ⟨.bool true,.bool true,[],rfl,λ_=>rfl,.bool true,Aa l _,λ_=>⟨List.Pairwise.nil,λ_ P=>(nomatch P)⟩⟩,J,K,M⟩
end Att
namespace L2
open PySem PySem.Spec PyProof.Rows
def vD:∀{vs:List Value}{ns:List Int},IntsAre vs ns->Vals (ns.map V.int) vs
 |_,_,.nil=>.nil
 |_,_,.cons n t h=>.cons ⟨t,rfl⟩ (vD h)
noncomputable def qo(H:Hp):Prop:=∀b,H b=none\/∃o xs,H b=some (.frz o (.lst xs))
def BO{P:Program}{w:World}{K:Frag}{mg S:Str->Option Value}{CX:cq}{k:Nat}{M a:Addr}{X:FuncData}{x:Str}{sp:Sp}{c:Shared}{vs:List Value}{ns:List Int}
  (T:K.In c.heap) (C:c.heap.Ns mainGlobals mg) (f:c.heap.Ns builtinsNs S) (N:∀x:Str,x≠"__name__"->S x=bootBuiltins x) (Uj:c.heap.NoLimit)
  (O:∃bm j,mg "__builtins__"=some (.ref bm)/\bm≠builtinsNs/\c.heap.get? bm=some j/\j.cls=.type "module"/\j.dict=some builtinsNs/\j.data=.plain) (G:c.heap.NoSeer) (Q:∃g,c.heap.Ns cStatics g/\g "sys.int_max_str_digits"=none) (hg:c.gens=#[])
  (y:c.heap.get? a=some { cls:=.type "list",data:=.seq vs.toArray }) (Z:IntsAre vs ns) (hl:ns.length<=sizeLine) (hr:Room k callerA)
  (F:∀base:Heap,K.In base->base.Ns mainGlobals mg->FnOk P w K mg base CX k M X [x] sp) (Sk:∀(s:Shared)(u:Value),BindsTo s X ⟨[u],[]⟩ [(x,u)])
  (QO:∀H:Hp,qo H->SqL K H a (ns.map V.int)->sp [.ref a] H (λv _=>v=.bl true) λ_ _ _=>False)
  (Uk:∀H e s',CX [] H c (λ_ _ _=>False) e s'->False) :
  codeAny (model P w) callerA (.call (.ref M) ⟨[.ref a],[]⟩) (λr s'=>r=.ok (.ret (.bool true))/\OldK c.heap s'.heap/\s'.os=c.os/\AllBare s'.gens) c:=by
 have rv:=vD Z;have Ul:=Z.length
 have p:∀H:Hp,qo H->SqL K H a (ns.map V.int)->HOk P w H c.heap->(∀b,H b≠none->b=a)->(H a≠none->K.lookup a=none)->
   codeAny (model P w) callerA (.call (.ref M) ⟨[.ref a],[]⟩) (λr s'=>r=.ok (.ret (.bool true))/\OldK c.heap s'.heap/\s'.os=c.os/\AllBare s'.gens) c:=by
  intro H Y hS hok J hK;have I:∀{b:Addr}{o:Obj},c.heap.get? b=some o->H b=none->(gj c.heap H).get? b=some o:=λe n=>Hz e n
  have Sf:∀{b:Addr}{o:Obj}{es:Array DictEntry}{A:Nat},c.heap.get? b=some o->o.data=.dict es A->H b=none:=λ{b o es A} e d=>by
   cases q:H b with
   |none=>rfl
   |some u=>
    have t:b=a:=J b (by rw[q];simp);subst t;rw[y]at e;cases e;have d':Data.seq vs.toArray _=Data.dict es A:=d;cases d'
  have l:∀{b:Addr}{m:Str->Option Value},c.heap.Ns b m->(gj c.heap H).Ns b m:=λ{b m} MQ=>by obtain⟨o,es,A,e,d,r⟩:=MQ;exact⟨o,es,A,I e (Sf e d),d,r⟩
  have B:K.In (gj c.heap H):=λb o e=>I (T b o e) (by
   cases q:H b with
   |none=>rfl
   |some u=>
    have t:b=a:=J b (by rw[q];simp);subst t
    rw[hK (by rw[q];simp)]at e;cases e)
  have hM:Mod K mg (gj c.heap H):=⟨B,l C,⟨S,l f,N⟩,let ⟨g,h1,h2⟩:=Uj;⟨g,l h1,h2⟩,let ⟨bm,j,b1,b2,b3,b4,b5,b6⟩:=O;⟨bm,j,b1,b2,I b3 (by
   cases q:H bm with
   |none=>rfl
   |some u=>
    have t:bm=a:=J bm (by rw[q];simp)
    rw[t,y]at b3;cases b3;injection b4 with z;exact absurd z (by decide)),b4,b5,b6⟩,
   ⟨let ⟨g,h1,h2⟩:=G.statics;⟨g,l h1,h2⟩,let ⟨g,h1,h2⟩:=G.mods;⟨g,l h1,h2⟩,let ⟨g,h1,h2⟩:=G.imp;⟨g,l h1,h2⟩,let ⟨m1,bm,j,n1,b1,b3,b4,b5⟩:=G.main;⟨m1,bm,j,l n1,b1,I b3 (by
   cases q:H bm with
   |none=>rfl
   |some u=>
    have t:bm=a:=J bm (by rw[q];simp)
    rw[t,y]at b3;cases b3;injection b4 with z;exact absurd z (by decide)),b4,b5⟩⟩,let ⟨g,h1,h2⟩:=Q;⟨g,l h1,h2⟩⟩
  have e0:Env0 P w K mg (gj c.heap H) callerA [] c H:=⟨rfl,hM,λb o e=>Gm e,Lv (GG _ _),trivial,λb f=>absurd (show b∈([]:List Addr)from f) (by simp),hok,.of_eq hg⟩;refine KY ((F _ B (l C)).run callerA [] c H ⟨[.ref a],[]⟩ [.ref a] [.ref a] _ _ hr e0 (Sk c (.ref a)) (.cons rfl .nil) (QO H Y hS)) λr s' h=>?_
  cases r with
  |error e=>exact (Uk H e s' h).elim
  |ok fl=>
   cases fl with
   |next=>exact False.elim h
   |brk=>exact False.elim h
   |cont=>exact False.elim h
   |ret u=>
    obtain⟨v,H',os,bare,un,Um,r',q⟩:=h;have q':v=.bl true:=q;subst q';obtain rfl:u=Value.bool true:=r';refine⟨rfl,OldK.of_keep λb o e=>?_,os,bare⟩
    cases q:H b with
    |none=>exact un.keep b o e q (by intro z;exact absurd (show b∈([]:List Addr)from z) (by simp)) (by simp)
    |some u=>
     rcases Y b with z|⟨j,xs,z⟩
     ·rw[q]at z;cases z
     ·have z2:=un.frzs b j _ z;obtain⟨U,_⟩:=hok b _ z;obtain⟨e2,_⟩:=Um b _ z2;rw[e]at U;cases U;exact e2
 cases R:K.lookup a with
 |some o=>
  have e:=T a o R;rw[y]at e;cases e;refine p (λ_=>none) (λ_=>.inl rfl) (.inr ⟨_,vs.toArray,_,R,rfl,rfl,rfl,by rw[Il,Ul];exact hl,by simpa using rv⟩) (λb u z=>by have E:(none:Option HO)=some u:=z;cases E) (λb z=>absurd rfl z) λz=>absurd rfl z
 |none=>
  refine p (λb=>if b=a then some (.frz { cls:=.type "list",data:=.seq vs.toArray } (.lst (ns.map V.int))) else none) (λb=>?_) (.inl (.inr ⟨{ cls:=.type "list",data:=.seq vs.toArray },Ia rfl⟩)) (λb u z=>?_) (λb z=>?_) λ_=>R
  ·by_cases f:b=a
   ·exact .inr ⟨_,_,Ia f⟩
   ·exact .inl (Ib f)
  ·by_cases f:b=a
   ·have E:=(Ia f).symm.trans z;cases E;subst f;exact⟨y,by rw[HV];exact hl,vs,_,rv,y⟩
   ·have E:=(Ib f).symm.trans z;cases E
  ·by_cases f:b=a
   ·exact f
   ·exact absurd (Ib f) z
def walk_of{l:PySem.W.OpenLaw}{n k:Nat}{q:Program}{j:List Str}{J:(Str->Option Value)->Heap->Prop}{y:World->Heap->Prop}{d:DefRec}{K:Params->Frag}{CX:World->cq}{sp:World->Sp}{x:Str}
  (U:l.most=some n) (B:n<=sizeLine) (E:d.params.defaults=[]) (T:importsNone q=true) (X:Room k callerA)
  (Q:∀(w:World)(h:Heap),y w h->(K w.params).In h)
  (F:∀(w:World)(mg:Str->Option Value)(p:Addr)(h:Heap),(K w.params).In h->h.Ns mainGlobals mg->mg d.name=some (.ref p)->
   ∃r:FuncData,(∀(s:Shared)(u:Value),BindsTo s r ⟨[u],[]⟩ [(x,u)]) /\
    ∀base:Heap,(K w.params).In base->base.Ns mainGlobals mg->FnOk l.prog w (K w.params) mg base (CX w) k p r [x] (sp w))
  (z:∀(w:World)(H:Hp)(a:Addr)(ns:List Int),ns.length<=n->qo H->SqL (K w.params) H a (ns.map V.int)->sp w [.ref a] H (λv _=>v=.bl true) λ_ _ _=>False)
  (I:∀(w:World)(H:Hp)(s:Shared)(e:Value)(s':Shared),CX w [] H s (λ_ _ _=>False) e s'->False) :
  PySem.W.WalkO q j J y l.row.toRowW d [] (λf vs=>PySem.call f vs):=by
 refine Att.attach_call U E λw s₀ m mg mb p o pm cd M a vs ns G Y ho hd Z C A g c S=>?_;have t:=Q w _ Y;obtain⟨r,R,N⟩:=F w mg p _ t G.T.g C;exact BO t G.T.g G.T.b G.T.builtins G.T.nolimit G.T.bmain (G.T.seer T) G.T.nodigits S A g (IF c B) X N R (λH O P=>z w H a ns c O P) λH e s'=>I w H m e s'
end L2
/- THE LAST Tp (shape; LID, My.* are yours):
   My.Adr: a structure of Tq addresses that your layer names (classes, RZ); My.Txt K t: a structure (Prop) of Tq equations over K;
   My.txt_mk : {K} {implicit addresses ..} (e1 : nsIn K mainGlobals "law" = some (some (.ref f))) (e2 : K.lookup f = some ⟨oc, od, .func (fnOf "law" "law" params body scope dV kV doc pm an MZ ct), sl⟩) (e3 : codeIn K MZ "law" = true) .. : ∃t, My.Txt K t
set_option maxRecDepth 100000 in
set_option maxHeartbeats 0 in
theorem PySem.Challenge.cw_LID_holds : PySem.Challenge.rw_LID.Holds := by
 w_on;o_law;k_head;(case hw=>w_witness2)
 k_fill
 refine L2.walk_of (l:=PySem.Challenge.rw_LID) (n:=63) (k:=40) (x:="script") (CX:=λw=>..) (sp:=λ_=>My.sp_law) rfl (by decide) rfl ⟨rfl,by decide,by decide⟩ (λw h Y=>kIn_of Y) ?F ?S ?C
 case F=>
  intro w mg fa h KX G Rc
  have T:∃t,My.Txt (L2.KOf KX) t:=by
   dsimp only[L2.KOf]                          -- K must stand as «<heap const> w.params» for k_is;refine' My.txt_mk ?e1 ?e2 ?e3 ..
   (case e1=>PySem.W.k_is)                    -- in Tq order: a name-> MS address-> MS object-> MS parts
   (case e2=>PySem.W.k_is)
   ..
  obtain⟨t,T⟩:=T;have e0:=Rc.symm.trans (K3 KX G T.law);cases e0                                       -- fa is Tq law's own address
  exact⟨_,λs u=>.of_eq rfl,λbase kb nb=>My.law_fn T kb nb⟩     -- if «.of_eq rfl» comes too early: refine' ⟨_,?b,λbase kb nb=>My.law_fn T kb nb⟩;exact λs u=>.of_eq rfl
 case S=>exact λw H a ns hl hO hS=>..
 case C=>exact ..
(Tq tactic k_is has no namespace: write k_is) -/
namespace L2
open PySem PySem.Spec PyProof.Rows
noncomputable def hZ(s:Stmt)(j:Nat):Stmt:=match s with
 |.ClassDef _ _ _ a _ _ _ _ _ _ _=>a.getD j (.Pass ⟨0,0,0,0⟩)
 |_=>.Pass ⟨0,0,0,0⟩
noncomputable def da(s:Stmt):Arguments:=match s with
 |.FunctionDef _ a _ _ _ _ _ _ _ _=>a
 |_=>{ posonlyargs:=[],args:=[],vararg:=none,kwonlyargs:=[],kw_defaults:=[],kwarg:=none,defaults:=[] }
noncomputable def cw(s:Stmt):List Stmt:=match s with
 |.FunctionDef _ _ b _ _ _ _ _ _ _=>b
 |_=>[]
noncomputable def ay(s:Stmt):Scope:=match s with
 |.FunctionDef _ _ _ _ _ _ a _ _ _=>a
 |_=>{ kind:=.function,names:=[],isGenerator:=false,isCoroutine:=false }
noncomputable abbrev bf:cq:=λ_ _ _ _ _ _=>False
noncomputable abbrev E0:XK:=λ_ _ _=>False
def nM{X:Cx}:ie bf X E0:=λ_ _ _ _ _ _ _ h=>h.elim
structure Fun(K:Frag)(x qual:Str)(st:Stmt)(f:Addr)(fd:FuncData):Prop where
 ex:∃(oc:Value)(od:Option Addr)(kV doc pm:Value)(an:Option Addr)(MZ ct:Value)(Qg:Array (Option Value)),
  fd=fnOf x qual (da st) (cw st) (ay st) .none kV doc pm an MZ ct/\K.lookup f=some ⟨oc,od,.func fd,Qg⟩/\codeIn K MZ qual=true
 kp:keepIn K (.ref f)=true
section
variable{K:Frag}
def Fun.binds{x qual:Str}{st:Stmt}{f:Addr}{j:FuncData}{ps:List Str}(F:Fun K x qual st f j)
  (h:∀(kV a g:Value)(e:Option Addr)(c ct:Value)(us:List Value),us.length=ps.length->bindArgs (fnOf x qual (da st) (cw st) (ay st) .none kV a g e c ct) ⟨us,[]⟩=pure (ps.zip us)):Binds K j ps []:=by
 obtain⟨o,p,kV,a,g,e,c,ct,m,rfl,lk,l⟩:=F.ex;exact .all (h kV a g e c ct)
def kJ{x qual:Str}{st:Stmt}{f:Addr}{m:Value}{o g:Option Addr}{j:Array (Option Value)}{kV a h e ct:Value}(l:K.lookup f=some ⟨m,o,.func (fnOf x qual (da st) (cw st) (ay st) .none kV a h g e ct),j⟩)
  (c:codeIn K e qual=true) (k:keepIn K (.ref f)=true):Fun K x qual st f (fnOf x qual (da st) (cw st) (ay st) .none kV a h g e ct):=⟨⟨m,o,kV,a,h,g,e,ct,j,rfl,l,c⟩,k⟩
end
def cy{n:Nat}(h:n<=1000):n<sizeLine:=Nat.lt_of_le_of_lt h (by decide)
section
variable{X:Cx}
def pv(i:Nat){x:Str}{a:Pos}(e:X.N[i]?=some x:=by rfl)(f:bR X.env.scope x:=by nofun)(hd:(x==("__debug__":Str))=false:=by decide)
  (c:(x==("__classdict__":Str))=false:=by decide):PE X (.Name x a) (iu i):=oQ e f hd c
end
def qP{A B:Prop}(h:B):if false=true then A else B:=by rw[Ib IV];exact h
def pS{A B:Prop}(h:A):if true=true then A else B:=by rw[Ia rfl];exact h
noncomputable def Same(H a:Hp):Prop:=∀b o,H b=some o->a b=some o
def Same.refl(H:Hp):Same H H:=λ_ _ h=>h
def Same.trans{H e f:Hp}(a:Same H e)(b:Same e f):Same H f:=λc o h=>b c o (a c o h)
def Same.free{H a:Hp}(e:Same H a){l:Addr}(h:a l=Option.none):H l=Option.none:=by
 cases q:H l with
 |none=>rfl
 |some o=>
  rw[e l o q]at h;cases h
def Same.seq{K:Frag}{H c:Hp}{a:Addr}{xs:List V}(e:Same H c)(h:SqL K H a xs):SqL K c a xs:=by
 rcases h with (h|⟨o,h⟩)|h
 ·exact .inl (.inl (e _ _ h))
 ·exact .inl (.inr ⟨o,e _ _ h⟩)
 ·exact .inr h
section
variable{κ:Type}[DecidableEq κ]
noncomputable def dR(a:List (κ×V))(k:κ):Option V:=(a.find? λc=>decide (c.1=k)).map (·.2)
noncomputable def eL(c:List (κ×V))(k:κ)(v:V):List (κ×V):=
 if (c.any λa=>decide (a.1=k))=true then c.map (λa=>if a.1=k then (a.1,v) else a) else c++[(k,v)]
def l8{p:κ×V}{r:List (κ×V)}{k:κ}(e:p.1=k):dR (p::r) k=some p.2:=by simp[dR,J5,e]
def lh{p:κ×V}{r:List (κ×V)}{k:κ}(e:¬ p.1=k):dR (p::r) k=dR r k:=by simp[dR,J5,e]
def uc(k:κ):∀a:List (κ×V),(a.any λc=>decide (c.1=k))=(dR a k).isSome
 | []=>rfl
 |p::r=>by
  rw[Kn];by_cases e:p.1=k
  ·simp only[l8 e,Jc e,Bool.true_or,Option.isSome_some]
  ·rw[lh e,ID e,Bool.false_or];exact uc k r
def sO(a:List (κ×V))(k:κ)(v:V):(eL a k v).length<=a.length+1:=by
 unfold eL;split
 ·rw[HV];omega
 ·rw[HY,Ij,Jh];omega
def RelO.isSome_eq{o:Option V}{u:Option Value}(r:RelO o u):o.isSome=u.isSome:=by
 cases o with
 |none=>cases u with
  |none=>rfl
  |some _=>exact (show False from r).elim
 |some _=>cases u with
  |none=>exact (show False from r).elim
  |some _=>rfl
def KV.val{f:List (κ×V)}{vs:List (κ×Value)}(r:KV f vs)(k:κ):RelO (dR f k) (valueAt vs k):=by
 unfold KV at r
 induction r with
 |nil=>exact True.intro
 | @cons p q ps c h t l=>
  obtain⟨g,j⟩:=h;by_cases e:p.1=k
  ·have a:q.1=k:=g.symm.trans e
   have b:valueAt (q::c) k=some q.2:=by simp[valueAt,J5,a]
   rw[l8 e,b];exact j
  ·have a:¬ q.1=k:=λz=>e (g.trans z)
   have b:valueAt (q::c) k=valueAt c k:=by simp[valueAt,J5,a]
   rw[lh e,b];exact l
def KV.any{c:List (κ×V)}{vs:List (κ×Value)}(r:KV c vs)(k:κ):(c.any λa=>decide (a.1=k))=vs.any λa=>decide (a.1=k):=by
 unfold KV at r
 induction r with
 |nil=>rfl
 |cons h t e=>rw[Kn,Kn,e,h.1]
def KV.repl{f:List (κ×V)}{vs:List (κ×Value)}(r:KV f vs)(k:κ){y:V}{u:Value}(l:RelV y u) :
  KV (f.map λa=>if a.1=k then (a.1,y) else a) (vs.map λa=>if a.1=k then (a.1,u) else a):=by
 unfold KV at r ⊢
 induction r with
 |nil=>exact .nil
 | @cons p q ps m h t j=>
  rw[IE,IE];refine .cons ?_ j;obtain⟨c,g⟩:=h;by_cases e:p.1=k
  ·rw[Ia e,Ia (c.symm.trans e)];exact⟨c,l⟩
  ·rw[Ib e,Ib (λz=>e (c.trans z))];exact⟨c,g⟩
def KV.put{a:List (κ×V)}{vs:List (κ×Value)}(r:KV a vs)(k:κ){y:V}{u:Value}(c:RelV y u):KV (eL a k y) (stored vs k u):=by
 unfold eL stored;rw[r.any k];by_cases e:(vs.any λf=>decide (f.1=k))=true
 ·rw[Ia e,Ia e];exact r.repl k c
 ·rw[Ib e,Ib e];exact Paired.snoc r ⟨rfl,c⟩
def KV.length{a:List (κ×V)}{vs:List (κ×Value)}(r:KV a vs):a.length=vs.length:=Le r
end
def qT{P:Program}{w:World}{k:aD}{u:Value}(r:RelV (kV k) u):(dW P w).is k u=true:=by
 cases k with
 |inl i=>obtain⟨t,e⟩:=(show ∃t,u=Value.int i t from r);subst e;exact CV P w i t
 |inr x=>obtain⟨t,e⟩:=(show ∃t,u=Value.str x t from r);subst e;exact C2 P w x t
def uB{P:Program}{w:World}:∀{a:List aD}{us:List Value},Vals (a.map kV) us->ItemsAre (dW P w) a us
 | [],_,r=>by rw[Mg]at r;cases r;exact .nil
 |k::a,_,r=>by
  rw[IE]at r
  cases r with
  |cons h t=>exact .cons (qT h) (uB t)
noncomputable abbrev KT(H:Hp):List (List aD×V)->List (List aD×Addr×Value)->Prop:=Paired λp q=>p.1=q.1/\H q.2.1=some (.tup (p.1.map kV))/\RelV p.2 q.2.2
def KT.val{H:Hp}{f:List (List aD×V)}{xs:List (List aD×Addr×Value)}(r:KT H f xs)(k:List aD):RelO (dR f k) ((atKey xs k).map (·.2)):=by
 induction r with
 |nil=>exact True.intro
 | @cons p q ps c h t l=>
  obtain⟨g,_,j⟩:=h;by_cases e:p.1=k
  ·have a:q.1=k:=g.symm.trans e
   have b:atKey (q::c) k=some q.2:=by simp[atKey,J5,a]
   rw[l8 e,b];exact j
  ·have a:¬ q.1=k:=λz=>e (g.trans z)
   have b:atKey (q::c) k=atKey c k:=by simp[atKey,J5,a]
   rw[lh e,b];exact l
def KT.repl{H:Hp}{f:List (List aD×V)}{xs:List (List aD×Addr×Value)}(r:KT H f xs)(k:List aD){y:V}{u:Value}(m:RelV y u) :
  KT H (f.map λc=>if c.1=k then (c.1,y) else c) (xs.map (putAt k u)):=by
 induction r with
 |nil=>exact .nil
 | @cons p q ps o h t l=>
  rw[IE,IE];refine .cons ?_ l;obtain⟨a,g,j⟩:=h;unfold putAt;by_cases e:p.1=k
  ·rw[Ia e,Ia (a.symm.trans e)];exact⟨a,g,m⟩
  ·rw[Ib e,Ib (λz=>e (a.trans z))];exact⟨a,g,j⟩
def KT.put{H:Hp}{a:List (List aD×V)}{xs:List (List aD×Addr×Value)}(r:KT H a xs)(k:List aD){b:Addr}{y:V}{u:Value}(f:H b=some (.tup (k.map kV)))(c:RelV y u) :
  KT H (eL a k y) (storedH xs k b u):=by
 have e:(a.any λg=>decide (g.1=k))=(atKey xs k).isSome:=by rw[uc,(r.val k).isSome_eq,Option.isSome_map]
 unfold eL storedH;rw[e];by_cases q:(atKey xs k).isSome=true
 ·rw[Ia q,Ia q];exact r.repl k c
 ·rw[Ib q,Ib q];exact Paired.snoc r ⟨rfl,f,c⟩
def KT.keeps{H a:Hp}{c:List (List aD×V)}{xs:List (List aD×Addr×Value)}(r:KT H c xs)(e:∀b ys,H b=some (.tup ys)->a b=some (.tup ys)):KT a c xs:=
 Paired.mapP r λ_ _ z=>⟨z.1,e _ _ z.2.1,z.2.2⟩
section
variable{P:Program}{w:World}{H:Hp}{h:Heap}{a:Addr}
def sQ{u:HO}(ok:HOk P w H h)(e:Rd H a u):ObjOk P w H h a u:=e.ok ok
def rn{c:List (aD×V)}(ok:HOk P w H h)(e:Rd H a (.dK c)):c.length<=sizeLine/\(a==sysModules)=false/\∃vs,KV c vs/\h.DictOf (dW P w) a vs:=
 show ObjOk P w H h a (.dK c)from sQ ok e
def EQ{c:List (aD×V)}(ok:HOk P w H h)(e:H a=some (.dK c)):c.length<=sizeLine/\(a==sysModules)=false/\∃vs,KV c vs/\h.DictOf (dW P w) a vs:=rn ok (.inl e)
def qL{c:List aD}(ok:HOk P w H h)(e:H a=some (.tup (c.map kV))):(tupleKind (dW P w)).is h c a:=by obtain⟨_,f,r,o,g,⟨j,_⟩,n,l⟩:=(show ObjOk P w H h a (.tup (c.map kV))from ok a _ e);exact⟨o,f.toArray,n,g,j,l,by simpa using uB r⟩
def rg{f:List (List aD×V)}(ok:HOk P w H h)(e:Rd H a (.dT f)):f.length<=sizeLine/\(a==sysModules)=false /\
  ∃xs,KT H f xs/\h.DictOfH (tupleKind (dW P w)) a xs:=by
 obtain⟨z,y,xs,r,o,es,j,u,v,A,B,C⟩:=(show ObjOk P w H h a (.dT f)from sQ ok e);refine⟨z,y,xs,r,o,es,j,u,v,A,B,λx c=>?_,C⟩
 have all:∀{l:List (List aD×V)}{m:List (List aD×Addr×Value)},KT H l m->∀x∈m,(tupleKind (dW P w)).is h x.1 x.2.1:=by
  intro l m q
  induction q with
  |nil=>intro x c;exact nomatch c
  | @cons p q ps F g t E=>
   intro x c;rcases Ik.mp c with e|c
   ·subst e;exact qL ok (by rw[←g.1];exact g.2.1)
   ·exact E x c
 exact all r x c
def yB{c:List (List aD×V)}(ok:HOk P w H h)(e:H a=some (.dT c)):c.length<=sizeLine/\(a==sysModules)=false /\
  ∃xs,KT H c xs/\h.DictOfH (tupleKind (dW P w)) a xs:=rg ok (.inl e)
end
noncomputable def DGet(H:Hp)(a:Addr)(y:V)(r:Option V):Prop:=
 (∃c k,Rd H a (.dK c)/\y=kV k/\r=dR c k)\/∃c k b,Rd H a (.dT c)/\y=.ref b/\H b=some (.tup (k.map kV))/\r=dR c k
noncomputable def DPut(H:Hp)(a:Addr)(y v:V)(e:Hp):Prop:=
 (∃c k,H a=some (.dK c)/\y=kV k/\c.length<sizeLine/\e=aj H a (.dK (eL c k v))) \/
 ∃c k b,H a=some (.dT c)/\y=.ref b/\H b=some (.tup (k.map kV))/\c.length<sizeLine/\e=aj H a (.dT (eL c k v))
def DGet.k{H:Hp}{a:Addr}{c:List (aD×V)}{k:aD}(e:H a=some (.dK c)):DGet H a (kV k) (dR c k):=.inl ⟨c,k,.inl e,rfl,rfl⟩
def DPut.k{H:Hp}{a:Addr}{c:List (aD×V)}{k:aD}{v:V}(e:H a=some (.dK c))(f:c.length<sizeLine):DPut H a (kV k) v (aj H a (.dK (eL c k v))):=.inl ⟨c,k,e,rfl,f,rfl⟩
section
variable{X:Cx}{pins:List (Addr×Obj)}{σ:St}{H:Hp}{s:Shared}{a:Addr}{y v:V}{u r:Value}{o:Option V}{A:Around}{E:Value->Shared->Prop}
def Inv.big(I:Inv X pins σ H s):sysModules<s.heap.objs.size:=by have h:mainGlobals<s.heap.objs.size:=(I.mod.glob.keeps I.bk).lt;exact Nat.lt_trans (by decide) h
def Hn{Q:Value->Shared->Prop}(t:A.units+1<cLine)(I:Inv X pins σ H s)(g:DGet H a y o)(j:RelV y u)(h:∀s',Inv X pins σ H s'->Q (.bool o.isSome) s') :
  wpAny (model X.prog X.w) A (compareOp .In u (.ref a)) Q E s:=by
 rcases g with⟨m,k,e,f,l⟩|⟨m,k,b,e,f,p,l⟩
 ·subst f;obtain⟨z,hd,vs,c,dd⟩:=rn I.hok e;refine wpAny_in_of (qT j) hd dd.mapOf ?_;rw[←(c.val k).isSome_eq,←l];exact h _ (I.tok _)
 ·subst f;cases (show u=Value.ref b from j);obtain⟨z,hd,xs,c,dd⟩:=rg I.hok e;refine wpAny_in_heap (tupleKind_room_in1 t) (qL I.hok p) hd dd ?_;have q:=(c.val k).isSome_eq;rw[Option.isSome_map]at q;rw[←q,←l];exact h _ (I.tok _)
def vb{h':Heap}{t':Nat}{c:HO}(I:Inv X pins σ H s)(j:j9 (H a))(h:Heap.SameBut a s.heap h')(g:∃q,h'.get? a=some q)(new:ObjOk X.prog X.w (aj H a c) h' a c) :
  Inv X pins σ (aj H a c) { s with heap:=h',toks:=t' }:=
 I.write (x:=a) (e:=a) j (.inl rfl) (λb q f z=>(h.2 b f).trans z) g new
def x8{P:Program}{w:World}{f:Hp}{h':Heap}{c:List (aD×V)}{vs:List (aD×Value)}(z:c.length<=sizeLine)(hd:(a==sysModules)=false)(e:KV c vs)(dd:h'.DictOf (dW P w) a vs) :
  ObjOk P w f h' a (.dK c):=⟨z,hd,vs,e,dd⟩
def C4{F:Hp}{Q:Unit->Shared->Prop}(U:A.units+1<cLine)(I:Inv X pins σ H s)(g:DPut H a y v F)(M:RelV y u)(K:RelV v r)(h:∀s',Inv X pins σ F s'->Q () s') :
  wpAny (model X.prog X.w) A (setItem (.ref a) u r) Q E s:=by
 rcases g with⟨j,k,e,w,l,t⟩|⟨j,k,b,e,w,G,l,t⟩
 ·subst w t;obtain⟨z,hd,vs,f,dd⟩:=EQ I.hok e
  have C:vs.length<=sizeLine:=by rw[←f.length];exact z
  have x:(eL j k v).length<=sizeLine:=by have:=sO j k v;omega
  refine wpAny_setItem_pairs (hsz:=C) (qT M) dd λh' m B=>h _ ?_
  have T:∃q,h'.get? a=some q:=let ⟨q,_,_,p,_⟩:=m;⟨q,p⟩
  exact vb I (by rw[e];exact True.intro) B T (x8 x hd (f.put k K) m)
 ·subst w t;cases (show u=Value.ref b from M);obtain⟨z,hd,xs,f,dd⟩:=yB I.hok e
  have C:xs.length<=sizeLine:=by rw[←Le f];exact z
  have x:(eL j k v).length<=sizeLine:=by have:=sO j k v;omega
  refine wpAny_setItem_heap (hsz:=C) (tupleKind_room_in1 U) (qL I.hok G) dd λh' m B=>h _ ?_;obtain⟨q,es,N,p,O,P,R,_,S⟩:=m;refine vb I (by rw[e];exact True.intro) B ⟨q,p⟩ ⟨x,hd,_,(f.put k G K).keeps λc ys J=>?_,q,es,N,p,O,P,R,S⟩;rw[aE (Ef J e (λz=>nomatch z))];exact J
end
noncomputable def Ax(g td:TE):TE:=λe H Q=>g e H λy f=>td e f λx c=>∃a o,x=.ref a/\DGet c a y o/\Q (.bl o.isSome) c
noncomputable def xY(td l j:TE):TS:=λD c H=>j c H λv f=>td c f λx g=>l c g λy h=>∃a e,x=.ref a/\DPut h a y v e/\D.nx c e
section
variable{X:Cx}{o i value:Expr}{pos pos':Pos}{td ty tv:TE}
def wI(v:X.A.units+1<cLine)(r:PE X i ty)(t:PE X o td):PC X .In i o (Ax ty td):=by intro c s e H Q I h;refine aq (r c s e H _ I h) λF E ⟨y,f,l,C,z⟩=>aq (t c E e f _ l z) λu G ⟨x,j,m,B,a,w,ex,g,A⟩=>?_;subst ex;obtain rfl:u=Value.ref a:=B;exact Hn v m g C λJ p=>⟨.bl w.isSome,j,p,rfl,A⟩
def Hr(C:X.A.units+1<cLine)(A:PE X o td)(z:PE X i ty)(E:PE X value tv)(B:swapsWith value (some (.Subscript o i pos')) pos.line X.env=pure false) :
  PS X (.Assign [.Subscript o i pos'] value pos) (xY td ty tv):=by
 intro c s e H D I h;refine wpAny_Assign_Subscript (aq (E c s e H _ I h) λr O ⟨v,f,m,K,F⟩=>aq (A c O e f _ m F) λu P ⟨x,j,p,M,G⟩=>aq (z c P e j _ p G) λR S ⟨y,Q,t,N,a,l,ex,g,J⟩=>?_) B;subst ex;obtain rfl:u=Value.ref a:=M;exact C4 C t g N K λT w=>⟨e,l,w,J⟩
end
def zU{P:Program}{w:World}{H:Hp}(h:Heap)(a:sysModules<h.objs.size):ObjOk P w H (h.push { cls:=.type "dict",data:=.dict #[] }) h.objs.size (.dK []):=
 ⟨J4 _,Kb.mpr (Jj (Ja a)),[],.nil,Heap.DictOf.new h⟩
noncomputable def Du:TE:=λ_ H Q=>∀p,H p=none->Q (.ref p) (aj H p (.dK []))
section
variable{X:Cx}{pos:Pos}
def pe_dnewK:PE X (.Dict [] [] pos) Du:=λc s e H Q I h=>
 wpAny_Dict_empty ⟨.ref s.heap.objs.size,_,I.laid (a:=s.heap.objs.size) (o:=.dK []) (t':=s.toks) (λ_ _ q=>Ig _ q) (Ih _) (zU s.heap I.big),rfl,h _ (I.hok.fresh (Ih _))⟩
end
end L2
set_option maxHeartbeats 4000000
namespace L2
open PySem PySem.Spec PyProof.Rows
def Au{env:Env}(names:List (Str×NameKind))(v:∀x∈names,x.2=.free->∃c,env.cells.lookup x.1=some c):∀f:List (Str×Addr),
  ∃cl:List (Str×Addr),(forIn names f (λ(x:Str×NameKind) t=>if (x.2==.free)=true then do let a ←cellOf env x.1;pure (ForInStep.yield ((x.1,a)::t)) else pure (ForInStep.yield t)):Sem (List (Str×Addr)))=pure cl /\
   (∀p∈cl,p∈f\/env.cells.lookup p.1=some p.2)/\(∀p∈f,p∈cl)/\∀x,(x,NameKind.free)∈names->∃c,(x,c)∈cl:=by
 induction names with
 |nil=>intro f;exact⟨f,rfl,λp g=>.inl g,λ_ g=>g,λx h=>by simp at h⟩
 |cons n r y=>
  intro f;obtain⟨n,k⟩:=n;have w:∀x∈r,x.2=.free->∃c,env.cells.lookup x.1=some c:=λx h=>v x (Ic _ h);by_cases o:k=.free
  ·subst o;obtain⟨c,u⟩:=v (n,.free) Ie rfl;obtain⟨cl,e,l,j,m⟩:=y w ((n,c)::f);refine⟨cl,?_,λp g=>?_,λp g=>j p (Ic _ g),λx h=>?_⟩
   ·rw[Lz,←e]
    have q:cellOf env n=pure c:=by unfold cellOf;rw[u]
    simp[q]
   ·rcases l p g with z|z
    ·rcases Ik.mp z with rfl|z
     ·exact .inr u
     ·exact .inl z
    ·exact .inr z
   ·rcases Ik.mp h with z|z
    ·cases z;exact⟨c,j _ Ie⟩
    ·exact m x z
  ·obtain⟨cl,e,l,j,m⟩:=y w f;refine⟨cl,?_,l,j,λx h=>?_⟩
   ·rw[Lz,←e]
    have q:(k==NameKind.free)=false:=by simpa using o
    simp[q]
   ·rcases Ik.mp h with z|z
    ·cases z;exact absurd rfl o
    ·exact m x z
def zt{cl:List (Str×Addr)}{cells:List (Str×Addr)}(h:∀p∈cl,cells.lookup p.1=some p.2):∀x c,cl.lookup x=some c->cells.lookup x=some c:=λx c e=>h (x,c) (Jv e)
def AD{cl:List (Str×Addr)}{x:Str}{c:Addr}:(x,c)∈cl->∃a,cl.lookup x=some a:=by
 induction cl with
 |nil=>intro h;simp at h
 |cons p r f=>
  intro h;rw[IG]
  cases e:x==p.1 with
  |true=>exact⟨_,rfl⟩
  |false=>
   rcases Ik.mp h with z|z
   ·subst z;simp at e
   ·exact f z
def vo{scope:Scope}{env:Env}(h:∀x∈scope.names,x.2=.free->∃c,env.cells.lookup x.1=some c) :
  ∃cl,closureFor scope env=pure cl/\(∀x c,cl.lookup x=some c->env.cells.lookup x=some c)/\∀x,(x,NameKind.free)∈scope.names->∃c,cl.lookup x=some c:=by
 obtain⟨cl,e,a,_,f⟩:=Au (env:=env) scope.names h [];refine⟨cl,?_,zt λp j=>(a p j).elim (λz=>by simp at z) id,λx l=>?_⟩
 ·unfold closureFor;simp only;rw[←e];simp
 ·obtain⟨c,g⟩:=f x l;exact AD g
def qj{env:Env}:∀{names:List (Str×NameKind)}{x:Str}{k:NameKind},
  (names.map λ(n,k)=>if (k==NameKind.free&&env.scope.kind==.function&&env.kindOf n==some .cell) then (n,NameKind.cell) else (n,k)).lookup x=some k->(k=.cell\/k=.free)->(x,NameKind.free)∈names\/(x,NameKind.cell)∈names
 | [],_,_,h,_=>by simp at h
 |(n,k)::r,x,j,h,c=>by
  have g:=@qj env r x j;have h:List.lookup x ((if (k==NameKind.free&&env.scope.kind==.function&&env.kindOf n==some .cell)=true then (n,NameKind.cell) else (n,k))::_)=_:=h;by_cases a:(k==NameKind.free&&env.scope.kind==.function&&env.kindOf n==some .cell)=true
  ·rw[Ia a]at h
   have l:k=.free:=by simp only[Iz,KH]at a;exact a.1.1
   rw[IG]at h
   cases e:x==n with
   |true=>
    have:x=n:=by simpa using e
    subst this;subst l;exact .inl Ie
   |false=>
    simp only[e]at h;exact (g h c).imp (Ic _) (Ic _)
  ·rw[Ib a]at h;rw[IG]at h
   cases e:x==n with
   |true=>
    have f:k=j:=by simpa [e] using h
    have:x=n:=by simpa using e
    subst this;subst f;rcases c with rfl|rfl
    ·exact .inr Ie
    ·exact .inl Ie
   |false=>
    simp only[e]at h;exact (g h c).imp (Ic _) (Ic _)
noncomputable def ce(X:Cx)(scope:Scope)(N':List Str)(cl:List (Str×Addr))(C:Addr)(e:Shared)(a:Hp)(c:List Addr):Cx where
 prog:=X.prog
 w:=X.w
 K:=X.K
 mg:=X.mg
 base:=X.base
 A:=X.A
 N:=N'
 s₀:=e
 H₀:=a
 env:=compEnvC scope cl C X.env
 outer:=X.stack
 stack:=X.stack
 ex:=c
 fn:=λx=>scope.names.lookup x==some .cell
 calm:=X.calm
 pn:=[]
 xe:=λ_ _=>False
noncomputable def eA(cap:List (Option Nat))(a:St):St:=cap.map λo=>o.bind λi=>(a[i]?).join
structure CompScope(N:List Str)(sc scope:Scope)(N':List Str)(cap:List (Option Nat)):Prop where
 kind:scope.kind=.function
 cel:∀x∈scope.names,x.2=.cell->scope.names.lookup x.1=some .cell
 names:∀x∈scope.names,x.2=.local->scope.names.lookup x.1=some .local
 free:∀x∈scope.names,x.2=.free->sc.names.lookup x.1=some .cell
 fst:∀x∈scope.names,x.2=.free->scope.names.lookup x.1=some .free
 nd:N'.Nodup
 len:cap.length=N'.length
 at_:∀p∈cap.zip N',∀i,p.1=some i->N[i]?=some p.2/\(p.2,NameKind.free)∈scope.names
noncomputable def je(X:Cx)(e:List Expr)(t:TT):Prop:=
 ∀(a:List (Addr×Obj))(s:Shared)(f:St)(H:Hp)(Q:Bool->Hp->Prop),Inv X a f H s->t f H Q->
  wpAny (model X.prog X.w) X.A (forIn e true λc r=>if r=true then do let ok ←isTrue c X.env (eval c X.env);pure (ForInStep.yield ok) else pure (ForInStep.yield r)) (TP X a f Q) X.xe s
noncomputable def wU:TT:=λ_ H Q=>Q true H
def Fd{X:Cx}:je X [] wU:=λ_ _ _ H _ I h=>wpAny_tests_nil ⟨H,I,h⟩
def yu{X:Cx}{c:Expr}{t:TT}(h:PT X c t):je X [c] t:=λa s f H Q I e=>wpAny_tests_one (h a s f H Q I e)
noncomputable def iG(w:TI)(cap:List (Option Nat))(g:TG)(u:TT)(v:TE):TE:=λr H Q=>w r H λJ j=>∀D,j D=none->∃W:Nat->Nat->St->Hp->Prop,(∃m,W 0 m (eA cap r) (aj j D (.lst []))) /\
 ∀i m f c,W i m f c->(J.stop i c/\Q (.ref D) c)\/(J.go i c/\∃N:St->Hp->Prop,(∀h e,N h e->∃p,p<m/\W (i+1) p h e) /\
  ∀x e,J.yld i c x e->g x f e λa t=>u a t λb l=>if b=true then v a l λy o=>∃ys,o D=some (.lst ys)/\ys.length<sizeLine/\N a (aj o D (.lst (ys++[y]))) else N a l)
def BR{prog:Program}{w:World}{A:Around}{R:Result->Shared->Prop}{s:Shared}{z a o:Expr}{C:List Expr}{scope:Scope}{H:Pos}{K y:Value}{env:Env}(I:Nat->Shared->Prop)
  (J:∀n s,I n s->wpAny (model prog w) A (pyNext K) (λr e=>match r with
   |none=>R (.ok .next) e
   |some v=>wpAny (model prog w) A (letOwnedTupleGo a K v) (λ_ f=>wpAny (model prog w) A (assign a env v) (λ_ p=>
     wpAny (model prog w) A (forIn C true λc r=>if r=true then do let ok ←isTrue c env (eval c env);pure (ForInStep.yield ok) else pure (ForInStep.yield r)) (λok g=>
      if ok=true then wpAny (model prog w) A (eval z env) (λx t=>
       wpAny (model prog w) A (call (.builtin "list.append") [y,x]) (λ_ u=>∃m,m<n/\I m u) (λ_ _=>False) t) (λ_ _=>False) g
      else ∃m,m<n/\I m g) (λ_ _=>False) p) (λ_ _=>False) f) (λ_ _=>False) e) (λ_ _=>False) s)
  (n:Nat) (h:I n s):codeAny (model prog w) A (.compLoop (.ListComp z [⟨a,o,C,0⟩] scope H) 0 K y env) R s:=by
 refine codeAny_loop rfl I (λn s M=>?_) n h;show wpAny _ A ((compTurn (.ListComp z [⟨a,o,C,0⟩] scope H) 0 K y env).onRaise (λx=>do noteFrame x env;theTreesLotGoes x)) _ _ s;refine wpAny_noted ?_;rw[compTurn_list];refine HZ (KP (HZ (JF (J n s M) (λr e j=>?_) λ_ _ h'=>h'.elim)))
 cases r with
 |none=>exact Io j
 |some v=>
  refine HZ (JF j (λ_ f B=>?_) λ_ _ h'=>h'.elim);refine HZ (JF B (λ_ p E=>HZ (JF E (λok g l=>?_) λ_ _ h'=>h'.elim)) λ_ _ h'=>h'.elim)
  cases ok with
  |false=>exact Io ⟨rfl,l⟩
  |true=>
   exact HZ (HZ (JF l (λx t F=>HZ (JF F (λ_ u G=>Io (Io ⟨rfl,G⟩)) λ_ _ h'=>h'.elim)) λ_ _ h'=>h'.elim))
section
variable{X:Cx}{elt tg iter:Expr}{ifs:List Expr}{scope:Scope}{pos:Pos}{N':List Str}{cap:List (Option Nat)}{wi:TI}{g:TG}{tc:TT}{te:TE}
def jR:∀(names:List (Str×NameKind))(n:Nat)(a:List (Str×Addr)),cellsFrom n names a=cellsFrom n names []++a
 | [],_,_=>rfl
 |(x,k)::r,n,a=>by
  unfold cellsFrom;split
  ·rw[jR r (n+1) ((x,n)::a),jR r (n+1) [(x,n)],Iw];rfl
  ·exact jR r n a
def qv:∀(names:List (Str×NameKind))(n:Nat){x:Str}{c:Addr},(x,c)∈cellsFrom n names []->(x,NameKind.cell)∈names
 | [],_,_,_,h=>by simp[cellsFrom]at h
 |(y,k)::r,n,x,c,h=>by
  unfold cellsFrom at h;split at h
  ·rename_i a;rw[jR]at h;rcases II.mp h with h|h
   ·exact Ic _ (qv r _ h)
   ·have e:=Ip.mp h;cases e
    have:k=.cell:=by simpa using a
    subst this;exact Ie
  ·exact Ic _ (qv r _ h)
def zH{M:Model}{A:Around}{E:Value->Shared->Prop}{s:Shared}{globals:Addr}{cl:List (Str×Addr)}{qual:Str}{outer:Env}{Q:Env->Shared->Prop}
  (c:∀h',h'.Ns s.heap.objs.size (λ_=>none)->(∀b o,s.heap.get? b=some o->h'.get? b=some o)->CellsOk h' (s.heap.objs.size+1) (cellsFrom (s.heap.objs.size+1) scope.names [])->
   Q { scope:=scope,locals:=s.heap.objs.size,globals:=globals,cells:=cellsFrom (s.heap.objs.size+1) scope.names []++cl,qual:=qual,func:=none,code:=outer.code,frame:=outer.frame,builtins:=outer.builtins } { s with heap:=h' }) :
  wpAny M A (newFunctionEnv scope globals cl [] qual none .none (some outer)) Q E s:=by
 simp only[newFunctionEnv,Option.isSome_some,KQ];refine HZ (wpAny_alloc ?_);refine HZ (wpAny_layCells _ (λname kind cells=>by cases a:kind==NameKind.cell<;>simp[a]) _ _ _ _ ?_);have ok:=cellsFrom_ok scope.names (s.heap.push { cls:=.type "dict",data:=.dict #[] }) (s.heap.objs.size+1) [] ⟨λ_ _ f=>(nomatch f),List.Pairwise.nil⟩ (by rw[Jy];exact Ih _);rw[Jy]at ok;rw[show ({ s with heap:=s.heap.push { cls:=.type "dict",data:=.dict #[] } }:Shared).heap.objs.size=s.heap.objs.size+1 from Jy ..,jR];refine HZ ?_;rw[MF];exact Io (Io (c _ ((Heap.Ns.new s.heap (.type "dict")).keeps (pushCells_keeps _ _)) (λb o e=>pushCells_keeps _ _ b o (Ig _ e)) ok))
def GB{B:List (Addr×Obj)}{E:St}{H:Hp}{s J:Shared}{cl l:List (Str×Addr)}{C:Addr}{U:List Addr}{m:Str->Option Value}(S:CompScope X.N X.env.scope scope N' cap)(I:Inv X B E H s)
  (Qv:∀x c,cl.lookup x=some c->X.env.cells.lookup x=some c) (Oi:∀x,(x,NameKind.free)∈scope.names->∃c,cl.lookup x=some c) (t:s.heap.objs.size<=C) (Q0:J.os=s.os) (hg:J.gens=s.gens)
  (O:∀b o,s.heap.get? b=some o->J.heap.get? b=some o) (hn:J.heap.Ns C m) (Q:∀b∈U,dF X B H b) (N:∀b∈U,b<s.heap.objs.size) (Z:CellsOk J.heap (C+1) l) (hwm:∀x c,(x,c)∈l->(x,NameKind.cell)∈scope.names) (Qu:∀x,(x,NameKind.cell)∈scope.names->∃c,l.lookup x=some c) :
  Inv (ce X scope N' (l++cl) C s H U) [] (eA cap E) H J:=by
 have G:∀x c,(l++cl).lookup x=some c->((x,c)∈l/\C<c)\/(l.lookup x=none/\X.env.cells.lookup x=some c):=λx c h=>by
  rw[LN]at h
  cases e:l.lookup x with
  |none=>rw[e]at h;exact .inr ⟨rfl,Qv x c (by simpa using h)⟩
  |some K=>
   rw[e]at h
   have:K=c:=by simpa using h
   subst this;exact .inl ⟨Jv e,(Z.empty _ _ (Jv e)).2⟩
 have A:∀x c,X.env.cells.lookup x=some c->c<s.heap.objs.size:=λx c h=>by obtain⟨v,q⟩:=I.cell x c h;exact q.lt
 have So:∀x,(x,NameKind.free)∈scope.names->∃c,(l++cl).lookup x=some c/\X.env.cells.lookup x=some c:=λx f=>by
  obtain⟨c,hc⟩:=Oi x f;refine⟨c,?_,Qv x c hc⟩;rw[LN]
  cases e:l.lookup x with
  |none=>simpa using hc
  |some K=>
   have a1:=S.cel _ (hwm x K (Jv e)) rfl;have a2:=S.fst _ f rfl;have a1:scope.names.lookup x=some .cell:=a1;have a2:scope.names.lookup x=some .free:=a2;rw[a1]at a2;cases a2
 refine⟨⟨I.ok.mod,S.kind,I.ok.glob,I.ok.blt,t,λx y c Y a=>?_,λx f=>?_,λx c f h=>?_,I.ok.hd,I.ok.frames,.inl rfl,
   λb w=>⟨Ja (IT (N b w) t),λx c e=>?_⟩,I.bs,IF I.ok.bsz I.sz,λb o e w=>?_,λb w hf=>?_,I.stack,I.stkFree⟩,
  Q0,by rw[hg];exact I.bare,Un.kept O,⟨m,hn,λi x v Y a h3=>?_⟩,λx c e=>?_,I.hok.fresh t,λx c e=>?_,λp hp=>absurd (show p∈([]:List (Addr×Obj))from hp) (by simp),I.hok.kept O,?_⟩
 ·rcases G x c Y with⟨a1,a2⟩|⟨_,a2⟩<;>rcases G y c a with⟨b1,R⟩|⟨_,R⟩
  ·exact name_of_addr Z.apart a1 b1
  ·exact absurd (A y c R) (LA.mpr (IF t (Kh a2)))
  ·exact absurd (A x c a2) (LA.mpr (IF t (Kh R)))
  ·exact I.ok.inj x y c a2 R
 ·have q:(x,NameKind.free)∈scope.names\/(x,NameKind.cell)∈scope.names:=by
   rcases f with f|f
   ·exact qj f (.inl rfl)
   ·exact qj f (.inr rfl)
  rcases q with q|q
  ·obtain⟨c,h,_⟩:=So x q;exact⟨c,h⟩
  ·obtain⟨c,h⟩:=Qu x q;exact⟨c,by show (l++cl).lookup x=_;rw[LN,h];rfl⟩
 ·have f:(scope.names.lookup x==some .cell)=true:=f
  have f:scope.names.lookup x=some .cell:=by simpa using f
  obtain⟨K,h'⟩:=Qu x (Jv f);rcases G x c h with⟨_,a2⟩|⟨a1,_⟩
  ·exact IF t (Kh a2)
  ·rw[h']at a1;cases a1
 ·rcases G x c e with⟨_,a2⟩|⟨_,a2⟩
  ·exact λz=>absurd (N b w) (LA.mpr (IF t (by rw[←z];exact Kh a2)))
  ·exact (Q b w).2.2.2.2.1 x c a2
 ·rcases (Q b w).2.2.2.1 with z|z
  ·exact I.ok.noex b o e z
  ·exact absurd (IT (Iq e) (IF I.ok.bsz z)) (J8 _)
 ·rcases Ik.mp (I.stkSub b hf)with z|z
  ·exact (Q b w).2.1 z
  ·exact (Q b w).2.2.1 z
 ·have a:(cap.map λo=>o.bind λi=>(E[i]?).join)[i]?=some (some v):=a;rw[Ii]at a
  cases T:cap[i]? with
  |none=>rw[T]at a;cases a
  |some o=>
   rw[T]at a
   have a:(o.bind λi=>(E[i]?).join)=some v:=by simpa using a
   cases o with
   |none=>cases a
   |some j=>
    have a:(E[j]?).join=some v:=a
    have hj:E[j]?=some (some v):=by
     cases ej:E[j]? with
     |none=>rw[ej]at a;cases a
     |some y=>rw[ej]at a;exact JD some a
    have hz:(cap.zip N')[i]?=some (some j,x):=by rw[List.getElem?_zip_eq_some];exact⟨T,Y⟩
    obtain⟨q1,q2⟩:=S.at_ _ (IA hz) j rfl;obtain⟨mx,hnx,hl⟩:=I.loc;have kc:=S.free _ q2 rfl;obtain⟨u,r,lk⟩:=hl j x v q1 hj (.inr (.inl kc));refine⟨u,r,?_⟩;rcases lk with⟨k1,_⟩|⟨_,c,e,z⟩
    ·have:X.env.scope.names.lookup x=some .local:=k1;rw[kc]at this;cases this
    ·obtain⟨K,Sa,PY⟩:=So x q2;rw[e]at PY;cases PY
     have F:(compEnvC scope (l++cl) C X.env).kindOf x=some .cell\/(compEnvC scope (l++cl) C X.env).kindOf x=some .free\/(compEnvC scope (l++cl) C X.env).kindOf x=some .local:=by
      rcases h3 with z|z|z
      ·exact .inr (.inr z)
      ·exact .inl z
      ·exact .inr (.inl z)
     rcases F with F|F|F
     ·exact .inr ⟨.inl F,c,Sa,let ⟨o,P,hd⟩:=z;⟨o,O c o P,hd⟩⟩
     ·exact .inr ⟨.inr F,c,Sa,let ⟨o,P,hd⟩:=z;⟨o,O c o P,hd⟩⟩
     ·exfalso;have kl:(relabel scope X.env).names.lookup x=some .local:=F;have ml:=Jv kl;obtain⟨⟨n,k⟩,hm,M⟩:=IM.mp ml;have M:(if (k==NameKind.free&&X.env.scope.kind==.function&&X.env.kindOf n==some .cell)=true then (n,NameKind.cell) else (n,k))=(x,NameKind.local):=M;split at M
      ·cases M
      ·cases M;have a1:=S.names _ hm rfl;have a3:scope.names.lookup x=some .free:=S.fst _ q2 rfl;have a1:scope.names.lookup x=some .local:=a1;rw[a3]at a1;cases a1
 ·rcases G x c e with⟨a1,_⟩|⟨_,a2⟩
  ·exact⟨none,(Z.empty x c a1).1⟩
  ·obtain⟨v,o,P,hd⟩:=I.cell x c a2;exact⟨v,o,O c o P,hd⟩
 ·rcases G x c e with⟨_,a2⟩|⟨_,a2⟩
  ·exact I.hok.fresh (IF t (Kh a2))
  ·exact I.freeC x c a2
 ·show (eA cap E).length=N'.length;unfold eA;rw[HV,S.len]
def vf{t:List (Addr×Obj)}{σ:St}{f:Hp}{z:Shared}{it:Addr}{l:List Addr}{tn:Nat->Heap->Prop}{J:It}{cl:List (Str×Addr)}{RR:Value->Addr->Result->Shared->Prop}{E:Value->Shared->Prop}(M4:X.calm=true)(S:CompScope X.N X.env.scope scope N' cap)
  (hg:∀(cl:List (Str×Addr))(C:Addr)(s0:Shared)(H0:Hp),PG (ce X scope N' cl C s0 H0 l) tg g) (ht:∀(cl:List (Str×Addr))(C:Addr)(s0:Shared)(H0:Hp),je (ce X scope N' cl C s0 H0 l) ifs tc) (he:∀(cl:List (Str×Addr))(C:Addr)(s0:Shared)(H0:Hp),PE (ce X scope N' cl C s0 H0 l) elt te)
  (I2:Inv X t σ f z) (T:Turn X.prog X.w X.K tg J l it tn) (Ro:tn 0 z.heap) (f2:∀b∈l,dF X t f b)
  (Qv:∀x c,cl.lookup x=some c->X.env.cells.lookup x=some c) (Oi:∀x,(x,NameKind.free)∈scope.names->∃c,cl.lookup x=some c)
  {P:V->Hp->Prop}
  (w:∀D,f D=none->∃W:Nat->Nat->St->Hp->Prop,(∃m,W 0 m (eA cap σ) (aj f D (.lst []))) /\
   ∀i m B j,W i m B j->(J.stop i j/\P (.ref D) j)\/(J.go i j/\∃N:St->Hp->Prop,(∀σ2 f,N σ2 f->∃m',m'<m/\W (i+1) m' σ2 f) /\
    ∀x f,J.yld i j x f->g x B f λG H3=>tc G H3 λb H4=>if b=true then te G H4 λy K=>∃ys,K D=some (.lst ys)/\ys.length<sizeLine/\N G (aj K D (.lst (ys++[y]))) else N G H4))
  (hRR:∀D C j s' m',X.env.locals≠C->X.s₀.heap.objs.size<=C->(∀x c,X.env.cells.lookup x=some c->c≠C)->(∀p∈X.pn++t,p.1≠C)->j C=none->s'.heap.Ns C m'->Inv X t σ j s'->P (.ref D) j->RR (.ref D) C (.ok .next) s') :
  wpAny (model X.prog X.w) X.A (newList []) (λacc A=>wpAny (model X.prog X.w) X.A (newFunctionEnv scope X.env.globals cl [] X.env.qual none .none (some X.env)) (λSq s₄=>
   codeAny (model X.prog X.w) X.A (.compStart (.ListComp elt [⟨tg,iter,ifs,0⟩] scope pos) 0 (.ref it) acc { Sq with scope:=relabel scope X.env }) (RR acc Sq.locals) s₄) E A) E z:=by
 refine JX ?_ (by show 0<=sizeLine;decide);have M:Inv X t σ (aj f z.heap.objs.size (.lst [])) { z with heap:=z.heap.push { cls:=.type "list",data:=.seq ([]:List Value).toArray } }:=I2.lnew (t':=z.toks) .nil (by show 0<=sizeLine;decide);have k3:∀b o,z.heap.get? b=some o->(z.heap.push { cls:=.type "list",data:=.seq ([]:List Value).toArray }).get? b=some o:=λb o e=>Ig _ e;have z3:(z.heap.push { cls:=.type "list",data:=.seq ([]:List Value).toArray }).objs.size=z.heap.objs.size+1:=Jy ..;have hD0:f z.heap.objs.size=none:=I2.fresh;generalize hs3:({ z with heap:=z.heap.push { cls:=.type "list",data:=.seq ([]:List Value).toArray } }:Shared)=s3 at M ⊢
 have eh3:s3.heap=z.heap.push { cls:=.type "list",data:=.seq ([]:List Value).toArray }:=by rw[←hs3]
 have eo3:s3.os=z.os:=by rw[←hs3]
 generalize hDD:z.heap.objs.size=D at M hD0 z3 ⊢;rw[←eh3]at k3 z3;have live:∀b∈l,∃o,z.heap.get? b=some o/\∀v,o.data≠.cell v:=λb a=>T.obj 0 _ Ro b a
 have Uo:∀b∈l,b<D:=λb a=>by obtain⟨o,e,_⟩:=live b a;rw[←hDD];exact Iq e
 have Z:∀b∈l,dF X t (aj f D (.lst [])) b:=λb a=>⟨by rw[aE (Ja (Uo b a))];exact (f2 b a).1,(f2 b a).2⟩;refine zH λh4 hn4 k4 ok4=>?_;generalize hnw:cellsFrom (s3.heap.objs.size+1) scope.names []=Q at ok4 ⊢;have st4:tn 0 h4:=T.keep 0 _ _ Ro λb _ o e=>k4 b o (k3 b o e)
 have I4:Inv (ce X scope N' (Q++cl) s3.heap.objs.size s3 (aj f D (.lst [])) l) [] (eA cap σ) (aj f D (.lst [])) { s3 with heap:=h4 }:=
  GB S M Qv Oi (Ih _) rfl rfl k4 hn4 Z (λb a=>by rw[z3];exact K7 (Uo b a)) ok4 (λx c h=>qv _ _ (hnw▸h)) λx h=>hnw▸pJ (S.cel _ h rfl)
 obtain⟨W,⟨m0,w0⟩,turn⟩:=w D hD0
 have Up:∀{j:Hp},(∀b∈l,j b=none)->∀b∈l,dF (ce X scope N' (Q++cl) s3.heap.objs.size s3 (aj f D (.lst [])) l) [] j b:=λhn b a=>
  ⟨hn b a,Ja (by show b<s3.heap.objs.size;rw[z3];exact K7 (Uo b a)),λhf=>I4.ok.exfs b a hf,.inl a,λx c e=>(I4.ok.exf b a).2 x c e,λp hp=>absurd (show p∈([]:List (Addr×Obj))from hp) (by simp)⟩
 have O:∀A:Shared,A={ s3 with heap:=h4 }->
   codeAny (model X.prog X.w) X.A (.compLoop (.ListComp elt [⟨tg,iter,ifs,0⟩] scope pos) 0 (.ref it) (.ref D) (compEnvC scope (Q++cl) s3.heap.objs.size X.env)) (RR (.ref D) s3.heap.objs.size) A:=by
  rintro A rfl
  refine BR (λn s'=>∃i B j,Inv (ce X scope N' (Q++cl) s3.heap.objs.size s3 (aj f D (.lst [])) l) [] B j s'/\tn i s'.heap/\(∀b∈l,j b=none)/\W i n B j) ?_ m0
   ⟨0,eA cap σ,aj f D (.lst []),I4,st4,λb a=>(Z b a).1,w0⟩
  rintro n s5 ⟨i,H,K,I5,aV,Tj,w5⟩;rcases turn i n H K w5 with⟨stop,qn⟩|⟨go,N,hN,step⟩
  ·refine aq (T.done (ce X scope N' (Q++cl) s3.heap.objs.size s3 (aj f D (.lst [])) l) rfl rfl rfl M4 i [] s5 H K _ I5 (Up Tj) aV stop) λr s6 MQ=>?_;obtain⟨hr,U⟩:=MQ;subst hr;obtain⟨m6,hn6,_⟩:=U.loc;have un:Un (b8 X.stack) l (aj f D (.lst [])) K s3.heap s6.heap:=U.base;refine hRR D s3.heap.objs.size K s6 m6 (Ja M.lt) M.sz (λx c e=>?_) (λp hp=>?_) U.free hn6 ?_ qn
   ·obtain⟨v,q⟩:=M.cell x c e;exact Ja q.lt
   ·exact Ja (Iq (M.pin p hp).1)
   ·exact M.call' U.os un U.hok U.bare λb a=>⟨(Z b a).2.2.2.1,(Z b a).2.1,(Z b a).2.2.2.2.1,(Z b a).2.2.2.2.2⟩
  ·refine aq (T.item (ce X scope N' (Q++cl) s3.heap.objs.size s3 (aj f D (.lst [])) l) rfl rfl rfl M4 i [] s5 H K (λ_ _=>False) I5 (Up Tj) aV go) λr s6 NR=>?_;obtain⟨u,hr,h6⟩:=NR;subst hr;refine aq h6 λ_ s7 OT=>?_;obtain⟨x,H7,I7,r7,y7,Uq,fr7⟩:=OT;have I7':=I7.pinned (Up fr7) (T.obj _ _ Uq);refine aq (hg _ _ _ _ _ s7 H H7 x u _ I7' r7 (step x H7 y7)) λ_ s8 Sb=>?_;obtain⟨I,H8,I8,q8⟩:=Sb;refine aq (ht _ _ _ _ _ s8 I H8 _ I8 q8) λb s9 T7=>?_;obtain⟨R,Y,q9⟩:=T7
   have again:∀{F:St}{R:Hp}{s9:Shared},Inv (ce X scope N' (Q++cl) s3.heap.objs.size s3 (aj f D (.lst [])) l) ([]++jN l s7.heap) F R s9->N F R->∃m,m<n/\∃i B j,Inv (ce X scope N' (Q++cl) s3.heap.objs.size s3 (aj f D (.lst [])) l) [] B j s9/\tn i s9.heap/\(∀b∈l,j b=none)/\W i m B j:=λ{F R s9} Y n9=>by obtain⟨m',hm,w9⟩:=hN F R n9;refine⟨m',hm,i+1,F,R,Y.unpinned,T.keep _ _ _ Uq λb a o e=>(Y.pin (b,o) (Jb _ (Jb _ (mt a e)))).1,λb a=>?_,w9⟩;obtain⟨o,e,d⟩:=T.obj _ _ Uq b a;exact (Y.pin (b,o) (Jb _ (Jb _ (mt a e)))).2.1
   cases b with
   |false=>
    rw[Ib (by decide)]at q9 ⊢;exact again Y q9
   |true=>
    rw[Ia rfl]at q9 ⊢;refine aq (he _ _ _ _ _ s9 I R _ Y q9) λyv s10 T8=>?_;obtain⟨y,Ur,I10,r10,ys,Us,Ut,q10⟩:=T8;refine aq (qO _ s10 I Ur (.ref D) [y] (.ref D) [yv] (λ_ j=>N I j) I10 rfl (.cons r10 .nil) ⟨D,ys,y,rfl,rfl,Us,Ut,q10⟩) λ_ s11 hq6=>?_;obtain⟨_,H11,I11,_,q11⟩:=hq6;exact again I11 q11
 exact codeAny_compStart_list (O _ rfl) (T.self _ 0 _ _ _ st4 (O _ rfl))
def F0(u:X.calm=true)(S:CompScope X.N X.env.scope scope N' cap)(hi:PI X tg iter wi)
  (hg:∀(cl:List (Str×Addr))(a:List Addr)(C:Addr)(j:Shared)(f:Hp),PG (ce X scope N' cl C j f a) tg g) (ht:∀(cl:List (Str×Addr))(a:List Addr)(C:Addr)(j:Shared)(f:Hp),je (ce X scope N' cl C j f a) ifs tc)
  (Y:∀(cl:List (Str×Addr))(a:List Addr)(C:Addr)(j:Shared)(f:Hp),PE (ce X scope N' cl C j f a) elt te) (hs:∀x,foldedSetIterable iter X.env x=pure x:=by intro _;rfl) :
  PE X (.ListComp elt [⟨tg,iter,ifs,0⟩] scope pos) (iG wi cap g tc te):=by
 intro c s m H Q I h;obtain⟨cl,F,z,y⟩:=vo (scope:=scope) (env:=X.env) λx hx Z=>I.ok.has x.1 (.inl (S.free x hx Z));rw[eval_ListComp];refine wpAny_comprehension_free (use:=none) rfl hs F S.kind S.names (aq (hi c s m H _ I h) λv s1 M=>aq M λTi s2 N=>?_);obtain⟨it,a,tn,J,H2,e,t,T,B,K,w⟩:=N;subst e;refine vf (RR:=λl C=>compPost (model X.prog X.w) X.A X.xe none (EP X c m Q) l C) u S (λcl=>hg cl a) (λcl=>ht cl a) (λcl=>Y cl a) t T B K z y (P:=Q) w ?_;intro D C p s' m' R hz E G O hn r q;refine⟨m',hn,λh' A=>⟨.ref D,p,r.turned (t':=s'.toks) (λb o U e=>(A.2 b U).trans e) O (Jj R) (.inr hz) E G,rfl,q⟩⟩
def sx{i:Nat}{y:Str}{j G:Pos}(U:X.calm=true)(hN:X.N.Nodup)(hy:X.N[i]?=some y)(E:gb X.env.scope y)(S:CompScope X.N X.env.scope scope N' cap)(hi:PI X tg iter wi)
  (hg:∀(cl:List (Str×Addr))(f:List Addr)(C:Addr)(m:Shared)(l:Hp),PG (ce X scope N' cl C m l f) tg g) (ht:∀(cl:List (Str×Addr))(f:List Addr)(C:Addr)(m:Shared)(l:Hp),je (ce X scope N' cl C m l f) ifs tc)
  (he:∀(cl:List (Str×Addr))(f:List Addr)(C:Addr)(m:Shared)(l:Hp),PE (ce X scope N' cl C m l f) elt te) (Sr:swapsWith (.ListComp elt [⟨tg,iter,ifs,0⟩] scope pos) (some (.Name y j)) G.line X.env=pure true:=by rfl)
  (hs:∀x,foldedSetIterable iter X.env x=pure x:=by intro _;rfl) (A:X.fn y=true\/X.env.scope.names.lookup y=some .local:=by nofun) :
  PS X (.Assign [.Name y j] (.ListComp elt [⟨tg,iter,ifs,0⟩] scope pos) G) (kU (iG wi cap g tc te) (jT i)):=by
 intro c s N H D I h;obtain⟨cl,Uu,Z,Y⟩:=vo (scope:=scope) (env:=X.env) λx E A=>I.ok.has x.1 (.inl (S.free x E A));rw[exec_Assign_Name_used _ _ _ _ Sr];refine HZ (KP (HZ ?_));show wpAny _ X.A (do let _ ←comprehension (.ListComp elt [⟨tg,iter,ifs,0⟩] scope pos) scope X.env _ (newList []) false (eval iter X.env) (some (assign (.Name y j) X.env))) _ _ s
 refine HZ (JF (wpAny_comprehension_free (use:=some (assign (.Name y j) X.env)) (Q:=λ_ s'=>SP X c D .next s') rfl hs Uu S.kind S.names
  (aq (hi c s N H _ I h) λv s1 h1=>aq h1 λTi s2 h2=>?_)) (λ_ s' hq=>Io (Io hq)) λ_ _ e=>e)
 obtain⟨it,f,tn,J,H2,e,R,T,Ro,f2,w⟩:=h2;subst e;refine vf (RR:=λt C=>compPost (model X.prog X.w) X.A X.xe (some (assign (.Name y j) X.env)) (λ_ s'=>SP X c D .next s') t C) U S (λcl=>hg cl f) (λcl=>ht cl f) (λcl=>he cl f) R T Ro f2 Z Y (P:=λv p=>D.nx (N.set i (some v)) p) w ?_;intro F C p s' m' M hz K Uv hC hn O q;show wpAny _ X.A (assign (.Name y j) X.env (.ref F)) _ _ s';refine wpAny_assign_Name (qb (v:=.ref F) O hN hy E rfl (λSe r B=>?_) A);obtain⟨a,sb,ha⟩:=B
 have u:C≠a:=by
  rcases ha with z|z
  ·rw[z];exact Jj M
  ·exact Jj (K y a z)
 refine⟨m',hn.sameBut sb u,λh' Rg=>?_⟩;exact⟨_,p,r.turned (t':=Se.toks) (λb o hb e=>(Rg.2 b hb).trans e) hC (Jj M) (.inr hz) K Uv,q⟩
end
open AutoSeq1 (wpAny_loadPart')
def Inv.turnedL{X:Cx}{a:List (Addr×Obj)}{l:St}{H:Hp}{s:Shared}{h':Heap}{ch:List Addr}{t':Nat}(I:Inv X a l H s)(k:∀b o,b∉ch->s.heap.get? b=some o->h'.get? b=some o)(g:∀b∈ch,dF X a H b) :
  Inv X a l H { s with heap:=h',toks:=t' }:=by
 have j:∀b u,H b=some u->b∉ch:=λb u e z=>by rw[(g b z).1]at e;cases e
 refine I.step (g':=s.gens) (d':=s.drawn) (ch:=ch) (λb h=>⟨(g b h).2.2.2.1,(g b h).2.1,(g b h).2.2.2.2.1,(g b h).2.2.2.2.2⟩) (λb o _ _ f e _=>k b o f e) (λb o _ _ f e _=>⟨o.slots,k b o f e⟩) (λ_ _ _ _ n=>n)
  (λb o f e=>⟨o,k b o f e⟩) (λ_ _ e=>e) (λ_ _ _ e=>e) (λb ps e=>e) (λm t=>?_) (λb u e=>?_) I.bare
 ·obtain⟨o,es,p,w,r⟩:=t;exact⟨o,es,p,k _ o (λz=>(g _ z).2.1 rfl) w,r⟩
 ·refine (I.hok b u e).stay (λc v f q=>k c v ?_ q) (λ_ q=>q) (λ_ _ q=>q) λ_ _ _ q=>q;rcases f with z|z
  ·rw[z];exact j b u e
  ·exact j c _ z
noncomputable def SqI(b:Bool)(h:Heap)(c a:Addr)(i:Nat):Prop:=match b with|true=>h.IsListIter c a i|false=>h.IsTupleIter c a i
noncomputable def SqO(b:Bool)(h:Heap)(a:Addr)(c:Array Value):Prop:=match b with|true=>h.IsList a c|false=>h.IsTuple a c
noncomputable def SqB(K:Frag)(b:Bool)(H:Hp)(a:Addr)(xs:List V):Prop:=match b with|true=>SqL K H a xs|false=>SqT K H a xs
noncomputable def df(b:Bool)(a:Addr):Obj:=match b with
 |true=>{ cls:=.type "list_iterator",data:=.fields #[.ref a,.int 0 0] }
 |false=>{ cls:=.type "tuple_iterator",data:=.fields #[.ref a,.int 0 0] }
def SqI.at{b:Bool}{h h':Heap}{c a:Addr}{i:Nat}(x:SqI b h c a i)(k:∀o,h.get? c=some o->h'.get? c=some o):SqI b h' c a i:=by cases b<;>(obtain⟨o,e,r⟩:=x;exact⟨o,k o e,r⟩)
def SqO.at{b:Bool}{h h':Heap}{a:Addr}{c:Array Value}(x:SqO b h a c)(k:∀o,h.get? a=some o->h'.get? a=some o):SqO b h' a c:=by cases b<;>(obtain⟨o,e,r⟩:=x;exact⟨o,k o e,r⟩)
def SqI.obj{b:Bool}{h:Heap}{c a:Addr}{i:Nat}(x:SqI b h c a i):∃o,h.get? c=some o/\∀v,o.data≠.cell v:=by cases b<;>(obtain⟨o,e,_,d⟩:=x;exact⟨o,e,λv z=>by rw[d]at z;cases z⟩)
def SqI.lt{b:Bool}{h:Heap}{c a:Addr}{i:Nat}(x:SqI b h c a i):c<h.objs.size:=by obtain⟨o,e,_⟩:=x.obj;exact Iq e
def SqO.lt{b:Bool}{h:Heap}{a:Addr}{c:Array Value}(x:SqO b h a c):a<h.objs.size:=by cases b<;>(obtain⟨o,e,_⟩:=x;exact Iq e)
def Inv.sqb{X:Cx}{e:List (Addr×Obj)}{j:St}{H:Hp}{s:Shared}{b:Bool}{a:Addr}{xs:List V}(I:Inv X e j H s)(h:SqB X.K b H a xs):∃c:List Value,Vals xs c/\SqO b s.heap a c.toArray/\xs.length<=sizeLine:=by
 cases b with
 |true=>obtain⟨c,g,p,f⟩:=I.list h;exact⟨c,g,p.isList,f⟩
 |false=>obtain⟨c,g,p,f⟩:=I.tuple h;exact⟨c,g,p,f⟩
def Inv.sqb_inj{X:Cx}{c:List (Addr×Obj)}{e:St}{H:Hp}{s:Shared}{b:Bool}{a:Addr}{xs ys:List V}(I:Inv X c e H s)(h:SqB X.K b H a xs)(h':SqB X.K b H a ys):xs=ys:=by
 cases b with
 |true=>exact I.list_inj h h'
 |false=>exact I.tuple_inj h h'
def SqB.same{K:Frag}{b:Bool}{H c:Hp}{a:Addr}{xs:List V}(e:Same H c)(h:SqB K b H a xs):SqB K b c a xs:=by
 cases b with
 |true=>exact e.seq h
 |false=>
  rcases h with (h|⟨o,h⟩)|h
  ·exact .inl (.inl (e _ _ h))
  ·exact .inl (.inr ⟨o,e _ _ h⟩)
  ·exact .inr h
section
variable{prog:Program}{w:World}{A:Around}{E:Value->Shared->Prop}{s:Shared}
def pM{b:Bool}{a:Addr}{c:Array Value}{Q:Value->Shared->Prop}(h:SqO b s.heap a c)(q:Q (.ref s.heap.objs.size) { s with heap:=s.heap.push (df b a) }):wpAny (model prog w) A (pyIter (.ref a)) Q E s:=by
 cases b with
 |true=>exact L1 h q
 |false=>exact wpAny_pyIter_tuple h q
def pq{b:Bool}{h:Heap}{c a:Addr}(e:h.get? c=some (df b a)):SqI b h c a 0:=by cases b<;>exact⟨_,e,rfl,rfl⟩
def nW{b:Bool}{e a:Addr}{i:Nat}{g:Array Value}{x:Value}{Q:Value->Shared->Prop}(c:SqI b s.heap e a i)(j:SqO b s.heap a g)(l:g[i]?=some x)
  (h:∀h',SqI b h' e a (i+1)->Heap.SameBut e s.heap h'->Q x { s with heap:=h' }):wpAny (model prog w) A (Builtin.SmallTypes.nextOf (.ref e)) Q E s:=by
 cases b with
 |true=>exact wpAny_nextOf_list_item c j l h
 |false=>
  have c:s.heap.IsTupleIter e a i:=c;obtain⟨o,f,r,hd⟩:=id c;obtain⟨t,m,_,nl,p⟩:=j;unfold Builtin.SmallTypes.nextOf;refine HZ (JV (name:=Str.ofString "__next__") c.typeIs Ko (Ku Ko c.typeIs LO ?_ (LJ _)));show wpAny _ _ (field (.ref e) 0 >>= _) _ _ s;refine HZ (Jw f hd (x:=.ref a) rfl ?_);show wpAny _ _ (if (Value.ref a==Value.none)=true then _ else _) _ _ s;rw[Ib (show ¬ ((Value.ref a==Value.none)=true)from IV)];show wpAny _ _ (field (.ref e) 1 >>= _) _ _ s;refine HZ (Jw f hd (x:=.int i 0) rfl ?_);show wpAny _ _ (seqItems? (.ref a) >>= _) _ _ s;refine HZ (Ke m p ?_);simp only[JL,l];refine HZ (K4 f hd (by simp) (Io ⟨x,rfl,Io (h _ ?_ (Heap.SameBut.update ..))⟩));exact⟨_,J3 _ f (KA (Kw hd _)),(Obj.cls_mapFields ..).trans r,by rw[Kw hd];simp[rawInt]⟩
def vm{b:Bool}{f a:Addr}{i:Nat}{j:Array Value}{Q:Value->Shared->Prop}(g:A.handled=none)(c:SqI b s.heap f a i)(p:SqO b s.heap a j)(r:j[i]?=none)
  (l:∀h' e,Heap.ExtBut f s.heap h'->(∃o,h'.get? e=some o/\o.cls=.type "StopIteration")->E (.ref e) { s with heap:=h' }):wpAny (model prog w) A (Builtin.SmallTypes.nextOf (.ref f)) Q E s:=by
 cases b with
 |true=>exact wpAny_nextOf_list_end g c p r l
 |false=>
  have c:s.heap.IsTupleIter f a i:=c;obtain⟨o,h,v,hd⟩:=id c;obtain⟨y,t,_,nl,u⟩:=p;unfold Builtin.SmallTypes.nextOf;refine HZ (JV (name:=Str.ofString "__next__") c.typeIs Ko (Ku Ko c.typeIs LO ?_ (LJ _)));show wpAny _ _ (field (.ref f) 0 >>= _) _ _ s;refine HZ (Jw h hd (x:=.ref a) rfl ?_);show wpAny _ _ (if (Value.ref a==Value.none)=true then _ else _) _ _ s;rw[Ib (show ¬ ((Value.ref a==Value.none)=true)from IV)];show wpAny _ _ (field (.ref f) 1 >>= _) _ _ s;refine HZ (Jw h hd (x:=.int i 0) rfl ?_);show wpAny _ _ (seqItems? (.ref a) >>= _) _ _ s;refine HZ (Ke t u ?_);simp only[JL,r];refine HZ (wpAny_rule (HZ (K4 h hd (by simp) ?_)));show wpAny _ _ (newExc (.type "StopIteration") [] >>= _) _ _ _;refine HZ ?_;simp only[newExc,newTuple];refine HZ (JX ?_ (by size_fits));refine HZ (m:=firstArgMember _ _) (wpAny_of_eq (a:=Value.none) (by first|rfl|(simp only[firstArgMember];rfl)) ?_);refine JX ?_ (by size_fits);simp only[raiseNew];refine HZ (wpAny_handled ?_)
  first|rw[show A.in1.handled=none from g]|rw[g]
  refine HZ (Io (wpAny_throw ?_));exact l _ _ (((Heap.SameBut.update ..).extBut.push _).push _) ⟨_,Iy _ rfl,rfl⟩
end
end L2
namespace L2
open PySem PySem.Spec PyProof.Rows
open AutoSeq1 (wpAny_loadPart')
structure ZAp(z TI TO i1 i2:Addr):Prop where
 a1:TI≠z
 a2:TO≠z
 a3:i1≠z
 a4:i2≠z
 a5:TI≠TO
 a6:TI≠i1
 a7:TI≠i2
 a8:TO≠i1
 a9:TO≠i2
 a0:i1≠i2
def SqI.but{b:Bool}{h h':Heap}{f a c:Addr}{i:Nat}(x:SqI b h f a i)(s:Heap.SameBut c h h')(n:f≠c):SqI b h' f a i:=x.at λo e=>(s.2 f n).trans e
def SqO.but{b:Bool}{h h':Heap}{a c:Addr}{f:Array Value}(x:SqO b h a f)(s:Heap.SameBut c h h')(n:a≠c):SqO b h' a f:=x.at λo e=>(s.2 a n).trans e
def SqO.ne{b:Bool}{h:Heap}{a c:Addr}{j:Array Value}{o:Obj}(x:SqO b h a j)(e:h.get? c=some o)(l:o.cls≠.type "list")(m:o.cls≠.type "tuple"):a≠c:=λz=>by
 subst z;cases b<;>(obtain⟨p,g,f,_⟩:=x;rw[e]at g;cases g)
 ·exact m f
 ·exact l f
def SqO.ne_it{b f:Bool}{h:Heap}{a g l:Addr}{j:Array Value}{i:Nat}(x:SqO b h a j)(y:SqI f h g l i):a≠g:=by cases f<;>(obtain⟨o,e,c,_⟩:=y;exact x.ne e (by rw[c];simp) (by rw[c];simp))
section
variable{prog:Program}{w:World}{A:Around}{E:Value->Shared->Prop}{s:Shared}
def mV{c z t a b:Addr}(h:c∉[z,t,a,b]):c≠z/\c≠t/\c≠a/\c≠b:=by simpa using h
def jG(z t u a b:Addr):z∈[z,t,u,a,b]/\t∈[z,t,u,a,b]/\u∈[z,t,u,a,b]/\a∈[z,t,u,a,b]/\b∈[z,t,u,a,b]:=by simp
def rf{z t u a b x:Addr}(h:x∈[z,u,a,b]):x∈[z,t,u,a,b]:=(List.Sublist.cons₂ z (.cons t (.refl _))).subset h
def Fk{G H:Bool}{z TI TO g h p l:Addr}{k1 k2:Nat}{xs ys:Array Value}{x y a b:Value}{Q:Value->Shared->Prop}(D:ZAp z TI TO g h)
  (j:IsZip s.heap z TI TO .none) (RD:IsPair s.heap TI (.ref g) (.ref h)) (RE:IsPair s.heap TO a b) (n1:p≠TO) (n2:l≠TO)
  (h1:SqI G s.heap g p k1) (h2:SqI H s.heap h l k2) (O1:SqO G s.heap p xs) (O:SqO H s.heap l ys) (hx:xs[k1]?=some x) (hy:ys[k2]?=some y)
  (hQ:∀h',IsZip h' z TI TO (rawInt s.heap.objs.size)->IsPair h' TO x y->SqI G h' g p (k1+1)->SqI H h' h l (k2+1)->IsPair h' s.heap.objs.size x y->h'.objs.size=s.heap.objs.size+1->
   (∀c o,c∉[z,TO,g,h]->s.heap.get? c=some o->h'.get? c=some o)->Q (.ref s.heap.objs.size) { s with heap:=h' }) :
  wpAny (model prog w) A (Builtin.«zip.__next__» ⟨[.ref z],[]⟩) (λP s'=>∃v,P=.done (.ret v)/\Q v s') E s:=by
 have R:p≠z:=O1.ne j (by simp) (by simp);have S:l≠z:=O.ne j (by simp) (by simp);have B:l≠g:=O.ne_it h1;show wpAny _ _ (field (.ref z) 2 >>= _) _ _ _;refine HZ (Jw j rfl (x:=.bool false) rfl ?_);show wpAny _ _ (field (.ref z) 3 >>= _) _ _ _;refine HZ (Jw j rfl (x:=.ref TI) rfl (HZ (Ke RD rfl ?_)));show wpAny _ _ (Builtin.SmallTypes.ownedTupleIsFree (.ref z) >>= _) _ _ _;refine HZ ?_;unfold Builtin.SmallTypes.ownedTupleIsFree;refine HZ (Jw j rfl (x:=.none) rfl (Io ?_));simp only[KQ];refine HZ (wpAny_rule (HZ (Jw j rfl (x:=.ref TO) rfl (HZ (Kj j (by simp) λg1 Y m=>?_)))));replace Y:IsZip g1 z TI TO .ellipsis:=Y;refine HZ ?_;simp only[List.zipIdx_cons,List.zipIdx_nil,Lz,MF];refine HZ (HZ (Lg ?_));show wpAny _ _ (Builtin.SmallTypes.nextOf (.ref g) >>= _) _ _ _;refine HZ (nW (h1.but m D.a3) (O1.but m R) hx λg2 p2 r=>Io ?_);have t2:IsPair g2 TO a b:=r.extBut _ _ D.a8 (m.extBut _ _ D.a2 RE);refine HZ (Ke t2 rfl (HZ (LB t2 λg3 X t=>HZ (wpAny_letGo (Io ?_)))));replace X:IsPair g3 TO x b:=X;refine HZ (HZ (Lg ?_));show wpAny _ _ (Builtin.SmallTypes.nextOf (.ref h) >>= _) _ _ _;refine HZ (nW (((h2.but m D.a4).but r D.a0.symm).but t D.a9.symm) (((O.but m S).but r B).but t n2) hy λg4 p4 C=>Io ?_);have t4:IsPair g4 TO x b:=C.extBut _ _ D.a9 X;refine HZ (Ke t4 rfl (HZ (LB t4 λf K F=>HZ (wpAny_letGo (Io (Io ?_))))));replace K:IsPair f TO x y:=K;refine HZ (Ke K rfl (HZ (wpAny_newTuple ?_)))
 have sz:f.objs.size=s.heap.objs.size:=by rw[F.1,C.1,t.1,r.1,m.1]
 have z5:IsZip f z TI TO .ellipsis:=F.extBut _ _ D.a2.symm (C.extBut _ _ D.a4.symm (t.extBut _ _ D.a2.symm (r.extBut _ _ D.a3.symm Y)))
 have k5:∀c o,c∉[z,TO,g,h]->s.heap.get? c=some o->f.get? c=some o:=λc o J e=>by obtain⟨I,c2,c3,c4⟩:=mV J;exact F.extBut _ _ c2 (C.extBut _ _ c4 (t.extBut _ _ c2 (r.extBut _ _ c3 (m.extBut _ _ I e))))
 have q1:SqI G f g p (k1+1):=((p2.but t D.a8.symm).but C D.a0).but F D.a8.symm;have q2:SqI H f h l (k2+1):=p4.but F D.a9.symm;show wpAny _ _ (Builtin.SmallTypes.ownedTupleHandOut (.ref z) (.ref f.objs.size) >>= _) _ _ _;refine HZ ?_;unfold Builtin.SmallTypes.ownedTupleHandOut;have z6:IsZip (f.push { cls:=.type "tuple",data:=.seq #[x,y] }) z TI TO .ellipsis:=Ig _ z5;refine HZ (Kj z6 (by simp) λg7 Z T=>?_);replace Z:IsZip g7 z TI TO (rawInt f.objs.size):=Z;refine Kj Z (by simp) λu N U=>?_;replace N:IsZip u z TI TO (rawInt f.objs.size):=N;have M:∀c o,c≠z->f.get? c=some o->u.get? c=some o:=λc o I e=>U.extBut _ _ I (T.extBut _ _ I (Ig _ e));have zl:f.objs.size≠z:=Ma (Iq z5);have t8:IsPair u f.objs.size x y:=U.extBut _ _ zl (T.extBut _ _ zl (Iy _ rfl))
 have e8:u.objs.size=f.objs.size+1:=by rw[U.1,T.1,Jy]
 rw[sz]at N t8 e8;refine Io ⟨_,rfl,?_⟩;show Q (.ref f.objs.size) _;rw[sz];exact hQ u N (M _ _ D.a2 K) (q1.at λo e=>M _ o D.a3 e) (q2.at λo e=>M _ o D.a4 e) t8 e8 λc o J e=>M c o (mV J).1 (k5 c o J e)
def zZ{T U:Bool}{z TI TO p u C y:Addr}{k1 k2:Nat}{xs ys:Array Value}{a b:Value}{Q:Fin->Shared->Prop}(hh:A.handled=none)(D:ZAp z TI TO p u)
  (l:IsZip s.heap z TI TO .none) (RD:IsPair s.heap TI (.ref p) (.ref u)) (RE:IsPair s.heap TO a b) (n1:C≠TO) (n2:y≠TO)
  (M:SqI T s.heap p C k1) (h2:SqI U s.heap u y k2) (H:SqO T s.heap C xs) (G:SqO U s.heap y ys) (PZ:xs[k1]?=none\/ys[k2]?=none)
  (hE:∀h' e,(∀c o,c∉[z,TO,p,u]->s.heap.get? c=some o->h'.get? c=some o)->(∃o,h'.get? e=some o/\o.cls=.type "StopIteration")->E (.ref e) { s with heap:=h' }) :
  wpAny (model prog w) A (Builtin.«zip.__next__» ⟨[.ref z],[]⟩) Q E s:=by
 have v:C≠z:=H.ne l (by simp) (by simp);have R:y≠z:=G.ne l (by simp) (by simp);have B:y≠p:=G.ne_it M;show wpAny _ _ (field (.ref z) 2 >>= _) _ _ _;refine HZ (Jw l rfl (x:=.bool false) rfl ?_);show wpAny _ _ (field (.ref z) 3 >>= _) _ _ _;refine HZ (Jw l rfl (x:=.ref TI) rfl (HZ (Ke RD rfl ?_)));show wpAny _ _ (Builtin.SmallTypes.ownedTupleIsFree (.ref z) >>= _) _ _ _;refine HZ ?_;unfold Builtin.SmallTypes.ownedTupleIsFree;refine HZ (Jw l rfl (x:=.none) rfl (Io ?_));simp only[KQ];refine HZ (wpAny_rule (HZ (Jw l rfl (x:=.ref TO) rfl (HZ (Kj l (by simp) λg1 F f=>?_)))));replace F:IsZip g1 z TI TO .ellipsis:=F;refine HZ ?_;simp only[List.zipIdx_cons,List.zipIdx_nil,Lz,MF];refine HZ (HZ (Lg ?_));show wpAny _ _ (Builtin.SmallTypes.nextOf (.ref p) >>= _) _ _ _
 cases P:xs[k1]? with
 |none=>
  refine HZ (vm hh (M.but f D.a3) (H.but f v) P λK e g O=>?_);obtain⟨S,j,r⟩:=O;have z2:IsZip K z TI TO .ellipsis:=g _ _ D.a3.symm F
  have J:e≠z:=λq=>by subst q;rw[z2]at j;cases j;simp at r
  refine Kj z2 (by simp) λZ _ m=>hE Z e (λc o N q=>?_) ⟨S,m.extBut _ _ J j,r⟩;obtain⟨t,X,I,Y⟩:=mV N;exact m.extBut _ _ t (g _ _ I (f.extBut _ _ t q))
 |some x=>
  have hy:ys[k2]?=none:=by
   rcases PZ with h|h
   ·rw[P]at h;cases h
   ·exact h
  refine HZ (nW (M.but f D.a3) (H.but f v) P λK p2 g=>Io ?_);have t2:IsPair K TO a b:=g.extBut _ _ D.a8 (f.extBut _ _ D.a2 RE);refine HZ (Ke t2 rfl (HZ (LB t2 λZ t3 m=>HZ (wpAny_letGo (Io ?_)))));refine HZ (HZ (Lg ?_));show wpAny _ _ (Builtin.SmallTypes.nextOf (.ref u) >>= _) _ _ _;refine HZ (vm hh (((h2.but f D.a4).but g D.a0.symm).but m D.a9.symm) (((G.but f R).but g B).but m n2) hy λg4 e s4 O=>?_);obtain⟨S,j,r⟩:=O;have z4:IsZip g4 z TI TO .ellipsis:=s4 _ _ D.a4.symm (m.extBut _ _ D.a2.symm (g.extBut _ _ D.a3.symm F))
  have J:e≠z:=λq=>by subst q;rw[z4]at j;cases j;simp at r
  refine Kj z4 (by simp) λg5 _ s5=>hE g5 e (λc o N q=>?_) ⟨S,s5.extBut _ _ J j,r⟩;obtain⟨t,X,I,Y⟩:=mV N;exact s5.extBut _ _ t (s4 _ _ Y (m.extBut _ _ X (g.extBut _ _ I (f.extBut _ _ t q))))
def GY(c l:Bool)(a j:Addr)(xs ys:Array Value) :
  Meets (Builtin.«zip.__new__» ⟨[.type "zip",.ref a,.ref j],[]⟩) (λ_ R s=>SqO c s.heap a xs/\SqO l s.heap j ys /\
   R (.ok (.ret (.ref (s.heap.objs.size+4)))) { s with heap:=((((s.heap.push (df c a)).push (df l j)).push { cls:=.type "tuple",data:=.seq #[.ref s.heap.objs.size,.ref (s.heap.objs.size+1)] }).push { cls:=.type "tuple",data:=.seq #[.none,.none] }).push { cls:=.type "zip",data:=.fields #[.none,.bool false,.bool false,.ref (s.heap.objs.size+2),.ref (s.heap.objs.size+3)] } }):=
 .of_wp λprog w A R s h=>by
  obtain⟨f,g,d,r,os⟩:=s;obtain⟨u,t,h⟩:=h;have x:=sub_zip;have m:SqO c (Shared.heap ⟨f,g,d,r,os⟩) a xs:=u;have p:SqO l (Shared.heap ⟨f.push (df c a),g,d,r,os⟩) j ys:=SqO.at t λo e=>Ig _ e
  wp_walk using pM m,pM p
  have v:(f.push (df c a)).objs.size=f.objs.size+1:=Jy ..
  have y:((f.push (df c a)).push (df l j)).objs.size=f.objs.size+2:=by rw[Jy,v]
  refine⟨_,rfl,?_⟩;simp only[Jy];exact h
def Hs{a f:Bool}{e g:Addr}{xs ys:Array Value}{Q:Value->Shared->Prop}(H:SqO a s.heap e xs)(G:SqO f s.heap g ys)
  (h:∀h',IsZip h' (s.heap.objs.size+4) (s.heap.objs.size+2) (s.heap.objs.size+3) .none->IsPair h' (s.heap.objs.size+2) (.ref s.heap.objs.size) (.ref (s.heap.objs.size+1))->IsPair h' (s.heap.objs.size+3) .none .none->
   SqI a h' s.heap.objs.size e 0->SqI f h' (s.heap.objs.size+1) g 0->(∀c o,s.heap.get? c=some o->h'.get? c=some o)->Q (.ref (s.heap.objs.size+4)) { s with heap:=h' }) :
  wpAny (model prog w) A (call (.type "zip") [.ref e,.ref g]) Q E s:=by
 refine callType_new F.called_zip (by decide) (F.typeCall_zip_2 _ _) (F.newCall_zip_2 _ _) (λobj=>F.args_object_init_3 obj _ _) F.entry_zip_new (GY a f e g xs ys) ⟨H,G,?_⟩
 have N:(df a e).isFreed=false:=by cases a<;>rfl
 have O:(df f g).isFreed=false:=by cases f<;>rfl
 have B:(s.heap.push (df a e)).objs.size=s.heap.objs.size+1:=Jy ..
 have x:((s.heap.push (df a e)).push (df f g)).objs.size=s.heap.objs.size+2:=by rw[Jy,B]
 generalize t:(s.heap.push (df a e)).push (df f g)=j at x ⊢
 have I:j.get? s.heap.objs.size=some (df a e):=by rw[←t];exact Ig _ (Iy _ N)
 have J:j.get? (s.heap.objs.size+1)=some (df f g):=by rw[←t,←B];exact Iy _ O
 have k2:∀c o,s.heap.get? c=some o->j.get? c=some o:=λc o q=>by rw[←t];exact Ig _ (Ig _ q)
 generalize u:j.push { cls:=.type "tuple",data:=.seq #[.ref s.heap.objs.size,.ref (s.heap.objs.size+1)] }=l
 have C:l.objs.size=s.heap.objs.size+3:=by rw[←u,Jy,x]
 have K:IsPair l (s.heap.objs.size+2) (.ref s.heap.objs.size) (.ref (s.heap.objs.size+1)):=by rw[←u,←x];exact Iy _ rfl
 have k3:∀c o,j.get? c=some o->l.get? c=some o:=λc o q=>by rw[←u];exact Ig _ q
 generalize v:l.push { cls:=.type "tuple",data:=.seq #[.none,.none] }=m
 have P:m.objs.size=s.heap.objs.size+4:=by rw[←v,Jy,C]
 have M:IsPair m (s.heap.objs.size+3) .none .none:=by rw[←v,←C];exact Iy _ rfl
 have r:∀c o,l.get? c=some o->m.get? c=some o:=λc o q=>by rw[←v];exact Ig _ q
 generalize p:m.push { cls:=.type "zip",data:=.fields #[.none,.bool false,.bool false,.ref (s.heap.objs.size+2),.ref (s.heap.objs.size+3)] }=z
 have y:IsZip z (s.heap.objs.size+4) (s.heap.objs.size+2) (s.heap.objs.size+3) .none:=by rw[←p,←P];exact Iy _ rfl
 have k5:∀c o,m.get? c=some o->z.get? c=some o:=λc o q=>by rw[←p];exact Ig _ q
 show _/\_;exact⟨⟨_,y,rfl⟩,h _ y (k5 _ _ (r _ _ K)) (k5 _ _ M) (pq (k5 _ _ (r _ _ (k3 _ _ I)))) (pq (k5 _ _ (r _ _ (k3 _ _ J)))) λc o q=>k5 _ _ (r _ _ (k3 _ _ (k2 _ _ q)))⟩
def FQ{j l:Bool}{z TI TO e f g h:Addr}{k1 k2:Nat}{xs ys:Array Value}{x y a b:Value}{Q:Option Value->Shared->Prop}(D:ZAp z TI TO e f)
  (p:IsZip s.heap z TI TO .none) (u:IsPair s.heap TI (.ref e) (.ref f)) (v:IsPair s.heap TO a b) (S:g≠TO) (T:h≠TO)
  (M:SqI j s.heap e g k1) (N:SqI l s.heap f h k2) (t:SqO j s.heap g xs) (r:SqO l s.heap h ys) (P:xs[k1]?=some x) (R:ys[k2]?=some y)
  (O:∀h',IsZip h' z TI TO (rawInt s.heap.objs.size)->IsPair h' TO x y->SqI j h' e g (k1+1)->SqI l h' f h (k2+1)->IsPair h' s.heap.objs.size x y->h'.objs.size=s.heap.objs.size+1->
   (∀c o,c∉[z,TO,e,f]->s.heap.get? c=some o->h'.get? c=some o)->Q (some (.ref s.heap.objs.size)) { s with heap:=h' }):wpAny (model prog w) A (pyNext (.ref z)) Q E s:=by
 have m:s.TypeIs (.ref z) "zip":=⟨_,p,rfl⟩;unfold pyNext
 exact HZ (wpAny_attempt (JV (name:=Str.ofString "__next__") m LC (Ku LC m F.entry_zip_next
  (Fk D p u v S T M N t r P R λh' B C G H I J K=>Io (O h' B C G H I J K)) (F.args_zip_next_1 _))))
def Gw{l m:Bool}{z TI TO f g h j:Addr}{k1 k2:Nat}{xs ys:Array Value}{a b:Value}{Q:Option Value->Shared->Prop}(J:A.handled=none)(D:ZAp z TI TO f g)
  (r:IsZip s.heap z TI TO .none) (x:IsPair s.heap TI (.ref f) (.ref g)) (y:IsPair s.heap TO a b) (N:h≠TO) (O:j≠TO)
  (B:SqI l s.heap f h k1) (C:SqI m s.heap g j k2) (u:SqO l s.heap h xs) (t:SqO m s.heap j ys) (v:xs[k1]?=none\/ys[k2]?=none)
  (G:∀h',(∀c o,c∉[z,TO,f,g]->s.heap.get? c=some o->h'.get? c=some o)->Q none { s with heap:=h' }):wpAny (model prog w) A (pyNext (.ref z)) Q E s:=by
 have p:s.TypeIs (.ref z) "zip":=⟨_,r,rfl⟩;unfold pyNext;refine HZ (wpAny_attempt (JV (name:=Str.ofString "__next__") p LC (Ku LC p F.entry_zip_next (zZ J D r x y N O B C u t v λh' e K I=>?_) (F.args_zip_next_1 _))));obtain⟨o,M,H⟩:=I;exact HZ (wpAny_isInstance (T:="StopIteration") (b:=true) ⟨o,M,H⟩ isSubtype_stop (Io (G _ K)))
end
def Inv.sqb_ne{X:Cx}{g:List (Addr×Obj)}{m:St}{H:Hp}{s:Shared}{b:Bool}{a c:Addr}{xs:List V}(I:Inv X g m H s)(h:SqB X.K b H a xs)(f:dF X g H c):a≠c:=λz=>by
 subst z
 have l:∀o,X.K.lookup a=some o->False:=λo e=>by
  have j:=I.mod.kin a o e;rcases f.2.2.2.1 with q|q
  ·exact I.ok.noex a o j q
  ·exact absurd (IT (Iq j) (IF I.ok.bsz q)) (J8 _)
 cases b with
 |true=>
  rcases h with (h|⟨o,h⟩)|⟨o,_,_,h,_⟩
  ·rw[f.1]at h;cases h
  ·rw[f.1]at h;cases h
  ·exact l o h
 |false=>
  rcases h with (h|⟨o,h⟩)|⟨o,_,_,h,_⟩
  ·rw[f.1]at h;cases h
  ·rw[f.1]at h;cases h
  ·exact l o h
noncomputable def qJ(K:Frag)(a:Bool)(a1:Addr)(c:Bool)(a2:Addr):It:=
 ⟨λi H=> ∃xs ys x y, SqB K a H a1 xs /\ SqB K c H a2 ys /\ xs[i]? = some x /\ ys[i]? = some y,
  λi H v e=> ∃t x y, H t = none /\ v = .ref t /\ e = aj H t (.tup [x, y]) /\ (∀xs, SqB K a H a1 xs-> xs[i]? = some x) /\ ∀ys, SqB K c H a2 ys-> ys[i]? = some y,
  λi H=> ∃xs ys, SqB K a H a1 xs /\ SqB K c H a2 ys /\ (xs.length <= i \/ ys.length <= i)⟩
def Fo{P:Program}{w:World}{K:Frag}{es:List Expr}{k:Nat}{pos:Pos}(b1 b2:Bool)(a1 a2 z TI TO g j:Addr)(D:ZAp z TI TO g j) :
  Turn P w K (.Tuple es k pos) (qJ K b1 a1 b2 a2) [z,TI,TO,g,j] z (λi h=>IsZip h z TI TO .none/\IsPair h TI (.ref g) (.ref j)/\(∃a b,IsPair h TO a b)/\SqI b1 h g a1 i/\SqI b2 h j a2 i) where
 mem:=Ie
 obj:=λi h st c f=>by
  obtain⟨p,m,⟨a,b,r⟩,t,A⟩:=st;simp only[Ik,IQ,JJ]at f;rcases f with rfl|rfl|rfl|rfl|rfl
  ·exact⟨_,p,λv q=>by have C:Data.fields _=Data.cell v:=q;cases C⟩
  ·exact⟨_,m,λv q=>by have C:Data.seq _ _=Data.cell v:=q;cases C⟩
  ·exact⟨_,r,λv q=>by have C:Data.seq _ _=Data.cell v:=q;cases C⟩
  ·exact t.obj
  ·exact A.obj
 keep:=λi h h' st k=>by
  obtain⟨p,m,⟨a,b,r⟩,t,A⟩:=st;have M:=jG z TI TO g j;exact⟨k z M.1 _ p,k TI M.2.1 _ m,⟨a,b,k TO M.2.2.1 _ r⟩,t.at λo q=>k g M.2.2.2.1 o q,A.at λo q=>k j M.2.2.2.2 o q⟩
 item:=by
  intro X T Z S f i l s σ H E I B st Y;subst T Z S;obtain⟨xs,ys,x,y,F,G,hx,hy⟩:=Y;obtain⟨p,m,⟨a,b,r⟩,t,A⟩:=st;obtain⟨RG,Q,p1,_⟩:=I.sqb F;obtain⟨N6,R,p2,_⟩:=I.sqb G;obtain⟨u,hu,ru⟩:=Q.get hx;obtain⟨v,hv,rv⟩:=R.get hy;refine FQ D p m r (I.sqb_ne F (B TO (jG z TI TO g j).2.2.1)) (I.sqb_ne G (B TO (jG z TI TO g j).2.2.1)) t A p1 p2 (x:=u) (y:=v) (by simpa using hu) (by simpa using hv) λh' z1 z2 z3 z4 z5 z6 N=>?_;refine⟨.ref s.heap.objs.size,rfl,wpAny_letOwnedTupleGo_zip z1 λg2 zz J=>?_⟩;have zn:H s.heap.objs.size=none:=I.fresh
  have I1:Inv X l σ (aj H s.heap.objs.size (.tup [x,y])) { s with heap:=s.heap.push { cls:=.type "tuple",data:=.seq #[u,v] },toks:=s.toks }:=
   I.laid (λc o q=>Ig _ q) (Ih _) ⟨by show 2<=sizeLine;decide,[u,v],.cons ru (.cons rv .nil),_,Iy _ rfl,⟨rfl,rfl⟩,0,rfl⟩
  have lts:∀c∈[z,TI,TO,g,j],c<s.heap.objs.size:=λc f=>by
   simp only[Ik,IQ,JJ]at f;rcases f with rfl|rfl|rfl|rfl|rfl
   ·exact Iq p
   ·exact Iq m
   ·exact Iq r
   ·exact t.lt
   ·exact A.lt
  have f1:∀c∈[z,TI,TO,g,j],dF X l (aj H s.heap.objs.size (.tup [x,y])) c:=λc f=>⟨by rw[aE (Ja (lts c f))];exact (B c f).1,(B c f).2⟩;have I2:=I1.turnedL (h':=g2) (ch:=[z,TI,TO,g,j]) (t':=s.toks) (λc o f q=>?_) f1
  ·refine⟨.ref s.heap.objs.size,_,I2,rfl,⟨s.heap.objs.size,x,y,zn,rfl,rfl,λR1 O=>by rw[I.sqb_inj O F];exact hx,λys' O=>by rw[I.sqb_inj O G];exact hy⟩,
    ⟨zz,J.extBut _ _ D.a1 (N TI _ (by simp[D.a1,D.a5,D.a6,D.a7]) m),⟨_,_,J.extBut _ _ D.a2 z2⟩,z3.but J D.a3,z4.but J D.a4⟩,λc f=>(f1 c f).1⟩
  ·have U:c≠z:=λe=>f (e▸Ie);refine (J.2 c U).trans ?_;rcases Heap.get?_push_cases q with⟨e,e'⟩|C
   ·subst e;subst e';exact z5
   ·exact N c o (λe=>f (rf e)) C
 done:=by
  intro X T Z S f i l s σ H E I B st Y;subst T Z S;obtain⟨xs,ys,F,G,PZ⟩:=Y;obtain⟨p,m,⟨a,b,r⟩,t,A⟩:=st;obtain⟨RG,Q,p1,_⟩:=I.sqb F;obtain⟨N6,R,p2,_⟩:=I.sqb G;have l1:=Q.length;have l2:=R.length
  have he:RG.toArray[i]?=none\/N6.toArray[i]?=none:=by
   rcases PZ with q|q
   ·exact .inl (by simp;omega)
   ·exact .inr (by simp;omega)
  refine Gw (I.ok.hd f) D p m r (I.sqb_ne F (B TO (jG z TI TO g j).2.2.1)) (I.sqb_ne G (B TO (jG z TI TO g j).2.2.1)) t A p1 p2 he λh' N=>⟨rfl,?_⟩;refine I.turnedL (ch:=[z,TI,TO,g,j]) (t':=s.toks) (λc o f q=>N c o (λe=>f (rf e)) q) B
 self:=λ_ _ _ _ _ st h=>wpAny_pyIter_zip st.1 h
def Ct(n:Nat):ZAp (n+4) (n+2) (n+3) n (n+1):=
 ⟨(by omega:n+2≠n+4),(by omega:n+3≠n+4),(by omega:n≠n+4),(by omega:n+1≠n+4),(by omega:n+2≠n+3),(by omega:n+2≠n),(by omega:n+2≠n+1),(by omega:n+3≠n),(by omega:n+3≠n+1),(by omega:n≠n+1)⟩
end L2
namespace L2
open PySem PySem.Spec PyProof.Rows
section
variable{X:Cx}
def Bb:bI X (binaryOp .Mult) (rI IntMulOk λi j=>.int (i*j)):=nO λ_ _ _ _ _ _ _ a q=>mul_int q a
noncomputable def CDivB(i j:Int):Prop:=0<j/\j.natAbs.log2<9000
def zo:bI X (binaryOp .FloorDiv) (rI CDivB λi j=>.int (i/j)):=nO λi j _ _ _ _ _ a q=>by have c:(0:Int)<j:=a.1;exact floordiv_int (by omega) (by rw[Int.fdiv_eq_ediv_of_nonneg i (by omega)];exact q) (.inl (PyProof.noPylong_of_log2 a.2))
end
def Bm{n k:Nat}(a:0<k)(h:n<2^k):n.log2<k:=by
 rcases Nat.eq_zero_or_pos n with z|z
 ·subst z;simpa using a
 ·exact (Nat.log2_lt (Ma z)).mpr h
def CDivB.of{i j:Int}(a:0<j)(h:j<2^9000):CDivB i j:=⟨a,Bm (by decide) (by
 have e:(j.natAbs:Int)=j:=Int.natAbs_of_nonneg (Int.le_of_lt a)
 have:(j.natAbs:Int)<((2^9000:Nat):Int):=by rw[e];exact_mod_cast h
 exact_mod_cast this)⟩
def lc{a b:Int}(c:-(2^64)<a)(e:a<2^64):IntMulOk a b:=.of_left (intBits_le_64 c e)
def qc{a b:Int}(c:-(2^64)<b)(e:b<2^64):IntMulOk a b:=.of_right (intBits_le_64 c e)
section
variable{prog:Program}{w:World}{A:Around}{E:Value->Shared->Prop}{s:Shared}
def tz{e t:Addr}{a:Array Value}(h:t≠e):∀(n i:Nat)(s:Shared)(Q:List Value->Shared->Prop),s.heap.IsListIter e t i->s.heap.IsList t a->i+n<=a.size->
  (∀h',h'.IsListIter e t (i+n)->Heap.SameBut e s.heap h'->Q ((a.toList.drop i).take n) { s with heap:=h' })->wpAny (model prog w) A (draw (.ref e) n) Q E s
 |0,i,s,Q,c,_,_,f=>by show wpAny _ _ (pure []) Q E s;exact Io (by simpa using f s.heap c (Heap.SameBut.refl ..))
 |n+1,i,s,Q,c,j,r,f=>by
  have g:i<a.size:=by omega
  show wpAny _ _ (pyNext (.ref e) >>= _) Q E s;refine HZ (K9 c j (x:=a[i]) (by simp[g]) λv m l=>?_);refine HZ (JT (tz h n (i+1) _ _ m (j.extBut l.extBut h) (by omega) λp o u=>Io ?_))
  have hd:a.toList.drop i=a[i]::a.toList.drop (i+1):=by simp[L7,g]
  have:=f p (by rw[show i+(n+1)=i+1+n by omega];exact o) (l.trans u);rw[hd,List.take_succ_cons]at this;exact this
def yy{t:Addr}{a:Array Value}{Q:List Value->Shared->Prop}(x:A.handled=none)(c:s.heap.IsList t a)
  (v:∀h',Heap.ExtBut s.heap.objs.size s.heap h'->Q a.toList { s with heap:=h' }):wpAny (model prog w) A (unpackItems (.ref t) a.size none) Q E s:=by
 have g:t≠s.heap.objs.size:=by obtain⟨o,y,_⟩:=c;exact Ja (Iq y)
 unfold unpackItems;refine HZ ?_;unfold notIterableAtAll;refine HZ (wpAny_specialOf c.typeIs slot_list_iter.lookup (Io ?_));simp only[LQ,Md];refine HZ (JT (L1 c (HZ (JT (tz g a.size 0 _ _ ⟨_,Iy _ rfl,rfl,rfl⟩ (c.push _) (by omega) λr m j=>?_)))))
 have l:List.take a.size (List.drop 0 a.toList)=a.toList:=by rw[K5];exact JK (by simp)
 rw[l,Ib (by simp)];have f:r.IsList t a:=(c.push _).extBut j.extBut g;refine HZ (JT (Lj x m f (by simp) λu p=>?_));simp only[Option.isSome_none,LQ,Md];exact Io (v u λb o h e=>p b o h (j.extBut b o h (Ig _ e)))
end
section
variable{X:Cx}{pos:Pos}
noncomputable def oS(K:Frag)(n:Nat)(t:dq):TG:=λv c H Q=>∃a xs,v=.ref a/\SqL K H a xs/\xs.length=n/\t xs c H Q
def GT{es:List Expr}{k:Nat}{t:dq}{n:Nat}(y:X.calm=true)(h:PGs X es t)
  (A:(assignEach es X.env).length=n:=by rfl) (p:(assignEach es X.env).findIdx? (·.1)=none:=by rfl):PG X (.Tuple es k pos) (oS X.K n t):=by
 intro c s j H v u Q I r f;obtain⟨a,xs,x,B,z,f⟩:=f;subst x;cases r;obtain⟨m,g,C,F⟩:=I.list B;rw[assign_Tuple];refine HZ (KP ?_);unfold unpack
 have w:(assignEach es X.env).length=m.toArray.size:=by simp[A,←z,g.length]
 rw[w,p];refine HZ (JT (yy (I.ok.hd y) C.isList λh' E=>?_));have l:Inv X c j H { s with heap:=h' }:=I.kept (t':=s.toks) λb o e=>E b o (Ja (Iq e)) e;exact h c _ j H xs _ Q l (by simpa using g) f
end
inductive IsiV(K:Frag)(H:Hp):V->String->Bool->Prop where
 |int_int (i):IsiV K H (.int i) "int" true
 |int_bool (i):IsiV K H (.int i) "bool" false
 |int_tuple (i):IsiV K H (.int i) "tuple" false
 |int_str (i):IsiV K H (.int i) "str" false
 |bl_int (b):IsiV K H (.bl b) "int" true
 |bl_bool (b):IsiV K H (.bl b) "bool" true
 |bl_tuple (b):IsiV K H (.bl b) "tuple" false
 |str_str (x):IsiV K H (.str x) "str" true
 |str_tuple (x):IsiV K H (.str x) "tuple" false
 |tup_tuple {a xs}:SqT K H a xs->IsiV K H (.ref a) "tuple" true
 |tup_int {a xs}:SqT K H a xs->IsiV K H (.ref a) "int" false
 |lst_tuple {a xs}:SqL K H a xs->IsiV K H (.ref a) "tuple" false
 |lst_list {a xs}:SqL K H a xs->IsiV K H (.ref a) "list" true
noncomputable def vx(K:Frag):List V->Hp->VK->Prop:=λvs H Q=>∃x T b,vs=[x,.ty T]/\IsiV K H x T b/\Q (.bl b) H
def A6{x y:V}{us:List Value}(r:Vals [x,y] us):∃u v,us=[u,v]/\RelV x u/\RelV y v:=by
 cases r with
 |cons r a=>
  cases a with
  |cons c a=>cases a;exact⟨_,_,rfl,r,c⟩
def Ht{X:Cx}:eU X (.builtin "isinstance") (vx X.K):=by
 intro g s w H xs us Q I r h;obtain⟨x,T,b,rfl,m,q⟩:=h;obtain⟨u,v,rfl,f,l⟩:=A6 r;have l:v=.type T:=l;subst l;have a:∀(c:Bool)(t:Nat),Q (.bl c) H->EP X g w Q (.bool c) { s with toks:=t }:=λc t q=>⟨.bl c,H,I.tok t,rfl,q⟩
 cases m with
 |int_int i=>obtain⟨t,rfl⟩:=f;exact IsiPair.int_int (a _ s.toks q)
 |int_bool i=>obtain⟨t,rfl⟩:=f;exact IsiPair.int_bool (a _ _ q)
 |int_tuple i=>obtain⟨t,rfl⟩:=f;exact IsiPair.int_tuple (a _ _ q)
 |int_str i=>obtain⟨t,rfl⟩:=f;exact IsiPair.int_str (a _ _ q)
 |bl_int b=>cases f;exact IsiPair.bool_int (a _ s.toks q)
 |bl_bool b=>cases f;exact IsiPair.bool_bool (a _ s.toks q)
 |bl_tuple b=>cases f;exact IsiPair.bool_tuple (a _ _ q)
 |str_str x=>obtain⟨t,rfl⟩:=f;exact IsiPair.str_str (a _ s.toks q)
 |str_tuple x=>obtain⟨t,rfl⟩:=f;exact IsiPair.str_tuple (a _ _ q)
 |tup_tuple h=>
  cases f;obtain⟨j,_,p,_⟩:=I.tuple h;exact LD (isinstance_true (Tx:="tuple") F.isi_meta_tuple F.sub_tuple_tuple) ⟨p.typeIs,a _ s.toks q⟩
 |tup_int h=>
  cases f;obtain⟨j,_,⟨o,e,c,_⟩,_⟩:=I.tuple h;exact LD (isinstance_false_tuple (by lia) F.isi_meta_int F.sub_tuple_int) ⟨⟨o,e,c⟩,a _ _ q⟩
 |lst_tuple h=>
  cases f;obtain⟨j,_,p,_⟩:=I.list h;obtain⟨o,e,c,_⟩:=p.isList;exact LD (isinstance_false_list (by lia) F.isi_meta_tuple F.sub_list_tuple) ⟨⟨o,e,c⟩,a _ _ q⟩
 |lst_list h=>
  cases f;obtain⟨j,_,p,_⟩:=I.list h;exact LD (isinstance_true (Tx:="list") F.isi_meta_list F.sub_list_list) ⟨p.isList.typeIs,a _ s.toks q⟩
def BD{prog:Program}{w:World}{A:Around}(u:A.handled=none)(b:Bool)(j a:Addr)(t:a≠j)(l:Array Value):Walks prog w A j [j,a] [j] l.size (λi v=>l[i]?=some v) (λi h=>SqI b h j a i/\SqO b h a l) where
 sub:=λc f=>by rw[Ip.mp f];simp
 frame:=λ_ _ _ st k=>⟨st.1.at λo e=>k j (by simp) o e,st.2.at λo e=>k a (by simp) o e⟩
 item:=λi s Q E p st g=>by
  cases b with
  |true=>exact K9 st.1 st.2 (x:=l[i]) (by simp[p]) λh' q m=>g _ h' s.toks (by simp[p]) ⟨q,SqO.at (b:=true) st.2 λo e=>(m.2 a t).trans e⟩ λc o f e=>(m.2 c λz=>f (by simp[z])).trans e
  |false=>exact wpAny_pyNext_tuple_item st.1 st.2 (x:=l[i]) (by simp[p]) λh' q m=>g _ h' s.toks (by simp[p]) ⟨q,SqO.at (b:=false) st.2 λo e=>(m.2 a t).trans e⟩ λc o f e=>(m.2 c λz=>f (by simp[z])).trans e
 done:=λs Q E st g=>by
  cases b with
  |true=>exact Lj u st.1 st.2 (by simp) λh' r=>g h' s.toks λc o f e=>r c o (λz=>f (by simp[z])) e
  |false=>exact wpAny_pyNext_tuple_end u st.1 st.2 (by simp) λh' r=>g h' s.toks λc o f e=>r c o (λz=>f (by simp[z])) e
 self:=λi s Q E st g=>by
  cases b with
  |true=>exact wpAny_pyIter_listiter st.1 g
  |false=>exact wpAny_pyIter_tupleiter st.1 g
def Bs{x:V}{us:List Value}(r:Vals [x] us):∃u,us=[u]/\RelV x u:=by
 cases r with
 |cons r a=>cases a;exact⟨_,rfl,r⟩
noncomputable def yM(K:Frag)(b:Bool)(f:List Bool->Bool):List V->Hp->VK->Prop:=λvs H Q=>∃(a:Addr)(bs:List Bool),vs=[.ref a]/\SqB K b H a (bs.map V.bl)/\Q (.bl (f bs)) H
def Ep{prog:Program}{w:World}{A:Around}{a:Array Value}{bs:List Bool}(h:Vals (bs.map V.bl) a.toList):TruthOf prog w A (λi v=>a[i]?=some v) (λi=>bs.getD i false):=by
 intro i v s Q E e q
 have f:a.toList[i]?=some v:=by simpa using e
 have j:i<bs.length:=by
  have:=(Jk.mp f).1;have:=h.length;rw[HV]at this;omega
 obtain⟨l,g,c⟩:=h.get (i:=i) (x:=V.bl (bs.getD i false)) (by simp[j]);rw[f]at g;cases g;have c:v=.bool (bs.getD i false):=c;subst c;exact J7 q
def y8(bs:List Bool):(List.range bs.length).all (λi=>bs.getD i false)=bs.all id:=by
 rw[JQ];simp only[IC,JO,id];constructor
 ·intro h x c;obtain⟨i,a,rfl⟩:=List.mem_iff_getElem.mp c;have:=h i a;simpa [a] using this
 ·intro h i a;have:=h bs[i] (KI a);simpa [a] using this
def HD(b:Bool){X:Cx}(m:X.calm=true):eU X (.builtin "all") (yM X.K b λbs=>bs.all id):=by
 intro g s E H xs us Q I r h;obtain⟨a,bs,rfl,v,q⟩:=h;obtain⟨u,rfl,y⟩:=Bs r;cases y;obtain⟨f,j,p,C⟩:=I.sqb v;have l:a≠s.heap.objs.size:=Ja p.lt
 have x:f.toArray.size=bs.length:=by have:=j.length;rw[HV]at this;simp[this]
 have W:=BD (prog:=X.prog) (w:=X.w) (A:=X.A.in1) (I.ok.hd m) b s.heap.objs.size a l f.toArray;refine call_all_walk (pM p ⟨s.heap.objs.size,[s.heap.objs.size,a],[s.heap.objs.size],f.toArray.size,_,_,λi=>bs.getD i false,rfl,W,⟨pq (Iy _ (by cases b<;>rfl)),p.at λo e=>Ig _ e⟩,Ep (by simpa using j),λh' B t=>?_⟩);rw[x,y8];refine⟨.bl (bs.all id),H,I.kept (h':=h') (t':=B) λc o e=>t c o (λz=>?_) (Ig _ e),rfl,q⟩;rw[Ip.mp z]at e;exact absurd (Iq e) (J8 _)
noncomputable def dB(N:List Str)(a scope:Scope)(N':List Str)(cap:List (Option Nat)):Bool:=
 decide (scope.kind=.function)&&scope.names.all (λx=>decide (x.2=.cell->scope.names.lookup x.1=some .cell))&&scope.names.all (λx=>decide (x.2=.local->scope.names.lookup x.1=some .local)) &&
  scope.names.all (λx=>decide (x.2=.free->a.names.lookup x.1=some .cell/\scope.names.lookup x.1=some .free))&&decide N'.Nodup&&decide (cap.length=N'.length) &&
  (cap.zip N').all λp=>match p.1 with|none=>true|some i=>decide (N[i]?=some p.2/\(p.2,NameKind.free)∈scope.names)
def CompScope.ok{N:List Str}{f scope:Scope}{N':List Str}{cap:List (Option Nat)}(h:dB N f scope N' cap=true):CompScope N f scope N' cap:=by
 unfold dB at h;simp only[Iz,IZ,IC]at h;obtain⟨⟨⟨⟨⟨⟨g,j⟩,l⟩,e⟩,m⟩,o⟩,r⟩:=h;refine⟨g,j,l,λx c a=>(e x c a).1,λx c a=>(e x c a).2,m,o,λp u i t=>?_⟩;have:=r p u;rw[t]at this;simpa using this
def cH{H:Hp}{p:Addr}(h:H p=none)(o:HO):Same H (aj H p o):=λb u q=>by rw[aE (cD q h)];exact q
def zv{H a:Hp}{p:Addr}(s:Same H a)(h:H p=none)(o:HO):Same H (aj a p o):=λb u q=>by rw[aE (cD q h)];exact s b u q
def Same.sqt{K:Frag}{H c:Hp}{a:Addr}{xs:List V}(e:Same H c)(h:SqT K H a xs):SqT K c a xs:=SqB.same (b:=false) e h
def small{n:Nat}(h:n<=1000):n<=sizeLine:=Kh (cy h)
def dP{p:Prop}[Decidable p](h:decide p=true):p:=Ir h
def ji{a:Type}{xs:List a}{i:Nat}{x:a}(h:xs[i]?=some x):xs.take (i+1)=xs.take i++[x]:=by obtain⟨c,e⟩:=Jk.mp h;rw[List.take_succ_eq_append_getElem c,e]
def ba{a:Type}{xs:List a}{i:Nat}{x:a}(h:xs[i]?=some x):i<xs.length:=(Jk.mp h).1
def mj{a:Type}{xs:List a}{i:Nat}{x:a}{k:Int}(h:xs[i]?=some x)(e:k=(i:Int)):bK xs k=some x:=by subst e;exact BJ h
noncomputable def br{a:Type}(xs:List a)(lo c:Option Int):List a:=(xs.drop (HT.sIx xs.length 0 lo)).take (HT.sIx xs.length xs.length c-HT.sIx xs.length 0 lo)
def Vals.get'{xs:List V}{us:List Value}(r:Vals xs us){j:Nat}(h:j<us.length):∃x,xs[j]?=some x/\RelV x us[j]:=by
 have f:=Vals.length r
 have a:j<xs.length:=by omega
 obtain⟨u,c,e⟩:=Vals.get (i:=j) (x:=xs[j]) r (by simp[a]);refine⟨xs[j],by simp[a],?_⟩;rw[IB h]at c;cases c;exact e
section
variable{prog:Program}{w:World}{A:Around}{E:Value->Shared->Prop}{s:Shared}
def zq{t b:Addr}{vs ws:List Value}{Q:Value->Shared->Prop}(o:IsTup s.heap t vs.toArray)(m:IsTup s.heap b ws.toArray)(p:vs=[])(h:Q (.ref b) s):wpAny (model prog w) A (binaryOp .Add (.ref t) (.ref b)) Q E s:=by obtain⟨⟨cls,dd,data,sl⟩,g,f,n,hd⟩:=id o;obtain⟨⟨u,l,data2,j⟩,c,e,r,a⟩:=id m;simp only at f hd e a;subst f hd e a;exact concat_meets ⟨_,g,rfl⟩ ⟨_,c,rfl⟩ Mc seq_tuple_add La K6 (KZ _ _) (tuple_addW0 t b vs.toArray ws.toArray n r dd l sl j (by simp[p])) ⟨g,c,h⟩
end
noncomputable def tE(K:Frag):V->V->Hp->VK->Prop:=λx y H Q=>∃p xs i j v,x=.ref p/\y=.int i/\SqL K H p xs/\i=((j:Nat):Int)/\xs[j]?=some v/\Q v H
def ya{X:Cx}:nY X (tE X.K):=by
 intro c s C H o i B A Q I ro l h;obtain⟨p,xs,i,j,v,rfl,rfl,g,rfl,a,q⟩:=h;cases ro;obtain⟨t,rfl⟩:=l;obtain⟨m,r,pl,z⟩:=I.list g;obtain⟨w,f,e⟩:=r.get a;have x:=r.length;have y:=hX;have u:=ba a;exact wpAny_getItem_list pl.isList (by omega) (by omega) (by rw[JL];simpa using f) ⟨v,H,I,e,q⟩
def Fh(xs:List V)(lo a:Option Int):gK xs lo a=br xs lo a:=rfl
def rL{n j:Nat}(h:j<n):ei n (j:Int)=some j:=by unfold ei;rw[Ia (by omega),Ia (by omega),JL]
def bB{a0 a1 a2 a3}{a:List Expr}{env:Env}:starEach (.BinOp a0 a1 a2 a3::a) env=(false,eval (.BinOp a0 a1 a2 a3) env)::starEach a env:=rfl
def pG{a0 a1 a2}{a:List Expr}{env:Env}:starEach (.UnaryOp a0 a1 a2::a) env=(false,eval (.UnaryOp a0 a1 a2) env)::starEach a env:=rfl
def rV{a0 a1 a2 a3}{a:List Expr}{env:Env}:starEach (.IfExp a0 a1 a2 a3::a) env=(false,eval (.IfExp a0 a1 a2 a3) env)::starEach a env:=rfl
def c8{a0 a1 a2 a3}{a:List Expr}{env:Env}:starEach (.ListComp a0 a1 a2 a3::a) env=(false,eval (.ListComp a0 a1 a2 a3) env)::starEach a env:=rfl
def jS{a0 a1 a2 a3}{a:List Expr}{env:Env}:starEach (.Compare a0 a1 a2 a3::a) env=(false,eval (.Compare a0 a1 a2 a3) env)::starEach a env:=rfl
def bP{a0 a1 a2 a3}{a:List Expr}{env:Env}:starEach (.Call a0 a1 a2 a3::a) env=(false,eval (.Call a0 a1 a2 a3) env)::starEach a env:=rfl
def am{a0 a1 a2}{a:List Expr}{env:Env}:starEach (.Constant a0 a1 a2::a) env=(false,eval (.Constant a0 a1 a2) env)::starEach a env:=rfl
def jf{a0 a1 a2}{a:List Expr}{env:Env}:starEach (.Attribute a0 a1 a2::a) env=(false,eval (.Attribute a0 a1 a2) env)::starEach a env:=rfl
def ax{a0 a1 a2}{a:List Expr}{env:Env}:starEach (.Subscript a0 a1 a2::a) env=(false,eval (.Subscript a0 a1 a2) env)::starEach a env:=rfl
def aa{a0 a1}{a:List Expr}{env:Env}:starEach (.Name a0 a1::a) env=(false,eval (.Name a0 a1) env)::starEach a env:=rfl
def cC{a0 a1 a2}{a:List Expr}{env:Env}:starEach (.Tuple a0 a1 a2::a) env=(false,eval (.Tuple a0 a1 a2) env)::starEach a env:=rfl
def ag{a:Pos}{env:Env}:(backTo a (starEach [] env)).any (·.1)=false:=rfl
def aF{a:Pos}{e:Expr}{es:List Expr}{env:Env}(h:starEach (e::es) env=(false,eval e env)::starEach es env)(c:(backTo a (starEach es env)).any (·.1)=false):(backTo a (starEach (e::es) env)).any (·.1)=false:=by rw[h];exact c
def bX{a : Pos}{e : Expr}{env : Env}(h : starEach [e] env = (false, eval e env) :: starEach [] env) : ((backTo a (starEach [e] env)).all (λx=> !x.1)&&(backToKw a (keywordEach [] env)).all (λx=>x.1.isSome)
      && decide ([e].length + ([] : List Keyword).length + (if ([] : List Keyword).isEmpty then 0 else 1) < 30)) = true:= by
 rw[h];rfl
section
variable{X:Cx}{K:Frag}
def xM(h:X.K=K):eU X (.builtin "isinstance") (vx K):=h▸Ht
end
end L2
namespace L2
open PySem PySem.Spec PyProof.Rows
section
variable{X:Cx}
def xx:bI X (compareOp .Is) (λx y H Q=>∃a b:Bool,x=.bl a/\y=.bl b/\Q (.bl (a==b)) H):=by intro c s g H x y v u Q I e f h;obtain⟨a,b,rfl,rfl,q⟩:=h;cases e;cases f;exact wpAny_is_plain rfl (l9 I q (by cases a<;>cases b<;>rfl))
def B4:bI X (compareOp .IsNot) (λx y H Q=>∃a b:Bool,x=.bl a/\y=.bl b/\Q (.bl (!(a==b))) H):=by intro c s g H x y v u Q I e f h;obtain⟨a,b,rfl,rfl,q⟩:=h;cases e;cases f;exact wpAny_isNot_plain rfl (l9 I q (by cases a<;>cases b<;>rfl))
end
end L2
namespace PySem
open Sem (wp)
open Builtin
open AutoSeq1 (wpAny_loadPart')
def xj:fillsNumberSlot (.type "tuple") "mul"=pure false:=
 fillsNumberSlot_seq (id:="tuple.__mul__") (r:=some (.builtin "tuple.__rmul__")) KJ.lookup (by lia) F.slot_tuple_rmul.lookup (by lia)
def yb:seqRepeat? (.type "tuple")=pure (some (.builtin "tuple.__mul__")):=by unfold seqRepeat?;rw[seqSlot_of (T:="tuple") (name:="__mul__") (id:="tuple.__mul__") KJ.lookup (by lia),seqSlot_of (T:="tuple") (name:="__rmul__") (id:="tuple.__rmul__") F.slot_tuple_rmul.lookup (by lia)];rfl
def EN(a:Int)(t:Tok)(l:Addr)(c:Array Value)(n:Nat)(dd:Option Addr)(sl:Array (Option Value)) :
  Meets (Builtin.«int.__rmul__» ⟨[.int a t,.ref l],[]⟩) (λ_ R s=>s.heap.get? l=some { cls:=.type "tuple",dict:=dd,data:=.seq c n,slots:=sl }/\R (.ok (.ret Value.notImplemented)) s):=
 .of_wp λprog w A R s h=>by obtain⟨f,g,d,j,os⟩:=s;obtain⟨e,h⟩:=h;wp_walk;exact⟨_,rfl,h⟩
def Hi(l:Addr)(a:Array Value)(n:Nat)(dd:Option Addr)(sl:Array (Option Value))(u:Tok) :
  Meets (Builtin.«tuple.__mul__» ⟨[.ref l,.int 1 u],[]⟩) (λ_ R s=>s.heap.get? l=some { cls:=.type "tuple",dict:=dd,data:=.seq a n,slots:=sl }/\R (.ok (.ret (Value.ref l))) s):=
 .of_wp λprog w A R s h=>by obtain⟨j,g,d,m,os⟩:=s;obtain⟨c,h⟩:=h;have e:=Mh;have f:=K0;wp_walk using JG c;exact⟨_,rfl,h⟩
def BW(l:Addr)(a:Array Value)(n:Nat)(dd:Option Addr)(sl:Array (Option Value))(k:Int)(u:Tok)(e:¬ (decide (k < -(2^63)) ||decide (k≥2^63))=true)(j:¬ (a.isEmpty ||k==1)=true)(f:(decide (k<=0) ||a.isEmpty)=true) :
  Meets (Builtin.«tuple.__mul__» ⟨[.ref l,.int k u],[]⟩) (λ_ R s=>s.heap.get? l=some { cls:=.type "tuple",dict:=dd,data:=.seq a n,slots:=sl }/\R (.ok (.ret (Value.ref s.heap.objs.size))) { s with heap:=s.heap.push { cls:=Value.type "tuple",data:=Data.seq #[] },toks:=s.toks }):=
 .of_wp λprog w A R s h=>by obtain⟨p,g,d,r,os⟩:=s;obtain⟨c,h⟩:=h;have m:=Mh;have o:=K0;wp_walk using JG c;refine Mu (ID e) ?_;wp_walk using JG c;exact⟨_,rfl,h⟩
def Df(l:Addr)(a:Array Value)(n:Nat)(dd:Option Addr)(sl:Array (Option Value))(k:Int)(u:Tok)(m:¬ (decide (k < -(2^63)) ||decide (k≥2^63))=true)(r:¬ (a.isEmpty ||k==1)=true)(p:¬ (decide (k<=0) ||a.isEmpty)=true)(c:¬ (a.size*k>(2^63-1)/8))(o:¬ Builtin.Tuple.tupleTooMany (a.size*k)=true)(hsz:(List.foldl (λf j=>f++j) #[] (List.replicate k.toNat a)).size<=sizeLine) :
  Meets (Builtin.«tuple.__mul__» ⟨[.ref l,.int k u],[]⟩) (λ_ R s=>s.heap.get? l=some { cls:=.type "tuple",dict:=dd,data:=.seq a n,slots:=sl }/\R (.ok (.ret (Value.ref s.heap.objs.size))) { s with heap:=s.heap.push { cls:=Value.type "tuple",data:=Data.seq (List.foldl (λf j=>f++j) #[] (List.replicate k.toNat a)) },toks:=s.toks }):=
 .of_wp λprog w A R s h=>by obtain⟨x,g,d,y,os⟩:=s;obtain⟨e,h⟩:=h;have t:=Mh;have v:=K0;wp_walk using JG e;refine Mu (ID m) ?_;wp_walk using JG e;refine Mu (ID c) ?_;wp_walk using JG e;exact⟨_,rfl,h⟩
end PySem
namespace L2
open PySem PySem.Spec PyProof.Rows
inductive D where
 |int (i:Int)|bl (b:Bool)|str (x:Str)|non|tup (xs:List D)|lst (xs:List D)|fzl (xs:List D)|obj (nm:Str) (fs:List (Str×D))|map (MU:List (aD×D))|exc (nm:Str) (ats:List D)
noncomputable def fq(a C:Addr)(c:Option Addr):Heap->Prop:=λh=>∃o vs,h.get? a=some o/\o.cls=.ref C/\o.dict=c/\o.data=.fields vs
inductive Rp(K:Frag)(H:Hp):D->V->Prop where
 |int (i:Int):Rp K H (.int i) (.int i)
 |bl (b:Bool):Rp K H (.bl b) (.bl b)
 |str (x:Str):Rp K H (.str x) (.str x)
 |non:Rp K H .non .non
 |tup {a:Addr} {vs:List V} {ds:List D}:H a=some (.tup vs)->vs.length=ds.length->(∀(i:Nat)(v:V)(d:D),vs[i]?=some v->ds[i]?=some d->Rp K H d v)->Rp K H (.tup ds) (.ref a)
 |lst {a:Addr} {vs:List V} {ds:List D}:H a=some (.lst vs)->vs.length=ds.length->(∀(i:Nat)(v:V)(d:D),vs[i]?=some v->ds[i]?=some d->Rp K H d v)->Rp K H (.lst ds) (.ref a)
 |fzl {a:Addr} {vs:List V} {ds:List D}:SqL K H a vs->vs.length=ds.length->(∀(i:Nat)(v:V)(d:D),vs[i]?=some v->ds[i]?=some d->Rp K H d v)->Rp K H (.fzl ds) (.ref a)
 |obj {a C dx:Addr} {nm:Str} {vs:List (Str×V)} {fs:List (Str×D)}:nsIn K mainGlobals nm=some (some (.ref C))->H a=some (.ins C dx vs)->vs.map (·.1)=fs.map (·.1)->(∀(i:Nat)(v:Str×V)(d:Str×D),vs[i]?=some v->fs[i]?=some d->Rp K H d.2 v.2)->Rp K H (.obj nm fs) (.ref a)
 |map {a:Addr} {ws:List (aD×V)} {MU:List (aD×D)}:H a=some (.dK ws)->ws.map (·.1)=MU.map (·.1)->(∀(i:Nat)(w:aD×V)(d:aD×D),ws[i]?=some w->MU[i]?=some d->Rp K H d.2 w.2)->Rp K H (.map MU) (.ref a)
 |exc0 {a C:Addr} {nm:Str}:nsIn K mainGlobals nm=some (some (.ref C))->H a=some (.ext (fq a C none))->Rp K H (.exc nm []) (.ref a)
 |exc1 {a C p:Addr} {nm:Str} {v:V} {d:D}:nsIn K mainGlobals nm=some (some (.ref C))->H a=some (.ext (fq a C (some p)))->H p=some (.xd [("at",v)])->Rp K H d v->Rp K H (.exc nm [d]) (.ref a)
noncomputable def RpL(K:Frag)(H:Hp)(ds:List D)(vs:List V):Prop:=vs.length=ds.length/\∀(i:Nat)(v:V)(d:D),vs[i]?=some v->ds[i]?=some d->Rp K H d v
section
variable{K:Frag}{H H' Φ Φ' Φ1 H1 Φ2 H2:Hp}{d:D}{v:V}{ds es:List D}{vs ws:List V}
def Rp.i{n:Int}(h:Rp K H (.int n) v):v=.int n:=by cases h;rfl
def Rp.b{b:Bool}(h:Rp K H (.bl b) v):v=.bl b:=by cases h;rfl
def Rp.s{x:Str}(h:Rp K H (.str x) v):v=.str x:=by cases h;rfl
def Rp.n(h:Rp K H .non v):v=.non:=by cases h;rfl
def iy{P:Int->Prop}(h:match d with|.int n=>P n|_=>False):∃n,d=.int n/\P n:=by
 cases d with
 |int n=>exact⟨n,rfl,h⟩
 |_=>exact h.elim
def gR{P:Bool->Prop}(h:match d with|.bl n=>P n|_=>False):∃n,d=.bl n/\P n:=by
 cases d with
 |bl n=>exact⟨n,rfl,h⟩
 |_=>exact h.elim
def Dc{P:List D->Prop}(h:match d with|.tup n=>P n|_=>False):∃n,d=.tup n/\P n:=by
 cases d with
 |tup n=>exact⟨n,rfl,h⟩
 |_=>exact h.elim
def Rp.same(s:Same H H')(h:Rp K H d v):Rp K H' d v:=by
 induction h with
 |int i=>exact .int i
 |bl b=>exact .bl b
 |str x=>exact .str x
 |non=>exact .non
 |tup a c _ e=>exact .tup (s _ _ a) c e
 |lst a c _ e=>exact .lst (s _ _ a) c e
 |fzl a c _ e=>exact .fzl (s.seq a) c e
 |obj f a c _ e=>exact .obj f (s _ _ a) c e
 |map a c _ e=>exact .map (s _ _ a) c e
 |exc0 f a=>exact .exc0 f (s _ _ a)
 |exc1 f a c _ e=>exact .exc1 f (s _ _ a) (s _ _ c) e
def RpL.same(s:Same H H')(h:RpL K H ds vs):RpL K H' ds vs:=⟨h.1,λi v d a hd=>(h.2 i v d a hd).same s⟩
def RpL.nil:RpL K H [] []:=⟨rfl,λi v d a _=>by simp at a⟩
def RpL.cons(r:Rp K H d v)(h:RpL K H ds vs):RpL K H (d::ds) (v::vs):=⟨by simp[h.1],λi u e c a=>by
 cases i with
 |zero=>cases c;cases a;exact r
 |succ i=>exact h.2 i u e c a⟩
def RpL.append(h:RpL K H ds vs)(h':RpL K H es ws):RpL K H (ds++es) (vs++ws):=by
 refine⟨by rw[HY,HY,h.1,h'.1],λi u e f a=>?_⟩;rcases IU i vs.length with c|c
 ·rw[HW c]at f;rw[HW (by rw[←h.1];exact c)]at a;exact h.2 i u e f a
 ·rw[HX c]at f;rw[HX (by rw[←h.1];exact c),←h.1]at a;exact h'.2 _ u e f a
def RpL.one(r:Rp K H d v):RpL K H [d] [v]:=.cons r .nil
def RpL.take(h:RpL K H ds vs)(k:Nat):RpL K H (ds.take k) (vs.take k):=⟨by rw[I0,I0,h.1],λi u e a f=>by
 rcases IU i k with c|c
 ·rw[Kt c]at a f;exact h.2 i u e a f
 ·rw[List.getElem?_take_eq_none c]at a
  cases a⟩
def RpL.drop(h:RpL K H ds vs)(k:Nat):RpL K H (ds.drop k) (vs.drop k):=⟨by rw[Jm,Jm,h.1],λi u e c a=>by
 rw[K1]at c a
 exact h.2 _ u e c a⟩
def RpL.set(h:RpL K H ds vs)(r:Rp K H d v)(k:Nat):RpL K H (ds.set k d) (vs.set k v):=⟨by rw[Im,Im,h.1],λi u e a f=>by
 by_cases c:k=i
 ·subst c
  have g:k<vs.length:=by have:=ba a;rwa [Im]at this
  rw[IP g]at a;rw[IP (by rw[←h.1];exact g)]at f;cases a;cases f;exact r
 ·rw[IL c]at a f
  exact h.2 i u e a f⟩
def RpL.dropLast(h:RpL K H ds vs):RpL K H ds.dropLast vs.dropLast:=by rw[MG,MG,h.1];exact h.take _
def RpL.rep(h:RpL K H ds vs):∀k:Nat,RpL K H (List.replicate k ds).flatten (List.replicate k vs).flatten
 |0=>.nil
 |k+1=>by rw[Jz,Jz,IY,IY];exact h.append (RpL.rep h k)
def RpL.at(h:RpL K H ds vs){i:Nat}(e:ds[i]?=some d):∃v,vs[i]?=some v/\Rp K H d v:=by
 have a:i<vs.length:=by rw[h.1];exact ba e
 exact⟨vs[i],by simp[a],h.2 i _ d (by simp[a]) e⟩
def RpL.cut(h:RpL K H ds vs)(lo a:Option Int):RpL K H (br ds lo a) (gK vs lo a):=by rw[Fh];unfold br;rw[h.1];exact (h.drop _).take _
def RpL.tup{a:Addr}(h:RpL K H ds vs)(s:H a=some (.tup vs)):Rp K H (.tup ds) (.ref a):=.tup s h.1 h.2
def RpL.lst{a:Addr}(h:RpL K H ds vs)(s:H a=some (.lst vs)):Rp K H (.lst ds) (.ref a):=.lst s h.1 h.2
def RpL.fzl{a:Addr}(h:RpL K H ds vs)(s:SqL K H a vs):Rp K H (.fzl ds) (.ref a):=.fzl s h.1 h.2
def RpL.ints(ns:List Int):RpL K H (ns.map D.int) (ns.map V.int):=⟨by simp,λi v d a hd=>by
 rw[Ii]at a hd
 cases e:ns[i]? with
 |none=>rw[e]at a;cases a
 |some k=>rw[e]at a hd;cases a;cases hd;exact .int k⟩
noncomputable def ng:HO->Prop|.lst _=>True|.dK _=>True|.dT _=>True|.ins _ _ _=>True|_=>False
structure Gr(Φ H Φ' H':Hp):Prop where
 f:Same Φ Φ'
 h:Same H H'
 s:Same Φ' H'
 o:∀p (u:HO),H p=some u->Φ p=none->(k:ng u:=by trivial)->Φ' p=none
def Gr.refl(s:Same Φ H):Gr Φ H Φ H:=⟨Same.refl _,Same.refl _,s,λ_ _ _ h _=>h⟩
def Gr.trans(a:Gr Φ H Φ1 H1)(b:Gr Φ1 H1 Φ2 H2):Gr Φ H Φ2 H2:=⟨a.f.trans b.f,a.h.trans b.h,b.s,λp u c e k=>b.o p u (a.h p _ c) (a.o p u c e k) k⟩
def Gr.join(a:Gr Φ H Φ1 H1)(b:Gr Φ1 H Φ2 H2):Gr Φ H Φ2 H2:=⟨a.f.trans b.f,b.h,b.s,λp u c e k=>b.o p u c (a.o p u c e k) k⟩
def yY(s:Same Φ H){p:Addr}(o:HO):Same (aj Φ p o) (aj H p o):=λb u e=>by
 by_cases c:b=p
 ·subst c;rw[bg]at e ⊢;exact e
 ·rw[aE c]at e ⊢;exact s b u e
def Gr.new(s:Same Φ H){p:Addr}(a:H p=none)(o:HO):Gr Φ H (aj Φ p o) (aj H p o):=
 ⟨cH (s.free a) o,cH a o,yY s o,λq u e c _=>by rw[aE (cD e a)];exact c⟩
def Gr.fresh(s:Same Φ H){p:Addr}(a:H p=none)(o:HO):Gr Φ H Φ (aj H p o):=
 ⟨Same.refl _,cH a o,λb u e=>cH a o b u (s b u e),λ_ _ _ h _=>h⟩
def Gr.freeze(g:Gr Φ H Φ' H'){p:Addr}{o:HO}(h:H p=none)(j:Φ' p=none)(l:H' p=some o):Gr Φ H (aj Φ' p o) H':=
 ⟨g.f.trans (cH j o),g.h,λb u e=>by
  by_cases c:b=p
  ·subst c;rw[bg]at e;cases e;exact l
  ·rw[aE c]at e;exact g.s b u e,λq u a f k=>by rw[aE (cD a h)];exact g.o q u a f k⟩
def Gr.adoptT{p:Addr}{xs:List V}(s:Same Φ H)(h:Same H H')(a:H' p=some (.tup xs)):∃Φ',Gr Φ H Φ' H'/\Φ' p=some (.tup xs):=by
 have f:∀u,Φ p=some u->u=.tup xs:=λu e=>by have:=h _ _ (s _ _ e);rw[a]at this;cases this;rfl
 refine⟨aj Φ p (.tup xs),⟨λb u e=>?_,h,λb u e=>?_,λb u e n k=>?_⟩,bg⟩
 ·by_cases c:b=p
  ·subst c;rw[bg,f u e]
  ·rw[aE c];exact e
 ·by_cases c:b=p
  ·subst c;rw[bg]at e;cases e;exact a
  ·rw[aE c]at e;exact h _ _ (s _ _ e)
 ·by_cases c:b=p
  ·subst c;have:=h _ _ e;rw[a]at this;cases this;exact k.elim
  ·rw[aE c];exact n
noncomputable def RpQ(K:Frag)(Φ H:Hp)(d:D)(v:V):Prop:=Rp K Φ d v\/∃a vs ds,d=.lst ds/\v=.ref a/\H a=some (.lst vs)/\RpL K Φ ds vs
def RpQ.gr(g:Gr Φ H Φ' H')(h:RpQ K Φ H d v):RpQ K Φ' H' d v:=by
 rcases h with h|⟨a,vs,ds,e,c,f,j⟩
 ·exact .inl (h.same g.f)
 ·exact .inr ⟨a,vs,ds,e,c,g.h _ _ f,j.same g.f⟩
def RpQ.lst(s:Same Φ H)(h:RpQ K Φ H (.lst ds) v):∃a vs,v=.ref a/\H a=some (.lst vs)/\RpL K Φ ds vs:=by
 rcases h with h|⟨a,vs,ds,e,g,c,f⟩
 ·cases h with|lst c f h3=>exact⟨_,_,rfl,s _ _ c,f,h3⟩
 ·cases e;exact⟨a,vs,g,c,f⟩
def RpQ.fzl(s:Same Φ H)(h:RpQ K Φ H (.fzl ds) v):∃a vs,v=.ref a/\SqL K H a vs/\RpL K Φ ds vs:=by
 rcases h with h|⟨a,vs,ds,e,g,c,f⟩
 ·cases h with|fzl c f h3=>exact⟨_,_,rfl,s.seq c,f,h3⟩
 ·cases e
def RpQ.tup(s:Same Φ H)(h:RpQ K Φ H (.tup ds) v):∃a vs,v=.ref a/\SqT K H a vs/\Φ a=some (.tup vs)/\RpL K Φ ds vs:=by
 rcases h with h|⟨a,vs,ds,e,g,c,f⟩
 ·cases h with|tup c f h3=>exact⟨_,_,rfl,.of (s _ _ c),c,f,h3⟩
 ·cases e
def RpQ.int{i:Int}(h:RpQ K Φ H (.int i) v):v=.int i:=by
 rcases h with h|⟨a,vs,ds,e,_⟩
 ·obtain rfl:=h.i;rfl
 ·cases e
def RpQ.bl{i:Bool}(h:RpQ K Φ H (.bl i) v):v=.bl i:=by
 rcases h with h|⟨a,vs,ds,e,_⟩
 ·obtain rfl:=h.b;rfl
 ·cases e
def RpQ.str{i:Str}(h:RpQ K Φ H (.str i) v):v=.str i:=by
 rcases h with h|⟨a,vs,ds,e,_⟩
 ·obtain rfl:=h.s;rfl
 ·cases e
def RpQ.non(h:RpQ K Φ H .non v):v=.non:=by
 rcases h with h|⟨a,vs,ds,e,_⟩
 ·obtain rfl:=h.n;rfl
 ·cases e
noncomputable def gh:D->Option (List D)
 |.lst ds=>some ds
 |.tup ds=>some ds
 |.fzl ds=>some ds
 |_=>none
def RpQ.seq(s:Same Φ H)(h:RpQ K Φ H d v)(e:gh d=some ds):∃a vs,v=.ref a/\(SqL K H a vs\/SqT K H a vs)/\RpL K Φ ds vs:=by
 cases d with
 |lst ds=>cases e;obtain⟨a,vs,e,c,f⟩:=h.lst s;exact⟨a,vs,e,.inl (.of c),f⟩
 |tup ds=>cases e;obtain⟨a,vs,e,c,_,f⟩:=h.tup s;exact⟨a,vs,e,.inr c,f⟩
 |fzl ds=>cases e;obtain⟨a,vs,e,c,f⟩:=h.fzl s;exact⟨a,vs,e,.inl c,f⟩
 |_=>cases e
def Rp.seq(h:Rp K Φ d v)(e:gh d=some ds):∃(b:Bool)(a:Addr)(vs:List V),v=.ref a/\SqB K b Φ a vs/\RpL K Φ ds vs:=by
 cases d with
 |lst ds=>cases e;cases h with|lst h1 h2 h3=>exact⟨true,_,_,rfl,SqL.of h1,h2,h3⟩
 |tup ds=>cases e;cases h with|tup h1 h2 h3=>exact⟨false,_,_,rfl,SqT.of h1,h2,h3⟩
 |fzl ds=>cases e;cases h with|fzl h1 h2 h3=>exact⟨true,_,_,rfl,h1,h2,h3⟩
 |_=>cases e
end
inductive Ow where|lst (xs:List D)|dct (ks:List aD)|dcT (ks:List (List aD))
inductive Sl where|v (d:D)|ob (o:Ow)
noncomputable abbrev Sl.own(xs:List D):Sl:=.ob (.lst xs)
noncomputable abbrev Sl.dct(a:List aD):Sl:=.ob (.dct a)
noncomputable abbrev Sl.dcT(a:List (List aD)):Sl:=.ob (.dcT a)
noncomputable def OwR(K:Frag)(e:Hp):Ow->HO->Prop
 |.lst ds,.lst vs=>RpL K e ds vs
 |.dct c,.dK a=>a.map (·.1)=c
 |.dcT c,.dT a=>a.map (·.1)=c
 |_,_=>False
def OwR.k{K:Frag}{e:Hp}{o:Ow}{u:HO}(r:OwR K e o u):ng u:=by
 cases o with
 |lst ds=>
  cases u with
  |lst vs=>exact True.intro
  |_=>exact r.elim
 |dct c=>
  cases u with
  |dK a=>exact True.intro
  |_=>exact r.elim
 |dcT c=>
  cases u with
  |dT a=>exact True.intro
  |_=>exact r.elim
def OwR.same{K:Frag}{c a:Hp}{o:Ow}{u:HO}(r:OwR K c o u)(s:Same c a):OwR K a o u:=by
 cases o with
 |lst ds=>
  cases u with
  |lst vs=>exact (show RpL K c ds vs from r).same s
  |_=>exact r.elim
 |dct f=>
  cases u with
  |dK e=>exact r
  |_=>exact r.elim
 |dcT f=>
  cases u with
  |dT e=>exact r
  |_=>exact r.elim
noncomputable abbrev bT:=List (Option Sl)
noncomputable def Ff:FuncBody->Option Pos
 |.stmts b=>(match b.getLast? with
  |some (.Return (some (.Call _ _ a _)) _)=>a.findSome? λk=>(match k.value with|.Lambda _ _ _ pos=>some pos|_=>none)
  |_=>none)
 |_=>none
noncomputable def FM(K:Frag)(x:Str):Option (Addr×Array Value):=match nsIn K mainGlobals x with
 |some (some (.ref f))=>(match K.lookup f with
  |some ⟨_,_,.func e,_⟩=>(match e.code with
   |.ref c=>(match K.lookup c with
    |some ⟨_,_,.fields vs,_⟩=>(match (vs[11]?:Option Value),Ff e.body with
     |some (.ref P),some a=>some (P,#[rawInt a.line,rawInt a.col,.str (e.qualname++".<locals>."++"<lambda>") 0])
     |_,_=>none)
    |_=>none)
   |_=>none)
  |_=>none)
 |_=>none
noncomputable def tK(K:Frag):List (Addr×Array Value):=(["least_grown","greatest_first"]:List Str).filterMap (FM K)
noncomputable def TabF(K:Frag)(a:Hp):Prop:=∀t∈tK K,a t.1=some (.tbl t.2)
def TabF.same{K:Frag}{c a:Hp}(h:TabF K c)(s:Same c a):TabF K a:=λt e=>s _ _ (h t e)
structure EnvD(K:Frag)(H0 Φ H:Hp)(σ:St)(ρ:bT):Prop where
 fz:Same Φ H
 len:σ.length=ρ.length
 sl:∀(i:Nat)(d:D),ρ[i]?=some (some (.v d))->∃v,σ[i]?=some (some v)/\Rp K Φ d v
 ow:∀(i:Nat)(o:Ow),ρ[i]?=some (some (.ob o))->∃p u,σ[i]?=some (some (.ref p))/\H0 p=none/\Φ p=none/\H p=some u/\OwR K Φ o u
 ne:∀(i j:Nat)(o w:Ow)(p:Addr),ρ[i]?=some (some (.ob o))->ρ[j]?=some (some (.ob w))->σ[i]?=some (some (.ref p))->σ[j]?=some (some (.ref p))->i=j
 tb:TabF K Φ
section
variable{K:Frag}{H0 H H' Φ Φ':Hp}{σ:St}{ρ:bT}{d:D}{v:V}{ds es:List D}{vs:List V}
def EnvD.owl(E:EnvD K H0 Φ H σ ρ)(i:Nat)(ds:List D)(h:ρ[i]?=some (some (.own ds))):∃p vs,σ[i]?=some (some (.ref p))/\H0 p=none/\Φ p=none/\H p=some (.lst vs)/\RpL K Φ ds vs:=by
 obtain⟨p,u,e,a,c,f,r⟩:=E.ow i _ h
 cases u with
 |lst vs=>exact⟨p,vs,e,a,c,f,r⟩
 |_=>exact (show False from r).elim
def EnvD.gr(E:EnvD K H0 Φ H σ ρ)(g:Gr Φ H Φ' H'):EnvD K H0 Φ' H' σ ρ:=
 ⟨g.s,E.len,λi d h=>let ⟨v,e,r⟩:=E.sl i d h;⟨v,e,r.same g.f⟩,
  λi ds h=>let ⟨p,vs,e,h0,hn,hp,r⟩:=E.ow i ds h;⟨p,vs,e,h0,g.o p _ hp hn r.k,g.h _ _ hp,r.same g.f⟩,E.ne,E.tb.same g.f⟩
def er{f:Type}{l:List f}{i j:Nat}{x y:f}(h:(l.set i x)[j]?=some y):(j=i/\i<l.length/\y=x)\/(j≠i/\l[j]?=some y):=by
 by_cases c:i=j
 ·subst c
  have a:i<l.length:=by have:=ba h;rwa [Im]at this
  rw[IP a]at h;cases h;exact .inl ⟨rfl,a,rfl⟩
 ·rw[IL c]at h;exact .inr ⟨λe=>c e.symm,h⟩
def EnvD.set(E:EnvD K H0 Φ H σ ρ)(r:Rp K Φ d v)(i:Nat):EnvD K H0 Φ H (σ.set i (some v)) (ρ.set i (some (.v d))):=by
 have m:∀{j:Nat}{x:Option V},j≠i->σ[j]?=some x->(σ.set i (some v))[j]?=some x:=λc h=>by rw[IL (Jj c)];exact h
 refine⟨E.fz,by rw[Im,Im,E.len],λj e h=>?_,λj ds h=>?_,λj k ds es p f g o t=>?_,E.tb⟩
 ·rcases er h with⟨rfl,l,a⟩|⟨c,h⟩
  ·cases a;exact⟨v,by rw[IP (by rw[E.len];exact l)],r⟩
  ·obtain⟨u,z,A⟩:=E.sl j e h;exact⟨u,m c z,A⟩
 ·rcases er h with⟨rfl,l,a⟩|⟨c,h⟩
  ·cases a
  ·obtain⟨p,vs,e,q⟩:=E.ow j ds h;exact⟨p,vs,m c e,q⟩
 ·rcases er f with⟨rfl,_,a⟩|⟨w,f⟩
  ·cases a
  rcases er g with⟨rfl,_,a⟩|⟨y,g⟩
  ·cases a
  rw[IL (Jj w)]at o;rw[IL (Jj y)]at t;exact E.ne j k ds es p f g o t
def EnvD.weak{a:bT}(E:EnvD K H0 Φ H σ ρ)(g:a.length=ρ.length)(c:∀(i:Nat) x,a[i]?=some (some x)->ρ[i]?=some (some x)):EnvD K H0 Φ H σ a:=
 ⟨E.fz,by rw[E.len,g],λi d h=>E.sl i d (c i _ h),λi ds h=>E.ow i ds (c i _ h),λi j ds es p e f=>E.ne i j ds es p (c i _ e) (c j _ f),E.tb⟩
end
noncomputable def NF{a:Type}(x:a)(R:a->Prop):Prop:=∃y,x=y/\R y
def NF.get{a:Type}{x:a}{R:a->Prop}(h:NF x R):R x:=by obtain⟨_,rfl,h⟩:=h;exact h
noncomputable abbrev TD:=bT->(D->Prop)->Prop
noncomputable abbrev aX:=bT->(List D->Prop)->Prop
noncomputable abbrev bL:=bT->(Bool->Prop)->Prop
noncomputable def lE(K:Frag)(t:TD):TE:=λg H Q=>∃f e ρ R,EnvD K f e H g ρ/\t ρ R/\∀d a c v,R d->Gr e H a c->Rp K a d v->Q v c
noncomputable def lQ(K:Frag)(t:TD):TE:=λg H Q=>∃f e ρ R,EnvD K f e H g ρ/\t ρ R/\∀d a c v,R d->Gr e H a c->RpQ K a c d v->Q v c
noncomputable def lF(K:Frag)(t:aX):TE:=λg H Q=>∃f e ρ R,EnvD K f e H g ρ/\t ρ R/\∀ds a c p vs,R ds->Gr e H a c->H p=none->a p=none->c p=some (.lst vs)->RpL K a ds vs->Q (.ref p) c
noncomputable def lA(K:Frag)(n:Nat)(t:aX):TA:=λg H Q=>∃f e ρ R,EnvD K f e H g ρ/\t ρ R/\∀ds a c vs,R ds->Gr e H a c->RpL K a ds vs->ds.length=n->Q vs c
noncomputable def lT(K:Frag)(t:bL):TT:=λg H Q=>∃f e ρ R,EnvD K f e H g ρ/\t ρ R/\∀b a c,R b->Gr e H a c->Q b c
structure PD(K:Frag)(X:Cx)(e:Expr)(t:TD):Prop where pe:X.K=K->PE X e (lE K t)
structure PQ(K:Frag)(X:Cx)(e:Expr)(t:TD):Prop where pe:X.K=K->PE X e (lQ K t)
structure PF(K:Frag)(X:Cx)(e:Expr)(t:aX):Prop where pe:X.K=K->PE X e (lF K t)
structure PAD(K:Frag)(X:Cx)(es:List Expr)(t:aX):Prop where pa:X.K=K->PA X es (lA K es.length t)
structure PTD(K:Frag)(X:Cx)(e:Expr)(t:bL):Prop where pt:X.K=K->PT X e (lT K t)
structure PWD(K:Frag)(X:Cx)(e:Expr)(t:bL):Prop where pw:X.K=K->PW X e (lT K t)
def PE.imp{X:Cx}{e:Expr}{t t':TE}(h:PE X e t)(k:∀c H Q,t' c H Q->t c H Q):PE X e t':=λa s c H Q I f=>h a s c H Q I (k c H Q f)
def PT.imp{X:Cx}{e:Expr}{t t':TT}(h:PT X e t)(k:∀c H Q,t' c H Q->t c H Q):PT X e t':=λa s c H Q I f=>h a s c H Q I (k c H Q f)
def PW.imp{X:Cx}{e:Expr}{t t':TT}(h:PW X e t)(k:∀c H Q,t' c H Q->t c H Q):PW X e t':=λg a s c H Q I f=>h g a s c H Q I (k c H Q f)
def PA.imp{X:Cx}{e:List Expr}{t t':TA}(h:PA X e t)(k:∀c H Q,t' c H Q->t c H Q):PA X e t':=λf a s c H Q I g=>h f a s c H Q I (k c H Q g)
def PS.imp{X:Cx}{e:Stmt}{t t':TS}(h:PS X e t)(k:∀D c H,t' D c H->t D c H):PS X e t':=λa s c H D I f=>h a s c H D I (k D c H f)
def PSs.imp{X:Cx}{e:List Stmt}{t t':TS}(h:PSs X e t)(k:∀D c H,t' D c H->t D c H):PSs X e t':=λa s c H D I f=>h a s c H D I (k D c H f)
section
variable{K:Frag}{X:Cx}{e a b c:Expr}{es:List Expr}{pos:Pos}{t ta tb:TD}{tf:aX}{tl:aX}{tt tu:bL}
def PD.q(h:PD K X e t):PQ K X e t:=⟨λo=>(h.pe o).imp λw H Q m=>by obtain⟨l,u,ρ,R,E,t,k⟩:=m;exact⟨l,u,ρ,R,E,t,λd f j v r g p=>k d f j v r g (.inl p)⟩⟩
noncomputable def rG(t:aX):TD:=λρ R=>t ρ λds=>R (.lst ds)
def PF.d(h:PF K X e tf):PD K X e (rG tf):=⟨λu=>(h.pe u).imp λz H Q m=>by obtain⟨l,x,ρ,R,E,t,k⟩:=m;exact⟨l,x,ρ,_,E,t,λds y j p vs r g o f v w=>
 k (.lst ds) _ j _ r (g.freeze o f v) ((w.same (cH f _)).lst bg)⟩⟩
noncomputable def n5(i:Nat):TD:=λρ R=>match ρ[i]? with|some (some (.v d))=>R d|_=>False
noncomputable def jF(i:Nat):TD:=λρ R=>match ρ[i]? with|some (some (.v d))=>R d|some (some (.ob (.lst ds)))=>R (.lst ds)|_=>False
def dv(i:Nat){x:Str}(j:X.N[i]?=some x:=by rfl)(l:bR X.env.scope x:=by nofun)(hd:(x==("__debug__":Str))=false:=by decide)
  (g:(x==("__classdict__":Str))=false:=by decide):PD K X (.Name x pos) (n5 i):=⟨λ_=>(pv i j l hd g).imp λp H Q f=>by
 obtain⟨o,m,ρ,R,E,t,k⟩:=f;unfold n5 at t;split at t
 ·next d h=>
  obtain⟨v,e,r⟩:=E.sl i d h;exact⟨v,e,k d m H v t (.refl E.fz) r⟩
 ·exact t.elim⟩
def ad(i:Nat){x:Str}(l:X.N[i]?=some x:=by rfl)(o:bR X.env.scope x:=by nofun)(hd:(x==("__debug__":Str))=false:=by decide)
  (j:(x==("__classdict__":Str))=false:=by decide):PQ K X (.Name x pos) (jF i):=⟨λ_=>(pv i l o hd j).imp λw H Q g=>by
 obtain⟨u,f,ρ,R,E,t,k⟩:=g;unfold jF at t;split at t
 ·next d h=>
  obtain⟨v,e,r⟩:=E.sl i d h;exact⟨v,e,k d f H v t (.refl E.fz) (.inl r)⟩
 ·next ds h=>
  obtain⟨p,vs,e,_,_,m,r⟩:=E.owl i ds h;exact⟨_,e,k _ f H _ t (.refl E.fz) (.inr ⟨p,vs,ds,rfl,rfl,m,r⟩)⟩
 ·exact t.elim⟩
noncomputable def dC(d:D):TD:=λ_ R=>R d
def mQ{v:V}{d:D}(h:PE X e (tC v))(r:∀f,Rp K f d v):PD K X e (dC d):=⟨λ_=>h.imp λl H Q g=>by obtain⟨j,f,ρ,R,E,t,k⟩:=g;exact k d f H v t (.refl E.fz) (r f)⟩
def ah{i j}:PD K X (.Constant (.int i) j pos) (dC (.int i)):=mQ D7 λ_=>.int i
def ip{i j}:PD K X (.Constant (.bool i) j pos) (dC (.bl i)):=mQ Cc λ_=>.bl i
def az{i j}:PD K X (.Constant (.str i) j pos) (dC (.str i)):=mQ sU λ_=>.str i
def bA{j}:PD K X (.Constant .none j pos) (dC .non):=mQ AH λ_=>.non
noncomputable abbrev bW:=D->D->(D->Prop)->Prop
noncomputable def i8(K:Frag)(r:bW):R2:=λx y H Q=>∃g j l R,Same g H/\RpQ K g H j x/\RpQ K g H l y/\r j l R/\∀d f h v,R d->Gr g H f h->Rp K f d v->Q v h
structure OpD(K:Frag)(X:Cx)(f:Value->Value->Sem Value)(r:bW):Prop where o:X.K=K->bI X f (i8 K r)
noncomputable def gG(r:bW)(ta tb:TD):TD:=λρ R=>ta ρ λx=>tb ρ λy=>r x y R
def ls{r:bW}{u:St}{H:Hp}{Q:VK}(h:lE K (gG r ta tb) u H Q):g9 (i8 K r) (lQ K ta) (lQ K tb) u H Q:=by obtain⟨o,J,ρ,R,E,t,k⟩:=h;exact⟨o,J,ρ,_,E,t,λz l M x G p C=>⟨o,l,ρ,_,E.gr p,G,λA m N y I f F=>⟨m,z,A,R,f.s,C.gr f,F,I,λd j w v r g B=>k d j w v r ((p.trans f).trans g) B⟩⟩⟩
def aH{g:Operator}{r:bW}(l:OpD K X (binaryOp g) r)(h:PQ K X a ta)(j:PQ K X b tb):PD K X (.BinOp a g b pos) (gG r ta tb):=
 ⟨λf=>(oE (l.o f) (h.pe f) (j.pe f)).imp λ_ _ _=>ls⟩
def i9{g:CmpOp}{r:bW}(m:OpD K X (compareOp g) r)(h:PQ K X a ta)(j:PQ K X b tb)(l:behindInMarks g b=false):PD K X (.Compare a [g] [b] pos) (gG r ta tb):=
 ⟨λf=>(uZ (m.o f) (h.pe f) (j.pe f) l).imp λ_ _ _=>ls⟩
noncomputable def qu(t:TD):bL:=λρ R=>t ρ λd=>match d with|.bl b=>R b|_=>False
def AQ{r:bW}{j:St}{H:Hp}{Q:Bool->Hp->Prop}(h:lT K (qu (gG r ta tb)) j H Q):ly (g9 (i8 K r) (lQ K ta) (lQ K tb)) j H Q:=by obtain⟨m,p,ρ,R,E,t,k⟩:=h;refine ls ⟨m,p,ρ,_,E,t,λd f l v r g o=>?_⟩;obtain⟨b,rfl,r⟩:=gR r;obtain rfl:=o.b;exact⟨b,rfl,k b f l r g⟩
def aw{g:CmpOp}{r:bW}(m:OpD K X (compareOp g) r)(h:PQ K X a ta)(j:PQ K X b tb)(l:behindInMarks g b=false):PTD K X (.Compare a [g] [b] pos) (qu (gG r ta tb)):=
 ⟨λf=>(uu (m.o f) (h.pe f) (j.pe f) l).imp λ_ _ _=>AQ⟩
noncomputable abbrev uY:=D->(D->Prop)->Prop
noncomputable def Fm(r:uY)(ta:TD):TD:=λρ R=>ta ρ λx=>r x R
noncomputable def G9:uY:=λx R=>match x with|.int i=>R (.int (-i))|_=>False
def dQ(p:PQ K X a ta):PD K X (.UnaryOp .USub a pos) (Fm G9 ta):=⟨λo=>(Cs xC (p.pe o)).imp λw H Q l=>by obtain⟨h,u,ρ,R,E,t,k⟩:=l;exact⟨h,u,ρ,_,E,t,λv g j x f m r=>by
 obtain⟨i,rfl,f⟩:=iy f
 exact⟨i,r.int,k _ g j _ f m (.int _)⟩⟩⟩
noncomputable def oM:D->(Bool->Prop)->Prop:=λd R=>match d with
 |.int i=>R (i != 0)|.bl b=>R b|.non=>R false|.str x=>x.length<=sizeLine/\R ((x.length:Int) != 0)|.lst ds=>R (!ds.isEmpty)|.tup ds=>R (!ds.isEmpty)|.fzl ds=>R (!ds.isEmpty)|.obj _ _=>False|.map _=>False|.exc _ _=>False
def pB{f:Hp}{ds:List D}{vs:List V}(h:RpL K f ds vs):(!ds.isEmpty)=!vs.isEmpty:=by have:=h.1;cases ds<;>cases vs<;>simp_all
def t7{j H:Hp}{d:D}{v:V}{R:Bool->Prop}(s:Same j H)(h:RpQ K j H d v)(t:oM d R):∃k,qF K v H k/\R k:=by
 cases d with
 |int i=>rw[h.int];exact⟨_,rfl,t⟩
 |bl i=>rw[h.bl];exact⟨_,rfl,t⟩
 |non=>rw[h.non];exact⟨_,rfl,t⟩
 |str i=>rw[h.str];exact⟨_,⟨t.1,rfl⟩,t.2⟩
 |lst ds=>obtain⟨a,vs,rfl,f,g⟩:=h.lst s;exact⟨_,.inl ⟨vs,.of f,rfl⟩,by rw[←pB g];exact t⟩
 |tup ds=>obtain⟨a,vs,rfl,f,_,g⟩:=h.tup s;exact⟨_,.inr (.inl ⟨vs,f,rfl⟩),by rw[←pB g];exact t⟩
 |fzl ds=>obtain⟨a,vs,rfl,f,g⟩:=h.fzl s;exact⟨_,.inl ⟨vs,f,rfl⟩,by rw[←pB g];exact t⟩
 |obj C fs=>exact t.elim
 |map l=>exact t.elim
 |exc _ _=>exact t.elim
noncomputable def yx(t:TD):bL:=λρ R=>t ρ λd=>oM d R
def jx(u:PQ K X a ta)(w:∀f,isTrue a X.env f=(do let v ←f;standAt a.pos;holding [v] (truthy v))):PTD K X a (yx ta):=
 ⟨λj=>(rH (u.pe j) w).imp λA H Q o=>by obtain⟨l,z,ρ,R,E,t,k⟩:=o;exact⟨l,z,ρ,_,E,t,λd g m v y h x=>by
  obtain⟨b,p,r⟩:=t7 h.s x y;rw[j]
  exact⟨b,p,k b g m r h⟩⟩⟩
noncomputable def DK(t u:bL):bL:=λρ R=>t ρ λc=>(c=true->u ρ R)/\(c=false->R false)
noncomputable def Fu(t u:bL):bL:=λρ R=>t ρ λc=>(c=true->R true)/\(c=false->u ρ R)
noncomputable def Cm(t:bL):bL:=λρ R=>t ρ λc=>R (!c)
def PWD.td(h:PWD K X e tt):PTD K X e tt:=⟨λf=>(h.pw f).pt⟩
def iZ(g:PTD K X a tt):PWD K X (.BoolOp .And [a] pos) tt:=⟨λf=>rp (g.pt f)⟩
def eR(g:PTD K X a tt):PWD K X (.BoolOp .Or [a] pos) tt:=⟨λf=>wS (g.pt f)⟩
def iQ(u:PTD K X a tt)(v:PWD K X (.BoolOp .And (b::es) pos) tu):PWD K X (.BoolOp .And (a::b::es) pos) (DK tt tu):=
 ⟨λl=>(uX (u.pt l) (v.pw l)).imp λy H Q p=>by obtain⟨j,x,ρ,R,E,t,k⟩:=p;exact⟨j,x,ρ,_,E,t,λc f o r g=>by
  cases c with
  |true=>rw[Ia rfl];exact⟨j,f,ρ,R,E.gr g,r.1 rfl,λb h m w g'=>k b h m w (g.trans g')⟩
  |false=>rw[Ib (by decide)];exact k _ f o (r.2 rfl) g⟩⟩
def dM(u:PTD K X a tt)(v:PWD K X (.BoolOp .Or (b::es) pos) tu):PWD K X (.BoolOp .Or (a::b::es) pos) (Fu tt tu):=
 ⟨λl=>(CT (u.pt l) (v.pw l)).imp λy H Q p=>by obtain⟨j,x,ρ,R,E,t,k⟩:=p;exact⟨j,x,ρ,_,E,t,λc f o r g=>by
  cases c with
  |true=>rw[Ia rfl];exact k _ f o (r.1 rfl) g
  |false=>rw[Ib (by decide)];exact⟨j,f,ρ,R,E.gr g,r.2 rfl,λb h m w g'=>k b h m w (g.trans g')⟩⟩⟩
def ou(o:PTD K X a tt):PTD K X (.UnaryOp .Not a pos) (Cm tt):=
 ⟨λm=>(rP (o.pt m)).imp λu H Q l=>by obtain⟨h,p,ρ,R,E,t,k⟩:=l;exact⟨h,p,ρ,_,E,t,λc f j r g=>k _ f j r g⟩⟩
noncomputable def Fy(t u:TD):TD:=λρ R=>t ρ λc=>match c with|.bl c=>(c=true->u ρ R)/\(c=false->R (.bl false))|_=>False
def Dn{op}(h:PD K X a ta):PD K X (.BoolOp op [a] pos) ta:=⟨λf=>tL (h.pe f)⟩
def t6(u:PD K X a ta)(w:PD K X (.BoolOp .And (b::es) pos) tb):PD K X (.BoolOp .And (a::b::es) pos) (Fy ta tb):=
 ⟨λl=>(sd (u.pe l) (w.pe l)).imp λB H Q p=>by obtain⟨j,A,ρ,R,E,t,k⟩:=p;exact⟨j,A,ρ,_,E,t,λc f o v r g z=>by
  obtain⟨c,rfl,r⟩:=gR r;obtain rfl:=z.b;refine⟨c,rfl,?_⟩
  cases c with
  |true=>rw[Ia rfl];exact⟨j,f,ρ,R,E.gr g,r.1 rfl,λb h m v x g' y=>k b h m v x (g.trans g') y⟩
  |false=>rw[Ib (by decide)];exact k _ f o _ (r.2 rfl) g (.bl _)⟩⟩
noncomputable def zD(t:bL)(u v:TD):TD:=λρ R=>t ρ λc=>(c=true->u ρ R)/\(c=false->v ρ R)
def iN(y:PTD K X c tt)(w:PD K X a ta)(x:PD K X b tb):PD K X (.IfExp c a b pos) (zD tt ta tb):=
 ⟨λm=>(Av (y.pt m) (w.pe m) (x.pe m)).imp λB H Q u=>by obtain⟨l,z,ρ,R,E,t,k⟩:=u;exact⟨l,z,ρ,_,E,t,λc h A r g=>by
  cases c with
  |true=>rw[Ia rfl];exact⟨l,h,ρ,R,E.gr g,r.1 rfl,λb f j v o g' p=>k b f j v o (g.trans g') p⟩
  |false=>rw[Ib (by decide)];exact⟨l,h,ρ,R,E.gr g,r.2 rfl,λb f j v o g' p=>k b f j v o (g.trans g') p⟩⟩⟩
noncomputable def pk:aX:=λ_ R=>R []
noncomputable def qw(t:TD)(u:aX):aX:=λρ R=>t ρ λd=>u ρ λds=>R (d::ds)
def ao:PAD K X [] pk:=⟨λ_=>pa_nil.imp λj H Q f=>by obtain⟨h,g,ρ,R,E,t,k⟩:=f;exact k [] g H [] t (.refl E.fz) .nil rfl⟩
def af(u:PD K X e t)(x:PAD K X es tl)(y:starEach (e::es) X.env=(false,eval e X.env)::starEach es X.env):PAD K X (e::es) (qw t tl):=
 ⟨λm=>(dA (u.pe m) (x.pa m) y).imp λF H Q p=>by obtain⟨j,B,ρ,R,E,t,k⟩:=p;exact⟨j,B,ρ,_,E,t,λd f C v r g A=>⟨j,f,ρ,_,E.gr g,r,λds h o vs z l rl w=>
  k _ h o _ z (g.trans l) (.cons (A.same l.f) rl) (by rw[Ij,Ij,w])⟩⟩⟩
noncomputable def Hh(t:aX):TD:=λρ R=>t ρ λds=>R (.tup ds)
noncomputable def tF(t:aX):aX:=t
def oJ{n:Nat}(h:Nat.ble n 1000=true):n<=sizeLine:=IF (MH h) (by decide)
def aM{x1}(h:PAD K X es tl)(m:Nat.ble es.length 1000=true:=by rfl):PD K X (.Tuple es x1 pos) (Hh tl):=
 ⟨λo=>(sE (h.pa o)).imp λy H Q l=>by obtain⟨j,v,ρ,R,E,t,k⟩:=l;exact⟨j,v,ρ,_,E,t,λds w x vs r g rl u=>⟨by rw[rl.1,u];exact oJ m,λp f=>
  k _ _ _ _ r (g.trans (.new g.s f _)) ((rl.same (cH (g.s.free f) _)).tup bg)⟩⟩⟩
def fJ(h:PAD K X es tl)(m:Nat.ble es.length 1000=true:=by rfl):PF K X (.List es pos) (tF tl):=
 ⟨λo=>(wZ (h.pa o)).imp λy H Q l=>by obtain⟨j,v,ρ,R,E,t,k⟩:=l;exact⟨j,v,ρ,_,E,t,λds w x vs r g rl u=>⟨by rw[rl.1,u];exact oJ m,λp f=>
  k _ _ _ p vs r (g.trans (.fresh g.s f _)) (g.h.free f) (g.s.free f) bg rl⟩⟩⟩
end
end L2
namespace L2
open PySem PySem.Spec PyProof.Rows PySem.Builtin PySem.Builtin.Str
section
variable{X:Cx}
noncomputable def fi(z:Str)(lo a:Option Int):Str:=⟨(br z.cps.toList lo a).toArray⟩
def uq(z:Str)(lo c:Option Int):Txt.slice z lo c=fi z lo c:=by
 have f:strSliceIndices lo c 1 z.length=(List.range (HT.sIx z.length z.length c-HT.sIx z.length 0 lo)).map λk=>HT.sIx z.length 0 lo+k:=by
  have l:∀(i:Int)(d:Nat),max 0 (min (if i<0 then i+(z.length:Int) else i) (z.length:Int))=(HT.sIx z.length d (some i):Int):=λi d=>by show max 0 (min (if i<0 then i+(z.length:Int) else i) (z.length:Int))=((if i<0 then (i+(z.length:Int)).toNat else min i.toNat z.length:Nat):Int);split<;>omega
  have t:strSliceIndices lo c 1 z.length=sliceRange (HT.sIx z.length 0 lo:Int) (HT.sIx z.length z.length c:Int) 1:=by cases lo<;>cases c<;>simp only[strSliceIndices,show (1:Int)>0 by decide,KQ,l _ 0,l _ z.length]<;>rfl
  rw[t];unfold sliceRange;simp only[show (1:Int)>0 by decide,KQ]
  have u:(if (HT.sIx z.length 0 lo:Int)<(HT.sIx z.length z.length c:Int) then ((HT.sIx z.length z.length c:Int)-(HT.sIx z.length 0 lo:Int)+1-1)/1 else 0).toNat=HT.sIx z.length z.length c-HT.sIx z.length 0 lo:=by
   split
   ·rw[Int.ediv_one];omega
   ·omega
  rw[u];refine Kc λk _=>?_;omega
 have o:HT.sIx z.length z.length c<=z.length:=by
  cases c with
  |none=>exact Ih _
  |some i=>
   show (if i<0 then (i+(z.length:Int)).toNat else min i.toNat z.length)<=z.length;split<;>omega
 have y:HT.sIx z.length 0 lo<=z.length:=by
  cases lo with
  |none=>exact J4 _
  |some i=>
   show (if i<0 then (i+(z.length:Int)).toNat else min i.toNat z.length)<=z.length;split<;>omega
 have g:(strSliceIndices lo c 1 z.length).filterMap (z.cps[·]?)=br z.cps.toList lo c:=by
  rw[f];unfold br
  have e:z.cps.toList.length=z.length:=by rw[Jl];rfl
  rw[e];generalize HT.sIx z.length 0 lo=a;generalize v:HT.sIx z.length z.length c=b at o;refine Jo λj=>?_;rw[LM]
  have:∀m,m<=b-a->((List.range m).filterMap ((λx=>z.cps[x]?) ∘ λk=>a+k))=(z.cps.toList.drop a).take m:=by
   intro m
   induction m with
   |zero=>intro _;simp
   |succ m w=>
    intro B;rw[List.range_succ,List.filterMap_append,w (by omega)]
    have r:a+m<z.cps.size:=by unfold Str.length at o;omega
    have A:z.cps.toList.drop a=z.cps.toList.drop a:=rfl
    have p:m<(z.cps.toList.drop a).length:=by rw[Jm,e];unfold Str.length;omega
    rw[List.take_add_one,K1];congr 1;simp[r]
  rw[this _ (Ih _)]
 unfold Txt.slice fi;split
 ·next h=>
  have p:(strSliceIndices lo c 1 z.length).length=z.length:=by simpa using h
  have e:z.cps.toList.length=z.length:=by rw[Jl];rfl
  have:br z.cps.toList lo c=z.cps.toList:=by
   rw[f,HV,Je]at p;unfold br;rw[e]
   have:HT.sIx z.length 0 lo=0:=by omega
   rw[this,K5,JK (by rw[e];omega)]
  rw[this]
 ·rw[g]
def GD(z:Str)(lo a:Option Int):(fi z lo a).length<=z.length:=by rw[←uq];exact Txt.slice_le z lo a
noncomputable def uP:V->Option Int->Option Int->Hp->VK->Prop:=λx lo a H Q=>∃z,x=.str z/\z.length<=sizeLine/\Q (.str (fi z lo a)) H
def vt{v:Value}{o:Option Int}(h:IsPart v o):∃p:Option (Int×Tok),v=partValue p/\p.map (·.1)=o:=by
 cases h with
 |none=>exact⟨none,rfl,rfl⟩
 |int i t=>exact⟨some (i,t),rfl,rfl⟩
def zN:SlR X uP:=by
 intro e s E H x v B C lo A sl Q I y p pl w h;obtain⟨z,rfl,r,q⟩:=h;obtain⟨t,rfl⟩:=y;obtain⟨a,rfl,rfl⟩:=vt pl;obtain⟨c,rfl,rfl⟩:=vt w;refine⟨"str",_,F.slot_str_getitem.lookup,Lw _ _ _,?_⟩
 have f:s.heap.IsSlice sl a c none:=by obtain⟨o,m,g,j⟩:=p;exact⟨o,m,g,j⟩
 refine wpAny_getItem_str_slice (l:=a) (u:=c) (st:=none) f rfl (post_val_or_str ⟨?_,λt' k=>?_⟩)
 ·exact IF (Txt.slice_le z _ _) r
 ·refine⟨.str (fi z (a.map (·.1)) (c.map (·.1))),H,?_,⟨t',?_⟩,q⟩
  ·exact I.tok _
  ·rw[←uq];rfl
noncomputable def eB(z:Str)(n:Nat):Str:=⟨((List.replicate n z.cps.toList).flatten).toArray⟩
def yz(z:Str):eB z 1=z:=by unfold eB;simp
def vp:∀(n:Nat)(x a:Array Nat),(List.replicate n x).foldl (·++·) a=a++((List.replicate n x.toList).flatten).toArray
 |0,x,a=>by simp
 |n+1,x,a=>by rw[Jz,List.foldl_cons,vp n x (a++x),Jz,IY];apply Array.ext';simp
def GF(z:Str)(n:Nat):(eB z n).length=z.length*n:=by unfold eB Str.length;simp[Mf]
noncomputable def Cv:R2:=λx y H Q=>∃z k,x=.str z/\y=.int k/\-(2^62)<=k/\k<2^62/\z.length*k.toNat<=sizeLine/\z.length<=sizeLine/\Q (.str (eB z k.toNat)) H
def A8:bI X (binaryOp .Mult) Cv:=by
 intro l s G H x y v u Q I r w h;obtain⟨z,k,rfl,rfl,A,B,g,C,q⟩:=h;obtain⟨t,rfl⟩:=r;obtain⟨t',rfl⟩:=w;refine P.mul_str (by rw[ID (by omega),ID (by omega)];rfl) (λm a=>?_) (λm a=>?_) ?_
 ·intro F
  have p:0<k:=by omega
  have o:((z.length:Int))*k<=2^24:=by have:((z.length*k.toNat:Nat):Int)<=(sizeLine:Int):=Int.ofNat_le.mpr g;rw[Int.natCast_mul,Int.toNat_of_nonneg (by omega)]at this;exact this
  have E:(z.length:Int)<=(2^63-1)/k:=(Int.le_ediv_iff_mul_le p).mpr (Int.le_trans o (by decide));omega
 ·unfold tooLong;exact ID (by omega)
 ·by_cases c:k<1
  ·rw[Ia c]
   have e:k.toNat=0:=by omega
   rw[e]at q;exact⟨by decide,.str Str.empty,H,I.tok _,⟨_,rfl⟩,q⟩
  ·rw[Ib c];by_cases a:(k==1 ||z.length==0)=true
   ·rw[Ia a]
    have e:eB z k.toNat=z:=by
     rw[Mv]at a;rcases a with a|a
     ·have:=eq_of_beq a;subst this;exact yz z
     ·have j:z.cps.toList=[]:=by have:=eq_of_beq a;unfold Str.length at this;exact Jx.mp (by rw[Jl];exact this)
      unfold eB;rw[j]
      have f:z.cps=#[]:=by apply Array.ext';rw[j]
      apply Str.ext';rw[f];simp
    rw[e]at q;exact⟨.str z,H,I,⟨t,rfl⟩,q⟩
   ·rw[Ib a]
    have e:(⟨(List.replicate k.toNat z.cps).foldl (·++·) #[]⟩:Str)=eB z k.toNat:=by rw[vp];unfold eB;simp
    rw[e];refine⟨by rw[GF];exact g,.str (eB z k.toNat),H,I.tok _,⟨_,rfl⟩,q⟩
end
noncomputable def wF:R2:=λx y H Q=>∃a b xs ys,x=.ref a/\y=.ref b/\H a=some (.tup xs)/\H b=some (.tup ys)/\xs.length+ys.length<=sizeLine/\∀p c,Same H c->c p=some (.tup (xs++ys))->Q (.ref p) c
def AU{X:Cx}:bI X (binaryOp .Add) wF:=by
 intro c s A H x y v u Q I l m h;obtain⟨a,b,xs,ys,rfl,rfl,f,g,r,q⟩:=h;by_cases j:xs=[]
 ·subst j;cases l;cases m;obtain⟨B,z,t,_⟩:=I.tuple (SqT.of f);obtain⟨C,E,w,_⟩:=I.tuple (SqT.of g);exact zq t w (z.nil_iff.mpr rfl) ⟨.ref b,H,I,rfl,q b H (Same.refl H) g⟩
 ·refine E9 c s A H _ _ v u Q I l m ⟨a,b,xs,ys,rfl,rfl,SqT.of f,SqT.of g,j,r,λe=>?_,λ_ p o=>q p _ (cH o _) bg⟩;subst e;exact q a H (Same.refl H) (by rw[IW];exact f)
noncomputable def DW:R2:=λx y H Q=>∃(a:Addr)(k:Int)(xs:List V),x=.ref a/\y=.int k/\H a=some (.tup xs)/\xs≠[]/\0<=k/\k<=1000/\k.toNat*xs.length<=1000/\∀p c,Same H c->c p=some (.tup (List.replicate k.toNat xs).flatten)->Q (.ref p) c
def yt{X:Cx}:bI X (binaryOp .Mult) DW:=by
 intro w s σ H x y v u Q I rx ry h;obtain⟨a,k,xs,rfl,rfl,K,hx,h0,h1,N,q⟩:=h;cases rx;obtain⟨t,rfl⟩:=ry;obtain⟨c,r,p1,_⟩:=I.tuple (SqT.of K);have P:c≠[]:=λz=>hx (r.nil_iff.mp z);have Z:=r.length
 have g:c.toArray.isEmpty=false:=by cases c with|nil=>exact absurd rfl P|cons _ _=>rfl
 obtain⟨⟨cls,dd,data,sl⟩,f,M,n,hd⟩:=id p1;simp only at M hd;subst M hd
 refine wpAny_binaryOp_repeat_ref (T:="tuple") (U:="int") (by decide) ⟨_,f,rfl⟩ (λs'=>L6 s' k t) xj F.fills_int_mul Ly yb F.slot_int_index.lookup
  (JU Ly (L6 s k t) F.entry_int_rmul (F.args_int_rmul_2 _ _) (EN k t a c.toArray n dd sl)
   ⟨f,rfl,⟨_,f,rfl⟩,?_⟩)
 have C:List.foldl (λx1 x2=>x1++x2) #[] (List.replicate k.toNat c.toArray)=(List.replicate k.toNat c).flatten.toArray:=by have:=pO c k.toNat [];rw[KU]at this;exact this
 have E:¬ (decide (k < -(2^63)) ||decide (k≥2^63))=true:=by rw[ID (by omega),ID (by omega)];exact IV
 by_cases J:k=1
 ·subst J;refine JU KJ ⟨_,f,rfl⟩ L3 (LR _ _) (Hi a c.toArray n dd sl t) ⟨f,?_⟩;refine⟨.ref a,H,I,rfl,q a H (Same.refl H) ?_⟩;show H a=some (.tup (List.replicate 1 xs).flatten);rw[List.replicate_one,IY,List.flatten_nil,IW];exact K
 ·have G:¬ (c.toArray.isEmpty ||k==1)=true:=by rw[g,Kb.mpr J];exact IV
  have m:∀ys:List V,∀us:List Value,ys.length<=sizeLine->Vals ys us->EP X w σ Q (.ref s.heap.objs.size) { s with heap:=s.heap.push { cls:=Value.type "tuple",data:=Data.seq us.toArray },toks:=s.toks }\/¬ (∀p l,Same H l->l p=some (.tup ys)->Q (.ref p) l):=λys us B rr=>by
   by_cases O:∀p l,Same H l->l p=some (.tup ys)->Q (.ref p) l
   ·refine .inl ⟨.ref s.heap.objs.size,_,I.laid (t':=s.toks) (o:=.tup ys) (λb ob z=>Ig _ z) (Ih _) ?_,rfl,O _ _ (cH (I.hok.fresh (Ih _)) _) bg⟩;exact⟨B,_,rr,IsTupD.new _ _⟩
   ·exact .inr O
  by_cases Y:k=0
  ·subst Y;refine JU KJ ⟨_,f,rfl⟩ L3 (LR _ _) (BW a c.toArray n dd sl 0 t E G rfl) ⟨f,?_⟩;rcases m [] [] (J4 _) .nil with z|z
   ·exact z
   ·exact absurd q z
  ·have R:¬ (decide (k<=0) ||c.toArray.isEmpty)=true:=by rw[g,ID (by omega)];exact IV
   have j:c.length*k.toNat<=1000:=by rw[←Z,Mf];exact N
   have A:(c.toArray.size:Int)*k<=1000:=by
    rw[Il]
    have e:k=((k.toNat:Nat):Int):=by omega
    rw[e]
    exact_mod_cast j
   have hs:(1000:Int)<=((sizeLine:Nat):Int):=by exact_mod_cast small (Ih 1000)
   have S:(List.replicate k.toNat c).flatten.length<=1000:=by rw[pT,Mf];exact j
   refine JU KJ ⟨_,f,rfl⟩ L3 (LR _ _) (Df a c.toArray n dd sl k t E G R (by omega) (by unfold Builtin.Tuple.tupleTooMany;rw[ID (by omega)];exact IV) (by rw[C,Il];exact small S)) ⟨f,?_⟩;rw[C];rcases m (List.replicate k.toNat xs).flatten (List.replicate k.toNat c).flatten (by rw[pT];exact small N) (r.rep k.toNat)with z|z
   ·exact z
   ·exact absurd q z
end L2
namespace L2
open PySem PySem.Spec PyProof.Rows
section
variable{K:Frag}{X:Cx}{e a b:Expr}
noncomputable def xo:bW:=λx y R=>match x,y with
 |.int i,.int j=>R (.int (i+j))
 |.str i,.str j=>i.length+j.length<=sizeLine/\R (.str (i++j))
 |.lst xs,.lst ys=>xs.length+ys.length<=sizeLine/\NF (xs++ys) λc=>R (.lst c)
 |.tup xs,.tup ys=>xs.length+ys.length<=sizeLine/\NF (xs++ys) λc=>R (.tup c)
 |_,_=>False
def bh:OpD K X (binaryOp .Add) xo:=⟨λT c s A H x y v u Q I w z M=>by
 obtain⟨G,P,o,R,f,r,t,h,k⟩:=M
 cases P with
 |int i=>
  cases o with
  |int j=>cases r.int;cases t.int;exact Fz c s A H _ _ v u Q I w z ⟨i,j,rfl,rfl,k _ G H _ h (.refl f) (.int _)⟩
  |_=>exact h.elim
 |str i=>
  cases o with
  |str j=>cases r.str;cases t.str;exact Cj c s A H _ _ v u Q I w z ⟨i,j,rfl,rfl,h.1,k _ G H _ h.2 (.refl f) (.str _)⟩
  |_=>exact h.elim
 |lst xs=>
  cases o with
  |lst ys=>
   obtain⟨a,vs,rfl,C,l⟩:=r.lst f;obtain⟨b,ws,rfl,E,m⟩:=t.lst f;exact ED c s A H _ _ v u Q I w z ⟨a,b,vs,ws,rfl,rfl,C,E,by rw[l.1,m.1];exact h.1,λp F=>k _ _ _ _ h.2.get (.new f F _) (((l.append m).same (cH (f.free F) _)).lst bg)⟩
  |_=>exact h.elim
 |tup xs=>
  cases o with
  |tup ys=>
   obtain⟨a,vs,rfl,C,N,l⟩:=r.tup f;obtain⟨b,ws,rfl,E,O,m⟩:=t.tup f
   exact AU c s A H _ _ v u Q I w z ⟨a,b,vs,ws,rfl,rfl,f _ _ N,f _ _ O,by rw[l.1,m.1];exact h.1,λp J s' q=>by
    obtain⟨B,g,S⟩:=Gr.adoptT f s' q
    exact k _ B J _ h.2.get g (((l.append m).same g.f).tup S)⟩
  |_=>exact h.elim
 |_=>exact h.elim⟩
noncomputable def zI(C:Int->Int->Prop)(g:Int->Int->D):bW:=λx y R=>match x,y with|.int i,.int j=>C i j/\R (g i j)|_,_=>False
noncomputable def iE(g:Int->Int->D):bW:=λx y R=>match x,y with|.int i,.int j=>R (g i j)|_,_=>False
def qM{f:Value->Value->Sem Value}{C:Int->Int->Prop}{g:Int->Int->Int}(h:bI X f (rI C λi j=>.int (g i j))):OpD K X f (zI C λi j=>.int (g i j)):=
 ⟨λE c s B H x y v u Q I t w l=>by
  obtain⟨A,m,o,R,z,p,r,q,k⟩:=l
  cases m with
  |int i=>
   cases o with
   |int j=>cases p.int;cases r.int;exact h c s B H _ _ v u Q I t w ⟨i,j,rfl,rfl,q.1,k _ A H _ q.2 (.refl z) (.int _)⟩
   |_=>exact q.elim
  |_=>exact q.elim⟩
def G0{f:Value->Value->Sem Value}{g:Int->Int->Int}(h:bI X f (gA λi j=>.int (g i j))):OpD K X f (iE λi j=>.int (g i j)):=
 ⟨λC c s B H x y v u Q I t w l=>by
  obtain⟨A,m,o,R,z,p,r,q,k⟩:=l
  cases m with
  |int i=>
   cases o with
   |int j=>cases p.int;cases r.int;exact h c s B H _ _ v u Q I t w ⟨i,j,rfl,rfl,k _ A H _ q (.refl z) (.int _)⟩
   |_=>exact q.elim
  |_=>exact q.elim⟩
def pA{f:Value->Value->Sem Value}{g:Int->Int->Bool}(h:bI X f (gA λi j=>.bl (g i j))):OpD K X f (iE λi j=>.bl (g i j)):=
 ⟨λC c s B H x y v u Q I t w l=>by
  obtain⟨A,m,o,R,z,p,r,q,k⟩:=l
  cases m with
  |int i=>
   cases o with
   |int j=>cases p.int;cases r.int;exact h c s B H _ _ v u Q I t w ⟨i,j,rfl,rfl,k _ A H _ q (.refl z) (.bl _)⟩
   |_=>exact q.elim
  |_=>exact q.elim⟩
def eV:OpD K X (binaryOp .Sub) (iE λi j=>.int (i-j)):=G0 Hl
def FW:OpD K X (binaryOp .FloorDiv) (zI CDivB λi j=>.int (i/j)):=qM zo
def hU:OpD K X (binaryOp .Mod) (zI (λ_ j=>0<j) λi j=>.int (i % j)):=qM FL
def Fv:OpD K X (binaryOp .Pow) (zI wd λi j=>.int (i^j.toNat)):=qM yr
def fS:OpD K X (compareOp .Lt) (iE λi j=>.bl (decide (i<j))):=pA yf
def iU:OpD K X (compareOp .Gt) (iE λi j=>.bl (decide (j<i))):=pA yC
def ki:OpD K X (compareOp .GtE) (iE λi j=>.bl (decide (j<=i))):=pA yi
noncomputable def AW:bW:=λx y R=>match x,y with
 |.int i,.int j=>IntMulOk i j/\R (.int (i*j))
 |.lst xs,.int k=>(-(2^63)<=k/\k<2^63/\xs.length*k.toNat<=sizeLine)/\NF (List.replicate k.toNat xs).flatten λc=>R (.lst c)
 |.tup xs,.int k=>(xs≠[]/\0<=k/\k<=1000/\k.toNat*xs.length<=1000)/\NF (List.replicate k.toNat xs).flatten λc=>R (.tup c)
 |.str z,.int k=>(-(2^62)<=k/\k<2^62/\z.length*k.toNat<=sizeLine/\z.length<=sizeLine)/\NF (eB z k.toNat) λy=>R (.str y)
 |_,_=>False
def ge:OpD K X (binaryOp .Mult) AW:=⟨λS c s A H x y v u Q I t w J=>by
 obtain⟨F,O,m,R,f,o,r,h,k⟩:=J
 cases O with
 |int i=>
  cases m with
  |int j=>cases o.int;cases r.int;exact Bb c s A H _ _ v u Q I t w ⟨i,j,rfl,rfl,h.1,k _ F H _ h.2 (.refl f) (.int _)⟩
  |_=>exact h.elim
 |lst xs=>
  cases m with
  |int j=>
   obtain⟨a,vs,rfl,C,l⟩:=o.lst f;cases r.int;exact vh c s A H _ _ v u Q I t w ⟨a,j,vs,rfl,rfl,C,h.1.1,h.1.2.1,by rw[l.1];exact h.1.2.2,λp E=>k _ _ _ _ h.2.get (.new f E _) (((l.rep _).same (cH (f.free E) _)).lst bg)⟩
  |_=>exact h.elim
 |tup xs=>
  cases m with
  |int j=>
   obtain⟨a,vs,rfl,C,N,l⟩:=o.tup f;cases r.int;have M:vs≠[]:=λe=>h.1.1 (Jx.mp (by rw[←l.1,e];rfl))
   exact yt c s A H _ _ v u Q I t w ⟨a,j,vs,rfl,rfl,f _ _ N,M,h.1.2.1,h.1.2.2.1,by rw[l.1];exact h.1.2.2.2,λp G s' q=>by
    obtain⟨B,g,P⟩:=Gr.adoptT f s' q
    exact k _ B G _ h.2.get g (((l.rep _).same g.f).tup P)⟩
  |_=>exact h.elim
 |str z=>
  cases m with
  |int j=>
   cases o.str;cases r.int;exact A8 c s A H _ _ v u Q I t w ⟨z,j,rfl,rfl,h.1.1,h.1.2.1,h.1.2.2.1,h.1.2.2.2,k _ F H _ h.2.get (.refl f) (.str _)⟩
  |_=>exact h.elim
 |_=>exact h.elim⟩
end
noncomputable def eC(f:D->D->Option Bool):List D->List D->Option Bool
 | [],[]=>some true
 |x::xs,y::ys=>(f x y).bind λb=>(eC f xs ys).map (b&&·)
 |_,_=>some false
noncomputable def cx:Nat->D->D->Option Bool
 |_,.int i,.int j=>some (i==j)
 |_,.bl i,.bl j=>some (i==j)
 |_,.str i,.str j=>some (i==j)
 |_,.non,.non=>some true
 |n+1,.tup xs,.tup ys=>eC (cx n) xs ys
 |n+1,.lst xs,.lst ys=>if xs.length=ys.length then eC (cx n) xs ys else some false
 |_,_,_=>none
def jl{f:D->D->Option Bool}:∀{xs ys:List D}{b:Bool},eC f xs ys=some b->∃g:Nat->Bool,(∀(j:Nat)(x y:D),xs[j]?=some x->ys[j]?=some y->f x y=some (g j))/\b=((List.range (min xs.length ys.length)).all g&&xs.length==ys.length)
 | [],[],b,h=>by cases h;exact⟨λ_=>true,λj x y l=>by simp at l,by simp⟩
 | [],_::_,b,h=>by cases h;exact⟨λ_=>true,λj x y l=>by simp at l,by simp⟩
 |_::_,[],b,h=>by cases h;exact⟨λ_=>true,λj x y _ z=>by simp at z,by simp⟩
 |x::xs,y::ys,b,h=>by
  unfold eC at h
  cases e:f x y with
  |none=>rw[e]at h;cases h
  |some c=>
   cases a:eC f xs ys with
   |none=>rw[e,a]at h;cases h
   |some A=>
    rw[e,a]at h;cases h;obtain⟨g,t,w⟩:=jl a;refine⟨λj=>match j with|0=>c|j+1=>g j,λj u v m o=>?_,?_⟩
    ·cases j with
     |zero=>cases m;cases o;exact e
     |succ j=>exact t j u v m o
    ·have r:min (x::xs).length (y::ys).length=min xs.length ys.length+1:=by simp only[Ij];omega
     have p:((x::xs).length==(y::ys).length)=(xs.length==ys.length):=by simp
     rw[r,p,List.range_succ_eq_map,LZ,MO,w,Bool.and_assoc];rfl
section
variable{K:Frag}{X:Cx}{pins:List (Addr×Obj)}{σ:St}{Φ H:Hp}{s:Shared}
def BX{n:Nat}{g:Nat->Bool}(h:∀j,j<n->g j=true):(List.range n).all g=true:=by rw[IC];intro j a;exact h j (JO.mp a)
def bw{a:Type}{xs:List a}{j:Nat}(h:j<xs.length):xs[j]?=some xs[j]:=by simp[h]
inductive CmV:Nat->D->D->Bool->Prop
 |int {n:Nat} (i j:Int):CmV n (.int i) (.int j) (i==j)
 |bl {n:Nat} (i j:Bool):CmV n (.bl i) (.bl j) (i==j)
 |str {n:Nat} (i j:Str):CmV n (.str i) (.str j) (i==j)
 |non {n:Nat}:CmV n .non .non true
 |tup {n:Nat} {xs ys:List D} {b:Bool} (h:eC (cx n) xs ys=some b):CmV (n+1) (.tup xs) (.tup ys) b
 |lst {n:Nat} {xs ys:List D} {b:Bool} (h:(if xs.length=ys.length then eC (cx n) xs ys else some false)=some b):CmV (n+1) (.lst xs) (.lst ys) b
def gD{n:Nat}{d e:D}{b:Bool}(h:cx n d e=some b):CmV n d e b:=by
 unfold cx at h;split at h
 ·cases h;exact .int _ _
 ·cases h;exact .bl _ _
 ·cases h;exact .str _ _
 ·cases h;exact .non
 ·exact .tup h
 ·exact .lst h
 ·cases h
def vn(A:X.K=K)(I:Inv X pins σ H s)(u:Same Φ H):∀(n:Nat){d e:D}{b:Bool}{v:V},cx n d e=some b->Rp K Φ d v->Rp K Φ e v->b=true:=by
 intro n
 induction n using Nat.strongRecOn with
 |ind n z=>
  intro d e b v h f l
  have all:∀{m:Nat}{xs ys:List D}{vs:List V}{b:Bool},m<n->eC (cx m) xs ys=some b->RpL K Φ xs vs->RpL K Φ ys vs->b=true:=λ{m xs ys vs b} y h c k2=>by
   obtain⟨g,x,w⟩:=jl h;have C:=c.1;have E:=k2.1;rw[w,BX λj B=>?_]
   ·simp;omega
   ·have p:j<vs.length:=by omega
    have r:j<xs.length:=by omega
    have t:j<ys.length:=by omega
    exact z m y (x j _ _ (bw r) (bw t)) (c.2 j _ _ (bw p) (bw r)) (k2.2 j _ _ (bw p) (bw t))
  cases gD h with
  |int i j=>obtain rfl:=f.i;cases l;exact Jf i
  |bl i j=>obtain rfl:=f.b;cases l;exact Jf i
  |str i j=>obtain rfl:=f.s;cases l;exact Jf i
  |non=>rfl
  |tup h=>
   cases f with| @tup a vs xs h1 c h3=>cases l with| @tup _ ws ys k1 k2 k3=>
   have o:vs=ws:=I.tuple_inj (.of (u _ _ h1)) (.of (u _ _ k1));subst o;exact all (Ks _) h ⟨c,h3⟩ ⟨k2,k3⟩
  |lst h=>
   cases f with| @lst a vs xs h1 c h3=>cases l with| @lst _ ws ys k1 k2 k3=>
   have o:vs=ws:=by rw[h1]at k1;cases k1;rfl
   subst o;rw[Ia (c.symm.trans k2)]at h;exact all (Ks _) h ⟨c,h3⟩ ⟨k2,k3⟩
open PySem.SeqAt in
def oY(hK:X.K=K)(I:Inv X pins σ H s)(M:Same Φ H):∀(n:Nat){d e:D}{b:Bool}{x y:V},cx n d e=some b->Rp K Φ d x->Rp K Φ e y->
  ∀(A:Around)(u v:Value),A.units+n<cLine->RelV x u->RelV y v->EqAt A s u v b/\RcAt A s u v b/\RcNeAt A s u v (!b):=by
 intro n
 induction n using Nat.strongRecOn with
 |ind n ih=>
  intro d e b x y h l o A u v hu G J
  have p:∀{m:Nat}{xs ys:List D}{vs ws:List V}{f Na:List Value}{g:Nat->Bool},m+1=n->(∀(j:Nat)(x y:D),xs[j]?=some x->ys[j]?=some y->cx m x y=some (g j))->RpL K Φ xs vs->RpL K Φ ys ws->Vals vs f->Vals ws Na->∀j (j1:j<f.toArray.size) (j2:j<Na.toArray.size),EqAt A.in1 s f.toArray[j] Na.toArray[j] (g j):=λ{m xs ys vs ws f Na g} hm Q B k2 r w j j1 j2=>by
   have l1:=Vals.length r;have l2:=Vals.length w;have m1:=B.1;have m2:=k2.1;simp only[Il]at j1 j2;obtain⟨x,hx,l⟩:=Vals.get' r j1;obtain⟨y,hy,o⟩:=Vals.get' w j2
   have i1:j<xs.length:=by omega
   have i2:j<ys.length:=by omega
   exact (ih m (by omega) (Q j _ _ (bw i1) (bw i2)) (B.2 j x _ hx (bw i1)) (k2.2 j y _ hy (bw i2)) A.in1 _ _ (by show A.units+1+m<cLine;omega) l o).1
  have F:A.units<cLine:=by omega
  cases gD h with
  |int i j=>obtain rfl:=l.i;obtain rfl:=o.i;obtain⟨t,rfl⟩:=G;obtain⟨t',rfl⟩:=J;exact⟨EqAt.int_int i t j t',RcAt.int_int i t j t',RcNeAt.int_int i t j t'⟩
  |bl i j=>obtain rfl:=l.b;obtain rfl:=o.b;cases G;cases J;exact⟨EqAt.bool_bool i j,RcAt.bool_bool i j,RcNeAt.bool_bool i j⟩
  |str i j=>obtain rfl:=l.s;obtain rfl:=o.s;obtain⟨t,rfl⟩:=G;obtain⟨t',rfl⟩:=J;exact⟨EqAt.str_str i t j t',RcAt.str_str i t j t',RcNeAt.str_str i t j t'⟩
  |non=>obtain rfl:=l.n;obtain rfl:=o.n;cases G;cases J;exact⟨EqAt.same _,RcAt.none_none,RcNeAt.none_none⟩
  | @tup n xs ys b q=>
   have S:=l;have T:=o
   cases l with| @tup a vs _ h1 B h3=>cases o with| @tup c ws _ k1 k2 k3=>
   cases G;cases J;obtain⟨g,Q,Y⟩:=jl q;obtain⟨f,r,C,_⟩:=I.sqb (b:=false) (show SqT X.K H a vs from .of (M _ _ h1));obtain⟨Na,w,E,_⟩:=I.sqb (b:=false) (show SqT X.K H c ws from .of (M _ _ k1));have l1:=Vals.length r;have l2:=Vals.length w;have P:=p rfl Q ⟨B,h3⟩ ⟨k2,k3⟩ r w;have R:=RcAt.tuples (e:=g) C E F P;have N:=RcNeAt.tuples (e:=g) C E F P
   have U:((List.range (min f.toArray.size Na.toArray.size)).all g&&f.toArray.size==Na.toArray.size)=b:=by rw[Y];simp only[Il];rw[←l1,←l2,B,k2]
   rw[U]at R N;refine⟨?_,R,N⟩;by_cases O:a=c
   ·subst O;rw[vn hK I M (n+1) h S T];exact EqAt.same _
   ·exact EqAt.of_refs O R
  | @lst n xs ys b q=>
   have S:=l;have T:=o
   cases l with| @lst a vs _ h1 B h3=>cases o with| @lst c ws _ k1 k2 k3=>
   cases G;cases J;obtain⟨f,r,C,_⟩:=I.sqb (b:=true) (show SqL X.K H a vs from SqL.of (M _ _ h1));obtain⟨Na,w,E,_⟩:=I.sqb (b:=true) (show SqL X.K H c ws from SqL.of (M _ _ k1));have l1:=Vals.length r;have l2:=Vals.length w
   have z:RcAt A s (.ref a) (.ref c) b/\RcNeAt A s (.ref a) (.ref c) (!b):=by
    by_cases Z:xs.length=ys.length
    ·rw[Ia Z]at q;obtain⟨g,Q,Y⟩:=jl q;have P:=p rfl Q ⟨B,h3⟩ ⟨k2,k3⟩ r w
     have hsz:f.toArray.size=Na.toArray.size:=by simp;omega
     have R:=RcAt.lists (e:=g) C E hsz F P;have N:=RcNeAt.lists (e:=g) C E hsz F P
     have U:(List.range f.toArray.size).all g=b:=by
      have e1:min xs.length ys.length=f.length:=by omega
      have e2:(xs.length==ys.length)=true:=by simp[Z]
      rw[Y,e1,e2,Bool.and_true,Il]
     rw[U]at R N;exact⟨R,N⟩
    ·rw[Ib Z]at q;cases q
     have hsz:(f.toArray.size != Na.toArray.size)=true:=by simp;omega
     exact⟨RcAt.lists_lengths C E hsz F,RcNeAt.lists_lengths C E hsz F⟩
   refine⟨?_,z.1,z.2⟩;by_cases O:a=c
   ·subst O;rw[vn hK I M (n+1) h S T];exact EqAt.same _
   ·exact EqAt.of_refs O z.1
end
noncomputable def nc:bW:=λx y R=>match cx 40 x y with|some b=>R (.bl b)|none=>False
noncomputable def ue:bW:=λx y R=>match cx 40 x y with|some b=>R (.bl (!b))|none=>False
section
variable{K:Frag}{X:Cx}
def RpQ.any{c H:Hp}{d:D}{v:V}(h:RpQ K c H d v)(s:Same c H):Rp K H d v:=by
 rcases h with h|⟨a,vs,ds,e,f,g,j⟩
 ·exact h.same s
 ·subst e f;exact (j.same s).lst g
def bi(t:X.A.units+64<cLine):OpD K X (compareOp .Eq) nc:=⟨λf c s w H x y u v Q I l m e=>by
 obtain⟨o,p,r,R,a,g,j,h,k⟩:=e;unfold nc at h;split at h
 ·next b hb=>exact (oY f I (Same.refl H) 40 hb (g.any a) (j.any a) X.A u v (by omega) l m).2.1 X.prog X.w _ _ ⟨.bl b,H,I,rfl,k _ o H _ h (.refl a) (.bl b)⟩
 ·exact h.elim⟩
def eG(t:X.A.units+64<cLine):OpD K X (compareOp .NotEq) ue:=⟨λf c s w H x y u v Q I l m e=>by
 obtain⟨o,p,r,R,a,g,j,h,k⟩:=e;unfold ue at h;split at h
 ·next b hb=>exact (oY f I (Same.refl H) 40 hb (g.any a) (j.any a) X.A u v (by omega) l m).2.2 X.prog X.w _ _ ⟨.bl (!b),H,I,rfl,k _ o H _ h (.refl a) (.bl _)⟩
 ·exact h.elim⟩
noncomputable def lU:D->Bool
 |.non=>true
 |_=>false
noncomputable def ur(c:Bool):bW:=λx y R=>match y with|.non=>R (.bl (lU x != c))|.bl b=>(match x with|.bl a=>R (.bl ((a==b) != c))|_=>False)|_=>False
def sZ{f H:Hp}{d:D}{v:V}(h:RpQ K f H d v):decide (v=V.non)=lU d:=by
 cases d with
 |int i=>rw[h.int];rfl
 |bl i=>rw[h.bl];rfl
 |str i=>rw[h.str];rfl
 |non=>rw[h.non];rfl
 |tup ds=>rcases h with h|⟨a, vs, ds, e, _⟩
          · cases h; rfl
          · cases e
 |lst ds=>rcases h with h|⟨a, vs, ds, e, c, _⟩
          · cases h; rfl
          · rw [c]; rfl
 |fzl ds=>rcases h with h|⟨a, vs, ds, e, _⟩
          · cases h; rfl
          · cases e
 |obj C fs=>rcases h with h|⟨a, vs, ds, e, _⟩
            · cases h; rfl
            · cases e
 |map g=>rcases h with h|⟨a, vs, ds, e, _⟩
         · cases h; rfl
         · cases e
 |exc _ _=>rcases h with h|⟨a, vs, ds, e, _⟩
           · cases h<;>rfl
           · cases e
def fW:OpD K X (compareOp .Is) (ur false):=⟨λw c s o H x y u v Q I g j p=>by
 obtain⟨m,r,t,R,l,e,f,h,k⟩:=p
 cases t with
 |non=>
  cases f.non;refine EB c s o H _ _ u v Q I g j ⟨rfl,?_⟩;rw[sZ e];have h':R (.bl (lU r != false)):=h;rw[Bool.bne_false]at h';exact k _ m H _ h' (.refl l) (.bl _)
 |bl b=>
  cases f.bl;obtain⟨a,rfl,h⟩:=gR h;cases e.bl;have h':R (.bl ((a==b) != false)):=h;rw[Bool.bne_false]at h';exact xx c s o H _ _ u v Q I g j ⟨a,b,rfl,rfl,k _ m H _ h' (.refl l) (.bl _)⟩
 |_=>exact h.elim⟩
def sG:OpD K X (compareOp .IsNot) (ur true):=⟨λw c s o H x y u v Q I g j p=>by
 obtain⟨m,r,t,R,l,e,f,h,k⟩:=p
 cases t with
 |non=>
  cases f.non;refine EZ c s o H _ _ u v Q I g j ⟨rfl,?_⟩;rw[sZ e];have h':R (.bl (lU r != true)):=h;rw[Bool.bne_true]at h';exact k _ m H _ h' (.refl l) (.bl _)
 |bl b=>
  cases f.bl;obtain⟨a,rfl,h⟩:=gR h;cases e.bl;have h':R (.bl ((a==b) != true)):=h;rw[Bool.bne_true]at h';exact B4 c s o H _ _ u v Q I g j ⟨a,b,rfl,rfl,k _ m H _ h' (.refl l) (.bl _)⟩
 |_=>exact h.elim⟩
end
end L2
namespace HT
open PySem PySem.Spec PyProof.Rows
def getItem_tuple_all{prog:Program}{w:World}{A:Around}{E:Value->Shared->Prop}{s:Shared}{t sl:Addr}{a:Array Value}{l m:Value}{lo f:Option Int}{Q:Value->Shared->Prop}(e:IsTup s.heap t a)(g:s.heap.IsSliceOf sl l m .none)(pl:IsPart l lo)(v:IsPart m f)
  (j:sIx a.size 0 lo=0/\sIx a.size a.size f=a.size) (h:Q (.ref t) s):wpAny (model prog w) A (getItem (.ref t) (.ref sl)) Q E s:=by
 obtain⟨os,o,p,x⟩:=id g;have u:s.TypeIs (.ref sl) "slice":=⟨os,o,p⟩;unfold getItem
 try with_reducible refine JT ?_
 first|refine HZ (Io ?_)|skip
 refine HZ (wpAny_sequenceKey e.typeIs (by decide) ?_)
 refine HZ (JV (name:=Str.ofString "__getitem__") e.typeIs JB
  (Ku JB e.typeIs entry_tuple_getitem ?_ (args_tuple_getitem _ _)))
 show wpAny _ _ (Builtin.Tuple.tupleItemsOf (.ref t) >>= _) _ _ s;refine HZ (tupleItemsOf_ e ?_);refine HZ (Me u ?_);rw[Ia (by decide)];refine HZ (sD g pl v ?_)
 have r:(((sIx a.size 0 lo:Nat):Int)==0&&(1:Int)==1&&(sIx a.size a.size f-sIx a.size 0 lo)==a.size)=true:=by rw[j.1,j.2];simp
 show wpAny _ _ (if (((sIx a.size 0 lo:Nat):Int)==0&&(1:Int)==1&&(sIx a.size a.size f-sIx a.size 0 lo)==a.size)=true then _ else _) _ _ s;rw[Ia r];refine HZ (show wpAny _ _ (typeOf (.ref t) >>= λc=>pure (c==.type "tuple")) _ _ s from HZ (Me e.typeIs (Io ?_)));rw[Ia (by decide)];exact HZ (wpAny_rule (Io ⟨_,rfl,Io h⟩))
end HT
namespace L2
open PySem PySem.Spec PyProof.Rows
section
variable{K:Frag}{X:Cx}{e a b c:Expr}{es:List Expr}{pos p2:Pos}{t ta tb:TD}{tl:aX}
noncomputable def nB:bW:=λx y R=>match y with
 |.int i=>(match x with
  |.lst ds=>∃d,bK ds i=some d/\R d
  |.tup ds=>∃d,bK ds i=some d/\R d
  |.fzl ds=>∃d,bK ds i=some d/\R d
  |.str z=>z.length<=sizeLine/\∃c,bK z.cps.toList i=some c/\R (.str ⟨#[c]⟩)
  |_=>False)
 |_=>False
def qz{g:Hp}{ds:List D}{vs:List V}{d:D}{i:Int}(h:RpL K g ds vs)(e:bK ds i=some d):∃v,bK vs i=some v/\Rp K g d v:=by
 unfold bK at e ⊢;rw[h.1]
 cases f:ei ds.length i with
 |none=>rw[f]at e;cases e
 |some j=>
  rw[f,Option.bind_some]at e;rw[Option.bind_some];exact h.at e
def uo(N:X.K=K):jK X (i8 K nB):=by
 intro g f j s M H x y v u Q I F G ⟨J,O,T,R,o,E,S,h,k⟩ C;obtain⟨i,rfl,h⟩:=iy h;cases S.int
 cases O with
 |lst ds=>
  obtain⟨d,l,m⟩:=h;obtain⟨a,vs,rfl,A,B⟩:=E.lst o;obtain⟨w,r,p⟩:=qz B l;exact tw g f j s M H _ _ v u Q I F G ⟨a,vs,i,w,rfl,rfl,.of A,r,k _ J H _ m (.refl o) p⟩ C
 |tup ds=>
  obtain⟨d,l,m⟩:=h;obtain⟨a,vs,rfl,A,_,B⟩:=E.tup o;obtain⟨w,r,p⟩:=qz B l;exact B6 g f j s M H _ _ v u Q I F G ⟨a,vs,i,w,rfl,rfl,N▸A,r,k _ J H _ m (.refl o) p⟩ C
 |fzl ds=>
  obtain⟨d,l,m⟩:=h;obtain⟨a,vs,rfl,A,B⟩:=E.fzl o;obtain⟨w,r,p⟩:=qz B l;exact tw g f j s M H _ _ v u Q I F G ⟨a,vs,i,w,rfl,rfl,N▸A,r,k _ J H _ m (.refl o) p⟩ C
 |str z=>
  obtain⟨P,c,l,m⟩:=h;cases E.str;exact zV g f j s M H _ _ v u Q I F G ⟨z,i,c,rfl,rfl,P,l,k _ J H _ m (.refl o) (.str _)⟩ C
 |_=>exact h.elim
def cu(g:PQ K X a ta)(h:PQ K X b tb)(j:oo b):PD K X (.Subscript a b pos) (gG nB ta tb):=
 ⟨λf=>(vH (uo f) (g.pe f) (h.pe f) j).imp λ_ _ _=>ls⟩
noncomputable abbrev iH:=bT->(Option Int->Prop)->Prop
def av{i:Int}{j:Tok}{p:Pos}(f:PQ K X a ta):PD K X (.Subscript a (.Constant (.int i) j p) pos) (gG nB ta (dC (.int i))):=cu f (PD.q ah) λ_ _=>rfl
noncomputable def lO(K:Frag)(t:iH):TO:=λl H Q=>∃j h ρ R,EnvD K j h H l ρ/\t ρ R/\∀o f g,R o->Gr h H f g->Q o g
structure POD(K:Frag)(X:Cx)(e:Option Expr)(t:iH):Prop where po:X.K=K->PO X e (lO K t)
noncomputable def Bw:iH:=λ_ R=>R none
noncomputable def Dt(t:TD):iH:=λρ R=>t ρ λd=>match d with|.int i=>R (some i)|_=>False
def PO.imp{o:Option Expr}{t t':TO}(h:PO X o t)(k:∀g H Q,t' g H Q->t g H Q):PO X o t':=λf s g H Q I j=>h f s g H Q I (k g H Q j)
def fM:POD K X none Bw:=⟨λ_=>po_none.imp λj H Q f=>by obtain⟨h,g,ρ,R,E,t,k⟩:=f;exact k none g H t (.refl E.fz)⟩
def eQ(h:PQ K X e t):POD K X (some e) (Dt t):=⟨λo=>(Di (h.pe o)).imp λw H Q m=>by obtain⟨j,u,ρ,R,E,t,k⟩:=m;exact⟨j,u,ρ,_,E,t,λd f l v r g p=>by
 obtain⟨i,rfl,r⟩:=iy r
 exact⟨i,p.int,k _ f l r g⟩⟩⟩
variable{lo hi:Option Expr}{to tp:iH}
noncomputable def uC(K:Frag):V->Option Int->Option Int->Hp->VK->Prop:=λx lo hi H Q=>∃a xs,x=.ref a/\SqT K H a xs/\(HT.sIx xs.length 0 lo=0/\HT.sIx xs.length xs.length hi=xs.length)/\Q (.ref a) H
def sl_all:SlR X (uC X.K):=by
 intro j s B H x v z A lo hi sl Q I w m pl u h;obtain⟨a,xs,rfl,p,o,q⟩:=h;cases w;obtain⟨l,r,g,y⟩:=I.tuple p
 have f:l.toArray.size=xs.length:=by rw[Il];exact r.length.symm
 refine⟨"tuple",_,JB.lookup,g.typeIs,?_⟩;exact HT.getItem_tuple_all g m pl u (by rw[f];exact o) ⟨.ref a,H,I,rfl,q⟩
def xr{g:Type}{xs:List g}{l h:Option Int}(f:HT.sIx xs.length 0 l=0/\HT.sIx xs.length xs.length h=xs.length):br xs l h=xs:=by unfold br;rw[f.1,f.2,K5,Nat.sub_zero,Kf]
noncomputable def Gb(x:D)(l h:Option Int)(R:D->Prop):Prop:=match x with
 |.lst ds=>NF (br ds l h) λf=>R (.lst f)
 |.fzl ds=>NF (br ds l h) λf=>R (.lst f)
 |.tup ds=>NF (br ds l h) λf=>R (.tup f)
 |.str z=>z.length<=sizeLine/\NF (fi z l h) λy=>R (.str y)
 |_=>False
noncomputable def yc(t:TD)(to tp:iH):TD:=λρ R=>t ρ λx=>to ρ λl=>tp ρ λh=>Gb x l h R
def fF(M:PQ K X a ta)(O:POD K X lo to)(N:POD K X hi tp):PD K X (.Subscript a (.Slice lo hi none p2) pos) (yc ta to tp):=
 ⟨λu=>(FA (u▸sl_list.or (sl_tup.or (sl_all.or zN)):SlR X (λx lo hi H Q=>r8 K x lo hi H Q\/uS K x lo hi H Q\/uC K x lo hi H Q\/uP x lo hi H Q)) (M.pe u) (O.po u) (N.po u)).imp λσ H Q I=>by obtain⟨v,Y,ρ,R,E,t,k⟩:=I;exact
  ⟨v,Y,ρ,_,E,t,λJ B H1 x T w S=>⟨v,B,ρ,_,E.gr w,T,λl C H2 U y=>⟨v,C,ρ,_,(E.gr w).gr y,U,λh Z H3 m F=>by
   have g:=(w.trans y).trans F;have r:=S.gr (y.trans F)
   cases J with
   |lst ds=>
    obtain⟨a,vs,rfl,o,j⟩:=r.lst g.s;exact .inl ⟨a,vs,rfl,.of o,λp f=>k _ _ _ _ m.get (g.trans (.new g.s f _)) (((j.cut l h).same (cH (g.s.free f) _)).lst bg)⟩
   |fzl ds=>
    obtain⟨a,vs,rfl,o,j⟩:=r.fzl g.s;exact .inl ⟨a,vs,rfl,o,λp f=>k _ _ _ _ m.get (g.trans (.new g.s f _)) (((j.cut l h).same (cH (g.s.free f) _)).lst bg)⟩
   |tup ds=>
    obtain⟨a,vs,rfl,o,P,j⟩:=r.tup g.s;by_cases A:HT.sIx vs.length 0 l=0/\HT.sIx vs.length vs.length h=vs.length
    ·refine .inr (.inr (.inl ⟨a,vs,rfl,o,A,?_⟩));have e:br ds l h=ds:=xr (by rw[←j.1];exact A);have G:=m.get;rw[e]at G;exact k _ _ _ _ G g (j.tup P)
    ·exact .inr (.inl ⟨a,vs,rfl,o,A,λp f=>k _ _ _ _ m.get (g.trans (.new g.s f _)) (((j.cut l h).same (cH (g.s.free f) _)).tup bg)⟩)
   |str z=>
    cases r.str;exact .inr (.inr (.inr ⟨z,rfl,m.1,k _ _ _ _ m.2.get g (.str _)⟩))
   |_=>exact m.elim⟩⟩⟩⟩
noncomputable def ze(ta tb:TD):aX:=λρ R=>ta ρ λx=>tb ρ λy=>match x,y with|.lst xs,.int k=>(-(2^63)<=k/\k<2^63/\xs.length*k.toNat<=sizeLine)/\NF (List.replicate k.toNat xs).flatten R|_,_=>False
def wC(F:PQ K X a ta)(G:PQ K X b tb):PF K X (.BinOp a .Mult b pos) (ze ta tb):=
 ⟨λw=>(oE vh (F.pe w) (G.pe w)).imp λT H Q z=>by obtain⟨o,N,ρ,R,E,t,k⟩:=z;exact⟨o,N,ρ,_,E,t,λA m P x M r I=>⟨o,m,ρ,_,E.gr r,M,λB O S y f u J=>by
  have g:=r.trans u;have l:=I.gr u
  cases A with
  |lst xs=>cases B with
   |int j=>
    obtain⟨a,vs,rfl,C,v⟩:=l.lst g.s;cases J.int;exact⟨a,j,vs,rfl,rfl,C,f.1.1,f.1.2.1,by rw[v.1];exact f.1.2.2,λp h=>k _ _ _ p _ f.2.get (g.trans (.fresh g.s h _)) (g.h.free h) (g.s.free h) bg (v.rep _)⟩
   |_=>exact f.elim
  |_=>exact f.elim⟩⟩⟩
noncomputable abbrev b9:=List D->(D->Prop)->Prop
noncomputable def jh(K:Frag)(sp:b9):Sp:=λvs H Q _=>∃g ds R,Same g H/\TabF K g/\RpL K g ds vs/\sp ds R/\∀d f h v,R d->Gr g H f h->Rp K f d v->Q v h
noncomputable def nz(sp:b9)(t:aX):TD:=λρ R=>t ρ λds=>sp ds R
variable{CX:cq}{k:Nat}{f:Addr}{fd:FuncData}{ps:List Str}{sp:b9}{x:Str}{p:Pos}{E:XK}
def Ho(F:FnOk X.prog X.w X.K X.mg X.base CX k f fd ps (jh K sp))(J:Room k X.A)(C:Gl X x)(I:X.mg x=some (.ref f))(G:keepIn X.K (.ref f)=true)(A:Binds X.K fd ps [])(M:ie CX X E)
  (z:PAD K X (e::es) tl) (B:starEach (e::es) X.env=(false,eval e X.env)::starEach es X.env) (w:(backTo pos (starEach es X.env)).any (·.1)=false) (u:(x==("__debug__":Str))=false:=by decide) :
  PD K X (.Call (.Name x p) (e::es) [] pos) (nz sp tl):=
 ⟨λy=>(uR F J C I G A .nil M (z.pa y) u B w).imp λT H Q o=>by obtain⟨m,P,ρ,R,E,t,k⟩:=o;exact⟨m,P,ρ,_,E,t,λds j S vs r g rl _=>⟨j,ds,R,g.s,E.tb.same g.f,by rw[IW];exact rl,r,λd h l v N g' O=>k d h l v N (g.trans g') O⟩⟩⟩
noncomputable def kK(K:Frag)(g H:Hp)(ds:List D)(vs:List V):Prop:=vs.length=ds.length/\∀(i:Nat)(v:V)(d:D),vs[i]?=some v->ds[i]?=some d->RpQ K g H d v
noncomputable def FU(K:Frag)(t:aX):TA:=λm H Q=>∃l j ρ R,EnvD K l j H m ρ/\t ρ R/\∀ds g h vs,R ds->Gr j H g h->kK K g h ds vs->Q vs h
structure PAQ(K:Frag)(X:Cx)(es:List Expr)(t:aX):Prop where pa:X.K=K->PA X es (FU K t)
def bd:PAQ K X [] pk:=⟨λ_=>pa_nil.imp λm H Q g=>by obtain⟨l,j,ρ,R,E,t,k⟩:=g;exact k [] j H [] t (.refl E.fz) ⟨rfl,λi v d h _=>by simp at h⟩⟩
def be(A:PQ K X e t)(B:PAQ K X es tl)(C:starEach (e::es) X.env=(false,eval e X.env)::starEach es X.env):PAQ K X (e::es) (qw t tl):=
 ⟨λo=>(dA (A.pe o) (B.pa o) C).imp λM H Q z=>by obtain⟨l,I,ρ,R,E,t,k⟩:=z;exact⟨l,I,ρ,_,E,t,λd h J v r g G=>⟨l,h,ρ,_,E.gr g,r,λds j y vs F m rl=>
  k _ j y _ F (g.trans m) ⟨by simp[rl.1],λi u d w hd=>by
   cases i with
   |zero=>cases w;cases hd;exact G.gr m
   |succ i=>exact rl.2 i u d w hd⟩⟩⟩⟩
noncomputable def lC(K:Frag)(r:b9):List V->Hp->VK->Prop:=λvs H Q=>∃h ds R,Same h H/\kK K h H ds vs/\r ds R/\∀d g j v,R d->Gr h H g j->Rp K g d v->Q v j
structure CallD(K:Frag)(X:Cx)(f:Value)(r:b9):Prop where c:X.K=K->eU X f (lC K r)
def bE{id:String}{r:b9}(A:CallD K X (.builtin id) r)(C:Gl X x)(F:X.mg x=none)(I:bootBuiltins x=some (.builtin id))(z:PAQ K X (e::es) tl)
  (B:starEach (e::es) X.env=(false,eval e X.env)::starEach es X.env) (y:(backTo pos (starEach es X.env)).any (·.1)=false) (G:x≠"__name__":=by decide) (w:(x==("__debug__":Str))=false:=by decide):PD K X (.Call (.Name x p) (e::es) [] pos) (nz r tl):=
 ⟨λl=>(pI (A.c l) C F I (z.pa l) G w B y).imp λP H Q u=>by obtain⟨o,N,ρ,R,E,t,k⟩:=u;exact⟨o,N,ρ,_,E,t,λds j O vs r g rl=>⟨j,ds,R,g.s,rl,r,λd h m v J g' M=>k d h m v J (g.trans g') M⟩⟩⟩
def cL{T:String}{r:b9}(A:CallD K X (.type T) r)(C:Gl X x)(F:X.mg x=none)(I:bootBuiltins x=some (.type T))(z:PAQ K X (e::es) tl)
  (B:starEach (e::es) X.env=(false,eval e X.env)::starEach es X.env) (y:(backTo pos (starEach es X.env)).any (·.1)=false) (G:x≠"__name__":=by decide) (w:(x==("__debug__":Str))=false:=by decide):PD K X (.Call (.Name x p) (e::es) [] pos) (nz r tl):=
 ⟨λl=>(pY (A.c l) C F I (z.pa l) G w B y).imp λP H Q u=>by obtain⟨o,N,ρ,R,E,t,k⟩:=u;exact⟨o,N,ρ,_,E,t,λds j O vs r g rl=>⟨j,ds,R,g.s,rl,r,λd h m v J g' M=>k d h m v J (g.trans g') M⟩⟩⟩
def eW{j H:Hp}{d:D}{vs:List V}(h:kK K j H [d] vs):∃v,vs=[v]/\RpQ K j H d v:=by
 obtain⟨l,g⟩:=h
 match vs,l,g with
 | [v],_,g=>exact⟨v,rfl,g 0 v d rfl rfl⟩
def AE{j H:Hp}{d e:D}{vs:List V}(h:kK K j H [d,e] vs):∃v w,vs=[v,w]/\RpQ K j H d v/\RpQ K j H e w:=by
 obtain⟨l,g⟩:=h
 match vs,l,g with
 | [v,w],_,g=>exact⟨v,w,rfl,g 0 v d rfl rfl,g 1 w e rfl rfl⟩
noncomputable def yA:b9:=λds R=>match ds with| [.lst xs]=>R (.int xs.length)| [.tup xs]=>R (.int xs.length)| [.fzl xs]=>R (.int xs.length)| [.str z]=>z.length<=sizeLine/\R (.int z.length)|_=>False
def bG:CallD K X (.builtin "len") yA:=⟨λA g s y H xs us Q I u B=>by
 obtain⟨w,ds,R,j,o,h,k⟩:=B
 match ds,h with
 | [.lst xs],h=>
  obtain⟨v,rfl,r⟩:=eW o;obtain⟨a,vs,rfl,l,m⟩:=r.lst j;exact qC g s y H _ us Q I u ⟨a,vs,rfl,.inl (.of l),by rw[m.1];exact k _ w H _ h (.refl j) (.int _)⟩
 | [.tup xs],h=>
  obtain⟨v,rfl,r⟩:=eW o;obtain⟨a,vs,rfl,l,_,m⟩:=r.tup j;exact qC g s y H _ us Q I u ⟨a,vs,rfl,.inr (A▸l),by rw[m.1];exact k _ w H _ h (.refl j) (.int _)⟩
 | [.fzl xs],h=>
  obtain⟨v,rfl,r⟩:=eW o;obtain⟨a,vs,rfl,l,m⟩:=r.fzl j;exact qC g s y H _ us Q I u ⟨a,vs,rfl,.inl (A▸l),by rw[m.1];exact k _ w H _ h (.refl j) (.int _)⟩
 | [.str z],h=>
  obtain⟨v,rfl,r⟩:=eW o;cases r.str
  exact wD g s y H _ us Q I u ⟨z,rfl,h.1,k _ w H _ h.2 (.refl j) (.int _)⟩⟩
noncomputable def DY:b9:=λds R=>match ds with| [.int i,.int j]=>R (.int (if j>i then j else i))|_=>False
def Dz(m:X.calm=true):CallD K X (.builtin "max") DY:=⟨λC g s B H xs us Q I y l=>by
 obtain⟨A,ds,R,z,o,h,k⟩:=l
 match ds,h with
 | [.int i,.int j],h=>
  obtain⟨v,w,rfl,r,u⟩:=AE o;cases r.int;cases u.int
  exact A4 m g s B H _ us Q I y ⟨i,j,rfl,k _ A H _ h (.refl z) (.int _)⟩⟩
def xT{j:Hp}{bs:List Bool}{vs:List V}(h:RpL K j (bs.map D.bl) vs):vs=bs.map V.bl:=by
 refine Jo λi=>?_;rw[Ii]
 cases e:bs[i]? with
 |none=>
  have:=JR.mp e;rw[IX (by rw[h.1,HV];exact this)];rfl
 |some n=>
  obtain⟨v,g,r⟩:=h.at (i:=i) (d:=.bl n) (by rw[Ii,e];rfl);obtain rfl:=r.b;rw[g];rfl
def RpQ.sqb{j H:Hp}{d:D}{v:V}{ds:List D}(s:Same j H)(h:RpQ K j H d v)(e:gh d=some ds):∃(q:Bool)(a:Addr)(vs:List V),v=.ref a/\SqB K q H a vs/\RpL K j ds vs:=by
 obtain⟨a,vs,l,g,m⟩:=h.seq s e;rcases g with g|g
 ·exact⟨true,a,vs,l,g,m⟩
 ·exact⟨false,a,vs,l,g,m⟩
noncomputable def Bi(f:List Bool->Bool):b9:=λds R=>match ds with| [d]=>∃bs:List Bool,gh d=some (bs.map D.bl)/\R (.bl (f bs))|_=>False
def vW(u:X.calm=true):CallD K X (.builtin "all") (Bi λbs=>bs.all id):=⟨λo g s B H xs us Q I z m=>by
 obtain⟨A,ds,R,l,w,h,k⟩:=m
 match ds,h with
 | [d],⟨ns,e,h⟩=>
  obtain⟨v,rfl,r⟩:=eW w;obtain⟨q,a,vs,rfl,j,y⟩:=r.sqb l e;rw[xT y]at j
  exact HD q u g s B H _ us Q I z ⟨a,ns,rfl,o▸j,k _ A H _ h (.refl l) (.bl _)⟩⟩
noncomputable def Bt:b9:=λds R=>match ds with| [.lst xs]=>R (.tup xs)| [.tup xs]=>R (.tup xs)| [.fzl xs]=>R (.tup xs)|_=>False
def fN:CallD K X (.type "tuple") Bt:=⟨λz g s y H xs us Q I w A=>by
 obtain⟨C,ds,R,j,u,h,k⟩:=A
 match ds,h with
 | [.lst xs],h=>
  obtain⟨v,rfl,r⟩:=eW u;obtain⟨a,vs,rfl,m,o⟩:=r.lst j;exact qm g s y H _ us Q I w ⟨a,vs,rfl,.inl ⟨.of m,λp l=>k _ _ _ _ h (.new j l _) ((o.same (cH (j.free l) _)).tup bg)⟩⟩
 | [.fzl xs],h=>
  obtain⟨v,rfl,r⟩:=eW u;obtain⟨a,vs,rfl,m,o⟩:=r.fzl j;exact qm g s y H _ us Q I w ⟨a,vs,rfl,.inl ⟨z▸m,λp l=>k _ _ _ _ h (.new j l _) ((o.same (cH (j.free l) _)).tup bg)⟩⟩
 | [.tup xs],h=>
  obtain⟨v,rfl,r⟩:=eW u;obtain⟨a,vs,rfl,m,B,o⟩:=r.tup j
  exact qm g s y H _ us Q I w ⟨a,vs,rfl,.inr ⟨z▸m,k _ C H _ h (.refl j) (o.tup B)⟩⟩⟩
noncomputable def yK:b9:=λds R=>match ds with| [.int i]=>R (.int i)| [.bl b]=>R (.int (if b then 1 else 0))|_=>False
def vZ:CallD K X (.type "int") yK:=⟨λy g s u H xs us Q I l w=>by
 obtain⟨o,ds,R,m,j,h,k⟩:=w
 match ds,h with
 | [.int i],h=>
  obtain⟨v,rfl,r⟩:=eW j;cases r.int;exact vc g s u H _ us Q I l (.inl ⟨i,rfl,k _ o H _ h (.refl m) (.int _)⟩)
 | [.bl b],h=>
  obtain⟨v,rfl,r⟩:=eW j;cases r.bl
  exact vc g s u H _ us Q I l (.inr ⟨b,rfl,k _ o H _ h (.refl m) (.int _)⟩)⟩
noncomputable def vL(d:D)(T:String):Option Bool:=match d with
 |.int _=>if T="int" then some true else if T="bool" then some false else if T="tuple" then some false else if T="str" then some false else none
 |.bl _=>if T="int" then some true else if T="bool" then some true else if T="tuple" then some false else none
 |.str _=>if T="str" then some true else if T="tuple" then some false else none
 |.tup _=>if T="tuple" then some true else if T="int" then some false else none
 |.lst _=>if T="tuple" then some false else if T="list" then some true else none
 |_=>none
end
structure SteadyD(K:Frag)(J:It)(Φ:Hp)(ds:List D):Prop where
 go:∀i H,Same Φ H->i<ds.length->J.go i H
 yl:∀i Φ2 H x H2 d,Same Φ Φ2->Same Φ2 H->ds[i]?=some d->J.yld i H x H2->∃Φ3,Gr Φ2 H Φ3 H2/\Rp K Φ3 d x
 stop:∀H,Same Φ H->J.stop ds.length H
section
variable{K:Frag}{Φ:Hp}{ds es:List D}{vs ws:List V}{a:Addr}
def EE(h:SqL K Φ a vs)(r:RpL K Φ ds vs):SteadyD K (qk K a) Φ ds:=
 ⟨λi H s g=>⟨vs,vs[i]'(by rw[r.1];exact g),s.seq h,bw _⟩,λi c H x j d f s hd y=>by
  obtain⟨e,y⟩:=y;subst e
  exact⟨c,.refl s,(r.2 i x d (y vs ((f.trans s).seq h)) hd).same f⟩,λH s=>⟨vs,s.seq h,by rw[r.1];exact Ih _⟩⟩
def C6(h:SqT K Φ a vs)(r:RpL K Φ ds vs):SteadyD K (qD K a) Φ ds:=
 ⟨λi H s g=>⟨vs,vs[i]'(by rw[r.1];exact g),s.sqt h,bw _⟩,λi c H x j d f s hd y=>by
  obtain⟨e,y⟩:=y;subst e
  exact⟨c,.refl s,(r.2 i x d (y vs ((f.trans s).sqt h)) hd).same f⟩,λH s=>⟨vs,s.sqt h,by rw[r.1];exact Ih _⟩⟩
noncomputable def fk(lo:Int)(n:Nat):List D:=(List.range n).map λi=>D.int (lo+(i:Nat))
def gC(lo:Int)(n:Nat):(fk lo n).length=n:=by unfold fk;simp
def jq{lo:Int}{n i:Nat}{d:D}(h:(fk lo n)[i]?=some d):i<n/\d=.int (lo+(i:Nat)):=by
 have c:i<n:=by have:=ba h;rwa [gC]at this
 unfold fk at h;rw[Ii,J1 c]at h;cases h;exact⟨c,rfl⟩
def sH{lo:Int}{n:Nat}:SteadyD K (nE lo n) Φ (fk lo n):=
 ⟨λi H s f=>by rw[gC]at f;exact f,λi c H x g d h s hd y=>by
  obtain⟨e,y⟩:=y;subst e y;rw[(jq hd).2]
  exact⟨c,.refl s,.int _⟩,λH s=>by rw[gC];exact Ih n⟩
def Rp.pair{H:Hp}{t:Addr}{d e:D}{x y:V}(h:H t=some (.tup [x,y]))(c:Rp K H d x)(f:Rp K H e y):Rp K H (.tup [d,e]) (.ref t):=(RpL.cons c (.one f)).tup h
noncomputable def eT(ds es:List D):List D:=List.zipWith (λx y=>.tup [x,y]) ds es
def nN(ds es:List D):(eT ds es).length=min ds.length es.length:=by unfold eT;simp
def oX{i:Nat}{d:D}(h:(eT ds es)[i]?=some d):∃x y,ds[i]?=some x/\es[i]?=some y/\d=.tup [x,y]:=by
 unfold eT at h;rw[MI]at h
 cases e:ds[i]? with
 |none=>rw[e]at h;cases h
 |some x=>
  cases c:es[i]? with
  |none=>rw[e,c]at h;cases h
  |some y=>rw[e,c]at h;cases h;exact⟨x,y,rfl,rfl,rfl⟩
def wW{l m:Bool}{a1 a2:Addr}(c:SqB K l Φ a1 vs)(f:SqB K m Φ a2 ws)(g:RpL K Φ ds vs)(h:RpL K Φ es ws):SteadyD K (qJ K l a1 m a2) Φ (eT ds es):=
 ⟨λi H s w=>by
  rw[nN]at w
  have B:i<vs.length:=by rw[g.1];omega
  have C:i<ws.length:=by rw[h.1];omega
  exact⟨vs,ws,vs[i],ws[i],SqB.same s c,SqB.same s f,bw B,bw C⟩,λi G H x I d j s hd y=>by
  obtain⟨t,u,v,o,e,r,E,F⟩:=y;subst e r;obtain⟨p,q,z,A,rfl⟩:=oX hd;have sn:=j.trans (cH (s.free o) (.tup [u,v]))
  exact⟨_,.new s o _,.pair bg ((g.2 i u p (E vs (SqB.same (j.trans s) c)) z).same sn) ((h.2 i v q (F ws (SqB.same (j.trans s) f)) A).same sn)⟩,λH s=>by
  rw[nN]
  exact⟨vs,ws,SqB.same s c,SqB.same s f,by rw[g.1,h.1];omega⟩⟩
end
noncomputable def lI(K:Frag)(t:aX):TI:=λh H g=>∃f e ρ R,EnvD K f e H h ρ/\t ρ R/\∀ds a c J,R ds->Gr e H a c->SteadyD K J a ds->g J c
structure PID(K:Frag)(X:Cx)(tg e:Expr)(t:aX):Prop where pi:X.K=K->PI X tg e (lI K t)
def PI.imp{X:Cx}{f e:Expr}{t t':TI}(h:PI X f e t)(k:∀c H R,t' c H R->t c H R):PI X f e t':=λa s c H R I g=>h a s c H R I (k c H R g)
section
variable{K:Frag}{X:Cx}{tg e a:Expr}{es:List Expr}{pos p:Pos}{t:TD}{tl:aX}
def vy{es:List Expr}{k:Nat}{t:dq}{n:Nat}(f:X.K=K)(g:X.calm=true)(h:PGs X es t)(j:(assignEach es X.env).length=n)(c:(assignEach es X.env).findIdx? (·.1)=none):PG X (.Tuple es k pos) (oK K n t):=f▸Co g h j c
def uV{es:List Expr}{k:Nat}{t:dq}{n:Nat}(f:X.K=K)(g:X.calm=true)(h:PGs X es t)(j:(assignEach es X.env).length=n)(c:(assignEach es X.env).findIdx? (·.1)=none):PG X (.Tuple es k pos) (oS K n t):=f▸GT g h j c
noncomputable def Eu(t:aX):aX:=λρ R=>t ρ λds=>match ds with| [.int j]=>(-(2^62)<=j/\j<2^62)/\R (fk 0 j.toNat)|_=>False
def RpL.one_inv{f:Hp}{d:D}{vs:List V}(h:RpL K f [d] vs):∃v,vs=[v]/\Rp K f d v:=by
 obtain⟨g,c⟩:=h
 match vs,g,c with
 | [v],_,c=>exact⟨v,rfl,c 0 v d rfl rfl⟩
def RpL.two_inv{f:Hp}{d e:D}{vs:List V}(h:RpL K f [d,e] vs):∃v w,vs=[v,w]/\Rp K f d v/\Rp K f e w:=by
 obtain⟨g,c⟩:=h
 match vs,g,c with
 | [v,w],_,c=>exact⟨v,w,rfl,c 0 v d rfl rfl,c 1 w e rfl rfl⟩
def Et(u:Gl X "range")(w:X.mg "range"=none)(o:PAD K X [a] tl)(x:starEach [a] X.env=[(false,eval a X.env)]:=by rfl):PID K X tg (.Call (.Name "range" p) [a] [] pos) (Eu tl):=
 ⟨λm=>(uz u w (o.pa m) x).imp λC H B l=>by obtain⟨f,A,ρ,R,E,t,k⟩:=l;exact⟨f,A,ρ,_,E,t,λds c h vs r g z _=>by
  match ds,r with
  | [.int j],r=>
   obtain⟨v,rfl,y⟩:=z.one_inv;obtain rfl:=y.i
   exact⟨j,rfl,r.1.1,r.1.2,k _ c h _ r.2 g sH⟩⟩⟩
end
noncomputable abbrev cP:=D->bT->(bT->Prop)->Prop
noncomputable abbrev eN:=List D->bT->(bT->Prop)->Prop
noncomputable def lG(K:Frag)(g:cP):TG:=λv h H Q=>∃f e ρ d R,EnvD K f e H h ρ/\Rp K e d v/\g d ρ R/\∀a c,R a->EnvD K f e H c a->Q c H
noncomputable def DH(K:Frag)(g:eN):dq:=λvs h H Q=>∃f e ρ ds R,EnvD K f e H h ρ/\RpL K e ds vs/\g ds ρ R/\∀a c,R a->EnvD K f e H c a->Q c H
structure PGD(K:Frag)(X:Cx)(e:Expr)(g:cP):Prop where pg:X.K=K->PG X e (lG K g)
structure PGDs(K:Frag)(X:Cx)(es:List Expr)(g:eN):Prop where pg:X.K=K->PGs X es (DH K g)
def PG.imp{X:Cx}{e:Expr}{t t':TG}(h:PG X e t)(k:∀v c H Q,t' v c H Q->t v c H Q):PG X e t':=λa s c H v u Q I r f=>h a s c H v u Q I r (k v c H Q f)
def PGs.imp{X:Cx}{e:List Expr}{t t':dq}(h:PGs X e t)(k:∀v c H Q,t' v c H Q->t v c H Q):PGs X e t':=λa s c H v u Q I r f=>h a s c H v u Q I r (k v c H Q f)
section
variable{K:Frag}{X:Cx}{e:Expr}{es:List Expr}{pos:Pos}{g:cP}{gs:eN}
noncomputable def oC(i:Nat):cP:=λd ρ R=>R (ρ.set i (some (.v d)))
def dI{i:Nat}{x:Str}(c:X.N.Nodup)(h:X.N[i]?=some x)(j:gb X.env.scope x)(f:X.fn x=true\/X.env.scope.names.lookup x=some .local:=by nofun):PGD K X (.Name x pos) (oC i):=
 ⟨λ_=>(sq c h j f).imp λv o H Q a=>by obtain⟨l,m,ρ,d,R,E,r,g,k⟩:=a;exact k _ _ g (E.set r i)⟩
noncomputable def p7:eN:=λds ρ R=>match ds with| []=>R ρ|_=>False
noncomputable def lN(t:cP)(u:eN):eN:=λds ρ R=>match ds with|d::r=>t d ρ λa=>u r a R| []=>False
def v2:PGDs K X [] p7:=⟨λ_=>pgs_nil.imp λv h H Q a=>by
 obtain⟨c,f,ρ,ds,R,E,r,g,k⟩:=a
 cases ds with
 |nil=>exact⟨Jx.mp r.1,k _ _ g E⟩
 |cons=>exact g.elim⟩
def nL(o:PGD K X e g)(p:PGDs K X es gs)(w:(assignEach (e::es) X.env).map (·.2)=assign e X.env::(assignEach es X.env).map (·.2):=by rfl):PGDs K X (e::es) (lN g gs):=
 ⟨λh=>(ve (o.pg h) (p.pg h) w).imp λvs z H Q m=>by
  obtain⟨c,j,ρ,ds,R,E,r,g,k⟩:=m
  cases ds with
  |nil=>exact g.elim
  |cons d ds=>
   cases vs with
   |nil=>exact absurd r.1 (by simp)
   |cons v vs=>
    refine⟨v,vs,rfl,c,j,ρ,d,_,E,r.2 0 v d rfl rfl,g,λa y g' l=>⟨c,j,a,ds,R,l,⟨by have:=r.1;simpa using this,λi u f x t=>r.2 (i+1) u f x t⟩,g',k⟩⟩⟩
end
noncomputable def dZ(cap:List (Option Nat))(ρ:bT):bT:=cap.map λo=>o.bind λi=>(ρ[i]?).join
def AG{a:Type}{o:Option (Option a)}{x:a}(h:o.join=some x):o=some (some x):=by
 cases o with
 |none=>cases h
 |some o=>cases o with
  |none=>cases h
  |some y=>cases h;rfl
def iR{a:Type}{cap:List (Option Nat)}{l:List (Option a)}{i:Nat}{x:a}(h:(cap.map λo=>o.bind λi=>(l[i]?).join)[i]?=some (some x)):∃j,cap[i]?=some (some j)/\l[j]?=some (some x):=by
 rw[Ii]at h
 cases e:cap[i]? with
 |none=>rw[e]at h;cases h
 |some o=>
  rw[e]at h
  cases o with
  |none=>cases h
  |some j=>exact⟨j,rfl,AG (by simpa using h)⟩
def EnvD.cap{K:Frag}{m w H:Hp}{f:St}{ρ:bT}{cap:List (Option Nat)}(E:EnvD K m w H f ρ)(inj:∀i j k:Nat,cap[i]?=some (some k)->cap[j]?=some (some k)->i=j):EnvD K m w H (eA cap f) (dZ cap ρ):=by
 have st:∀{i j:Nat}{v:V},cap[i]?=some (some j)->f[j]?=some (some v)->(eA cap f)[i]?=some (some v):=λg l=>by unfold eA;rw[Ii,g];simp[l]
 have ts:∀{i j:Nat}{v:V},cap[i]?=some (some j)->(eA cap f)[i]?=some (some v)->f[j]?=some (some v):=λg l=>by obtain⟨u,a,c⟩:=iR l;rw[g]at a;cases a;exact c
 refine⟨E.fz,by unfold eA dZ;simp,λi d h=>?_,λi ds h=>?_,λi j ds es p y z A B=>?_,E.tb⟩
 ·obtain⟨j,a,c⟩:=iR h;obtain⟨v,e,r⟩:=E.sl j d c;exact⟨v,st a e,r⟩
 ·obtain⟨j,a,c⟩:=iR h;obtain⟨p,vs,e,q⟩:=E.ow j ds c;exact⟨p,vs,st a e,q⟩
 ·obtain⟨t,a,c⟩:=iR y;obtain⟨u,o,x⟩:=iR z;have:=E.ne t u ds es p c x (ts a A) (ts o B);subst this;exact inj i j t a o
structure GK(k:Nat)(g:cP):Prop where p:∀d ρ R,g d ρ R->g d ρ λρ1=>ρ1.length=ρ.length/\ρ1.drop k=ρ.drop k/\R ρ1
structure GKs(k:Nat)(g:eN):Prop where p:∀ds ρ R,g ds ρ R->g ds ρ λρ1=>ρ1.length=ρ.length/\ρ1.drop k=ρ.drop k/\R ρ1
def B5{k i:Nat}(h:i<k):GK k (oC i):=⟨λd ρ R r=>⟨by simp,by rw[List.drop_set_of_lt h],r⟩⟩
def Ed{k:Nat}:GKs k p7:=⟨λds ρ R r=>by
 cases ds with
 |nil=>exact⟨rfl,rfl,r⟩
 |cons=>exact r⟩
def xU{t:cP}{u:eN}(c:∀d ρ R a,(∀x,R x->a x)->t d ρ R->t d ρ a)(e:∀d ρ R a,(∀x,R x->a x)->u d ρ R->u d ρ a):∀d ρ R a,(∀x,R x->a x)->lN t u d ρ R->lN t u d ρ a:=by
 intro ds ρ R a h r
 cases ds with
 |nil=>exact r
 |cons d ds=>exact c d ρ _ _ (λx f=>e ds x _ _ h f) r
structure GM(k:Nat)(g:cP):Prop where
 k:GK k g
 m:∀d ρ R R',(∀x,R x->R' x)->g d ρ R->g d ρ R'
structure GMs(k:Nat)(g:eN):Prop where
 k:GKs k g
 m:∀d ρ R R',(∀x,R x->R' x)->g d ρ R->g d ρ R'
def dH{k i:Nat}(h:i<k):GM k (oC i):=⟨B5 h,λd ρ R a h r=>h _ r⟩
def sM{k:Nat}:GMs k p7:=⟨Ed,λds ρ R a h r=>by
 cases ds with
 |nil=>exact h _ r
 |cons=>exact r⟩
def mW{k:Nat}{t:cP}{u:eN}(a:GM k t)(c:GMs k u):GMs k (lN t u):=⟨⟨λds ρ R r=>by
 cases ds with
 |nil=>exact r
 |cons d ds=>
  have h:t d ρ λf=>u ds f R:=r;refine a.m _ _ _ _ (λg q=>?_) (a.k.p d ρ _ h)
  exact c.m _ _ _ _ (λj e=>⟨e.1.trans q.1,e.2.1.trans q.2.1,e.2.2⟩) (c.k.p ds g R q.2.2)⟩,xU a.m c.m⟩
noncomputable def qh:bL:=λ_ R=>R true
structure PIfD(K:Frag)(X:Cx)(ifs:List Expr)(t:bL):Prop where p:X.K=K->je X ifs (lT K t)
def uw{K:Frag}{X:Cx}:PIfD K X [] qh:=⟨λ_ a s f H Q I c=>by obtain⟨g,e,ρ,R,E,t,k⟩:=c;exact Fd a s f H Q I (k true e H t (.refl E.fz))⟩
def EF{K:Frag}{X:Cx}{c:Expr}{t:bL}(h:PTD K X c t):PIfD K X [c] t:=⟨λa=>yu (h.pt a)⟩
def EnvD.side{K:Frag}{a f H:Hp}{g:St}{ρ:bT}{p:Addr}{o u:HO}(E:EnvD K a f H g ρ)(j:a p=some u)(l:f p=none):EnvD K a f (aj H p o) g ρ:=
 ⟨λb w e=>by rw[aE (cD e l)];exact E.fz b w e,E.len,E.sl,λi ds h=>by
  obtain⟨q,vs,e,c,m,r,t⟩:=E.ow i ds h
  exact⟨q,vs,e,c,m,by rw[aE λz=>by rw[z,j]at c;cases c];exact r,t⟩,E.ne,E.tb⟩
def EnvD.base{K:Frag}{a f H:Hp}{g:St}{ρ:bT}{p:Addr}{u:HO}(E:EnvD K a f H g ρ)(j:H p=none):EnvD K (aj a p u) f H g ρ:=
 ⟨E.fz,E.len,E.sl,λi ds h=>by
  obtain⟨q,vs,e,l,m,c,o⟩:=E.ow i ds h
  exact⟨q,vs,e,by rw[aE (cD c j)];exact l,m,c,o⟩,E.ne,E.tb⟩
noncomputable def sw(f:aX)(cap:List (Option Nat))(g:cP)(c:bL)(e:TD):aX:=λρ R=>f ρ λds=>ds.length<sizeLine/\∃P:Nat->Option D->Prop,
 (∀i d,ds[i]?=some d->g d (dZ cap ρ) λa=>c a λb=>(b=true->e a λy=>P i (some y))/\(b=false->P i none))/\∀ys:List (Option D),ys.length=ds.length->(∀i y,ys[i]?=some y->P i y)->R (ys.filterMap id)
def Fa(ys:List (Option D))(y:D):(ys++[some y]).filterMap id=ys.filterMap id++[y]:=by simp
def GX(ys:List (Option D)):(ys++[none]).filterMap id=ys.filterMap id:=by simp
def GU(ys:List (Option D)):(ys.filterMap id).length<=ys.length:=List.length_filterMap_le _ _
def fw{f:Type}{ys:List f}{y:f}{P:Nat->f->Prop}{n:Nat}(l:ys.length=n)(h:∀i z,ys[i]?=some z->P i z)(j:P n y):∀i z,(ys++[y])[i]?=some z->P i z:=by
 intro i z a;rcases IU i ys.length with c|c
 ·rw[HW c]at a;exact h i z a
 ·rw[HX c]at a
  have g:i-ys.length=0:=by
   rcases Nat.eq_zero_or_pos (i-ys.length)with e|e
   ·exact e
   ·rw[IX (by simp only[Ij,Jh];omega)]at a;cases a
  rw[g]at a;cases a
  have:i=n:=by omega
  subst this;exact j
noncomputable def fL(k:Nat)(cap:List (Option Nat)):Bool:=(cap.take k).all (·.isNone)&&decide ((cap.filterMap id).Nodup)
def yn{k:Nat}{cap:List (Option Nat)}(h:fL k cap=true){i:Nat}(a:i<k){o:Option Nat}(e:cap[i]?=some o):o=none:=by
 unfold fL at h;rw[Iz]at h;have:=IC.mp h.1 o (IA (i:=i) (by rw[Kt a];exact e))
 cases o with
 |none=>rfl
 |some _=>cases this
def CD{k:Nat}{cap:List (Option Nat)}(h:fL k cap=true):∀i j n:Nat,cap[i]?=some (some n)->cap[j]?=some (some n)->i=j:=by
 unfold fL at h;rw[Iz]at h;have nd:=Ir h.2;clear h
 induction cap with
 |nil=>intro i j n a;simp at a
 |cons o cap p=>
  intro i j n a c
  have g:(cap.filterMap id).Nodup:=by
   cases o with
   |none=>simpa using nd
   |some m=>have e : (some m :: cap).filterMap id = m :: cap.filterMap id:= rfl
            rw [e]at nd; exact (IS.mp nd).2
  have one:∀{i:Nat},o=some n->cap[i]?=some (some n)->False:=λ{i} l f=>by
   subst l;have e:(some n::cap).filterMap id=n::cap.filterMap id:=rfl;rw[e]at nd;exact (IS.mp nd).1 (J2.mpr ⟨some n,IA f,rfl⟩)
  cases i with
  |zero=>cases j with
   |zero=>rfl
   |succ j=>exact (one (by simpa using a) (by simpa using c)).elim
  |succ i=>cases j with
   |zero=>exact (one (by simpa using c) (by simpa using a)).elim
   |succ j=>exact JD Nat.succ (p g i j n (by simpa using a) (by simpa using c))
section
variable{K:Frag}{X:Cx}{tg iter elt:Expr}{scope:Scope}{pos:Pos}{N':List Str}{cap:List (Option Nat)}{ti:aX}{g:cP}{tc:bL}{te:TD}
def vE{k:Nat}(NZ:fL k cap=true)(hk:GM k g){σ:St}{H:Hp}{Q:VK}{I Φ:Hp}{ρ:bT}{R W:List D->Prop}(E:EnvD K I Φ H σ ρ)(t:ti ρ W)
  (conv:∀ds,W ds->ds.length<sizeLine/\∃P:Nat->Option D->Prop,(∀i d,ds[i]?=some d->g d (dZ cap ρ) λf=>tc f λb=>(b=true->te f λy=>P i (some y))/\(b=false->P i none))/\∀ys:List (Option D),ys.length=ds.length->(∀i y,ys[i]?=some y->P i y)->R (ys.filterMap id))
  (kk:∀ds a l p vs,R ds->Gr Φ H a l->H p=none->a p=none->l p=some (.lst vs)->RpL K a ds vs->Q (.ref p) l):iG (lI K ti) cap (lG K g) (lT K tc) (lE K te) σ H Q:=by
 refine⟨I,Φ,ρ,W,E,t,λds r H1 J hW N S h T=>?_⟩
 obtain⟨hlen,P,hp,hr⟩:=conv ds hW
 have E1:=E.gr N;have A:r h=none:=N.s.free T;have C0:EnvD K (aj I h (.lst [])) r (aj H1 h (.lst [])) (eA cap σ) (dZ cap ρ):=((E1.base (u:=.lst []) T).side (o:=.lst []) bg A).cap (CD NZ);refine⟨λi m σ' l=>m=ds.length-i/\i<=ds.length/\∃(a:Hp)(vs:List V)(ys:List (Option D)),EnvD K (aj I h (.lst [])) a l σ' (dZ cap ρ)/\Gr r H1 a l/\a h=none/\l h=some (.lst vs)/\RpL K a (ys.filterMap id) vs/\ys.length=i/\∀j y,ys[j]?=some y->P j y,⟨ds.length,by simp,J4 _,r,[],[],C0,.fresh N.s T _,A,bg,.nil,rfl,λj y hj=>by simp at hj⟩,?_⟩;rintro i m σ' l ⟨rfl,hi,a,vs,ys,Ei,w,Y,Tz,Qw,M,hy⟩;by_cases Nn:i<ds.length
 ·refine .inr ⟨S.go i l (w.f.trans w.s) Nn,λσ2 G=>∃(a:Hp)(vs:List V)(ys:List (Option D)),EnvD K (aj I h (.lst [])) a G σ2 (dZ cap ρ)/\Gr r H1 a G/\a h=none/\G h=some (.lst vs)/\RpL K a (ys.filterMap id) vs/\ys.length=i+1/\∀j y,ys[j]?=some y->P j y,λσ2 G h2=>⟨ds.length-(i+1),by omega,rfl,Nn,h2⟩,λx G y=>?_⟩;obtain⟨C,z,rx⟩:=S.yl i a l x G _ w.f w.s (bw Nn) y;have E3:=Ei.gr z;refine⟨_,C,dZ cap ρ,_,_,E3,rx,hk.k.p _ _ _ (hp i _ (bw Nn)),λf σ3 MQ E4=>?_⟩;obtain⟨O1,hd1,t1⟩:=MQ
  have wk:∀(j:Nat) x,(dZ cap ρ)[j]?=some (some x)->f[j]?=some (some x):=λj x hj=>by
   rcases IU j k with c|c
   ·obtain⟨n,h1,_⟩:=iR hj;cases yn NZ c h1
   ·have e1:(dZ cap ρ)[j]?=((dZ cap ρ).drop k)[j-k]?:=by rw[K1];congr 1;omega
    have e2:f[j]?=(f.drop k)[j-k]?:=by rw[K1];congr 1;omega
    rw[e2,hd1,←e1];exact hj
  have hD3:C h=none:=z.o _ _ Tz Y;refine⟨_,C,f,_,E4,t1,λb F H4 rb B=>?_⟩;have E5:=(E4.gr B);have RJ:=B.h _ _ (z.h _ _ Tz);have U:F h=none:=B.o _ _ (z.h _ _ Tz) hD3
  cases b with
  |false=>
   refine qP ?_;refine⟨F,vs,ys++[none],E5.weak O1.symm wk,(w.trans z).trans B,U,RJ,?_,by rw[HY,M];rfl,fw M hy (rb.2 rfl)⟩;rw[GX];exact (Qw.same z.f).same B.f
  |true=>
   refine pS ?_;refine⟨_,F,f,_,E5,rb.1 rfl,λd Z H5 v rd O rv=>?_⟩;have E6:=E5.gr O;have UH:=O.h _ _ RJ;have UI:Z h=none:=O.o _ _ RJ U;have gg:=((w.trans z).trans B).trans O;refine⟨vs,UH,?_,Z,vs++[v],ys++[some d],(E6.weak O1.symm wk).side bg UI,?_,UI,bg,?_,by rw[HY,M];rfl,fw M hy rd⟩
   ·have:=GU ys;rw[Qw.1];omega
   ·exact⟨gg.f,zv gg.h T _,λb u e=>by rw[aE (cD e UI)];exact gg.s b u e,λp u hp hn k=>gg.o p u hp hn k⟩
   ·rw[Fa];exact (((Qw.same z.f).same B.f).same O.f).append (.one rv)
 ·have e:i=ds.length:=by omega
  subst e;exact .inl ⟨S.stop l (w.f.trans w.s),kk _ a l h vs (hr ys M hy) (N.trans w) (N.h.free T) Y Tz Qw⟩
def G1{k:Nat}(c:fL k cap=true)(e:GM k g){a:St}{H:Hp}{Q:VK}(h:lF K (sw ti cap g tc te) a H Q):iG (lI K ti) cap (lG K g) (lT K tc) (lE K te) a H Q:=by obtain⟨j,l,ρ,R,E,t,f⟩:=h;exact vE c e E t (λds h=>h) f
noncomputable def nS(ti:aX)(cap:List (Option Nat))(g:cP)(te:TD):aX:=λρ R=>ti ρ λds=>ds.length<sizeLine/\∃P:Nat->D->Prop,
 (∀i d,ds[i]?=some d->g d (dZ cap ρ) λa=>te a (P i))/\∀ys:List D,ys.length=ds.length->(∀i y,ys[i]?=some y->P i y)->R ys
noncomputable def DC(P:Nat->D->Prop):Nat->Option D->Prop:=λi o=>match o with|some y=>P i y|none=>False
def vk{P:Nat->D->Prop}:∀(ys:List (Option D)),(∀(i:Nat) y,ys[i]?=some y->∃z,y=some z)->∃a:List D,ys=a.map some
 | [],_=>⟨[],rfl⟩
 |y::ys,h=>by obtain⟨z,rfl⟩:=h 0 y rfl;obtain⟨a,rfl⟩:=vk (P:=P) ys λi y c=>h (i+1) y c;exact⟨z::a,rfl⟩
def Ao{ds:List D}{ρ:bT}{R:List D->Prop}(h:ds.length<sizeLine/\∃P:Nat->D->Prop,(∀i d,ds[i]?=some d->g d (dZ cap ρ) λa=>te a (P i))/\∀ys:List D,ys.length=ds.length->(∀i y,ys[i]?=some y->P i y)->R ys){k:Nat}(o:GM k g) :
  ds.length<sizeLine/\∃P:Nat->Option D->Prop,(∀i d,ds[i]?=some d->g d (dZ cap ρ) λa=>qh a λb=>(b=true->te a λy=>P i (some y))/\(b=false->P i none))/\∀ys:List (Option D),ys.length=ds.length->(∀i y,ys[i]?=some y->P i y)->R (ys.filterMap id):=by
 obtain⟨j,P,l,m⟩:=h;refine⟨j,DC P,λi d hd=>o.m _ _ _ _ (λa q=>⟨λ_=>q,λe=>by cases e⟩) (l i d hd),λys p f=>?_⟩
 obtain⟨c,rfl⟩:=vk (P:=P) ys λi y e=>by
  have:=f i y e
  cases y with
  |none=>exact this.elim
  |some z=>exact⟨z,rfl⟩
 rw[LM]
 have e:c.filterMap (id ∘ some)=c:=by simp
 rw[e];refine m c (by simpa using p) λi y e=>?_;exact f i (some y) (by rw[Ii,e];rfl)
def tT{k:Nat}(e:fL k cap=true)(a:GM k g){c:St}{H:Hp}{Q:VK}(h:lF K (nS ti cap g te) c H Q):iG (lI K ti) cap (lG K g) (lT K qh) (lE K te) c H Q:=by obtain⟨j,l,ρ,R,E,t,f⟩:=h;exact vE e a E t (λds h=>Ao h a) f
def gq{k:Nat}(h:X.calm=true)(S:CompScope X.N X.env.scope scope N' cap)(j:fL k cap=true)(p:GM k g)(o:PID K X tg iter ti)
  (m:∀(cl:List (Str×Addr))(c:List Addr)(C:Addr)(e:Shared)(a:Hp),PGD K (ce X scope N' cl C e a c) tg g)
  (l:∀(cl:List (Str×Addr))(c:List Addr)(C:Addr)(e:Shared)(a:Hp),PD K (ce X scope N' cl C e a c) elt te) (r:∀x,foldedSetIterable iter X.env x=pure x:=by intro _;rfl):PF K X (.ListComp elt [⟨tg,iter,[],0⟩] scope pos) (nS ti cap g te):=
 ⟨λf=>(F0 h S (o.pi f) (λcl c C e a=>(m cl c C e a).pg f) (λcl c C e a=>(uw (K:=K)).p f) (λcl c C e a=>(l cl c C e a).pe f) r).imp λ_ _ _=>tT j p⟩
end
noncomputable def uW(K:Frag)(b:Bool)(a:Addr):It:=match b with|true=>qk K a|false=>qD K a
section
variable{K:Frag}{X:Cx}{tg e a b:Expr}{es:List Expr}{pos p tp:Pos}{t ta:TD}{tl:aX}
def AZ{l:Expr}{tl:TE}(A:X.K=K)(C:PE X l tl):PI X tg l (λm H R=>tl m H λx g=>∃q a,x=.ref a/\(∃xs,SqB K q g a xs)/\R (uW K q a) g):=by
 subst A;intro f s m H R I h;refine aq (C f s m H _ I h) λv c y=>?_;obtain⟨x,g,j,G,F⟩:=y;obtain⟨z,a,e,⟨xs,w⟩,q⟩:=F;subst e;cases G
 have u:∀b∈[c.heap.objs.size],dF X f g b:=λb B=>by
  have e:b=c.heap.objs.size:=by simpa using B
  subst e;exact j.fpOk (Ih _) (j.hok.fresh (Ih _))
 cases z with
 |true=>
  obtain⟨r,J,p,E⟩:=j.list w;refine L1 p.isList ?_;exact⟨c.heap.objs.size,[c.heap.objs.size],_,_,g,rfl,j.kept (t':=c.toks) λb o e=>Ig _ e,Gd a _,⟨_,Iy _ rfl,rfl,rfl⟩,u,q⟩
 |false=>
  obtain⟨r,J,p,E⟩:=j.tuple w;refine wpAny_pyIter_tuple (show c.heap.IsTuple a r.toArray from p) ?_;exact⟨c.heap.objs.size,[c.heap.objs.size],_,_,g,rfl,j.kept (t':=c.toks) λb o e=>Ig _ e,GE a _,⟨_,Iy _ rfl,rfl,rfl⟩,u,q⟩
def zi{c:Hp}{ds:List D}{vs:List V}{a:Addr}{q:Bool}(h:SqB K q c a vs)(r:RpL K c ds vs):SteadyD K (uW K q a) c ds:=by
 cases q with
 |true=>exact EE h r
 |false=>exact C6 h r
noncomputable def AC(t:TD):aX:=λρ R=>t ρ λd=>match d with|.lst ds=>R ds|.tup ds=>R ds|.fzl ds=>R ds|_=>False
def yh{d:D}{R:List D->Prop}(h:match d with|.lst ds=>R ds|.tup ds=>R ds|.fzl ds=>R ds|_=>False):∃ds,gh d=some ds/\R ds:=by
 cases d with
 |lst ds=>exact⟨ds,rfl,h⟩
 |tup ds=>exact⟨ds,rfl,h⟩
 |fzl ds=>exact⟨ds,rfl,h⟩
 |_=>exact h.elim
def fu(h:PD K X e t):PID K X tg e (AC t):=⟨λj=>(AZ j (h.pe j)).imp λA H z o=>by obtain⟨l,y,ρ,R,E,t,k⟩:=o;exact⟨l,y,ρ,_,E,t,λd c m v r g x=>by
 obtain⟨ds,u,r⟩:=yh r;obtain⟨q,a,vs,rfl,f,w⟩:=x.seq u
 exact⟨q,a,rfl,⟨vs,SqB.same g.s f⟩,k _ c m _ r g (zi f w)⟩⟩⟩
def Ds{a b:Expr}{ta:TA}{es:List Expr}{k:Nat}(E:X.K=K)(G:Gl X "zip")(M:X.mg "zip"=none)(F:PA X [a,b] ta)(N:starEach [a,b] X.env=[(false,eval a X.env),(false,eval b X.env)])(x:starEach [b] X.env=[(false,eval b X.env)]) :
  PI X (.Tuple es k tp) (.Call (.Name "zip" p) [a,b] [] pos) (λv H R=>ta v H λvs g=>∃m o a1 a2 xs ys,vs=[.ref a1,.ref a2]/\SqB K m g a1 xs/\SqB K o g a2 ys/\R (qJ K m a1 o a2) g):=by
 subst E;intro f s v H R I h;refine Call_ (iw I G M boot_zip (JY (aq (F pos f s v H _ I h) λus u ⟨vs,g,j,Y,T⟩=>?_) (by rw[N,x]) (by rw[x];rfl)));obtain⟨m,o,O,P,xs,ys,e,A,B,q⟩:=T;subst e
 cases Y with
 |cons r w=>
  cases w with
  |cons U w=>
   cases w;cases r;cases U;obtain⟨RG,Ts,Q,_⟩:=j.sqb A;obtain⟨N6,Tt,S,_⟩:=j.sqb B;refine Hs Q S λh' y Z z3 z4 z5 J=>wpAny_pyIter_zip y ?_;have z:Inv X f v g { u with heap:=h' }:=j.kept (t':=u.toks) J;have C:∀c,u.heap.objs.size<=c->dF X f g c:=λc l=>j.fpOk l (j.hok.fresh l);generalize u.heap.objs.size=n at *;refine⟨n+4,[n+4,n+2,n+3,n,n+1],_,_,g,rfl,z,Fo m o O P (n+4) (n+2) (n+3) n (n+1) (Ct n),⟨y,Z,⟨_,_,z3⟩,z4,z5⟩,λc l=>C c ?_,q⟩;simp only[Ik,IQ,JJ]at l;rcases l with rfl|rfl|rfl|rfl|rfl
   ·exact Lh _ _
   ·exact Lh _ _
   ·exact Lh _ _
   ·exact Ih _
   ·exact Lh _ _
noncomputable def Ey(t:aX):aX:=λρ R=>t ρ λds=>match ds with| [d,e]=>∃xs ys,gh d=some xs/\gh e=some ys/\R (eT xs ys)|_=>False
def lW{c:List Expr}{y:Nat}(C:Gl X "zip")(F:X.mg "zip"=none)(B:PAD K X [a,b] tl)(G:starEach [a,b] X.env=[(false,eval a X.env),(false,eval b X.env)]:=by rfl)(x:starEach [b] X.env=[(false,eval b X.env)]:=by rfl):PID K X (.Tuple c y tp) (.Call (.Name "zip" p) [a,b] [] pos) (Ey tl):=
 ⟨λl=>(Ds l C F (B.pa l) G x).imp λU H T u=>by obtain⟨m,S,ρ,R,E,t,k⟩:=u;exact⟨m,S,ρ,_,E,t,λds f o vs r g Q _=>by
  match ds,r with
  | [d,e],⟨xs,ys,I,J,r⟩=>
   obtain⟨v,w,rfl,O,P⟩:=Q.two_inv;obtain⟨M,a1,ws,rfl,h,z⟩:=O.seq I;obtain⟨N,a2,us,rfl,j,A⟩:=P.seq J
   exact⟨M,N,a1,a2,ws,us,rfl,SqB.same g.s h,SqB.same g.s j,k _ f o _ r g (wW h j z A)⟩⟩⟩
variable{gs:eN}
noncomputable def sF(n:Nat)(t:eN):cP:=λd ρ R=>match d with|.tup ds=>ds.length=n/\t ds ρ R|.lst ds=>ds.length=n/\t ds ρ R|_=>False
def PG.or{tg:Expr}{t t':TG}(h:PG X tg t)(h':PG X tg t'):PG X tg (λv g H Q=>t v g H Q\/t' v g H Q):=by
 intro c s g H v u Q I r f;rcases f with f|f
 ·exact h c s g H v u Q I r f
 ·exact h' c s g H v u Q I r f
def vS{k n:Nat}(l:X.calm=true)(h:PGDs K X es gs)(m:(assignEach es X.env).length=n:=by rfl)(j:(assignEach es X.env).findIdx? (·.1)=none:=by rfl):PGD K X (.Tuple es k pos) (sF n gs):=
 ⟨λc=>((vy c l (h.pg c) m j).or (uV c l (h.pg c) m j)).imp λv w H Q u=>by
  obtain⟨f,o,ρ,d,R,E,r,g,k⟩:=u
  cases d with
  |tup ds=>cases r with|tup h1 h2 h3=>exact .inl ⟨_,_,rfl,.of (E.fz _ _ h1),by rw[h2];exact g.1,f,o,ρ,ds,R,E,⟨h2,h3⟩,g.2,k⟩
  |lst ds=>cases r with|lst h1 h2 h3=>exact .inr ⟨_,_,rfl,.of (E.fz _ _ h1),by rw[h2];exact g.1,f,o,ρ,ds,R,E,⟨h2,h3⟩,g.2,k⟩
  |_=>exact g.elim⟩
def wj{k n:Nat}{t:eN}(h:GMs k t):GM k (sF n t):=⟨⟨λd ρ R r=>by
 cases d with
 |tup ds=>exact⟨r.1,h.k.p ds ρ R r.2⟩
 |lst ds=>exact⟨r.1,h.k.p ds ρ R r.2⟩
 |_=>exact r⟩,λd ρ R c f r=>by
 cases d with
 |tup ds=>exact⟨r.1,h.m ds ρ R c f r.2⟩
 |lst ds=>exact⟨r.1,h.m ds ρ R c f r.2⟩
 |_=>exact r⟩
def Ay{j H:Hp}{d:D}{v:V}{T:String}{r:Bool}(s:Same j H)(h:RpQ K j H d v)(e:vL d T=some r):IsiV K H v T r:=by
 have sp:∀{c:Prop}[Decidable c]{x:Bool}{y:Option Bool},(if c then some x else y)=some r->(c/\x=r)\/y=some r:=λ{c _ x y} h=>by
  by_cases g:c
  ·rw[Ia g]at h;cases h;exact .inl ⟨g,rfl⟩
  ·rw[Ib g]at h;exact .inr h
 cases d with
 |int i=>
  cases h.int;rcases sp e with⟨rfl,rfl⟩|e
  ·exact .int_int _
  rcases sp e with⟨rfl,rfl⟩|e
  ·exact .int_bool _
  rcases sp e with⟨rfl,rfl⟩|e
  ·exact .int_tuple _
  rcases sp e with⟨rfl,rfl⟩|e
  ·exact .int_str _
  cases e
 |bl i=>
  cases h.bl;rcases sp e with⟨rfl,rfl⟩|e
  ·exact .bl_int _
  rcases sp e with⟨rfl,rfl⟩|e
  ·exact .bl_bool _
  rcases sp e with⟨rfl,rfl⟩|e
  ·exact .bl_tuple _
  cases e
 |str i=>
  cases h.str;rcases sp e with⟨rfl,rfl⟩|e
  ·exact .str_str _
  rcases sp e with⟨rfl,rfl⟩|e
  ·exact .str_tuple _
  cases e
 |non=>cases e
 |tup ds=>
  obtain⟨a,vs,rfl,f,_,l⟩:=h.tup s;rcases sp e with⟨rfl,rfl⟩|e
  ·exact .tup_tuple f
  rcases sp e with⟨rfl,rfl⟩|e
  ·exact .tup_int f
  cases e
 |lst ds=>
  obtain⟨a,vs,rfl,f,l⟩:=h.lst s;rcases sp e with⟨rfl,rfl⟩|e
  ·exact .lst_tuple (.of f)
  rcases sp e with⟨rfl,rfl⟩|e
  ·exact .lst_list (.of f)
  cases e
 |fzl ds=>cases e
 |obj C fs=>cases e
 |map m=>cases e
 |exc _ _=>cases e
noncomputable def zj(T:String)(t:TD):TD:=λρ R=>t ρ λd=>∃r,vL d T=some r/\R (.bl r)
def xc{T:String}{f:Str}{c:Pos}(z:Gl X "isinstance")(A:X.mg "isinstance"=none)(y:PQ K X a t)(x:PE X (.Name f c) (tC (.ty T)))
  (m:starEach [a,.Name f c] X.env=(false,eval a X.env)::starEach [.Name f c] X.env) (j:starEach [.Name f c] X.env=(false,eval (.Name f c) X.env)::starEach [] X.env):PD K X (.Call (.Name "isinstance" p) [a,.Name f c] [] pos) (zj T t):=
 ⟨λl=>(pI (xM l) z A boot_isinstance (dA (y.pe l) (dA x pa_nil j) m) (by decide) (by decide) m (aF j ag)).imp λI H Q w=>by obtain⟨o,G,ρ,R,E,t,k⟩:=w;exact⟨o,G,ρ,_,E,t,λd h u v r g F=>by
  obtain⟨C,B,r⟩:=r
  exact⟨v,T,C,rfl,Ay g.s F B,k _ h u _ r g (.bl _)⟩⟩⟩
end
def gY{a:Type}{f:a->D}{ns:List a}{i:Nat}{x:D}(h:(ns.map f)[i]?=some x):∃k,x=f k/\ns[i]?=some k:=by
 rw[Ii]at h
 cases e:ns[i]? with
 |none=>rw[e]at h;cases h
 |some k=>rw[e]at h;cases h;exact⟨k,rfl,rfl⟩
def gu{a:Type}{f:a->D}{ns:List a}{i:Nat}{n:a}{k:Int}(h:ns[i]?=some n)(e:k=(i:Int)):bK (ns.map f) k=some (f n):=mj (by rw[Ii,h];rfl) e
def vA{ns:List Int}{k:Int}(c:0<=k)(h:k<(ns.length:Int)):∃v:Int,bK (ns.map D.int) k=some (.int v):=by
 have a:k.toNat<ns.length:=by omega
 exact⟨_,gu (bw a) (by omega)⟩
noncomputable def vd:b9:=λds R=>∃ns:List Int,ds=[.fzl (ns.map D.int)]/\ns.length<=63/\R (.bl true)
noncomputable def vq(K:Frag):Sp:=λvs H Q _=>∃(a:Addr)(ns:List Int),vs=[.ref a]/\SqL K H a (ns.map V.int)/\ns.length<=63/\TabF K H/\∀c,Q (.bl true) c
def Cp{K:Frag}:∀vs H Q E,vq K vs H Q E->jh K vd vs H Q E:=by rintro vs H Q E ⟨a,ns,rfl,c,e,tb,q⟩;refine⟨H,[.fzl (ns.map D.int)],λd=>d=.bl true,Same.refl _,tb,.one ((RpL.ints ns).fzl c),⟨ns,rfl,e,rfl⟩,λd h j v r g f=>?_⟩;subst r;obtain rfl:=f.b;exact q _
def pD{c e:Type}(f:c->e)(xs:List c)(lo a:Option Int):br (xs.map f) lo a=(br xs lo a).map f:=by unfold br;rw[HV,L0,MN]
def FX(k:Nat)(z:Int):(List.replicate k [D.int z]).flatten=(List.replicate k z).map D.int:=by
 induction k with
 |zero=>rfl
 |succ k a=>rw[Jz,IY,a];rfl
section
variable{g:cP}{te:TD}{ρ:bT}{R:List D->Prop}
def z9{ds:List D}(ws:List D)(m:ws.length=ds.length)(e:ds.length<sizeLine)(Q:Nat->D->Prop)(f:∀i y,Q i y->ws[i]?=some y)(h:∀i d,ds[i]?=some d->g d ρ λa=>te a (Q i))(k:R ws) :
  ds.length<sizeLine/\∃P:Nat->D->Prop,(∀i d,ds[i]?=some d->g d ρ λa=>te a (P i))/\∀ys:List D,ys.length=ds.length->(∀i y,ys[i]?=some y->P i y)->R ys:=by
 refine⟨e,Q,h,λys l j=>?_⟩
 have:ys=ws:=by
  refine Jo λi=>?_;rcases IU i ys.length with c|c
  ·rw[bw c,f i _ (j i _ (bw c))]
  ·rw[IX c,IX (by omega)]
 rw[this];exact k
def gm{j:Type}{f:j->D}{xs:List j}(h:j->D)(c:xs.length<sizeLine)(m:∀x∈xs,g (f x) ρ λa=>te a λy=>y=h x)(k:R (xs.map h)) :
  (xs.map f).length<sizeLine/\∃P:Nat->D->Prop,(∀i d,(xs.map f)[i]?=some d->g d ρ λa=>te a (P i))/\∀ys:List D,ys.length=(xs.map f).length->(∀i y,ys[i]?=some y->P i y)->R ys:=by
 refine z9 (xs.map h) (by simp) (by rw[HV];exact c) (λi=>match xs[i]? with|some x=>λy=>y=h x|none=>λ_=>False) (λi y q=>?_) (λi d hd=>?_) k
 ·rw[Ii]
  cases e:xs[i]? with
  |none=>rw[e]at q;exact q.elim
  |some x=>rw[e]at q;rw[q];rfl
 ·obtain⟨x,rfl,l⟩:=gY hd
  have e:(match xs[i]? with|some x=>λy=>y=h x|none=>λ_=>False:D->Prop)=λy=>y=h x:=by rw[l]
  rw[e];exact m x (IA l)
def rN{a c:Type}(f:a->D)(h:c->D)(xs:List a)(ys:List c):eT (xs.map f) (ys.map h)=(List.zip xs ys).map λp=>.tup [f p.1,h p.2]:=by unfold eT;rw[List.zipWith_map,Mq];rfl
def Ba{c e:Type}{f:c->D}{h:e->D}{xs:List c}{ys:List e}(w:c->e->D)(l:xs.length<sizeLine)(o:∀x∈xs,∀y∈ys,g (.tup [f x,h y]) ρ λa=>te a λz=>z=w x y)(k:R (List.zipWith w xs ys)) :
  (eT (xs.map f) (ys.map h)).length<sizeLine/\∃P:Nat->D->Prop,(∀i d,(eT (xs.map f) (ys.map h))[i]?=some d->g d ρ λa=>te a (P i))/\∀j:List D,j.length=(eT (xs.map f) (ys.map h)).length->(∀i y,j[i]?=some y->P i y)->R j:=by
 rw[rN];refine gm (λp:c×e=>w p.1 p.2) ?_ (λp m=>o p.1 (Km m).1 p.2 (Km m).2) ?_
 ·rw[Mw];omega
 ·rw[Mq];exact k
end
end L2
namespace L2
def ff{p:Prop}(h:false=true):p:=by cases h
def tf{p:Prop}(h:true=false):p:=by cases h
end L2
namespace L2
end L2
namespace L2
def zY{a:Type}(f:a->D)(es:List a)(d:a):es.map f++[f d]=(es++[d]).map f:=by simp
end L2
namespace L2
open PySem PySem.Spec PyProof.Rows
section
variable{g:cP}{te:TD}{ρ:bT}{R:List D->Prop}
def lj{e:Type}{f:e->D}{xs:List e}(h:e->Int)(c:xs.length<sizeLine)(j:∀x∈xs,g (f x) ρ λa=>te a λy=>y=.int (h x))(k:R ((xs.map h).map D.int)) :
  (xs.map f).length<sizeLine/\∃P:Nat->D->Prop,(∀i d,(xs.map f)[i]?=some d->g d ρ λa=>te a (P i))/\∀ys:List D,ys.length=(xs.map f).length->(∀i y,ys[i]?=some y->P i y)->R ys:=
 gm (λx=>D.int (h x)) c j (by rw[JH]at k;exact k)
end
def zB{n:Nat}{g g':Nat->Bool}(h:∀j,j<n->g j=g' j):(List.range n).all g=(List.range n).all g':=by rw[JQ,IC,IC];exact⟨λq j a=>(h j (JO.mp a))▸q j a,λq j a=>(h j (JO.mp a)).symm▸q j a⟩
section
variable{K:Frag}{X:Cx}{pins:List (Addr×Obj)}{σ:St}{Φ H:Hp}{s:Shared}
def AM(Q:X.K=K)(I:Inv X pins σ H s)(G:Same Φ H):∀(n:Nat){d d' e:D}{b f:Bool}{v:V},Rp K Φ d v->Rp K Φ d' v->cx n d e=some b->cx n d' e=some f->b=f:=by
 intro n
 induction n using Nat.strongRecOn with
 |ind n P=>
  intro d d' e b f v o p w h
  have t:∀{m:Nat}{xs r ys:List D}{vs:List V}{b f:Bool},m<n->RpL K Φ xs vs->RpL K Φ r vs->eC (cx m) xs ys=some b->eC (cx m) r ys=some f->b=f:=λ{m xs r ys vs b f} O E F w h=>by
   obtain⟨g,N,M⟩:=jl w;obtain⟨g',y,x⟩:=jl h;have S:=E.1;have T:=F.1
   have J:xs.length=r.length:=by omega
   rw[M,x,J];congr 1;refine zB λj R=>?_
   have z:j<vs.length:=by omega
   have A:j<xs.length:=by omega
   have B:j<r.length:=by omega
   have C:j<ys.length:=by omega
   exact P m O (E.2 j _ _ (bw z) (bw A)) (F.2 j _ _ (bw z) (bw B)) (N j _ _ (bw A) (bw C)) (y j _ _ (bw B) (bw C))
  cases gD w with
  |int i j=>obtain rfl:=o.i;cases p;cases gD h;rfl
  |bl i j=>obtain rfl:=o.b;cases p;cases gD h;rfl
  |str i j=>obtain rfl:=o.s;cases p;cases gD h;rfl
  |non=>obtain rfl:=o.n;cases p;cases gD h;rfl
  |tup l=>cases gD h with|tup q2=>
   cases o with| @tup a vs xs a1 a2 a3=>cases p with| @tup _ ws ys b1 b2 b3=>
   have u:vs=ws:=I.tuple_inj (.of (G _ _ a1)) (.of (G _ _ b1));subst u;exact t (Ks _) ⟨a2,a3⟩ ⟨b2,b3⟩ l q2
  | @lst _ xs es b l=>cases gD h with| @lst _ ys es f q2=>
   cases o with| @lst a vs _ a1 a2 a3=>cases p with| @lst _ ws _ b1 b2 b3=>
   have u:vs=ws:=by rw[a1]at b1;cases b1;rfl
   subst u;by_cases c:xs.length=es.length
   ·rw[Ia c]at l;rw[Ia (by omega)]at q2;exact t (Ks _) ⟨a2,a3⟩ ⟨b2,b3⟩ l q2
   ·rw[Ib c]at l;rw[Ib (by omega)]at q2;rw[l]at q2;cases q2;rfl
end
section
variable{K:Frag}{X:Cx}
def wA(h:X.K=K):nY X (tE K):=h▸ya
end
section
variable{K:Frag}{X:Cx}{Φ H:Hp}{a e:Expr}{ta:TD}{C:Addr}{fl:Str}{pos:Pos}
def rm{g:Str}{d:D}:∀{vs:List (Str×V)}{fs:List (Str×D)},vs.map (·.1)=fs.map (·.1)->(∀(i:Nat)(v:Str×V)(e:Str×D),vs[i]?=some v->fs[i]?=some e->Rp K Φ e.2 v.2)->fs.lookup g=some d->∃v,vs.lookup g=some v/\Rp K Φ d v
 | [],[],_,_,h=>by cases h
 | [],_::_,h,_,_=>by cases h
 |_::_,[],h,_,_=>by cases h
 |(x,v)::vs,(y,f)::fs,h,m,j=>by
  rw[IE,IE]at h;obtain⟨l,o⟩:=List.cons.inj h;have l:x=y:=l;subst l;rw[IG]at j ⊢
  cases c:g==x with
  |true=>
   rw[c]at j;cases j;exact⟨v,rfl,m 0 _ _ rfl rfl⟩
  |false=>
   rw[c]at j;exact rm o (λi u e r p=>m (i+1) u e r p) j
noncomputable def Hm(nm:Str)(f:Str)(t:TD):TD:=λρ R=>t ρ λx=>match x with|.obj UJ fs=>UJ=nm/\∃d,fs.lookup f=some d/\R d|_=>False
def oO{c:TE}(f:X.K=K)(h:PE X a c)(g:attributeBase a fl X.env (eval a X.env)=eval a X.env):PE X (.Attribute a fl pos) (tI K c fl):=f▸yo h g
def io{nm:Str}(c:Cls K C)(G:NoAttr K C fl)(y:nsIn K mainGlobals nm=some (some (.ref C)))(z:PQ K X a ta)(A:attributeBase a fl X.env (eval a X.env)=eval a X.env:=by rfl):PD K X (.Attribute a fl pos) (Hm nm fl ta):=
 ⟨λl=>(oO l (z.pe l) A).imp λM H Q p=>by obtain⟨m,Φ,ρ,R,E,t,k⟩:=p;exact⟨m,Φ,ρ,_,E,t,λd h o v r g f=>by
  cases d with
  |obj J fs=>
   obtain⟨rfl,d,B,r⟩:=r;rcases f with f|⟨_,_,_,e,_⟩
   ·cases f with
    |obj j u w x=>
     rw[y]at j;cases j;obtain⟨v,F,I⟩:=rm w x B;exact⟨_,_,_,_,v,rfl,g.s _ _ u,c,G,F,k d h o v r g I⟩
   ·cases e
  |_=>exact r.elim⟩⟩
end
section
variable{K:Frag}{X:Cx}{a:Expr}{pos p:Pos}
noncomputable def CS(t:TA):TE:=λe H Q=>t e H λvs c=>∃j:Int,vs=[.int j]/\∀r,c r=none->Q (.ref r) (aj c r (.rng 0 j))
def xk{l:TA}(v:Gl X "range")(w:X.mg "range"=none)(u:PA X [a] l)(x:starEach [a] X.env=[(false,eval a X.env)]:=by rfl):PE X (.Call (.Name "range" p) [a] [] pos) (CS l):=by
 intro c s B H R I h;refine Call_ (iw I v w boot_range (JY (aq (u pos c s B H _ I h) λus f m=>?_) x rfl));obtain⟨vs,C,g,z,y⟩:=m;obtain⟨j,e,q⟩:=y;subst e
 cases z with
 |cons r A=>
  cases A;obtain⟨t,rfl⟩:=r;refine call_range_1 ⟨.ref f.heap.objs.size,_,g.laid (a:=f.heap.objs.size) (o:=.rng 0 j) (t':=f.toks+1+1) (λb o e=>Ig _ e) (Ih _) ⟨_,_,_,Iy _ rfl⟩,rfl,q _ (g.hok.fresh (Ih _))⟩
noncomputable def fQ(n:Nat):List V:=(List.range n).map λi=>V.int (i:Nat)
def mX(n:Nat):(fQ n).length=n:=by unfold fQ;simp
def rS{c e:Type}{F:c->e->Prop}:∀{xs:List c}{ys:List e},xs.length=ys.length->(∀(i:Nat) x y,xs[i]?=some x->ys[i]?=some y->F x y)->Paired F xs ys
 | [],[],_,_=>.nil
 |x::xs,y::ys,f,h=>.cons (h 0 x y rfl rfl) (rS (by simpa using f) λi u v g j=>h (i+1) u v g j)
def vK{n i:Nat}{v:V}(h:(fQ n)[i]?=some v):v=.int (i:Nat):=by
 have c:i<n:=by have:=ba h;rwa [mX]at this
 unfold fQ at h;rw[Ii,J1 c]at h;cases h;rfl
def zP{e:Hp}(n:Nat):RpL K e (fk 0 n) (fQ n):=⟨by rw[mX,gC],λi v d c hd=>by
 rw[vK c,(jq hd).2,MP]
 exact .int _⟩
end
section
variable{P:Program}{w:World}{K:Frag}{mg:Str->Option Value}{base:Heap}
def Fun.okL{x qual:Str}{st:Stmt}{f:Addr}{c:FuncData}{N ps:List Str}{k:Nat}{sp:Sp}(F:Fun K x qual st f c)(S:FnScope N ps (ay st))(len:∀vs H Q E,sp vs H Q E->vs.length=ps.length)
  (j:∀(a:Value)(A:Around)(outer:List Env)(s:Shared)(H:Hp)(vs:List V)(Q:VK)(E:XK),c.code=a->Room k (A.deeper (envOfC qual (ay st) s.heap.objs.size f a))->sp vs H Q E->
   ∃t,PSs (fY bf P w K mg base N qual (ay st) f a A outer s H E).nox (cw st) t/\t { nx:=λ_ e=>Q .non e,rt:=Q } (start N vs) H):FnOk P w K mg base bf (k+1) f c ps sp:=by
 obtain⟨u,v,kV,m,y,r,a,ct,p,rfl,lk,g⟩:=F.ex;refine on lk g S len λA outer s H vs Q E o l=>?_;obtain⟨t,h,q⟩:=j a A outer s H vs Q E rfl o l;exact⟨t,h.nox,q⟩
end
end L2
namespace L2
open PySem PySem.W PyProof.Rows
section
variable{key:Nat->Int}{N:Nat}
variable(hk:∀i j,i<N->j<N->key i=key j->i=j)
include hk
end
end L2
namespace L2
open PySem PySem.Spec PySem.W PyProof.Rows PySem.Calls
end L2
namespace L2
open PySem PySem.Spec PySem.W PyProof.Rows PySem.Calls
end L2
namespace L2
open PySem PySem.Spec PyProof.Rows
noncomputable def gw:aD->D
 |.inl i=>.int i
 |.inr s=>.str s
def qi{K:Frag}{a:Hp}{k:aD}{v:V}(r:Rp K a (gw k) v):v=kV k:=by
 cases k with
 |inl i=>obtain rfl:=r.i;rfl
 |inr s=>obtain rfl:=r.s;rfl
def sh{K:Frag}{a H:Hp}{k:aD}{v:V}(r:RpQ K a H (gw k) v):v=kV k:=by
 cases k with
 |inl i=>exact RpQ.int r
 |inr s=>exact RpQ.str r
def rZ{K:Frag}{g:Hp}{a:List aD}{vs:List V}(r:RpL K g (a.map gw) vs):vs=a.map kV:=by
 refine Jo λi=>?_;rw[Ii]
 cases h:a[i]? with
 |none=>
  have c:=JR.mp h;exact IX (by rw[r.1,HV];exact c)
 |some k=>
  obtain⟨v,e,f⟩:=r.at (i:=i) (d:=gw k) (by rw[Ii,h];rfl);rw[e,qi f];rfl
noncomputable def fb(k:aD)(a:List aD):Bool:=a.any λj=>decide (j=k)
def pH(k:aD)(a:List aD):fb k a=true↔k∈a:=by unfold fb;rw[Li];exact⟨λ⟨j,c,e⟩=>Ir e▸c,λh=>⟨k,h,Jc rfl⟩⟩
def lX(k:aD):gf (kV k)=true:=by cases k<;>rfl
def xX(j k:aD):gt (kV j) (kV k)=decide (j=k):=by
 cases j with
 |inl a=>
  cases k with
  |inl b=>show (a==b)=_;by_cases h:a=b<;>simp[h]
  |inr b=>show false=_;simp
 |inr a=>
  cases k with
  |inl b=>show false=_;simp
  |inr b=>show (a==b)=_;by_cases h:a=b<;>simp[h]
def uG(k:aD)(a:List aD):eY (kV k) (a.map kV)=fb k a:=by unfold eY fb;rw[Mi];exact List.any_congr rfl λj=>xX j k
noncomputable def vM(a:Bool):bW:=λe f R=>∃(k:aD)(c:List aD),e=gw k/\gh f=some (c.map gw)/\R (.bl (a != fb k c))
section
variable{K:Frag}{X:Cx}
def l0:OpD K X (compareOp .In) (vM false):=⟨λo c s E H x y u v Q I A B l=>by
 obtain⟨C,F,G,R,g,p,r,⟨k,f,rfl,e,h⟩,w⟩:=l;cases sh p;obtain⟨a,vs,rfl,q,rl⟩:=r.seq g e;cases rZ rl;refine vI c s E H _ _ u v Q I A B ⟨a,_,rfl,by rw[o];exact q,lX k,?_,?_⟩
 ·rw[IC];intro z t;obtain⟨j,_,rfl⟩:=IM.mp t;exact lX j
 ·have m:(if false=true then !eY (kV k) (f.map kV) else eY (kV k) (f.map kV))=(false != fb k f):=by rw[uG];simp
  rw[m]
  exact w _ C H _ h (.refl g) (.bl _)⟩
def lR:OpD K X (compareOp .NotIn) (vM true):=⟨λo c s E H x y u v Q I A B l=>by
 obtain⟨C,F,G,R,g,p,r,⟨k,f,rfl,e,h⟩,w⟩:=l;cases sh p;obtain⟨a,vs,rfl,q,rl⟩:=r.seq g e;cases rZ rl;refine EC c s E H _ _ u v Q I A B ⟨a,_,rfl,by rw[o];exact q,lX k,?_,?_⟩
 ·rw[IC];intro z t;obtain⟨j,_,rfl⟩:=IM.mp t;exact lX j
 ·have m:(if true=true then !eY (kV k) (f.map kV) else eY (kV k) (f.map kV))=(true != fb k f):=by rw[uG];simp
  rw[m]
  exact w _ C H _ h (.refl g) (.bl _)⟩
end
def ut:∀{a:List Str}{us:List Value},Vals (a.map V.str) us->∃l:List (Str×Tok),us=strValues l/\l.map (·.1)=a
 | [],_,h=>by rw[Mg]at h;cases h;exact⟨[],rfl,rfl⟩
 |z::a,_,h=>by
  rw[IE]at h
  cases h with
  |cons r t=>
   obtain⟨c,rfl⟩:=r;obtain⟨l,rfl,e⟩:=ut t;exact⟨(z,c)::l,rfl,by rw[IE,e]⟩
section
variable{K:Frag}{X:Cx}
def Cy{g:Hp}{a:List Str}{vs:List V}(r:RpL K g (a.map D.str) vs):vs=a.map V.str:=by
 refine Jo λi=>?_;rw[Ii]
 cases h:a[i]? with
 |none=>
  have c:=JR.mp h;exact IX (by rw[r.1,HV];exact c)
 |some z=>
  obtain⟨v,e,f⟩:=r.at (i:=i) (d:=.str z) (by rw[Ii,h];rfl);rw[e];obtain rfl:=f.s;rfl
noncomputable def uN(d:D):TD:=λ_ R=>R d
def ms{x:Str}{i:Int}{c:Tok}{a:Pos}(f:Gl X x)(g:X.mg x=some (.int i c))(hd:(x==("__debug__":Str))=false:=by decide):PD K X (.Name x a) (uN (.int i)):=
 ⟨λl=>(uI (v:=.int i) f g ⟨c,rfl⟩ hd).imp λm H Q e=>by
  obtain⟨j,h,ρ,R,E,t,k⟩:=e
  exact k _ h H _ t (.refl E.fz) (.int i)⟩
end
end L2
namespace L2
open PySem PySem.Spec PySem.W PyProof.Rows PySem.Calls
end L2
namespace L2
open PySem PySem.Spec PyProof.Rows
section
variable{K:Frag}{X:Cx}{a:Expr}{pos p p2 QA:Pos}{tl:aX}
def DQ(A:X.calm=true):eU X (.type "list") (λxs H Q=>∃p j,xs=[.ref p]/\H p=some (.rng 0 j)/\-(2^62)<=j/\j<=1000/\∀l,H l=none->Q (.ref l) (aj H l (.lst (fQ j.toNat)))):=by
 intro g s P H xs us Q I r h;obtain⟨p,j,rfl,F,N,R,q⟩:=h;obtain⟨u,rfl,O⟩:=gQ r;cases O;obtain⟨t,u,v,E⟩:=(show ObjOk X.prog X.w H s.heap p (.rng 0 j)from I.hok p _ F)
 have C:Builtin.Range.rangeSize 0 j 1=(j.toNat:Int):=by rw[rangeSize_one];split<;>omega
 refine call_list_range (I.ok.hd A) E (small_one (by decide) (by decide) N (by omega)) C (by omega) λh' w f c kp B m=>?_
 have G:Vals (fQ j.toNat) f.toList:=rS (by rw[mX,Jl,m.1]) λi x y J M=>by rw[vK J];obtain⟨t,rfl⟩:=m.2 i y (by simpa using M);exact⟨t,by simp⟩
 have z:Inv X g P (aj H s.heap.objs.size (.lst (fQ j.toNat))) { s with heap:=h',toks:=w }:=
  I.laid (t':=w) (λb o e=>kp b o e) (Ih _) (show ObjOk X.prog X.w _ _ _ (.lst (fQ j.toNat))from ⟨by rw[mX,Ju];omega,f.toList,c,G,by simpa using B⟩)
 exact⟨.ref s.heap.objs.size,_,z,rfl,q _ (I.hok.fresh (Ih _))⟩
noncomputable def CW(t:aX):aX:=λρ R=>t ρ λds=>match ds with| [.int j]=>(-(2^62)<=j/\j<=1000)/\R (fk 0 j.toNat)|_=>False
def wN(u:X.calm=true)(e:Gl X "list")(z:X.mg "list"=none)(y:Gl X "range")(A:X.mg "range"=none)(F:PAD K X [a] tl)(G:starEach [a] X.env=[(false,eval a X.env)]:=by rfl) :
  PF K X (.Call (.Name "list" p) [.Call (.Name "range" p2) [a] [] QA] [] pos) (CW tl):=
 ⟨λC=>(pY (DQ u) e z boot_list (dA (xk y A (F.pa C) G) pa_nil bP) (by decide) (by decide) bP ag).imp λO H Q w=>by
  obtain⟨m,M,ρ,R,E,t,k⟩:=w
  exact⟨m,M,ρ,_,E,t,λds N o vs r g rl _=>by
   match ds,r with
   | [.int j],r=>
    obtain⟨v,rfl,J⟩:=rl.one_inv;obtain rfl:=J.i;refine⟨j,rfl,λI h=>⟨I,j,rfl,bg,r.1.1,r.1.2,λl f=>?_⟩⟩;have c:=Gr.fresh g.s h (.rng 0 j);have B:=Gr.fresh c.s f (.lst (fQ j.toNat));have x:o l=none:=c.h.free f
    exact k _ _ _ l _ r.2 ((g.trans c).trans B) (g.h.free x) (c.s.free f) bg (zP _)⟩⟩
end
structure Cl(P:Program)(w:World)(K:Frag)(mg:Str->Option Value)(base:Heap)(n:Nat)(x:Str)(ps:List Str)(z:b9):Prop where
 ex:∃(f:Addr)(fd:FuncData),FnOk P w K mg base bf n f fd ps (jh K z)/\Binds K fd ps []/\keepIn K (.ref f)=true/\mg x=some (.ref f)
section
variable{P:Program}{w:World}{K:Frag}{mg:Str->Option Value}{base:Heap}{n m:Nat}{x:Str}{ps:List Str}{z:b9}{X:Cx}{e:Expr}{es:List Expr}{pos p:Pos}{tl:aX}{st:Stmt}{f:Addr}{fd:FuncData}{h:Heap}
def Cl.mono(C:Cl P w K mg base n x ps z)(k:n<=m:=by decide):Cl P w K mg base m x ps z:=by obtain⟨f,fd,F,r⟩:=C.ex;exact⟨f,fd,F.mono k,r⟩
def Cl.of(F:Fun K x x st f fd)(b:Binds K fd ps [])(m:mg x=some (.ref f))(H:FnOk P w K mg base bf n f fd ps (jh K z)):Cl P w K mg base n x ps z:=⟨f,fd,H,b,F.kp,m⟩
def bM(C:Cl X.prog X.w K X.mg X.base n x ps z)(r:Room n X.A)(o:Gl X x)
  (j:PAD K X (e::es) tl) (l:starEach (e::es) X.env=(false,eval e X.env)::starEach es X.env) (c:(backTo pos (starEach es X.env)).any (·.1)=false) (a:(x==("__debug__":Str))=false:=by decide) :
  PD K X (.Call (.Name x p) (e::es) [] pos) (nz z tl):=⟨λg=>by
 subst g;obtain⟨f,fd,F,b,k,m⟩:=C.ex
 exact (Ho F r o m k b nM j l c a).pe rfl⟩
noncomputable def dE(P:Params)(x:Str)(n:Nat)(v:Value):DictEntry:=⟨PyData.keyHash P x,.str x n,v⟩
noncomputable def cO(n:Str)(a:Nat)(q:Str)(b c:Nat)(l m:Int)(k:Int)(r:Nat)(g:Int)(t:Nat)(x y:Value)(z:Nat)(i:Int)(d:Nat):Obj:=⟨.type "code",none,.fields #[.str n a,.str q b,.str "/claim/cut.py" c,.int l 0,.int m 0,.int 0 0,.int 0 0,.int k 0,.ref r,.bool true,.int g 0,.ref t,.none,x,y,.ref z,.int i 0,.int l 0,.str "/claim/cut.py" d],#[]⟩
noncomputable def fO(s:Stmt)(n q m:Str)(i c:Nat):Obj:=⟨.type "function",none,.func (fnOf n q (da s) (cw s) (ay s) .none .none .none (.str m i) none (.ref c) .none),#[]⟩
noncomputable def Has(K:Frag)(s:Stmt)(x:Str):Prop:=∃f m i c,nsIn K mainGlobals x=some (some (.ref f))/\K.lookup f=some (fO s x x m i c)/\codeIn K (.ref c) x=true
def Has.of{s:Stmt}{m:Str}{i c:Nat}(a:nsIn K mainGlobals x=some (some (.ref f)))(l:K.lookup f=some (fO s x x m i c))(k:codeIn K (.ref c) x=true):Has K s x:=⟨f,m,i,c,a,l,k⟩
def Has.fn(a:Has K st x)(X:K.In h)(G:h.Ns mainGlobals mg):∃f fd,Fun K x x st f fd/\mg x=some (.ref f)/\∃m i c,fd=fnOf x x (da st) (cw st) (ay st) .none .none .none (.str m i) none (.ref c) .none:=by obtain⟨f,m,i,c,a,l,k⟩:=a;exact⟨f,_,kJ l k (by unfold keepIn;simp only[l];rfl),K3 X G a,m,i,c,rfl⟩
def Fun.cl(F:Fun K x x st f fd)(m:mg x=some (.ref f))(H:FnOk P w K mg base bf n f fd ps (jh K z))
  (b:∀(kV a j:Value)(g:Option Addr)(c ct:Value)(us:List Value),us.length=ps.length->bindArgs (fnOf x x (da st) (cw st) (ay st) .none kV a j g c ct) ⟨us,[]⟩=pure (ps.zip us)):Cl P w K mg base n x ps z:=.of F (F.binds b) m H
end
section
variable{P:Program}{w:World}{H:Hp}{h:Heap}{a:Addr}{o:HO}
def HOk.know(x:HOk P w H h)(f:H a=none)(new:ObjOk P w (aj H a o) h a o):HOk P w (aj H a o) h:=λb u e=>by
 by_cases g:b=a
 ·subst g;rw[bg]at e;cases e;exact new
 ·rw[aE g]at e
  exact (x b u e).stay (λc v _ q=>q) (λc q=>by rw[aE (cD q f)];exact q) (λc xs q=>by rw[aE (cD q f)];exact q) λc j l q=>by rw[aE (cD q f)];exact q
end
end L2
namespace L2
open PySem PySem.Spec PySem.W PyProof.Rows PySem.Calls
end L2
namespace L2
open PySem PySem.Spec PyProof.Rows
noncomputable def Az(r a:bW)(c tb e:TD):bL:=λρ R=>c ρ λx=>tb ρ λy=>r x y λz=>match z with
 |.bl k=>(k=true->e ρ λw=>a y w λd=>match d with|.bl b=>R b|_=>False)/\(k=false->R false)
 |_=>False
section
variable{K:Frag}{X:Cx}{a b c:Expr}{ta tb tc:TD}{pos:Pos}
def GR{u m:CmpOp}{r P:bW}(ho:OpD K X (compareOp u) r)(Y:OpD K X (compareOp m) P)(ha:PQ K X a ta)(hb:PQ K X b tb)(hc:PQ K X c tc)(hm:lastMarks [u,m] [b,c]=false) :
  PTD K X (.Compare a [u,m] [b,c] pos) (Az r P ta tb tc):=⟨λe=>(As (ho.o e) (Y.o e) (ha.pe e) (hb.pe e) (hc.pe e) hm).imp λσ H Q h=>by
 obtain⟨l,Φ,ρ,R,E,t,k⟩:=h;refine⟨l,Φ,ρ,_,E,t,λZ B H1 x t1 M rx=>⟨l,B,ρ,_,E.gr M,t1,λJ C H2 y t2 o S=>⟨C,Z,J,_,o.s,rx.gr o,S,t2,λd f T v j N rr=>?_⟩⟩⟩;obtain⟨O,rfl,j⟩:=gR j;obtain rfl:=rr.b;refine⟨O,rfl,?_⟩;have g:=(M.trans o).trans N
 cases O with
 |false=>exact ite_ff ⟨false,rfl,k false f T (j.2 rfl) g⟩
 |true=>
  refine ite_tt ⟨l,f,ρ,_,E.gr g,j.1 rfl,λdz F H4 w t4 p rw=>⟨F,J,dz,_,p.s,(S.gr N).gr p,rw,t4,λd5 G U v5 z g5 A=>?_⟩⟩;obtain⟨I,rfl,z⟩:=gR z
  obtain rfl:=A.b;exact⟨I,rfl,k I G U z ((g.trans p).trans g5)⟩⟩
end
inductive Fl where|v (d:D)|l (xs:List D)|al (p:Addr)
inductive Om where|lst (xs:List D)|map (MU:List (aD×D))|mpT (MU:List (List aD×D))|obj (nm:Str) (fs:List (Str×Fl))|ptr|tl (ps:List (Addr×Option (List D)))|pr (xs:List D) (d:D)
noncomputable def Om.solid:Om->Bool
 |.ptr=>false
 |.tl _=>false
 |.pr _ _=>false
 |_=>true
inductive Sm where|v (d:D)|ob (a:Option Addr) (o:Om)
noncomputable abbrev Sm.own(xs:List D):Sm:=.ob none (.lst xs)
noncomputable abbrev ak:=List (Option Sm)
noncomputable def eP{c:Type}(K:Frag)(e:Hp)(a:c×D)(b:c×V):Prop:=a.1=b.1/\Rp K e a.2 b.2
inductive FlsR(K:Frag)(Φ H:Hp):List (Str×Fl)->List (Str×V)->List Addr->Prop where
 |nil:FlsR K Φ H [] [] []
 |v {f:Str} {d:D} {v:V} {fs:List (Str×Fl)} {vs:List (Str×V)} {qs:List Addr}:Rp K Φ d v->FlsR K Φ H fs vs qs->FlsR K Φ H ((f,.v d)::fs) ((f,v)::vs) qs
 |l {f:Str} {ds:List D} {ws:List V} {q:Addr} {fs:List (Str×Fl)} {vs:List (Str×V)} {qs:List Addr}:H q=some (.lst ws)->RpL K Φ ds ws->FlsR K Φ H fs vs qs->FlsR K Φ H ((f,.l ds)::fs) ((f,.ref q)::vs) (q::qs)
 |al {f:Str} {p:Addr} {fs:List (Str×Fl)} {vs:List (Str×V)} {qs:List Addr}:FlsR K Φ H fs vs qs->FlsR K Φ H ((f,.al p)::fs) ((f,.ref p)::vs) qs
inductive TlS(K:Frag)(Φ H:Hp):List (Addr×Option (List D))->List Addr->Prop where
 |nil:TlS K Φ H [] []
 |ptr {q:Addr} {ps:List (Addr×Option (List D))} {F:List Addr}:TlS K Φ H ps F->TlS K Φ H ((q,none)::ps) F
 |own {q:Addr} {ds:List D} {ws:List V} {ps:List (Addr×Option (List D))} {F:List Addr}:H q=some (.lst ws)->RpL K Φ ds ws->TlS K Φ H ps F->TlS K Φ H ((q,some ds)::ps) (q::F)
inductive OmS(K:Frag)(Φ H:Hp):Om->Addr->List Addr->Prop where
 |lst {ds:List D} {vs:List V} {p:Addr}:H p=some (.lst vs)->RpL K Φ ds vs->OmS K Φ H (.lst ds) p [p]
 |map {MU:List (aD×D)} {ws:List (aD×V)} {p:Addr}:H p=some (.dK ws)->Paired (eP K Φ) MU ws->OmS K Φ H (.map MU) p [p]
 |mpT {MU:List (List aD×D)} {ws:List (List aD×V)} {p:Addr}:H p=some (.dT ws)->Paired (eP K Φ) MU ws->OmS K Φ H (.mpT MU) p [p]
 |obj {nm:Str} {fs:List (Str×Fl)} {C dx:Addr} {vs:List (Str×V)} {p:Addr} {qs:List Addr}:nsIn K mainGlobals nm=some (some (.ref C))->H p=some (.ins C dx vs)->FlsR K Φ H fs vs qs->(p::qs).Nodup->OmS K Φ H (.obj nm fs) p (p::qs)
 |ptr {p:Addr}:OmS K Φ H .ptr p []
 |tl {ps:List (Addr×Option (List D))} {p:Addr} {F:List Addr}:Φ p=some (.tup (ps.map λq=>V.ref q.1))->TlS K Φ H ps F->F.Nodup->OmS K Φ H (.tl ps) p F
 |pr {ds:List D} {d:D} {p q:Addr} {v:V} {ws:List V}:Φ p=some (.tup [.ref q,v])->H q=some (.lst ws)->RpL K Φ ds ws->Rp K Φ d v->OmS K Φ H (.pr ds d) p [q]
section
variable{K:Frag}{H H' Φ Φ':Hp}{fs:List (Str×Fl)}{vs:List (Str×V)}{qs F:List Addr}{o:Om}{p:Addr}
def nu{a c:Type}{F G:a->c->Prop}(h:∀x y,F x y->G x y):∀{l:List a}{m:List c},Paired F l m->Paired G l m
 |_,_,.nil=>.nil
 |_,_,.cons r t=>.cons (h _ _ r) (nu h t)
def FlsR.keep(s:Same Φ Φ')(h:FlsR K Φ H fs vs qs)(k:∀b∈qs,∀u,H b=some u->H' b=some u):FlsR K Φ' H' fs vs qs:=by
 induction h with
 |nil=>exact .nil
 |v r _ a=>exact .v (r.same s) (a k)
 |l c e _ a=>exact .l (k _ Ie _ c) (e.same s) (a λb f=>k b (Ic _ f))
 |al _ a=>exact .al (a k)
def FlsR.at(h:FlsR K Φ H fs vs qs):∀b∈qs,∃ws,H b=some (.lst ws):=by
 induction h with
 |nil=>intro b a;cases a
 |v r _ c=>exact c
 |l e f _ c=>
  intro b a;rcases Ik.mp a with rfl|a
  ·exact⟨_,e⟩
  ·exact c b a
 |al _ c=>exact c
def FlsR.names(h:FlsR K Φ H fs vs qs):vs.map (·.1)=fs.map (·.1):=by
 induction h with
 |nil=>rfl
 |v r _ a=>rw[IE,IE,a]
 |l c e _ a=>rw[IE,IE,a]
 |al _ a=>rw[IE,IE,a]
def TlS.keep{ps:List (Addr×Option (List D))}(s:Same Φ Φ')(h:TlS K Φ H ps F)(k:∀b∈F,∀u,H b=some u->H' b=some u):TlS K Φ' H' ps F:=by
 induction h with
 |nil=>exact .nil
 |ptr _ a=>exact .ptr (a k)
 |own c e _ a=>exact .own (k _ Ie _ c) (e.same s) (a λb f=>k b (Ic _ f))
def TlS.at{ps:List (Addr×Option (List D))}(h:TlS K Φ H ps F):∀b∈F,∃ws,H b=some (.lst ws):=by
 induction h with
 |nil=>intro b a;cases a
 |ptr _ c=>exact c
 |own e f _ c=>
  intro b a;rcases Ik.mp a with rfl|a
  ·exact⟨_,e⟩
  ·exact c b a
def OmS.keep(s:Same Φ Φ')(h:OmS K Φ H o p F)(k:∀b∈F,∀u,H b=some u->H' b=some u):OmS K Φ' H' o p F:=by
 cases h with
 |lst a c=>exact .lst (k _ Ie _ a) (c.same s)
 |map a c=>exact .map (k _ Ie _ a) (nu (λ_ _ r=>⟨r.1,r.2.same s⟩) c)
 |mpT a c=>exact .mpT (k _ Ie _ a) (nu (λ_ _ r=>⟨r.1,r.2.same s⟩) c)
 |obj f a c e=>exact .obj f (k _ Ie _ a) (c.keep s λb j=>k b (Ic _ j)) e
 |ptr=>exact .ptr
 |tl a c e=>exact .tl (s _ _ a) (c.keep s k) e
 |pr a c e g=>exact .pr (s _ _ a) (k _ Ie _ c) (e.same s) (g.same s)
def OmS.mem(h:OmS K Φ H o p F)(a:o.solid=true:=by rfl):p∈F:=by cases h<;>first|exact Ie|cases a
def OmS.at(h:OmS K Φ H o p F):∀b∈F,∃u,H b=some u/\ng u:=by
 intro b c
 cases h with
 |lst a e=>rw[Ip.mp c];exact⟨_,a,trivial⟩
 |map a e=>rw[Ip.mp c];exact⟨_,a,trivial⟩
 |mpT a e=>rw[Ip.mp c];exact⟨_,a,trivial⟩
 |obj j a e g=>
  rcases Ik.mp c with rfl|c
  ·exact⟨_,a,trivial⟩
  ·obtain⟨ws,f⟩:=e.at b c;exact⟨_,f,trivial⟩
 |ptr=>cases c
 |tl a e g=>
  obtain⟨ws,f⟩:=e.at b c;exact⟨_,f,trivial⟩
 |pr a e g l=>rw[Ip.mp c];exact⟨_,e,trivial⟩
def OmS.lst_inv{ds:List D}(h:OmS K Φ H (.lst ds) p F):F=[p]/\∃vs,H p=some (.lst vs)/\RpL K Φ ds vs:=by
 cases h with
 |lst a c=>exact⟨rfl,_,a,c⟩
def OmS.map_inv{a:List (aD×D)}(h:OmS K Φ H (.map a) p F):F=[p]/\∃ws,H p=some (.dK ws)/\Paired (eP K Φ) a ws:=by
 cases h with
 |map c e=>exact⟨rfl,_,c,e⟩
def OmS.mpT_inv{a:List (List aD×D)}(h:OmS K Φ H (.mpT a) p F):F=[p]/\∃ws,H p=some (.dT ws)/\Paired (eP K Φ) a ws:=by
 cases h with
 |mpT c e=>exact⟨rfl,_,c,e⟩
def OmS.obj_inv{nm:Str}(h:OmS K Φ H (.obj nm fs) p F):∃C a vs qs,F=p::qs/\nsIn K mainGlobals nm=some (some (.ref C))/\H p=some (.ins C a vs)/\FlsR K Φ H fs vs qs/\(p::qs).Nodup:=by
 cases h with
 |obj c e f g=>exact⟨_,_,_,_,rfl,c,e,f,g⟩
def OmS.gr(g:Gr Φ H Φ' H')(h:OmS K Φ H o p F):OmS K Φ' H' o p F:=h.keep g.f λb _ u e=>g.h b u e
end
structure EnvM'(K:Frag)(H0 Φ H:Hp)(σ:St)(ρ:ak)(fp:Nat->List Addr):Prop where
 fz:Same Φ H
 len:σ.length=ρ.length
 sl:∀(i:Nat)(d:D),ρ[i]?=some (some (.v d))->∃v,σ[i]?=some (some v)/\Rp K Φ d v
 ow:∀(i:Nat)(a:Option Addr)(o:Om),ρ[i]?=some (some (.ob a o))->∃p,σ[i]?=some (some (.ref p))/\(∀q,a=some q->q=p)/\OmS K Φ H o p (fp i)
 no:∀(i:Nat)(a:Option Addr)(o:Om),ρ[i]?=some (some (.ob a o))->∀b∈fp i,H0 b=none/\Φ b=none
 dj:∀(i j:Nat)(a a':Option Addr)(o o':Om),ρ[i]?=some (some (.ob a o))->ρ[j]?=some (some (.ob a' o'))->i≠j->∀b∈fp i,b∉fp j
 tb:TabF K Φ
noncomputable def EnvM(K:Frag)(a e H:Hp)(f:St)(ρ:ak):Prop:=∃c,EnvM' K a e H f ρ c
section
variable{K:Frag}{H0 H H' Φ Φ' Φ0:Hp}{σ σ2:St}{ρ ρ2:ak}{fp:Nat->List Addr}{F F':List Addr}{o o':Om}{p:Addr}{d:D}{v:V}{i:Nat}{a:Option Addr}
def EnvM.fz(E:EnvM K H0 Φ H σ ρ):Same Φ H:=let ⟨_,E⟩:=E;E.fz
def EnvM.tb(E:EnvM K H0 Φ H σ ρ):TabF K Φ:=let ⟨_,E⟩:=E;E.tb
def EnvM.len(E:EnvM K H0 Φ H σ ρ):σ.length=ρ.length:=let ⟨_,E⟩:=E;E.len
def EnvM.sl(E:EnvM K H0 Φ H σ ρ)(h:ρ[i]?=some (some (.v d))):∃v,σ[i]?=some (some v)/\Rp K Φ d v:=let ⟨_,E⟩:=E;E.sl i d h
def EnvM'.gr(E:EnvM' K H0 Φ H σ ρ fp)(g:Gr Φ H Φ' H'):EnvM' K H0 Φ' H' σ ρ fp:=
 ⟨g.s,E.len,λi d h=>let ⟨v,e,r⟩:=E.sl i d h;⟨v,e,r.same g.f⟩,λi a o h=>let ⟨p,e,ha,r⟩:=E.ow i a o h;⟨p,e,ha,r.gr g⟩,
  λi a o h b c=>by
   obtain⟨p,_,_,r⟩:=E.ow i a o h;obtain⟨u,f,k⟩:=r.at b c
   exact⟨(E.no i a o h b c).1,g.o b u f (E.no i a o h b c).2 k⟩,E.dj,E.tb.same g.f⟩
def EnvM.gr(E:EnvM K H0 Φ H σ ρ)(g:Gr Φ H Φ' H'):EnvM K H0 Φ' H' σ ρ:=let ⟨fp,E⟩:=E;⟨fp,E.gr g⟩
def EnvM.re(m:Nat->Nat)(E:EnvM K H0 Φ H σ ρ)(u:σ2.length=ρ2.length)(h:∀(i:Nat)(x:Sm),ρ2[i]?=some (some x)->ρ[m i]?=some (some x)/\σ2[i]?=σ[m i]?)
  (inj:∀(i j:Nat)(a f:Option Addr)(o o':Om),ρ2[i]?=some (some (.ob a o))->ρ2[j]?=some (some (.ob f o'))->m i=m j->i=j):EnvM K H0 Φ H σ2 ρ2:=by
 obtain⟨fp,E⟩:=E;refine⟨λi=>fp (m i),E.fz,u,λi d hd=>?_,λi a o g=>?_,λi a o g=>E.no _ a o (h i _ g).1,λi j a f o o' l t c=>E.dj _ _ a f o o' (h i _ l).1 (h j _ t).1 λe=>c (inj i j a f o o' l t e),E.tb⟩
 ·obtain⟨v,e,r⟩:=E.sl _ d (h i _ hd).1;exact⟨v,by rw[(h i _ hd).2];exact e,r⟩
 ·obtain⟨p,e,r⟩:=E.ow _ a o (h i _ g).1;exact⟨p,by rw[(h i _ g).2];exact e,r⟩
def EnvM.take{l:St}{h:ak}(E:EnvM K H0 Φ H (σ++l) (ρ++h))(g:ρ.length=σ.length):EnvM K H0 Φ H σ ρ:=
 E.re id g.symm (λi x c=>by
  have f:=ba c
  exact⟨by rw[id,HW f];exact c,by rw[id,HW (by omega)]⟩) λi j _ _ _ _ _ _ e=>e
def EnvM'.take{m:St}{l:ak}(E:EnvM' K H0 Φ H (σ++m) (ρ++l) fp)(g:ρ.length=σ.length):EnvM' K H0 Φ H σ ρ fp:=by
 have c:∀{i:Nat}{x:Sm},ρ[i]?=some (some x)->(ρ++l)[i]?=some (some x):=λh=>by rw[HW (ba h)];exact h
 have f:∀{i:Nat}{x:Sm}{y:Option V},ρ[i]?=some (some x)->(σ++m)[i]?=some y->σ[i]?=some y:=λh e=>by rwa [HW (by rw[←g];exact ba h)]at e
 exact⟨E.fz,g.symm,λi d h=>let ⟨v,e,r⟩:=E.sl i d (c h);⟨v,f h e,r⟩,λi a o h=>let ⟨p,e,r⟩:=E.ow i a o (c h);⟨p,f h e,r⟩,λi a o h=>E.no i a o (c h),λi j a t o o' u w=>E.dj i j a t o o' (c u) (c w),E.tb⟩
def EnvM.store{v:V}{x:Sm}(E:EnvM K H0 Φ H (σ++[some v]) (ρ++[some x]))(i:Nat):EnvM K H0 Φ H (σ.set i (some v)) (ρ.set i (some x)):=by
 have h:σ.length=ρ.length:=by have:=E.len;simpa using this
 refine E.re (λj=>if j=i then ρ.length else j) (by rw[Im,Im,h]) (λj y f=>?_) λj k a t o o' f l e=>?_
 ·by_cases c:j=i
  ·subst c
   have g:j<ρ.length:=by have:=ba f;rwa [Im]at this
   rw[IP g]at f;cases f;rw[Ia rfl,IP (by omega),HX (Ih _),HX (by omega),Jn,h,Jn];exact⟨rfl,rfl⟩
  ·rw[IL (Jj c)]at f;have g:=ba f;rw[Ib c,IL (Jj c),HW g,HW (by omega)];exact⟨f,rfl⟩
 ·have r:j<ρ.length:=by have:=ba f;rwa [Im]at this
  have m:k<ρ.length:=by have:=ba l;rwa [Im]at this
  have e:(if j=i then ρ.length else j)=(if k=i then ρ.length else k):=e;split at e<;>split at e<;>omega
def EnvM.snocV(E:EnvM K H0 Φ H σ ρ)(r:Rp K Φ d v):EnvM K H0 Φ H (σ++[some v]) (ρ++[some (.v d)]):=by
 obtain⟨fp,E⟩:=E
 have old:∀{i:Nat}{a:Option Addr}{o:Om},(ρ++[some (Sm.v d)])[i]?=some (some (.ob a o))->ρ[i]?=some (some (.ob a o)):=λ{i a o} h=>by
  rcases IU i ρ.length with c|c
  ·rwa [HW c]at h
  ·rw[HX c]at h
   cases e:i-ρ.length with
   |zero=>rw[e]at h;cases h
   |succ n=>rw[e]at h;cases h
 refine⟨fp,E.fz,by rw[HY,HY,E.len];rfl,λi d' h=>?_,λi a o h=>?_,λi a o h=>E.no i a o (old h),λi j a g o o' f l=>E.dj i j a g o o' (old f) (old l),E.tb⟩
 ·rcases IU i ρ.length with c|c
  ·rw[HW c]at h;obtain⟨u,e,r⟩:=E.sl i d' h;exact⟨u,by rw[HW (by rw[E.len];exact c)];exact e,r⟩
  ·rw[HX c]at h
   cases e:i-ρ.length with
   |zero=>
    rw[e]at h;cases h;exact⟨v,by rw[HX (by rw[E.len];exact c),E.len,e];rfl,r⟩
   |succ n=>rw[e]at h;cases h
 ·obtain⟨p,e,r⟩:=E.ow i a o (old h);have f:=ba (old h);exact⟨p,by rw[HW (by rw[E.len];exact f)];exact e,r⟩
def EnvM.snocO(E:EnvM K H0 Φ H σ ρ)(O:Same H0 H)(g:Gr Φ H Φ' H')(N:OmS K Φ' H' o p F)(B:∀b∈F,H b=none/\Φ' b=none):EnvM K H0 Φ' H' (σ++[some (.ref p)]) (ρ++[some (.ob none o)]):=by
 obtain⟨fp,E⟩:=E
 have old:∀b∈F,∀(i:Nat)(a:Option Addr)(o:Om),ρ[i]?=some (some (.ob a o))->b∉fp i:=λb f i a o h z=>by obtain⟨q,_,_,r⟩:=E.ow i a o h;obtain⟨u,I,_⟩:=r.at b z;rw[(B b f).1]at I;cases I
 have w:=E.gr g
 have t:∀{i:Nat}{x:Sm},(ρ++[some (Sm.ob none o)])[i]?=some (some x)->(i<ρ.length/\ρ[i]?=some (some x))\/(i=ρ.length/\x=.ob none o):=λ{i x} h=>by
  rcases IU i ρ.length with c|c
  ·rw[HW c]at h;exact .inl ⟨c,h⟩
  ·rw[HX c]at h
   cases e:i-ρ.length with
   |zero=>rw[e]at h;cases h;exact .inr ⟨by omega,rfl⟩
   |succ n=>rw[e]at h;cases h
 refine⟨λi=>if i=ρ.length then F else fp i,w.fz,by rw[HY,HY,E.len];rfl,λi d h=>?_,λi a o' h=>?_,λi a o' h b f=>?_,λi j a C J M y l c b f m=>?_,w.tb⟩
 ·rcases t h with⟨c,h⟩|⟨_,h⟩
  ·obtain⟨v,e,r⟩:=w.sl i d h;exact⟨v,by rw[HW (by rw[E.len];exact c)];exact e,r⟩
  ·cases h
 ·rcases t h with⟨c,h⟩|⟨c,h⟩
  ·obtain⟨q,e,r⟩:=w.ow i a o' h;exact⟨q,by rw[HW (by rw[E.len];exact c)];exact e,by rw[Ib (by omega)];exact r⟩
  ·cases h;subst c;refine⟨p,by rw[HX (by rw[E.len];exact Ih _),E.len,Jn];rfl,(λq e=>by cases e),by rw[Ia rfl];exact N⟩
 ·rcases t h with⟨c,h⟩|⟨c,h⟩
  ·rw[Ib (by omega)]at f;exact w.no i a o' h b f
  ·rw[Ia c]at f;exact⟨O.free (B b f).1,(B b f).2⟩
 ·rcases t y with⟨G,y⟩|⟨G,y⟩
  ·rw[Ib (by omega)]at f;rcases t l with⟨A,l⟩|⟨A,l⟩
   ·rw[Ib (by omega)]at m;exact E.dj i j a C J M y l c b f m
   ·rw[Ia A]at m;exact old b m i a J y f
  ·rw[Ia G]at f;rcases t l with⟨A,l⟩|⟨A,l⟩
   ·rw[Ib (by omega)]at m;exact old b f j C M l m
   ·omega
def EnvM'.put(E:EnvM' K H0 Φ H σ ρ fp)(B:ρ[i]?=some (some (.ob a o)))(P:σ[i]?=some (some (.ref p)))(M:∀b u,H b=some u->b∉fp i->H' b=some u)(R:OmS K Φ H' o' p F')(J:∀b∈F',b∈fp i\/(H b=none/\H0 b=none/\Φ b=none)) :
  EnvM' K H0 Φ H' σ (ρ.set i (some (.ob a o'))) (λj=>if j=i then F' else fp j):=by
 have S:=ba B
 have A:∀{j:Nat}{x:Sm},(ρ.set i (some (Sm.ob a o')))[j]?=some (some x)->(j=i/\x=.ob a o')\/(j≠i/\ρ[j]?=some (some x)):=λ{j x} h=>by
  rcases er h with⟨e,_,Q⟩|⟨e,h⟩
  ·cases Q;exact .inl ⟨e,rfl⟩
  ·exact .inr ⟨e,h⟩
 have N:∀b∈F',∀(j:Nat)(l:Option Addr)(g:Om),ρ[j]?=some (some (.ob l g))->j≠i->b∉fp j:=λb f j l g m c z=>by
  rcases J b f with h|⟨h,_⟩
  ·exact E.dj j i l a g o m B c b z h
  ·obtain⟨q,_,_,r⟩:=E.ow j l g m;obtain⟨u,G,_⟩:=r.at b z;rw[h]at G;cases G
 refine⟨λb u e=>M b u (E.fz b u e) λz=>?_,by rw[Im,E.len],λj d h=>?_,λj l g h=>?_,λj l g h b f=>?_,λj k a1 a2 O g m t c b f y=>?_,E.tb⟩
 ·rw[(E.no i a o B b z).2]at e;cases e
 ·rcases A h with⟨_,h⟩|⟨_,h⟩
  ·cases h
  ·exact E.sl j d h
 ·rcases A h with⟨c,h⟩|⟨c,h⟩
  ·cases h;subst c;obtain⟨q,e,I,_⟩:=E.ow j a o B;rw[P]at e;cases e;exact⟨p,P,I,by rw[Ia rfl];exact R⟩
  ·obtain⟨q,e,I,r⟩:=E.ow j l g h;refine⟨q,e,I,?_⟩;rw[Ib c];exact r.keep (Same.refl _) λb f u G=>M b u G λz=>E.dj j i l a g o h B c b f z
 ·rcases A h with⟨c,h⟩|⟨c,h⟩
  ·rw[Ia c]at f;rcases J b f with z|⟨_,z⟩
   ·exact E.no i a o B b z
   ·exact z
  ·rw[Ib c]at f;exact E.no j l g h b f
 ·rcases A m with⟨C,m⟩|⟨C,m⟩
  ·rw[Ia C]at f;rcases A t with⟨w,t⟩|⟨w,t⟩
   ·omega
   ·rw[Ib w]at y;exact N b f k a2 g t w y
  ·rw[Ib C]at f;rcases A t with⟨w,t⟩|⟨w,t⟩
   ·rw[Ia w]at y;exact N b y j a1 O m C f
   ·rw[Ib w]at y;exact E.dj j k a1 a2 O g m t c b f y
def EnvM'.grput(E:EnvM' K H0 Φ H σ ρ fp)(g:Gr Φ0 H0 Φ H)(f:ρ[i]?=some (some (.ob a o)))(c:∀b u,H b=some u->b∉fp i->H' b=some u):Gr Φ0 H0 Φ H':=
 ⟨g.f,λb u e=>c b u (g.h b u e) (λz=>by rw[(E.no i a o f b z).1]at e;cases e),λb u e=>c b u (g.s b u e) (λz=>by rw[(E.no i a o f b z).2]at e;cases e),λp u h j k=>g.o p u h j k⟩
def EnvM.list{ds:List D}(E:EnvM K H0 Φ H σ ρ)(g:Gr Φ0 H0 Φ H)(c:ρ[i]?=some (some (.ob a (.lst ds)))):∃q vs,σ[i]?=some (some (.ref q))/\H q=some (.lst vs)/\H0 q=none/\Φ q=none/\RpL K Φ ds vs /\
  ∀(es:List D)(ws:List V),RpL K Φ es ws->EnvM K H0 Φ (aj H q (.lst ws)) σ (ρ.set i (some (.ob a (.lst es))))/\Gr Φ0 H0 Φ (aj H q (.lst ws)):=by
 obtain⟨fp,E⟩:=E;obtain⟨q,e,_,r⟩:=E.ow i a _ c;have f:=r.mem;have h:=E.no i a _ c q f;obtain⟨_,vs,m,t⟩:=r.lst_inv;refine⟨q,vs,e,m,h.1,h.2,t,λes ws l=>?_⟩
 have j:∀b u,H b=some u->b∉fp i->aj H q (.lst ws) b=some u:=λb u e x=>by
  rw[aE λz=>x (by rw[z];exact f)];exact e
 exact⟨⟨_,E.put c e j (F':=[q]) (.lst bg l) λb w=>.inl (by rw[Ip.mp w];exact f)⟩,E.grput g c j⟩
end
noncomputable def pL:Option Sm->Option Sl
 |some (.v d)=>some (.v d)
 |some (.ob _ (.lst xs))=>some (.own xs)
 |some (.ob _ (.map a))=>some (.dct (a.map (·.1)))
 |some (.ob _ (.mpT a))=>some (.dcT (a.map (·.1)))
 |_=>none
noncomputable abbrev cJ(ρ:ak):bT:=ρ.map pL
def ku{c:Type}{K:Frag}{e:Hp}:∀{a:List (c×D)}{b:List (c×V)},Paired (eP K e) a b->b.map (·.1)=a.map (·.1)
 |_,_,.nil=>rfl
 |_,_,.cons r t=>by rw[IE,IE,ku t,r.1]
def EnvM.toD{K:Frag}{C A H:Hp}{B:St}{ρ:ak}(E:EnvM K C A H B ρ):EnvD K C A H B (cJ ρ):=by
 obtain⟨J,E⟩:=E
 have at_:∀{i:Nat}{x:Sl},(cJ ρ)[i]?=some (some x)->∃y,ρ[i]?=some (some y)/\pL (some y)=some x:=λ{i x} h=>by
  rw[Ii]at h
  cases e:ρ[i]? with
  |none=>rw[e]at h;cases h
  |some y=>
   rw[e]at h
   cases y with
   |none=>cases h
   |some y=>exact⟨y,rfl,IK h⟩
 have ow:∀{i:Nat}{o:Ow},(cJ ρ)[i]?=some (some (.ob o))->∃a f p u,ρ[i]?=some (some (.ob a f))/\B[i]?=some (some (.ref p))/\p∈J i/\H p=some u/\OwR K A o u:=λ{i o} h=>by
  obtain⟨y,m,e⟩:=at_ h
  cases y with
  |v d=>cases e
  |ob a f=>
   obtain⟨p,z,_,r⟩:=E.ow i a f m;refine⟨a,f,p,?_⟩
   cases f with
   |lst ds=>obtain⟨_,vs,g,l⟩:=r.lst_inv;cases e;exact⟨_,m,z,r.mem,g,l⟩
   |map F=>obtain⟨_,vs,g,l⟩:=r.map_inv;cases e;exact⟨_,m,z,r.mem,g,ku l⟩
   |mpT F=>obtain⟨_,vs,g,l⟩:=r.mpT_inv;cases e;exact⟨_,m,z,r.mem,g,ku l⟩
   |obj nm fs=>cases e
   |ptr=>cases e
   |tl ps=>cases e
   |pr ds d=>cases e
 refine⟨E.fz,by rw[HV,E.len],λi d h=>?_,λi o h=>?_,λi j o w p O P Q R=>?_,E.tb⟩
 ·obtain⟨y,m,e⟩:=at_ h
  cases y with
  |v d'=>cases e;exact E.sl i d m
  |ob a f=>cases f<;>cases e
 ·obtain⟨a,f,p,u,g,l,t,M,N⟩:=ow h;exact⟨p,u,l,(E.no i a f g p t).1,(E.no i a f g p t).2,M,N⟩
 ·obtain⟨a,f,S,u,g,l,t,_,_⟩:=ow O;obtain⟨I,G,T,U,k1,k2,k3,_,_⟩:=ow P;rw[Q]at l;cases l;rw[R]at k2;cases k2;rcases KC (i=j)with c|c
  ·exact c
  ·exact absurd k3 (E.dj i j a I f G g k1 c p t)
noncomputable def xm(h:Heap)(e:Addr)(vs:Array Value)(T:Option Addr)(fl:Value):Prop:=match T with
 |none=>vs[1]?=some .none
 |some T=>vs[1]?=some (.ref T)/\T≠e/\∃a ts,h.get? T=some a/\a.data=.fields ts/\ts[3]?=some fl
structure Fly(h:Heap)(e:Addr)(T:Option Addr)(fl cls:Value)(dx:Option Addr):Prop where
 ex:∃oe vs,h.get? e=some oe/\oe.data=.fields vs/\oe.cls=cls/\oe.dict=dx/\xm h e vs T fl
structure Kept(fs:List Addr)(e:Addr)(T:Option Addr)(h h':Heap):Prop where
 keep:∀b o,h.get? b=some o->b≠e->some b≠T->b∉fs->h'.get? b=some o
 slot:∀b o,h.get? b=some o->b∈fs->∃sl,h'.get? b=some { o with slots:=sl }
section
variable{M:Model}{A:Around}{E:Value->Shared->Prop}{s:Shared}{base:Heap}{env:Env}{outer:List Env}{L e:Addr}
def DU(o:Obj)(f:Array Value->Array Value):(o.mapFields f).dict=o.dict:=by obtain⟨c,d,a,sl⟩:=o;cases a<;>rfl
def uD{cls:Value}{y:Option Addr}{l:Obj}{vs:Array Value}{f:Value}{p:Bool}{Q:Unit->Shared->Prop}(J:A.frames=some (env::outer))(G:s.heap.FunFrames base (env::outer))(P:env.frame=some L)
  (F:s.heap.get? e=some l) (hd:l.data=.fields vs) (O:l.cls=cls) (T:l.dict=y) (I:1<vs.size)
  (k:∀h' v,Fly h' e (some v) (rawInt L) cls y->s.heap.objs.size<=v->Kept (b8 (env::outer)) e none s.heap h'->Q () { s with heap:=h' }) :
  wpAny M A (do let a ←frameOf env;let pl ←entryPlaceOf L p;let b ←EntryCells.newEntry f a .none (rawInt L) .none pl;setField (.ref e) 1 b) Q E s:=by
 have g:e∉b8 (env::outer):=λR=>by obtain⟨_,o,H,K⟩:=G.mem R;rw[F]at H;cases H;exact K vs hd
 refine HZ (wpAny_frameOf_fun J G P λc x=>?_);refine HZ (wpAny_entryPlaceOf λpl t=>?_);unfold EntryCells.newEntry newFields;refine HZ (JX ?_ (t.sizeOk5 _ _ _ _ _));generalize j:({ cls:=.type "traceback",dict:=none,data:=.fields ([f,.ref L,.none,rawInt L,.none]++(if pl.isEmpty then List.replicate 6 Value.none else pl)).toArray }:Obj)=ot;have B:c.get? e=some l:=(x.2.1 e g).trans F;have C:=Ig (h:=c) ot B;have u:c.objs.size≠e:=Ma (Iq B);refine K4 C hd I (k _ c.objs.size ⟨?_⟩ ?_ ⟨λb o r N _ m=>?_,λb o r m=>?_⟩)
 ·have w:=Kw hd (·.setIfInBounds 1 (Value.ref c.objs.size));refine⟨_,_,J3 _ C (KA w),w,(Obj.cls_mapFields _ _).trans O,(DU _ _).trans T,by simp[I],u,ot,_,?_,by rw[←j],?_⟩
  ·rw[JP _ _ (Jj u)];exact Iy c (by rw[←j];rfl)
  ·first|(simp;done)|(rcases t with rfl|⟨_,_,_,_,_,_,_,rfl⟩<;>simp)
 ·exact Lv x.1.symm
 ·rw[JP _ _ (Jj N)];exact Ig _ ((x.2.1 b m).trans r)
 ·obtain⟨sl,S⟩:=x.2.2 b o r;refine⟨sl,?_⟩;rw[JP _ _ (λz=>g (by rw[z];exact m))];exact Ig _ S
def Fly.live{h:Heap}{T:Option Addr}{fl cls:Value}{a:Option Addr}(F:Fly h e T fl cls a):∃o,h.get? e=some o/\o.cls=cls/\o.dict=a/\∃vs,o.data=.fields vs:=by obtain⟨l,vs,c,f,g,j,_⟩:=F.ex;exact⟨l,c,g,j,vs,f⟩
def jH{vs:Array Value}{i:Nat}{x:Value}(h:vs[i]?=some x):i<vs.size:=(Array.getElem?_eq_some_iff.mp h).1
def tP{T:Option Addr}{cls:Value}{x:Option Addr}{Q:Unit->Shared->Prop}(v:A.frames=some (env::outer))(t:s.heap.FunFrames base (env::outer))(f:env.frame=some L)(F:Fly s.heap e T .none cls x)
  (k:∀h' c,Fly h' e (some c) (rawInt L) cls x->s.heap.objs.size<=c->Kept (b8 (env::outer)) e T s.heap h'->Q () { s with heap:=h' }):wpAny M A (noteFrame (.ref e) env) Q E s:=by
 obtain⟨P,vs,m,hd,B,G,C⟩:=F.ex;unfold noteFrame;simp only[f]
 cases T with
 |none=>
  have h:vs[1]?=some .none:=C;refine HZ (Jw m hd h ?_);rw[Ib (by decide)];exact uD v t f m hd B G (jH h) λh' c a1 a2 a3=>k h' c a1 a2 ⟨λb o a r w g=>a3.keep b o a r (by simp) g,a3.slot⟩
 |some T=>
  obtain⟨h,I,O,ts,l,j,y⟩:=C;refine HZ (Jw m hd h ?_);rw[Ia (show (Value.ref T != Value.none)=true from by simp)];refine HZ (Jw l j y ?_);rw[Ib (show ¬ ((Value.none==rawInt L)=true)from by simp[rawInt])];refine HZ (K4 l j (jH y) ?_);have p:∀b,b≠T->(s.heap.update T (Obj.mapFields (·.setIfInBounds 3 Value.none))).get? b=s.heap.get? b:=λb a=>JP _ _ (Jj a)
  have H:∀b o,s.heap.get? b=some o->(∀vs,o.data≠.fields vs)->b≠T:=λb o a f z=>by rw[z,l]at a;cases a;exact f ts j
  have K:=J3 (Obj.mapFields (·.setIfInBounds 3 Value.none)) l (KA (Kw j _));refine uD (s:={ s with heap:=s.heap.update T (Obj.mapFields (·.setIfInBounds 3 Value.none)) }) v (t.of_keeps λb o a f=>⟨o,(p b (H b o a f)).trans a,rfl⟩) f ((p e (Jj I)).trans m) hd B G (jH h) λh' c a1 a2 a3=>k h' c a1 ?_ ⟨λb o a r w g=>?_,λb o a g=>?_⟩
  ·have a2:(s.heap.update T (Obj.mapFields (·.setIfInBounds 3 Value.none))).objs.size<=c:=a2;rw[Heap.size_after_update]at a2;exact a2
  ·exact a3.keep b o ((p b (λz=>w (by rw[z]))).trans a) r (by simp) g
  ·refine a3.slot b o ((p b (H b o a ?_)).trans a) g;obtain⟨_,N,u,J⟩:=t.mem g;rw[a]at u;cases u;exact J
def kX{T:Addr}{fl cls:Value}{m:Option Addr}{Q:Unit->Shared->Prop}(F:Fly s.heap e (some T) fl cls m)
  (k:∀h',Fly h' e (some T) .none cls m->(∀b o,s.heap.get? b=some o->b≠T->h'.get? b=some o)->(∀b,s.heap.get? b=none->h'.get? b=none)->Q () { s with heap:=h' }):wpAny M A (setFlight (.ref e) none) Q E s:=by
 obtain⟨x,vs,t,hd,v,w,p,h,y,ts,c,j,r⟩:=F.ex;have g:∀b,b≠T->(s.heap.update T (Obj.mapFields (·.setIfInBounds 3 ((none:Option Addr).elim Value.none λf=>rawInt f)))).get? b=s.heap.get? b:=λb a=>JP _ _ (Jj a);unfold setFlight;refine HZ (Jw t hd p ?_);rw[Ia (show (Value.ref T != Value.none)=true from by simp)];have l:=Kw j (·.setIfInBounds 3 ((none:Option Addr).elim Value.none λf=>rawInt f));refine K4 c j (jH r) (k _ ⟨x,vs,(g e (Jj h)).trans t,hd,v,w,p,h,_,_,J3 _ c (KA l),l,by simp[jH r]⟩ (λb o a u=>(g b u).trans a) λb a=>?_);rw[g b (λz=>by rw[z,c]at a;cases a)];exact a
def zb{T:Option Addr}{cls:Value}{g:Option Addr}{Q:Unit->Shared->Prop}(p:A.frames=some (env::outer))(x:s.heap.FunFrames base (env::outer))(w:env.frame=some L)(F:Fly s.heap e T .none cls g)
  (k:∀h' c,Fly h' e (some c) .none cls g->s.heap.objs.size<=c->Kept (b8 (env::outer)) e T s.heap h'->Q () { s with heap:=h' }):wpAny M A (leaving env (.ref e)) Q E s:=by
 unfold leaving;refine HZ (tP p x w F λu c l j k1=>?_);refine kX (s:={ s with heap:=u }) l λv m k2 B=>?_;have h:∀b o,s.heap.get? b=some o->b≠c:=λb o a z=>absurd (Iq (z▸a:s.heap.get? c=some o)) (LA.mpr j);refine k v c m j ⟨λb o a r t f=>k2 b o (k1.keep b o a r t f) (h b o a),λb o a f=>?_⟩;obtain⟨sl,y⟩:=k1.slot b o a f;exact⟨sl,k2 b _ y (h b o a)⟩
end
structure XD where
 nm:Str
 at_:Option D
noncomputable def nD(K:Frag)(H:Hp)(at_:Option D)(a:Option Addr):Prop:=match at_ with
 |none=>a=none
 |some d=>∃p v,a=some p/\H p=some (.xd [("at",v)])/\Rp K (λ_=>none) d v
structure XSt(X:Cx)(pins:List (Addr×Obj))(σ:St)(H:Hp)(xd:XD)(e:Value)(s:Shared):Prop where
 inv:Inv X pins σ H s
 ex:∃(ea C:Addr)(T dx:Option Addr),e=.ref ea/\Fly s.heap ea T .none (.ref C) dx/\X.mg xd.nm=some (.ref C)/\nD X.K H xd.at_ dx/\(X.s₀.heap.get? ea=none/\H ea=none/\∀p∈X.pn++pins,p.1≠ea)/\∀T',T=some T'->X.s₀.heap.get? T'=none/\H T'=none/\∀p∈X.pn++pins,p.1≠T'
noncomputable def XeOk(K:Frag)(X:Cx)(j l:Hp)(o:XD->ak->Prop):Prop:=∀m f c h g e s' a,o m f->Gr j l c h->EnvM K l c h g f->XSt X a g h m e s'->X.xe e s'
structure StM(K:Frag)(X:Cx)(Φ0 H0 Φ H:Hp)(σ τ:St)(ρ κ:ak)(Rx:XD->ak->Prop):Prop where
 g:Gr Φ0 H0 Φ H
 l:ρ.length=σ.length
 E:EnvM K H0 Φ H (σ++τ) (ρ++κ)
 x:XeOk K X Φ0 H0 Rx
inductive Ar where|t (s:Sm)|s (i:Nat)
noncomputable abbrev TX:=ak->(Sm->ak->Prop)->(XD->ak->Prop)->Prop
noncomputable abbrev c9:=ak->(Bool->ak->Prop)->(XD->ak->Prop)->Prop
noncomputable abbrev ca:=ak->(List Ar->ak->Prop)->(XD->ak->Prop)->Prop
noncomputable def cE(as:List Ar):ak:=as.filterMap λa=>match a with|.t s=>some (some s)|.s _=>none
inductive ArV(σ:St):List Ar->List V->St->Prop where
 |nil:ArV σ [] [] []
 |t {s:Sm} {v:V} {as:List Ar} {vs:List V} {ts:St}:ArV σ as vs ts->ArV σ (.t s::as) (v::vs) (some v::ts)
 |s {i:Nat} {v:V} {as:List Ar} {vs:List V} {ts:St}:σ[i]?=some (some v)->ArV σ as vs ts->ArV σ (.s i::as) (v::vs) ts
noncomputable def im(K:Frag)(X:Cx)(t:TX):TE:=λo H Q=>∃c h l p ρ m R f,StM K X c h l H o p ρ m f/\t ρ R f/\∀j e a g v,R j e->StM K X c h a g o (p++[some v]) e (m++[some j]) f->Same l a->Q v g
noncomputable def nG(K:Frag)(X:Cx)(t:c9):TT:=λm H Q=>∃c h j o ρ l R f,StM K X c h j H m o ρ l f/\t ρ R f/\∀b e a g,R b e->StM K X c h a g m o e l f->Same j a->Q b g
noncomputable def HE(K:Frag)(X:Cx)(n:Nat)(t:ca):TA:=λg H Q=>∃c j l o ρ m R f,StM K X c j l H g o ρ m f/\t ρ R f/\∀as e a h vs ts,R as e->as.length=n->ArV g as vs ts->StM K X c j a h g (o++ts) e (m++cE as) f->Same l a->Q vs h
structure PX(K:Frag)(X:Cx)(e:Expr)(t:TX):Prop where pe:X.K=K->PE X e (im K X t)
structure PXB(K:Frag)(X:Cx)(e:Expr)(t:c9):Prop where pt:X.K=K->PT X e (nG K X t)
structure PXW(K:Frag)(X:Cx)(e:Expr)(t:c9):Prop where pw:X.K=K->PW X e (nG K X t)
structure PXA(K:Frag)(X:Cx)(es:List Expr)(t:ca):Prop where pa:X.K=K->PA X es (HE K X es.length t)
section
variable{K:Frag}{X:Cx}{Φ0 H0 Φ Φ' H H':Hp}{σ τ ts:St}{ρ κ ks:ak}{Rx:XD->ak->Prop}{d:D}{v:V}
def StM.gr(S:StM K X Φ0 H0 Φ H σ τ ρ κ Rx)(g:Gr Φ H Φ' H'):StM K X Φ0 H0 Φ' H' σ τ ρ κ Rx:=⟨S.g.trans g,S.l,S.E.gr g,S.x⟩
def StM.env(S:StM K X Φ0 H0 Φ H σ τ ρ κ Rx):EnvM K H0 Φ H σ ρ:=S.E.take S.l
def StM.lk(S:StM K X Φ0 H0 Φ H σ τ ρ κ Rx):κ.length=τ.length:=by have:=S.E.len;rw[HY,HY]at this;have:=S.l;omega
def StM.pop(S:StM K X Φ0 H0 Φ H σ (τ++ts) ρ (κ++ks) Rx)(a:κ.length=τ.length):StM K X Φ0 H0 Φ H σ τ ρ κ Rx:=⟨S.g,S.l,by
 have E:=S.E;rw[←Iw,←Iw]at E
 exact E.take (by rw[HY,HY,S.l,a]),S.x⟩
def StM.pushV(S:StM K X Φ0 H0 Φ H σ τ ρ κ Rx)(r:Rp K Φ d v):StM K X Φ0 H0 Φ H σ (τ++[some v]) ρ (κ++[some (.v d)]) Rx:=⟨S.g,S.l,by
 rw[←Iw,←Iw]
 exact S.E.snocV r,S.x⟩
def StM.pushO{o:Om}{p:Addr}{F:List Addr}(S:StM K X Φ0 H0 Φ H σ τ ρ κ Rx)(g:Gr Φ H Φ' H')(c:OmS K Φ' H' o p F)(a:∀b∈F,H b=none/\Φ' b=none):StM K X Φ0 H0 Φ' H' σ (τ++[some (.ref p)]) ρ (κ++[some (.ob none o)]) Rx:=⟨S.g.trans g,S.l,by
 rw[←Iw,←Iw]
 exact S.E.snocO S.g.h g c a,S.x⟩
def StM.at(S:StM K X Φ0 H0 Φ H σ τ ρ κ Rx){i:Nat}(h:κ[i]?=some (some (.v d))):∃v,τ[i]?=some (some v)/\Rp K Φ d v:=by have a:=ba h;obtain⟨v,e,r⟩:=S.E.sl (i:=ρ.length+i) (d:=d) (by rw[HX (by omega),Ka];exact h);rw[S.l,HX (by omega),Ka]at e;exact⟨v,e,r⟩
def StM.last(S:StM K X Φ0 H0 Φ H σ (τ++[some v]) ρ (κ++[some (.v d)]) Rx):Rp K Φ d v:=by
 have a:=S.lk;rw[HY,HY]at a
 have a:κ.length=τ.length:=by simpa using a
 obtain⟨u,e,r⟩:=S.at (i:=κ.length) (d:=d) (by rw[HX (Ih _),Jn];rfl);rw[a,HX (Ih _),Jn]at e;cases e;exact r
def StM.last2{e:D}{w:V}(S:StM K X Φ0 H0 Φ H σ ((τ++[some v])++[some w]) ρ ((κ++[some (.v d)])++[some (.v e)]) Rx):Rp K Φ d v/\Rp K Φ e w:=by
 refine⟨?_,S.last⟩;have a:=S.lk;simp only[HY,Ij,Jh]at a
 have a:κ.length=τ.length:=by omega
 exact (S.pop (by simp only[HY,Ij,Jh];omega)).last
end
section
variable{K:Frag}{X:Cx}{e a b c:Expr}{es:List Expr}{pos p:Pos}{t ta tb:TX}{tA:ca}{tt tu:c9}
noncomputable def xD(t:TD):TX:=λρ R _=>t (cJ ρ) λd=>R (.v d) ρ
def ae{t:TD}(h:PD K X e t):PX K X e (xD t):=⟨λo=>(h.pe o).imp λA H Q m=>by
 obtain⟨x,l,w,B,ρ,z,R,y,S,t,k⟩:=m
 exact⟨l,w,cJ ρ,_,S.env.toD,t,λd f j v r g u=>k _ ρ f j v r ((S.gr g).pushV u) g.f⟩⟩
noncomputable def xF(t:aX):TX:=λρ R _=>t (cJ ρ) λds=>R (.own ds) ρ
def ft{t:aX}(h:PF K X e t):PX K X e (xF t):=⟨λu=>(h.pe u).imp λE H Q m=>by
 obtain⟨A,l,z,F,ρ,C,R,B,S,t,k⟩:=m
 exact⟨l,z,cJ ρ,_,S.env.toD,t,λds f j p vs r g o w x y=>k _ ρ f j _ r (S.pushO g (.lst x y) λb v=>by rw[Ip.mp v];exact⟨o,w⟩) g.f⟩⟩
noncomputable def xB(t:bL):c9:=λρ R _=>t (cJ ρ) λb=>R b ρ
def aR{t:bL}(h:PTD K X e t):PXB K X e (xB t):=⟨λo=>(h.pt o).imp λy H Q m=>by
 obtain⟨v,l,u,z,ρ,x,R,w,S,t,k⟩:=m
 exact⟨l,u,cJ ρ,_,S.env.toD,t,λb f j r g=>k b ρ f j r (S.gr g) g.f⟩⟩
noncomputable def xV(k:D->ak->Prop):Sm->ak->Prop:=λs ρ=>match s with|.v d=>k d ρ|_=>False
def xV.get{k:D->ak->Prop}{s:Sm}{ρ:ak}(h:xV k s ρ):∃d,s=.v d/\k d ρ:=by
 cases s with
 |v d=>exact⟨d,rfl,h⟩
 |ob _ _=>exact h.elim
noncomputable def i7(r:bW)(ta tb:TX):TX:=λρ R h=>ta ρ (xV λx f=>tb f (xV λy g=>r x y λd=>R (.v d) g) h) h
def k8{r:bW}{G:St}{H:Hp}{Q:VK}(h:im K X (i7 r ta tb) G H Q):g9 (i8 K r) (im K X ta) (im K X tb) G H Q:=by obtain⟨f,E,Y,τ,ρ,Z,R,F,S,t,k⟩:=h;refine⟨f,E,Y,τ,ρ,Z,_,F,S,t,λs1 B z H1 v l J M=>?_⟩;obtain⟨x,rfl,l⟩:=l.get;refine⟨f,E,z,_,B,_,_,F,J,l,λs2 C A H2 w m j N=>?_⟩;obtain⟨y,rfl,m⟩:=m.get;obtain⟨T,U⟩:=j.last2;refine⟨A,x,y,_,j.g.s,.inl T,.inl U,m,λd o I u O g P=>?_⟩;rw[Iw,Iw]at j;exact k _ C o I u O (((j.pop S.lk).gr g).pushV P) ((M.trans N).trans g.f)
def jc{g:Operator}{r:bW}(l:OpD K X (binaryOp g) r)(h:PX K X a ta)(j:PX K X b tb):PX K X (.BinOp a g b pos) (i7 r ta tb):=
 ⟨λf=>(oE (l.o f) (h.pe f) (j.pe f)).imp λ_ _ _=>k8⟩
def sS{g:CmpOp}{r:bW}(m:OpD K X (compareOp g) r)(h:PX K X a ta)(j:PX K X b tb)(l:behindInMarks g b=false):PX K X (.Compare a [g] [b] pos) (i7 r ta tb):=
 ⟨λf=>(uZ (m.o f) (h.pe f) (j.pe f) l).imp λ_ _ _=>k8⟩
noncomputable def wa(t:TX):c9:=λρ R g=>t ρ (xV λd f=>match d with|.bl b=>R b f|_=>False) g
def y4{r:bW}{o:St}{H:Hp}{Q:Bool->Hp->Prop}(h:nG K X (wa (i7 r ta tb)) o H Q):ly (g9 (i8 K r) (im K X ta) (im K X tb)) o H Q:=by
 obtain⟨g,u,B,E,ρ,C,R,y,S,t,k⟩:=h;refine k8 ⟨g,u,B,E,ρ,C,_,y,S,t,λF l j w v f m z=>?_⟩;obtain⟨x,rfl,f⟩:=f.get;have A:=m.last;obtain⟨b,rfl,f⟩:=gR f;obtain rfl:=A.b;exact⟨b,rfl,k b l j w f (m.pop S.lk) z⟩
def mG{g:CmpOp}{r:bW}(m:OpD K X (compareOp g) r)(h:PX K X a ta)(j:PX K X b tb)(l:behindInMarks g b=false):PXB K X (.Compare a [g] [b] pos) (wa (i7 r ta tb)):=
 ⟨λf=>(uu (m.o f) (h.pe f) (j.pe f) l).imp λ_ _ _=>y4⟩
noncomputable def Fg(t u:c9):c9:=λρ R g=>t ρ (λc f=>(c=true->u f R g)/\(c=false->R false f)) g
noncomputable def Gk(t:c9):c9:=λρ R g=>t ρ (λc f=>R (!c) f) g
def PXW.toB(h:PXW K X e tt):PXB K X e tt:=⟨λf=>(h.pw f).pt⟩
def uQ(g:PXB K X a tt):PXW K X (.BoolOp .And [a] pos) tt:=⟨λf=>rp (g.pt f)⟩
def v7(F:PXB K X a tt)(G:PXW K X (.BoolOp .And (b::es) pos) tu):PXW K X (.BoolOp .And (a::b::es) pos) (Fg tt tu):=
 ⟨λv=>(uX (F.pt v) (G.pw v)).imp λM H Q B=>by
  obtain⟨f,m,J,y,ρ,x,R,o,S,t,k⟩:=B;refine⟨f,m,J,y,ρ,x,_,o,S,t,λc h g A w r u=>?_⟩
  cases c with
  |true=>rw[Ia rfl];exact⟨f,m,g,y,h,x,R,o,r,w.1 rfl,λb l j z I C E=>k b l j z I C (u.trans E)⟩
  |false=>rw[Ib (by decide)];exact k _ h g A (w.2 rfl) r u⟩
def nK(w:PXB K X a tt):PXB K X (.UnaryOp .Not a pos) (Gk tt):=
 ⟨λv=>(rP (w.pt v)).imp λB H Q m=>by
  obtain⟨f,j,y,A,ρ,z,R,o,S,t,k⟩:=m
  exact⟨f,j,y,A,ρ,z,_,o,S,t,λc h g l x r u=>k _ h g l x r u⟩⟩
noncomputable def xR(t:TX):c9:=λρ R g=>t ρ (xV λd f=>oM d λb=>R b f) g
def mB(C:PX K X a ta)(E:∀f,isTrue a X.env f=(do let v ←f;standAt a.pos;holding [v] (truthy v))):PXB K X a (xR ta):=
 ⟨λo=>(rH (C.pe o) E).imp λM H Q w=>by
  obtain⟨l,r,F,I,ρ,G,R,y,S,t,k⟩:=w;refine⟨l,r,F,I,ρ,G,_,y,S,t,λJ g m u v j h z=>?_⟩;obtain⟨x,rfl,j⟩:=j.get;obtain⟨b,A,B⟩:=t7 (R:=λb=>R b g) h.g.s (.inl h.last) j;rw[o]
  exact⟨b,A,k b g m u B (h.pop S.lk) z⟩⟩
noncomputable def lg:ca:=λρ R _=>R [] ρ
noncomputable def oq(t:TX)(u:ca):ca:=λρ R h=>t ρ (λs f=>u f (λas g=>R (.t s::as) g) h) h
noncomputable def vO(i:Nat)(u:ca):ca:=λρ R g=>u ρ (λas f=>R (.s i::as) f) g
def bc:PXA K X [] lg:=⟨λ_=>pa_nil.imp λo H Q f=>by
 obtain⟨h,j,g,r,ρ,m,R,l,S,t,k⟩:=f
 exact k [] ρ g H [] [] t rfl .nil (by rw[IW,show cE []=[]from rfl,IW];exact S) (Same.refl _)⟩
def aN(B:PX K X e t)(E:PXA K X es tA)(F:starEach (e::es) X.env=(false,eval e X.env)::starEach es X.env):PXA K X (e::es) (oq t tA):=
 ⟨λu=>(dA (B.pe u) (E.pa u) F).imp λU H Q x=>by
  obtain⟨f,m,M,O,ρ,N,R,o,S,t,k⟩:=x;refine⟨f,m,M,O,ρ,N,_,o,S,t,λT j g P v I y z=>?_⟩;refine⟨f,m,g,_,j,_,_,o,y,I,λas l h w vs ts J C G r A=>?_⟩;refine k _ l h w (v::vs) (some v::ts) J (by rw[Ij,Ij,C]) (.t G) ?_ (z.trans A);rw[Iw,Iw]at r
  exact r⟩
def bn(i:Nat){x:Str}(F:PXA K X es tA)(G:starEach (.Name x pos::es) X.env=(false,eval (.Name x pos) X.env)::starEach es X.env)(A:X.N[i]?=some x:=by rfl)(g:bR X.env.scope x:=by nofun)(hd:(x==("__debug__":Str))=false:=by decide)
  (v:(x==("__classdict__":Str))=false:=by decide):PXA K X (.Name x pos::es) (λρ R f=>(∃a o,ρ[i]?=some (some (.ob a o)))/\vO i tA ρ R f):=
 ⟨λz=>(dA (pv i A g hd v) (F.pa z) G).imp λP H Q u=>by
  obtain⟨h,m,J,N,ρ,M,R,f,S,⟨⟨a,o,C⟩,t⟩,k⟩:=u;obtain⟨O,E⟩:=S.env;obtain⟨q,e,_⟩:=E.ow i a o C;refine⟨_,e,h,m,J,N,ρ,M,_,f,S,t,λas l j r vs ts I B g w y=>?_⟩
  exact k _ l j r (.ref q::vs) ts I (by rw[Ij,Ij,B]) (.s e g) w y⟩
noncomputable def fR:List Ar->Option (List D)
 | []=>some []
 |.t (.v d)::as=>(fR as).map (d::·)
 |_=>none
noncomputable def xaD(k:List D->ak->Prop):List Ar->ak->Prop:=λas ρ=>match fR as with|some ds=>k ds ρ|none=>False
def xaD.get{k:List D->ak->Prop}{as:List Ar}{ρ:ak}(h:xaD k as ρ):∃ds,fR as=some ds/\k ds ρ:=by
 unfold xaD at h;split at h
 ·next ds e=>exact⟨ds,e,h⟩
 ·exact h.elim
def og:∀{as:List Ar}{ds:List D},fR as=some ds->cE as=ds.map (λd=>some (.v d))/\as.length=ds.length
 | [],ds,h=>by cases h;exact⟨rfl,rfl⟩
 |.t (.v d)::as,ds,h=>by
  have h':(fR as).map (d::·)=some ds:=h
  cases e:fR as with
  |none=>rw[e]at h';cases h'
  |some es=>
   rw[e]at h';cases h';obtain⟨f,g⟩:=og e;exact⟨by show some (Sm.v d)::cE as=_;rw[f];rfl,by rw[Ij,Ij,g]⟩
 |.t (.ob _ _)::_,_,h=>by cases h
 |.s _::_,_,h=>by cases h
def BN{l:St}:∀{as:List Ar}{ds:List D}{vs:List V}{ts:St},fR as=some ds->ArV l as vs ts->ts=vs.map some:=by
 intro as ds vs ts h f
 induction f generalizing ds with
 |nil=>rfl
 | @t j v as vs ts f g=>
  cases j with
  |v d=>
   have h':(fR as).map (d::·)=some ds:=h
   cases e:fR as with
   |none=>rw[e]at h';cases h'
   |some es=>rw[g e];rfl
  |ob a o=>cases h
 |s=>cases h
def StM.vals{g y o H:Hp}{u x ts:St}{ρ h:ak}{A:XD->ak->Prop}{as:List Ar}{ds:List D}{vs:List V}(S:StM K X g y o H u (x++ts) ρ (h++cE as) A)(C:h.length=x.length)(hd:fR as=some ds)(E:ArV u as vs ts):RpL K o ds vs:=by
 have j:=BN hd E;obtain⟨l,F⟩:=og hd
 have f:vs.length=ds.length:=by have:=S.lk;rw[HY,HY,j,l,HV,HV]at this;omega
 refine⟨f,λi v d B z=>?_⟩;obtain⟨w,m,r⟩:=S.at (i:=h.length+i) (d:=d) (by rw[HX (by omega),Ka,l,Ii,z];rfl);rw[C,HX (by omega),Ka,j,Ii,B]at m;cases m;exact r
noncomputable def Cn(t:ca):TX:=λρ R g=>t ρ (xaD λds f=>R (.v (.tup ds)) f) g
def BB{x1}(h:PXA K X es tA)(w:Nat.ble es.length 1000=true:=by rfl):PX K X (.Tuple es x1 pos) (Cn tA):=
 ⟨λy=>(sE (h.pa y)).imp λI H Q u=>by
  obtain⟨l,r,B,F,ρ,E,R,v,S,t,k⟩:=u;refine⟨l,r,B,F,ρ,E,_,v,S,t,λas m C G vs ts j z A f x=>?_⟩;obtain⟨ds,hd,j⟩:=j.get;have rl:=f.vals S.lk hd A;refine⟨by rw[rl.1,←(og hd).2,z];exact oJ w,λp o=>?_⟩;have g:=Gr.new f.g.s o (.tup vs)
  exact k _ m _ _ _ j (((f.pop S.lk).gr g).pushV ((rl.same (cH (f.g.s.free o) _)).tup bg)) (x.trans g.f)⟩
noncomputable def DP(t:TX):TX:=λρ R g=>t ρ (λs f=>match s with|.ob none (.lst ds)=>R (.v (.lst ds)) f|_=>False) g
def StM.fzl{B I F H:Hp}{P G:St}{ρ g:ak}{R:XD->ak->Prop}{v:V}{ds:List D}(S:StM K X B I F H P (G++[some v]) ρ (g++[some (.ob none (.lst ds))]) R):∃A,StM K X B I A H P (G++[some v]) ρ (g++[some (.v (.lst ds))]) R/\Same F A:=by
 have Y:g.length=G.length:=by have:=S.lk;rw[HY,HY]at this;simpa using this
 obtain⟨fp,E⟩:=S.E
 have J:(ρ++(g++[some (Sm.ob none (.lst ds))]))[ρ.length+g.length]?=some (some (.ob none (.lst ds))):=by rw[←Iw,HX (by rw[HY];omega),HY,Jn];rfl
 obtain⟨p,e,_,r⟩:=E.ow _ _ _ J;have O:=r.mem;have no:=E.no _ _ _ J
 have ev:v=.ref p:=by
  rw[←Iw,HX (by rw[HY,S.l];omega),HY,S.l,Y,Jn]at e;cases e;rfl
 subst ev;obtain⟨_,vs,T,h2⟩:=r.lst_inv
 next=>
  have Z:=(no p O).2;have h0:=(no p O).1;have y:=cH Z (.lst vs);refine⟨aj F p (.lst vs),⟨S.g.freeze h0 Z T,S.l,?_,S.x⟩,y⟩
  have E0:EnvM K I (aj F p (.lst vs)) H (P++G) (ρ++g):=by
   refine⟨fp,λb u C=>?_,by rw[HY,HY,S.l,Y],λj d hd=>?_,λj a o m=>?_,λj a o m b U=>?_,λj k a a' o o' f l c=>?_,E.tb.same y⟩
   ·by_cases c:b=p
    ·subst c;rw[bg]at C;cases C;exact T
    ·rw[aE c]at C;exact E.fz b u C
   ·have f:=ba hd;obtain⟨w,x,M⟩:=E.sl j d (by rw[←Iw,HW f];exact hd);rw[←Iw,HW (by rw[HY]at f ⊢;have:=S.l;omega)]at x;exact⟨w,x,M.same y⟩
   ·have f:=ba m;obtain⟨w,x,ha,M⟩:=E.ow j a o (by rw[←Iw,HW f];exact m);rw[←Iw,HW (by rw[HY]at f ⊢;have:=S.l;omega)]at x;exact⟨w,x,ha,M.keep y λ_ _ _ h=>h⟩
   ·have f:=ba m
    have Q:(ρ++(g++[some (Sm.ob none (.lst ds))]))[j]?=some (some (.ob a o)):=by rw[←Iw,HW f];exact m
    have c:b≠p:=λz=>E.dj j _ a _ o _ Q J (by rw[HY]at f;omega) b U (by rw[z];exact O);rw[aE c];exact E.no j a o Q b U
   ·have TF:=ba f;have N:=ba l;exact E.dj j k a a' o o' (by rw[←Iw,HW TF];exact f) (by rw[←Iw,HW N];exact l) c
  rw[←Iw,←Iw];exact E0.snocV ((h2.same y).lst bg)
def A7(h:PX K X e t):PX K X e (DP t):=⟨λA=>(h.pe A).imp λI H Q r=>by
 obtain⟨g,m,B,F,ρ,E,R,u,S,t,k⟩:=r;refine⟨g,m,B,F,ρ,E,_,u,S,t,λG l C o v f w y=>?_⟩;split at f
 ·next ds=>
  obtain⟨j,x,z⟩:=w.fzl;exact k _ l j o v f x (y.trans z)
 ·exact f.elim⟩
noncomputable def uK(r:b9)(t:ca):TX:=λρ R g=>t ρ (xaD λds f=>r ds λd=>R (.v d) f) g
def RpL.lq{f H:Hp}{ds:List D}{vs:List V}(h:RpL K f ds vs):kK K f H ds vs:=⟨h.1,λi v d g hd=>.inl (h.2 i v d g hd)⟩
def G6{id:String}{r:b9}{x:Str}(I:CallD K X (.builtin id) r)(M:Gl X x)(N:X.mg x=none)(h:bootBuiltins x=some (.builtin id))(G:PXA K X (e::es) tA)
  (J:starEach (e::es) X.env=(false,eval e X.env)::starEach es X.env) (C:(backTo pos (starEach es X.env)).any (·.1)=false) (O:x≠"__name__":=by decide) (B:(x==("__debug__":Str))=false:=by decide):PX K X (.Call (.Name x p) (e::es) [] pos) (uK r tA):=
 ⟨λw=>(pI (I.c w) M N h (G.pa w) O B J C).imp λσ H Q A=>by
  obtain⟨m,z,U,Z,ρ,Y,R,E,S,t,k⟩:=A;refine⟨m,z,U,Z,ρ,Y,_,E,S,t,λas u o H1 vs ts j hl h f F=>?_⟩;obtain⟨ds,hd,j⟩:=j.get;have rl:=f.vals S.lk hd h
  exact⟨o,ds,_,f.g.s,rl.lq,j,λd l y v P g T=>k _ u l y v P (((f.pop S.lk).gr g).pushV T) (F.trans g.f)⟩⟩
def DM{T:String}{r:b9}{x:Str}(I:CallD K X (.type T) r)(M:Gl X x)(N:X.mg x=none)(h:bootBuiltins x=some (.type T))(G:PXA K X (e::es) tA)
  (J:starEach (e::es) X.env=(false,eval e X.env)::starEach es X.env) (C:(backTo pos (starEach es X.env)).any (·.1)=false) (O:x≠"__name__":=by decide) (B:(x==("__debug__":Str))=false:=by decide):PX K X (.Call (.Name x p) (e::es) [] pos) (uK r tA):=
 ⟨λw=>(pY (I.c w) M N h (G.pa w) O B J C).imp λσ H Q A=>by
  obtain⟨m,z,Y,τ,ρ,Z,R,E,S,t,k⟩:=A;refine⟨m,z,Y,τ,ρ,Z,_,E,S,t,λas u o H1 vs ts j hl h f F=>?_⟩;obtain⟨ds,hd,j⟩:=j.get;have rl:=f.vals S.lk hd h
  exact⟨o,ds,_,f.g.s,rl.lq,j,λd l y v P g U=>k _ u l y v P (((f.pop S.lk).gr g).pushV U) (F.trans g.f)⟩⟩
end
noncomputable def bN(H:Hp)(B:List Addr):Hp:=λb=>if b∈B then none else H b
def FC{H:Hp}{B:List Addr}{b:Addr}(h:b∈B):bN H B b=none:=Ia h
def gz{H:Hp}{B:List Addr}{b:Addr}(h:b∉B):bN H B b=H b:=Ib h
def B7{H:Hp}{B:List Addr}{b:Addr}{u:HO}(h:bN H B b=some u):b∉B/\H b=some u:=by
 unfold bN at h;split at h
 ·cases h
 ·next c=>exact⟨c,h⟩
def tG{H:Hp}{B:List Addr}:Same (bN H B) H:=λb u e=>(B7 e).2
noncomputable abbrev bU:=List Sm->(Sm->List Om->Prop)->(XD->List Om->Prop)->Prop
inductive ArgM(K:Frag)(Φ H:Hp):List Sm->List V->List (List Addr)->Prop where
 |nil:ArgM K Φ H [] [] []
 |v {d:D} {v:V} {as:List Sm} {vs:List V} {Fs:List (List Addr)}:Rp K Φ d v->ArgM K Φ H as vs Fs->ArgM K Φ H (.v d::as) (v::vs) ([]::Fs)
 |o {a:Option Addr} {o:Om} {p:Addr} {F:List Addr} {as:List Sm} {vs:List V} {Fs:List (List Addr)}:OmS K Φ H o p F->ArgM K Φ H as vs Fs->ArgM K Φ H (.ob a o::as) (.ref p::vs) (F::Fs)
inductive OutM(K:Frag)(Φ H:Hp):List Sm->List V->List Om->List (List Addr)->Prop where
 |nil:OutM K Φ H [] [] [] []
 |v {d:D} {v:V} {as:List Sm} {vs:List V} {os:List Om} {Fs:List (List Addr)}:OutM K Φ H as vs os Fs->OutM K Φ H (.v d::as) (v::vs) os ([]::Fs)
 |o {a:Option Addr} {o o':Om} {p:Addr} {F:List Addr} {as:List Sm} {vs:List V} {os:List Om} {Fs:List (List Addr)}:OmS K Φ H o' p F->OutM K Φ H as vs os Fs->OutM K Φ H (.ob a o::as) (.ref p::vs) (o'::os) (F::Fs)
inductive ResM(K:Frag)(Φ H:Hp):Sm->V->List Addr->Prop where
 |v {d:D} {v:V}:Rp K Φ d v->ResM K Φ H (.v d) v []
 |o {a:Option Addr} {o:Om} {p:Addr} {F:List Addr}:(∀q,a=some q->q=p)->OmS K Φ H o p F->ResM K Φ H (.ob a o) (.ref p) F
noncomputable def bu(K:Frag)(sp:bU):Sp:=λvs H Q _=>∃e as c R j,Same e H/\TabF K e/\ArgM K e H as vs c/\c.flatten.Nodup/\(∀b∈c.flatten,e b=none)/\sp as R j /\
 ∀h os a f v F g,R h os->Gr e (bN H c.flatten) a f->ResM K a f h v F->OutM K a f as vs os g->(F++g.flatten).Nodup->(∀b∈F++g.flatten,bN H c.flatten b=none/\a b=none)->Q v f
def OmS.nodup{K:Frag}{a H:Hp}{o:Om}{p:Addr}{F:List Addr}(h:OmS K a H o p F):F.Nodup:=by
 cases h with
 |lst _ _=>simp
 |map _ _=>simp
 |mpT _ _=>simp
 |obj _ _ _ h=>exact h
 |ptr=>exact .nil
 |tl _ _ h=>exact h
 |pr _ _ _ _=>simp
def ArgM.len{K:Frag}{e H:Hp}{as:List Sm}{vs:List V}{c:List (List Addr)}(h:ArgM K e H as vs c):vs.length=as.length/\c.length=as.length:=by
 induction h with
 |nil=>exact⟨rfl,rfl⟩
 |v _ _ a=>exact⟨by simp[a.1],by simp[a.2]⟩
 |o _ _ a=>exact⟨by simp[a.1],by simp[a.2]⟩
section
variable{K:Frag}{H0 H H' Φ Φ' Φ0:Hp}{σ:St}{ρ ρ2:ak}{fp:Nat->List Addr}{F F' B:List Addr}{o o':Om}{p:Addr}{d:D}{v:V}{i:Nat}{a:Option Addr}
noncomputable def gT(new:Nat->Option (Om×List Addr))(fp:Nat->List Addr):Nat->List Addr:=λi=>match new i with|some q=>q.2|none=>fp i
def EnvM'.lend{new:Nat->Option (Om×List Addr)}(E:EnvM' K H0 Φ H σ ρ fp)(s0:Same H0 H)(T:∀b,b∈B->∃i a o q,new i=some q/\ρ[i]?=some (some (.ob a o))/\b∈fp i)(hB2:∀i q,new i=some q->∀b∈fp i,b∈B)(g:Gr Φ (bN H B) Φ' H')
  (hl:ρ2.length=ρ.length) (hv:∀(i:Nat)(d:D),ρ2[i]?=some (some (.v d))->ρ[i]?=some (some (.v d)))
  (C:∀(i:Nat)(a:Option Addr)(o:Om),ρ2[i]?=some (some (.ob a o))->(new i=none/\ρ[i]?=some (some (.ob a o)))\/∃I F',new i=some (o,F')/\ρ[i]?=some (some (.ob a I)))
  (hn:∀(i:Nat)(q:Om×List Addr),new i=some q->∃p,σ[i]?=some (some (.ref p))/\OmS K Φ' H' q.1 p q.2) (U:∀(i:Nat)(q:Om×List Addr),new i=some q->∀b∈q.2,bN H B b=none/\Φ' b=none)
  (hd:∀(i j:Nat)(q r:Om×List Addr),new i=some q->new j=some r->i≠j->∀b∈q.2,b∉r.2):EnvM' K H0 Φ' H' σ ρ2 (gT new fp):=by
 have X:∀b∈B,H0 b=none:=λb l=>let ⟨i,a,o,_,_,h,O⟩:=T b l;(E.no i a o h b O).1
 have w:∀{i:Nat}{a:Option Addr}{o:Om},new i=none->ρ[i]?=some (some (.ob a o))->∀b∈fp i,b∉B:=λ{i a o} J h b l z=>by
  obtain⟨j,A,o2,q,M,m,O⟩:=T b z
  have c:i≠j:=λe=>by rw[e,M]at J;cases J
  exact E.dj i j a A o o2 h m c b l O
 have x:∀{i:Nat},new i=none->gT new fp i=fp i:=λh=>by unfold gT;rw[h]
 have y:∀{i:Nat}{q:Om×List Addr},new i=some q->gT new fp i=q.2:=λh=>by unfold gT;rw[h]
 refine⟨g.s,by rw[hl];exact E.len,λi d h=>?_,λi a o h=>?_,λi a o h b l=>?_,λi j a A o o' J M c b l t=>?_,E.tb.same g.f⟩
 ·obtain⟨v,e,r⟩:=E.sl i d (hv i d h);exact⟨v,e,r.same g.f⟩
 ·rcases C i a o h with⟨f,m⟩|⟨I,F',f,m⟩
  ·obtain⟨p,e,N,r⟩:=E.ow i a o m;refine⟨p,e,N,?_⟩;rw[x f];exact r.keep g.f λb l u G=>g.h b u (by rw[gz (w f m b l)];exact G)
  ·obtain⟨p,e,N,_⟩:=E.ow i a I m;obtain⟨p',Q,r⟩:=hn i _ f;rw[e]at Q;cases Q;exact⟨p,e,N,by rw[y f];exact r⟩
 ·rcases C i a o h with⟨f,m⟩|⟨I,F',f,m⟩
  ·rw[x f]at l;obtain⟨p,_,_,r⟩:=E.ow i a o m;obtain⟨u,G,k⟩:=r.at b l;exact⟨(E.no i a o m b l).1,g.o b u (by rw[gz (w f m b l)];exact G) (E.no i a o m b l).2 k⟩
  ·rw[y f]at l;obtain⟨P,z2⟩:=U i _ f b l;refine⟨?_,z2⟩;rcases KC (b∈B)with c|c
   ·exact X b c
   ·rw[gz c]at P
    cases e:H0 b with
    |none=>rfl
    |some u=>rw[s0 b u e]at P;cases P
 ·have no:∀{i j:Nat}{q:Om×List Addr}{a:Option Addr}{o:Om},new i=some q->new j=none->ρ[j]?=some (some (.ob a o))->b∈q.2->b∈fp j->False:=λ{i j q a o} f m R Z S=>by
   obtain⟨p,_,_,r⟩:=E.ow j a o R;obtain⟨u,G,_⟩:=r.at b S;have:=(U i q f b Z).1;rw[gz (w m R b S),G]at this;cases this
  rcases C i a o J with⟨f,m⟩|⟨I,F',f,m⟩
  ·rw[x f]at l;rcases C j A o' M with⟨k1,k2⟩|⟨o1,Y,k1,k2⟩
   ·rw[x k1]at t;exact E.dj i j a A o o' m k2 c b l t
   ·rw[y k1]at t;exact no k1 f m t l
  ·rw[y f]at l;rcases C j A o' M with⟨k1,k2⟩|⟨o1,Y,k1,k2⟩
   ·rw[x k1]at t;exact no f k1 k2 l t
   ·rw[y k1]at t;exact hd i j _ _ f k1 c b l t
def Gr.lend(c:Gr Φ0 H0 Φ H)(g:Gr Φ (bN H B) Φ' H')(j:∀b∈B,H0 b=none):Gr Φ0 H0 Φ' H':=by
 have h:∀{b:Addr}{u:HO},H0 b=some u->bN H B b=some u:=λ{b u} e=>by
  rw[gz λz=>by rw[j b z]at e;cases e];exact c.h b u e
 exact⟨c.f.trans g.f,λb u e=>g.h b u (h e),g.s,λb u f l k=>g.o b u (h f) (c.o b u f l k) k⟩
def EnvM'.snocG(E:EnvM' K H0 Φ H σ ρ fp){G:Sm}(M:ResM K Φ H G v F)(I:∀b∈F,H0 b=none/\Φ b=none)(hd:∀b∈F,∀(i:Nat)(a:Option Addr)(o:Om),ρ[i]?=some (some (.ob a o))->b∉fp i):EnvM K H0 Φ H (σ++[some v]) (ρ++[some G]):=by
 cases M with
 |v r=>exact EnvM.snocV ⟨fp,E⟩ r
 | @o a0 o p F w J=>
  have m:∀{i:Nat}{x:Sm},(ρ++[some (Sm.ob a0 o)])[i]?=some (some x)->(i<ρ.length/\ρ[i]?=some (some x))\/(i=ρ.length/\x=.ob a0 o):=λ{i x} h=>by
   rcases IU i ρ.length with c|c
   ·rw[HW c]at h;exact .inl ⟨c,h⟩
   ·rw[HX c]at h
    cases e:i-ρ.length with
    |zero=>rw[e]at h;cases h;exact .inr ⟨by omega,rfl⟩
    |succ n=>rw[e]at h;cases h
  refine⟨λi=>if i=ρ.length then F else fp i,E.fz,by rw[HY,HY,E.len];rfl,λi d h=>?_,λi a o' h=>?_,λi a o' h b f=>?_,λi j a y A C t g c b f l=>?_,E.tb⟩
  ·rcases m h with⟨c,h⟩|⟨_,h⟩
   ·obtain⟨v,e,r⟩:=E.sl i d h;exact⟨v,by rw[HW (by rw[E.len];exact c)];exact e,r⟩
   ·cases h
  ·rcases m h with⟨c,h⟩|⟨c,h⟩
   ·obtain⟨q,e,r⟩:=E.ow i a o' h;exact⟨q,by rw[HW (by rw[E.len];exact c)];exact e,by rw[Ib (by omega)];exact r⟩
   ·cases h;subst c;refine⟨p,by rw[HX (by rw[E.len];exact Ih _),E.len,Jn];rfl,w,by rw[Ia rfl];exact J⟩
  ·rcases m h with⟨c,h⟩|⟨c,h⟩
   ·rw[Ib (by omega)]at f;exact E.no i a o' h b f
   ·rw[Ia c]at f;exact I b f
  ·rcases m t with⟨z,t⟩|⟨z,t⟩
   ·rw[Ib (by omega)]at f;rcases m g with⟨u,g⟩|⟨u,g⟩
    ·rw[Ib (by omega)]at l;exact E.dj i j a y A C t g c b f l
    ·rw[Ia u]at l;exact hd b l i a A t f
   ·rw[Ia z]at f;rcases m g with⟨u,g⟩|⟨u,g⟩
    ·rw[Ib (by omega)]at l;exact hd b f j y C g l
    ·omega
end
noncomputable def du(ρ:ak):List Ar->Option (List Sm)
 | []=>some []
 |.t s::as=>(du ρ as).map (s::·)
 |.s i::as=>match ρ[i]? with
  |some (some (.ob _ o))=>(du ρ as).map (.ob none o::·)
  |_=>none
noncomputable def aZ(o:Om):Option Sm->Option Sm
 |some (.ob a _)=>some (.ob a o)
 |x=>x
noncomputable def aQ:ak->Nat->Om->ak
 | [],_,_=>[]
 |x::ρ,0,o=>aZ o x::ρ
 |x::ρ,i+1,o=>x::aQ ρ i o
def kI:∀(ρ:ak)(i:Nat)(o:Om),aQ ρ i o=(match ρ[i]? with
  |some (some (.ob a _))=>ρ.set i (some (.ob a o))
  |_=>ρ)
 | [],_,_=>rfl
 |some (.ob _ _)::_,0,_=>rfl
 |some (.v _)::_,0,_=>rfl
 |none::_,0,_=>rfl
 |x::ρ,i+1,o=>by
  show x::aQ ρ i o=_;rw[kI ρ i o,Mr]
  match ρ[i]? with
  |some (some (.ob _ _))=>rfl
  |some (some (.v _))=>rfl
  |some none=>rfl
  |none=>rfl
noncomputable def aG(ρ:ak):List Ar->List Om->ak
 | [],_=>ρ
 |.t (.v _)::as,os=>aG ρ as os
 |.t (.ob _ _)::as,_::os=>aG ρ as os
 |.t (.ob _ _)::as,[]=>aG ρ as []
 |.s i::as,o::os=>aG (aQ ρ i o) as os
 |.s _::as,[]=>aG ρ as []
noncomputable def di:List Ar->List Nat
 | []=>[]
 |.t _::as=>di as
 |.s i::as=>i::di as
noncomputable def mE(as:List Ar):Bool:=decide (di as).Nodup
noncomputable def eu:Nat->List Ar->List Om->List (List Addr)->Nat->Option (Om×List Addr)
 |n,.t (.v _)::as,os,_::a,i=>eu (n+1) as os a i
 |n,.t (.ob _ _)::as,o::os,F::a,i=>if i=n then some (o,F) else eu (n+1) as os a i
 |n,.s j::as,o::os,F::a,i=>if i=j then some (o,F) else eu n as os a i
 |_,_,_,_,_=>none
section
variable{K:Frag}{H0 H Φ:Hp}{σ:St}{ρ:ak}{fp:Nat->List Addr}
noncomputable def cZ(fp:Nat->List Addr):Nat->List Ar->List (List Addr)
 |_,[]=>[]
 |n,.t (.v _)::as=>[]::cZ fp (n+1) as
 |n,.t (.ob _ _)::as=>fp n::cZ fp (n+1) as
 |n,.s j::as=>fp j::cZ fp n as
noncomputable def cU:Nat->List Ar->List Nat
 |_,[]=>[]
 |n,.t (.v _)::as=>cU (n+1) as
 |n,.t (.ob _ _)::as=>n::cU (n+1) as
 |n,.s j::as=>j::cU n as
def fpA_mem:∀{n:Nat}{as:List Ar}{b:Addr},b∈(cZ fp n as).flatten↔∃i∈cU n as,b∈fp i
 |n,[],b=>by simp[cZ,cU]
 |n,.t (.v _)::as,b=>by simp only[cZ,cU,IY,KU];exact fpA_mem
 |n,.t (.ob _ _)::as,b=>by simp only[cZ,cU,IY,II,Ik,fpA_mem (n:=n+1) (as:=as),exists_eq_or_imp]
 |n,.s j::as,b=>by simp only[cZ,cU,IY,II,Ik,fpA_mem (n:=n) (as:=as),exists_eq_or_imp]
def jb:∀{n:Nat}{as:List Ar}{i:Nat},i∈cU n as->i∈di as\/(n<=i/\i<n+(cE as).length)
 |n,[],i,h=>by cases h
 |n,.t (.v d)::as,i,h=>by
  have h:i∈cU (n+1) as:=h;rcases jb h with z|z
  ·exact .inl z
  ·refine .inr ⟨by omega,?_⟩;show i<n+((cE as).length+1);omega
 |n,.t (.ob a o)::as,i,h=>by
  rcases Ik.mp h with rfl|h
  ·refine .inr ⟨Ih _,?_⟩;show i<i+((cE as).length+1);omega
  ·rcases jb h with z|z
   ·exact .inl z
   ·refine .inr ⟨by omega,?_⟩;show i<n+((cE as).length+1);omega
 |n,.s j::as,i,h=>by
  rcases Ik.mp h with rfl|h
  ·exact .inl Ie
  ·rcases jb h with z|z
   ·exact .inl (Ic _ z)
   ·exact .inr z
def ny:∀{n:Nat}{as:List Ar},(di as).Nodup->(∀i∈di as,i<n)->(cU n as).Nodup
 |n,[],_,_=>by simp[cU]
 |n,.t (.v d)::as,h,c=>ny (n:=n+1) h λi e=>K7 (c i e)
 |n,.t (.ob a o)::as,h,c=>by
  refine IS.mpr ⟨λz=>?_,ny (n:=n+1) h λi e=>K7 (c i e)⟩;rcases jb z with z|z
  ·exact J8 _ (c n z)
  ·omega
 |n,.s j::as,h,c=>by
  obtain⟨f,g⟩:=IS.mp h;refine IS.mpr ⟨λz=>?_,ny g λi e=>c i (Ic _ e)⟩;rcases jb z with z|z
  ·exact f z
  ·have:=c j Ie;omega
def iO{s:Sm}{as:List Ar}{a:List Sm}(h:du ρ (.t s::as)=some a):∃q,du ρ as=some q/\a=s::q:=by obtain⟨q,e,h⟩:=Lb.mp h;exact⟨q,e,h.symm⟩
def kG{i:Nat}{as:List Ar}{c:List Sm}(h:du ρ (.s i::as)=some c):∃a o q,ρ[i]?=some (some (.ob a o))/\du ρ as=some q/\c=.ob none o::q:=by
 unfold du at h;split at h
 ·next a o ho=>
  obtain⟨q,e,h⟩:=Lb.mp h;exact⟨a,o,q,ho,e,h.symm⟩
 ·cases h
def OutM.cv{d:D}{as:List Sm}{v:V}{vs:List V}{os:List Om}{a:List (List Addr)}(h:OutM K Φ H (.v d::as) (v::vs) os a):∃c,a=[]::c/\OutM K Φ H as vs os c:=by
 cases h with
 |v h=>exact⟨_,rfl,h⟩
def OutM.co{a:Option Addr}{o:Om}{as:List Sm}{v:V}{vs:List V}{os:List Om}{c:List (List Addr)}(h:OutM K Φ H (.ob a o::as) (v::vs) os c):∃p g f F e,v=.ref p/\os=g::f/\c=F::e/\OmS K Φ H g p F/\OutM K Φ H as vs f e:=by
 cases h with
 |o j h=>exact⟨_,_,_,_,_,rfl,rfl,rfl,j,h⟩
def gW{a:Type}{l m:List a}{n:Nat}{y:a}(h:∀(j:Nat) x,(y::l)[j]?=some x->m[n+j]?=some x)(j:Nat)(x:a)(c:l[j]?=some x):m[n+1+j]?=some x:=by rw[show n+1+j=n+(j+1)by omega];exact h (j+1) x c
def FT{σx:St}{c:ak}(E:EnvM' K H0 Φ H σx c fp)(B:∀(i:Nat)(x:Sm),ρ[i]?=some (some x)->c[i]?=some (some x))(y:∀(i:Nat)(v:V),σ[i]?=some (some v)->σx[i]?=some (some v)) :
  ∀{n:Nat}{as:List Ar}{l:List Sm}{vs:List V}{ts:St},(∀(j:Nat) x,(cE as)[j]?=some x->c[n+j]?=some x)->(∀(j:Nat) x,ts[j]?=some x->σx[n+j]?=some x)->du ρ as=some l->ArV σ as vs ts->ArgM K Φ H l vs (cZ fp n as):=by
 intro n as l vs ts f g p u
 induction u generalizing n l with
 |nil=>cases p;exact .nil
 | @t C v as vs ts u m=>
  obtain⟨q,e,rfl⟩:=iO p
  cases C with
  |v d=>
   obtain⟨w,h,r⟩:=E.sl n d (f 0 _ rfl);obtain rfl:=IK (IK ((g 0 _ rfl).symm.trans h));exact .v r (m (n:=n+1) (gW f) (gW g) e)
  |ob a o=>
   obtain⟨w,h,_,r⟩:=E.ow n a o (f 0 _ rfl);obtain rfl:=IK (IK ((g 0 _ rfl).symm.trans h));exact .o r (m (n:=n+1) (gW f) (gW g) e)
 | @s i v as vs ts z u m=>
  obtain⟨a,o,q,A,e,rfl⟩:=kG p;obtain⟨w,h,_,r⟩:=E.ow i a o (B i _ A);obtain rfl:=IK (IK ((y i _ z).symm.trans h));exact .o r (m f g e)
def my{σx:St}{c:ak}(m:∀(i:Nat)(x:Sm),ρ[i]?=some (some x)->c[i]?=some (some x)) :
  ∀{n:Nat}{as:List Ar}{l:List Sm},(∀(j:Nat) x,(cE as)[j]?=some x->c[n+j]?=some x)->du ρ as=some l->∀i∈cU n as,∃a o,c[i]?=some (some (.ob a o))
 |n,[],l,_,g,i,h=>by cases h
 |n,.t (.v d)::as,l,f,g,i,h=>by obtain⟨q,e,rfl⟩:=iO g;exact my (σx:=σx) m (n:=n+1) (gW f) e i h
 |n,.t (.ob a o)::as,l,f,g,i,h=>by
  obtain⟨q,e,rfl⟩:=iO g;rcases Ik.mp h with rfl|h
  ·exact⟨a,o,f 0 _ rfl⟩
  ·exact my (σx:=σx) m (n:=n+1) (gW f) e i h
 |n,.s j::as,l,f,g,i,h=>by
  obtain⟨a,o,q,p,e,rfl⟩:=kG g;rcases Ik.mp h with rfl|h
  ·exact⟨a,o,m _ _ p⟩
  ·exact my (σx:=σx) m (n:=n) (as:=as) f e i h
def mv{σx:St}{t:ak}(E:EnvM' K H0 Φ H σx t fp):∀{n:Nat}{as:List Ar},(cU n as).Nodup->(∀i∈cU n as,∃a o,t[i]?=some (some (.ob a o)))->(cZ fp n as).flatten.Nodup
 |n,[],_,_=>by simp[cZ]
 |n,.t (.v d)::as,h,g=>by show ([]++(cZ fp (n+1) as).flatten).Nodup;rw[KU];exact mv E (n:=n+1) h g
 |n,.t (.ob a o)::as,h,g=>by show (fp n++(cZ fp (n+1) as).flatten).Nodup;obtain⟨w,x⟩:=IS.mp h;obtain⟨l,p,m⟩:=g n Ie;obtain⟨_,_,_,r⟩:=E.ow n l p m;refine Js.mpr ⟨r.nodup,mv E (n:=n+1) x λi f=>g i (Ic _ f),λb y c z e=>?_⟩;subst e;obtain⟨i,f,u⟩:=fpA_mem.mp z;obtain⟨a2,A,v⟩:=g i (Ic _ f);exact E.dj n i l a2 p A m v (λe=>w (e▸f)) b y u
 |n,.s j::as,h,g=>by show (fp j++(cZ fp n as).flatten).Nodup;obtain⟨w,x⟩:=IS.mp h;obtain⟨l,p,m⟩:=g j Ie;obtain⟨_,_,_,r⟩:=E.ow j l p m;refine Js.mpr ⟨r.nodup,mv E x λi f=>g i (Ic _ f),λb y c z e=>?_⟩;subst e;obtain⟨i,f,u⟩:=fpA_mem.mp z;obtain⟨a2,A,v⟩:=g i (Ic _ f);exact E.dj j i l a2 p A m v (λe=>w (e▸f)) b y u
def jA:∀{n:Nat}{as:List Ar}{os:List Om}{e:List (List Addr)}{i:Nat}{q:Om×List Addr},eu n as os e i=some q->i∈cU n as
 |n,[],_,_,_,_,h=>by cases h
 |n,.t (.v d)::as,os,[],i,q,h=>by cases h
 |n,.t (.v d)::as,os,F::e,i,q,h=>jA (n:=n+1) h
 |n,.t (.ob a o)::as,[],e,i,q,h=>by cases e<;>cases h
 |n,.t (.ob a o)::as,_::_,[],i,q,h=>by cases h
 |n,.t (.ob a o)::as,f::os,F::e,i,q,h=>by
  have h:(if i=n then some (f,F) else eu (n+1) as os e i)=some q:=h;split at h
  ·next c=>rw[c];exact Ie
  ·exact Ic _ (jA h)
 |n,.s j::as,[],e,i,q,h=>by cases e<;>cases h
 |n,.s j::as,_::_,[],i,q,h=>by cases h
 |n,.s j::as,f::os,F::e,i,q,h=>by
  have h:(if i=j then some (f,F) else eu n as os e i)=some q:=h;split at h
  ·next c=>rw[c];exact Ie
  ·exact Ic _ (jA h)
noncomputable def OutS(K:Frag)(Φ H:Hp)(σx:St)(ps:List Nat)(a:Nat->Option (Om×List Addr))(G:List Addr):Prop:=
 (∀i∈ps,∃q,a i=some q)/\∀(i:Nat)(q:Om×List Addr),a i=some q->(∃p,σx[i]?=some (some (.ref p))/\OmS K Φ H q.1 p q.2)/\(∀b∈q.2,b∈G)/\∀(j:Nat)(r:Om×List Addr),a j=some r->i≠j->∀b∈q.2,b∉r.2
def OutS.cons{σx:St}{ps:List Nat}{v g:Nat->Option (Om×List Addr)}{F G:List Addr}{m:Nat}{o:Om}{p:Addr}(t:OutS K Φ H σx ps v G)(u:∀i,g i=if i=m then some (o,F) else v i)(A:σx[m]?=some (some (.ref p)))(y:OmS K Φ H o p F)(B:(F++G).Nodup):OutS K Φ H σx (m::ps) g (F++G):=by
 have f:=(Js.mp B).2.2;refine⟨λi z=>?_,λi q h=>?_⟩
 ·rw[u];split
  ·exact⟨_,rfl⟩
  ·next c=>exact t.1 i ((Ik.mp z).resolve_left c)
 ·rw[u]at h;split at h
  ·next c=>
   subst c;cases h;refine⟨⟨p,A,y⟩,λb a=>II.mpr (.inl a),λj r e c b a l=>?_⟩;rw[u,Ib (Jj c)]at e;exact f b a b ((t.2 j r e).2.1 b l) rfl
  ·next c=>
   obtain⟨C,w,E⟩:=t.2 i q h;refine⟨C,λb a=>II.mpr (.inr (w b a)),λj r e x b a l=>?_⟩;rw[u]at e;split at e
   ·next c3=>
    cases e;exact f b l b (w b a) rfl
   ·exact E j r e x b a l
def wX{σx:St}(C:∀(i:Nat)(v:V),σ[i]?=some (some v)->σx[i]?=some (some v)) :
  ∀{n:Nat}{as:List Ar}{m:List Sm}{vs:List V}{ts:St}{os:List Om}{f:List (List Addr)},(∀(j:Nat) x,ts[j]?=some x->σx[n+j]?=some x)->du ρ as=some m->ArV σ as vs ts->OutM K Φ H m vs os f->(cU n as).Nodup->f.flatten.Nodup->OutS K Φ H σx (cU n as) (eu n as os f) f.flatten:=by
 intro n as m vs ts os f r B z
 induction z generalizing n m os f with
 |nil=>
  intro c _ _;exact⟨λi y=>(by cases y),λi q h=>(by cases h)⟩
 | @t I v as vs ts z u=>
  intro c w g;obtain⟨q,e,rfl⟩:=iO B
  cases I with
  |v d=>
   obtain⟨A,rfl,l⟩:=c.cv;exact u (n:=n+1) (gW r) e l w g
  |ob a o=>
   obtain⟨p,G,E,F,A,rfl,rfl,rfl,l,c⟩:=c.co;exact (u (n:=n+1) (gW r) e c (IS.mp w).2 (Js.mp g).2.1).cons (λ_=>rfl) (r 0 _ rfl) l g
 | @s J v as vs ts y z u=>
  intro c w g;obtain⟨a,o,q,_,e,rfl⟩:=kG B;obtain⟨p,G,E,F,A,rfl,rfl,rfl,l,c⟩:=c.co;exact (u r e c (IS.mp w).2 (Js.mp g).2.1).cons (λ_=>rfl) (C _ _ y) l g
def wJ{ρ:ak}{i j:Nat}{o:Om}{x:Option Sm}(h:(aQ ρ i o)[j]?=some x)(c:j≠i):ρ[j]?=some x:=by
 rw[kI]at h;split at h
 ·rwa [IL (Jj c)]at h
 ·exact h
def E7{ρ:ak}{i:Nat}{o:Om}:(aQ ρ i o).length=ρ.length:=by
 rw[kI];split
 ·rw[Im]
 ·rfl
def bQ:∀{as:List Ar}{ρ:ak}{os:List Om},(aG ρ as os).length=ρ.length
 | [],_,_=>rfl
 |.t (.v _)::as,ρ,os=>bQ (as:=as)
 |.t (.ob _ _)::as,ρ,_::os=>bQ (as:=as)
 |.t (.ob _ _)::as,ρ,[]=>bQ (as:=as)
 |.s i::as,ρ,o::os=>by show (aG (aQ ρ i o) as os).length=_;rw[bQ,E7]
 |.s _::as,ρ,[]=>bQ (as:=as)
def gk:∀{as:List Ar}{ρ:ak}{os:List Om}{i:Nat}{x:Option Sm},i∉di as->(aG ρ as os)[i]?=some x->ρ[i]?=some x
 | [],_,_,_,_,_,h=>h
 |.t (.v _)::as,ρ,os,i,x,a,h=>gk (as:=as) (os:=os) a h
 |.t (.ob _ _)::as,ρ,_::os,i,x,a,h=>gk (as:=as) (os:=os) a h
 |.t (.ob _ _)::as,ρ,[],i,x,a,h=>gk (as:=as) (os:=[]) a h
 |.s j::as,ρ,o::os,i,x,a,h=>by have h':=gk (as:=as) (λz=>a (Ic _ z)) (show (aG (aQ ρ j o) as os)[i]?=some x from h);exact wJ h' λe=>a (by rw[e];exact Ie)
 |.s j::as,ρ,[],i,x,a,h=>gk (as:=as) (os:=[]) (λz=>a (Ic _ z)) h
def v8{ρ:ak}{i j:Nat}{o:Om}(c:j≠i):(aQ ρ i o)[j]?=ρ[j]?:=by
 rw[kI];split
 ·rw[IL (Jj c)]
 ·rfl
def px{M:ak}:∀{as:List Ar}{ρ:ak}{r:List Sm}{vs:List V}{ts:St}{os:List Om}{m:List (List Addr)}{n i:Nat}{x:Sm},du M as=some r->ArV σ as vs ts->OutM K Φ H r vs os m->i∈di as->i<n->(di as).Nodup->(aG ρ as os)[i]?=some (some x)->(∀j∈di as,∃a o,ρ[j]?=some (some (.ob a o)))->
  ∃a g q,x=.ob a q.1/\eu n as os m i=some q/\ρ[i]?=some (some (.ob a g)):=by
 intro as ρ r vs ts os m n i x S J
 induction J generalizing ρ r os m n i x with
 |nil=>intro _ h;cases h
 | @t X v as vs ts J y=>
  intro f h G nd w l;obtain⟨q,e,rfl⟩:=iO S
  cases X with
  |v d=>
   obtain⟨N,rfl,E⟩:=f.cv;exact y (n:=n+1) e E h (by omega) nd w l
  |ob a1 Y=>
   obtain⟨p,A,P,F,N,rfl,rfl,rfl,E,f⟩:=f.co;obtain⟨a,g,q,B,C,u⟩:=y (n:=n+1) (ρ:=ρ) e f h (by omega) nd w l;exact⟨a,g,q,B,(Ib (Ja G)).trans C,u⟩
 | @s j v as vs ts _ J y=>
  intro f h G nd w l;obtain⟨_,o,q,_,e,rfl⟩:=kG S;obtain⟨p,A,P,F,N,rfl,rfl,rfl,E,f⟩:=f.co;obtain⟨Q,U⟩:=IS.mp nd;have O:(aG (aQ ρ j A) as P)[i]?=some (some x):=w;by_cases c:i=j
  ·subst c;obtain⟨a,g,I⟩:=l i Ie;have:=gk Q O;rw[kI]at this;rw[I]at this;simp only at this;rw[IP (ba I)]at this;cases this;exact⟨a,g,(A,F),rfl,Ia rfl,I⟩
  ·have T:=(Ik.mp h).resolve_left c
   obtain⟨a,g,q,B,C,u⟩:=y (ρ:=aQ ρ j A) (n:=n) e f T G U O λk R=>by
    rw[v8 λz=>Q (by rw[←z];exact R)];exact l k (Ic _ R)
   exact⟨a,g,q,B,(Ib c).trans C,by rw[v8 c]at u;exact u⟩
def pP:∀{as:List Ar}{c:List Sm},du ρ as=some c->∀j∈di as,∃a o,ρ[j]?=some (some (.ob a o))
 | [],_,_,j,h=>by cases h
 |.t s::as,c,f,j,h=>by obtain⟨q,e,rfl⟩:=iO f;exact pP e j h
 |.s i::as,c,f,j,h=>by
  obtain⟨a,o,q,g,e,rfl⟩:=kG f;rcases Ik.mp h with rfl|h
  ·exact⟨a,o,g⟩
  ·exact pP e j h
end
section
variable{K:Frag}{X:Cx}{e:Expr}{es:List Expr}{pos p:Pos}{tA:ca}
noncomputable def pZ(sp:bU)(tA:ca):TX:=λρ R f=>tA ρ (λas a=>∃c,du a as=some c/\mE as=true/\sp c (λg os=>R g (aG a as os)) (λh os=>f h (aG a as os))) f
def StM.lend{Φ0 H0 Φ H:Hp}{C J ts:St}{ρ f:ak}{Rx:XD->ak->Prop}{as:List Ar}{Nd:List Sm}{vs:List V}(S:StM K X Φ0 H0 Φ H C (J++ts) ρ (f++cE as) Rx)(hl:f.length=J.length)(M:du ρ as=some Nd)(T:ArV C as vs ts)(hs:mE as=true) :
  ∃Q,ArgM K Φ H Nd vs Q/\Q.flatten.Nodup/\(∀b∈Q.flatten,Φ b=none)/\∀sm os w O v F I,Gr Φ (bN H Q.flatten) w O->ResM K w O sm v F->OutM K w O Nd vs os I->(F++I.flatten).Nodup->(∀b∈F++I.flatten,bN H Q.flatten b=none/\w b=none)->
   StM K X Φ0 H0 w O C (J++[some v]) (aG ρ as os) (f++[some sm]) Rx:=by
 have nd:(di as).Nodup:=Ir hs;obtain⟨P,E⟩:=S.E;have lS:=S.l
 have Nn:(cE as).length=ts.length:=by have:=S.lk;rw[HY,HY]at this;omega
 have a1:∀(i:Nat)(x:Sm),ρ[i]?=some (some x)->(ρ++(f++cE as))[i]?=some (some x):=λi x h=>by rw[HW (ba h)];exact h
 have a2:∀(i:Nat)(v:V),C[i]?=some (some v)->(C++(J++ts))[i]?=some (some v):=λi x h=>by rw[HW (ba h)];exact h
 have a3:∀(j:Nat) x,(cE as)[j]?=some x->(ρ++(f++cE as))[ρ.length+f.length+j]?=some x:=λj x h=>by rw[HX (by omega),HX (by omega),show ρ.length+f.length+j-ρ.length-f.length=j by omega];exact h
 have a4:∀(j:Nat) x,ts[j]?=some x->(C++(J++ts))[ρ.length+f.length+j]?=some x:=λj x h=>by rw[HX (by omega),HX (by omega),show ρ.length+f.length+j-C.length-J.length=j by omega];exact h
 have sl:=pP M
 have Y:∀i∈di as,i<ρ.length:=λi l=>let ⟨_,_,h⟩:=sl i l;ba h
 have pn:(cU (ρ.length+f.length) as).Nodup:=ny nd λi l=>by have:=Y i l;omega
 have po:=my (σx:=C) a1 a3 M;refine⟨cZ P (ρ.length+f.length) as,FT E a1 a2 a3 a4 M T,mv E pn po,λb t=>?_,λsm os w O v F I g OC Rj hnd NQ=>?_⟩
 ·obtain⟨i,l,A⟩:=fpA_mem.mp t;obtain⟨a,o,R⟩:=po i l;exact (E.no i a o R b A).2
 obtain⟨UM,RN,nd3⟩:=Js.mp hnd;obtain⟨n1,n2⟩:=wX (n:=ρ.length+f.length) a2 a4 M T Rj pn RN
 have B0:∀b∈(cZ P (ρ.length+f.length) as).flatten,H0 b=none:=λb t=>by obtain⟨i,l,A⟩:=fpA_mem.mp t;obtain⟨a,o,R⟩:=po i l;exact (E.no i a o R b A).1
 have pl:∀{i:Nat},i<ρ.length+f.length->i∉di as->eu (ρ.length+f.length) as os I i=none:=λ{i} l hn=>by
  cases e:eu (ρ.length+f.length) as os I i with
  |none=>rfl
  |some q=>
   rcases jb (jA e)with z|z
   ·exact absurd z hn
   ·omega
 have E2:EnvM' K H0 w O (C++(J++ts)) (aG ρ as os++(f++List.replicate ts.length none)) (gT (eu (ρ.length+f.length) as os I) P):=by
  have cs:∀{i:Nat}{x:Sm},(aG ρ as os++(f++List.replicate ts.length none))[i]?=some (some x)->(i<ρ.length/\(aG ρ as os)[i]?=some (some x))\/(ρ.length<=i/\i<ρ.length+f.length/\f[i-ρ.length]?=some (some x)):=λ{i x} h=>by
   rcases IU i ρ.length with c|c
   ·rw[HW (by rw[bQ];exact c)]at h;exact .inl ⟨c,h⟩
   ·rw[HX (by rw[bQ];exact c),bQ]at h;rcases IU (i-ρ.length) f.length with y|y
    ·rw[HW y]at h;exact .inr ⟨c,by omega,h⟩
    ·rw[HX y,J9]at h;split at h
     ·cases h
     ·cases h
  have kx:∀{i:Nat}{x:Sm},ρ.length<=i->i<ρ.length+f.length->f[i-ρ.length]?=some (some x)->(ρ++(f++cE as))[i]?=some (some x):=λ{i x} m y h=>by rw[HX m,HW (by omega)];exact h
  refine E.lend S.g.h (B:=(cZ P (ρ.length+f.length) as).flatten) (new:=eu (ρ.length+f.length) as os I) (λb t=>?_) (λi q G b t=>fpA_mem.mpr ⟨i,jA G,t⟩) g (by rw[HY,HY,HY,HY,JA,bQ,Nn]) (λi d h=>?_) (λi a o h=>?_) (λi q G=>(n2 i q G).1) (λi q G b t=>NQ b (II.mpr (.inr ((n2 i q G).2.1 b t)))) λi j q r G O2 c b t=>(n2 i q G).2.2 j r O2 c b t
  ·obtain⟨i,l,A⟩:=fpA_mem.mp t;obtain⟨a,o,R⟩:=po i l;obtain⟨q,G⟩:=n1 i l;exact⟨i,a,o,q,G,R,A⟩
  ·rcases cs h with⟨c,h⟩|⟨m,y,h⟩
   ·rcases KC (i∈di as)with z|z
    ·obtain⟨a,o0,q,e1,_⟩:=px (n:=ρ.length+f.length) M T Rj z (by omega) nd h sl;cases e1
    ·exact a1 _ _ (gk z h)
   ·exact kx m y h
  ·rcases cs h with⟨c,h⟩|⟨m,y,h⟩
   ·rcases KC (i∈di as)with z|z
    ·obtain⟨a',o0,q,e1,e2,e3⟩:=px (n:=ρ.length+f.length) M T Rj z (by omega) nd h sl;cases e1;exact .inr ⟨o0,q.2,e2,a1 _ _ e3⟩
    ·exact .inl ⟨pl (by omega) z,a1 _ _ (gk z h)⟩
   ·exact .inl ⟨pl y λz=>by have:=Y i z;omega,kx m y h⟩
 have g0:=S.g.lend g B0
 have E3:=E2.snocG OC (λb t=>by
   obtain⟨Z,z2⟩:=NQ b (II.mpr (.inl t));refine⟨?_,z2⟩;rcases KC (b∈(cZ P (ρ.length+f.length) as).flatten)with c|c
   ·exact B0 b c
   ·rw[gz c]at Z
    exact S.g.h.free Z) λb t i a o l A=>by
  unfold gT at A
  cases e:eu (ρ.length+f.length) as os I i with
  |some q=>
   rw[e]at A;exact nd3 b t b ((n2 i q e).2.1 b A) rfl
  |none=>
   rw[e]at A;obtain⟨p,_,_,r⟩:=E2.ow i a o l;unfold gT at r;rw[e]at r;obtain⟨Z,z2⟩:=NQ b (II.mpr (.inl t))
   have own:∃U,(ρ++(f++cE as))[i]?=some (some (.ob a U)):=by
    rcases IU i ρ.length with c|c
    ·rw[HW (by rw[bQ];exact c)]at l;rcases KC (i∈di as)with z|z
     ·obtain⟨a',o0,q,_,e2,_⟩:=px (n:=ρ.length+f.length) M T Rj z (by omega) nd l sl;rw[e]at e2;cases e2
     ·exact⟨o,a1 _ _ (gk z l)⟩
    ·rw[HX (by rw[bQ];exact c),bQ]at l;rcases IU (i-ρ.length) f.length with y|y
     ·rw[HW y]at l;exact⟨o,by rw[HX c,HW y];exact l⟩
     ·rw[HX y,J9]at l;split at l
      ·cases l
      ·cases l
   obtain⟨U,ND⟩:=own;obtain⟨p',_,_,r'⟩:=E.ow i a U ND;obtain⟨u,hu,_⟩:=r'.at b A
   have c:b∉(cZ P (ρ.length+f.length) as).flatten:=λz=>by
    obtain⟨j,hj,hbj⟩:=fpA_mem.mp z;obtain⟨q,G⟩:=n1 j hj
    have cj:i≠j:=λz=>by rw[z,G]at e;cases e
    obtain⟨a2',o2,hj2⟩:=po j hj;exact E.dj i j a a2' U o2 ND hj2 cj b A hbj
   rw[gz c,hu]at Z;cases Z
 refine⟨g0,by rw[bQ];exact lS,?_,S.x⟩;refine E3.re (λi=>if i<ρ.length+f.length then i else ρ.length+f.length+ts.length) (by simp only[HY,Ij,Jh,bQ];omega) (λi x N=>?_) λi j a a' o U l hj e=>?_
 ·rcases IU i (ρ.length+f.length)with c|c
  ·rw[Ia c];constructor
   ·rcases IU i ρ.length with m|m
    ·rw[HW (by rw[bQ];exact m)]at N;rw[HW (by simp only[HY,bQ];omega),HW (by rw[bQ];exact m)];exact N
    ·rw[HX (by rw[bQ];exact m),bQ,HW (by omega)]at N;rw[HW (by simp only[HY,bQ];omega),HX (by rw[bQ];exact m),bQ,HW (by omega)];exact N
   ·rcases IU i C.length with m|m
    ·rw[HW m,HW (by simp only[HY];omega),HW m]
    ·rw[HX m,HW (by omega),HW (by simp only[HY];omega),HX m,HW (by omega)]
  ·have l:i=ρ.length+f.length:=by have:=ba N;simp only[HY,Ij,Jh,bQ]at this;omega
   subst l;rw[Ib (by omega)];rw[HX (by rw[bQ];omega),HX (by rw[bQ];omega),bQ,show ρ.length+f.length-ρ.length-f.length=0 by omega]at N;cases N;constructor
   ·rw[HX (by simp only[HY,JA,bQ];omega)];simp only[HY,JA,bQ];rw[show ρ.length+f.length+ts.length-(ρ.length+(f.length+ts.length))=0 by omega];rfl
   ·rw[HX (by omega),HX (by omega),HX (by simp only[HY];omega)];simp only[HY];rw[show ρ.length+f.length-C.length-J.length=0 by omega,show ρ.length+f.length+ts.length-(C.length+(J.length+ts.length))=0 by omega]
 ·have hi1:=ba l;have TF:=ba hj;simp only[HY,Ij,Jh,bQ]at hi1 TF;have e:(if i<ρ.length+f.length then i else ρ.length+f.length+ts.length)=(if j<ρ.length+f.length then j else ρ.length+f.length+ts.length):=e;split at e<;>split at e<;>omega
structure ClM(P:Program)(w:World)(K:Frag)(mg:Str->Option Value)(base:Heap)(n:Nat)(x:Str)(ps:List Str)(z:bU):Prop where
 ex:∃(f:Addr)(fd:FuncData),FnOk P w K mg base bf n f fd ps (bu K z)/\Binds K fd ps []/\keepIn K (.ref f)=true/\mg x=some (.ref f)
def bp{n:Nat}{x:Str}{ps:List Str}{z:bU}(C:ClM X.prog X.w K X.mg X.base n x ps z)(hr:Room n X.A)(hg:Gl X x)
  (ha:PXA K X (e::es) tA) (he:starEach (e::es) X.env=(false,eval e X.env)::starEach es X.env) (M:(backTo pos (starEach es X.env)).any (·.1)=false) (J:(x==("__debug__":Str))=false:=by decide) :
  PX K X (.Call (.Name x p) (e::es) [] pos) (pZ z tA):=⟨λc=>by
 obtain⟨f,Y,F,b,k,m⟩:=C.ex;refine (uR (dvs:=[]) (ds:=[]) (E:=E0) (c▸F:FnOk X.prog X.w X.K X.mg X.base bf n f Y ps (bu K z)) hr hg m (c▸k) (c▸b) .nil nM (ha.pa c) J he M).imp λσ H Q B=>?_;obtain⟨j,y,Φ,τ,ρ,κ,R,T,S,t,k⟩:=B;refine⟨j,y,Φ,τ,ρ,κ,_,T,S,t,λas ρ1 l H1 vs ts h hl hv g U=>?_⟩;obtain⟨I,O,P,h⟩:=h;obtain⟨w,Z,g2,g3,g4⟩:=g.lend S.lk O hv P;rw[IW]
 exact⟨l,I,w,_,_,g.g.s,g.E.tb,Z,g2,g3,h,λu os a o v F A r gr N ho hn G=>k u _ a o v r (g4 u os a o v F A gr N ho hn G) (U.trans gr.f)⟩⟩
end
structure EndsM where
 nx:ak->Prop
 rt:Sm->ak->Prop
 bk:ak->Prop:=λ_=>False
 ct:ak->Prop:=λ_=>False
 ex:XD->ak->Prop:=λ_ _=>False
noncomputable abbrev bj:=EndsM->ak->Prop
noncomputable def qy(K:Frag)(g h:Hp)(P:ak->Prop)(Q:St->Hp->Prop):Prop:=∀c a f e,P c->Gr g h a f->EnvM K h a f e c->Q e f
structure EndOkM(K:Frag)(X:Cx)(Φ0 H0:Hp)(De:EndsM)(E:Ends):Prop where
 nx:qy K Φ0 H0 De.nx E.nx
 rt:∀sm ρ' Φ' H' v σ',De.rt sm ρ'->Gr Φ0 H0 Φ' H'->EnvM K H0 Φ' H' (σ'++[some v]) (ρ'++[some sm])->E.rt v H'
 bk:qy K Φ0 H0 De.bk E.bk
 ct:qy K Φ0 H0 De.ct E.ct
 ex:XeOk K X Φ0 H0 De.ex
noncomputable def lM(K:Frag)(X:Cx)(t:bj):TS:=λE g H=>∃a c f ρ e,Gr a c f H/\EnvM K c f H g ρ/\t e ρ/\EndOkM K X a c e E
structure PSM(K:Frag)(X:Cx)(st:Stmt)(t:bj):Prop where ps:X.K=K->PS X st (lM K X t)
structure PSsM(K:Frag)(X:Cx)(st:List Stmt)(t:bj):Prop where ps:X.K=K->PSs X st (lM K X t)
section
variable{K:Frag}{X:Cx}{Φ0 H0 Φ H:Hp}{σ:St}{ρ:ak}{Rx:XD->ak->Prop}{v:V}{sm:Sm}
def ed(g:Gr Φ0 H0 Φ H)(V:EnvM K H0 Φ H σ ρ)(x:XeOk K X Φ0 H0 Rx):StM K X Φ0 H0 Φ H σ [] ρ [] Rx:=⟨g,V.len.symm,by rw[IW,IW];exact V,x⟩
def StM.env1(S:StM K X Φ0 H0 Φ H σ ([]++[some v]) ρ ([]++[some sm]) Rx):EnvM K H0 Φ H (σ++[some v]) (ρ++[some sm]):=S.E
end
section
variable{K:Frag}{X:Cx}{st:Stmt}{rest:List Stmt}{t u:bj}{e a:Expr}{te:TX}{pos:Pos}{tt:c9}
noncomputable def Ac:bj:=λc ρ=>c.nx ρ
noncomputable def vg(t u:bj):bj:=λc ρ=>t { c with nx:=u c } ρ
noncomputable def wG(t u:bj):bj:=λf ρ=>∃I:ak->Prop,t { f with nx:=I } ρ/\∀c,I c->u f c
def aK:PSsM K X [] Ac:=⟨λ_=>pss_nil.imp λE j H c=>by obtain⟨h,m,f,ρ,l,g,V,t,k⟩:=c;exact k.nx ρ f H j t g V⟩
def ap(r:PSM K X st t)(v:PSsM K X rest u):PSsM K X (st::rest) (vg t u):=⟨λl=>(so (r.ps l) (v.ps l)).imp λE z H o=>by obtain⟨c,j,w,ρ,m,g,V,t,k⟩:=o;exact
 ⟨c,j,w,ρ,_,g,V,t,⟨λh f y x t' g' p=>⟨c,j,f,h,m,g',p,t',k⟩,k.rt,k.bk,k.ct,k.ex⟩⟩⟩
def aL(v:PSM K X st t)(w:PSsM K X rest u):PSsM K X (st::rest) (wG t u):=⟨λm=>(so (v.ps m) (w.ps m)).imp λE A H p=>by obtain⟨f,l,x,ρ,o,g,V,⟨I,t,c⟩,k⟩:=p;exact
 ⟨f,l,x,ρ,_,g,V,t,⟨λh j z y t' g' r=>⟨f,l,j,h,o,g',r,c h t',k⟩,k.rt,k.bk,k.ct,k.ex⟩⟩⟩
def ai(c:PSM K X st t):PSsM K X [st] t:=⟨λf=>vV (c.ps f)⟩
noncomputable def AX:bj:=λ_ _=>False
def j8:PSM K X st AX:=⟨λ_=>ps_never.imp λE m H c=>by obtain⟨f,j,l,ρ,h,g,V,t,k⟩:=c;exact t⟩
noncomputable def j7(i:Nat)(te:TX):bj:=λf ρ=>te ρ (λs c=>f.nx (c.set i (some s))) f.ex
def Dl{i:Nat}{E:Ends}{l:St}{H:Hp}(h:lM K X (j7 i te) E l H):kU (im K X te) (jT i) E l H:=by obtain⟨c,o,w,ρ,m,g,V,t,k⟩:=h;exact⟨c,o,w,[],ρ,[],_,m.ex,ed g V k.ex,t,λs x f p v r j _=>k.nx _ f p _ r j.g (j.env1.store i)⟩
def ar{i:Nat}{x:Str}{c:Pos}(g:X.N.Nodup)(l:X.N[i]?=some x)(o:gb X.env.scope x)(h:PX K X e te)(m:swapsWith e (some (.Name x c)) pos.line X.env=pure false:=by rfl)(j:X.fn x=true\/X.env.scope.names.lookup x=some .local:=by nofun) :
  PSM K X (.Assign [.Name x c] e pos) (j7 i te):=⟨λf=>(Gp g l o (h.pe f) m j).imp λ_ _ _=>Dl⟩
noncomputable def BZ(te:TX):bj:=λf ρ=>te ρ (λ_ c=>f.nx c) f.ex
def qe(w:PX K X e te)(x:swapsWith e none pos.line X.env=pure false:=by rfl):PSM K X (.Expr e pos) (BZ te):=
 ⟨λp=>(nI (w.pe p) x).imp λE A H o=>by
  obtain⟨c,l,y,ρ,j,g,V,t,k⟩:=o
  exact⟨c,l,y,[],ρ,[],_,j.ex,ed g V k.ex,t,λs z f m v r h _=>k.nx _ f m A r h.g h.env⟩⟩
noncomputable def tj(te:TX):bj:=λc ρ=>te ρ c.rt c.ex
def aC(x:PX K X e te):PSM K X (.Return (some e) pos) (tj te):=
 ⟨λw=>(Er (x.pe w)).imp λE z H p=>by
  obtain⟨c,m,y,ρ,l,g,V,t,k⟩:=p
  exact⟨c,m,y,[],ρ,[],_,l.ex,ed g V k.ex,t,λs h f o v r j _=>k.rt s h f o v z r j.g j.env1⟩⟩
noncomputable def vC(i:Nat):TX:=λρ R _=>match ρ[i]? with|some (some (.ob none o))=>R (.ob none o) (ρ.set i none)|_=>False
def DG(i:Nat){x:Str}(G:X.N[i]?=some x:=by rfl)(M:bR X.env.scope x:=by nofun)(hd:(x==("__debug__":Str))=false:=by decide)
  (A:(x==("__classdict__":Str))=false:=by decide):PX K X (.Name x pos) (vC i):=⟨λ_=>(pv i G M hd A).imp λP H Q y=>by
 obtain⟨O,U,N,T,ρ,g,R,Y,S,t,k⟩:=y;unfold vC at t;split at t
 ·next o h=>
  have p:=ba h;have J:=S.l;obtain⟨fp,E⟩:=S.env;obtain⟨q,e,_⟩:=E.ow i none o h;refine⟨_,e,k _ _ N H _ t ⟨S.g,by rw[Im];exact J,?_,S.x⟩ (Same.refl _)⟩;have hk:=S.lk;refine S.E.re (λj=>if j=ρ.length+g.length then i else j) (by simp only[HY,Im,Ij,Jh];omega) (λj x f=>?_) λr v a Z o1 o2 C F l=>?_
  ·have I:=ba f;simp only[HY,Im,Ij,Jh]at I;rcases IU j ρ.length with c|c
   ·rw[HW (by rw[Im];exact c)]at f;rw[Ib (by omega),HW c,HW (by omega),HW (by omega)];rcases er f with⟨_,_,z⟩|⟨_,z⟩
    ·cases z
    ·exact⟨z,rfl⟩
   ·rw[HX (by rw[Im];exact c),Im]at f;rcases IU j (ρ.length+g.length)with B|B
    ·rw[HW (by omega)]at f;rw[Ib (by omega)];constructor
     ·rw[HX c];exact f
     ·rw[HX (by omega),HW (by omega),HX (by omega)]
    ·have m:j=ρ.length+g.length:=by omega
     subst m;rw[HX (by omega),show ρ.length+g.length-ρ.length-g.length=0 by omega]at f;cases f;rw[Ia rfl,HW p,HX (by omega),HX (by omega),show ρ.length+g.length-P.length-T.length=0 by omega,HW (by omega),e];exact⟨h,rfl⟩
  ·have no:∀{j:Nat}{a:Option Addr}{o:Om},(ρ.set i none++(g++[some (Sm.ob none o)]))[j]?=some (some (.ob a o))->True:=λ_=>trivial
   have w:∀{j:Nat}{x:Sm},(ρ.set i none++(g++[some (Sm.ob none o)]))[j]?=some (some x)->j≠i:=λ{j x} f m=>by subst m;rw[HW (by rw[Im];exact p),IP p]at f;cases f
   have n1:=w C;have n2:=w F;have l:(if r=ρ.length+g.length then i else r)=(if v=ρ.length+g.length then i else v):=l;split at l<;>split at l<;>omega
 ·exact t.elim⟩
noncomputable def tq(c:c9)(t u:bj):bj:=λg ρ=>c ρ (λb f=>(b=true->t g f)/\(b=false->u g f)) g.ex
def aJ{c:Expr}{a b:List Stmt}(y:PXB K X c tt)(w:PSsM K X a t)(x:PSsM K X b u):PSM K X (.If c a b pos) (tq tt t u):=
 ⟨λp=>(Ea (y.pt p) (w.ps p) (x.ps p)).imp λE B H v=>by
  obtain⟨f,o,z,ρ,m,g,V,t,k⟩:=v;refine⟨f,o,z,[],ρ,[],_,m.ex,ed g V k.ex,t,λc j h A r l _=>?_⟩
  cases c with
  |true=>refine pS ?_;exact⟨f,o,h,j,m,l.g,l.env,r.1 rfl,k⟩
  |false=>refine qP ?_;exact⟨f,o,h,j,m,l.g,l.env,r.2 rfl,k⟩⟩
noncomputable abbrev fB:=D->ak->(ak->Prop)->Prop
noncomputable abbrev iI:=List D->ak->(ak->Prop)->Prop
noncomputable def yd(K:Frag)(g:fB):TG:=λv l H Q=>∃j h ρ d R,EnvM K j h H l ρ/\Rp K h d v/\g d ρ R/\∀c f,R c->EnvM K j h H f c->Q f H
noncomputable def wb(K:Frag)(g:iI):dq:=λvs l H Q=>∃j h ρ ds R,EnvM K j h H l ρ/\RpL K h ds vs/\g ds ρ R/\∀c f,R c->EnvM K j h H f c->Q f H
structure PGM(K:Frag)(X:Cx)(e:Expr)(g:fB):Prop where pg:X.K=K->PG X e (yd K g)
structure PGMs(K:Frag)(X:Cx)(es:List Expr)(g:iI):Prop where pg:X.K=K->PGs X es (wb K g)
end
section
variable{K:Frag}{X:Cx}{e:Expr}{es:List Expr}{pos:Pos}{g:fB}{gs:iI}
noncomputable def D4(i:Nat):fB:=λd ρ R=>R (ρ.set i (some (.v d)))
def bq{i:Nat}{x:Str}(c:X.N.Nodup)(h:X.N[i]?=some x)(j:gb X.env.scope x)(f:X.fn x=true\/X.env.scope.names.lookup x=some .local:=by nofun):PGM K X (.Name x pos) (D4 i):=
 ⟨λ_=>(sq c h j f).imp λv o H Q a=>by obtain⟨l,m,ρ,d,R,E,r,g,k⟩:=a;exact k _ _ g ((E.snocV r).store i)⟩
noncomputable def yJ:iI:=λds ρ R=>match ds with| []=>R ρ|_=>False
noncomputable def zr(t:fB)(u:iI):iI:=λds ρ R=>match ds with|d::r=>t d ρ λa=>u r a R| []=>False
def eo:PGMs K X [] yJ:=⟨λ_=>pgs_nil.imp λv h H Q a=>by
 obtain⟨c,f,ρ,ds,R,E,r,g,k⟩:=a
 cases ds with
 |nil=>exact⟨Jx.mp r.1,k _ _ g E⟩
 |cons=>exact g.elim⟩
def bz(o:PGM K X e g)(p:PGMs K X es gs)(w:(assignEach (e::es) X.env).map (·.2)=assign e X.env::(assignEach es X.env).map (·.2):=by rfl):PGMs K X (e::es) (zr g gs):=
 ⟨λh=>(ve (o.pg h) (p.pg h) w).imp λvs z H Q m=>by
  obtain⟨c,j,ρ,ds,R,E,r,g,k⟩:=m
  cases ds with
  |nil=>exact g.elim
  |cons d ds=>
   cases vs with
   |nil=>exact absurd r.1 (by simp)
   |cons v vs=>
    refine⟨v,vs,rfl,c,j,ρ,d,_,E,r.2 0 v d rfl rfl,g,λa y g' l=>⟨c,j,a,ds,R,l,⟨by have:=r.1;simpa using this,λi u f x t=>r.2 (i+1) u f x t⟩,g',k⟩⟩⟩
noncomputable def Gx(n:Nat)(t:iI):fB:=λd ρ R=>match d with|.tup ds=>ds.length=n/\t ds ρ R|.lst ds=>ds.length=n/\t ds ρ R|_=>False
noncomputable def rC(K:Frag)(n:Nat)(t:dq):TG:=λv a H Q=>oK K n t v a H Q\/oS K n t v a H Q
def xh{k n:Nat}{t:dq}(j:X.K=K)(l:X.calm=true)(h:PGs X es t)(m:(assignEach es X.env).length=n)(f:(assignEach es X.env).findIdx? (·.1)=none):PG X (.Tuple es k pos) (rC K n t):=λa s o H v u Q I r c=>by
 rcases c with c|c
 ·exact vy j l h m f a s o H v u Q I r c
 ·exact uV j l h m f a s o H v u Q I r c
def eD{k n:Nat}(m:X.calm=true)(h:PGMs K X es gs)(o:(assignEach es X.env).length=n:=by rfl)(l:(assignEach es X.env).findIdx? (·.1)=none:=by rfl):PGM K X (.Tuple es k pos) (Gx n gs):=
 ⟨λc=>(xh c m (h.pg c) o l:PG X (.Tuple es k pos) (rC K n (wb K gs))).imp λv p H Q j=>by
  obtain⟨a,f,ρ,d,R,E,r,g,k⟩:=j
  cases d with
  |tup ds=>cases r with|tup h1 h2 h3=>exact .inl ⟨_,_,rfl,.of (E.fz _ _ h1),by rw[h2];exact g.1,a,f,ρ,ds,R,E,⟨h2,h3⟩,g.2,k⟩
  |lst ds=>cases r with|lst h1 h2 h3=>exact .inr ⟨_,_,rfl,.of (E.fz _ _ h1),by rw[h2];exact g.1,a,f,ρ,ds,R,E,⟨h2,h3⟩,g.2,k⟩
  |_=>exact g.elim⟩
end
section
variable{K:Frag}{X:Cx}{t u:bj}{e a:Expr}{te:TX}{pos:Pos}{tt:c9}
noncomputable def A2(te:TX)(g:fB):bj:=λf ρ=>te ρ (xV λd c=>g d c f.nx) f.ex
def fX{c:Expr}{w:fB}(F:PX K X e te)(G:PGM K X c w)(I:swapsWithSole [c] e pos.line X.env=pure false:=by rfl)(J:swappedStores [c] e X.env=pure none:=by rfl)
  (C:(assignEach [c] X.env).map (·.2)=[assign c X.env]:=by rfl):PSM K X (.Assign [c] e pos) (A2 te w):=
 ⟨λx=>(ud (F.pe x) (G.pg x) I J C).imp λE O H A=>by
  obtain⟨j,p,N,ρ,y,g,V,t,k⟩:=A;refine⟨j,p,N,[],ρ,[],_,y.ex,ed g V k.ex,t,λs m f z v r h _=>?_⟩;obtain⟨d,rfl,r⟩:=r.get
  exact⟨p,f,m,d,_,h.env,h.last,r,λl o M B=>k.nx l f z o M h.g B⟩⟩
noncomputable def BM(c:c9)(tb:bj):bj:=λl ρ=>∃I:Nat->ak->Prop,(∃m,I m ρ)/\∀m h,I m h->c h (λb j=>(b=true->tb { l with nx:=λf=>∃g,g<m/\I g f,ct:=λf=>∃g,g<m/\I g f,bk:=l.nx } j)/\(b=false->l.nx j)) l.ex
def At{c:Expr}{p:List Stmt}{tb:bj}(hp:PassesOwn (model X.prog X.w) X.A X.env X.xe)(Z:PXB K X c tt)(Y:PSsM K X p tb):PSM K X (.While c p [] pos) (BM tt tb):=
 ⟨λO=>(xS hp (Z.pt O) (Y.ps O)).imp λE P H S=>by
  obtain⟨l,x,Φ,ρ,Q,g,V,⟨I,⟨m,U⟩,hw⟩,k⟩:=S;refine⟨λm P H=>∃j f,Gr l x j H/\EnvM K x j H P f/\I m f,⟨m,Φ,ρ,g,V,U⟩,?_⟩;rintro m N H' ⟨j,f,g',T,hi⟩;refine⟨l,x,j,[],f,[],_,Q.ex,ed g' T k.ex,hw m f hi,λb B A R r C _=>?_⟩
  cases b with
  |false=>refine qP ?_;exact k.nx B A R N (r.2 rfl) C.g C.env
  |true=>
   refine pS ?_;refine⟨λo z=>∃y,y<m/\∃j f,Gr l x j z/\EnvM K x j z o f/\I y f,λo z h=>h,l,x,A,B,_,C.g,C.env,r.1 rfl,⟨?_,k.rt,k.nx,?_,k.ex⟩⟩
   ·rintro w v z o ⟨y,M,F⟩ J G;exact⟨y,M,v,w,J,G,F⟩
   ·rintro w v z o ⟨y,M,F⟩ J G
    exact⟨y,M,v,w,J,G,F⟩⟩
noncomputable abbrev ix:=ak->(List D->ak->Prop)->(XD->ak->Prop)->Prop
noncomputable def EK(K:Frag)(X:Cx)(t:ix):TI:=λp H v=>∃f l m r ρ o R h,StM K X f l m H p r ρ o h/\t ρ R h/\∀ds g c j J,R ds g->StM K X f l c j p r g o h->Same m c->SteadyD K J c ds->v J j
structure PIM(K:Frag)(X:Cx)(tg e:Expr)(t:ix):Prop where pi:X.K=K->PI X tg e (EK K X t)
noncomputable def iD(t:aX):ix:=λρ R _=>t (cJ ρ) λds=>R ds ρ
def jk{f:Expr}{t:aX}(h:PID K X f e t):PIM K X f e (iD t):=⟨λp=>(h.pi p).imp λA H x m=>by
 obtain⟨w,l,v,B,ρ,z,R,y,S,t,k⟩:=m
 exact⟨l,v,cJ ρ,_,S.env.toD,t,λds c j J r g o=>k ds ρ c j J r (S.gr g) g.f o⟩⟩
noncomputable def ER(t:ca):ix:=λρ R f=>t ρ (xaD λds c=>match ds with| [.int j]=>(-(2^62)<=j/\j<2^62)/\R (fk 0 j.toNat) c|_=>False) f
def tZ{I:Expr}{m:ca}{p:Pos}(C:Gl X "range")(E:X.mg "range"=none)(B:PXA K X [a] m)(F:starEach [a] X.env=[(false,eval a X.env)]:=by rfl):PIM K X I (.Call (.Name "range" p) [a] [] pos) (ER m):=
 ⟨λA=>(uz C E (B.pa A) F).imp λQ H O x=>by
  obtain⟨f,o,J,N,ρ,M,R,y,S,t,k⟩:=x;refine⟨f,o,J,N,ρ,M,_,y,S,t,λas h g w vs ts c P G l z=>?_⟩;obtain⟨ds,hd,c⟩:=c.get;have rl:=l.vals S.lk hd G
  match ds,c,rl with
  | [.int j],r,rl=>
   obtain⟨v,rfl,c⟩:=rl.one_inv;obtain rfl:=c.i
   exact⟨j,rfl,r.1.1,r.1.2,k _ h g w _ r.2 (l.pop S.lk) z sH⟩⟩
def XeOk.join{f l H j:Hp}{v:XD->ak->Prop}(x:XeOk K X f l v)(g:Gr f l j H):XeOk K X j l v:=λy o m w p e s' c r g' V h=>x y o m w p e s' c r (g.join g') V h
noncomputable def GC(l:ix)(j:fB)(tb:bj):bj:=λf ρ=>l ρ (λds g=>∃I:Nat->ak->Prop,I 0 g/\(∀i d c,ds[i]?=some d->I i c->j d c λh=>tb { f with nx:=I (i+1),ct:=I (i+1),bk:=f.nx } h)/\∀c,I ds.length c->f.nx c) f.ex
def g6{Z l:Expr}{A:List Stmt}{ti:ix}{gd:fB}{tb:bj}(hp:PassesOwn (model X.prog X.w) X.A X.env X.xe)(hc:X.calm=true)(hi:PIM K X Z l ti)(hg:PGM K X Z gd)(hb:PSsM K X A tb)
  (hs:∀x,foldedSetIterable l X.env x=pure x:=by intro _;rfl):PSM K X (.For Z l A [] pos) (GC ti gd tb):=
 ⟨λY=>(AN hp hc (hi.pi Y) (hg.pg Y) (hb.ps Y) hs).imp λE σ H MQ=>by
  obtain⟨G,C,Φ,ρ,De,g,V,t,k⟩:=MQ;refine⟨G,C,Φ,[],ρ,[],_,De.ex,ed g V k.ex,t,λds ρ0 M H1 J NR S1 _ U=>?_⟩;obtain⟨I,h0,Oy,PZ⟩:=NR;refine⟨λi m σ B=>m=ds.length-i/\i<=ds.length/\∃c f,Gr G C c B/\Same M c/\EnvM K C c B σ f/\I i f,⟨ds.length,by simp,J4 _,M,ρ0,S1.g,Same.refl _,S1.env,h0⟩,?_⟩;rintro i m σ' B ⟨rfl,hi,c,f,g',s',Q,hI⟩;by_cases T:i<ds.length
  ·refine .inr ⟨U.go i B (s'.trans Q.fz) T,λS O=>∃c f,Gr G C c O/\Same M c/\EnvM K C c O S f/\I (i+1) f,λS O h2=>⟨ds.length-(i+1),by omega,rfl,T,h2⟩,λx O y=>?_⟩;obtain⟨N,w,rx⟩:=U.yl i c B x O _ s' Q.fz (bw T) y;refine⟨C,N,f,_,_,Q.gr w,rx,Oy i _ f (bw T) hI,λρ2 σ3 t2 V3=>?_⟩;refine⟨N,C,N,ρ2,_,?_,V3,t2,⟨?_,?_,?_,?_,k.ex.join (g'.trans w)⟩⟩
   ·exact⟨Same.refl _,(g'.trans w).h,w.s,λp u hp hn _=>hn⟩
   ·intro j h P o R z F;exact⟨h,j,(g'.trans w).join z,(s'.trans w.f).trans z.f,F,R⟩
   ·intro sm j h P v o r z F;exact k.rt sm j h P v o r ((g'.trans w).join z) F
   ·intro j h P o R z F;exact k.nx j h P o R ((g'.trans w).join z) F
   ·intro j h P o R z F;exact⟨h,j,(g'.trans w).join z,(s'.trans w.f).trans z.f,F,R⟩
  ·have e:i=ds.length:=by omega
   subst e
   exact .inl ⟨U.stop B (s'.trans Q.fz),k.nx f c B σ' (PZ f hI) g' Q⟩⟩
end
noncomputable def aP:List Sm->List Addr->ak
 | [],_=>[]
 |.v d::as,ps=>some (.v d)::aP as ps
 |.ob _ o::as,p::ps=>some (.ob (some p) o)::aP as ps
 |.ob _ _::as,[]=>none::aP as []
noncomputable def gc(N:List Str)(as:List Sm)(ps:List Addr):ak:=aP as ps++List.replicate (N.length-as.length) none
noncomputable def aT:List Str->List Sm->List Addr->ak
 | [],as,ps=>aP as ps
 |_::N,[],ps=>none::aT N [] ps
 |_::N,.v d::as,ps=>some (.v d)::aT N as ps
 |_::N,.ob _ o::as,p::ps=>some (.ob (some p) o)::aT N as ps
 |_::N,.ob _ _::as,[]=>none::aT N as []
def iW:∀(N:List Str)(as:List Sm)(ps:List Addr),gc N as ps=aT N as ps
 | [],as,ps=>by unfold gc;rw[Jh,Nat.zero_sub,List.replicate_zero,IW];rfl
 |n::N,[],ps=>by
  have:=iW N [] ps;unfold gc at this ⊢;show List.replicate (N.length+1-0) none=none::aT N [] ps;rw[←this];rfl
 |n::N,.v d::as,ps=>by have:=iW N as ps;unfold gc at this ⊢;rw[Ij,Ij,Ll];exact JD (some (Sm.v d)::·) this
 |n::N,.ob a o::as,p::ps=>by have:=iW N as ps;unfold gc at this ⊢;rw[Ij,Ij,Ll];exact JD (some (Sm.ob (some p) o)::·) this
 |n::N,.ob _ _::as,[]=>by have:=iW N as [];unfold gc at this ⊢;rw[Ij,Ij,Ll];exact JD (none::·) this
noncomputable def eI(k:List Om->Prop):List Sm->List Addr->Nat->ak->Prop
 | [],_,_,_=>k []
 |.v _::as,ps,i,ρ=>eI k as ps (i+1) ρ
 |.ob _ _::as,p::ps,i,ρ=>∃o,ρ[i]?=some (some (.ob (some p) o))/\eI (λos=>k (o::os)) as ps (i+1) ρ
 |.ob _ _::_,[],_,_=>False
noncomputable def ky:List Sm->Nat
 | []=>0
 |.v _::as=>ky as
 |.ob _ _::as=>ky as+1
noncomputable def ee:List Sm->List V->List Addr
 |.v _::as,_::vs=>ee as vs
 |.ob _ _::as,.ref p::vs=>p::ee as vs
 |_,_=>[]
section
variable{K:Frag}{Φ H Φ' H' H0:Hp}
def rA:∀{as:List Sm}{vs:List V}{c:List (List Addr)},ArgM K Φ H as vs c->(ee as vs).length=ky as:=by
 intro as vs c h
 induction h with
 |nil=>rfl
 |v _ _ a=>exact a
 |o _ _ a=>exact JD (·+1) a
def mS:∀{as:List Sm}{ps:List Addr},(aP as ps).length=as.length
 | [],_=>rfl
 |.v d::as,ps=>by show (aP as ps).length+1=_;rw[mS];rfl
 |.ob _ o::as,p::ps=>by show (aP as ps).length+1=_;rw[mS];rfl
 |.ob _ _::as,[]=>by show (aP as []).length+1=_;rw[mS];rfl
def kq:∀{as:List Sm}{vs:List V}{a:List (List Addr)},ArgM K Φ H as vs a->∀{i:Nat}{x:Sm},(aP as (ee as vs))[i]?=some (some x)->
  (∃d v,x=.v d/\vs[i]?=some v/\Rp K Φ d v)\/∃o p F,x=.ob (some p) o/\vs[i]?=some (.ref p)/\a[i]?=some F/\OmS K Φ H o p F:=by
 intro as vs a h
 induction h with
 |nil=>intro i x h;simp[aP]at h
 | @v d _ _ _ _ r t c=>
  intro i x h
  cases i with
  |zero=>cases h;exact .inl ⟨d,_,rfl,rfl,r⟩
  |succ i=>exact c (i:=i) h
 | @o _ o p F _ _ _ r t c=>
  intro i x h
  cases i with
  |zero=>cases h;exact .inr ⟨o,p,F,rfl,rfl,rfl,r⟩
  |succ i=>exact c (i:=i) h
def se:∀{a:List (List Addr)},a.flatten.Nodup->∀{i j:Nat}{F G:List Addr},a[i]?=some F->a[j]?=some G->i≠j->∀b∈F,b∉G
 | [],_,i,j,F,G,h,_,_,_,_=>by simp at h
 |L::a,nd,i,j,F,G,l,m,c,b,g=>by
  obtain⟨r,p,o⟩:=Js.mp (show (L++a.flatten).Nodup from nd);intro f
  cases i with
  |zero=>
   cases l
   cases j with
   |zero=>exact c rfl
   |succ j=>exact o b g b (Mj.mpr ⟨G,IA (i:=j) (by simpa using m),f⟩) rfl
  |succ i=>
   cases j with
   |zero=>
    cases m;exact o b f b (Mj.mpr ⟨F,IA (i:=i) (by simpa using l),g⟩) rfl
   |succ j=>exact se p (by simpa using l) (by simpa using m) (λe=>c (by rw[e])) b g f
def rF{N:List Str}{as:List Sm}{vs:List V}{f:List (List Addr)}(J:Same Φ H)(tb:TabF K Φ)(g:ArgM K Φ H as vs f)(nd:f.flatten.Nodup)(G:∀b∈f.flatten,Φ b=none):EnvM K (bN H f.flatten) Φ H (start N vs) (gc N as (ee as vs)):=by
 have l:∀{i:Nat}{x:Sm},(gc N as (ee as vs))[i]?=some (some x)->(aP as (ee as vs))[i]?=some (some x):=λ{i x} h=>by
  unfold gc at h;rcases IU i (aP as (ee as vs)).length with c|c
  ·rwa [HW c]at h
  ·rw[HX c,J9]at h;split at h<;>cases h
 have B:∀{i:Nat}{v:V},vs[i]?=some v->(start N vs)[i]?=some (some v):=λ{i v} h=>by unfold start;rw[HW (by rw[HV];exact ba h),Ii,h];rfl
 obtain⟨I,Q⟩:=g.len;refine⟨λi=>f.getD i [],J,by unfold start gc;rw[HY,HY,HV,JA,JA,mS,I],λi d h=>?_,λi a o h=>?_,λi a o h b u=>?_,λi j a P o A C E c b u=>?_,tb⟩
 ·rcases kq g (l h)with⟨d',v,e,w,r⟩|⟨o,p,F,e,_⟩
  ·cases e;exact⟨v,B w,r⟩
  ·cases e
 ·rcases kq g (l h)with⟨d',v,e,w,r⟩|⟨A,p,F,e,w,y,r⟩
  ·cases e
  ·cases e;refine⟨p,B w,(λq e=>by cases e;rfl),?_⟩;rw[Jp,y];exact r
 ·rcases kq g (l h)with⟨d',v,e,_⟩|⟨A,p,F,e,w,y,r⟩
  ·cases e
  ·rw[Jp,y]at u;have z:b∈f.flatten:=Mj.mpr ⟨F,IA y,u⟩;exact⟨FC z,G b z⟩
 ·rcases kq g (l C)with⟨d',v,e,_⟩|⟨R,T,M,e,_,m,_⟩
  ·cases e
  ·rcases kq g (l E)with⟨d',v,e,_⟩|⟨S,U,O,e,_,t,_⟩
   ·cases e
   ·rw[Jp,m]at u;rw[Jp,t];exact se nd m t c b u
def nT{m:Nat->List Addr}{R:St}{ρ:ak}{k:List Om->Prop}(E:EnvM' K H0 Φ' H' R ρ m):∀{as:List Sm}{vs:List V}{y:List (List Addr)}{i:Nat}{k:List Om->Prop},ArgM K Φ H as vs y->eI k as (ee as vs) i ρ->
  ∃os g,OutM K Φ' H' as vs os g/\k os/\g.flatten.Nodup/\(∀b∈g.flatten,H0 b=none/\Φ' b=none)/\∀b∈g.flatten,∃j a o,i<=j/\j<i+as.length/\ρ[j]?=some (some (.ob a o))/\b∈m j:=by
 intro as vs y i k h
 induction h generalizing i k with
 |nil=>exact λh=>⟨[],[],.nil,h,by simp,λb f=>(by cases f),λb f=>(by cases f)⟩
 |v r t I=>
  intro h;obtain⟨os,g,A,B,C,G,w⟩:=I (k:=k) (i:=i+1) h;refine⟨os,[]::g,.v A,B,by simpa using C,λb f=>G b (by simpa using f),λb f=>?_⟩;obtain⟨j,a,o,J,M,u⟩:=w b (by simpa using f);exact⟨j,a,o,by omega,by rw[Ij];omega,u⟩
 | @o _ S p F as vs y r t I=>
  intro h;obtain⟨l,x,h⟩:=(show ∃o,ρ[i]?=some (some (.ob (some p) o))/\eI (λos=>k (o::os)) as (ee as vs) (i+1) ρ from h);obtain⟨os,g,A,B,C,G,w⟩:=I (k:=λos=>k (l::os)) (i:=i+1) h;obtain⟨q,e,O,N⟩:=E.ow i _ l x;cases O p rfl;refine⟨l::os,m i::g,.o N A,B,?_,λb f=>?_,λb f=>?_⟩
  ·refine Js.mpr ⟨N.nodup,C,λb f c P e=>?_⟩;subst e;obtain⟨j,a,o,J,M,u,Q⟩:=w b P;exact E.dj i j _ a l o x u (by omega) b f Q
  ·rcases II.mp (show b∈m i++g.flatten from f)with z|z
   ·exact E.no i _ l x b z
   ·exact G b z
  ·rcases II.mp (show b∈m i++g.flatten from f)with z|z
   ·exact⟨i,_,l,Ih _,by rw[Ij];omega,x,z⟩
   ·obtain⟨j,a,o,J,M,u⟩:=w b z;exact⟨j,a,o,by omega,by rw[Ij];omega,u⟩
end
section
variable{P:Program}{w:World}{K:Frag}{mg:Str->Option Value}{base:Heap}
def Fun.okM{x qual:Str}{st:Stmt}{f:Addr}{fd:FuncData}{N ps:List Str}{k:Nat}{sp:bU}(F:Fun K x qual st f fd)(S:FnScope N ps (ay st))(len:∀as R B,sp as R B->as.length=ps.length)
  (OB:∀(O:Value)(A:Around)(outer:List Env)(s:Shared)(H:Hp)(E:XK)(as:List Sm)(R:Sm->List Om->Prop)(B:XD->List Om->Prop)(qs:List Addr),fd.code=O->Room k (A.deeper (envOfC qual (ay st) s.heap.objs.size f O))->sp as R B->qs.length=ky as->
   ∃t,PSsM K (fY bf P w K mg base N qual (ay st) f O A outer s H E).nox (cw st) t/\let ke:EndsM:={ nx:=λρ=>eI (R (.v .non)) as qs 0 ρ,rt:=λC ρ=>eI (R C) as qs 0 ρ };t ke (aT N as qs)):FnOk P w K mg base bf (k+1) f fd ps (bu K sp):=by
 refine F.okL S (λvs H Q E ⟨J,as,M,R,B,C,tb,U,nd,hn,h,_⟩=>by rw[U.len.1];exact len as R B h) (λO A outer s H vs Q E MY hr ⟨J,as,M,R,B,C,tb,U,nd,hn,h,kk⟩=>?_);obtain⟨t,ht,hq⟩:=OB O A outer s H E as R B (ee as vs) MY hr h (rA U);dsimp only at hq;rw[←iW]at hq;have al:=len as R B h
 have nl:ps.length<=N.length:=by have:=JD List.length S.pre;rw[I0]at this;omega
 have T:∀C l m y v p,eI (R C) as (ee as vs) 0 l->Gr J (bN H M.flatten) m y->EnvM K (bN H M.flatten) m y (p++[some v]) (l++[some C])->Q v y:=λI l m y v p hk g V=>by
  obtain⟨fp,G⟩:=V
  have hl:p.length=l.length:=by have:=G.len;simpa using this
  obtain⟨os,M9,h1,h2,h3,h4,h5⟩:=nT (k:=R I) (G.take hl.symm) U hk
  have Z:(l++[some I])[l.length]?=some (some I):=by rw[HX (Ih _),Jn];rfl
  cases I with
  |v d=>
   obtain⟨u,Y,r⟩:=G.sl _ d Z;rw[←hl,HX (Ih _),Jn]at Y;cases Y;exact kk (.v d) os m y v [] M9 h2 g (.v r) h1 (by simpa using h3) (λb X=>h4 b (by simpa using X))
  |ob a o=>
   obtain⟨u,Y,UO,r⟩:=G.ow _ a o Z;rw[←hl,HX (Ih _),Jn]at Y;cases Y;refine kk (.ob a o) os m y _ (fp l.length) M9 h2 g (.o UO r) h1 ?_ λb X=>?_
   ·refine Js.mpr ⟨r.nodup,h3,λb X c hc e=>?_⟩;subst e;obtain⟨j,a2,o2,_,_,j3,j4⟩:=h5 b hc;have hj:=ba j3;exact G.dj _ j a a2 o o2 Z (by rw[HW hj];exact j3) (by omega) b X j4
   ·rcases II.mp X with z|z
    ·exact G.no _ a o Z b z
    ·exact h4 b z
 have g0:Gr J (bN H M.flatten) J H:=⟨Same.refl _,tG,C,λ_ _ _ h _=>h⟩;refine⟨lM K _ t,ht.ps rfl,J,bN H M.flatten,J,_,_,g0,rF C tb U nd hn,hq,⟨λl m y p r g V=>?_,λI l m y v p r g V=>T I l m y v p r g V,λ_ _ _ _ h=>h.elim,λ_ _ _ _ h=>h.elim,λ_ _ _ _ _ _ _ _ h=>h.elim⟩⟩;exact T (.v .non) l m y .non p r g (V.snocV .non)
def Fun.clM{x:Str}{st:Stmt}{f:Addr}{c:FuncData}{ps:List Str}{n:Nat}{z:bU}(F:Fun K x x st f c)(m:mg x=some (.ref f))(H:FnOk P w K mg base bf n f c ps (bu K z))
  (b:∀(kV a h:Value)(g:Option Addr)(e ct:Value)(us:List Value),us.length=ps.length->bindArgs (fnOf x x (da st) (cw st) (ay st) .none kV a h g e ct) ⟨us,[]⟩=pure (ps.zip us)):ClM P w K mg base n x ps z:=⟨f,c,H,F.binds b,F.kp,m⟩
def ClM.mono{n m:Nat}{x:Str}{ps:List Str}{z:bU}(C:ClM P w K mg base n x ps z)(k:n<=m:=by decide):ClM P w K mg base m x ps z:=by obtain⟨f,a,F,r⟩:=C.ex;exact⟨f,a,F.mono k,r⟩
end
section
variable{K:Frag}{X:Cx}{e a b:Expr}{te ta tk:TX}{pos apos MW MV M8:Pos}{x:Str}{i:Nat}
noncomputable def ownL(ρ:ak)(i:Nat)(k:Option Addr->List D->Prop):Prop:=match ρ[i]? with|some (some (.ob a (.lst ds)))=>k a ds|_=>False
def ownL.get{ρ:ak}{i:Nat}{k:Option Addr->List D->Prop}(h:ownL ρ i k):∃a ds,ρ[i]?=some (some (.ob a (.lst ds)))/\k a ds:=by
 unfold ownL at h;split at h
 ·next a ds e=>exact⟨a,ds,e,h⟩
 ·exact h.elim
def StM.list{c j f H:Hp}{h t:St}{ρ p:ak}{l:XD->ak->Prop}{a:Option Addr}{ds:List D}(S:StM K X c j f H h t ρ p l)(m:ρ[i]?=some (some (.ob a (.lst ds)))):∃q vs,h[i]?=some (some (.ref q))/\H q=some (.lst vs)/\RpL K f ds vs /\
  ∀(es:List D)(ws:List V),RpL K f es ws->StM K X c j f (aj H q (.lst ws)) h t (ρ.set i (some (.ob a (.lst es)))) p l:=by
 have g:=ba m;obtain⟨q,vs,e,u,z,A,v,w⟩:=S.E.list (i:=i) (a:=a) (ds:=ds) S.g (by rw[HW g];exact m);rw[HW (by rw[←S.l];exact g)]at e;refine⟨q,vs,e,u,v,λes ws r=>?_⟩;obtain⟨o,y⟩:=w es ws r;refine⟨y,by rw[Im];exact S.l,?_,S.x⟩;rw[List.set_append_left _ _ g]at o;exact o
noncomputable def GO(i:Nat)(te:TX):bj:=λf ρ=>ownL ρ i λ_ _=>te ρ (xV λd c=>ownL c i λa ds=>ds.length<sizeLine/\NF (ds++[d]) λes=>f.nx (c.set i (some (.ob a (.lst es))))) f.ex
def dY(i:Nat)(N:PX K X e te)(C:((backTo MW (starEach [e] X.env)).all (λx=>!x.1)&&(backToKw MW (keywordEach [] X.env)).all (λx=>x.1.isSome)&&decide (([e]:List Expr).length+([]:List Keyword).length+(if ([]:List Keyword).isEmpty then 0 else 1)<30))=true)
  (h:starEach [e] X.env=(false,eval e X.env)::starEach [] X.env) (M:X.N[i]?=some x:=by rfl) (T:bR X.env.scope x:=by nofun) (hd:(x==("__debug__":Str))=false:=by decide) (B:(x==("__classdict__":Str))=false:=by decide)
  (y:attributeBase (.Name x MV) "append" X.env (eval (.Name x MV) X.env)=eval (.Name x MV) X.env:=by rfl) (z:(apos.endLine==MW.line)=true:=by rfl) (R:swapsWith (.Call (.Attribute (.Name x MV) "append" apos) [e] [] MW) none pos.line X.env=pure false:=by rfl) :
  PSM K X (.Expr (.Call (.Attribute (.Name x MV) "append" apos) [e] [] MW) pos) (GO i te):=
 ⟨λJ=>(nI (hG JW Ml Mm qO (pv i M T hd B) (dA (N.pe J) pa_nil h) y C z h ag) R).imp λE Z H A=>by
  obtain⟨c,w,U,ρ,u,g,V,t,k⟩:=A;obtain⟨a,ds,P,t⟩:=ownL.get t;have S:=ed g V k.ex;obtain⟨q,vs,o,Q,rl,_⟩:=S.list P;refine⟨_,o,.inl ⟨rfl,vs,SqL.of Q⟩,c,w,U,[],ρ,[],_,u.ex,S,t,λs Y f H1 v r l _=>?_⟩;obtain⟨d,rfl,r⟩:=r.get;obtain⟨a1,TH,G,O,r⟩:=ownL.get r;obtain⟨q1,I,p,F,j,k1⟩:=l.list G;rw[o]at p;cases p;have m:=k1 _ _ (j.append (.one l.last))
  exact⟨q,I,v,rfl,rfl,F,by rw[j.1];exact O,k.nx _ f _ Z r.get m.g m.env⟩⟩
noncomputable def Hg(i:Nat):TX:=λρ R _=>ownL ρ i λa ds=>∃d,ds[ds.length-1]?=some d/\NF ds.dropLast λes=>R (.v d) (ρ.set i (some (.ob a (.lst es))))
def vP(i:Nat)(r:X.N[i]?=some x:=by rfl)(c:bR X.env.scope x:=by nofun)(hd:(x==("__debug__":Str))=false:=by decide)(l:(x==("__classdict__":Str))=false:=by decide)
  (g:attributeBase (.Name x MV) "pop" X.env (eval (.Name x MV) X.env)=eval (.Name x MV) X.env:=by rfl) (h:(apos.endLine==MW.line)=true:=by rfl):PX K X (.Call (.Attribute (.Name x MV) "pop" apos) [] [] MW) (Hg i):=
 ⟨λC=>(vi JW Lm Lo tW (pv i r c hd l) g h).imp λF H Q j=>by
  obtain⟨z,A,y,G,ρ,E,R,B,S,t,k⟩:=j;obtain⟨a,ds,u,d,o,t⟩:=ownL.get t;obtain⟨q,vs,p,f,rl,k1⟩:=S.list u;obtain⟨v,c,w⟩:=rl.at o;rw[←rl.1]at c;have m:=k1 _ _ rl.dropLast
  exact⟨_,p,.inl ⟨rfl,vs,SqL.of f⟩,q,vs,v,rfl,rfl,f,c,k _ _ y _ v t.get (m.pushV w) (Same.refl _)⟩⟩
noncomputable def C5(i:Nat)(ta:TX):TX:=λρ R f=>ownL ρ i λ_ _=>ta ρ (xV λn c=>match n with|.int n=>ownL c i λa ds=>∃j d,n=(j:Nat)/\j<2^62/\ds[j]?=some d/\NF (ds.eraseIdx j) λes=>R (.v d) (c.set i (some (.ob a (.lst es))))|_=>False) f
def RpL.eraseIdx{c:Hp}{ds:List D}{vs:List V}(h:RpL K c ds vs)(j:Nat):RpL K c (ds.eraseIdx j) (vs.eraseIdx j):=by rw[JC,JC];exact (h.take j).append (h.drop (j+1))
def Bf{j n:Nat}(h:j<n):seqIndex? (j:Int) n=some j:=by unfold seqIndex?;simp;omega
def Ad(i:Nat)(Y:PX K X a ta)(F:((backTo MW (starEach [a] X.env)).all (λx=>!x.1)&&(backToKw MW (keywordEach [] X.env)).all (λx=>x.1.isSome)&&decide (([a]:List Expr).length+([]:List Keyword).length+(if ([]:List Keyword).isEmpty then 0 else 1)<30))=true)
  (m:starEach [a] X.env=(false,eval a X.env)::starEach [] X.env) (U:X.N[i]?=some x:=by rfl) (c:bR X.env.scope x:=by nofun) (hd:(x==("__debug__":Str))=false:=by decide) (E:(x==("__classdict__":Str))=false:=by decide)
  (A:attributeBase (.Name x MV) "pop" X.env (eval (.Name x MV) X.env)=eval (.Name x MV) X.env:=by rfl) (B:(apos.endLine==MW.line)=true:=by rfl):PX K X (.Call (.Attribute (.Name x MV) "pop" apos) [a] [] MW) (C5 i ta):=
 ⟨λT=>(hG JW Lm Lo Hb (pv i U c hd E) (dA (Y.pe T) pa_nil m) A F B m ag).imp λσ H Q C=>by
  obtain⟨h,z,Φ,τ,ρ,κ,R,M,S,t,k⟩:=C;obtain⟨a,ds,ho,t⟩:=ownL.get t;obtain⟨q,vs,u,hp,rl,_⟩:=S.list ho;refine⟨_,u,.inl ⟨rfl,vs,SqL.of hp⟩,h,z,Φ,τ,ρ,κ,_,M,S,t,λs ρ1 l H1 w r p O=>?_⟩;obtain⟨n,rfl,r⟩:=r.get;have g:=p.last;obtain⟨n,rfl,r⟩:=iy r;obtain rfl:=g.i;obtain⟨a1,TH,I,j,d,rfl,P,Z,r⟩:=ownL.get r;have f:=p.pop S.lk;obtain⟨q1,J,y,G,o,k1⟩:=f.list I;rw[u]at y;cases y;obtain⟨v,c,rv⟩:=o.at Z;have N:=k1 _ _ (o.eraseIdx j)
  exact⟨q,J,_,j,v,rfl,rfl,G,by omega,by omega,Bf (ba c),c,k _ _ l _ v r.get (N.pushV rv) O⟩⟩
noncomputable def zQ(i:Nat)(te tk:TX):bj:=λg ρ=>te ρ (xV λd c=>ownL c i λ_ _=>tk c (xV λh f=>match h with|.int n=>ownL f i λa ds=>∃j,ei ds.length n=some j/\NF (ds.set j d) λes=>g.nx (f.set i (some (.ob a (.lst es))))|_=>False) g.ex) g.ex
def ld(i:Nat)(S:PX K X e te)(U:PX K X b tk)(Q:X.N[i]?=some x:=by rfl)(Z:bR X.env.scope x:=by nofun)(hd:(x==("__debug__":Str))=false:=by decide)(I:(x==("__classdict__":Str))=false:=by decide)
  (R:∀v,assign (.Subscript (.Name x MV) b M8) X.env v=(do
   let ov ←holding [v] (eval (.Name x MV) X.env)
   let iv ←holding [v,ov] (eval b X.env)
   standAt M8
   holding [v,ov,iv] (setItem ov iv v)
   release [v,ov,iv] []):=by intro _;rfl)
  (Y:swapsWithSole [.Subscript (.Name x MV) b M8] e pos.line X.env=pure false:=by rfl) (hw:swappedStores [.Subscript (.Name x MV) b M8] e X.env=pure none:=by rfl)
  (P:(assignEach [.Subscript (.Name x MV) b M8] X.env).map (·.2)=[assign (.Subscript (.Name x MV) b M8) X.env]:=by rfl) :
  PSM K X (.Assign [.Subscript (.Name x MV) b M8] e pos) (zQ i te tk):=
 ⟨λF=>(ud (S.pe F) (Fj (pv i Q Z hd I) (U.pe F) uT R) Y hw P).imp λE σ H G=>by
  obtain⟨f,p,Φ,ρ,o,g,V,t,k⟩:=G;refine⟨f,p,Φ,[],ρ,[],_,o.ex,ed g V k.ex,t,λs m h H1 v r u _=>?_⟩;obtain⟨d,rfl,r⟩:=r.get;obtain⟨a1,TH,N,r⟩:=ownL.get r;obtain⟨q,vs,B,_⟩:=u.list N;refine⟨_,B,f,p,h,_,m,_,_,o.ex,u,r,λs2 ρ2 l H2 w c y _=>?_⟩;obtain⟨kk,rfl,c⟩:=c.get;obtain⟨rd,rk⟩:=y.last2;obtain⟨n,rfl,c⟩:=iy c;obtain rfl:=rk.i;obtain⟨a2,TJ,M,j,T,c⟩:=ownL.get c;obtain⟨q2,O,C,J,A,k2⟩:=y.list M;rw[B]at C;cases C;have z:=k2 _ _ (A.set rd j)
  exact⟨q,O,n,j,rfl,rfl,J,by rw[A.1];exact T,k.nx _ l _ σ c.get z.g z.env⟩⟩
noncomputable def Hw(i:Nat)(f:Int->Int->Int)(tk te:TX):bj:=λh ρ=>(ownL ρ i λ_ _=>True)/\tk ρ (xV λo c=>match o with|.int n=>ownL c i λa ds=>∃(j:Nat)(v:Int),n=(j:Int)/\ds[j]?=some (.int v)/\te c (xV λd g=>match d with|.int m=>ownL g i λa2 l=>j<l.length/\NF (l.set j (.int (f v m))) λes=>h.nx (g.set i (some (.ob a2 (.lst es))))|_=>False) h.ex|_=>False) h.ex
def Es{U:Operator}{f:Int->Int->Int}(i:Nat)(F:qd X U (sX f))(hk:PX K X b tk)(he:PX K X e te)(hN:X.N[i]?=some x:=by rfl)(hv:bR X.env.scope x:=by nofun)(hd:(x==("__debug__":Str))=false:=by decide)(Z:(x==("__classdict__":Str))=false:=by decide)
  (ha:∀p o new,augStore b p o new=(do holding [new,p,o] (setItem p o new);release [new,p,o] [];pure .next):=by intros;rfl) :
  PSM K X (.AugAssign (.Subscript (.Name x MV) b M8) U e pos) (Hw i f tk te):=
 ⟨λA=>(Bo (pv i hN hv hd Z) (hk.pe A) (wA A) (he.pe A) F uT ha).imp λE σ H Y=>by
  obtain⟨l,N,Φ,ρ,M,g,V,⟨C,t⟩,k⟩:=Y;obtain⟨a,ds,C,_⟩:=ownL.get C;have S:=ed g V k.ex;obtain⟨q,vs,y,hp,rl,_⟩:=S.list C;refine⟨_,y,l,N,Φ,[],ρ,[],_,M.ex,S,t,λs1 J G H1 w c r _=>?_⟩;obtain⟨kk,rfl,c⟩:=c.get;have rk:=r.last;obtain⟨n,rfl,c⟩:=iy c;obtain rfl:=rk.i;obtain⟨a1,TH,QB,j,v,rfl,hj,c⟩:=ownL.get c;obtain⟨q1,RO,R,Nw,QS,_⟩:=r.list QB;rw[y]at R;cases R;obtain⟨u,hu,ru⟩:=QS.at hj;obtain rfl:=ru.i;refine⟨q,RO,_,j,_,rfl,rfl,.of Nw,rfl,hu,l,N,G,_,J,_,_,M.ex,r,c,λs2 ρ2 I H2 z h O _=>?_⟩;obtain⟨d,rfl,h⟩:=h.get;have rd:=O.last;obtain⟨m,rfl,h⟩:=iy h;obtain rfl:=rd.i;obtain⟨a2,TJ,PR,B,h⟩:=ownL.get h;obtain⟨q2,UQ,T,Nx,Q,k2⟩:=O.list PR;rw[y]at T;cases T;have P:=k2 _ _ (Q.set (.int (f v m)) j)
  exact⟨v,m,rfl,rfl,q,UQ,_,j,rfl,rfl,Nx,rL (by rw[Q.1];exact B),k.nx _ I _ σ h.get P.g P.env⟩⟩
noncomputable def Cg(i:Nat)(te:TX):bj:=λf ρ=>ownL ρ i λ_ _=>te ρ (λs c=>match s with|.ob _ (.lst zs)=>ownL c i λa ds=>ds.length+zs.length<=sizeLine/\NF (ds++zs) λes=>f.nx (c.set i (some (.ob a (.lst es))))|.v (.lst zs)=>ownL c i λa ds=>ds.length+zs.length<=sizeLine/\NF (ds++zs) λes=>f.nx (c.set i (some (.ob a (.lst es))))|_=>False) f.ex
def D1(i:Nat)(he:PX K X e te)(Z:((backTo MW (starEach [e] X.env)).all (λx=>!x.1)&&(backToKw MW (keywordEach [] X.env)).all (λx=>x.1.isSome)&&decide (([e]:List Expr).length+([]:List Keyword).length+(if ([]:List Keyword).isEmpty then 0 else 1)<30))=true)
  (B:starEach [e] X.env=(false,eval e X.env)::starEach [] X.env) (hN:X.N[i]?=some x:=by rfl) (hv:bR X.env.scope x:=by nofun) (hd:(x==("__debug__":Str))=false:=by decide) (Y:(x==("__classdict__":Str))=false:=by decide)
  (R:attributeBase (.Name x MV) "extend" X.env (eval (.Name x MV) X.env)=eval (.Name x MV) X.env:=by rfl) (T:(apos.endLine==MW.line)=true:=by rfl) (hs:swapsWith (.Call (.Attribute (.Name x MV) "extend" apos) [e] [] MW) none pos.line X.env=pure false:=by rfl) :
  PSM K X (.Expr (.Call (.Attribute (.Name x MV) "extend" apos) [e] [] MW) pos) (Cg i te):=
 ⟨λhK=>(nI (hG JW PySem.F.slot_list_extend PySem.F.type_list_extend yX (pv i hN hv hd Y) (dA (he.pe hK) pa_nil B) R Z T B ag) hs).imp λE N H U=>by
  obtain⟨y,Q,Φ,ρ,z,g,V,t,k⟩:=U;obtain⟨a,ds,ho,t⟩:=ownL.get t;have S:=ed g V k.ex;obtain⟨q,vs,I,hp,rl,_⟩:=S.list ho;refine⟨_,I,.inl ⟨rfl,vs,SqL.of hp⟩,y,Q,Φ,[],ρ,[],_,z.ex,S,t,λs f l A v r h _=>?_⟩
  have j:∀{c:List D}{ws:List L2.V}{p:Addr},v=.ref p->A p=some (.lst ws)->RpL K l c ws->(ownL f i λa ds=>ds.length+c.length<=sizeLine/\NF (ds++c) λes=>z.nx (f.set i (some (.ob a (.lst es)))))->wf (.ref q) [v] A λx P=>E.nx N P:=λ{c ws p} ev w M r=>by
   obtain⟨a1,TH,QB,hl,r⟩:=ownL.get r;obtain⟨q1,RO,J,Nw,F,k1⟩:=h.list QB;rw[I]at J;cases J;have G:=k1 _ _ (F.append M);exact⟨q,p,RO,ws,rfl,by rw[ev],Nw,w,by rw[F.1,M.1];exact hl,k.nx _ l _ N r.get G.g G.env⟩
  cases s with
  |v d=>
   have rd:=h.last
   cases d with
   |lst c=>cases rd with|lst m u h3=>exact j rfl (h.g.s _ _ m) ⟨u,h3⟩ r
   |_=>exact r.elim
  |ob a0 o=>
   cases o with
   |lst c=>
    obtain⟨fp,O⟩:=h.E;obtain⟨p,C,_,rr⟩:=O.ow f.length a0 (.lst c) (by rw[HX (Ih _),Jn];rfl);rw[h.l,HX (Ih _),Jn]at C;cases C;obtain⟨_,ws,m,u⟩:=rr.lst_inv;exact j rfl m u r
   |_=>exact r.elim⟩
noncomputable def aY:Option Sm->Option Sm
 |some (.ob none (.lst ds))=>some (.v (.lst ds))
 |some (.ob none (.map c))=>some (.v (.map c))
 |x=>x
noncomputable def aU:Nat->ak->ak
 |_,[]=>[]
 |0,x::ρ=>aY x::ρ
 |i+1,x::ρ=>x::aU i ρ
def vz:∀(i:Nat)(ρ:ak),aU i ρ=(match ρ[i]? with
  |some (some (.ob none (.lst ds)))=>ρ.set i (some (.v (.lst ds)))
  |some (some (.ob none (.map c)))=>ρ.set i (some (.v (.map c)))
  |_=>ρ)
 |0,[]=>rfl
 |_+1,[]=>rfl
 |0,some (.ob none (.lst _))::_=>rfl
 |0,some (.ob none (.map _))::_=>rfl
 |0,some (.ob none (.mpT _))::_=>rfl
 |0,some (.ob none (.obj _ _))::_=>rfl
 |0,some (.ob none .ptr)::_=>rfl
 |0,some (.ob none (.tl _))::_=>rfl
 |0,some (.ob none (.pr _ _))::_=>rfl
 |0,some (.ob (some _) _)::_=>rfl
 |0,some (.v _)::_=>rfl
 |0,none::_=>rfl
 |i+1,x::ρ=>by
  show x::aU i ρ=_;rw[vz i ρ,Mr]
  match ρ[i]? with
  |some (some (.ob none (.lst _)))=>rfl
  |some (some (.ob none (.map _)))=>rfl
  |some (some (.ob none (.mpT _)))=>rfl
  |some (some (.ob none (.obj _ _)))=>rfl
  |some (some (.ob none .ptr))=>rfl
  |some (some (.ob none (.tl _)))=>rfl
  |some (some (.ob none (.pr _ _)))=>rfl
  |some (some (.ob (some _) _))=>rfl
  |some (some (.v _))=>rfl
  |some none=>rfl
  |none=>rfl
def Rp.map_of{g:Hp}{j:List (aD×D)}{ws:List (aD×V)}{p:Addr}(h:g p=some (.dK ws))(r:Paired (eP K g) j ws):Rp K g (.map j) (.ref p):=by
 refine .map h ?_ ?_
 ·clear h
  induction r with
  |nil=>rfl
  |cons q _ f=>rw[IE,IE,f,q.1]
 ·clear h
  induction r with
  |nil=>intro i w d c;simp at c
  |cons q _ f=>
   intro i w d c hd
   cases i with
   |zero=>cases c;cases hd;exact q.2
   |succ i=>exact f i w d c hd
def EnvM.frz1f{A B l H:Hp}{O:St}{ρ:ak}{o:Om}{C:D}(E:EnvM K B l H O ρ)(g:Gr A B l H){i:Nat}(I:ρ[i]?=some (some (.ob none o)))
  (Y:∀p F,OmS K l H o p F->∃u,H p=some u/\∀f,Same l f->f p=some u->Rp K f C (.ref p)) (Z:o.solid=true:=by rfl):∃f,Gr A B f H/\EnvM K B f H O (ρ.set i (some (.v C)))/\Same l f:=by
 obtain⟨R,E⟩:=E;obtain⟨p,e,_,r⟩:=E.ow i none _ I;have N:=r.mem Z;have no:=E.no i none _ I p N;obtain⟨u,J,S⟩:=Y p _ r;have y:=cH no.2 u
 have m:∀{j:Nat}{x:Sm},(ρ.set i (some (Sm.v C)))[j]?=some (some x)->(j=i/\x=.v C)\/(j≠i/\ρ[j]?=some (some x)):=λ{j x} h=>by
  rcases er h with⟨e,_,Q⟩|⟨e,h⟩
  ·cases Q;exact .inl ⟨e,rfl⟩
  ·exact .inr ⟨e,h⟩
 refine⟨aj l p u,g.freeze no.1 no.2 J,⟨R,λb u' G=>?_,by rw[Im,E.len],λj d h=>?_,λj a o h=>?_,λj a o h b M=>?_,λj k a P o o' t w c=>?_,E.tb.same y⟩,y⟩
 ·by_cases c:b=p
  ·subst c;rw[bg]at G;cases G;exact J
  ·rw[aE c]at G;exact E.fz b u' G
 ·rcases m h with⟨c,h⟩|⟨_,h⟩
  ·cases h;subst c;exact⟨_,e,S _ y bg⟩
  ·obtain⟨v,hv,rv⟩:=E.sl j d h;exact⟨v,hv,rv.same y⟩
 ·rcases m h with⟨_,h⟩|⟨_,h⟩
  ·cases h
  ·obtain⟨q,U,T,rq⟩:=E.ow j a o h;exact⟨q,U,T,rq.keep y λ_ _ _ h=>h⟩
 ·rcases m h with⟨_,h⟩|⟨c,h⟩
  ·cases h
  ·have:b≠p:=λz=>E.dj j i a none o _ h I c b M (by rw[z];exact N);rw[aE this];exact E.no j a o h b M
 ·rcases m t with⟨_,t⟩|⟨_,t⟩
  ·cases t
  rcases m w with⟨_,w⟩|⟨_,w⟩
  ·cases w
  exact E.dj j k a P o o' t w c
def EnvM.frz1{f h j H:Hp}{m:St}{ρ:ak}{o:Om}{l:D}(E:EnvM K h j H m ρ)(g:Gr f h j H){i:Nat}(r:ρ[i]?=some (some (.ob none o)))
  (t:∀p F,OmS K j H o p F->∃u,H p=some u/\∀c,Same j c->c p=some u->Rp K c l (.ref p)) (v:o.solid=true:=by rfl):∃c,Gr f h c H/\EnvM K h c H m (ρ.set i (some (.v l))):=
 let ⟨c,g',E',_⟩:=E.frz1f g r t v
 ⟨c,g',E'⟩
def EnvM.frz{f j o H:Hp}{t:St}{ρ:ak}(E:EnvM K j o H t ρ)(g:Gr f j o H)(i:Nat):∃c,Gr f j c H/\EnvM K j c H t (aU i ρ):=by
 rw[vz];split
 ·next ds ho=>
  refine E.frz1 g ho λp F r=>?_;obtain⟨_,vs,l,m⟩:=r.lst_inv;exact⟨_,l,λc s h=>(m.same s).lst h⟩
 ·next MU ho=>
  refine E.frz1 g ho λp F r=>?_;obtain⟨_,ws,l,m⟩:=r.map_inv;exact⟨_,l,λc s h=>Rp.map_of h (nu (λ_ _ r=>⟨r.1,r.2.same s⟩) m)⟩
 ·exact⟨o,g,E⟩
noncomputable def x9(i:Nat)(t:bj):bj:=λc ρ=>t c (aU i ρ)
def iP{c:List Stmt}{t:bj}(i:Nat)(h:PSsM K X c t):PSsM K X c (x9 i t):=⟨λr=>(h.ps r).imp λE v H o=>by
 obtain⟨j,m,u,ρ,l,g,V,t,k⟩:=o;obtain⟨f,g',p⟩:=V.frz g i
 exact⟨j,m,f,aU i ρ,l,g',p,t,k⟩⟩
end
section
variable{K:Frag}{X:Cx}{tg iter elt:Expr}{ifs:List Expr}{scope:Scope}{pos py M8:Pos}{N':List Str}{cap:List (Option Nat)}{ti:aX}{g:cP}{tc:bL}{te:TD}{i:Nat}{y:Str}
def v6{tf:aX}{E:Ends}{c:St}{H:Hp}(a:∀{c:St}{H:Hp}{Q:VK},lF K tf c H Q->iG (lI K ti) cap (lG K g) (lT K tc) (lE K te) c H Q)(h:lM K X (j7 i (xF tf)) E c H):kU (iG (lI K ti) cap (lG K g) (lT K tc) (lE K te)) (jT i) E c H:=by obtain⟨B,l,z,ρ,C,f,V,t,w⟩:=h;exact a ⟨l,z,cJ ρ,_,V.toD,t,λds A j p vs r e m u v x=>w.nx _ _ j _ r (f.trans e) ((V.snocO f.h e (.lst v x) λb o=>by rw[Ip.mp o];exact⟨m,u⟩).store i)⟩
def qR{k:Nat}(j:X.calm=true)(o:X.N.Nodup)(A:X.N[i]?=some y)(z:gb X.env.scope y)(S:CompScope X.N X.env.scope scope N' cap)(l:fL k cap=true)(v:GM k g)(u:PID K X tg iter ti)
  (t:∀(cl:List (Str×Addr))(c:List Addr)(C:Addr)(e:Shared)(a:Hp),PGD K (ce X scope N' cl C e a c) tg g)
  (p:∀(cl:List (Str×Addr))(c:List Addr)(C:Addr)(e:Shared)(a:Hp),PD K (ce X scope N' cl C e a c) elt te) (m:swapsWith (.ListComp elt [⟨tg,iter,[],0⟩] scope pos) (some (.Name y py)) M8.line X.env=pure true:=by rfl)
  (w:∀x,foldedSetIterable iter X.env x=pure x:=by intro _;rfl) (r:X.fn y=true\/X.env.scope.names.lookup y=some .local:=by nofun) :
  PSM K X (.Assign [.Name y py] (.ListComp elt [⟨tg,iter,[],0⟩] scope pos) M8) (j7 i (xF (nS ti cap g te))):=
 ⟨λf=>(sx j o A z S (u.pi f) (λcl c C e a=>(t cl c C e a).pg f) (λcl c C e a=>(uw (K:=K)).p f) (λcl c C e a=>(p cl c C e a).pe f) m w r).imp λ_ _ _ h=>v6 (λq=>tT l v q) h⟩
def AF{k:Nat}(j:X.calm=true)(o:X.N.Nodup)(B:X.N[i]?=some y)(A:gb X.env.scope y)(S:CompScope X.N X.env.scope scope N' cap)(l:fL k cap=true)(v:GM k g)(u:PID K X tg iter ti)
  (t:∀(cl:List (Str×Addr))(c:List Addr)(C:Addr)(e:Shared)(a:Hp),PGD K (ce X scope N' cl C e a c) tg g) (z:∀(cl:List (Str×Addr))(c:List Addr)(C:Addr)(e:Shared)(a:Hp),PIfD K (ce X scope N' cl C e a c) ifs tc)
  (p:∀(cl:List (Str×Addr))(c:List Addr)(C:Addr)(e:Shared)(a:Hp),PD K (ce X scope N' cl C e a c) elt te) (m:swapsWith (.ListComp elt [⟨tg,iter,ifs,0⟩] scope pos) (some (.Name y py)) M8.line X.env=pure true:=by rfl)
  (w:∀x,foldedSetIterable iter X.env x=pure x:=by intro _;rfl) (r:X.fn y=true\/X.env.scope.names.lookup y=some .local:=by nofun) :
  PSM K X (.Assign [.Name y py] (.ListComp elt [⟨tg,iter,ifs,0⟩] scope pos) M8) (j7 i (xF (sw ti cap g tc te))):=
 ⟨λf=>(sx j o B A S (u.pi f) (λcl c C e a=>(t cl c C e a).pg f) (λcl c C e a=>(z cl c C e a).p f) (λcl c C e a=>(p cl c C e a).pe f) m w r).imp λ_ _ _ h=>v6 (λq=>G1 l v q) h⟩
end
noncomputable def zM(z:b9):bU:=λas R _=>∃ds,as=ds.map Sm.v/\z ds λd=>R (.v d) []
def Ck{H:Hp}:bN H []=H:=funext λb=>Ib (by simp)
def tY{K:Frag}{a H:Hp}:∀{ds:List D}{vs:List V},RpL K a ds vs->ArgM K a H (ds.map Sm.v) vs (ds.map λ_=>[])
 | [],[],_=>.nil
 | [],_::_,h=>by cases h.1
 |_::_,[],h=>by cases h.1
 |d::ds,v::vs,h=>.v (h.2 0 v d rfl rfl) (tY ⟨by have:=h.1;simpa using this,λi u e f c=>h.2 (i+1) u e f c⟩)
def oP{a:Type}:∀(ds:List a),(ds.map λ_=>([]:List Addr)).flatten=[]
 | []=>rfl
 |_::ds=>by simp
def cI{K:Frag}{z:b9}:∀vs H Q E,jh K z vs H Q E->bu K (zM z) vs H Q E:=λvs H Q E h=>by
 obtain⟨p,ds,R,o,tb,rl,l,k⟩:=h;refine⟨p,ds.map Sm.v,ds.map λ_=>[],λs os=>∃d,s=.v d/\R d,λ_ _=>False,o,tb,tY rl,by rw[oP];exact LK,λb c=>(by rw[oP]at c;cases c),⟨ds,rfl,?_⟩,λs os a f v F t r g j x w u=>?_⟩
 ·have e:R=λd=>∃d',(Sm.v d:Sm)=.v d'/\R d':=funext λd=>propext ⟨λh=>⟨d,rfl,h⟩,λ⟨d',e,h⟩=>by cases e;exact h⟩;rw[←e];exact l
 ·obtain⟨d,rfl,r⟩:=r
  cases j with
  |v m=>
   rw[oP,Ck]at g;exact k d a f v r g m
def bZ{a:List Addr}(h:a.length=0):a=[]:=Jx.mp h
def dN{c:List Addr}(h:c.length=1):∃a,c=[a]:=by
 match c,h with
 | [a],_=>exact⟨a,rfl⟩
def vU{c:List Addr}(h:c.length=2):∃a b,c=[a,b]:=by
 match c,h with
 | [a,b],_=>exact⟨a,b,rfl⟩
section
variable{K:Frag}{X:Cx}{a b:Expr}{pos:Pos}{ta tb:TX}
def qK(e:PX K X a ta)(f:PX K X b tb)(g:oo b):PX K X (.Subscript a b pos) (i7 nB ta tb):=
 ⟨λc=>(vH (uo c) (e.pe c) (f.pe c) g).imp λ_ _ _=>k8⟩
end
section
variable{κ:Type}[DecidableEq κ]{K:Frag}{Φ:Hp}
noncomputable def dO(a:List (κ×D))(k:κ):Option D:=(a.find? λc=>decide (c.1=k)).map (·.2)
noncomputable def kW(c:List (κ×D))(k:κ)(d:D):List (κ×D):=if c.any (λa=>decide (a.1=k)) then c.map (λa=>if a.1=k then (a.1,d) else a) else c++[(k,d)]
def u0:∀{e:List (κ×D)}{ws:List (κ×V)},Paired (eP K Φ) e ws->∀k,(dO e k=none/\dR ws k=none)\/∃d v,dO e k=some d/\dR ws k=some v/\Rp K Φ d v
 |_,_,.nil,k=>.inl ⟨rfl,rfl⟩
 |_,_,.cons (a:=x) (b:=y) (l₁:=l) r t,k=>by
  by_cases c:x.1=k
  ·refine .inr ⟨x.2,y.2,?_,?_,r.2⟩
   ·unfold dO;rw[Kz (by simpa using c)];rfl
   ·exact l8 (by rw[←r.1];exact c)
  ·have f:dO (x::l) k=dO l k:=by unfold dO;rw[Kg (by simpa using c)]
   rw[f,lh (by rw[←r.1];exact c)];exact u0 t k
def wm:∀{c:List (κ×D)}{ws:List (κ×V)},Paired (eP K Φ) c ws->∀k,(ws.any λa=>decide (a.1=k))=c.any λa=>decide (a.1=k)
 |_,_,.nil,k=>rfl
 |_,_,.cons r t,k=>by rw[Kn,Kn,wm t k,r.1]
def rh{a c:Type}{F:a->c->Prop}{f:a->a}{g:c->c}(h:∀x y,F x y->F (f x) (g y)):∀{l:List a}{m:List c},Paired F l m->Paired F (l.map f) (m.map g)
 |_,_,.nil=>.nil
 |_,_,.cons r t=>.cons (h _ _ r) (rh h t)
def Gq{a:List (κ×D)}{ws:List (κ×V)}(h:Paired (eP K Φ) a ws)(k:κ){d:D}{v:V}(r:Rp K Φ d v):Paired (eP K Φ) (kW a k d) (eL ws k v):=by
 unfold kW eL;rw[wm h k];split
 ·refine rh (λx y q=>?_) h;rw[←q.1];split
  ·exact⟨rfl,r⟩
  ·exact q
 ·exact Paired.snoc h ⟨rfl,r⟩
def vN(a:List (κ×D))(k:κ):(dO a k).isSome=a.any λf=>decide (f.1=k):=by
 unfold dO
 induction a with
 |nil=>rfl
 |cons x r e=>
  rw[Kn];by_cases c:x.1=k
  ·rw[Kz (by simpa using c),Jc c];rfl
  ·rw[Kg (by simpa using c),ID c,e];rfl
def zy{a:List (κ×D)}{k:κ}{d:D}(h:dO a k=none):kW a k d=a++[(k,d)]:=by have:=vN a k;rw[h]at this;unfold kW;rw[←this];rfl
def zW{a c:Type}{F:a->c->Prop}:∀{l:List a}{m:List c},Paired F l m->l.length=m.length:=Le
end
section
variable{K:Frag}{X:Cx}{e a b ev:Expr}{tk tv:TD}{pos MV M8:Pos}{x:Str}{i:Nat}
noncomputable def Fn(o:Om):TX:=λρ R _=>R (.ob none o) ρ
def D8:PX K X (.Dict [] [] pos) (Fn (.map [])):=⟨λo=>pe_dnewK.imp λu H Q f=>by
 obtain⟨j,l,h,v,ρ,r,R,m,S,t,k⟩:=f;intro p c
 exact k _ ρ h _ _ t (S.pushO (Gr.fresh S.g.s c _) (.map bg .nil) λb g=>by rw[Ip.mp g];exact⟨c,S.g.s.free c⟩) (Same.refl _)⟩
def EnvM.dict{h j c H:Hp}{o:St}{ρ:ak}{a:Option Addr}{p:List (aD×D)}(E:EnvM K j c H o ρ)(g:Gr h j c H)(m:ρ[i]?=some (some (.ob a (.map p)))):∃q ws,o[i]?=some (some (.ref q))/\H q=some (.dK ws)/\Paired (eP K c) p ws /\
  ∀(l:List (aD×D))(f:List (aD×V)),Paired (eP K c) l f->EnvM K j c (aj H q (.dK f)) o (ρ.set i (some (.ob a (.map l))))/\Gr h j c (aj H q (.dK f)):=by
 obtain⟨w,E⟩:=E;obtain⟨q,e,_,r⟩:=E.ow i a _ m;have v:=r.mem;obtain⟨_,ws,y,A⟩:=r.map_inv;refine⟨q,ws,e,y,A,λl f F=>?_⟩
 have t:∀b u,H b=some u->b∉w i->aj H q (.dK f) b=some u:=λb u e C=>by
  rw[aE λz=>C (by rw[z];exact v)];exact e
 exact⟨⟨_,E.put m e t (F':=[q]) (.map bg F) λb B=>.inl (by rw[Ip.mp B];exact v)⟩,E.grput g m t⟩
noncomputable def ownD(ρ:ak)(i:Nat)(k:Option Addr->List (aD×D)->Prop):Prop:=match ρ[i]? with|some (some (.ob a (.map MU)))=>k a MU|_=>False
def ownD.get{ρ:ak}{i:Nat}{k:Option Addr->List (aD×D)->Prop}(h:ownD ρ i k):∃a c,ρ[i]?=some (some (.ob a (.map c)))/\k a c:=by
 unfold ownD at h;split at h
 ·next a ds e=>exact⟨a,ds,e,h⟩
 ·exact h.elim
noncomputable def uU(c:Bool)(i:Nat)(tk:TD):c9:=λρ R _=>tk (cJ ρ) λd=>∃k,d=gw k/\ownD ρ i λ_ f=>R (c != (dO f k).isSome) ρ
def zf{c:Bool}{u:St}{H:Hp}{Q:Bool->Hp->Prop}(h:nG K X (uU c i tk) u H Q):lE K tk u H λy f=>iu i u f λx w=>∃a o,x=.ref a/\DGet w a y o/\Q (c != o.isSome) w:=by
 obtain⟨M,B,J,P,ρ,O,R,N,S,t,k⟩:=h;refine⟨B,J,cJ ρ,_,S.env.toD,t,λd p f v r g I=>?_⟩;obtain⟨l,rfl,r⟩:=r;obtain⟨a,C,F,r⟩:=ownD.get r;cases qi I;have j:=S.gr g;obtain⟨q,ws,E,G,m,_⟩:=j.env.dict j.g F;refine⟨_,E,q,_,rfl,DGet.k G,?_⟩
 have e:(dR ws l).isSome=(dO C l).isSome:=by rcases u0 m l with⟨z,A⟩|⟨d,v,z,A,_⟩<;>rw[z,A]<;>rfl
 rw[e];exact k _ ρ p f r j g.f
def vQ(b:Bool):(false != b)=b:=by cases b<;>rfl
def B9{t:TD}{l:St}{H:Hp}{Q j:VK}(h:lE K t l H Q)(o:∀v c,Q v c->j v c):lE K t l H j:=by obtain⟨m,u,ρ,R,E,t,k⟩:=h;exact⟨m,u,ρ,R,E,t,λd f c v r g p=>o _ _ (k d f c v r g p)⟩
def CH{j:Nat}{g:St}{H:Hp}{Q f:VK}(h:iu j g H Q)(l:∀v c,Q v c->f v c):iu j g H f:=let ⟨v,e,q⟩:=h;⟨v,e,l _ _ q⟩
def EY(i:Nat)(A:X.A.units+64<cLine)(p:PD K X e tk)(m:X.N[i]?=some x:=by rfl)(t:bR X.env.scope x:=by nofun)(hd:(x==("__debug__":Str))=false:=by decide)(g:(x==("__classdict__":Str))=false:=by decide)
  (r:behindInMarks .In (.Name x MV)=false:=by rfl):PXB K X (.Compare e [.In] [.Name x MV] pos) (uU false i tk):=
 ⟨λl=>(zd (wI (by omega) (p.pe l) (pv i m t hd g)) r).imp λB H Q f=>B9 (zf f) λv u q=>CH q λw y z=>by
  obtain⟨a,o,h,j,c⟩:=z;rw[vQ]at c
  exact⟨a,o,h,j,_,rfl,c⟩⟩
noncomputable def Br(i:Nat)(tk:TD)(tv:TD):bj:=λf ρ=>tv (cJ ρ) λd=>tk (cJ ρ) λh=>∃k,h=gw k/\ownD ρ i λa c=>c.length<sizeLine/\NF (kW c k d) λg=>f.nx (ρ.set i (some (.ob a (.map g))))
def wT(i:Nat)(hu:X.A.units+64<cLine)(N:PD K X e tk)(M:PD K X ev tv)(J:X.N[i]?=some x:=by rfl)(Q:bR X.env.scope x:=by nofun)(hd:(x==("__debug__":Str))=false:=by decide)(G:(x==("__classdict__":Str))=false:=by decide)
  (P:swapsWith ev (some (.Subscript (.Name x MV) e M8)) pos.line X.env=pure false:=by rfl):PSM K X (.Assign [.Subscript (.Name x MV) e M8] ev pos) (λp ρ=>(ownD ρ i λ_ _=>True)/\Br i tk tv p ρ):=
 ⟨λB=>(Hr (by omega) (pv i J Q hd G) (N.pe B) (M.pe B) P).imp λE σ H F=>by
  obtain⟨Φ0,r,Φ,ρ,p,g,V,⟨c,t⟩,k⟩:=F;obtain⟨a,MU,c,_⟩:=ownD.get c;refine⟨r,Φ,cJ ρ,_,V.toD,t,λd m H1 v S j U=>?_⟩;have h:=V.gr j;obtain⟨q,ws,z,hq,T,_⟩:=h.dict (g.trans j) c;refine⟨_,z,r,m,cJ ρ,_,h.toD,S,λkd o H2 w f l rw=>?_⟩;obtain⟨R,rfl,f⟩:=f;obtain⟨a2,C,u,O,f⟩:=ownD.get f;rw[c]at u;cases u;cases qi rw;obtain⟨q2,Y,A,I,y,k2⟩:=(h.gr l).dict ((g.trans j).trans l) c;rw[z]at A;cases A;obtain⟨Z,z2⟩:=k2 _ _ (Gq y R (U.same l.f))
  exact⟨q,_,rfl,DPut.k I (by rw[←zW y];exact O),k.nx _ o _ σ f.get z2 Z⟩⟩
end
end L2
namespace PySem.SeqAt
open AutoSeq1 (wpAny_loadPart')
open MeetsSeq MeetsSeq2 MeetsSeq3 SeqRoads2
def xy{M:Model}{A:Around}{E:Value->Shared->Prop}{s:Shared}{a:Type}(r:Std.Legacy.Range)(b:a)(f:Nat->a->Sem (ForInStep a))(Q:a->Shared->Prop)(h:wpAny M A (forIn (List.range' r.start r.size r.step) b f) Q E s):wpAny M A (forIn r b f) Q E s:=by rw[Std.Legacy.Range.forIn_eq_forIn_range'];exact h
def tuple_indexAtX(l:Addr)(a:Array Value)(n:Nat)(dd:Option Addr)(sl:Array (Option Value))(x:Value)(e:Value->Bool)(j:Nat)(I:j<a.size)
  (r:e a[j]=true) (u:∀m (t:m<a.size),m<j->e a[m]=false) :
  Meets (Builtin.«tuple.index» ⟨[.ref l,x],[]⟩)
   (λA R s=>s.heap.get? l=some { cls:=.type "tuple",dict:=dd,data:=.seq a n,slots:=sl }/\(∀y,y∈a->EqAt A.in1 s y x (e y))/\R (.ok (.ret (.int j s.toks))) { s with toks:=s.toks+1 }):=
 .of_wp λprog w A R s h=>by
  obtain⟨E,g,d,F,os⟩:=s;obtain⟨C,z,h⟩:=h
  wp_walk using JG C,xy,wpAny_forIn_list _ (λf b s'=>b.1=none/\s'=⟨E,g,d,F,os⟩/\∃i,i<=j/\f=List.range' i (a.size-i) 1) _
  case turn=>
   rintro m f b s' ⟨v,rfl,i,B,o⟩
   have p:i<a.size:=by omega
   rw[show a.size-i=(a.size-i-1)+1 by omega,List.range'_succ]at o;injection o with h1 h2;subst h1
   have t:a[m]?=some a[m]:=by simp[p]
   rw[t];refine HZ (z _ (Array.getElem_mem p) prog w _ _ ?_);rcases IU m j with c|c
   ·rw[u m p c]
    wp_walk
    exact⟨rfl,rfl,m+1,c,by rw[h2];congr 1⟩
   ·have:m=j:=by omega
    subst this;rw[r]
    wp_walk
    exact⟨_,rfl,h⟩
  case fin=>
   rintro⟨G,H⟩ s' ⟨v,rfl,i,B,o⟩;exfalso;have:=JD List.length o;rw[List.length_range']at this
   have:a.size-i=0:=by simpa using this.symm
   omega
  case h=>
   exact⟨rfl,rfl,0,J4 _,by simp[Std.Legacy.Range.size]⟩
end PySem.SeqAt
namespace L2
open PySem PySem.Spec PyProof.Rows
@[irreducible] noncomputable def iY (x:D)(y:D)(R:D->Prop):Prop:=match x with
 |.tup ds=>ds.length<=1000/\∃(bs:List Bool)(j:Nat),bs.length=ds.length/\(∀(i:Nat) d b,ds[i]?=some d->bs[i]?=some b->cx 39 d y=some b)/\bs[j]?=some true/\(∀i,i<j->bs[i]?=some false)/\R (.int (j:Int))
 |_=>False
section
variable{K:Frag}{X:Cx}{a b:Expr}{ta tb:TD}{apos MW:Pos}
open Classical in
def Hj(O:X.K=K)(hu:X.A.units+64<cLine):jr X "tuple.index" (λx xs H Q=>∃o M C R y,Same o H/\xs=[y]/\RpQ K o H M x/\RpQ K o H C y/\iY M C R/\∀d B H' v,R d->Gr o H B H'->Rp K B d v->Q v H'):=by
 intro pins s σ H x xs v us Q I rx rs ⟨o,M,C,R,y,E,e,hx,hy,h,k⟩;subst e;obtain⟨u,rfl,ru⟩:=gQ rs;unfold iY at h;obtain⟨ds,rfl,h⟩:=Dc h;obtain⟨hl,bs,j,SI,hb,hj,NQ,r⟩:=h;obtain⟨a,vs,rfl,N,_,p⟩:=hx.tup E;cases rx;obtain⟨g,rv,⟨⟨oc,od,odt,os⟩,ho,RX,n,P⟩,_⟩:=I.tuple (O▸N);cases RX;cases P;have l1:=Vals.length rv;have hjl:j<bs.length:=ba hj
 let e:Value->Bool:=λz=>decide (∃m:Nat,g[m]?=some z/\bs[m]?=some true)
 have at_:∀(m:Nat) z,g[m]?=some z->∃(w:V)(d:D)(b:Bool),RelV w z/\Rp K H d w/\ds[m]?=some d/\bs[m]?=some b/\cx 39 d C=some b:=λm z f=>by
  have i0:m<g.length:=ba f
  have T:m<vs.length:=by omega
  have U:m<ds.length:=by rw[←p.1];exact T
  have i3:m<bs.length:=by omega
  obtain⟨u',Ri,r'⟩:=Vals.get (i:=m) (x:=vs[m]) rv (bw T);rw[f]at Ri;cases Ri;exact⟨vs[m],ds[m],bs[m],r',(p.2 m _ _ (bw T) (bw U)).same E,bw U,bw i3,hb m _ _ (bw U) (bw i3)⟩
 have J:∀(m l:Nat) z b G,g[m]?=some z->g[l]?=some z->bs[m]?=some b->bs[l]?=some G->b=G:=λm l z b G f SJ q q'=>by
  obtain⟨w,d,c,r1,Y,_,q1,c1⟩:=at_ m z f;obtain⟨w',d',c',r1',Z,_,A,TK⟩:=at_ l z SJ;rw[q]at q1;rw[q']at A;cases q1;cases A;have:=r1.inj r1';subst this;exact AM O I (Same.refl H) 39 Y Z c1 TK
 have F:∀(m:Nat) z b,g[m]?=some z->bs[m]?=some b->e z=b:=λm z b f q=>by
  show decide (∃m:Nat,g[m]?=some z/\bs[m]?=some true)=b
  cases b with
  |true=>exact Jc ⟨m,f,q⟩
  |false=>exact ID λ⟨l,N,p⟩=>by cases J m l z _ _ f N q p
 have t:j<g.length:=by have:=p.1;omega
 refine JU Mn ⟨_,ho,rfl⟩ PySem.F.entry_tuple_index (PySem.F.args_tuple_index_2 _ _)
  (PySem.SeqAt.tuple_indexAtX a g.toArray n od os u e j (by simpa using t) ?_ ?_) ⟨ho,λz P=>?_,?_⟩
 ·simp only[List.getElem_toArray];exact F j _ true (bw t) hj
 ·intro m f Nn;simp only[Il]at f;simp only[List.getElem_toArray];exact F m _ false (bw f) (NQ m Nn)
 ·have S:z∈g:=by simpa using P
  obtain⟨m,f⟩:=Kq S;obtain⟨w,d,b,r1,Y,q1,q2,q3⟩:=at_ m z f;rw[F m z b f q2];exact (oY O I (Same.refl H) 39 q3 Y (hy.any E) X.A.in1 z u (by show X.A.units+1+39<cLine;omega) r1 ru).1
 ·exact⟨.int j,H,I.tok _,⟨_,rfl⟩,k _ o H _ r (.refl E) (.int _)⟩
noncomputable def Bp(ta tb:TD):TD:=λρ R=>ta ρ λx=>(match x with|.tup _=>True|_=>False)/\tb ρ λy=>iY x y R
def Fe(M:X.A.units+64<cLine)(I:PQ K X a ta)(J:PD K X b tb)(z:attributeBase a "index" X.env (eval a X.env)=eval a X.env:=by rfl)(C:((backTo MW (starEach [b] X.env)).all (λx=>!x.1)&&(backToKw MW (keywordEach [] X.env)).all (λx=>x.1.isSome)&&decide (([b]:List Expr).length+([]:List Keyword).length+(if ([]:List Keyword).isEmpty then 0 else 1)<30))=true)
  (o:starEach [b] X.env=(false,eval b X.env)::starEach [] X.env) (A:(apos.endLine==MW.line)=true:=by rfl):PD K X (.Call (.Attribute a "index" apos) [b] [] MW) (Bp ta tb):=
 ⟨λf=>(hG PySem.F.plainAttrs_tuple Mn PySem.F.type_tuple_index (Hj f M) (I.pe f) (dA (J.pe f) pa_nil o) z C A o ag).imp λσ H Q B=>by obtain⟨m,T,ρ,R,E,t,k⟩:=B;exact⟨m,T,ρ,_,E,t,λF j U x u c p=>by
  cases F with
  |tup ds=>
   obtain⟨a,vs,rfl,_,N,Z⟩:=p.tup c.s;refine⟨.inr (.inl ⟨rfl,.inl ⟨vs,c.s _ _ N⟩⟩),m,j,ρ,_,E.gr c,u.2,λG l Y y S e P=>⟨l,.tup ds,G,R,y,e.s,rfl,p.gr e,.inl P,S,λd h w v r g O=>k d h w v r ((c.trans e).trans g) O⟩⟩
  |_=>exact u.1.elim⟩⟩
end
end L2
namespace L2
open PySem PySem.Spec PyProof.Rows
section
variable{P:Program}{w:World}{H H':Hp}{h h' h1 h2:Heap}
def HOk.keptT(x:HOk P w H h)(k:∀b u v,H b=some v->h.get? b=some u->h'.get? b=some u):HOk P w H h':=λa o e=>
 (x a o e).stay (λb u c q=>by
  rcases c with rfl|c
  ·exact k _ u o e q
  ·exact k b u _ c q) (λ_ q=>q) (λ_ _ q=>q) λ_ _ _ q=>q
def Un.kept2{fs e:List Addr}{p:Addr}{T:Option Addr}(u:Un fs [] H H' h h1)(k:Kept e p T h1 h2)(j:h.get? p=none)(g:∀m,T=some m->h.get? m=none)(r:∀b∈e,b∈fs\/h.get? b=none):Un fs [] H H' h h2 where
 keep b o hb hn TL hx:=by
  refine k.keep b o (u.keep b o hb hn TL hx) (λz=>by rw[z,j]at hb;cases hb) (λz=>by rw[g b z.symm]at hb;cases hb) λz=>?_;rcases r b z with z|z
  ·exact TL z
  ·rw[z]at hb;cases hb
 slot b o hb hn TL hx:=by
  obtain⟨sl,a⟩:=u.slot b o hb hn TL hx;by_cases c:b∈e
  ·obtain⟨l,f⟩:=k.slot b _ a c;exact⟨l,f⟩
  ·exact⟨sl,k.keep b _ a (λz=>by rw[z,j]at hb;cases hb) (λz=>by rw[g b z.symm]at hb;cases hb) c⟩
 free:=u.free
 there b o hb hx:=by
  obtain⟨t,a⟩:=u.there b o hb hx;by_cases c:b∈e
  ·obtain⟨l,f⟩:=k.slot b _ a c;exact⟨_,f⟩
  ·exact⟨t,k.keep b _ a (λz=>by rw[z,j]at hb;cases hb) (λz=>by rw[g b z.symm]at hb;cases hb) c⟩
 tups:=u.tups
 frzs:=u.frzs
 tbls:=u.tbls
end
noncomputable def CXo(P:Program)(w:World):cq:=λouter H s E e s'=>∃(c T C:Addr)(f:Option Addr)(a:Hp),e=.ref c/\Fly s'.heap c (some T) .none (.ref C) f/\(s.heap.get? c=none/\a c=none)/\(s.heap.get? T=none/\a T=none) /\
 s'.os=s.os/\AllBare s'.gens/\Un (b8 outer) [] H a s.heap s'.heap/\HOk P w a s'.heap/\E (.ref C) f a
section
variable{X:Cx}{pins:List (Addr×Obj)}{σ:St}{H:Hp}{s s':Shared}{E:XK}{e:Value}
def CXo.at(I:Inv X pins σ H s)(j:X.ex=[])(h:CXo X.prog X.w X.stack H s E e s'):∃(a T C:Addr)(f:Option Addr)(c:Hp),e=.ref a/\Inv X pins σ c s'/\Fly s'.heap a (some T) .none (.ref C) f/\(X.s₀.heap.get? a=none/\c a=none/\∀p∈X.pn++pins,p.1≠a)/\(X.s₀.heap.get? T=none/\c T=none/\∀p∈X.pn++pins,p.1≠T)/\E (.ref C) f c:=by
 obtain⟨a,T,C,f,c,t,F,⟨m,u⟩,⟨r,v⟩,x,g,un,hok,w⟩:=h
 have old:∀b,s.heap.get? b=none->X.s₀.heap.get? b=none:=λb g=>by
  cases q:X.s₀.heap.get? b with
  |none=>rfl
  |some o=>
   obtain⟨y,z⟩:=I.base.there b o q (by rw[j];simp);rw[g]at z;cases z
 exact⟨a,T,C,f,c,t,I.call' (ch:=[]) x un hok g (λb z=>absurd z (by simp)),F,⟨old a m,u,λp l z=>by have:=(I.pin p l).1;rw[z,m]at this;cases this⟩,⟨old T r,v,λp l z=>by have:=(I.pin p l).1;rw[z,r]at this;cases this⟩,w⟩
end
section
variable{P:Program}{w:World}{K:Frag}{mg:Str->Option Value}{base:Heap}{N:List Str}{qual:Str}{scope:Scope}{f:Addr}{cd:Value}{A:Around}{outer:List Env}{s s':Shared}{H H':Hp}{E:XK}{pins:List (Addr×Obj)}{σ:St}
def DF{g C:Addr}{T j:Option Addr}(I:Inv (fY (CXo P w) P w K mg base N qual scope f cd A outer s H E) pins σ H' s')(F:Fly s'.heap g T .none (.ref C) j)(h:s.heap.get? g=none/\H' g=none)(m:∀c,T=some c->s.heap.get? c=none/\H' c=none)(t:E (.ref C) j H') :
  (fY (CXo P w) P w K mg base N qual scope f cd A outer s H E).xe (.ref g) s':=by
 have r:∀b∈b8 (envOfC qual scope s.heap.objs.size f cd::outer),H' b=none:=I.stkFree;refine zb (base:=base) I.ok.frames I.stack rfl F λy c p x k2=>?_;have hsz:s.heap.objs.size<=s'.heap.objs.size:=I.sz;refine⟨g,c,C,j,H',rfl,p,h,⟨JM (by omega),I.hok.fresh x⟩,I.os,I.bare,?_,I.hok.keptT λb u v a q=>?_,t⟩
 ·refine (show Un (b8 outer) [] H H' s.heap s'.heap from I.base).kept2 k2 h.1 (λc e=>(m c e).1) λb a=>?_;obtain⟨env,l,o⟩:=J2.mp a;rcases Ik.mp l with rfl|l
  ·right;have:s.heap.objs.size=b:=IK o;exact JM (by omega)
  ·exact .inl (J2.mpr ⟨env,l,o⟩)
 ·refine k2.keep b u q (λz=>by rw[z,h.2]at a;cases a) (λz=>by rw[(m b z.symm).2]at a;cases a) λz=>?_;rw[r b z]at a;cases a
end
section
variable{X:Cx}{CX:cq}{k:Nat}{f:Addr}{fd:FuncData}{ps:List Str}{sp:Sp}{x:Str}{p pos:Pos}{e:Expr}{es:List Expr}{t:TA}
noncomputable def mY(CX:cq)(X:Cx)(E:XK)(c:St)(H:Hp):Prop:=∀(a:List (Addr×Obj))(s:Shared)(e:Value)(s':Shared),Inv X a c H s->CX X.stack H s E e s'->X.xe e s'
noncomputable def An(CX:cq)(X:Cx)(sp:Sp)(t:TA):TE:=λc H Q=>t c H λvs a=>∃E,mY CX X E c a/\sp vs a Q E
def qI{a:List (Addr×Obj)}{g:St}{H:Hp}{s:Shared}{Q:VK}{E:XK}{us:List Value}{vs:List V}(F:FnOk X.prog X.w X.K X.mg X.base CX k f fd ps sp)(o:Room k X.A)(l:Binds X.K fd ps [])(v:mY CX X E g H)
  (I:Inv X a g H s) (r:Vals vs us) (h:sp vs H Q E):wpAny (model X.prog X.w) X.A (call (.ref f) us) (EP X a g Q) X.xe s:=by
 have m:us.length=ps.length:=by rw[←r.length];exact F.len _ _ _ _ h
 have j:=l s us I.kIn (by rw[IW];exact m);rw[IW]at j;refine L5 (KY (F.run X.A X.stack s H ⟨us,[]⟩ us vs Q E o I.env0 j r h) λres w c=>?_)
 cases res with
 |error z=>exact v a s z w I c
 |ok fl=>
  cases fl with
  |ret u=>exact I.after c
  |_=>exact c.elim
def yU(F:FnOk X.prog X.w X.K X.mg X.base CX k f fd ps sp)(z:Room k X.A)(v:Gl X x)(y:X.mg x=some (.ref f))(w:keepIn X.K (.ref f)=true)(o:Binds X.K fd ps [])
  (m:PA X (e::es) t) (j:(x==("__debug__":Str))=false) (u:starEach (e::es) X.env=(false,eval e X.env)::starEach es X.env) (l:(backTo pos (starEach es X.env)).any (·.1)=false) :
  PE X (.Call (.Name x p) (e::es) [] pos) (An CX X sp t):=by
 intro a s B H Q I h;refine Ki (ia I v y ?_ j);refine Lu (h₀:=X.base) I.ok.mod.kin w (aq (m pos a s B H _ I h) λus G g=>?_) u l;obtain⟨vs,C,c,r,E,A,q⟩:=g;exact⟨c.kIn,qI F z o A c r q⟩
end
noncomputable abbrev jU:List Value:=[.type "ValueError",.type "Exception",.type "BaseException",.type "object"]
noncomputable abbrev excNames:List Str:=["__init__","__setattr__","__getattribute__","__getattr__","at","__class__"]
inductive TailN(h:Heap):List Value->Prop where
 |base:TailN h jU
 |own {A:Addr} {c0:Value} {dd:Option Addr} {cd:ClassData} {sl:Array (Option Value)} {mA:Str->Option Value} {tl:List Value}:h.get? A=some { cls:=c0,dict:=dd,data:=.cls cd,slots:=sl }->h.Ns cd.ns mA->(∀n∈excNames,mA n=none)->TailN h tl->TailN h (.ref A::tl)
def TailN.tail{h:Heap}{e:List Value}(T:TailN h e):OwnTail h jU e:=by
 induction T with
 |base=>exact .base
 |own a b c _ f=>exact .own a b (c _ (by simp)) f
def TailN.keeps{h h':Heap}{e:List Value}(T:TailN h e)(k:∀b o,h.get? b=some o->h'.get? b=some o):TailN h' e:=by
 induction T with
 |base=>exact .base
 |own a b c _ f=>exact .own (k _ _ a) (b.keeps k) c f
structure ExcAt(h:Heap)(C:Addr)(init:Option Value):Prop where
 ex:∃nm q N bs bm sn sub ab col dd k0 k1 k2 k3 k5 mN,h.get? C=some (excClassObj nm q C N bs bm true sn sub ab col dd k0 k1 k2 k3 k5 "ValueError.__new__")/\h.Ns N mN/\mN "__init__"=init/\(∀n∈excNames,n≠"__init__"->mN n=none)/\TailN h bm
def ObjOk.is{P:Program}{w:World}{H:Hp}{h:Heap}{a:Addr}{o:HO}(x:ObjOk P w H h a o):∃c,h.get? a=some c:=by
 cases o with
 |lst xs=>obtain⟨_,_,_,_,e⟩:=x;exact⟨_,e⟩
 |tup xs=>obtain⟨_,_,_,o,e,_⟩:=x;exact⟨_,e⟩
 |dK g=>obtain⟨_,_,_,_,o,_,_,e,_⟩:=x;exact⟨_,e⟩
 |dT g=>obtain⟨_,_,_,_,o,_,_,e,_⟩:=x;exact⟨_,e⟩
 |set S n=>obtain⟨o,_,_,_,e,_⟩:=x;exact⟨_,e⟩
 |ins C j fs=>obtain⟨_,_,_,e,_⟩:=x;exact⟨_,e⟩
 |own y=>obtain⟨_,e⟩:=x;exact⟨_,e⟩
 |xd fs=>obtain⟨_,⟨_,_,_,e,_⟩,_⟩:=x;exact⟨_,e⟩
 |rng lo l=>obtain⟨_,_,_,e⟩:=x;exact⟨_,e⟩
 |frz c u=>obtain⟨e,_⟩:=x;exact⟨_,e⟩
 |tbl ps=>rcases x with x|⟨_,_,_,_,_,_,_,_,_,_,x,_⟩<;>exact⟨_,x⟩
 |met f y=>exact⟨_,(show h.get? a=some _ from x)⟩
 |ext m=>obtain⟨_,e,_⟩:=x;exact e
def HOk.no{P:Program}{w:World}{H:Hp}{h:Heap}(x:HOk P w H h){a:Addr}(e:h.get? a=none):H a=none:=by
 cases q:H a with
 |none=>rfl
 |some o=>
  obtain⟨c,z⟩:=(x a o q).is;rw[e]at z;cases z
section
variable{X:Cx}{pins:List (Addr×Obj)}{σ:St}{H:Hp}{s:Shared}{h':Heap}{K:Frag}
def Inv.old(I:Inv X pins σ H s)(a:X.ex=[]){b:Addr}(c:s.heap.get? b=none):X.s₀.heap.get? b=none:=by
 cases q:X.s₀.heap.get? b with
 |none=>rfl
 |some o=>
  obtain⟨e,z⟩:=I.base.there b o q (by rw[a];simp);rw[c]at z;cases z
def Inv.more(I:Inv X pins σ H s)(k:∀b o,s.heap.get? b=some o->h'.get? b=some o):Inv X pins σ H { s with heap:=h' }:=
 I.call' (s':={ s with heap:=h' }) (ch:=[]) rfl (Un.kept k) (I.hok.kept k) I.bare (λb z=>absurd z (by simp))
def Fc{C:Addr}{x:Str}{O u f:Pos}(o:X.calm=true)(c:X.ex=[])(J:Gl X x)(m:X.mg x=some (.ref C))(G:∀h:Heap,X.K.In h->ExcAt h C none)(w:(x==("__debug__":Str))=false:=by decide) :
  PSM K X (.Raise (some (.Call (.Name x O) [] [] u)) none f) (λj ρ=>j.ex ⟨x,none⟩ ρ):=⟨λZ=>by
 intro pins s σ H E I r;obtain⟨Q,R,P,ρ,j,g,V,t,k⟩:=r;obtain⟨nm,q,N,bs,bm,sn,sub,ab,col,dd,k0,k1,k2,k3,k5,mN,y,A,B,T,l⟩:=(G s.heap I.kIn).ex;refine wpAny_Raise_call_subT (C:=C) (nm:=nm) (q:=q) (N:=N) (bs:=bs) (bm:=bm) (hdct:=true) (sn:=sn) (sub:=sub) (ab:=ab) (col:=col) (dd:=dd) (k0:=k0) (k1:=k1) (k2:=k2) (k3:=k3) (k5:=k5) (mN:=mN) JE (l.tail.hasType (by lia)) (I.ok.hd o) rfl B (ia I J m ⟨rfl,?_⟩ w);refine PySem.evalArgs_none ?_;refine⟨rfl,by show 0<=sizeLine;exact J4 _,y,A,l.tail,λh' e a=>?_⟩;obtain⟨t',F,U,Y⟩:=a.there;have v:=I.hok.no a.new
 exact k.ex ⟨x,none⟩ ρ P H σ _ _ pins t g V ⟨I.more a.keeps,e,C,none,none,rfl,⟨_,_,F,rfl,rfl,rfl,rfl⟩,m,rfl,⟨I.old c a.new,v,λp M z=>by have:=(I.pin p M).1;rw[z,a.new]at this;cases this⟩,λS z=>(by cases z)⟩⟩
end
noncomputable abbrev Cx.tried(X:Cx)(pn:List (Addr×Obj))(xe:Value->Shared->Prop):Cx:={ X with pn:=pn,xe:=xe }
noncomputable abbrev Cx.held(X:Cx)(pn:List (Addr×Obj))(e:Value):Cx:={ X with A:=X.A.mark (some e),calm:=false,pn:=pn,xe:=λ_ _=>False }
section
variable{X:Cx}{pins OS:List (Addr×Obj)}{σ:St}{H:Hp}{s:Shared}{xe:Value->Shared->Prop}{e:Value}
def Cx.Ok.tried(o:X.Ok)(pn:List (Addr×Obj))(xe:Value->Shared->Prop):(X.tried pn xe).Ok:=
 ⟨o.mod,o.kind,o.glob,o.blt,o.above,o.inj,o.has,o.cab,o.hd,o.frames,o.stk,o.exf,o.bs,o.bsz,o.noex,o.exfs,o.funs,o.frf⟩
def Cx.Ok.held(o:X.Ok)(pn:List (Addr×Obj))(e:Value):(X.held pn e).Ok:=
 ⟨o.mod,o.kind,o.glob,o.blt,o.above,o.inj,o.has,o.cab,λh=>(by cases h),o.frames,o.stk,o.exf,o.bs,o.bsz,o.noex,o.exfs,o.funs,o.frf⟩
def Inv.tried(I:Inv X pins σ H s)(xe:Value->Shared->Prop):Inv (X.tried (X.pn++pins) xe) [] σ H s:=
 ⟨I.ok.tried _ _,I.os,I.bare,I.base,I.loc,I.cell,I.free,I.freeC,λp a=>I.pin p (by rw[IW]at a;exact a),I.hok,I.len⟩
def Inv.untried(ok:X.Ok)(I:Inv (X.tried (X.pn++pins) xe) OS σ H s):Inv X pins σ H s:=
 ⟨ok,I.os,I.bare,I.base,I.loc,I.cell,I.free,I.freeC,λp a=>I.pin p (JN _ a),I.hok,I.len⟩
def Inv.held(I:Inv X pins σ H s)(e:Value):Inv (X.held (X.pn++pins) e) [] σ H s:=
 ⟨I.ok.held _ _,I.os,I.bare,I.base,I.loc,I.cell,I.free,I.freeC,λp a=>I.pin p (by rw[IW]at a;exact a),I.hok,I.len⟩
def Inv.unheld(ok:X.Ok)(I:Inv (X.held (X.pn++pins) e) OS σ H s):Inv X pins σ H s:=
 ⟨ok,I.os,I.bare,I.base,I.loc,I.cell,I.free,I.freeC,λp a=>I.pin p (JN _ a),I.hok,I.len⟩
def Inv.knowX{a:Addr}{o:HO}(I:Inv X pins σ H s)(j:X.s₀.heap.get? a=none)(f:H a=none)(r:∀p∈X.pn++pins,p.1≠a)(m:X.env.locals≠a)(l:∀x c,X.env.cells.lookup x=some c->c≠a)(new:ObjOk X.prog X.w (aj H a o) s.heap a o):Inv X pins σ (aj H a o) s where
 ok:=I.ok
 os:=I.os
 bare:=I.bare
 base:=⟨I.base.keep,I.base.slot,λb g q n t=>by rw[aE (λz=>by rw[z,j]at q;cases q)];exact I.base.free b g q n t,I.base.there,λb xs q=>by have:=I.base.tups b xs q;rw[aE (cD this f)];exact this,λb g xs q=>by have:=I.base.frzs b g xs q;rw[aE (cD this f)];exact this,λb ps q=>by have:=I.base.tbls b ps q;rw[aE (cD this f)];exact this⟩
 loc:=I.loc
 cell:=I.cell
 free:=by rw[aE m];exact I.free
 freeC x c h:=by rw[aE (l x c h)];exact I.freeC x c h
 pin p h:=by obtain⟨a1,a2,a3⟩:=I.pin p h;exact⟨a1,by rw[aE (r p h)];exact a2,a3⟩
 hok:=I.hok.know f new
 len:=I.len
def zp{h:Heap}{a:Addr}{m g:Str->Option Value}(x:h.Ns a m)(y:h.Ns a g)(n:Str):m n=g n:=by obtain⟨o,es,u,p,hd,_,l⟩:=x;obtain⟨v,r,t,c,f,_,j⟩:=y;rw[p]at c;cases c;rw[hd]at f;cases f;rw[←l n,←j n]
def Inv.unname{i:Nat}{n:Str}{h':Heap}{m:Str->Option Value}{v:Option Value}{t':Nat}(I:Inv X pins σ H s)(E:X.N.Nodup)(F:X.N[i]?=some n)(J:s.heap.Ns X.env.locals m)(K:h'.Ns X.env.locals (λx=>if x=n then v else m x))(N:Heap.SameBut X.env.locals s.heap h'):Inv X pins (σ.set i none) H { s with heap:=h',toks:=t' }:=by
 have old:X.s₀.heap.get? X.env.locals=none:=JM I.ok.above;have kp:∀b,b≠X.env.locals->h'.get? b=s.heap.get? b:=λb f=>N.2 b f;obtain⟨R,r,G⟩:=I.loc;refine⟨I.ok,I.os,I.bare,⟨λb o q A B a=>?_,λb o q A B a=>?_,I.base.free,λb o q a=>?_,I.base.tups,I.base.frzs,I.base.tbls⟩,⟨_,K,λj x w l g O=>?_⟩,λx c h=>?_,I.free,I.freeC,λp M=>?_,I.hok.keptT λb u w f q=>?_,by rw[Im];exact I.len⟩
 ·rw[kp b (λz=>by rw[z,old]at q;cases q)];exact I.base.keep b o q A B a
 ·obtain⟨sl,z⟩:=I.base.slot b o q A B a;exact⟨sl,(kp b (λz=>by rw[z,old]at q;cases q)).trans z⟩
 ·obtain⟨P,z⟩:=I.base.there b o q a;exact⟨P,(kp b (λz=>by rw[z,old]at q;cases q)).trans z⟩
 ·have C:j≠i:=λz=>by rw[z]at g;simp[K8]at g
  rw[IL (Jj C)]at g;obtain⟨u,Q,lk⟩:=G j x w l g O;have y:x≠n:=λz=>C ((Kp (ba l) E).mp (by rw[l,F,z]));refine⟨u,Q,?_⟩;rcases lk with⟨k1,k2⟩|⟨k1,c,k2,k3⟩
  ·refine .inl ⟨k1,?_⟩;show (if x=n then v else m x)=some u;rw[Ib y,zp J r x];exact k2
  ·refine .inr ⟨k1,c,k2,?_⟩;obtain⟨o,t,hd⟩:=k3;exact⟨o,(kp c (I.cne x c k2)).trans t,hd⟩
 ·obtain⟨w,o,t,hd⟩:=I.cell x c h;exact⟨w,o,(kp c (I.cne x c h)).trans t,hd⟩
 ·obtain⟨a1,a2,a3,a4⟩:=I.pin p M;exact⟨(kp p.1 a3).trans a1,a2,a3,a4⟩
 ·exact (kp b (λz=>by rw[z,I.free]at f;cases f)).trans q
def vY(ok:X.Ok){b:Addr}(h:b∈b8 X.stack):b∈X.fs\/b=X.env.locals:=by
 rcases ok.stk with e|⟨e,f⟩
 ·rw[e]at h;exact .inl h
 ·rw[e]at h;obtain⟨env,c,a⟩:=J2.mp h;rcases Ik.mp c with rfl|c
  ·rw[f]at a;exact .inr (IK a).symm
  ·exact .inl (J2.mpr ⟨env,c,a⟩)
def Inv.passed{r:Addr}{T:Option Addr}{h':Heap}(I:Inv X pins σ H s)(k:Kept (b8 X.stack) r T s.heap h')(E:X.s₀.heap.get? r=none/\H r=none/\∀p∈X.pn++pins,p.1≠r)(C:∀f,T=some f->X.s₀.heap.get? f=none/\H f=none/\∀p∈X.pn++pins,p.1≠f)
  (Z:∃o vs,s.heap.get? r=some o/\o.data=.fields vs) (Y:∀f,T=some f->∃o vs,s.heap.get? f=some o/\o.data=.fields vs):Inv X pins σ H { s with heap:=h' }:=by
 have old:X.s₀.heap.get? X.env.locals=none:=JM I.ok.above
 have S:∀b o,s.heap.get? b=some o->(∀vs,o.data≠.fields vs)->∃sl,h'.get? b=some { o with slots:=sl }:=λb o a R=>by
  have g:b≠r:=λz=>by obtain⟨N,vs,A,B⟩:=Z;rw[z,A]at a;cases a;exact R vs B
  have l:some b≠T:=λz=>by obtain⟨N,vs,A,B⟩:=Y b z.symm;rw[A]at a;cases a;exact R vs B
  by_cases c:b∈b8 X.stack
  ·exact k.slot b o a c
  ·exact⟨o.slots,k.keep b o a g l c⟩
 have k0:∀b o,s.heap.get? b=some o->X.s₀.heap.get? b≠none->b≠r/\some b≠T:=λb o a Q=>⟨λz=>Q (by rw[z];exact E.1),λz=>Q (C b z.symm).1⟩;obtain⟨m,hm,hl⟩:=I.loc
 have U:h'.Ns X.env.locals m:=by obtain⟨o,es,ep,G,hd,hk,F⟩:=hm;obtain⟨sl,z⟩:=S _ o G (λvs q=>by rw[hd]at q;cases q);exact⟨_,es,ep,z,hd,hk,F⟩
 have cl:∀c v,s.heap.IsCell c v->h'.IsCell c v:=λc v hc=>by obtain⟨o,G,hd⟩:=hc;obtain⟨sl,z⟩:=S _ o G (λvs q=>by rw[hd]at q;cases q);exact⟨_,z,hd⟩
 refine⟨I.ok,I.os,I.bare,⟨λb o q M y t=>?_,λb o q M y t=>?_,I.base.free,λb o q t=>?_,I.base.tups,I.base.frzs,I.base.tbls⟩,⟨m,U,λj x w hj K hv=>?_⟩,λx c h=>?_,I.free,I.freeC,λp J=>?_,I.hok.keptT λb u w a q=>?_,I.len⟩
 ·have z:=I.base.keep b o q M y t;obtain⟨g,l⟩:=k0 b o z (by rw[q];simp);refine k.keep b o z g l λc=>?_;rcases vY I.ok c with c|c
  ·exact y c
  ·rw[c,old]at q;cases q
 ·obtain⟨sl,z⟩:=I.base.slot b o q M y t;obtain⟨g,l⟩:=k0 b _ z (by rw[q];simp);by_cases c:b∈b8 X.stack
  ·obtain⟨P,O⟩:=k.slot b _ z c;exact⟨P,O⟩
  ·exact⟨sl,k.keep b _ z g l c⟩
 ·obtain⟨N,z⟩:=I.base.there b o q t;obtain⟨g,l⟩:=k0 b _ z (by rw[q];simp);by_cases c:b∈b8 X.stack
  ·obtain⟨P,O⟩:=k.slot b _ z c;exact⟨_,O⟩
  ·exact⟨N,k.keep b _ z g l c⟩
 ·obtain⟨u,ru,lk⟩:=hl j x w hj K hv;refine⟨u,ru,?_⟩;rcases lk with⟨k1,k2⟩|⟨k1,c,k2,k3⟩
  ·exact .inl ⟨k1,k2⟩
  ·exact .inr ⟨k1,c,k2,cl c _ k3⟩
 ·obtain⟨w,K⟩:=I.cell x c h;exact⟨w,cl c w K⟩
 ·obtain⟨a1,a2,a3,a4⟩:=I.pin p J;refine⟨k.keep p.1 p.2 a1 (E.2.2 p J) (λz=>(C p.1 z.symm).2.2 p J rfl) λc=>?_,a2,a3,a4⟩;rcases vY I.ok c with c|c
  ·exact a4.1 c
  ·exact a3 c
 ·refine k.keep b u q (λz=>by rw[z,E.2.1]at a;cases a) (λz=>by rw[(C b z.symm).2.1]at a;cases a) λc=>?_;rw[I.stkFree b c]at a;cases a
def Ai{M:Model}{A:Around}{E:Value->Shared->Prop}{Q:Unit->Shared->Prop}{i:Nat}{n:Str}{j:Pos}(I:Inv X pins σ H s)(r:X.N.Nodup)(c:X.N[i]?=some n)(h:X.env.scope.names.lookup n=some .local)(z:X.fn n=true\/X.env.scope.names.lookup n=some .local)
  (k:∀s',Inv X pins (σ.set i none) H s'->Q () s'):wpAny M A (do bindName X.env n .none;unbindBehindTheSuite X.env n j) Q E s:=by
 have C:(X.env.scope.kind==.class ||(X.env.scope.kind==.module&&X.env.locals != X.env.globals))=false:=by rw[I.ok.kind];rfl
 have t:X.env.kindOf n=some .local:=h
 have f:i<σ.length:=by rw[I.len];exact ba c
 refine HZ (wpAny_bindName (oR I r c (.inl h) (v:=.non) rfl (λF l=>?_) z));obtain⟨m,w,B⟩:=id l.loc;obtain⟨u,G,lk⟩:=B i n .non c (by rw[K8];simp[f]) (.inl h)
 have g:(m n).isSome=true:=by
  rcases lk with⟨_,p⟩|⟨a,_⟩
  ·rw[p];rfl
  ·rcases a with a|a<;>(rw[t]at a;cases a)
 unfold unbindBehindTheSuite;refine Lg ?_;unfold unbindName;refine HZ (wpAny_point (HZ ?_));unfold deleteName;simp only[t,C];rw[Ib (by decide)];refine HZ (wpAny_nsDel_keeps w λp v y x=>?_);rw[g];simp only[KQ,Bool.not_true,LQ,Md];refine Io (wpAny_point ?_);have o:=l.unname (t':=F.toks) r c w y x;rw[List.set_set]at o;exact k _ o
end
section
variable{M:Model}{A:Around}{E:Value->Shared->Prop}{s:Shared}
noncomputable def i5(h:Heap)(C:Addr):List Value:=match h.get? C with|some o=>(match o.data with|.cls cd=>cd.mro|_=>[])|none=>[]
def vG{e C D:Addr}{o:Obj}{i G:Option Value}{Q:Bool->Shared->Prop}(x:ExcAt s.heap C i)(y:ExcAt s.heap D G)(B:s.heap.get? e=some o)(t:o.cls=.ref C)(a:Q ((i5 s.heap C).contains (.ref D)) s):wpAny M A (excMatches (.ref e) (.ref D)) Q E s:=by
 obtain⟨h,g,d,S,os⟩:=s;obtain⟨nm,q,N,bs,bm,sn,sub,ab,col,dd,k0,k1,k2,k3,k5,mN,j,Y,Z,c4,c5⟩:=x.ex;obtain⟨U,q',N',v,c,R,p,u,l,T,H,I,J,K,O,P,m,d2,d3,d4,w⟩:=y.ex
 have F:i5 h C=.ref C::bm:=by unfold i5;rw[show h.get? C=_ from j]
 have a:Q ((Value.ref C::bm).contains (.ref D)) ⟨h,g,d,S,os⟩:=by rw[←F];exact a
 have r:(Value.ref D::c).contains (.type "BaseException")=true:=by rw[K2,w.tail.hasType (X:="BaseException") (b:=true) (by lia),Mo]
 have f:=tc_notTuple;unfold excMatches
 repeat (first|(with_reducible refine Ji B ?_;rw[t])|with_reducible refine Ji m ?_|(with_reducible refine Kd m ?_;rw[r])|(with_reducible refine Kd j ?_)|wp_step)
 cases z:(Value.ref C::bm).contains (.ref D)<;>(rw[z]at a;wp_walk;exact a)
end
structure Exs(K:Frag)(mg:Str->Option Value)(Np:Str->Str->Bool)(names:List Str):Prop where
 cls:∀nm∈names,∀C,mg nm=some (.ref C)->∀h:Heap,K.In h->∃i,ExcAt h C i
 sub:∀nm∈names,∀c∈names,∀C D,mg nm=some (.ref C)->mg c=some (.ref D)->∀h:Heap,K.In h->(i5 h C).contains (.ref D)=Np nm c
 inK:∀nm∈names,∀C,mg nm=some (.ref C)->nsIn K mainGlobals nm=some (some (.ref C))
structure PHM(K:Frag)(X:Cx)(hs:List ExceptHandler)(th:XD->EndsM->ak->Prop):Prop where
 ph:X.K=K->∀(pins:List (Addr×Obj))(s:Shared)(σ:St)(H:Hp)(D:Ends)(ea T C:Addr)(dx:Option Addr)(xd:XD)(Φ0 H0 Φ:Hp)(ρ:ak)(De:EndsM),Inv X pins σ H s->Fly s.heap ea (some T) .none (.ref C) dx->X.mg xd.nm=some (.ref C)->nD X.K H xd.at_ dx->
  (X.s₀.heap.get? ea=none/\H ea=none/\∀p∈X.pn++pins,p.1≠ea)->(X.s₀.heap.get? T=none/\H T=none/\∀p∈X.pn++pins,p.1≠T)->Gr Φ0 H0 Φ H->EnvM K H0 Φ H σ ρ->th xd De ρ->EndOkM K X Φ0 H0 De D->wpAny (model X.prog X.w) X.A (handleBy (.ref ea) X.env hs) (SP X pins D) X.xe s
def EnvM.unset{K:Frag}{c f H:Hp}{g:St}{ρ:ak}(E:EnvM K c f H g ρ)(i:Nat):EnvM K c f H (g.set i none) (ρ.set i none):=by
 have l:=E.len;refine E.re id (by rw[Im,Im,l]) (λj x h=>?_) (λj k a m o p _ _ h=>h)
 have e:j≠i:=λz=>by rw[z]at h;simp[K8]at h
 rw[IL (Jj e)]at h;exact⟨h,IL (Jj e)⟩
def pd{h h':Heap}{fs:List Addr}{e T:Addr}(k:∀b o,h.get? b=some o->b≠T->h'.get? b=some o)(g:∃o vs,h.get? T=some o/\o.data=.fields vs)(j:∀b∈fs,∀o,h.get? b=some o->∀vs,o.data≠.fields vs):Kept fs e (some T) h h' where
 keep b o hb _ b2 _:=k b o hb λz=>b2 (by rw[z])
 slot b o hb c:=⟨o.slots,k b o hb λz=>by
  obtain⟨l,vs,a,f⟩:=g;rw[z,a]at hb;cases hb
  exact j T (z▸c) _ a vs f⟩
def Fly.note{h:Heap}{e T:Addr}{fl cls:Value}{a:Option Addr}(F:Fly h e (some T) fl cls a):∃o vs,h.get? T=some o/\o.data=.fields vs:=by obtain⟨j,vs,_,_,_,_,_,_,g,ts,c,f,_⟩:=F.ex;exact⟨g,ts,c,f⟩
def Fly.obj{h:Heap}{e:Addr}{T:Option Addr}{fl cls:Value}{a:Option Addr}(F:Fly h e T fl cls a):∃o vs,h.get? e=some o/\o.data=.fields vs:=by obtain⟨g,vs,c,f,_⟩:=F.ex;exact⟨g,vs,c,f⟩
section
variable{K:Frag}{X:Cx}{Np:Str->Str->Bool}{names:List Str}
def oH{a:List (Addr×Obj)}{h:St}{H:Hp}{s:Shared}(I:Inv X a h H s):∀b∈b8 X.stack,∀o,s.heap.get? b=some o->∀vs,o.data≠.fields vs:=λb e o g=>by obtain⟨_,j,c,f⟩:=I.stack.mem e;rw[g]at c;cases c;exact f
def B2:PHM K X [] (λ_ _ _=>False):=⟨λ_ _ _ _ _ _ _ _ _ _ _ _ _ _ _ _ _ _ _ _ _ _ _ _ h=>h.elim⟩
def yN{Q:List ExceptHandler}{th:XD->EndsM->ak->Prop}{c n:Str}{Da:Addr}{np Px:Pos}{P:Stmt}{NH:List Stmt}{tu:bj}(i:Nat)(Ex:Exs X.K X.mg Np names)(hc:c∈names)(hg:Gl X c)(hm:X.mg c=some (.ref Da))(hN:X.N.Nodup)(hs:∀pn e,PSsM K (X.held pn e) (P::NH) tu)(hr:PHM K X Q th)
  (hi:X.N[i]?=some n:=by rfl) (Ql:X.env.scope.names.lookup n=some .local:=by rfl) (QN:X.fn n=true\/X.env.scope.names.lookup n=some .local:=by first|exact .inl rfl|exact .inr rfl) (Nr:(c==("__debug__":Str))=false:=by decide) :
  PHM K X (.ExceptHandler (some (.Name c np)) (some n) (P::NH) Px::Q) (λB S ρ=>B.nm∈names/\(Np B.nm c=true->tu { nx:=λE=>S.nx (E.set i none),rt:=S.rt,bk:=λE=>S.bk (E.set i none),ct:=λE=>S.ct (E.set i none) } (ρ.set i (some (.v (.exc B.nm B.at_.toList)))))/\(Np B.nm c=false->th B S ρ)):=
 ⟨λhK y s σ H D j T C Z B Φ0 H0 R ρ S I F Qx Y N fT g V t k=>by
  obtain⟨O3,t1,t2⟩:=t;obtain⟨oe,he,Qv,hdx,vs,hvs⟩:=F.live;obtain⟨iC,kC⟩:=Ex.cls B.nm O3 C Qx s.heap I.kIn;obtain⟨iD,kD⟩:=Ex.cls c hc Da hm s.heap I.kIn;have Rh:=Ex.sub B.nm O3 c hc C Da Qx hm s.heap I.kIn;refine wpAny_handleBy_cons (codeAny_handlers_test (ia (X:=X.held (X.pn++y) (.ref j)) (I.held (.ref j)) hg hm ?_ Nr)) (by intro q;cases q);refine vG kC kD he Qv ?_;rw[Rh]
  cases hb:Np B.nm c with
  |false=>exact hr.ph hK y s σ H D j T C Z B Φ0 H0 R ρ S I F Qx Y N fT g V (t2 hb) k
  |true=>
   refine codeAny_handlers_suite_as (kX F λh1 F1 k1 n1=>?_);have I1:Inv X y σ H { s with heap:=h1 }:=I.passed (pd k1 F.note (oH I)) N (λT' z=>by cases z;exact fT) F.obj (λT' z=>by cases z;exact F.note);refine qb I1 hN hi (.inl Ql) (v:=.ref j) rfl (λs2 I2 NY=>?_) QN;obtain⟨US,ve2,RK,G,Qy,SN,_⟩:=F1.ex
   have hel:j≠X.env.locals:=λz=>by obtain⟨m,⟨o',es,ep,ND,PY,_⟩,_⟩:=I1.loc;rw[z,show h1.get? X.env.locals=_ from ND]at RK;cases RK;rw[PY]at G;cases G
   have hec:∀x c,X.env.cells.lookup x=some c->c≠j:=λx c h z=>by obtain⟨v,o',ND,PY⟩:=I1.cell x c h;rw[z,show h1.get? j=_ from RK]at ND;cases ND;rw[PY]at G;cases G
   have he3:s2.heap.get? j=some US:=by
    obtain⟨a,sb,ha⟩:=NY;refine (sb.2 j ?_).trans RK;rcases ha with rfl|ha
    ·exact hel
    ·exact λz=>hec _ _ ha z.symm
   have new:ObjOk X.prog X.w (aj H j (.ext (fq j C Z))) s2.heap j (.ext (fq j C Z)):=⟨⟨US,ve2,he3,Qy,SN,G⟩,⟨US,he3⟩,λa b ⟨o,w,z1,z2⟩ kk=>⟨o,w,kk o z1,z2⟩⟩;have I3:=I2.knowX N.1 N.2.1 N.2.2 (Jj hel) hec new
   have NQ:H0 j=none:=by
    cases q:H0 j with
    |none=>rfl
    |some u=>have:=g.h _ _ q;rw[N.2.1]at this;cases this
   have hΦe:R j=none:=by
    cases q:R j with
    |none=>rfl
    |some u=>have:=g.s _ _ q;rw[N.2.1]at this;cases this
   obtain⟨O,g2,r2⟩:∃O,Gr R H O (aj H j (.ext (fq j C Z)))/\Rp K O (.exc B.nm B.at_.toList) (.ref j):=by
    have g1:Gr R H (aj R j (.ext (fq j C Z))) (aj H j (.ext (fq j C Z))):=(Gr.fresh g.s N.2.1 _).freeze N.2.1 hΦe bg
    cases ha:B.at_ with
    |none=>
     rw[ha]at Y;have Y:Z=none:=Y;subst Y;exact⟨_,g1,.exc0 (hK▸Ex.inK B.nm O3 C Qx) bg⟩
    |some d=>
     rw[ha]at Y;obtain⟨p,v,rfl,hp,rv⟩:=Y
     have UT:p≠j:=λz=>by rw[z,N.2.1]at hp;cases hp
     have QR:aj H j (.ext (fq j C (some p))) p=some (.xd [("at",v)]):=by rw[aE UT];exact hp
     have rv':∀Ψ:Hp,Rp K Ψ d v:=λΨ=>(hK▸rv:Rp K (λ_=>none) d v).same λb u z=>(by cases z)
     cases q:(aj R j (.ext (fq j C (some p)))) p with
     |some u=>
      have:=g1.s _ _ q;rw[QR]at this;cases this;exact⟨_,g1,.exc1 (hK▸Ex.inK B.nm O3 C Qx) bg q (rv' _)⟩
     |none=>
      refine⟨aj (aj R j (.ext (fq j C (some p)))) p (.xd [("at",v)]),⟨g1.f.trans (cH q _),g1.h,λb u z=>?_,λb u z1 z2 z3=>?_⟩,.exc1 (hK▸Ex.inK B.nm O3 C Qx) (by rw[aE (Jj UT)];exact bg) bg (rv' _)⟩
      ·by_cases cb:b=p
       ·rw[cb,bg]at z;cases z;rw[cb];exact QR
       ·rw[aE cb]at z;exact g1.s b u z
      ·by_cases cb:b=p
       ·rw[cb,hp]at z1;cases z1;exact z3.elim
       ·rw[aE cb];exact g1.o b u z1 z2 z3
   have V2:=((V.gr g2).snocV r2).store i
   have run:=(hs (X.pn++y) (.ref j)).ps hK [] s2 _ _ { nx:=λl A=>D.nx (l.set i none) A,rt:=D.rt,bk:=λl A=>D.bk (l.set i none) A,ct:=λl A=>D.ct (l.set i none) A } (I3.held (.ref j))
    ⟨Φ0,H0,O,_,_,g.trans g2,V2,t1 hb,⟨λE M A l r g' V'=>k.nx _ M A _ r g' (V'.unset i),k.rt,λE M A l r g' V'=>k.bk _ M A _ r g' (V'.unset i),λE M A l r g' V'=>k.ct _ M A _ r g' (V'.unset i),λ_ _ _ _ _ _ _ _ h=>h.elim⟩⟩
   refine JF run (λf s3 hf=>?_) λ_ _ h=>h.elim;have go:∀{l:St}{A:Hp},Inv (X.held (X.pn++y) (.ref j)) [] l A s3->(∀s',Inv X y (l.set i none) A s'->SP X y D f s')->wpAny (model X.prog X.w) X.A (do bindName X.env n .none;unbindBehindTheSuite X.env n Px) (λ_ s'=>SP X y D f s') X.xe s3:=λ{l A} J kk=>Ai (Inv.unheld I.ok J) hN hi Ql QN kk
   cases f with
   |next=>obtain⟨l,A,J,q⟩:=hf;exact go J λs' U=>⟨_,A,U,q⟩
   |brk=>obtain⟨l,A,J,q⟩:=hf;exact go J λs' U=>⟨_,A,U,q⟩
   |cont=>obtain⟨l,A,J,q⟩:=hf;exact go J λs' U=>⟨_,A,U,q⟩
   |ret u=>obtain⟨v,l,A,J,rv,q⟩:=hf;exact go J λs' U=>⟨v,_,A,U,rv,q⟩⟩
def Do{m:List Stmt}{h₀:ExceptHandler}{Y:List ExceptHandler}{pos:Pos}{tb:bj}{th:XD->EndsM->ak->Prop}(hb:∀pn xe,PSsM K (X.tried pn xe) m tb)(hh:PHM K X (h₀::Y) th)(SO:X.stack=X.env::X.outer)(Oi:X.env.frame=some X.env.locals) :
  PSM K X (.Try m (h₀::Y) [] [] pos) (λG ρ=>tb { G with ex:=λxd ρ1=>th xd G ρ1 } ρ):=⟨λhK=>by
 intro a s σ H D I MQ;obtain⟨E,H0,Φ,ρ,G,g,V,t,k⟩:=MQ;refine wpAny_Try_except ?_
 refine JF ((hb (X.pn++a) (λe y=>wpAny (model X.prog X.w) X.A (noteFrame e X.env) (λ_ A=>wpAny (model X.prog X.w) X.A (setFlight e none) (λ_ B=>wpAny (model X.prog X.w) X.A (handleBy e X.env (h₀::Y)) (SP X a D) X.xe B) X.xe A) X.xe y)).ps hK [] s σ H D (I.tried _)
  ⟨E,H0,Φ,ρ,_,g,V,t,⟨k.nx,k.rt,k.bk,k.ct,λxd ρ' Φ' j c e s' OS Z g' V' st=>?_⟩⟩) (λf s1 P=>?_) λ_ _ h=>h
 ·obtain⟨O,C,T,dx,e1,F,Qx,Nc,U,R⟩:=st.ex;subst e1;have o:Inv X a c j s':=Inv.untried I.ok st.inv;have Q:X.s₀.heap.get? O=none/\j O=none/\∀p∈X.pn++a,p.1≠O:=⟨U.1,U.2.1,λp x=>U.2.2 p (JN _ x)⟩;have S:∀l,T=some l->X.s₀.heap.get? l=none/\j l=none/\∀p∈X.pn++a,p.1≠l:=λl z=>⟨(R l z).1,(R l z).2.1,λp x=>(R l z).2.2 p (JN _ x)⟩;have Oy:=o.stack;have w:=o.ok.frames;rw[SO]at Oy w;refine tP (base:=X.base) w Oy Oi F λh1 N M n1 k1=>?_;rw[←SO]at k1;have I1:Inv X a c j { s' with heap:=h1 }:=o.passed k1 Q S F.obj (λl z=>by subst z;exact F.note);have r:X.s₀.heap.get? N=none/\j N=none/\∀p∈X.pn++a,p.1≠N:=⟨JM (IF o.sz n1),o.hok.fresh n1,λp x z=>absurd (Iq (o.pin p x).1) (by rw[z];exact LA.mpr n1)⟩;refine kX (s:={ s' with heap:=h1 }) M λh2 F2 k2 n2=>?_;have I2:Inv X a c j { s' with heap:=h2 }:=I1.passed (pd k2 M.note (oH I1)) Q (λl z=>by cases z;exact r) M.obj (λl z=>by cases z;exact M.note);exact hh.ph hK a _ c j D O N C dx xd E H0 Φ' ρ' G I2 F2 Qx Nc Q r g' V' Z k
 ·cases f with
  |next=>obtain⟨c,j,J,q⟩:=P;exact KS ⟨c,j,Inv.untried I.ok J,q⟩
  |brk=>obtain⟨c,j,J,q⟩:=P;exact⟨c,j,Inv.untried I.ok J,q⟩
  |cont=>obtain⟨c,j,J,q⟩:=P;exact⟨c,j,Inv.untried I.ok J,q⟩
  |ret u=>obtain⟨v,c,j,J,rv,q⟩:=P;exact⟨v,c,j,Inv.untried I.ok J,rv,q⟩⟩
end
section
variable{M:Model}{A:Around}{E:Value->Shared->Prop}{h:Heap}{g:Array GenState}{d:Drawn}{t:Nat}{os:OsState}{a:Addr}{o:Obj}{nm q:Str}{C N:Addr}{bs bm:List Value}{hdct:Bool}{sn:List Str}{sub:List Value}{ab:Bool}{col:Option Bool}{dd:Option Addr}{k0 k1 k2 k3 k5:Option Value}{newId:String}{mN:Str->Option Value}{name:Str}
def EL{y:Option Value}{Q:Option Value->Shared->Prop}(f:name∈excNames)(T:TailN h bm)(m:lookupAlong jU name=pure y)(l:Q y ⟨h,g,d,t,os⟩):wpAny M A (lookupAlong bm name) Q E ⟨h,g,d,t,os⟩:=by
 induction T with
 |base=>rw[m];exact Io l
 |own c e j _ p=>
  rw[lookupAlong_cons];refine HZ (wpAny_classOwn_cls c e ?_);rw[j name f];exact p
def kz{y:Option Value}{Q:Option Value->Shared->Prop}(j:name∈excNames)(e:h.get? C=some (excClassObj nm q C N bs bm hdct sn sub ab col dd k0 k1 k2 k3 k5 newId))(l:h.Ns N mN)(f:mN name=none)(T:TailN h bm)(c:typeLookup (.type "ValueError") name=pure y)
  (m:Q y ⟨h,g,d,t,os⟩):wpAny M A (typeLookup (.ref C) name) Q E ⟨h,g,d,t,os⟩:=by
 have p:lookupAlong jU name=pure y:=by rw[typeLookup_eq,JE.mroIs]at c;exact c
 rw[typeLookup_eq];refine HZ (wpAny_mroOf_exc e ?_);rw[lookupAlong_cons];refine HZ (wpAny_classOwn_exc e l ?_);rw[f];exact EL j T p m
def Ha{c:Value}{Q:Unit->Shared->Prop}(j:h.get? C=some (excClassObj nm q C N bs bm hdct sn sub ab col dd k0 k1 k2 k3 k5 newId))(T:TailN h bm)(r:h.get? a=some o)(l:o.cls=.ref C)(p:Q () ⟨h,g,d,t,os⟩):wpAny M A (checkBuiltinCall "BaseException.__getattribute__" ⟨[.ref a,c],[]⟩) Q E ⟨h,g,d,t,os⟩:=by
 have m:builtinKind "BaseException.__getattribute__"=some .slot:=by lia
 have f:splitId "BaseException.__getattribute__"=some ("BaseException","__getattribute__"):=by lia
 have e:(Value.ref C::bm).contains (.type "BaseException")=true:=by rw[K2,T.tail.hasType (X:="BaseException") (b:=true) (by lia),Mo]
 have u:=F.args_bexc_ga (.ref a) c;simp only[checkBuiltinCall,m,f];refine HZ ?_;unfold isInstance
 repeat (first|(with_reducible refine Ji r ?_;rw[l])|(with_reducible refine Kd j ?_;rw[e])|wp_step)
 exact p
end
structure Isa(K:Frag)(mg:Str->Option Value)(Np:Str->Str->Bool)(names:List Str):Prop where
 own:∀nm∈names,∀c∈names,∀C D,mg nm=some (.ref C)->mg c=some (.ref D)->kitOne K (.ref C) (.ref D)=some (Np nm c)
 val:∀nm∈names,∀C,mg nm=some (.ref C)->kitOne K (.ref C) (.type "ValueError")=some true
 mgK:∀nm∈names,∀C,nsIn K mainGlobals nm=some (some (.ref C))->mg nm=some (.ref C)
section
variable{prog:Program}{w:World}{A:Around}{E:Value->Shared->Prop}{h:Heap}{g:Array GenState}{d:Drawn}{t:Nat}{os:OsState}{a p:Addr}{o:Obj}{vs:Array Value}{v:Value}{nm q:Str}{C N:Addr}{bs bm:List Value}{sn:List Str}{sub:List Value}{ab:Bool}{col:Option Bool}{dd:Option Addr}{k0 k1 k2 k3 k5:Option Value}{newId:String}{mN mA:Str->Option Value}
def tQ:typeLookup (.type "ValueError") "at"=pure none:=by rw[typeLookup_type,builtinLookup_eq_fast];kernel_rfl
def za{z:Tok}{Q:Fin->Shared->Prop}(c:h.get? C=some (excClassObj nm q C N bs bm true sn sub ab col dd k0 k1 k2 k3 k5 newId))(m:h.Ns N mN)(j:mN "at"=none)(T:TailN h bm)(f:h.get? a=some o)(e:o.cls=.ref C)(hd:o.data=.fields vs)(u:o.dict=some p)(l:h.Ns p mA)(y:mA "at"=some v)(x:Q (.done (.ret v)) ⟨h,g,d,t,os⟩) :
  wpAny (model prog w) A (Builtin.«object.__getattribute__» ⟨[.ref a,.str "at" z],[]⟩) Q E ⟨h,g,d,t,os⟩:=by
 have r:("at":Str)∈excNames:=by simp
 unfold Builtin.«object.__getattribute__»
 repeat (first|(with_reducible refine Ji f ?_;rw[e])|with_reducible refine kz r c m j T tQ ?_|wp_step)
 rw[hd];show wpAny _ _ (instanceDict a false) _ _ _;unfold instanceDict
 repeat (first|(with_reducible refine Ji f ?_;rw[e])|with_reducible refine Ji c ?_|wp_step)
 rw[u];refine Io ?_;unfold Builtin.ObjectAttr.inDict
 repeat (first|(with_reducible refine wpAny_nsGet l ?_;rw[y])|wp_step)
 exact x
def Gg{K:Tok}{fill c:Bool}{Q:Value->Shared->Prop}(e:h.get? C=some (excClassObj nm q C N bs bm true sn sub ab col dd k0 k1 k2 k3 k5 newId))(j:h.Ns N mN)(f:∀n∈excNames,n≠"__init__"->mN n=none)(T:TailN h bm)(m:h.get? a=some o)(l:o.cls=.ref C)(hd:o.data=.fields vs)(z:o.dict=some p)(y:h.Ns p mA)(B:mA "at"=some v)(P:handedOut v=pure v)(R:Q v ⟨h,g,d,t,os⟩) :
  wpAny (model prog w) A (getAttrBy (.ref a) (.str "at" K) fill c) Q E ⟨h,g,d,t,os⟩:=by
 have O:=Kk.ga.bind (.ref a)
 have G:(c&&onTheHeap (Value.builtin "BaseException.__getattribute__"))=false:=by cases c<;>rfl
 have x:(Value.builtin "BaseException.__getattribute__"==Value.builtin "object.__getattribute__")=false:=by lia
 have M:(onTheHeap (Value.ref C)&&Value.builtin "BaseException.__getattribute__"==Value.builtin "object.__getattribute__")=false:=by rw[x];rfl
 have r:("__getattribute__":Str)∈excNames:=by simp
 have u:("__getattr__":Str)∈excNames:=by simp
 have H:=f "__getattribute__" r (by decide);have I:=f "__getattr__" u (by decide);have J:=f "at" (by simp) (by decide)
 repeat (any_goals (first|assumption|(with_reducible refine Ji m ?_;rw[l])|with_reducible refine kz r e j H T Kk.ga.lookup ?_|with_reducible refine kz u e j I T Kk.noGetattr ?_|wp_step))
 refine codeAny_call_builtin Kk.ga.plain F.entry_bexc_ga (Ha e T m l (za e j J T m l hd z y B ?_))
 repeat (any_goals (first|assumption|wp_step))
def Bj{c:Bool}{Q:Value->Shared->Prop}(j:h.get? C=some (excClassObj nm q C N bs bm true sn sub ab col dd k0 k1 k2 k3 k5 newId))(l:h.Ns N mN)(e:∀n∈excNames,n≠"__init__"->mN n=none)(T:TailN h bm)(y:h.get? a=some o)(m:o.cls=.ref C)(hd:o.data=.fields vs)(u:o.dict=some p)(f:h.Ns p mA)(x:mA "at"=some v)(r:handedOut v=pure v)(z:Q v ⟨h,g,d,t+1,os⟩) :
  wpAny (model prog w) A (getAttr (.ref a) "at" c) Q E ⟨h,g,d,t,os⟩:=by
 unfold getAttr
 repeat (any_goals (first|assumption|with_reducible apply Gg j l e T y m hd u f x r|wp_step))
end
section
variable{K:Frag}{X:Cx}{a:Expr}{ta:TD}{pos:Pos}{Np:Str->Str->Bool}{names:List Str}
def Cb:handedOut .none=pure .none:=by rfl
def wQ(i:Int)(t:Tok):handedOut (.int i t)=pure (.int i t):=by rfl
noncomputable def jJ:D->Prop|.non=>True|.int _=>True|_=>False
noncomputable def Gy(names:List Str)(t:TD):TD:=λρ R=>t ρ λd=>∃nm x,d=.exc nm [x]/\nm∈names/\jJ x/\R x
def lb(S:Exs X.K X.mg Np names)(U:Isa X.K X.mg Np names)(ha:PD K X a ta)(hb:attributeBase a "at" X.env (eval a X.env)=eval a X.env:=by rfl):PD K X (.Attribute a "at" pos) (Gy names ta):=
 ⟨λM=>by
  intro m s σ H Q I Y;obtain⟨T,P,ρ,R,E,t,k⟩:=Y;refine r6 hb (aq (ha.pe M m s σ H _ I ⟨T,P,ρ,_,E,t,λd c h v r g F=>(⟨c,d,r,g,F⟩:∃c d,(∃nm x,d=.exc nm [x]/\nm∈names/\jJ x/\R x)/\Gr P H c h/\Rp K c d v)⟩) λu A Z=>?_);obtain⟨v,h,y,F,c,d,⟨nm,x,rfl,G,RS,hR⟩,g,r⟩:=Z
  cases r with
  | @exc1 z C p _ w _ h0 h1 h2 J=>
   obtain rfl:u=Value.ref z:=F;have Rc:=U.mgK nm G C (M▸h0);obtain⟨i,hc⟩:=S.cls nm G C Rc A.heap y.kIn;obtain⟨UJ,q,N,bs,bm,sn,sub,ab,col,dd,k0,k1,k2,k3,k5,mN,c1,c2,c3,c4,c5⟩:=hc.ex;obtain⟨⟨o,vs,z1,z2,z3,z4⟩,_⟩:=(show ObjOk X.prog X.w h A.heap z (.ext (fq z C (some p)))from y.hok z _ (g.s _ _ h1));obtain⟨O,n1,n2⟩:=(show ObjOk X.prog X.w h A.heap p (.xd [("at",w)])from y.hok p _ (g.s _ _ h2));have l:=n2 "at"
   have hl:([("at",w)]:List (Str×V)).lookup ("at":Str)=some w:=by rw[IG,Jf]
   rw[hl]at l
   obtain⟨f,e1,B⟩:∃f,O "at"=some f/\RelV w f:=by
    cases q:O "at" with
    |none=>rw[q]at l;exact l.elim
    |some f=>rw[q]at l;exact⟨f,rfl,l⟩
   have hh:handedOut f=pure f:=by
    cases J with
    |non=>cases (show f=Value.none from B);exact Cb
    |int j=>obtain⟨t',e⟩:=(show ∃t,f=Value.int j t from B);rw[e];exact wQ j t'
    |_=>exact RS.elim
   obtain⟨hp,gg,dr,tk,os⟩:=A
   exact Bj c1 c2 c4 c5 z1 z2 z4 z3 n1.ns e1 hh ⟨w,h,y.tok _,B,k x c h w hR g J⟩⟩
end
open Builtin Builtin.ObjectAttr
section
variable{M:Model}{prog:Program}{w:World}{A:Around}{E:Value->Shared->Prop}{h:Heap}{g:Array GenState}{d:Drawn}{t:Nat}{os:OsState}{x:Addr}{o:Obj}{vs:Array Value}{v:Value}{nm q:Str}{C N:Addr}{bs bm:List Value}{sn:List Str}{sub:List Value}{ab:Bool}{col:Option Bool}{dd:Option Addr}{k0 k1 k2 k3 k5:Option Value}{newId:String}{mN:Str->Option Value}
def xt(self:Value){h:Heap}{bm:List Value}(T:TailN h bm):refuseLoop self "__setattr__" bm=pure ():=by
 induction T with
 |base=>exact JS.passes self
 |own _ _ _ _ a=>rw[refuseLoop_ref];exact a
def DZ{a:Value}{Q:Unit->Shared->Prop}(e:h.get? C=some (excClassObj nm q C N bs bm true sn sub ab col dd k0 k1 k2 k3 k5 newId))(T:TailN h bm)(l:h.get? x=some o)(f:o.cls=.ref C)(j:Q () ⟨h,g,d,t,os⟩) :
  wpAny M A (checkBuiltinCall "object.__setattr__" ⟨[.ref x,a,v],[]⟩) Q E ⟨h,g,d,t,os⟩:=by
 have c:(Value.ref C::bm).contains (.type "object")=true:=by rw[K2,T.tail.hasType (X:="object") (b:=true) (by lia),Mo]
 have m:=JS.args (.ref x) a v;simp only[checkBuiltinCall,JS.kind,JS.split];refine HZ ?_
 ·unfold isInstance
  repeat (first|(with_reducible refine Ji l ?_;rw[f])|(with_reducible refine Kd e ?_;rw[c])|wp_step)
  exact j
structure Stored(h h':Heap)(x:Addr)(o:Obj)(p:Addr)(v:Value):Prop where
 at_:h'.get? x=some { cls:=o.cls,dict:=some p,data:=o.data,slots:=o.slots }
 ns:h'.Ns1 p (λy=>if y="at" then some v else none)
 new:h.objs.size<=p
 keep:∀b ob,b≠x->h.get? b=some ob->h'.get? b=some ob
def Ap{G:Tok}{Q:Fin->Shared->Prop}(B:h.get? C=some (excClassObj nm q C N bs bm true sn sub ab col dd k0 k1 k2 k3 k5 newId))(Z:h.Ns N mN)(I:mN "at"=none)(T:TailN h bm)(l:h.get? x=some o)(hc:o.cls=.ref C)(hd:o.data=.fields vs)(hp:o.dict=none)
  (hq:∀h' p J,Stored h h' x o p v->Q (.done (.ret .none)) ⟨h',g,d,J,os⟩):wpAny (model prog w) A (Builtin.«object.__setattr__» ⟨[.ref x,.str "at" G,v],[]⟩) Q E ⟨h,g,d,t,os⟩:=by
 have K:=xt (.ref x) T
 have hm:("at":Str)∈excNames:=by simp
 unfold Builtin.«object.__setattr__»
 repeat (first|rw[refuse_eq]|(rw[refuseLoop_ref,K])|(with_reducible refine Ji l ?_;rw[hc])|with_reducible refine wpAny_mroOf_exc B ?_|with_reducible refine kz hm B Z I T tQ ?_|wp_step)
 rw[hp];show wpAny _ _ (if (!true || !typeHasDict (Value.ref C))=true then pure none else match o.data with|Data.cls c=>pure none|_=>_) _ _ _;rw[Ib (by simp[typeHasDict]),hd];have z:(h.push { cls:=.type "dict",data:=.dict #[] }).get? x=some o:=Ig _ l;have a:x≠h.objs.size:=Ja (Iq l);refine HZ (wpAny_alloc' ?_);refine HZ (wpAny_update' z ?_);refine Io ?_;generalize m:((h.push { cls:=.type "dict",data:=.dict #[] }).update x λo=>{ cls:=o.cls,dict:=some h.objs.size,data:=o.data,slots:=o.slots })=h2
 have X:h2.get? h.objs.size=some { cls:=.type "dict",data:=.dict #[] }:=by rw[←m];exact (Heap.get?_update_ne _ _ _ _ a.symm).trans (Heap.get?_push_at rfl rfl)
 have Y:h2.get? x=some { cls:=o.cls,dict:=some h.objs.size,data:=o.data,slots:=o.slots }:=by
  rw[←m];refine J3 _ z ?_;have H:=(Heap.get?_some_iff.mp l).2;obtain⟨oc,od,u,Qg⟩:=o;cases u<;>first|rfl|exact H
 have go:∀b f,b≠x->h.get? b=some f->h2.get? b=some f:=λb f r j=>by rw[←m];exact (Heap.get?_update_ne _ _ _ _ r).trans (Ig _ j)
 have nd:h2.Ns h.objs.size (λ_=>none):=⟨_,#[],_,X,rfl,λe he=>absurd he (by simp),λ_=>rfl⟩;show wpAny _ _ (storeInDict h.objs.size (.str "at" G) "at" v) _ _ _;unfold storeInDict newKeyGuard;refine HZ (Io (HZ (wpAny_nsSet1 (Heap.Ns1.of_empty nd) λh' y F=>?_)));obtain⟨oD,U,S,O,P,R⟩:=y.count (Within.cons "at" v Within.nil);refine HZ (wpAny_lookBehind O (by rw[P];exact pastItsLine_dict (IF R (by rw[Ij,Jh,Ju];omega))) ?_)
 wp_walk
 exact hq h' h.objs.size _ ⟨(F.2 x a).trans Y,y,Ih _,λb f r j=>(F.2 b (Ja (Iq j))).trans (go b f r j)⟩
def Af{Q:Unit->Shared->Prop}(c:h.get? C=some (excClassObj nm q C N bs bm true sn sub ab col dd k0 k1 k2 k3 k5 newId))(l:h.Ns N mN)(j:∀n∈excNames,n≠"__init__"->mN n=none)(T:TailN h bm)(f:h.get? x=some o)(e:o.cls=.ref C)(hd:o.data=.fields vs)(r:o.dict=none)
  (u:∀h' p a,Stored h h' x o p v->Q () ⟨h',g,d,a,os⟩):wpAny (model prog w) A (setAttr (.ref x) "at" v) Q E ⟨h,g,d,t,os⟩:=by
 have B:=JS.slot.bind (.ref x)
 have m:("__setattr__":Str)∈excNames:=by simp
 have y:=j "__setattr__" m (by decide);have z:=j "at" (by simp) (by decide);unfold setAttr callSpecial? specialOf
 repeat (any_goals (first|assumption|(with_reducible refine Ji f ?_;rw[e])|with_reducible refine kz m c l y T JS.slot.lookup ?_|wp_step))
 refine codeAny_call_builtin JS.slot.plain JS.entry (DZ c T f e (Ap c l z T f e hd r λh' p a S=>?_))
 repeat (any_goals (first|assumption|wp_step))
 exact u h' p a S
end
end L2
namespace L2
open PySem PySem.Spec PyProof.Rows
noncomputable def dJ(a C t:Addr)(c:Option Addr):Heap->Prop:=λh=>∃sl,h.get? a=some { cls:=.ref C,dict:=c,data:=.fields #[.ref t,.none,.none,.none,.bool false,.none],slots:=sl }
section
variable{X:Cx}{pins:List (Addr×Obj)}{σ:St}{H:Hp}{s:Shared}{C t:Addr}
def Inv.stored{e p:Addr}{sl:Array (Option Value)}{v:Value}{y:V}{h':Heap}{t':Nat}(I:Inv X pins σ H s)(l:H e=some (.ext (dJ e C t none)))(S:Stored s.heap h' e { cls:=.ref C,dict:=none,data:=.fields #[.ref t,.none,.none,.none,.bool false,.none],slots:=sl } p v)(O:RelV y v) :
  Inv X pins σ (aj (aj H p (.xd [("at",y)])) e (.ext (dJ e C t (some p)))) { s with heap:=h',toks:=t' }:=by
 have m:H p=none:=I.hok.fresh S.new
 have Q:p≠e:=λz=>by rw[z,l]at m;cases m
 have G:∀b h,s.heap.get? b=some h->b≠p:=λb h o z=>by subst z;exact absurd (Iq o) (LA.mpr S.new)
 have ne:∀{b:Addr},H b=none->b≠e:=λ{b} o z=>by rw[z,l]at o;cases o
 refine I.un (h':=h') (t':=t') ⟨λb h q n _ _=>S.keep b h (ne n) q,λb h q n _ _=>⟨h.slots,S.keep b h (ne n) q⟩,λb h q n _=>?_,λb h q _=>?_,λb xs q=>?_,λb h xs q=>?_,λb xs q=>?_⟩ λb u q=>?_
 ·rw[aE (ne n),aE (G b h q)];exact n
 ·by_cases c:b=e
  ·rw[c];exact⟨_,S.at_⟩
  ·exact⟨h,S.keep b h c q⟩
 ·rw[aE (λz=>by rw[z,l]at q;cases q),aE (λz=>by rw[z,m]at q;cases q)];exact q
 ·rw[aE (λz=>by rw[z,l]at q;cases q),aE (λz=>by rw[z,m]at q;cases q)];exact q
 ·rw[aE (λz=>by rw[z,l]at q;cases q),aE (λz=>by rw[z,m]at q;cases q)];exact q
 ·by_cases c:b=e
  ·subst c;rw[bg]at q;cases q;exact⟨⟨sl,S.at_⟩,⟨_,S.at_⟩,λa R ⟨w,P⟩ M=>⟨w,M _ P⟩⟩
  ·rw[aE c]at q;by_cases B:b=p
   ·subst B;rw[bg]at q;cases q;refine⟨_,S.ns,λf=>?_⟩;by_cases r:f="at"
    ·subst r;rw[IG,Jf];show RelO (some y) (if ("at":Str)="at" then some v else none);rw[Ia rfl];exact O
    ·have:([("at",y)]:List (Str×V)).lookup f=none:=by
      rw[IG]
      have:(f==("at":Str))=false:=by simpa using r
      rw[this];rfl
     rw[this];show RelO none (if f="at" then some v else none);rw[Ib r];trivial
   ·rw[aE B]at q
    have x:∀z A,H z=some A->A≠.ext (dJ e C t none)->z≠e:=λz A E J K=>by rw[K,l]at E;exact J (IK E).symm
    refine (I.hok b u q).stay (λz F g N=>S.keep z F ?_ N) (λz g=>?_) (λz xs g=>?_) (λz h F g=>?_)
    ·rcases g with rfl|g
     ·exact c
     ·exact λj=>by rw[j,l]at g;cases g
    ·rw[aE (λj=>by rw[j,l]at g;cases g),aE (λj=>by rw[j,m]at g;cases g)];exact g
    ·rw[aE (λj=>by rw[j,l]at g;cases g),aE (λj=>by rw[j,m]at g;cases g)];exact g
    ·rw[aE (λj=>by rw[j,l]at g;cases g),aE (λj=>by rw[j,m]at g;cases g)];exact g
noncomputable def oW(C t:Addr):Sp:=λvs H Q _=>∃e v,vs=[.ref e,v]/\H e=some (.ext (dJ e C t none))/\∀p,H p=none->p≠e->Q .non (aj (aj H p (.xd [("at",v)])) e (.ext (dJ e C t (some p))))
noncomputable def rR(C t:Addr):TS:=λD σ H=>∃e v,σ=[some (.ref e),some v]/\H e=some (.ext (dJ e C t none))/\∀p,H p=none->p≠e->D.nx σ (aj (aj H p (.xd [("at",v)])) e (.ext (dJ e C t (some p))))
def AS{l B m E:Pos}{i:Option Value}(A:X.N=[("self":Str),("at":Str)])(hC:∀h:Heap,X.K.In h->ExcAt h C i)(O:bR X.env.scope "self")(P:bR X.env.scope "at")(hs:swapsWith (.Name "at" m) (some (.Attribute (.Name "self" l) "at" B)) E.line X.env=pure false):PS X (.Assign [.Attribute (.Name "self" l) "at" B] (.Name "at" m) E) (rR C t):=by
 intro pins s σ H D I G;obtain⟨e,v,rfl,j,k⟩:=G;have o:PE X (.Name "at" m) (iu 1):=oQ (by rw[A];rfl) P (by decide) (by decide);have r:PE X (.Name "self" l) (iu 0):=oQ (by rw[A];rfl) O (by decide) (by decide);refine Lr (aq (o pins s _ H (λy a=>y=v/\a=H) I ⟨v,rfl,rfl,rfl⟩) λu s1 J=>?_) hs;obtain⟨y,a,F,ry,Y,Z⟩:=J;subst Y;subst Z;refine aq (r pins s1 _ a (λx c=>x=.ref e/\c=a) F ⟨_,rfl,rfl,rfl⟩) λov w K=>?_;obtain⟨x,c,f,rx,e3,e4⟩:=K;subst e3;subst e4;obtain rfl:ov=Value.ref e:=rx;obtain⟨nm,q,N,bs,bm,sn,sub,ab,col,dd,k0,k1,k2,k3,k5,mN,Q,R,c3,T,U⟩:=(hC w.heap f.kIn).ex;obtain⟨⟨sl,z1⟩,_⟩:=(show ObjOk X.prog X.w c w.heap e (.ext (dJ e C t none))from f.hok e _ j);obtain⟨hp,gg,dr,tk,os⟩:=w;refine Af Q R T U z1 rfl rfl rfl λh' p M S=>?_;have g:c p=none:=f.hok.fresh S.new;exact⟨_,_,f.stored (t':=M) j S ry,k p g (λz=>by rw[z,j]at g;cases g)⟩
end
section
variable{M:Model}{A:Around}{E:Value->Shared->Prop}{s:Shared}{env:Env}{C:Addr}
def y9{x:Sem Value}{Q:Flow->Shared->Prop}(u:A.handled=none)
  (h:wpAny M A x (λv a=>∃e t j sl i,v=.ref e/\ExcAt a.heap C i/\a.heap.get? e=some { cls:=.ref C,dict:=j,data:=.fields #[.ref t,.none,.none,.none,.bool false,.none],slots:=sl }/\E (.ref e) a) E s):wpAny M A (raiseStmt env (some x) none) Q E s:=by
 unfold raiseStmt;refine HZ (JF h (λv a c=>?_) λ_ _ x=>x);obtain⟨e,t,j,sl,i,rfl,o,r,p⟩:=c;obtain⟨nm,q,N,bs,bm,sn,sub,ab,col,dd,k0,k1,k2,k3,k5,mN,f,w,y,z,m⟩:=o.ex
 have l:(Value.ref C::bm).contains (.type "BaseException")=true:=by rw[K2,m.tail.hasType (X:="BaseException") (b:=true) (by lia),Mo]
 obtain⟨B,g,d,F,os⟩:=a
 repeat (first|with_reducible refine Ji r ?_|with_reducible refine Ji f ?_|(with_reducible refine Kd f ?_;rw[l])|wp_step)
 exact wpAny_raiseNew_none u p
end
section
variable{prog:Program}{w:World}{A:Around}{E:Value->Shared->Prop}{h:Heap}{g:Array GenState}{d:Drawn}{t:Nat}{os:OsState}
variable{C fI:Addr}{oI:Obj}{rest:List Value}
def Eb{Q:Fin->Shared->Prop}(G:ExcAt h C (some (.ref fI)))(y:h.get? fI=some oI)(v:oI.cls=.type "function")(u:rest.length<=sizeLine)
  (J:∀h' e,Heap.MadeExcOf h h' e (.ref C) rest->wpAny (model prog w) A (call (.ref fI) (.ref e::rest)) (λr s'=>r=.none/\Q (.done (.ret (.ref e))) s') E ⟨h',g,d,t,os⟩) :
  wpAny (model prog w) A (Builtin.«type.__call__» ⟨.ref C::rest,[]⟩) Q E ⟨h,g,d,t,os⟩:=by
 obtain⟨nm,q,N,bs,bm,sn,sub,ab,col,dd,k0,k1,k2,k3,k5,mN,a,B,F,M,j⟩:=G.ex
 repeat (first|with_reducible refine Ji a ?_|with_reducible refine wpAny_madeBy_exc a ?_|wp_step)
 refine codeAny_call_builtin_code (Code.quiet_builtin _ JE.quiet) (wpAny_check_new_subT JE j.tail a ?_);refine codeAny_exc_new_subT JE j.tail a ?_ u;show wpAny _ _ _ _ _ _;generalize f:((h.push { cls:=.type "tuple",data:=.seq rest.toArray }).push { cls:=.ref C,data:=.fields #[.ref h.objs.size,.none,.none,.none,.bool false,.none] })=c
 have kp:∀b o,h.get? b=some o->c.get? b=some o:=λb o I=>by rw[←f];exact Ig _ (Ig _ I)
 have m:c.get? (h.objs.size+1)=some { cls:=.ref C,data:=.fields #[.ref h.objs.size,.none,.none,.none,.bool false,.none] }:=by rw[←f];heap_get
 have z:c.get? h.objs.size=some { cls:=.type "tuple",data:=.seq rest.toArray }:=by rw[←f];exact Ig _ (Heap.get?_push_at rfl rfl)
 have l:(Value.ref C::bm).contains (.ref C)=true:=by simp
 have p:=kp _ _ a;unfold isInstance
 repeat (first|with_reducible refine Ji m ?_|(with_reducible refine Kd p ?_;rw[l])|wp_step)
 show wpAny _ _ (typeLookup (.ref C) _) _ _ _;refine wpAny_typeLookup_tail p (B.keeps kp) (j.keeps kp).tail JE.mroIs JE.init.lookup ?_;rw[F];refine JT (HZ ?_);unfold bindSpecial;refine HZ (Me (T:="function") ⟨_,kp _ _ y,v⟩ ?_);rw[Ia (by decide)];refine Io (HZ (JF (J c (h.objs.size+1) ⟨kp,JM (MB _),h.objs.size,m,JM (Ih _),z⟩) (λr s' K=>?_) λ_ _ x=>x));obtain⟨rfl,H⟩:=K
 wp_walk
 exact H
def AJ{Q:Value->Shared->Prop}(c:ExcAt h C (some (.ref fI)))(l:h.get? fI=some oI)(j:oI.cls=.type "function")(f:rest.length<=sizeLine)
  (o:∀h' e,Heap.MadeExcOf h h' e (.ref C) rest->wpAny (model prog w) (A.under (.builtin "type.__call__" ⟨.ref C::rest,[]⟩)) (call (.ref fI) (.ref e::rest)) (λr s'=>r=.none/\Q (.ref e) s') E ⟨h',g,d,t,os⟩) :
  wpAny (model prog w) A (call (.ref C) rest) Q E ⟨h,g,d,t,os⟩:=by
 obtain⟨nm,q,N,bs,bm,sn,sub,ab,col,dd,k0,k1,k2,k3,k5,mN,a,_⟩:=id c.ex;have p:=tc_lookup;have u:=tc_bind (.ref C);have v:(⟨h,g,d,t,os⟩:Shared).TypeIs (.ref C) "type":=⟨_,a,rfl⟩;refine L5 (codeAny_of_tree ?_);show wpAny _ _ (callAny (.ref C) _) _ _ _
 repeat (any_goals (first|assumption|with_reducible refine Ji a ?_|wp_step))
 refine⟨rfl,?_⟩;refine codeAny_call_builtin_at (Code.quiet_builtin _ (by lia)) entry_typeCall (wpAny_check_type_call_sub a (Eb c l j f λh' e m=>?_));exact o h' e m
end
section
variable{P:Program}{w:World}{K:Frag}{mg:Str->Option Value}{base:Heap}{CX:cq}{k:Nat}{qual:Str}{st:Stmt}{f C t:Addr}{fd:FuncData}{i:Option Value}{p1 p2 p3 p4:Pos}
def Hk(F:Fun K "__init__" qual st f fd)(S:FnScope [("self":Str),("at":Str)] [("self":Str),("at":Str)] (ay st))(o:cw st=[.Assign [.Attribute (.Name "self" p1) "at" p2] (.Name "at" p3) p4])(g:bR (ay st) "self")(j:bR (ay st) "at")
  (r:∀env,swapsWith (.Name "at" p3) (some (.Attribute (.Name "self" p1) "at" p2)) p4.line env=pure false) (m:∀h:Heap,K.In h->ExcAt h C i):FnOk P w K mg base CX (k+1) f fd [("self":Str),("at":Str)] (oW C t):=by
 obtain⟨G,I,kV,l,J,z,x,ct,y,rfl,lk,c⟩:=F.ex;refine on lk c S (λvs H Q E a=>?_) λA outer s H vs Q E B a=>⟨rR C t,?_,?_⟩
 ·obtain⟨e,v,rfl,_⟩:=a;rfl
 ·rw[o];exact vV (AS rfl m g j (r _))
 ·obtain⟨e,v,rfl,p,u⟩:=a;exact⟨e,v,rfl,p,u⟩
end
section
variable{X:Cx}{pins:List (Addr×Obj)}{σ:St}{H:Hp}{s:Shared}{K:Frag}
noncomputable def jo(H:Hp)(e:Addr):Hp:=λb=>if b=e then none else H b
def h8{e b:Addr}(h:b≠e):jo H e b=H b:=Ib h
def wg{e:Addr}:jo H e e=none:=Ia rfl
def mD{e b:Addr}(h:H b=none):jo H e b=none:=by unfold jo;split<;>first|rfl|exact h
def Inv.drop{e:Addr}{o:Heap->Prop}(I:Inv X pins σ H s)(f:H e=some (.ext o))(r:X.s₀.heap.get? e=none):Inv X pins σ (jo H e) s where
 ok:=I.ok
 os:=I.os
 bare:=I.bare
 base:=⟨I.base.keep,I.base.slot,λb j q n m=>mD (I.base.free b j q n m),I.base.there,
  λb xs q=>by have:=I.base.tups b xs q;rw[h8 (λz=>by rw[z,f]at this;cases this)];exact this,
  λb j xs q=>by have:=I.base.frzs b j xs q;rw[h8 (λz=>by rw[z,f]at this;cases this)];exact this,
  λb ps q=>by have:=I.base.tbls b ps q;rw[h8 (λz=>by rw[z,f]at this;cases this)];exact this⟩
 loc:=I.loc
 cell:=I.cell
 free:=mD I.free
 freeC x c h:=mD (I.freeC x c h)
 pin p h:=by obtain⟨a1,a2,a3⟩:=I.pin p h;exact⟨a1,mD a2,a3⟩
 hok b u q:=by
  have l:b≠e:=λz=>by rw[z,wg]at q;cases q
  rw[h8 l]at q;exact (I.hok b u q).stay (λ_ _ _ q=>q) (λz a=>by rw[h8 (λg=>by rw[g,f]at a;cases a)];exact a) (λz xs a=>by rw[h8 (λg=>by rw[g,f]at a;cases a)];exact a) (λz j t a=>by rw[h8 (λg=>by rw[g,f]at a;cases a)];exact a)
 len:=I.len
def zF{C f:Addr}{fd:FuncData}{oI:Obj}{x:Str}{np MW pos:Pos}{arg:Expr}{ta:TD}{n:Nat}(M4:X.calm=true)(hex:X.ex=[])(hg:Gl X x)(hm:X.mg x=some (.ref C))(hC:∀h:Heap,X.K.In h->ExcAt h C (some (.ref f)))(hkp:keepIn X.K (.ref C)=true)
  (RS:X.K.lookup f=some oI) (SU:oI.cls=.type "function") (hF:∀t,FnOk X.prog X.w X.K X.mg X.base bf n f fd [("self":Str),("at":Str)] (oW C t)) (hb:Binds X.K fd [("self":Str),("at":Str)] []) (hr:Room (n+1) X.A) (ha:PD K X arg ta)
  (he:starEach [arg] X.env=(false,eval arg X.env)::starEach [] X.env) (Nr:(x==("__debug__":Str))=false:=by decide) :
  PSM K X (.Raise (some (.Call (.Name x np) [arg] [] MW)) none pos) (λR ρ=>ta (cJ ρ) λd=>jJ d/\R.ex ⟨x,some d⟩ ρ):=⟨λhK=>by
 intro pins s σ H D I MQ;obtain⟨Φ0,H0,Φ,ρ,R,g,V,t,k⟩:=MQ;rw[arm_exec_Raise];refine HZ (KP ?_);refine y9 (C:=C) (I.ok.hd M4) ?_;refine HZ ?_;refine Ki (ia I hg hm ?_ Nr);have pa:=dA (ha.pe hK) pa_nil he;refine Lu (h₀:=X.base) I.ok.mod.kin hkp (aq (pa MW pins s σ H (λvs w=>∃d l v,vs=[v]/\(jJ d/\R.ex ⟨x,some d⟩ ρ)/\Gr Φ H l w/\Rp K l d v) I ⟨_,Φ,cJ ρ,_,V.toD,t,λd l w v r N rv=>⟨d,l,v,rfl,r,N,rv⟩⟩) λus s1 NR=>?_) he ag;obtain⟨vs,w,B,r,d,l,v,rfl,⟨UZ,hx⟩,N,rv⟩:=NR;obtain⟨u,rfl,ru⟩:=gQ r;refine⟨B.kIn,?_⟩;have Z:=hC s1.heap B.kIn;obtain⟨hp,gg,dr,tk,os⟩:=s1;refine AJ Z (B.kIn _ _ RS) SU (by show 1<=sizeLine;rw[Ju];decide) λh' e F=>?_;obtain⟨E,t1,t2,t3⟩:=F.there;have I2:=B.more F.keeps;have T:w e=none:=B.hok.no F.new;have A:=B.old hex F.new
 have SW:∀p∈X.pn++pins,p.1≠e:=λp QR z=>by have:=(B.pin p QR).1;rw[z,show hp.get? e=none from F.new]at this;cases this
 have Ql:X.env.locals≠e:=λz=>by obtain⟨m,⟨o',es,ep,G,_⟩,_⟩:=B.loc;rw[z,show hp.get? e=none from F.new]at G;cases G
 have U0:∀y c,X.env.cells.lookup y=some c->c≠e:=λy c hc z=>by obtain⟨w',o',G,_⟩:=B.cell y c hc;rw[z,show hp.get? e=none from F.new]at G;cases G
 have S:=I2.knowX (o:=.ext (dJ e C E none)) A T SW Ql U0 ⟨⟨_,t1⟩,⟨_,t1⟩,λa b ⟨w',Q⟩ kk=>⟨w',kk _ Q⟩⟩;have r2:Vals [L2.V.ref e,v] [Value.ref e,u]:=.cons rfl (.cons ru .nil);have hB:=hb _ [Value.ref e,u] S.kIn rfl;rw[IW]at hB;refine L5 (KY ((hF E).run _ X.stack _ _ ⟨[Value.ref e,u],[]⟩ [Value.ref e,u] [L2.V.ref e,v] (λv' H'=>v'=.non/\∃p,aj w e (.ext (dJ e C E none)) p=none/\p≠e/\H'=aj (aj (aj w e (.ext (dJ e C E none))) p (.xd [("at",v)])) e (.ext (dJ e C E (some p)))) E0 (hr.make C [u] []) (S.env0.make C [u] []) hB r2 ⟨e,v,rfl,bg,λp O M=>⟨rfl,p,O,M,rfl⟩⟩) λres s' U=>?_)
 cases res with
 |error z=>exact U.elim
 |ok fl=>
  cases fl with
  |ret u'=>
   obtain⟨v',H',J,ru',rfl,p,O,M,rfl⟩:=S.after U;cases (show u'=Value.none from ru')
   have O4:w p=none:=by rw[aE M]at O;exact O
   obtain⟨⟨sl,Q⟩,_⟩:=(show ObjOk X.prog X.w _ s'.heap e (.ext (dJ e C E (some p)))from J.hok e _ bg);have Jd:=J.drop bg A
   have eH:jo (aj (aj (aj w e (.ext (dJ e C E none))) p (.xd [("at",v)])) e (.ext (dJ e C E (some p)))) e=aj w p (.xd [("at",v)]):=by
    funext b
    by_cases P:b=e
    ·rw[P,wg,aE (Jj M)];exact T.symm
    ·rw[h8 P,aE P];by_cases Y:b=p
     ·rw[Y,bg,bg]
     ·rw[aE Y,aE Y,aE P]
   rw[eH]at Jd;have gF:Gr l w l (aj w p (.xd [("at",v)])):=Gr.fresh N.s O4 _
   have rvf:Rp X.K (λ_=>none) d v:=by
    cases rv with
    |non=>exact .non
    |int j=>exact .int j
    |_=>exact UZ.elim
   refine⟨rfl,HZ (KP (Io ⟨e,E,some p,sl,_,rfl,hC s'.heap J.kIn,Q,?_⟩))⟩;refine k.ex ⟨x,some d⟩ ρ l _ σ _ _ pins hx (g.trans (N.trans gF)) ((V.gr N).gr gF) ⟨Jd,e,C,none,some p,rfl,⟨_,_,Q,rfl,rfl,rfl,rfl⟩,hm,⟨p,v,rfl,bg,rvf⟩,⟨A,?_,SW⟩,λT' z=>(by cases z)⟩;rw[aE (Jj M)];exact T
  |_=>exact U.elim⟩
end
section
variable{K:Frag}{h:Heap}{N C:Addr}
noncomputable def Ce(v:Value):Bool:=match v with|.str _ _=>true|_=>false
noncomputable def li(K:Frag)(N:Addr):Bool:=match K.lookup N with
 |some ⟨_,_,.dict es _,_⟩=>es.toList.all λe=>Ce e.key
 |_=>false
noncomputable def noName(K:Frag)(N:Addr)(n:Str):Bool:=match nsIn K N n with|some none=>true|_=>false
def noName.is{n:Str}(h:noName K N n=true):nsIn K N n=some none:=by
 unfold noName at h;split at h
 ·assumption
 ·cases h
def wc(X:K.In h)(e:li K N=true):∃mN,h.Ns N mN/\∀n r,nsIn K N n=some r->mN n=r:=by
 unfold li at e;split at e
 ·rename_i c d es o sl l
  have p:StrKeys es:=λf j=>by have m:=IC.mp e f (Array.mem_toList_iff.mpr j);cases q:f.key<;>rw[q]at m<;>first|exact⟨_,_,rfl⟩|cases m
  have G:h.Ns N (λn=>nsFind es n):=⟨_,es,o,X _ _ l,rfl,p,λ_=>rfl⟩;refine⟨_,G,λn r a=>?_⟩
  cases r with
  |none=>
   unfold nsIn at a;rw[l]at a;dsimp only at a;split at a
   ·cases a
   ·rename_i g;show nsFind es n=none;unfold nsFind findBy;rw[←LL,g];rfl
  |some v=>
   unfold nsIn at a;rw[l]at a;dsimp only at a;split at a
   ·rename_i f g;cases a;show nsFind es n=some f.val;unfold nsFind findBy;rw[←LL,g];rfl
   ·split at a<;>cases a
 ·cases e
noncomputable def isBmV(l:List Value):Bool:=match l with
 | [.type a,.type b,.type c,.type d]=>a == "ValueError"&&b == "Exception"&&c == "BaseException"&&d == "object"
 |_=>false
def isBmV.is{l:List Value}(h:isBmV l=true):l=jU:=by
 unfold isBmV at h;split at h
 ·rw[Iz,Iz,Iz]at h;obtain⟨⟨⟨a,c⟩,e⟩,f⟩:=h;rw[eq_of_beq a,eq_of_beq c,eq_of_beq e,eq_of_beq f]
 ·cases h
noncomputable def refOf(v:Value):Option Addr:=match v with|.ref A=>some A|_=>none
def refOf.is{v:Value}{A:Addr}(h:refOf v=some A):v=.ref A:=by cases v<;>first|(cases h;rfl)|cases h
noncomputable def tailOk(K:Frag):List Value->Bool
 | []=>false
 |v::c=>(match refOf v with
  |some A=>(match K.lookup A with
   |some ⟨_,_,.cls a,_⟩=>li K a.ns&&excNames.all (noName K a.ns)&&tailOk K c
   |_=>false)
  |none=>isBmV (v::c))
def tailOk.tail(X:K.In h):∀{l:List Value},tailOk K l=true->TailN h l
 | [],e=>by cases e
 |v::r,e=>by
  unfold tailOk at e;split at e
  ·rename_i A o;rw[refOf.is o];split at e
   ·rename_i c d p sl m;rw[Iz,Iz]at e;obtain⟨⟨a,f⟩,g⟩:=e;obtain⟨mN,G,k⟩:=wc X a;exact .own (X _ _ m) G (λn j=>k n none (noName.is (IC.mp f n j))) (tailOk.tail X g)
   ·cases e
  ·rw[isBmV.is e];exact .base
noncomputable def clsOk(K:Frag)(C:Addr):Bool:=match K.lookup C with
 |some ⟨.type t,_,.cls ⟨_,_,v::bm,N,_,hd,_,_,_,_,a⟩,⟨[_,_,_,_,some (.builtin b),_]⟩⟩=>
  t == "type"&&b == "ValueError.__new__"&&hd&&!a&&(v==.ref C)&&li K N&&(excNames.all λn=>n == "__init__" ||noName K N n)&&tailOk K bm&&(nsIn K N "__init__").isSome
 |_=>false
noncomputable def jn(K:Frag)(C:Addr):Option (Option Value):=match K.lookup C with
 |some ⟨_,_,.cls a,_⟩=>nsIn K a.ns "__init__"
 |_=>none
def clsOk.at(X:K.In h){i:Option Value}(e:clsOk K C=true)(a:jn K C=some i):ExcAt h C i:=by
 unfold clsOk at e;split at e
 ·rename_i t dd nm bs v bm N q hd sn sub ab col f k0 k1 k2 k3 b k5 g;unfold jn at a;rw[g]at a;simp only[Iz]at e;obtain⟨⟨⟨⟨⟨⟨⟨⟨l,m⟩,o⟩,p⟩,r⟩,u⟩,w⟩,x⟩,F⟩:=e;obtain⟨mN,G,k⟩:=wc X u;have y:=eq_of_beq l;have z:=eq_of_beq m;have B:=eq_of_beq r;subst y z B o
  have A:f=false:=by cases f<;>first|rfl|cases p
  subst A;refine⟨nm,q,N,bs,bm,sn,sub,ab,col,dd,k0,k1,k2,k3,k5,mN,X _ _ g,G,k _ _ a,λn E j=>?_,tailOk.tail X x⟩;have:=IC.mp w n E;rw[Mv]at this;rcases this with c|c
  ·exact absurd (eq_of_beq c) j
  ·exact k _ _ (noName.is c)
 ·cases e
def clsOk.some(e:clsOk K C=true):∃i,jn K C=some i:=by
 unfold clsOk at e;split at e
 ·rename_i t dd nm bs v bm N q hd sn sub ab col f k0 k1 k2 k3 b k5 c;simp only[Iz]at e;obtain⟨_,a⟩:=e;unfold jn;rw[c];exact Mb.mp a
 ·cases e
noncomputable def mI(K:Frag)(C:Addr):Option (List Value):=match K.lookup C with
 |some o=>(match o.data with|.cls cd=>some cd.mro|_=>none)
 |none=>none
def Dp(X:K.In h){l:List Value}(e:mI K C=some l):i5 h C=l:=by
 unfold mI at e
 cases a:K.lookup C with
 |none=>rw[a]at e;cases e
 |some o=>
  rw[a]at e;unfold i5;rw[X _ _ a];obtain⟨c,d,f,sl⟩:=o;cases f<;>first|exact IK e|cases e
noncomputable def glbRef(K:Frag)(nm:Str):Option Addr:=match nsIn K mainGlobals nm with
 |some (some v)=>refOf v
 |_=>none
def glbRef.is{nm:Str}(e:glbRef K nm=some C):nsIn K mainGlobals nm=some (some (.ref C)):=by
 unfold glbRef at e;split at e
 ·rename_i v a;rw[a,refOf.is e]
 ·cases e
noncomputable def pairOk(K:Frag)(a:Str->Str->Bool)(nm:Str)(C:Addr)(c:Str):Bool:=match glbRef K c,mI K C with
 |some D,some l=>(kitOne K (.ref C) (.ref D)==some (a nm c))&&(l.contains (.ref D)==a nm c)
 |_,_=>false
noncomputable def iq(K:Frag)(a:Str->Str->Bool)(names:List Str):Bool:=names.all λnm=>match glbRef K nm with
 |some C=>clsOk K C&&keepIn K (.ref C)&&(kitOne K (.ref C) (.type "ValueError")==some true)&&names.all (pairOk K a nm C)
 |none=>false
section
variable{Np:Str->Str->Bool}{names:List Str}{mg:Str->Option Value}
def gI(e:iq K Np names=true){nm:Str}(g:nm∈names):∃C,nsIn K mainGlobals nm=some (some (.ref C))/\clsOk K C=true/\kitOne K (.ref C) (.type "ValueError")=some true/\(∀c∈names,pairOk K Np nm C c=true)/\keepIn K (.ref C)=true:=by
 have:=IC.mp e nm g;split at this
 ·rename_i C a;rw[Iz,Iz,Iz]at this;exact⟨C,glbRef.is a,this.1.1.1,eq_of_beq this.1.2,λc f=>IC.mp this.2 c f,this.1.1.2⟩
 ·cases this
def pairOk.is{nm c:Str}(e:pairOk K Np nm C c=true):∃D l,nsIn K mainGlobals c=some (some (.ref D))/\mI K C=some l/\kitOne K (.ref C) (.ref D)=some (Np nm c)/\l.contains (.ref D)=Np nm c:=by
 unfold pairOk at e;split at e
 ·rename_i D l a f;rw[Iz]at e;exact⟨D,l,glbRef.is a,f,eq_of_beq e.1,eq_of_beq e.2⟩
 ·cases e
def wR(X:K.In h)(G:h.Ns mainGlobals mg)(e:iq K Np names=true):Exs K mg Np names where
 cls nm hn C hm h' X':=by obtain⟨g,a,f,_⟩:=gI e hn;rw[K3 X G a]at hm;cases hm;obtain⟨i,m⟩:=clsOk.some f;exact⟨i,clsOk.at X' f m⟩
 sub nm hn c hc C D hm hd h' X':=by obtain⟨g,a,f,_,j,_⟩:=gI e hn;rw[K3 X G a]at hm;cases hm;obtain⟨t,l,o,p,u,r⟩:=pairOk.is (j c hc);rw[K3 X G o]at hd;cases hd;rw[Dp X' p];exact r
 inK nm hn C hm:=by obtain⟨g,a,f,_⟩:=gI e hn;rw[K3 X G a]at hm;cases hm;exact a
def Dh(X:K.In h)(G:h.Ns mainGlobals mg)(e:iq K Np names=true):Isa K mg Np names where
 own nm hn c hc C D hm hd:=by obtain⟨f,a,g,_,m,_⟩:=gI e hn;rw[K3 X G a]at hm;cases hm;obtain⟨r,l,o,t,p,u⟩:=pairOk.is (m c hc);rw[K3 X G o]at hd;cases hd;exact p
 val nm hn C hm:=by obtain⟨f,a,g,j,_⟩:=gI e hn;rw[K3 X G a]at hm;cases hm;exact j
 mgK nm hn C hC:=K3 X G hC
def iX(X:K.In h)(G:h.Ns mainGlobals mg)(e:iq K Np names=true){nm:Str}(f:nm∈names):∃D,mg nm=some (.ref D):=by obtain⟨a,c,_⟩:=gI e f;exact⟨a,K3 X G c⟩
end
structure Rz0(K:Frag)(mg:Str->Option Value)(x:Str):Prop where
 ex:∃C,mg x=some (.ref C)/\(∀h:Heap,K.In h->ExcAt h C none)/\keepIn K (.ref C)=true/\nsIn K mainGlobals x=some (some (.ref C))
structure Rz1(P:Program)(w:World)(K:Frag)(mg:Str->Option Value)(base:Heap)(x:Str):Prop where
 ex:∃C f fd oI,mg x=some (.ref C)/\(∀h:Heap,K.In h->ExcAt h C (some (.ref f)))/\keepIn K (.ref C)=true/\K.lookup f=some oI/\oI.cls=.type "function"/\(∀t,FnOk P w K mg base bf 1 f fd [("self":Str),("at":Str)] (oW C t))/\Binds K fd [("self":Str),("at":Str)] []/\nsIn K mainGlobals x=some (some (.ref C))
noncomputable def initOf(K:Frag)(x:Str):Option (Option Value):=(glbRef K x).bind (jn K)
section
variable{Np:Str->Str->Bool}{names:List Str}{mg:Str->Option Value}{P:Program}{w:World}{base:Heap}
def initOf.is{x:Str}{i:Option Value}(a:initOf K x=some i)(c:nsIn K mainGlobals x=some (some (.ref C))):jn K C=some i:=by
 have:glbRef K x=some C:=by unfold glbRef;rw[c];rfl
 unfold initOf at a;rw[this]at a;exact a
def su(X:K.In h)(G:h.Ns mainGlobals mg)(e:iq K Np names=true){x:Str}(l:x∈names)(j:initOf K x=some none):Rz0 K mg x:=by obtain⟨C,a,f,_,_,g⟩:=gI e l;exact⟨C,K3 X G a,λh' c=>clsOk.at c f (initOf.is j a),g,a⟩
def pE{q:Str}{st:Stmt}{f:Addr}{u v y z:Pos}(X:K.In h)(G:h.Ns mainGlobals mg)(e:iq K Np names=true){x:Str}(R:x∈names)(Q:initOf K x=some (some (.ref f)))
  {m:Value} {r:Option Addr} {kV a j:Value} {g:Option Addr} {c ct:Value} {o:Array (Option Value)} (lk:K.lookup f=some ⟨m,r,.func (fnOf "__init__" q (da st) (cw st) (ay st) .none kV a j g c ct),o⟩) (B:m=.type "function") (A:codeIn K c q=true) (kp:keepIn K (.ref f)=true)
  (S:FnScope [("self":Str),("at":Str)] [("self":Str),("at":Str)] (ay st)) (O:cw st=[.Assign [.Attribute (.Name "self" u) "at" v] (.Name "at" y) z]) (E:bR (ay st) "self") (H:bR (ay st) "at")
  (T:∀env,swapsWith (.Name "at" y) (some (.Attribute (.Name "self" u) "at" v)) z.line env=pure false)
  (b:∀(kV a j:Value)(g:Option Addr)(c ct:Value)(us:List Value),us.length=2->bindArgs (fnOf "__init__" q (da st) (cw st) (ay st) .none kV a j g c ct) ⟨us,[]⟩=pure ([("self":Str),("at":Str)].zip us)):Rz1 P w K mg base x:=by
 obtain⟨C,l,J,_,_,M⟩:=gI e R;have F:Fun K "__init__" q st f _:=⟨⟨m,r,kV,a,j,g,c,ct,o,rfl,lk,A⟩,kp⟩;have p:∀h':Heap,K.In h'->ExcAt h' C (some (.ref f)):=λh' I=>clsOk.at I J (initOf.is Q l);exact⟨C,f,_,_,K3 X G l,p,M,lk,B,λt=>Hk (k:=0) F S O E H T p,F.binds b,l⟩
end
end
section
variable{K:Frag}{X:Cx}{x:Str}{np MW pos:Pos}{arg:Expr}{ta:TD}
noncomputable def FP(x:Str):bj:=λa ρ=>a.ex ⟨x,none⟩ ρ
def rE(Z:Rz0 X.K X.mg x)(c:X.calm=true)(a:X.ex=[])(h:Gl X x)(e:(x==("__debug__":Str))=false:=by decide):PSM K X (.Raise (some (.Call (.Name x np) [] [] MW)) none pos) (FP x):=by obtain⟨C,f,g,_⟩:=Z.ex;exact Fc c a h f g e
noncomputable def wB(x:Str)(ta:TD):bj:=λa ρ=>ta (cJ ρ) λd=>jJ d/\a.ex ⟨x,some d⟩ ρ
def mf(Z:Rz1 X.prog X.w X.K X.mg X.base x)(c:X.calm=true)(a:X.ex=[])(u:Gl X x)(v:Room 2 X.A)(r:PD K X arg ta)(t:starEach [arg] X.env=(false,eval arg X.env)::starEach [] X.env)(e:(x==("__debug__":Str))=false:=by decide) :
  PSM K X (.Raise (some (.Call (.Name x np) [arg] [] MW)) none pos) (wB x ta):=by
 obtain⟨C,f,w,y,g,h,j,l,m,o,p,_⟩:=Z.ex;exact zF (n:=1) c a u g h j l m o p v r t e
def md{g:List ExceptHandler}{r:XD->EndsM->ak->Prop}{c n:Str}{w:Pos}{f:Stmt}{p:List Stmt}{t:bj}{l:Str->Str->Bool}{names:List Str}(i:Nat)(u:Exs X.K X.mg l names)(m:∃o,X.mg c=some (.ref o))(B:c∈names)(C:Gl X c)(A:X.N.Nodup)(G:∀pn e,PSsM K (X.held pn e) (f::p) t)(F:PHM K X g r)
  (E:X.N[i]?=some n:=by rfl) (z:X.env.scope.names.lookup n=some .local:=by rfl) (y:X.fn n=true\/X.env.scope.names.lookup n=some .local:=by first|exact .inl rfl|exact .inr rfl) (v:(c==("__debug__":Str))=false:=by decide) :
  PHM K X (.ExceptHandler (some (.Name c np)) (some n) (f::p) w::g) (λh j ρ=>h.nm∈names/\(l h.nm c=true->t { nx:=λa=>j.nx (a.set i none),rt:=j.rt,bk:=λa=>j.bk (a.set i none),ct:=λa=>j.ct (a.set i none) } (ρ.set i (some (.v (.exc h.nm h.at_.toList)))))/\(l h.nm c=false->r h j ρ)):=by
 obtain⟨o,m⟩:=m;exact yN i u B C m A G F E z y v
end
end L2
namespace L2
open PySem PySem.Spec PyProof.Rows
section
variable{K:Frag}{H0 H Φ:Hp}{σ:St}{ρ:ak}{fp:Nat->List Addr}{o:Om}{p q:Addr}{i:Nat}
def EnvM.adr(E:EnvM K H0 Φ H σ ρ)(t:ρ[i]?=some (some (.ob none o))):∃q,EnvM K H0 Φ H σ (ρ.set i (some (.ob (some q) o))):=by
 obtain⟨fp,E⟩:=E;obtain⟨p,C,_,B⟩:=E.ow i _ _ t
 have l:∀{m:Nat}{x:Sm},(ρ.set i (some (Sm.ob (some p) o)))[m]?=some (some x)->(m=i/\x=.ob (some p) o)\/(m≠i/\ρ[m]?=some (some x)):=λ{m x} h=>by
  rcases er h with⟨e,_,r⟩|⟨e,h⟩
  ·cases r;exact .inl ⟨e,rfl⟩
  ·exact .inr ⟨e,h⟩
 have back:∀{m:Nat}{c:Option Addr}{a:Om},(ρ.set i (some (Sm.ob (some p) o)))[m]?=some (some (.ob c a))->∃g,ρ[m]?=some (some (.ob g a)):=λ{m c a} h=>by
  rcases l h with⟨j,f⟩|⟨_,f⟩
  ·cases f;exact⟨_,by rw[j];exact t⟩
  ·exact⟨_,f⟩
 refine⟨p,fp,E.fz,by rw[Im,E.len],λm d h=>?_,λm c a h=>?_,λm c a h=>?_,λm k c g a u A z=>?_,E.tb⟩
 ·rcases l h with⟨_,h⟩|⟨_,h⟩
  ·cases h
  ·exact E.sl m d h
 ·rcases l h with⟨j,f⟩|⟨_,f⟩
  ·cases f;exact⟨p,by rw[j];exact C,λq e=>by cases e;rfl,by rw[j];exact B⟩
  ·exact E.ow m c a f
 ·obtain⟨g,h'⟩:=back h;exact E.no m g a h'
 ·obtain⟨r,w⟩:=back A;obtain⟨v,y⟩:=back z;exact E.dj m k r v a u w y
def EnvM.pnt(E:EnvM K H0 Φ H σ ρ)(i:Nat)(p:Addr):EnvM K H0 Φ H (σ.set i (some (.ref p))) (ρ.set i (some (.ob (some p) .ptr))):=by
 obtain⟨fp,E⟩:=E
 have l:∀{m:Nat}{x:Sm},(ρ.set i (some (Sm.ob (some p) .ptr)))[m]?=some (some x)->(m=i/\i<ρ.length/\x=.ob (some p) .ptr)\/(m≠i/\ρ[m]?=some (some x)):=λ{m x} h=>by
  rcases er h with⟨e,B,I⟩|⟨e,h⟩
  ·cases I;exact .inl ⟨e,B,rfl⟩
  ·exact .inr ⟨e,h⟩
 refine⟨λm=>if m=i then [] else fp m,E.fz,by rw[Im,Im,E.len],λm d h=>?_,λm c w h=>?_,λm c w h x j=>?_,λm k c f w C M J G x j F=>?_,E.tb⟩
 ·rcases l h with⟨_,_,h⟩|⟨c,h⟩
  ·cases h
  ·obtain⟨v,e,r⟩:=E.sl m d h;exact⟨v,by rw[IL (Jj c)];exact e,r⟩
 ·rcases l h with⟨a,B,g⟩|⟨f,g⟩
  ·cases g;exact⟨p,by rw[a];exact IP (by rw[E.len];exact B),λq e=>by cases e;rfl,by rw[Ia a];exact .ptr⟩
  ·obtain⟨q,e,r⟩:=E.ow m c w g;exact⟨q,by rw[IL (Jj f)];exact e,by rw[Ib f];exact r⟩
 ·rcases l h with⟨a,_,g⟩|⟨f,g⟩
  ·rw[Ia a]at j;cases j
  ·rw[Ib f]at j;exact E.no m c w g x j
 ·have y:x∈(if m=i then [] else fp m):=j;have z:x∈(if k=i then [] else fp k):=F;rcases l M with⟨a,_,u⟩|⟨a,u⟩
  ·rw[Ia a]at y;cases y
  rcases l J with⟨A,_,t⟩|⟨A,t⟩
  ·rw[Ia A]at z;cases z
  rw[Ib a]at y;rw[Ib A]at z;exact E.dj m k c f w C u t G x y z
end
section
variable{K:Frag}{X:Cx}{rest:List Stmt}{t:bj}
noncomputable def CL(i:Nat)(t:bj):bj:=λa ρ=>∃o,ρ[i]?=some (some (.ob none o))/\∀q,t a (ρ.set i (some (.ob (some q) o)))
def DT(i:Nat)(h:PSsM K X rest t):PSsM K X rest (CL i t):=⟨λm=>(h.ps m).imp λE r H f=>by
 obtain⟨a,e,p,ρ,c,g,V,⟨o,l,t⟩,k⟩:=f;obtain⟨q,j⟩:=V.adr l
 exact⟨a,e,p,_,c,g,j,t q,k⟩⟩
end
noncomputable def yQ:Fl->Option D
 |.v d=>some d
 |.l xs=>some (.lst xs)
 |.al _=>none
noncomputable def eZ:List (Str×Fl)->Option (List (Str×D))
 | []=>some []
 |(f,x)::r=>match yQ x,eZ r with
  |some d,some ds=>some ((f,d)::ds)
  |_,_=>none
noncomputable def rM:Option Sm->Option Sl
 |some (.ob _ (.obj nm fs))=>(eZ fs).map λds=>.v (.obj nm ds)
 |x=>pL x
noncomputable abbrev gE(ρ:ak):bT:=ρ.map rM
noncomputable def v4:HO->Bool
 |.lst _=>true
 |.dK _=>true
 |.dT _=>true
 |.ins _ _ _=>true
 |_=>false
def CA{u:HO}(h:ng u):v4 u=true:=by cases u<;>first|rfl|exact h.elim
inductive NoL:D->Prop where
 |int (i:Int):NoL (.int i)
 |bl (b:Bool):NoL (.bl b)
 |str (x:Str):NoL (.str x)
 |non:NoL .non
 |tup {ds:List D}:(∀d∈ds,NoL d)->NoL (.tup ds)
noncomputable def eK(a H:Hp)(A:List Addr):Hp:=λb=>match a b with
 |some u=>some u
 |none=>if b∈A then H b else none
noncomputable def gS(c a:Hp):Hp:=λb=>match c b with
 |some u=>some u
 |none=>match a b with
  |some u=>if v4 u then none else some u
  |none=>none
section
variable{K:Frag}{H0 H H1 Φ Φ1:Hp}{σ:St}{ρ:ak}{fp:Nat->List Addr}{A:List Addr}{d:D}{v:V}{b:Addr}{u:HO}
def zS(h:Φ b=some u):eK Φ H A b=some u:=by unfold eK;rw[h]
def Cd(a:b∈A)(h:H b=some u)(s:Same Φ H):eK Φ H A b=some u:=by
 unfold eK
 cases e:Φ b with
 |some w=>have:=s _ _ e;rw[h]at this;cases this;rfl
 |none=>simp only;rw[Ia a];exact h
def sY(h:eK Φ H A b=some u):Φ b=some u\/(b∈A/\H b=some u):=by
 unfold eK at h
 cases e:Φ b with
 |some w=>rw[e]at h;exact .inl h
 |none=>
  rw[e]at h;simp only at h;split at h
  ·next c=>exact .inr ⟨c,h⟩
  ·cases h
def view_same:Same Φ (eK Φ H A):=λ_ _ h=>zS h
def xw(s:Same Φ H):Same (eK Φ H A) H:=λb u h=>(sY h).elim (s b u) (·.2)
def xi(h:Φ b=some u):gS Φ Φ1 b=some u:=by unfold gS;rw[h]
def FF{vs:List V}(s:Same Φ Φ1)(h:Φ1 b=some (.tup vs)):gS Φ Φ1 b=some (.tup vs):=by
 unfold gS
 cases e:Φ b with
 |some w=>have:=s _ _ e;rw[h]at this;cases this;rfl
 |none=>simp only;rw[h];rfl
def qg(s:Same Φ H)(g:Gr (eK Φ H A) H Φ1 H1):Gr Φ H (gS Φ Φ1) H1:=by
 refine⟨λb u e=>xi e,g.h,λb u e=>?_,λp u j h k=>?_⟩
 ·unfold gS at e
  cases c:Φ b with
  |some w=>rw[c]at e;cases e;exact g.h _ _ (s _ _ c)
  |none=>
   rw[c]at e;simp only at e
   cases a:Φ1 b with
   |none=>rw[a]at e;cases e
   |some w=>
    rw[a]at e;simp only at e;split at e
    ·cases e
    ·cases e;exact g.s _ _ a
 ·unfold gS;rw[h];simp only
  cases a:Φ1 p with
  |none=>rfl
  |some w=>
   have f:=g.s _ _ a;rw[g.h _ _ j]at f;cases f;simp only;rw[Ia (CA k)]
def Rp.thawN(s:Same Φ Φ1)(f:NoL d)(r:Rp K Φ1 d v):Rp K (gS Φ Φ1) d v:=by
 induction f generalizing v with
 |int i=>obtain rfl:=r.i;exact .int i
 |bl b=>obtain rfl:=r.b;exact .bl b
 |str x=>obtain rfl:=r.s;exact .str x
 |non=>obtain rfl:=r.n;exact .non
 |tup _ h=>
  cases r with
  |tup a c e=>exact .tup (FF s a) c λi v d g hd=>h d (IA hd) (e i v d g hd)
noncomputable def nC:Option (Option Sm)->Bool
 |some (some (.ob _ (.obj _ _)))=>true
 |_=>false
noncomputable def gL(fp:Nat->List Addr)(ρ:ak):List Addr:=(List.range ρ.length).flatMap λi=>if nC (ρ[i]?) then fp i else []
def zT{i:Nat}{a:Option Addr}{nm:Str}{fs:List (Str×Fl)}(h:ρ[i]?=some (some (.ob a (.obj nm fs))))(c:b∈fp i):b∈gL fp ρ:=by unfold gL;refine List.mem_flatMap.mpr ⟨i,JO.mpr (ba h),?_⟩;rw[h,Ia (show nC (some (some (Sm.ob a (Om.obj nm fs))))=true from rfl)];exact c
def DA(h:b∈gL fp ρ):∃i a nm fs,ρ[i]?=some (some (.ob a (.obj nm fs)))/\b∈fp i:=by
 unfold gL at h;obtain⟨i,_,h⟩:=List.mem_flatMap.mp h;by_cases c:nC (ρ[i]?)=true
 ·rw[Ia c]at h;unfold nC at c;split at c
  ·next a nm fs e=>exact⟨i,a,nm,fs,e,h⟩
  ·cases c
 ·rw[Ib c]at h;cases h
def wO{fs:List (Str×Fl)}{ds:List (Str×D)}{vs:List (Str×V)}{z:List Addr}(a:eZ fs=some ds)(h:FlsR K Φ H fs vs z)(y:Same Φ Φ1)(t:∀b∈z,∀u,H b=some u->Φ1 b=some u) :
  vs.map (·.1)=ds.map (·.1)/\∀(i:Nat)(v:Str×V)(d:Str×D),vs[i]?=some v->ds[i]?=some d->Rp K Φ1 d.2 v.2:=by
 induction h generalizing ds with
 |nil=>cases a;exact⟨rfl,λi v d g=>by simp at g⟩
 |v r _ j=>
  rename_i f m F c w x _;have a:(match some m,eZ c with|some d,some ds=>some ((f,d)::ds)|_,_=>none)=some ds:=a
  cases e:eZ c with
  |none=>rw[e]at a;cases a
  |some es=>
   rw[e]at a;cases a;obtain⟨o,p⟩:=j e t;refine⟨by rw[IE,IE,o],λi v d g hd=>?_⟩
   cases i with
   |zero=>cases g;cases hd;exact r.same y
   |succ i=>exact p i v d g hd
 |l o p _ j=>
  rename_i f m G E c w x _;have a:(match some (D.lst m),eZ c with|some d,some ds=>some ((f,d)::ds)|_,_=>none)=some ds:=a
  cases e:eZ c with
  |none=>rw[e]at a;cases a
  |some es=>
   rw[e]at a;cases a;obtain⟨k1,k2⟩:=j e λb B=>t b (Ic _ B);refine⟨by rw[IE,IE,k1],λi v d g hd=>?_⟩
   cases i with
   |zero=>
    cases g;cases hd;have r:=p.same y;exact .lst (t _ Ie _ o) r.1 r.2
   |succ i=>exact k2 i v d g hd
 |al _ j=>
  rename_i f C c w x _;have a:(match (none:Option D),eZ c with|some d,some ds=>some ((f,d)::ds)|_,_=>none)=some ds:=a;cases a
def EnvM'.view(E:EnvM' K H0 Φ H σ ρ fp):EnvD K H0 (eK Φ H (gL fp ρ)) H σ (gE ρ):=by
 have G:Same Φ (eK Φ H (gL fp ρ)):=view_same
 have at_:∀{i:Nat}{x:Sl},(gE ρ)[i]?=some (some x)->∃y,ρ[i]?=some (some y)/\rM (some y)=some x:=λ{i x} h=>by
  rw[Ii]at h
  cases e:ρ[i]? with
  |none=>rw[e]at h;cases h
  |some y=>
   rw[e]at h
   cases y with
   |none=>cases h
   |some y=>exact⟨y,rfl,IK h⟩
 have ow:∀{i:Nat}{o:Ow},(gE ρ)[i]?=some (some (.ob o))->∃a f p u,ρ[i]?=some (some (.ob a f))/\(∀nm fs,f≠.obj nm fs)/\σ[i]?=some (some (.ref p))/\p∈fp i/\H p=some u/\OwR K Φ o u:=λ{i o} h=>by
  obtain⟨y,m,e⟩:=at_ h
  cases y with
  |v d=>cases e
  |ob a f=>
   obtain⟨p,t,_,r⟩:=E.ow i a f m;refine⟨a,f,p,?_⟩
   cases f with
   |lst ds=>obtain⟨_,vs,g,l⟩:=r.lst_inv;cases e;exact⟨_,m,(λ_ _ z=>by cases z),t,r.mem,g,l⟩
   |map Q=>obtain⟨_,vs,g,l⟩:=r.map_inv;cases e;exact⟨_,m,(λ_ _ z=>by cases z),t,r.mem,g,ku l⟩
   |mpT Q=>obtain⟨_,vs,g,l⟩:=r.mpT_inv;cases e;exact⟨_,m,(λ_ _ z=>by cases z),t,r.mem,g,ku l⟩
   |obj nm fs=>
    have e:(eZ fs).map (λds=>Sl.v (.obj nm ds))=some (.ob o):=e
    cases B:eZ fs with
    |none=>rw[B]at e;cases e
    |some ds=>rw[B]at e;cases e
   |ptr=>cases e
   |tl ps=>cases e
   |pr _ _=>cases e
 refine⟨xw E.fz,by rw[HV,E.len],λi d h=>?_,λi o h=>?_,λi j o w p hi hj si sj=>?_,E.tb.same G⟩
 ·obtain⟨y,m,e⟩:=at_ h
  cases y with
  |v d'=>cases e;obtain⟨v,t,r⟩:=E.sl i d m;exact⟨v,t,r.same G⟩
  |ob a f=>
   cases f with
   |obj nm fs=>
    have e:(eZ fs).map (λds=>Sl.v (.obj nm ds))=some (.v d):=e
    cases B:eZ fs with
    |none=>rw[B]at e;cases e
    |some ds=>
     rw[B]at e;cases e;obtain⟨p,t,_,r⟩:=E.ow i a _ m;obtain⟨C,dx,vs,qs,O,U,X,Y,_⟩:=r.obj_inv;have N:∀b∈fp i,∀u,H b=some u->eK Φ H (gL fp ρ) b=some u:=λb M u hu=>Cd (zT m M) hu E.fz;obtain⟨k1,k2⟩:=wO B Y G λb M=>N b (by rw[O];exact Ic _ M);exact⟨.ref p,t,.obj U (N p (by rw[O];exact Ie) _ X) k1 k2⟩
   |_=>cases e
 ·obtain⟨a,f,p,u,g,R,l,F,Z,J⟩:=ow h;have P:=E.no i a f g p F;refine⟨p,u,l,P.1,?_,Z,?_⟩
  ·cases e:eK Φ H (gL fp ρ) p with
   |none=>rfl
   |some w=>
    rcases sY e with z|⟨z,_⟩
    ·rw[P.2]at z;cases z
    ·obtain⟨j,I,nm,fs,k1,k2⟩:=DA z
     have S:i≠j:=λc=>by subst c;rw[g]at k1;cases k1;exact R _ _ rfl
     exact absurd k2 (E.dj i j a I f _ g k1 S p F)
  ·cases o with
   |lst ds=>cases u with
    |lst vs=>exact RpL.same G J
    |_=>exact J.elim
   |_=>cases u<;>exact J
 ·obtain⟨a,f,p1,u,g,_,l,F,_,_⟩:=ow hi;obtain⟨I,T,p2,u',k1,_,k2,k3,_,_⟩:=ow hj;rw[si]at l;cases l;rw[sj]at k2;cases k2;rcases KC (i=j)with c|c
  ·exact c
  ·exact absurd k3 (E.dj i j a I f T g k1 c p F)
end
section
variable{K:Frag}{X:Cx}{e:Expr}
noncomputable def yI(t:TD):TX:=λρ R _=>t (gE ρ) λd=>NoL d/\R (.v d) ρ
def pN{t:TD}(h:PD K X e t):PX K X e (yI t):=⟨λj=>(h.pe j).imp λy H Q f=>by
 obtain⟨m,a,w,z,ρ,x,R,p,S,t,k⟩:=f;obtain⟨u,E⟩:=S.env;refine⟨a,_,gE ρ,_,E.view,t,λd o c v r g l=>?_⟩;have g':=qg E.fz g
 exact k _ ρ _ c v r.2 ((S.gr g').pushV (l.thawN (view_same.trans g.f) r.1)) g'.f⟩
noncomputable def GI(t:bL):c9:=λρ R _=>t (gE ρ) λb=>R b ρ
def yZ{t:bL}(h:PTD K X e t):PXB K X e (GI t):=⟨λj=>(h.pt j).imp λw H Q f=>by
 obtain⟨l,a,u,x,ρ,v,R,o,S,t,k⟩:=f;obtain⟨p,E⟩:=S.env;refine⟨a,_,gE ρ,_,E.view,t,λb m c r g=>?_⟩;have g':=qg E.fz g
 exact k b ρ _ c r (S.gr g') g'.f⟩
end
noncomputable def eX(f:Str)(x:Fl):List (Str×Fl)->List (Str×Fl)
 | []=>[(f,x)]
 |(g,y)::r=>if g=f then (g,x)::r else (g,y)::eX f x r
section
variable{K:Frag}{Φ H H':Hp}{fs:List (Str×Fl)}{vs:List (Str×V)}{qs:List Addr}{f:Str}{ds es:List D}{ws:List V}{d:D}{v:V}
def FlsR.look(h:FlsR K Φ H fs vs qs)(nd:qs.Nodup)(a:fs.lookup f=some (.l ds)):∃q ws,vs.lookup f=some (.ref q)/\q∈qs/\H q=some (.lst ws)/\RpL K Φ ds ws /\
  ∀(H':Hp)(es:List D)(j:List V),(∀b∈qs,b≠q->∀u,H b=some u->H' b=some u)->H' q=some (.lst j)->RpL K Φ es j->FlsR K Φ H' (eX f (.l es) fs) vs qs:=by
 induction h with
 |nil=>cases a
 |v r t y=>
  rename_i g G N B C E;rw[IG]at a
  cases c:f==g with
  |true=>rw[c]at a;cases a
  |false=>
   rw[c]at a;obtain⟨q,ws,o,m,p,w,x⟩:=y nd a;refine⟨q,ws,by rw[IG,c];exact o,m,p,w,λH' es j k1 k2 k3=>?_⟩;show FlsR K Φ H' (if g=f then _ else _) _ _;rw[Ib λe=>by rw[e,Jf]at c;cases c];exact .v r (x H' es j k1 k2 k3)
 |l a1 a2 t y=>
  rename_i g G J F B C E;rw[IS]at nd;rw[IG]at a
  cases c:f==g with
  |true=>
   rw[c]at a;cases a;refine⟨F,J,by rw[IG,c],Ie,a1,a2,λH' es j k1 k2 k3=>?_⟩;show FlsR K Φ H' (if g=f then _ else _) _ _;rw[Ia (eq_of_beq c).symm];exact .l k2 k3 (t.keep (Same.refl _) λb A u I=>k1 b (Ic _ A) (λz=>nd.1 (z▸A)) u I)
  |false=>
   rw[c]at a;obtain⟨q,ws,o,m,p,w,x⟩:=y nd.2 a;refine⟨q,ws,by rw[IG,c];exact o,Ic _ m,p,w,λH' es j k1 k2 k3=>?_⟩;show FlsR K Φ H' (if g=f then _ else _) _ _;rw[Ib λe=>by rw[e,Jf]at c;cases c];exact .l (k1 F Ie (λz=>nd.1 (z▸m)) _ a1) a2 (x H' es j (λb A=>k1 b (Ic _ A)) k2 k3)
 |al t y=>
  rename_i g M B C E;rw[IG]at a
  cases c:f==g with
  |true=>rw[c]at a;cases a
  |false=>
   rw[c]at a;obtain⟨q,ws,o,m,p,w,x⟩:=y nd a;refine⟨q,ws,by rw[IG,c];exact o,m,p,w,λH' es j k1 k2 k3=>?_⟩;show FlsR K Φ H' (if g=f then _ else _) _ _;rw[Ib λe=>by rw[e,Jf]at c;cases c];exact .al (x H' es j k1 k2 k3)
noncomputable def ib(f:Str)(fs:List (Str×Fl)):Bool:=match fs.lookup f with
 |none=>true
 |some (.v _)=>true
 |_=>false
def FlsR.setV(h:FlsR K Φ H fs vs qs)(a:ib f fs=true)(r:Rp K Φ d v):FlsR K Φ H (eX f (.v d) fs) (cg f v vs) qs:=by
 induction h with
 |nil=>exact .v r .nil
 |v u t e=>
  rename_i g p y j m o;show FlsR K Φ H (if g=f then _ else _) (if g=f then _ else _) _;by_cases c:g=f
  ·rw[Ia c,Ia c];exact .v r t
  ·rw[Ib c,Ib c];refine .v u (e ?_);unfold ib at a ⊢;rw[IG,show (f==g)=false from Mx λz=>c z.symm]at a;exact a
 |l a1 a2 t e=>
  rename_i g p A x j m o;show FlsR K Φ H (if g=f then _ else _) (if g=f then _ else _) _;by_cases c:g=f
  ·subst c;unfold ib at a;rw[IG,Jf]at a;cases a
  ·rw[Ib c,Ib c];refine .l a1 a2 (e ?_);unfold ib at a ⊢;rw[IG,show (f==g)=false from Mx λz=>c z.symm]at a;exact a
 |al t e=>
  rename_i g w j m o;show FlsR K Φ H (if g=f then _ else _) (if g=f then _ else _) _;by_cases c:g=f
  ·subst c;unfold ib at a;rw[IG,Jf]at a;cases a
  ·rw[Ib c,Ib c];refine .al (e ?_);unfold ib at a ⊢;rw[IG,show (f==g)=false from Mx λz=>c z.symm]at a;exact a
def FlsR.setL{q:Addr}(h:FlsR K Φ H fs vs qs)(a:fs.lookup f=none)(w:H q=some (.lst ws))(r:RpL K Φ ds ws):FlsR K Φ H (eX f (.l ds) fs) (cg f (.ref q) vs) (qs++[q]):=by
 have tail:∀{g:Str}{y:Fl}{r:List (Str×Fl)},List.lookup f ((g,y)::r)=none->g≠f/\r.lookup f=none:=λ{g y r} e=>by
  rw[IG]at e
  cases c:f==g with
  |true=>rw[c]at e;cases e
  |false=>rw[c]at e;exact⟨(λz=>by rw[z,Jf]at c;cases c),e⟩
 induction h with
 |nil=>exact .l w r .nil
 |v x t j=>
  rename_i g u C m o p;obtain⟨c,a⟩:=tail a;show FlsR K Φ H (if g=f then _ else _) (if g=f then _ else _) _;rw[Ib c,Ib c];exact .v x (j a)
 |l a1 a2 t j=>
  rename_i g u E B m o p;obtain⟨c,a⟩:=tail a;show FlsR K Φ H (if g=f then _ else _) (if g=f then _ else _) _;rw[Ib c,Ib c];exact .l a1 a2 (j a)
 |al t j=>
  rename_i g A m o p;obtain⟨c,a⟩:=tail a;show FlsR K Φ H (if g=f then _ else _) (if g=f then _ else _) _;rw[Ib c,Ib c];exact .al (j a)
def FlsR.len(h:FlsR K Φ H fs vs qs):vs.length=fs.length:=by have:=JD List.length h.names;rwa [HV,HV]at this
end
section
variable{K:Frag}{X:Cx}{Φ0 H0 Φ H:Hp}{σ τ:St}{ρ κ:ak}{Rx:XD->ak->Prop}{a:Option Addr}{nm f:Str}{fs:List (Str×Fl)}{ds:List D}{i:Nat}{C:Addr}
def EnvM.flist(E:EnvM K H0 Φ H σ ρ)(g:Gr Φ0 H0 Φ H)(x:nsIn K mainGlobals nm=some (some (.ref C)))(j:ρ[i]?=some (some (.ob a (.obj nm fs))))(J:fs.lookup f=some (.l ds)):∃p h vs q ws,σ[i]?=some (some (.ref p))/\H p=some (.ins C h vs)/\vs.lookup f=some (.ref q)/\H q=some (.lst ws)/\RpL K Φ ds ws /\
  ∀(es:List D)(c:List V),RpL K Φ es c->EnvM K H0 Φ (aj H q (.lst c)) σ (ρ.set i (some (.ob a (.obj nm (eX f (.l es) fs)))))/\Gr Φ0 H0 Φ (aj H q (.lst c)):=by
 obtain⟨w,E⟩:=E;obtain⟨p,e,_,r⟩:=E.ow i a _ j;obtain⟨T,h,vs,S,v,o,t,I,nd⟩:=r.obj_inv;rw[x]at o;cases o;rw[IS]at nd;obtain⟨q,ws,O,B,P,Q,R⟩:=I.look nd.2 J
 have m:q∈w i:=by rw[v];exact Ic _ B
 have l:p≠q:=λz=>nd.1 (z▸B);refine⟨p,h,vs,q,ws,e,t,O,P,Q,λes c G=>?_⟩
 have y:∀b u,H b=some u->b∉w i->aj H q (.lst c) b=some u:=λb u e M=>by
  rw[aE λz=>M (by rw[z];exact m)];exact e
 refine⟨⟨_,E.put j e y (F':=p::S) (.obj x ((aE l).trans t) (R _ es c (λb A F u N=>by rw[aE F];exact N) bg G) (IS.mpr nd)) λb A=>.inl (by rw[v];exact A)⟩,E.grput g j y⟩
def StM.flist(S:StM K X Φ0 H0 Φ H σ τ ρ κ Rx)(w:nsIn K mainGlobals nm=some (some (.ref C)))(j:ρ[i]?=some (some (.ob a (.obj nm fs))))(x:fs.lookup f=some (.l ds)):∃p h vs q ws,σ[i]?=some (some (.ref p))/\H p=some (.ins C h vs)/\vs.lookup f=some (.ref q)/\H q=some (.lst ws)/\RpL K Φ ds ws /\
  ∀(es:List D)(c:List V),RpL K Φ es c->StM K X Φ0 H0 Φ (aj H q (.lst c)) σ τ (ρ.set i (some (.ob a (.obj nm (eX f (.l es) fs))))) κ Rx:=by
 have g:=ba j;obtain⟨p,h,vs,q,ws,e,m,o,t,u,v⟩:=S.E.flist (i:=i) S.g w (by rw[HW g];exact j) x;rw[HW (by rw[←S.l];exact g)]at e;refine⟨p,h,vs,q,ws,e,m,o,t,u,λes c r=>?_⟩;obtain⟨l,y⟩:=v es c r;refine⟨y,by rw[Im];exact S.l,?_,S.x⟩;rw[List.set_append_left _ _ g]at l;exact l
def EnvM.fsetV{d:D}{v:V}(E:EnvM K H0 Φ H σ ρ)(g:Gr Φ0 H0 Φ H)(x:nsIn K mainGlobals nm=some (some (.ref C)))(j:ρ[i]?=some (some (.ob a (.obj nm fs))))(F:ib f fs=true)(r:Rp K Φ d v):∃p c vs,σ[i]?=some (some (.ref p))/\H p=some (.ins C c vs)/\vs.length=fs.length /\
  EnvM K H0 Φ (aj H p (.ins C c (cg f v vs))) σ (ρ.set i (some (.ob a (.obj nm (eX f (.v d) fs)))))/\Gr Φ0 H0 Φ (aj H p (.ins C c (cg f v vs))):=by
 obtain⟨w,E⟩:=E;obtain⟨p,e,_,ro⟩:=E.ow i a _ j;obtain⟨M,c,vs,J,t,m,B,o,nd⟩:=ro.obj_inv;rw[x]at m;cases m
 have A:p∈w i:=by rw[t];exact Ie
 have y:∀b u,H b=some u->b∉w i->aj H p (.ins C c (cg f v vs)) b=some u:=λb u e G=>by
  rw[aE λz=>G (by rw[z];exact A)];exact e
 have l:=nd;rw[IS]at l;refine⟨p,c,vs,e,B,o.len,⟨_,E.put j e y (F':=p::J) (.obj x bg ((o.setV F r).keep (Same.refl _) λb h u I=>by rw[aE (show b≠p from λz=>l.1 (by rw[←z];exact h))];exact I) nd) λb h=>.inl (by rw[t];exact h)⟩,E.grput g j y⟩
end
noncomputable def tH(ρ:ak)(i:Nat)(nm f:Str)(k:Option Addr->List (Str×Fl)->List D->Prop):Prop:=∃a fs ds,ρ[i]?=some (some (.ob a (.obj nm fs)))/\fs.lookup f=some (.l ds)/\k a fs ds
section
variable{K:Frag}{X:Cx}{e a:Expr}{te:TX}{t:TD}{pos MV apos MW NS:Pos}{x nm f:Str}{C:Addr}
noncomputable def w4(i:Nat)(nm f:Str)(t:TD):bj:=λc ρ=>tH ρ i nm f λa fs ds=>t (gE ρ) λd=>NoL d/\ds.length<sizeLine/\NF (eX f (.l (ds++[d])) fs) λg=>c.nx (ρ.set i (some (.ob a (.obj nm g))))
def ES(i:Nat)(c:Cls K C)(nA:NoAttr K C f)(B:nsIn K mainGlobals nm=some (some (.ref C)))(he:PD K X e t)(R:((backTo MW (starEach [e] X.env)).all (λx=>!x.1)&&(backToKw MW (keywordEach [] X.env)).all (λx=>x.1.isSome)&&decide (([e]:List Expr).length+([]:List Keyword).length+(if ([]:List Keyword).isEmpty then 0 else 1)<30))=true)
  (o:starEach [e] X.env=(false,eval e X.env)::starEach [] X.env) (hN:X.N[i]?=some x:=by rfl) (hv:bR X.env.scope x:=by nofun) (hd:(x==("__debug__":Str))=false:=by decide) (P:(x==("__classdict__":Str))=false:=by decide)
  (U:attributeBase (.Name x MV) f X.env (eval (.Name x MV) X.env)=eval (.Name x MV) X.env:=by rfl)
  (M:attributeBase (.Attribute (.Name x MV) f NS) "append" X.env (eval (.Attribute (.Name x MV) f NS) X.env)=eval (.Attribute (.Name x MV) f NS) X.env:=by rfl) (N:(apos.endLine==MW.line)=true:=by rfl) (hs:swapsWith (.Call (.Attribute (.Attribute (.Name x MV) f NS) "append" apos) [e] [] MW) none pos.line X.env=pure false:=by rfl) :
  PSM K X (.Expr (.Call (.Attribute (.Attribute (.Name x MV) f NS) "append" apos) [e] [] MW) pos) (w4 i nm f t):=
 ⟨λF=>(nI (hG JW Ml Mm qO (oO F (pv i hN hv hd P) U) (dA (he.pe F) pa_nil o) M R N o ag) hs).imp λE σ H O=>by
  obtain⟨Φ0,J,Φ,ρ,De,g,V,⟨a0,OU,Z,I,G,t⟩,k⟩:=O;have S:=ed g V k.ex;obtain⟨p,dx,vs,q,ws,y,z,A,h3,rl,_⟩:=S.flist B I G;obtain⟨fp,E0⟩:=id V;refine⟨_,y,p,C,dx,vs,.ref q,rfl,z,c,nA,A,.inl ⟨rfl,ws,SqL.of h3⟩,J,_,gE ρ,_,E0.view,t,λd Φ1 H1 v r m rv=>?_⟩;have T:=S.gr (qg E0.fz m);obtain⟨p',dx',vs',q',Q,h,u,j,Y,l,k1⟩:=T.flist B I G;rw[y]at h;cases h;rw[m.h _ _ z]at u;cases u;rw[A]at j;cases j;have w:=k1 _ _ (l.append (.one (rv.thawN (view_same.trans m.f) r.1)))
  exact⟨q,Q,v,rfl,rfl,Y,by rw[l.1];exact r.2.1,k.nx _ _ _ σ r.2.2.get w.g w.env⟩⟩
noncomputable def Bq(i:Nat)(nm f:Str):TX:=λρ R _=>tH ρ i nm f λa fs ds=>∃d,ds[ds.length-1]?=some d/\NF (eX f (.l ds.dropLast) fs) λc=>R (.v d) (ρ.set i (some (.ob a (.obj nm c))))
def zc(i:Nat)(c:Cls K C)(N:NoAttr K C f)(F:nsIn K mainGlobals nm=some (some (.ref C)))(I:X.N[i]?=some x:=by rfl)(g:bR X.env.scope x:=by nofun)(hd:(x==("__debug__":Str))=false:=by decide)(o:(x==("__classdict__":Str))=false:=by decide)
  (u:attributeBase (.Name x MV) f X.env (eval (.Name x MV) X.env)=eval (.Name x MV) X.env:=by rfl)
  (j:attributeBase (.Attribute (.Name x MV) f NS) "pop" X.env (eval (.Attribute (.Name x MV) f NS) X.env)=eval (.Attribute (.Name x MV) f NS) X.env:=by rfl) (l:(apos.endLine==MW.line)=true:=by rfl):PX K X (.Call (.Attribute (.Attribute (.Name x MV) f NS) "pop" apos) [] [] MW) (Bq i nm f):=
 ⟨λG=>(vi JW Lm Lo tW (oO G (pv i I g hd o) u) j l).imp λσ H Q m=>by
  obtain⟨T,U,P,τ,ρ,κ,R,Z,S,⟨a0,Y,y,M,J,d,w,t⟩,k⟩:=m;obtain⟨p,z,vs,q,ws,A,B,E,h,rl,k1⟩:=S.flist F M J;obtain⟨v,g,O⟩:=rl.at w;rw[←rl.1]at g;have r:=k1 _ _ rl.dropLast
  exact⟨_,A,p,C,z,vs,.ref q,rfl,B,c,N,E,.inl ⟨rfl,ws,SqL.of h⟩,q,ws,v,rfl,rfl,h,g,k _ _ P _ v t.get (r.pushV O) (Same.refl _)⟩⟩
noncomputable def Gu(i:Nat)(nm f:Str)(te:TX):bj:=λg ρ=>te ρ (xV λd c=>∃a fs,c[i]?=some (some (.ob a (.obj nm fs)))/\ib f fs=true/\fs.length<1000/\NF (eX f (.v d) fs) λh=>g.nx (c.set i (some (.ob a (.obj nm h))))) g.ex
def oz(i:Nat)(c:Cls K C)(S:NoAttr K C f)(I:nsIn K mainGlobals nm=some (some (.ref C)))(N:PX K X e te)(J:X.N[i]?=some x:=by rfl)(R:bR X.env.scope x:=by nofun)(hd:(x==("__debug__":Str))=false:=by decide)(z:(x==("__classdict__":Str))=false:=by decide)
  (Q:swapsWith e (some (.Attribute (.Name x MV) f NS)) pos.line X.env=pure false:=by rfl):PSM K X (.Assign [.Attribute (.Name x MV) f NS] e pos) (Gu i nm f te):=
 ⟨λj=>(ub (f:=f) (pv i J R hd z) (N.pe j) Q).imp λE Y H y=>by
  obtain⟨l,w,T,ρ,o,g,V,t,k⟩:=y;refine⟨l,w,T,[],ρ,[],_,o.ex,ed g V k.ex,t,λs U m Z v r h _=>?_⟩;obtain⟨d,rfl,a0,OU,P,M,O,r⟩:=r.get;obtain⟨p,A,vs,B,F,G,u,g'⟩:=h.env.fsetV (f:=f) h.g I P M h.last
  exact⟨_,B,p,C,A,vs,rfl,F,j▸c,j▸S,by rw[G];exact O,k.nx _ m _ Y r.get g' u⟩⟩
end
def FlsR.lookN{K:Frag}{p H:Hp}{fs:List (Str×Fl)}{vs:List (Str×V)}{o:List Addr}{f:Str}(h:FlsR K p H fs vs o)(a:fs.lookup f=none):vs.lookup f=none:=by
 have tail:∀{m:Type}{g:Str}{y:m}{r:List (Str×m)},List.lookup f ((g,y)::r)=none->(f==g)=false/\r.lookup f=none:=λ{m g y r} e=>by
  rw[IG]at e
  cases c:f==g with
  |true=>rw[c]at e;cases e
  |false=>rw[c]at e;exact⟨rfl,e⟩
 induction h with
 |nil=>rfl
 |v r t j=>obtain⟨c,a⟩:=tail a;rw[IG,c];exact j a
 |l a1 a2 t j=>obtain⟨c,a⟩:=tail a;rw[IG,c];exact j a
 |al t j=>obtain⟨c,a⟩:=tail a;rw[IG,c];exact j a
structure MthM(P:Program)(w:World)(K:Frag)(mg:Str->Option Value)(base:Heap)(n:Nat)(C:Addr)(m:Str)(ps:List Str)(z:bU):Prop where
 ex:∃(f:Addr)(fd:FuncData),FnOk P w K mg base bf n f fd ps (bu K z)/\Binds K fd ps []/\Meth K C m f
structure MkM(P:Program)(w:World)(K:Frag)(mg:Str->Option Value)(base:Heap)(n:Nat)(C:Addr)(ps:List Str)(z:bU):Prop where
 ex:∃(f:Addr)(fd:FuncData),FnOk P w K mg base bf n f fd ps (bu K z)/\Binds K fd ps []/\Mk K C f
section
variable{K:Frag}{X:Cx}{e:Expr}{es:List Expr}{pos apos MV:Pos}{tA:ca}{C:Addr}{nm m x:Str}
noncomputable def pp(i:Nat)(nm m:Str)(z:bU)(tA:ca):TX:=λρ R g=>(∃a fs,ρ[i]?=some (some (.ob a (.obj nm fs)))/\fs.lookup m=none)/\tA ρ (λas c=>∃f,du c (.s i::as)=some f/\mE (.s i::as)=true/\z f (λh os=>R h (aG c (.s i::as) os)) (λj os=>g j (aG c (.s i::as) os))) g
def Ag(i:Nat){n:Nat}{ps:List Str}{z:bU}{pl:Sem Bool}(M:MthM X.prog X.w K X.mg X.base n C m ps z)(hr:Room n X.A)(c:Cls K C)(hC:nsIn K mainGlobals nm=some (some (.ref C)))
  (ha:PXA K X (e::es) tA) (he:starEach (e::es) X.env=(false,eval e X.env)::starEach es X.env) (Z:(backTo pos (starEach es X.env)).any (·.1)=false)
  (ht:eval (.Call (.Attribute (.Name x MV) m apos) (e::es) [] pos) X.env=(do
   let ov ←eval (.Name x MV) X.env
   standAt apos.atName
   let (f,first) ←holding [ov] (getMethod ov m pl)
   callWith pos f first (backTo pos (starEach (e::es) X.env)) (backToKw pos (keywordEach [] X.env))):=by rfl)
  (hN:X.N[i]?=some x:=by rfl) (o:bR X.env.scope x:=by nofun) (hd:(x==("__debug__":Str))=false:=by decide) (T:(x==("__classdict__":Str))=false:=by decide) :
  PX K X (.Call (.Attribute (.Name x MV) m apos) (e::es) [] pos) (pp i nm m z tA):=⟨λg=>by
 obtain⟨f,fd,F,b,hm⟩:=M.ex;refine (EI (dvs:=[]) (ds:=[]) (E:=E0) (pl:=pl) (pv i hN o hd T) (g▸c) (g▸hm) (g▸F:FnOk X.prog X.w X.K X.mg X.base bf n f fd ps (bu K z)) hr (g▸b) .nil nM (ha.pa g) he Z ht).imp λσ H Q P=>?_;obtain⟨u,N,Φ,τ,ρ,κ,R,Rx,S,⟨⟨a,fs,l,G⟩,t⟩,k⟩:=P;obtain⟨fp,E⟩:=S.env;obtain⟨q,B,_,ro⟩:=E.ow i a _ l;obtain⟨C',dx,vs,qs,eF,A,c2,c3,nd⟩:=ro.obj_inv;rw[hC]at A;cases A;refine⟨_,B,q,dx,vs,rfl,c2,c3.lookN G,u,N,Φ,τ,ρ,κ,_,Rx,S,t,λas ρ1 w H1 us ts p G o j f1=>?_⟩;obtain⟨Y,OC,Rk,p⟩:=p;obtain⟨J,g1,g2,g3,g4⟩:=j.lend (as:=.s i::as) S.lk OC (.s B o) Rk;rw[IW]
 exact⟨w,Y,J,_,_,j.g.s,j.E.tb,g1,g2,g3,p,λI os h y v F O r gr O2 l hn U=>k I _ h y v r (g4 I os h y v F O gr O2 l hn U) (f1.trans gr.f)⟩⟩
noncomputable def G7(nm:Str)(z:bU)(tA:ca):TX:=λρ R c=>tA ρ (xaD λds a=>z (.ob none (.obj nm [])::ds.map Sm.v) (λf os=>match f,os with|.v .non,[o]=>R (.ob none o) a|_,_=>False) (λ_ _=>False)) c
def ug{a H:Hp}:∀{ds:List D}{vs:List V},RpL K a ds vs->ArgM K a H (ds.map Sm.v) vs (ds.map λ_=>[])
 | [],[],_=>.nil
 | [],_::_,h=>by cases h.1
 |_::_,[],h=>by cases h.1
 |d::ds,v::vs,h=>.v (h.2 0 v d rfl rfl) (ug ⟨by have:=h.1;simpa using this,λi f d' c hd=>h.2 (i+1) f d' c hd⟩)
def sP{g H:Hp}:∀{ds:List D}{vs:List V}{os:List Om}{a:List (List Addr)},OutM K g H (ds.map Sm.v) vs os a->os=[]/\a.flatten=[]
 | [],_,_,_,.nil=>⟨rfl,rfl⟩
 |_::ds,_,_,_,.v h=>by obtain⟨c,f⟩:=sP (ds:=ds) h;exact⟨c,by rw[IY,f];rfl⟩
def lJ{a c:Type}:∀(ds:List a),(ds.map λ_=>([]:List c)).flatten=[]
 | []=>rfl
 |_::ds=>by rw[IE,IY,lJ ds];rfl
end
section
variable{K:Frag}{H0 H H' Φ Φ0:Hp}{σ:St}{ρ:ak}{fp:Nat->List Addr}{F':List Addr}{o o':Om}{p:Addr}{d:D}{v:V}{i:Nat}{a:Option Addr}
def EnvM'.put2(E:EnvM' K H0 Φ H σ ρ fp)(B:ρ[i]?=some (some (.ob a o)))(N:σ[i]?=some (some (.ref p)))(I:∀b u,H b=some u->b∉fp i->H' b=some u)(P:OmS K Φ H' o' p F')(G:∀b∈F',b∈fp i\/(H0 b=none/\Φ b=none/\∀(j:Nat)(l:Option Addr)(g:Om),ρ[j]?=some (some (.ob l g))->b∉fp j)) :
  EnvM' K H0 Φ H' σ (ρ.set i (some (.ob a o'))) (λj=>if j=i then F' else fp j):=by
 have T:=ba B
 have A:∀{j:Nat}{x:Sm},(ρ.set i (some (Sm.ob a o')))[j]?=some (some x)->(j=i/\x=.ob a o')\/(j≠i/\ρ[j]?=some (some x)):=λ{j x} h=>by
  rcases er h with⟨e,_,O⟩|⟨e,h⟩
  ·cases O;exact .inl ⟨e,rfl⟩
  ·exact .inr ⟨e,h⟩
 have J:∀b∈F',∀(j:Nat)(l:Option Addr)(g:Om),ρ[j]?=some (some (.ob l g))->j≠i->b∉fp j:=λb f j l g m c z=>by
  rcases G b f with h|⟨_,_,h⟩
  ·exact E.dj j i l a g o m B c b z h
  ·exact h j l g m z
 refine⟨λb u e=>I b u (E.fz b u e) λz=>?_,by rw[Im,E.len],λj d h=>?_,λj l g h=>?_,λj l g h b f=>?_,λj k a1 a2 M g m t c b f y=>?_,E.tb⟩
 ·rw[(E.no i a o B b z).2]at e;cases e
 ·rcases A h with⟨_,h⟩|⟨_,h⟩
  ·cases h
  ·exact E.sl j d h
 ·rcases A h with⟨c,h⟩|⟨c,h⟩
  ·cases h;subst c;obtain⟨q,e,F,_⟩:=E.ow j a o B;rw[N]at e;cases e;exact⟨p,N,F,by rw[Ia rfl];exact P⟩
  ·obtain⟨q,e,F,r⟩:=E.ow j l g h;refine⟨q,e,F,?_⟩;rw[Ib c];exact r.keep (Same.refl _) λb f u Q=>I b u Q λz=>E.dj j i l a g o h B c b f z
 ·rcases A h with⟨c,h⟩|⟨c,h⟩
  ·rw[Ia c]at f;rcases G b f with z|⟨R,S,_⟩
   ·exact E.no i a o B b z
   ·exact⟨R,S⟩
  ·rw[Ib c]at f;exact E.no j l g h b f
 ·rcases A m with⟨C,m⟩|⟨C,m⟩
  ·rw[Ia C]at f;rcases A t with⟨w,t⟩|⟨w,t⟩
   ·omega
   ·rw[Ib w]at y;exact J b f k a2 g t w y
  ·rw[Ib C]at f;rcases A t with⟨w,t⟩|⟨w,t⟩
   ·rw[Ia w]at y;exact J b y j a1 M m C f
   ·rw[Ib w]at y;exact E.dj j k a1 a2 M g m t c b f y
def EnvM.fsetL{nm f:Str}{fs:List (Str×Fl)}{ds:List D}{C:Addr}{r:Option Addr}(E:EnvM K H0 Φ H (σ++[some v]) (ρ++[some (.ob r (.lst ds))]))(U:ρ.length=σ.length)(g:Gr Φ0 H0 Φ H)(R:nsIn K mainGlobals nm=some (some (.ref C)))(y:ρ[i]?=some (some (.ob a (.obj nm fs))))(J:fs.lookup f=none):∃p m vs,σ[i]?=some (some (.ref p))/\H p=some (.ins C m vs)/\vs.length=fs.length /\
  EnvM K H0 Φ (aj H p (.ins C m (cg f v vs))) σ (ρ.set i (some (.ob a (.obj nm (eX f (.l ds) fs)))))/\Gr Φ0 H0 Φ (aj H p (.ins C m (cg f v vs))):=by
 obtain⟨fp,E⟩:=E
 have B:(ρ++[some (Sm.ob r (.lst ds))])[ρ.length]?=some (some (.ob r (.lst ds))):=by rw[HX (Ih _),Jn];rfl
 obtain⟨q,Q,_,rq⟩:=E.ow _ _ _ B
 have ev:v=.ref q:=by rw[U,HX (Ih _),Jn]at Q;cases Q;rfl
 subst ev;obtain⟨I,ws,q1,q2⟩:=rq.lst_inv
 have X:q∈fp ρ.length:=by rw[I];exact Ip.mpr rfl
 have w:=E.no _ _ _ B q X
 have up:∀{j:Nat}{x:Sm},ρ[j]?=some (some x)->(ρ++[some (Sm.ob r (.lst ds))])[j]?=some (some x):=λh=>by rw[HW (ba h)];exact h
 have t:∀(j:Nat)(a2:Option Addr)(M:Om),ρ[j]?=some (some (.ob a2 M))->q∉fp j:=λj a2 M T z=>E.dj j ρ.length a2 r M _ (up T) B (by have:=ba T;omega) q z X;have A:EnvM' K H0 Φ H σ ρ fp:=E.take U;obtain⟨p,e,_,ro⟩:=A.ow i a _ y;obtain⟨C',m,vs,N,G,O,c2,P,nd⟩:=ro.obj_inv;rw[R]at O;cases O
 have Z:p∈fp i:=by rw[G];exact Ie
 have S:∀b u,H b=some u->b∉fp i->aj H p (.ins C m (cg f (.ref q) vs)) b=some u:=λb u e hn=>by
  rw[aE λz=>hn (by rw[z];exact Z)];exact e
 have Y:=nd;rw[IS]at Y
 have UB:q∉p::N:=by rw[←G];exact t i a _ y
 have F:(p::(N++[q])).Nodup:=by rw[←KL,Js];exact⟨nd,by simp,λb l c J z=>by rw[Ip.mp J]at z;exact UB (z▸l)⟩
 refine⟨p,m,vs,e,c2,P.len,⟨_,A.put2 y e S (F':=p::(N++[q])) (.obj R bg ((P.setL J q1 q2).keep (Same.refl _) λb l u hu=>?_) F) λb l=>?_⟩,A.grput g y S⟩
 ·rw[aE (show b≠p from λz=>?_)]
  ·exact hu
  ·rw[IS]at F;exact F.1 (by rw[←z];exact l)
 ·rw[←KL]at l;rcases II.mp l with l|l
  ·exact .inl (by rw[G];exact l)
  ·rw[Ip.mp l];exact .inr ⟨w.1,w.2,t⟩
end
section
variable{K:Frag}{X:Cx}{e a:Expr}{te:TX}{t:TD}{pos MV NS:Pos}{x nm f:Str}{C:Addr}
noncomputable def zx(i:Nat)(nm f:Str)(te:TX):bj:=λg ρ=>te ρ (λs c=>match s with|.ob _ (.lst ds)=>(∃a fs,c[i]?=some (some (.ob a (.obj nm fs)))/\fs.lookup f=none/\fs.length<1000/\NF (eX f (.l ds) fs) λh=>g.nx (c.set i (some (.ob a (.obj nm h)))))|_=>False) g.ex
def FS(i:Nat)(c:Cls K C)(S:NoAttr K C f)(I:nsIn K mainGlobals nm=some (some (.ref C)))(N:PX K X e te)(J:X.N[i]?=some x:=by rfl)(R:bR X.env.scope x:=by nofun)(hd:(x==("__debug__":Str))=false:=by decide)(z:(x==("__classdict__":Str))=false:=by decide)
  (Q:swapsWith e (some (.Attribute (.Name x MV) f NS)) pos.line X.env=pure false:=by rfl):PSM K X (.Assign [.Attribute (.Name x MV) f NS] e pos) (zx i nm f te):=
 ⟨λj=>(ub (f:=f) (pv i J R hd z) (N.pe j) Q).imp λE Y H y=>by
  obtain⟨l,w,T,ρ,o,g,V,t,k⟩:=y;refine⟨l,w,T,[],ρ,[],_,o.ex,ed g V k.ex,t,λs U m Z v r h _=>?_⟩;split at r
  ·next a1 ds=>
   obtain⟨a0,OU,P,M,O,r⟩:=r;obtain⟨p,A,vs,B,F,G,u,g'⟩:=EnvM.fsetL (f:=f) h.E h.l h.g I P M;exact⟨_,B,p,C,A,vs,rfl,F,j▸c,j▸S,by rw[G];exact O,k.nx _ m _ Y r.get g' u⟩
  ·exact r.elim⟩
end
section
variable{P:Program}{w:World}{K:Frag}{mg:Str->Option Value}{base:Heap}{n m:Nat}{C:Addr}{x:Str}{ps:List Str}
def MthM.mono{z:bU}(M:MthM P w K mg base n C x ps z)(k:n<=m:=by decide):MthM P w K mg base m C x ps z:=by obtain⟨f,a,F,r⟩:=M.ex;exact⟨f,a,F.mono k,r⟩
def MkM.mono{z:bU}(M:MkM P w K mg base n C ps z)(k:n<=m:=by decide):MkM P w K mg base m C ps z:=by obtain⟨f,a,F,r⟩:=M.ex;exact⟨f,a,F.mono k,r⟩
end
section
variable{K:Frag}{X:Cx}{a b:Expr}{es:List Expr}{ta tb:TX}{pos:Pos}
noncomputable def FD(ta tb:TX):TX:=λρ R f=>ta ρ (xV λd e=>match d with|.bl c=>(c=true->tb e R f)/\(c=false->R (.v (.bl false)) e)|_=>False) f
def yw{op}(h:PX K X a ta):PX K X (.BoolOp op [a] pos) ta:=⟨λc=>tL (h.pe c)⟩
def Dg(F:PX K X a ta)(G:PX K X (.BoolOp .And (b::es) pos) tb):PX K X (.BoolOp .And (a::b::es) pos) (FD ta tb):=
 ⟨λu=>(sd (F.pe u) (G.pe u)).imp λT H Q B=>by
  obtain⟨f,o,O,y,ρ,w,R,p,S,t,k⟩:=B;refine⟨f,o,O,y,ρ,w,_,p,S,t,λP h g A v e j r=>?_⟩;obtain⟨x,rfl,e⟩:=e.get;have J:=j.last;obtain⟨c,rfl,e⟩:=gR e;obtain rfl:=J.b;refine⟨c,rfl,?_⟩
  cases c with
  |true=>rw[Ia rfl];exact⟨f,o,g,y,h,w,R,p,j.pop S.lk,e.1 rfl,λM m l z N I C E=>k M m l z N I C (r.trans E)⟩
  |false=>rw[Ib (by decide)];exact k _ h g A _ (e.2 rfl) ((j.pop S.lk).pushV (.bl _)) r⟩
end
noncomputable def dU(K:Frag)(mg:Str->Option Value)(sp:bU):Sp:=λvs H Q E=>∃g as e R j,Same g H/\TabF K g/\ArgM K g H as vs e/\e.flatten.Nodup/\(∀b∈e.flatten,g b=none)/\sp as R j /\
 (∀m os a c v F f,R m os->Gr g (bN H e.flatten) a c->ResM K a c m v F->OutM K a c as vs os f->(F++f.flatten).Nodup->(∀b∈F++f.flatten,bN H e.flatten b=none/\a b=none)->Q v c) /\
 ∀h os C l a c f,j h os->Gr g (bN H e.flatten) a c->OutM K a c as vs os f->f.flatten.Nodup->(∀b∈f.flatten,bN H e.flatten b=none/\a b=none)->mg h.nm=some (.ref C)->nD K c h.at_ l->E (.ref C) l c
structure ClMX(P:Program)(w:World)(K:Frag)(mg:Str->Option Value)(base:Heap)(n:Nat)(x:Str)(ps:List Str)(z:bU):Prop where
 ex:∃(f:Addr)(fd:FuncData),FnOk P w K mg base (CXo P w) n f fd ps (dU K mg z)/\Binds K fd ps []/\keepIn K (.ref f)=true/\mg x=some (.ref f)
structure MthMX(P:Program)(w:World)(K:Frag)(mg:Str->Option Value)(base:Heap)(n:Nat)(C:Addr)(m:Str)(ps:List Str)(z:bU):Prop where
 ex:∃(f:Addr)(fd:FuncData),FnOk P w K mg base (CXo P w) n f fd ps (dU K mg z)/\Binds K fd ps []/\Meth K C m f
section
variable{P:Program}{w:World}{K:Frag}{mg:Str->Option Value}{base:Heap}
def Fun.okMX{x qual:Str}{st:Stmt}{f:Addr}{fd:FuncData}{N ps:List Str}{k:Nat}{sp:bU}(F:Fun K x qual st f fd)(S:FnScope N ps (ay st))(len:∀as R B,sp as R B->as.length=ps.length)
  (OB:∀(Y:Value)(A:Around)(outer:List Env)(s:Shared)(H:Hp)(E:XK)(as:List Sm)(R:Sm->List Om->Prop)(B:XD->List Om->Prop)(qs:List Addr),fd.code=Y->Room k (A.deeper (envOfC qual (ay st) s.heap.objs.size f Y))->sp as R B->qs.length=ky as->
   ∃t,PSsM K (fY (CXo P w) P w K mg base N qual (ay st) f Y A outer s H E) (cw st) t/\let ke:EndsM:={ nx:=λρ=>eI (R (.v .non)) as qs 0 ρ,rt:=λI ρ=>eI (R I) as qs 0 ρ,ex:=λxd ρ=>eI (B xd) as qs 0 ρ };t ke (aT N as qs)):FnOk P w K mg base (CXo P w) (k+1) f fd ps (dU K mg sp):=by
 obtain⟨oc,od,kV,doc,pm,an,Y,ct,Qg,rfl,lk,MY⟩:=F.ex;refine on lk MY S (λvs H Q E MQ=>?_) λA outer s H vs Q E hr MQ=>?_
 ·obtain⟨U,as,X,R,B,I,tb,O,nd,hn,h,_⟩:=MQ;rw[O.len.1];exact len as R B h
 ·obtain⟨U,as,X,R,B,I,tb,O,nd,hn,h,kk,kx⟩:=MQ;obtain⟨t,ht,hq⟩:=OB Y A outer s H E as R B (ee as vs) rfl hr h (rA O);dsimp only at hq;rw[←iW]at hq
  have Z:∀I l m y v p,eI (R I) as (ee as vs) 0 l->Gr U (bN H X.flatten) m y->EnvM K (bN H X.flatten) m y (p++[some v]) (l++[some I])->Q v y:=λM l m y v p hk g V=>by
   obtain⟨fp,G⟩:=V
   have hl:p.length=l.length:=by have:=G.len;simpa using this
   obtain⟨os,M9,h1,h2,h3,h4,h5⟩:=nT (k:=R M) (G.take hl.symm) O hk
   have J:(l++[some M])[l.length]?=some (some M):=by rw[HX (Ih _),Jn];rfl
   cases M with
   |v d=>
    obtain⟨u,hu,r⟩:=G.sl _ d J;rw[←hl,HX (Ih _),Jn]at hu;cases hu;exact kk (.v d) os m y v [] M9 h2 g (.v r) h1 (by simpa using h3) (λb hb=>h4 b (by simpa using hb))
   |ob a o=>
    obtain⟨u,hu,UO,r⟩:=G.ow _ a o J;rw[←hl,HX (Ih _),Jn]at hu;cases hu;refine kk (.ob a o) os m y _ (fp l.length) M9 h2 g (.o UO r) h1 ?_ λb hb=>?_
    ·refine Js.mpr ⟨r.nodup,h3,λb hb c hc e=>?_⟩;subst e;obtain⟨j,a2,o2,_,_,j3,j4⟩:=h5 b hc;have hj:=ba j3;exact G.dj _ j a a2 o o2 J (by rw[HW hj];exact j3) (by omega) b hb j4
    ·rcases II.mp hb with z|z
     ·exact G.no _ a o J b z
     ·exact h4 b z
  have g0:Gr U (bN H X.flatten) U H:=⟨Same.refl _,tG,I,λ_ _ _ h _=>h⟩;refine⟨lM K _ t,ht.ps rfl,U,bN H X.flatten,U,_,_,g0,rF I tb O nd hn,hq,⟨λl m y p r g V=>?_,λM l m y v p r g V=>Z M l m y v p r g V,λ_ _ _ _ h=>h.elim,λ_ _ _ _ h=>h.elim,λxd l m y p z s' pins hw g V st=>?_⟩⟩
  ·exact Z (.v .non) l m y .non p r g (V.snocV .non)
  ·obtain⟨ea,C,T,dx,e1,F',hm,J,fa,fT⟩:=st.ex;subst e1;obtain⟨fp,G⟩:=V;obtain⟨os,M9,h1,h2,h3,h4,h5⟩:=nT (k:=B xd) G O hw;exact DF st.inv F' ⟨fa.1,fa.2.1⟩ (λT' z=>⟨(fT T' z).1,(fT T' z).2.1⟩) (kx xd os C dx m y M9 h2 g h1 h3 h4 hm J)
def Fun.clMX{x:Str}{st:Stmt}{f:Addr}{c:FuncData}{ps:List Str}{n:Nat}{z:bU}(F:Fun K x x st f c)(m:mg x=some (.ref f))(H:FnOk P w K mg base (CXo P w) n f c ps (dU K mg z))
  (b:∀(kV a h:Value)(g:Option Addr)(e ct:Value)(us:List Value),us.length=ps.length->bindArgs (fnOf x x (da st) (cw st) (ay st) .none kV a h g e ct) ⟨us,[]⟩=pure (ps.zip us)):ClMX P w K mg base n x ps z:=⟨f,c,H,F.binds b,F.kp,m⟩
def ClMX.mono{n m:Nat}{x:Str}{ps:List Str}{z:bU}(C:ClMX P w K mg base n x ps z)(k:n<=m:=by decide):ClMX P w K mg base m x ps z:=by obtain⟨f,a,F,r⟩:=C.ex;exact⟨f,a,F.mono k,r⟩
def MthMX.mono{n m:Nat}{C:Addr}{x:Str}{ps:List Str}{z:bU}(M:MthMX P w K mg base n C x ps z)(k:n<=m:=by decide):MthMX P w K mg base m C x ps z:=by obtain⟨f,a,F,r⟩:=M.ex;exact⟨f,a,F.mono k,r⟩
end
section
variable{X:Cx}{CX:cq}{k:Nat}{C f:Addr}{fd:FuncData}{ps:List Str}{sp:Sp}{m:Str}{apos pos:Pos}{o e:Expr}{es:List Expr}{t:TA}{ta:TE}
noncomputable def uf(CX:cq)(X:Cx)(C:Addr)(m:Str)(sp:Sp)(ta:TE)(t:TA):TE:=λc H Q=>ta c H λx g=>∃a j fs,x=.ref a/\g a=some (.ins C j fs)/\fs.lookup m=none/\t c g λvs h=>∃E,mY CX X E c h/\sp (.ref a::vs) h Q E
def D0{pl:Sem Bool}(N:PE X o ta)(c:Cls X.K C)(v:Meth X.K C m f)(F:FnOk X.prog X.w X.K X.mg X.base CX k f fd ps sp)(O:Room k X.A)(M:Binds X.K fd ps [])(K:PA X (e::es) t)
  (G:starEach (e::es) X.env=(false,eval e X.env)::starEach es X.env) (B:(backTo pos (starEach es X.env)).any (·.1)=false)
  (P:eval (.Call (.Attribute o m apos) (e::es) [] pos) X.env=(do
   let ov ←eval o X.env
   standAt apos.atName
   let (f,first) ←holding [ov] (getMethod ov m pl)
   callWith pos f first (backTo pos (starEach (e::es) X.env)) (backToKw pos (keywordEach [] X.env)))) :
  PE X (.Call (.Attribute o m apos) (e::es) [] pos) (uf CX X C m sp ta t):=by
 intro g s w H Q I h;refine LY (pl:=pl) (aq (N g s w H _ I h) λu U z=>?_) P;obtain⟨x,y,j,T,a,Z,fs,ex,J,l,q⟩:=z;subst ex;obtain rfl:u=Value.ref a:=T;refine p8 j J c v l ?_;refine Lu (first:=[.ref a]) (h₀:=X.base) I.ok.mod.kin v.kp (aq (K pos g U w y _ j q) λus s2 A=>?_) G B;obtain⟨vs,Y,p,r,E,R,S⟩:=A;exact⟨p.kIn,qI (us:=.ref a::us) (vs:=.ref a::vs) F O M R p (.cons rfl r) S⟩
def Hx{pl:Sem Bool}(y:PE X o ta)(c:Cls X.K C)(p:Meth X.K C m f)(F:FnOk X.prog X.w X.K X.mg X.base CX k f fd ps sp)(z:Room k X.A)(w:Binds X.K fd ps [])
  (A:eval (.Call (.Attribute o m apos) [] [] pos) X.env=(do
   let ov ←eval o X.env
   standAt apos.atName
   let (f,first) ←holding [ov] (getMethod ov m pl)
   callWith pos f first (backTo pos (starEach [] X.env)) (backToKw pos (keywordEach [] X.env)))) :
  PE X (.Call (.Attribute o m apos) [] [] pos) (uf CX X C m sp ta ql):=by
 intro g s J H Q I h;refine LY (pl:=pl) (aq (y g s J H _ I h) λu N r=>?_) A;obtain⟨x,K,j,G,a,M,fs,ex,v,l,E,B,q⟩:=r;subst ex;obtain rfl:u=Value.ref a:=G;refine p8 j v c p l ?_;exact callWith_K0 (first:=[.ref a]) j.kIn p.kp (qI (us:=[.ref a]) (vs:=[.ref a]) F z w B j (.cons rfl .nil) q)
end
section
variable{K:Frag}{X:Cx}{e:Expr}{es:List Expr}{pos p apos MV:Pos}{tA:ca}{C:Addr}{nm m x:Str}
def StM.lendX{z:bU}{o H0 B H:Hp}{u Z ts:St}{ρ Y:ak}{R:Sm->ak->Prop}{y:XD->ak->Prop}{as:List Ar}{w:List Sm}{vs:List V}{Q:VK}(hK:X.K=K)(O:X.ex=[])(S:StM K X o H0 B H u (Z++ts) ρ (Y++cE as) y)(hl:Y.length=Z.length)(hr:du ρ as=some w)(hv:ArV u as vs ts)(hs:mE as=true)
  (hz:z w (λj os=>R j (aG ρ as os)) (λh os=>y h (aG ρ as os))) (k:∀j t a c v,R j t->StM K X o H0 a c u (Z++[some v]) t (Y++[some j]) y->Same B a->Q v c):∃E,mY (CXo X.prog X.w) X E u H/\dU K X.mg z vs H Q E:=by
 obtain⟨G,g1,g2,g3,g4⟩:=S.lend hl hr hv hs
 refine⟨λcls A c=>∃h C a os f,y h (aG ρ as os)/\Gr B (bN H G.flatten) a c/\OutM K a c w vs os f/\f.flatten.Nodup/\(∀b∈f.flatten,bN H G.flatten b=none/\a b=none)/\cls=.ref C/\X.mg h.nm=some (.ref C)/\nD K c h.at_ A,λl s e' s' I hx=>?_,
  B,w,G,_,_,S.g.s,S.E.tb,g1,g2,g3,hz,λj os a c v F f r gr O2 U P J=>k j _ a c v r (g4 j os a c v F f gr O2 U P J) gr.f,λh os C A a c f h1 h2 h3 h4 h5 h6 h7=>⟨h,C,a,os,f,h1,h2,h3,h4,h5,rfl,h6,h7⟩⟩
 obtain⟨ea,T,C,A,c,e1,I',F',fa,fT,h,C',a,os,f,N,g,U,P,J,ec,hm,ha⟩:=CXo.at I O hx;cases ec;subst e1;have M:=g4 (.v .non) os a c .non [] f g (.v .non) U (by simpa using P) (λb hb=>J b (by simpa using hb));refine M.x h _ a c u _ s' l N M.g (M.pop hl).env ⟨I',ea,C,some T,A,rfl,F',hm,hK▸ha,fa,λT' z=>?_⟩;cases z;exact fT
def lV{n:Nat}{ps:List Str}{z:bU}(C:ClMX X.prog X.w K X.mg X.base n x ps z)(U:Room n X.A)(T:Gl X x)(c:X.ex=[])
  (O:PXA K X (e::es) tA) (P:starEach (e::es) X.env=(false,eval e X.env)::starEach es X.env) (A:(backTo pos (starEach es X.env)).any (·.1)=false) (y:(x==("__debug__":Str))=false:=by decide) :
  PX K X (.Call (.Name x p) (e::es) [] pos) (pZ z tA):=⟨λa=>by
 obtain⟨f,N,F,b,k,m⟩:=C.ex;refine (yU (a▸F:FnOk X.prog X.w X.K X.mg X.base (CXo X.prog X.w) n f N ps (dU K X.mg z)) U T m (a▸k) (a▸b) (O.pa a) y P A).imp λσ H Q w=>?_;obtain⟨j,u,Φ,τ,ρ,κ,R,G,S,t,k⟩:=w;refine⟨j,u,Φ,τ,ρ,κ,_,G,S,t,λas ρ1 Φ1 H1 vs ts g hl Y J M=>?_⟩;obtain⟨Nd,B,E,g⟩:=g
 exact J.lendX (R:=R) a c S.lk B Y E g λZ l h o v r I s'=>k Z l h o v r I (M.trans s')⟩
def Ah(i:Nat){n:Nat}{ps:List Str}{z:bU}{pl:Sem Bool}(M:MthMX X.prog X.w K X.mg X.base n C m ps z)(hr:Room n X.A)(h:X.ex=[])(c:Cls K C)(hC:nsIn K mainGlobals nm=some (some (.ref C)))
  (ha:PXA K X (e::es) tA) (he:starEach (e::es) X.env=(false,eval e X.env)::starEach es X.env) (O:(backTo pos (starEach es X.env)).any (·.1)=false)
  (ht:eval (.Call (.Attribute (.Name x MV) m apos) (e::es) [] pos) X.env=(do
   let ov ←eval (.Name x MV) X.env
   standAt apos.atName
   let (f,first) ←holding [ov] (getMethod ov m pl)
   callWith pos f first (backTo pos (starEach (e::es) X.env)) (backToKw pos (keywordEach [] X.env))):=by rfl)
  (hN:X.N[i]?=some x:=by rfl) (j:bR X.env.scope x:=by nofun) (hd:(x==("__debug__":Str))=false:=by decide) (N:(x==("__classdict__":Str))=false:=by decide) :
  PX K X (.Call (.Attribute (.Name x MV) m apos) (e::es) [] pos) (pp i nm m z tA):=⟨λg=>by
 obtain⟨f,fd,F,b,hm⟩:=M.ex;refine (D0 (pl:=pl) (pv i hN j hd N) (g▸c) (g▸hm) (g▸F:FnOk X.prog X.w X.K X.mg X.base (CXo X.prog X.w) n f fd ps (dU K X.mg z)) hr (g▸b) (ha.pa g) he O ht).imp λσ H Q J=>?_;obtain⟨u,I,Φ,τ,ρ,κ,R,U,S,⟨⟨a,fs,ho,B⟩,t⟩,k⟩:=J;obtain⟨fp,E⟩:=S.env;obtain⟨q,A,_,ro⟩:=E.ow i a _ ho;obtain⟨C',dx,vs,qs,eF,y,c2,c3,nd⟩:=ro.obj_inv;rw[hC]at y;cases y;refine⟨_,A,q,dx,vs,rfl,c2,c3.lookN B,u,I,Φ,τ,ρ,κ,_,U,S,t,λas ρ1 Φ1 H1 us ts l B j Z f1=>?_⟩;obtain⟨Nd,P,T,l⟩:=l
 exact StM.lendX (R:=R) (as:=.s i::as) g h Z S.lk P (.s A j) T l λsm w o G v r Y s'=>k sm w o G v r Y (f1.trans s')⟩
def yk(i:Nat){n:Nat}{ps:List Str}{z:bU}{pl:Sem Bool}(M:MthMX X.prog X.w K X.mg X.base n C m ps z)(hr:Room n X.A)(h:X.ex=[])(c:Cls K C)(hC:nsIn K mainGlobals nm=some (some (.ref C)))
  (ht:eval (.Call (.Attribute (.Name x MV) m apos) [] [] pos) X.env=(do
   let ov ←eval (.Name x MV) X.env
   standAt apos.atName
   let (f,first) ←holding [ov] (getMethod ov m pl)
   callWith pos f first (backTo pos (starEach [] X.env)) (backToKw pos (keywordEach [] X.env))):=by rfl)
  (hN:X.N[i]?=some x:=by rfl) (hv:bR X.env.scope x:=by nofun) (hd:(x==("__debug__":Str))=false:=by decide) (G:(x==("__classdict__":Str))=false:=by decide) :
  PX K X (.Call (.Attribute (.Name x MV) m apos) [] [] pos) (pp i nm m z lg):=⟨λg=>by
 obtain⟨f,Z,F,b,hm⟩:=M.ex;refine (Hx (pl:=pl) (pv i hN hv hd G) (g▸c) (g▸hm) (g▸F:FnOk X.prog X.w X.K X.mg X.base (CXo X.prog X.w) n f Z ps (dU K X.mg z)) hr (g▸b) ht).imp λσ H Q B=>?_;obtain⟨l,A,Φ,τ,ρ,κ,R,N,S,⟨⟨a,fs,ho,hl⟩,t⟩,k⟩:=B;obtain⟨fp,E⟩:=S.env;obtain⟨q,w,_,ro⟩:=E.ow i a _ ho;obtain⟨C',Y,vs,qs,eF,u,T,U,nd⟩:=ro.obj_inv;rw[hC]at u;cases u;obtain⟨Nd,I,J,r1⟩:=t
 have P:StM K X l A Φ H σ (τ++[]) ρ (κ++cE [.s i]) N:=by rw[IW,show cE [.s i]=[]from rfl,IW];exact S
 refine⟨_,w,q,Y,vs,rfl,T,U.lookN hl,?_⟩
 exact StM.lendX (R:=R) (as:=[.s i]) g h P S.lk I (.s w .nil) J r1 λsm o j y v r O s'=>k sm o j y v r O s'⟩
end
section
variable{K:Frag}{X:Cx}{Np:Str->Str->Bool}{names:List Str}
def HF{m:List ExceptHandler}{Y:XD->EndsM->ak->Prop}{c:Str}{A:Addr}{np Px:Pos}{l:Stmt}{N:List Stmt}{Z:bj}(B:Exs X.K X.mg Np names)(U:c∈names)(hg:Gl X c)(G:X.mg c=some (.ref A))(hs:∀pn e,PSsM K (X.held pn e) (l::N) Z)(hr:PHM K X m Y)
  (Nr:(c==("__debug__":Str))=false:=by decide) :
  PHM K X (.ExceptHandler (some (.Name c np)) none (l::N) Px::m) (λj o ρ=>j.nm∈names/\(Np j.nm c=true->Z { nx:=o.nx,rt:=o.rt,bk:=o.bk,ct:=o.ct } ρ)/\(Np j.nm c=false->Y j o ρ)):=
 ⟨λR a s σ H D w T C dx j x M Φ ρ o I F E Nc Q P g V t k=>by
  obtain⟨O,t1,t2⟩:=t;obtain⟨oe,he,Qv,hdx,vs,hvs⟩:=F.live;obtain⟨iC,kC⟩:=B.cls j.nm O C E s.heap I.kIn;obtain⟨iD,kD⟩:=B.cls c U A G s.heap I.kIn;have Rh:=B.sub j.nm O c U C A E G s.heap I.kIn;refine wpAny_handleBy_cons (codeAny_handlers_test (ia (X:=X.held (X.pn++a) (.ref w)) (I.held (.ref w)) hg G ?_ Nr)) (by intro q;cases q);refine vG kC kD he Qv ?_;rw[Rh]
  cases S:Np j.nm c with
  |false=>exact hr.ph R a s σ H D w T C dx j x M Φ ρ o I F E Nc Q P g V (t2 S) k
  |true=>
   refine codeAny_handlers_suite (kX F λh1 F1 k1 n1=>?_);have I1:Inv X a σ H { s with heap:=h1 }:=I.passed (pd k1 F.note (oH I)) Q (λT' z=>by cases z;exact P) F.obj (λT' z=>by cases z;exact F.note);have run:=(hs (X.pn++a) (.ref w)).ps R [] _ _ _ { nx:=D.nx,rt:=D.rt,bk:=D.bk,ct:=D.ct } (I1.held (.ref w)) ⟨x,M,Φ,_,_,g,V,t1 S,⟨k.nx,k.rt,k.bk,k.ct,λ_ _ _ _ _ _ _ _ h=>h.elim⟩⟩;refine JF run (λf s3 y=>?_) λ_ _ h=>h.elim
   cases f with
   |next=>obtain⟨r,p,J,q⟩:=y;exact⟨_,p,Inv.unheld I.ok J,q⟩
   |brk=>obtain⟨r,p,J,q⟩:=y;exact⟨_,p,Inv.unheld I.ok J,q⟩
   |cont=>obtain⟨r,p,J,q⟩:=y;exact⟨_,p,Inv.unheld I.ok J,q⟩
   |ret u=>obtain⟨v,r,p,J,rv,q⟩:=y;exact⟨v,_,p,Inv.unheld I.ok J,rv,q⟩⟩
def uj{f:List ExceptHandler}{o:XD->EndsM->ak->Prop}{c:Str}{z u:Pos}{a:Stmt}{m:List Stmt}{p:bj}(r:Exs X.K X.mg Np names)(j:∃l,X.mg c=some (.ref l))(v:c∈names)(w:Gl X c)(y:∀pn e,PSsM K (X.held pn e) (a::m) p)(x:PHM K X f o)
  (t:(c==("__debug__":Str))=false:=by decide) :
  PHM K X (.ExceptHandler (some (.Name c z)) none (a::m) u::f) (λh g ρ=>h.nm∈names/\(Np h.nm c=true->p { nx:=g.nx,rt:=g.rt,bk:=g.bk,ct:=g.ct } ρ)/\(Np h.nm c=false->o h g ρ)):=by
 obtain⟨l,j⟩:=j;exact HF r v w j y x t
end
section
variable{K:Frag}{X:Cx}{pos:Pos}{t:bj}{rest:List Stmt}
def GW{a:Type}{l m:List a}{i:Nat}{x:a}(h:i<l.length):(l++m).set i x=l.set i x++m:=by rw[List.set_append,Ia h]
noncomputable def zk(i:Nat):TX:=λρ R _=>∃q o,ρ[i]?=some (some (.ob (some q) o))/\R (.ob (some q) o) (ρ.set i (some (.ob (some q) .ptr)))
def ET(i:Nat){x:Str}(P:X.N[i]?=some x:=by rfl)(Z:bR X.env.scope x:=by nofun)(hd:(x==("__debug__":Str))=false:=by decide)
  (J:(x==("__classdict__":Str))=false:=by decide):PX K X (.Name x pos) (zk i):=⟨λ_=>(pv i P Z hd J).imp λr H Q I=>by
 obtain⟨Φ0,G,C,u,ρ,f,R,Rx,S,⟨q,o,h,t⟩,k⟩:=I;have l:=ba h;have Y:=S.l;have hk:=S.lk;obtain⟨fp,E⟩:=S.env;obtain⟨p,e,T,_⟩:=E.ow i _ o h;cases T q rfl;refine⟨_,e,k _ _ C H _ t ⟨S.g,by rw[Im];exact Y,?_,S.x⟩ (Same.refl _)⟩
 have F:EnvM K G C H (r++(u++[some (.ref q)])) (ρ.set i none++(f++[some (.ob (some q) o)])):=by
  refine S.E.re (λj=>if j=ρ.length+f.length then i else j) (by simp only[HY,Im,Ij,Jh];omega) (λj x g=>?_) λv w a a' o1 o2 A B m=>?_
  ·have U:=ba g;simp only[HY,Im,Ij,Jh]at U;rcases IU j ρ.length with c|c
   ·rw[HW (by rw[Im];exact c)]at g;rw[Ib (by omega),HW c,HW (by omega),HW (by omega)];rcases er g with⟨_,_,z⟩|⟨_,z⟩
    ·cases z
    ·exact⟨z,rfl⟩
   ·rw[HX (by rw[Im];exact c),Im]at g;rcases IU j (ρ.length+f.length)with M|M
    ·rw[HW (by omega)]at g;rw[Ib (by omega)];constructor
     ·rw[HX c];exact g
     ·rw[←Iw,HW (by rw[HY];omega)]
    ·have O:j=ρ.length+f.length:=by omega
     subst O;rw[show ρ.length+f.length-ρ.length=f.length by omega,HX (Ih _),Jn]at g;cases g;rw[Ia rfl];constructor
     ·rw[HW l];exact h
     ·rw[HX (by omega),HX (by omega),show ρ.length+f.length-r.length-u.length=0 by omega,HW (by omega),e];rfl
  ·have u1:v≠i:=λz=>by subst z;rw[HW (by rw[Im];exact l),IP l]at A;cases A
   have u2:w≠i:=λz=>by subst z;rw[HW (by rw[Im];exact l),IP l]at B;cases B
   have m:(if v=ρ.length+f.length then i else v)=(if w=ρ.length+f.length then i else w):=m;split at m<;>split at m<;>omega
 have y:=F.pnt i q
 have N:(r++(u++[some (V.ref q)])).set i (some (.ref q))=r++(u++[some (.ref q)]):=by
  refine Jo λj=>?_;by_cases c:i=j
  ·subst c;rw[IP (by rw[HY];omega),HW (by omega),e]
  ·rw[IL c]
 rw[N,GW (by rw[Im];exact l),List.set_set]at y
 exact y⟩
def EnvM.ret{r w H:Hp}{g:St}{ρ:ak}{q:Addr}{o:Om}{i j:Nat}(E:EnvM K r w H g ρ)(J:i≠j)(u:ρ[i]?=some (some (.ob (some q) .ptr)))(v:ρ[j]?=some (some (.ob (some q) o))):EnvM K r w H g ((ρ.set i (some (.ob (some q) o))).set j none):=by
 have F:g[i]?=some (some (.ref q)):=by obtain⟨y,E⟩:=E;obtain⟨p,e,m,_⟩:=E.ow i _ _ u;cases m q rfl;exact e
 have G:g[j]?=some (some (.ref q)):=by obtain⟨y,E⟩:=E;obtain⟨p,e,m,_⟩:=E.ow j _ _ v;cases m q rfl;exact e
 have I:=ba u
 have l:∀{k:Nat}{x:Sm},((ρ.set i (some (.ob (some q) o))).set j none)[k]?=some (some x)->k≠j/\((k=i/\x=.ob (some q) o)\/(k≠i/\ρ[k]?=some (some x))):=λ{k x} h=>by
  rcases er h with⟨_,_,z⟩|⟨c,h⟩
  ·cases z
  ·refine⟨c,?_⟩;rcases er h with⟨e,_,z⟩|⟨e,h⟩
   ·cases z;exact .inl ⟨e,rfl⟩
   ·exact .inr ⟨e,h⟩
 refine E.re (λk=>if k=i then j else k) (by rw[Im,Im,E.len]) (λk x C=>?_) λk1 k2 a M O P A B e=>?_
 ·obtain⟨c,⟨f,z⟩|⟨f,z⟩⟩:=l C
  ·subst f z;rw[Ia rfl];exact⟨v,by rw[F,G]⟩
  ·rw[Ib f];exact⟨z,rfl⟩
 ·have N:=(l A).1;have f:=(l B).1;have e:(if k1=i then j else k1)=(if k2=i then j else k2):=e;split at e<;>split at e<;>omega
noncomputable def B8(i j:Nat)(t:bj):bj:=λa ρ=>∃q o,ρ[i]?=some (some (.ob (some q) .ptr))/\ρ[j]?=some (some (.ob (some q) o))/\t a ((ρ.set i (some (.ob (some q) o))).set j none)
def Ek(i j:Nat)(h:PSsM K X rest t)(l:i≠j:=by decide):PSsM K X rest (B8 i j t):=⟨λm=>(h.ps m).imp λE v H f=>by
 obtain⟨a,e,u,ρ,c,g,V,⟨q,o,p,r,t⟩,k⟩:=f
 exact⟨a,e,u,_,c,g,V.ret l p r,t,k⟩⟩
noncomputable def CY(i j:Nat)(t:bj):bj:=λc ρ=>∃I:ak->Prop,(I ρ\/∃q o,ρ[i]?=some (some (.ob (some q) .ptr))/\ρ[j]?=some (some (.ob (some q) o))/\I ((ρ.set i (some (.ob (some q) o))).set j none))/\∀a,I a->t c a
def Bn(i j:Nat)(h:PSsM K X rest t)(p:i≠j:=by decide):PSsM K X rest (CY i j t):=⟨λr=>(h.ps r).imp λE w H m=>by
 obtain⟨a,f,l,ρ,e,g,V,⟨J,c|⟨q,o,u,v,c⟩,t⟩,k⟩:=m
 ·exact⟨a,f,l,_,e,g,V,t _ c,k⟩
 ·exact⟨a,f,l,_,e,g,V.ret p u v,t _ c,k⟩⟩
end
section
variable{K:Frag}{X:Cx}{e:Expr}{pos p:Pos}{C:Addr}{x:Str}
def AK{n:Nat}{ps:List Str}{z:bU}(M:MkM X.prog X.w K X.mg X.base n C ps z)(hr:Room (n+1) X.A)(hg:Gl X x)(hm:X.mg x=some (.ref C))(hC:nsIn K mainGlobals x=some (some (.ref C)))
  (T:(x==("__debug__":Str))=false:=by decide) :
  PX K X (.Call (.Name x p) [] [] pos) (G7 x z lg):=⟨λm=>by
 obtain⟨f,fd,F,b,mk⟩:=M.ex;refine (Bv (dvs:=[]) (ds:=[]) (E:=E0) (m▸mk) (m▸F:FnOk X.prog X.w X.K X.mg X.base bf n f fd ps (bu K z)) hr hg hm (m▸b) .nil nM T).imp λσ H Q P=>?_;obtain⟨Φ0,H0,w,τ,ρ,κ,R,Rx,S,t,k⟩:=P;have r1:z (.ob none (.obj x [])::([]:List D).map Sm.v) (λI os=>match I,os with|.v .non,[o]=>R (.ob none o) ρ|_,_=>False) (λ_ _=>False):=t;have rl:RpL K w [] []:=.nil;intro y a l g Nv
 have old:∀b u,H b=some u->aj (aj H a (.own y)) y (.ins C a []) b=some u:=λb u e=>by rw[aE (cD e l),aE (cD e g)];exact e
 refine⟨w,_,_,_,_,λb u e=>old b u (S.g.s b u e),S.E.tb,.o (.obj hC bg .nil (by simp)) (ug rl),?_,λb j=>?_,r1,λI os h A v F O r gr U ho hn B=>?_⟩
 ·rw[IY,lJ];simp
 ·rw[IY,lJ,IW,Ip]at j;rw[j];exact S.g.s.free l
 ·split at r
  ·next o=>
   cases U with
   |v rv=>
    obtain rfl:=rv.n
    cases ho with
    |o Z Y=>
     rename_i F' O;obtain⟨_,eF⟩:=sP (ds:=[]) Y
     have RS:(([y]:List Addr)::([]:List D).map λ_=>([]:List Addr)).flatten=[y]:=by rw[IY,lJ];rfl
     rw[RS]at gr B
     have J:∀b u,H b=some u->bN (aj (aj H a (.own y)) y (.ins C a [])) [y] b=some u:=λb u e=>by rw[gz λz=>cD e l (Ip.mp z)];exact old b u e
     have g':Gr w H h A:=⟨gr.f,λb u e=>gr.h b u (J b u e),gr.s,λb u h1 h2 k=>gr.o b u (J b u h1) h2 k⟩;refine⟨rfl,k _ ρ h A _ r (S.pushO g' Z λb j=>?_) gr.f⟩;obtain⟨N,z2⟩:=B b (by rw[KU,IY];exact II.mpr (.inl j));refine⟨?_,z2⟩;by_cases c:b=y
     ·rw[c];exact l
     ·rw[gz (by simpa using c),aE c]at N;by_cases G:b=a
      ·rw[G];exact g
      ·rwa [aE G]at N
  ·exact r.elim⟩
end
end L2
namespace Tx
open PySem
noncomputable abbrev L(x:Str):List Nat:=x.cps.toList
def oa{x y:Str}(h:L x=L y):x=y:=Str.ext' (Array.toList_inj.mp h)
def rK(x y:Str):L (x++y)=L x++L y:=by unfold L;rw[Str.cps_append,Array.toList_append]
def sA{c:Nat}:∀{x y a b:List Nat},c∉x->c∉y->x++c::a=y++c::b->x=y/\a=b
 | [],[],a,b,_,_,h=>by cases h;exact⟨rfl,rfl⟩
 | [],y::ys,a,b,_,f,h=>by cases h;exact absurd Ie f
 |x::xs,[],a,b,e,_,h=>by cases h;exact absurd Ie e
 |x::xs,y::ys,a,b,e,f,h=>by obtain⟨l,m⟩:=List.cons.inj h;obtain⟨g,j⟩:=sA (λz=>e (Ic _ z)) (λz=>f (Ic _ z)) m;exact⟨by rw[l,g],j⟩
def i4(s x y:Str)(r:List Str):L (Str.join s (x::y::r))=L x++(L s++L (Str.join s (y::r))):=by show L (x++s++Str.join s (y::r))=_;rw[rK,rK,Iw]
def uL{c:Nat}:∀{xs ys:List Str},xs≠[]->ys≠[]->(∀x∈xs,c∉L x)->(∀y∈ys,c∉L y)->Str.join ⟨#[c]⟩ xs=Str.join ⟨#[c]⟩ ys->xs=ys
 | [],_,h,_,_,_,_=>absurd rfl h
 |_,[],_,h,_,_,_=>absurd rfl h
 | [x],[y],_,_,_,_,h=>by rw[show x=y from h]
 | [x],y::l::ys,_,_,e,_,h=>by have a:L x=_:=(JD L h).trans (i4 _ _ _ _);exact absurd (a▸Jb _ Ie) (e x Ie)
 |x::j::xs,[y],_,_,_,f,h=>by have a:L y=_:=(JD L h.symm).trans (i4 _ _ _ _);exact absurd (a▸Jb _ Ie) (f y Ie)
 |x::j::xs,y::l::ys,_,_,e,f,h=>by
  have a:=JD L h;rw[i4,i4]at a;obtain⟨m,o⟩:=sA (e x Ie) (f y Ie) a;have:=uL (xs:=j::xs) (ys:=l::ys) (by simp) (by simp) (λz g=>e z (Ic _ g)) (λz g=>f z (Ic _ g)) (oa o);rw[oa m,this]
def qa{c:Nat}{ws:List Str}(h:ws≠[])(a:∀w∈ws,c∉L w):Txt.split (Str.join ⟨#[c]⟩ ws) ⟨#[c]⟩=ws:=by
 refine uL ?_ h (StrLaws.split_free _ c) a (StrLaws.join_split _ _);intro e;have:=Lc (Str.join ⟨#[c]⟩ ws) ⟨#[c]⟩;rw[e]at this;cases this
noncomputable def eE(c:Nat):Bool:=97<=c&&c<=122
noncomputable def dL(c:Nat):Bool:=48<=c&&c<=57
noncomputable def bD(w:Str):Bool:=1<=w.length&&w.length<=12&&(L w).all eE
noncomputable def cR(l:List Nat):Bool:=1<=l.length&&l.length<=4&&l.all dL
noncomputable def fP(l:List Nat):Option Int:=match l with
 |45::r=>if cR r&&r.head? != some 48 then some (-(NumText.digitsVal r:Int)) else none
 |_=>if cR l&&(l.head? != some 48 ||l==[48]) then some (NumText.digitsVal l:Int) else none
noncomputable def bv(w:Str):Option Int:=fP (L w)
noncomputable def nstr(i:Int):Str:=Str.ofString (toString i)
def AR{m:Nat}(h:m<10):(Nat.digitChar m).toNat=48+m:=by
 have:∀m:Nat,m<10->(Nat.digitChar m).toNat=48+m:=by decide
 exact this m h
noncomputable def dg(m:Nat):List Nat:=(Nat.toDigits 10 m).map Char.toNat
def iL{m:Nat}(h:m<10):dg m=[48+m]:=by
 unfold dg;rw[Nat.toDigits_of_lt_base h];show [(Nat.digitChar m).toNat]=_;rw[AR h]
def nJ{m:Nat}(h:10<=m):dg m=dg (m/10)++[48+m % 10]:=by
 have a:m % 10<10:=L8 m (by decide);have t:Nat.toDigits 10 (m/10)++Nat.toDigits 10 (m % 10)=Nat.toDigits 10 (10*(m/10)+m % 10):=Nat.toDigits_append_toDigits (by decide) (by omega) a;rw[Nat.div_add_mod]at t;rw[←iL a];unfold dg;rw[←t,IJ]
def qB:∀m:Nat,(dg m).all dL=true:=by
 intro m
 induction m using Nat.strongRecOn with
 |_ m a=>
  by_cases h:m<10
  ·rw[iL h];simp[dL];omega
  ·rw[nJ (by omega),Mz,a (m/10) (by omega)];simp[dL];omega
def lK:∀(k m:Nat),m<10^(k+1)->(dg m).length<=k+1
 |0,m,h=>by rw[iL (by simpa using h)];simp
 |k+1,m,h=>by
  by_cases c:m<10
  ·rw[iL c];simp
  ·rw[nJ (by omega),HY];have:=lK k (m/10) (by rw[Nat.pow_succ]at h;omega);simp;omega
def uM:∀m:Nat,1<=(dg m).length:=by
 intro m;by_cases h:m<10
 ·rw[iL h];simp
 ·rw[nJ (by omega),HY];simp
def vJ:∀m:Nat,0<m->(dg m).head?≠some 48:=by
 intro m
 induction m using Nat.strongRecOn with
 |_ m f=>
  intro g;by_cases h:m<10
  ·rw[iL h];simp;omega
  ·rw[nJ (by omega)];have:=f (m/10) (by omega) (by omega);have c:=uM (m/10)
   cases e:dg (m/10)with
   |nil=>rw[e]at c;cases c
   |cons a r=>rw[e]at this;simpa using this
def vX(m:Nat):NumText.digitsVal (dg m)=m:=PySem.W.KIN.val_back m
def oG(m:Nat):L (nstr (m:Int))=dg m:=MJ m
def oN(m:Nat):L (nstr (-((m+1:Nat):Int)))=45::dg (m+1):=by
 have e:toString (-((m+1:Nat):Int))="-"++toString (m+1):=rfl;unfold nstr L;rw[e,LS,String.toList_append,IJ];show [45]++_=_;have:=MJ (m+1);rw[LS]at this;have a:(toString (m+1)).toList.map Char.toNat=dg (m+1):=this;rw[a];rfl
def nV(n:Int):(∃m:Nat,n=(m:Int))\/∃m:Nat,n = -((m+1:Nat):Int):=by
 rcases Int.lt_or_le n 0 with h|h
 ·exact .inr ⟨(-n-1).toNat,by omega⟩
 ·exact .inl ⟨n.toNat,by omega⟩
def uy{m:Nat}(h:m<10000):cR (dg m)=true:=by unfold cR;rw[qB,Jc (uM m),Jc (lK 3 m (by omega))];rfl
def Dm(m:Nat)(r:List Nat):dg m≠45::r:=λe=>by
 have:=qB m;rw[e,LZ]at this
 revert this
 simp[dL]
def iA{n:Int}(h:n.natAbs<10000):bv (nstr n)=some n:=by
 unfold bv;rcases nV n with⟨m,rfl⟩|⟨m,rfl⟩
 ·rw[oG]
  have a:m<10000:=by omega
  have e:fP (dg m)=if cR (dg m)&&((dg m).head? != some 48 ||dg m==[48]) then some (NumText.digitsVal (dg m):Int) else none:=by
   unfold fP;split
   ·next r h=>exact absurd h (Dm m r)
   ·rfl
  rw[e,uy a,vX,Ia];by_cases c:m=0
  ·subst c;rw[iL (by decide)];rfl
  ·have:=vJ m (by omega);rw[MM.mpr this];rfl
 ·rw[oN]
  have a:m+1<10000:=by omega
  show (if cR (dg (m+1))&&(dg (m+1)).head? != some 48 then some (-(NumText.digitsVal (dg (m+1)):Int)) else none)=_;rw[uy a,vX,MM.mpr (vJ (m+1) (by omega))];exact Ia rfl
def G4(n:Int):∀c∈L (nstr n),c=45\/(48<=c/\c<=57):=by
 have hd:∀m,∀c∈dg m,48<=c/\c<=57:=λm c a=>by have:=IC.mp (qB m) c a;simpa [dL] using this
 intro c a;rcases nV n with⟨m,rfl⟩|⟨m,rfl⟩
 ·rw[oG]at a;exact .inr (hd m c a)
 ·rw[oN]at a;rcases Ik.mp a with e|a
  ·exact .inl e
  ·exact .inr (hd _ c a)
def cK{n:Int}(h:n.natAbs<10000):(nstr n).length<=5:=by
 have e:(nstr n).length=(L (nstr n)).length:=by unfold L;rw[Jl];rfl
 rw[e];rcases nV n with⟨m,rfl⟩|⟨m,rfl⟩
 ·rw[oG];have:=lK 3 m (by omega);omega
 ·rw[oN,Ij];have:=lK 3 (m+1) (by omega);omega
def wy{w:Str}{n:Int}(h:bv w=some n):intText? w=some n/\w.length<=5:=by
 have e:w.length=(L w).length:=by unfold L;rw[Jl];rfl
 have g:∀{l:List Nat},cR l=true->1<=l.length/\l.length<=4/\NumText.AllDigits l:=λ{l} h=>by
  unfold cR at h;simp only[Iz,IZ]at h;refine⟨h.1.1,h.1.2,λc m=>?_⟩;have:=IC.mp h.2 c m;simpa [dL] using this
 unfold bv fP at h;split at h
 ·next r hr=>
  split at h
  ·next c=>
   cases h;obtain⟨a,j,f⟩:=g (Bool.and_eq_true_iff.mp c).1
   have o:w.length<=5:=by rw[e,hr,Ij];omega
   exact⟨intText_neg hr f (by intro z;rw[z]at a;cases a) (by omega),o⟩
  ·cases h
 ·split at h
  ·next c=>
   cases h;obtain⟨a,j,f⟩:=g (Bool.and_eq_true_iff.mp c).1;exact⟨intText_digits f (by intro z;have z:L w=[]:=z;rw[z]at a;cases a) (by omega),by omega⟩
  ·cases h
noncomputable abbrev Tm:=Int×Str
noncomputable def db:List Str->Option (List Tm)
 | [a,b]=>match bv a with
  |some n=>if bD b then some [(n,b)] else none
  |none=>none
 |a::b::p::c=>match bv a with
  |some n=>if bD b then (if p="+" then (db c).map ((n,b)::·) else none) else none
  |none=>none
 |_=>none
noncomputable def eM(ws:List Str):Option (List Tm):=if ws=[("0":Str)] then some [] else if ws.length % 3=2 then db ws else none
noncomputable def aS:List Tm->List Str
 | []=>["0"]
 | [(n,x)]=>[nstr n,x]
 |(n,x)::r=>nstr n::x::"+"::aS r
noncomputable def fU(t:Tm):Prop:=t.1.natAbs<10000/\bD t.2=true
def n6:∀{ts:List Tm},ts≠[]->(∀t∈ts,fU t)->db (aS ts)=some ts/\(aS ts).length % 3=2/\2<=(aS ts).length
 | [],h,_=>absurd rfl h
 | [(n,x)],_,h=>by
  obtain⟨a,c⟩:=h _ Ie;refine⟨?_,rfl,Ih _⟩;show (match bv (nstr n)with|some n=>if bD x then some [(n,x)] else none|none=>none)=_;rw[iA a];exact Ia c
 |(n,x)::(m,y)::r,_,h=>by
  obtain⟨a,c⟩:=h _ Ie;obtain⟨e,g,j⟩:=n6 (ts:=(m,y)::r) (by simp) λt f=>h t (Ic _ f);refine⟨?_,?_,?_⟩
  ·show (match bv (nstr n)with|some n=>if bD x then (if ("+":Str)="+" then (db (aS ((m,y)::r))).map ((n,x)::·) else none) else none|none=>none)=_;rw[iA a,e];show (if bD x=true then _ else _)=_;rw[Ia c,Ia rfl];rfl
  ·show ((aS ((m,y)::r)).length+1+1+1) % 3=2;omega
  ·show 2<=(aS ((m,y)::r)).length+1+1+1;omega
def qN{ts:List Tm}(h:∀t∈ts,fU t):eM (aS ts)=some ts:=by
 unfold eM
 cases ts with
 |nil=>exact Ia rfl
 |cons t r=>
  obtain⟨c,f,a⟩:=n6 (ts:=t::r) (by simp) h;rw[Ib (λe=>by rw[e]at a;simp at a),Ia f,c]
inductive Frm where
 |unk (x:Str) (l:Int) (m:Option Int)
 |row (ts:List Tm) (b:Int) (t:Bool)
 |worth (ts:List Tm) (s:Int)
noncomputable def aO(ws:List Str)(i:Nat):Str:=ws.getD i ""
noncomputable def gM(ws:List Str):Option Frm:=
 if (ws.length=4\/ws.length=6)/\aO ws 2="from"/\bD (aO ws 1)=true then
  match bv (aO ws 3)with
  |none=>none
  |some l=>if ws.length=4 then some (.unk (aO ws 1) l none) else
   match bv (aO ws 5)with
   |none=>none
   |some m=>if aO ws 4="to" then some (.unk (aO ws 1) l (some m)) else none
 else none
noncomputable def jt(ws:List Str):Option Frm:=
 if 5<=ws.length/\aO ws (ws.length-3)="at"/\(aO ws (ws.length-2)="least"\/aO ws (ws.length-2)="most") then
  match eM ((ws.drop 1).take (ws.length-4)),bv (aO ws (ws.length-1))with
  |some ts,some b=>some (.row ts b (aO ws (ws.length-2) == "most"))
  |_,_=>none
 else none
noncomputable def il(ws:List Str):Option Frm:=(eM (ws.drop 1)).map λts=>.worth ts (if aO ws 0="most" then 1 else -1)
noncomputable def pR(ws:List Str):Option Frm:=
 if aO ws 0="unknown" then gM ws else if aO ws 0="row" then jt ws else if aO ws 0="most"\/aO ws 0="least" then il ws else none
noncomputable def gU(x:Str):Option Frm:=pR (Txt.split x " ")
noncomputable def cA(t:Bool)(b:Int):List Str:=[("at":Str),(if t then ("most":Str) else ("least":Str)),nstr b]
noncomputable def bY:Frm->List Str
 |.unk x l none=>["unknown",x,"from",nstr l]
 |.unk x l (some m)=>["unknown",x,"from",nstr l,"to",nstr m]
 |.row ts b t=>"row"::(aS ts++cA t b)
 |.worth ts s=>(if s=1 then ("most":Str) else ("least":Str))::aS ts
noncomputable def eJ:Frm->Prop
 |.unk x l m=>bD x=true/\l.natAbs<10000/\∀k,m=some k->k.natAbs<10000
 |.row ts b _=>(∀t∈ts,fU t)/\b.natAbs<10000
 |.worth ts s=>(∀t∈ts,fU t)/\(s=1\/s = -1)
def FH{f:Frm}(h:eJ f):pR (bY f)=some f:=by
 cases f with
 |unk x l m=>
  obtain⟨a,c,e⟩:=h
  cases m with
  |none=>
   show gM ["unknown",x,"from",nstr l]=_;unfold gM;rw[Ia ⟨.inl rfl,rfl,a⟩];show (match bv (nstr l)with|none=>none|some l=>some (Frm.unk x l none))=_;rw[iA c]
  |some m=>
   show gM ["unknown",x,"from",nstr l,"to",nstr m]=_;unfold gM;rw[Ia ⟨.inr rfl,rfl,a⟩];show (match bv (nstr l)with|none=>none|some l=>match bv (nstr m)with|none=>none|some m=>some (Frm.unk x l (some m)))=_;rw[iA c,iA (e m rfl)]
 |row ts b t=>
  obtain⟨a,c⟩:=h;show jt ("row"::(aS ts++cA t b))=_
  have o:1<=(aS ts).length:=by
   cases ts with
   |nil=>exact Ih _
   |cons t r=>have:=(n6 (ts:=t::r) (by simp) a).2.2;omega
  have g:(("row":Str)::(aS ts++cA t b)).length=(aS ts).length+4:=by simp[cA]
  have at_:∀k,k<3->aO ("row"::(aS ts++cA t b)) ((aS ts).length+1+k)=aO (cA t b) k:=λk j=>by
   unfold aO;rw[show (aS ts).length+1+k=((aS ts).length+k)+1 by omega];show (aS ts++cA t b).getD ((aS ts).length+k) ""=_;rw[Jp,HX (by omega),Ka];rfl
  unfold jt;rw[g];have a0:=at_ 0 (by omega);have a1:=at_ 1 (by omega);have a2:=at_ 2 (by omega);rw[show (aS ts).length+4-3=(aS ts).length+1+0 by omega,show (aS ts).length+4-2=(aS ts).length+1+1 by omega,show (aS ts).length+4-1=(aS ts).length+1+2 by omega,show (aS ts).length+4-4=(aS ts).length by omega,a0,a1,a2]
  have hd:((("row":Str)::(aS ts++cA t b)).drop 1).take (aS ts).length=aS ts:=by show (aS ts++_).take (aS ts).length=_;rw[List.take_append_of_le_length (Ih _),Kf]
  rw[hd,qN a];show (if 5<=(aS ts).length+4/\("at":Str)="at"/\((if t then ("most":Str) else "least")="least"\/(if t then ("most":Str) else "least")="most") then (match some ts,bv (nstr b)with|some ts,some b=>some (Frm.row ts b ((if t then ("most":Str) else "least") == "most"))|_,_=>none) else none)=_;rw[iA c]
  cases t with
  |true=>rw[Ia ⟨by omega,rfl,.inr rfl⟩];rfl
  |false=>rw[Ia ⟨by omega,rfl,.inl rfl⟩];rfl
 |worth ts s=>
  obtain⟨a,c⟩:=h;rcases c with rfl|rfl
  ·show il ("most"::aS ts)=_;unfold il;show (eM (aS ts)).map _=_;rw[qN a];rfl
  ·show il ("least"::aS ts)=_;unfold il;show (eM (aS ts)).map _=_;rw[qN a];rfl
noncomputable def iK(w:Str):Prop:=∀c∈L w,33<=c/\c<=126
def ig(n:Int):iK (nstr n):=λc a=>by have:=G4 n c a;omega
def lL{w:Str}(h:bD w=true):iK w:=λc a=>by
 unfold bD at h;simp only[Iz]at h;have:=IC.mp h.2 c a;simp[eE]at this;omega
def mi{w:Str}(h:(L w).all (λc=>33<=c&&c<=126)=true):iK w:=λc a=>by have:=IC.mp h c a;simpa using this
def oF:∀{ts:List Tm},(∀t∈ts,fU t)->∀w∈aS ts,iK w
 | [],_,w,a=>by rw[Ip.mp a];exact mi (by lia)
 | [(n,x)],h,w,a=>by
  simp only[aS,Ik,IQ,JJ]at a;rcases a with rfl|rfl
  ·exact ig n
  ·exact lL (h _ Ie).2
 |(n,x)::(m,y)::r,h,w,a=>by
  rcases Ik.mp (show w∈nstr n::x::("+":Str)::aS ((m,y)::r)from a)with rfl|a
  ·exact ig n
  rcases Ik.mp a with rfl|a
  ·exact lL (h _ Ie).2
  rcases Ik.mp a with rfl|a
  ·exact mi (by lia)
  ·exact oF (λt c=>h t (Ic _ c)) w a
def oB{f:Frm}(h:eJ f):∀w∈bY f,iK w:=by
 intro w a
 have k:∀z∈(["unknown","from","to","row","at","most","least"]:List Str),iK z:=λz e=>by
  have:∀z∈(["unknown","from","to","row","at","most","least"]:List Str),(L z).all (λc=>33<=c&&c<=126)=true:=by lia
  exact mi (this z e)
 cases f with
 |unk x l m=>
  cases m with
  |none=>
   simp only[bY,Ik,IQ,JJ]at a;rcases a with rfl|rfl|rfl|rfl
   ·exact k _ (by simp)
   ·exact lL h.1
   ·exact k _ (by simp)
   ·exact ig _
  |some m=>
   simp only[bY,Ik,IQ,JJ]at a;rcases a with rfl|rfl|rfl|rfl|rfl|rfl
   ·exact k _ (by simp)
   ·exact lL h.1
   ·exact k _ (by simp)
   ·exact ig _
   ·exact k _ (by simp)
   ·exact ig _
 |row ts b t=>
  rcases Ik.mp (show w∈("row":Str)::(aS ts++cA t b)from a)with rfl|a
  ·exact k _ (by simp)
  rcases II.mp a with a|a
  ·exact oF h.1 w a
  ·simp only[cA,Ik,IQ,JJ]at a;rcases a with rfl|rfl|rfl
   ·exact k _ (by simp)
   ·cases t<;>exact k _ (by simp)
   ·exact ig _
 |worth ts s=>
  rcases Ik.mp (show w∈(if s=1 then ("most":Str) else ("least":Str))::aS ts from a)with rfl|a
  ·split<;>exact k _ (by simp)
  ·exact oF h.1 w a
noncomputable def aW(f:Frm):Str:=Str.join " " (bY f)
def BQ{f:Frm}(h:eJ f):gU (aW f)=some f:=by
 unfold gU aW
 have c:(" ":Str)=⟨#[32]⟩:=by decide
 have a:bY f≠[]:=by
  cases f with
  |unk x l m=>cases m<;>simp[bY]
  |row ts b t=>simp[bY]
  |worth ts s=>simp[bY]
 rw[c,qa a λw g e=>by have:=oB h w g 32 e;omega];exact FH h
def pQ{c:Nat}{s:Str}:∀{ws:List Str},c∈L (Str.join s ws)->c∈L s\/∃w∈ws,c∈L w
 | [],h=>by cases h
 | [x],h=>.inr ⟨x,Ie,h⟩
 |x::y::r,h=>by
  rw[i4]at h;rcases II.mp h with h|h
  ·exact .inr ⟨x,Ie,h⟩
  ·rcases II.mp h with h|h
   ·exact .inl h
   ·rcases pQ h with h|⟨w,a,h⟩
    ·exact .inl h
    ·exact .inr ⟨w,Ic _ a,h⟩
def FY{f:Frm}(h:eJ f):∀c∈L (aW f),32<=c/\c<=126:=λc a=>by
 rcases pQ a with a|⟨w,g,a⟩
 ·have e:L (" ":Str)=[32]:=by decide
  rw[e]at a;have:=Ip.mp a;omega
 ·have:=oB h w g c a;omega
end Tx
namespace L2
open PySem PySem.Spec PyProof.Rows
def sT:∀l:List (Str×Tok),Vals ((l.map (·.1)).map V.str) (strValues l)
 | []=>.nil
 |(x,t)::l=>.cons ⟨t,rfl⟩ (sT l)
def we(K:Frag)(c:Hp):∀a:List Str,RpL K c (a.map D.str) (a.map V.str)
 | []=>.nil
 |z::a=>.cons (.str z) (we K c a)
noncomputable def Gv:V->List V->Hp->VK->Prop:=λx vs H Q=>∃a b:Str,x=.str a/\vs=[.str b]/\(b.length==0)=false/\a.length+2<=sizeLine/\∀p,H p=none->Q (.ref p) (aj H p (.lst ((Txt.split a b).map V.str)))
section
variable{X:Cx}
def EH:jr X "str.split" Gv:=by
 intro c s p H x vs v us Q I z y h;obtain⟨a,b,rfl,rfl,o,hsz,q⟩:=h;obtain⟨t,rfl⟩:=z;obtain⟨u,rfl,w⟩:=y.one;obtain⟨m,rfl⟩:=w
 have f:∀(l:List (Str×Tok))(k:Nat),l.map (·.1)=Txt.split a b->EP X c p Q (.ref s.heap.objs.size) { s with heap:=s.heap.push { cls:=.type "list",data:=.seq (strValues l).toArray },toks:=k }:=λl k e=>by
  have j:H s.heap.objs.size=none:=I.hok.fresh (Ih _)
  have r:((Txt.split a b).map V.str).length<=sizeLine:=by rw[HV];exact IF (split_le a b) hsz
  refine⟨.ref s.heap.objs.size,aj H s.heap.objs.size (.lst ((Txt.split a b).map V.str)),I.laid (t':=k) (λb u e=>Ig _ e) (Ih _) ?_,rfl,q _ j⟩;exact⟨r,strValues l,0,by rw[←e];exact sT l,Iy _ rfl⟩
 have A:a.length<=sizeLine:=by omega
 have B:(Builtin.Str.partsBetween a (Builtin.Str.occurrences a b 0 a.length (a.length+1)) b.length).length<=sizeLine:=by
  rw[length_partsBetween];have:=StrLaws.occ_length_le a b 0 a.length (a.length+1);omega
 cases g:(decide (a.length<b.length) ||decide (Builtin.Str.strKind a<Builtin.Str.strKind b))
 ·cases j:(Builtin.Str.occurrences a b 0 a.length (a.length+1)).isEmpty
  ·refine JU Mp (Lw _ _ _) L4 (LU _ _) (meets_str_split_sep a b t m g o j A B) ?_;show EP X c p Q _ { s with toks:=_,heap:=s.heap.push { cls:=.type "list",data:=.seq (strsFrom s.toks (Builtin.Str.partsBetween a (Builtin.Str.occurrences a b 0 a.length (a.length+1)) b.length)).toArray } };rw[strsFrom_eq];exact f (numbered s.toks _) _ ((numbered_texts _ _).trans ((Ib (LI g)).trans (Ib (LI j))).symm)
  ·exact JU Mp (Lw _ _ _) L4 (LU _ _) (meets_str_split_not_found a b t m g o j)
    (f [(a,t)] s.toks ((Ib (LI g)).trans (Ia j)).symm)
 ·exact JU Mp (Lw _ _ _) L4 (LU _ _) (meets_str_split_cannot_occur a b t m g)
   (f [(a,t)] s.toks (Ia g).symm)
noncomputable def zA:V->List V->Hp->VK->Prop:=λx vs H Q=>∃a b:Str,x=.str a/\vs=[.str b]/\Q (.bl (Txt.startswith a b)) H
def DI:jr X "str.startswith" zA:=by intro c s l H x vs v us Q I g f h;obtain⟨a,b,rfl,rfl,q⟩:=h;obtain⟨t,rfl⟩:=g;obtain⟨u,rfl,e⟩:=f.one;obtain⟨j,rfl⟩:=e;exact SC.startswith ⟨.bl _,H,I,rfl,q⟩
noncomputable def He(K:Frag):V->List V->Hp->VK->Prop:=λx vs H Q=>∃(a:Str)(p:Addr)(c:List Str),x=.str a/\vs=[.ref p]/\SqL K H p (c.map V.str)/\JoinOk a c=true/\Q (.str (Txt.join a c)) H
def Ci:jr X "str.join" (He X.K):=by intro a s z H x vs v us Q I j g h;obtain⟨m,p,y,rfl,rfl,c,hok,q⟩:=h;obtain⟨t,rfl⟩:=j;obtain⟨u,rfl,f⟩:=g.one;cases f;obtain⟨o,r,pl,w⟩:=I.list c;obtain⟨l,rfl,e⟩:=ut r;exact SC.join pl.isList e hok λt' k=>⟨.str _,H,I.tok k,⟨t',rfl⟩,q⟩
end
section
variable{K:Frag}{X:Cx}{a b:Expr}{ta tb:TD}{apos MW pos:Pos}{tg e:Expr}{t:TD}
noncomputable def zg(ta tb:TD):aX:=λρ R=>ta ρ λx=>∃s,x=.str s/\tb ρ λy=>∃c,y=.str c/\(c.length==0)=false/\s.length+2<=sizeLine/\R ((Txt.split s c).map D.str)
def tS(A:PQ K X a ta)(B:PD K X b tb)(z:((backTo MW (starEach [b] X.env)).all (λx=>!x.1)&&(backToKw MW (keywordEach [] X.env)).all (λx=>x.1.isSome)&&decide (([b]:List Expr).length+([]:List Keyword).length+(if ([]:List Keyword).isEmpty then 0 else 1)<30))=true)
  (o:starEach [b] X.env=(false,eval b X.env)::starEach [] X.env) (u:attributeBase a "split" X.env (eval a X.env)=eval a X.env:=by rfl) (v:(apos.endLine==MW.line)=true:=by rfl):PF K X (.Call (.Attribute a "split" apos) [b] [] MW) (zg ta tb):=
 ⟨λr=>(hG Ld PySem.F.slot_str_split PySem.F.type_str_split EH (A.pe r) (dA (B.pe r) pa_nil o) u z v o ag).imp λU H Q w=>by
  obtain⟨m,M,ρ,R,E,t,k⟩:=w;refine⟨m,M,ρ,_,E,t,λS l O x j g G=>?_⟩;obtain⟨s,rfl,j⟩:=j;cases G.str;refine⟨rfl,m,l,ρ,_,E.gr g,j,λT N P y J f I=>?_⟩;obtain⟨c,rfl,C,F,q⟩:=J;obtain rfl:=I.s
  exact⟨s,c,rfl,rfl,C,F,λp h=>k _ _ _ p _ q ((g.trans f).trans (.fresh f.s h _)) ((g.trans f).h.free h) (f.s.free h) bg (we K _ _)⟩⟩
noncomputable def yj(ta tb:TD):TD:=λρ R=>ta ρ λx=>∃s,x=.str s/\tb ρ λy=>∃c,y=.str c/\R (.bl (Txt.startswith s c))
def xP(w:PQ K X a ta)(z:PD K X b tb)(u:((backTo MW (starEach [b] X.env)).all (λx=>!x.1)&&(backToKw MW (keywordEach [] X.env)).all (λx=>x.1.isSome)&&decide (([b]:List Expr).length+([]:List Keyword).length+(if ([]:List Keyword).isEmpty then 0 else 1)<30))=true)
  (j:starEach [b] X.env=(false,eval b X.env)::starEach [] X.env) (o:attributeBase a "startswith" X.env (eval a X.env)=eval a X.env:=by rfl) (p:(apos.endLine==MW.line)=true:=by rfl):PD K X (.Call (.Attribute a "startswith" apos) [b] [] MW) (yj ta tb):=
 ⟨λm=>(hG Ld PySem.F.slot_str_startswith PySem.F.type_str_startswith DI (w.pe m) (dA (z.pe m) pa_nil j) o u p j ag).imp λO H Q r=>by
  obtain⟨h,F,ρ,R,E,t,k⟩:=r;refine⟨h,F,ρ,_,E,t,λM g I x f l A=>?_⟩;obtain⟨s,rfl,f⟩:=f;cases A.str;refine⟨rfl,h,g,ρ,_,E.gr l,f,λN G J y C v B=>?_⟩;obtain⟨c,rfl,q⟩:=C;obtain rfl:=B.s
  exact⟨s,c,rfl,rfl,k _ _ _ _ q (l.trans v) (.bl _)⟩⟩
noncomputable def CI(ta tb:TD):TD:=λρ R=>ta ρ λx=>∃c,x=.str c/\tb ρ λy=>∃f:List Str,y=.lst (f.map D.str)/\JoinOk c f=true/\R (.str (Txt.join c f))
def jP(B:PQ K X a ta)(C:PD K X b tb)(A:((backTo MW (starEach [b] X.env)).all (λx=>!x.1)&&(backToKw MW (keywordEach [] X.env)).all (λx=>x.1.isSome)&&decide (([b]:List Expr).length+([]:List Keyword).length+(if ([]:List Keyword).isEmpty then 0 else 1)<30))=true)
  (l:starEach [b] X.env=(false,eval b X.env)::starEach [] X.env) (v:attributeBase a "join" X.env (eval a X.env)=eval a X.env:=by rfl) (w:(apos.endLine==MW.line)=true:=by rfl):PD K X (.Call (.Attribute a "join" apos) [b] [] MW) (CI ta tb):=
 ⟨λr=>(hG Ld PySem.F.slot_str_join PySem.F.type_str_join Ci (B.pe r) (dA (C.pe r) pa_nil l) v A w l ag).imp λT H Q z=>by
  obtain⟨j,N,ρ,R,E,t,k⟩:=z;refine⟨j,N,ρ,_,E,t,λP g O x f m G=>?_⟩;obtain⟨c,rfl,f⟩:=f;cases G.str;refine⟨rfl,j,g,ρ,_,E.gr m,f,λS h u y J o I=>?_⟩;obtain⟨M,rfl,hok,q⟩:=J;obtain⟨p,vs,rfl,F,rl⟩:=(RpQ.lst o.s (.inl I));cases Cy rl
  exact⟨c,p,M,rfl,rfl,SqL.of F,hok,k _ h u _ q (m.trans o) (.str _)⟩⟩
noncomputable def CC(f:Bool):bW:=λg h R=>∃(c:Nat)(y:Str),g=.str ⟨#[c]⟩/\h=.str y/\R (.bl (f != decide (c∈y.cps.toList)))
def uJ:OpD K X (compareOp .In) (CC false):=⟨λC f s G H x y u v Q I o p g=>by
 obtain⟨w,A,B,R,r,j,l,⟨c,z,rfl,rfl,h⟩,m⟩:=g;cases j.str;cases l.str;obtain⟨E,rfl⟩:=o;obtain⟨F,rfl⟩:=p;refine P.in_str ⟨.bl _,H,I,rfl,?_⟩;rw[StrLaws.found_one]
 exact m _ w H _ (by rw[Kr]at h;exact h) (.refl r) (.bl _)⟩
noncomputable def nU(x:Str):It:=⟨λi _=>i<x.cps.size,λi H v f=>f=H/\∃c,x.cps[i]?=some c/\v=.str ⟨#[c]⟩,λi _=>x.cps.size<=i⟩
def zE{P:Program}{w:World}{K:Frag}{tg:Expr}(x:Str)(t:Tok)(l:Addr):Turn P w K tg (nU x) [l] l (λi h=>h.IsStrIter l "str_ascii_iterator" x t i) where
 mem:=by simp
 obj:=λi h st b g=>by
  have e:b=l:=by simpa using g
  subst e;obtain⟨o,e,c,d⟩:=st;exact⟨o,e,λv z=>by rw[d]at z;cases z⟩
 keep:=λi h h' st k=>let ⟨o,ho,r⟩:=st;⟨o,k l (by simp) o ho,r⟩
 item:=by
  intro X F G C M i f s O H E I m st j;subst F G C;have j:i<x.cps.size:=j;obtain⟨p,u,S,y,A,B⟩:=m l (by simp)
  have N:x.cps[i]?=some x.cps[i]:=by simp[j]
  refine wpAny_pyNext_ascii_item st N λh' J T=>?_;have Q:Inv X f O H { s with heap:=h',toks:=s.toks+1 }:=I.turned (λb o g e=>(T.2 b g).trans e) p u y A B;obtain⟨o,e,c,d⟩:=id J;exact⟨_,rfl,kH (s:={ s with heap:=h',toks:=s.toks+1 }) e c d (by decide) ⟨.str ⟨#[x.cps[i]]⟩,H,Q,⟨_,rfl⟩,⟨rfl,_,N,rfl⟩,J,λb g=>(m b g).1⟩⟩
 done:=by
  intro X F G C M i f s O H E I m st j;subst F G C;have j:x.cps.size<=i:=j;obtain⟨p,u,S,y,A,B⟩:=m l (by simp);exact wpAny_pyNext_ascii_end (I.ok.hd M) st (by simp[j]) λh' R=>⟨rfl,I.turned (t':=s.toks) (λb o g e=>R b o g e) p u y A B⟩
 self:=λ_ _ _ _ _ st h=>wpAny_pyIter_striter_ascii st h
noncomputable def CQ(f:TE):TI:=λg H R=>f g H λx c=>∃z,x=.str z/\z.cps.all (·<128)=true/\R (nU z) c
def Hu{l:Expr}{j:TE}(w:PE X l j):PI X tg l (CQ j):=by
 intro c s A H R I h;refine aq (w c s A H _ I h) λv f p=>?_;obtain⟨x,m,g,y,z,rfl,r,q⟩:=p;obtain⟨t,rfl⟩:=y;refine wpAny_pyIter_ascii r ?_;refine⟨f.heap.objs.size,[f.heap.objs.size],_,_,m,rfl,g.kept (t':=f.toks) λb o e=>Ig _ e,zE z t _,⟨_,Iy _ rfl,rfl,rfl⟩,λb u=>?_,q⟩
 have e:b=f.heap.objs.size:=by simpa using u
 subst e;exact g.fpOk (Ih _) (g.hok.fresh (Ih _))
noncomputable def qf(c:Nat):Str:=⟨#[c]⟩
noncomputable def kn(x:Str):List D:=x.cps.toList.map λc=>D.str (qf c)
def DD(j:Hp)(x:Str):SteadyD K (nU x) j (kn x):=by
 have g:(kn x).length=x.cps.size:=by unfold kn;rw[HV,Jl]
 refine⟨λi H s f=>(by rw[g]at f;exact f),λi l H v m d o s hd y=>?_,λH s=>Lv g.symm⟩;obtain⟨rfl,c,h,rfl⟩:=y;unfold kn at hd;rw[Ii,Lk,h]at hd;cases hd;exact⟨_,.refl s,.str _⟩
noncomputable def Cq(t:TD):aX:=λρ R=>t ρ λd=>∃x,d=.str x/\x.cps.all (·<128)=true/\R (kn x)
def tJ(h:PD K X e t):PID K X tg e (Cq t):=⟨λm=>(Hu (h.pe m)).imp λy H w l=>by
 obtain⟨f,u,ρ,R,E,t,k⟩:=l;refine⟨f,u,ρ,_,E,t,λd c j v r g p=>?_⟩;obtain⟨x,rfl,o,r⟩:=r;obtain rfl:=p.s
 exact⟨x,rfl,o,k _ c j _ r g (DD c x)⟩⟩
noncomputable def HC:b9:=λds R=>∃i:Int,ds=[.int i]/\i.natAbs<2^1900/\R (.str (Tx.nstr i))
def vv{i:Int}(h:i.natAbs<2^1900):i.natAbs.log2<1920:=by
 by_cases c:i.natAbs=0
 ·rw[c];decide
 ·exact IT ((Nat.log2_lt c).mpr h) (by decide)
noncomputable def Fp:b9:=λds R=>∃(x:Str)(n:Int),ds=[.str x]/\x.length<=640/\intText? x=some n/\R (.int n)
def HB:CallD K X (.type "int") Fp:=⟨λy c s z H xs us Q I m f=>by
 obtain⟨w,ds,R,p,g,⟨x,n,rfl,l,j,h⟩,k⟩:=f;obtain⟨v,rfl,r⟩:=eW g;cases r.str;obtain⟨u,rfl,o⟩:=m.one;obtain⟨t,rfl⟩:=o
 exact PySem.W.KIN.call_text j l ⟨.int n,H,I.tok _,⟨_,rfl⟩,k _ w H _ h (.refl p) (.int n)⟩⟩
def gv:CallD K X (.type "str") HC:=⟨λw c s x H xs us Q I l f=>by
 obtain⟨p,ds,R,o,g,⟨i,rfl,j,h⟩,k⟩:=f;obtain⟨v,rfl,r⟩:=eW g;cases r.int;obtain⟨u,rfl,m⟩:=l.one;obtain⟨t,rfl⟩:=m
 exact P.str_of_int (vv j) ⟨.str _,H,I.tok _,⟨_,rfl⟩,k _ p H _ h (.refl o) (.str _)⟩⟩
def vj{x y:Str}{c:Tok}(g:Gl X x)(h:X.mg x=some (.str y c))(hd:(x==("__debug__":Str))=false:=by decide):PD K X (.Name x pos) (uN (.str y)):=
 ⟨λm=>(uI (v:=.str y) g h ⟨c,rfl⟩ hd).imp λo H Q f=>by
  obtain⟨l,j,ρ,R,E,t,k⟩:=f
  exact k _ j H _ t (.refl E.fz) (.str y)⟩
end
noncomputable abbrev fV:=bT->(Str->Prop)->Prop
structure PJ(K:Frag)(X:Cx)(e:Expr)(t:fV):Prop where
 pj:X.K=K->∀(pins:List (Addr×Obj))(s:Shared)(σ:St)(H0 Φ H:Hp)(ρ:bT)(R:Str->Prop)(Q:Str->Hp->Prop),Inv X pins σ H s->EnvD K H0 Φ H σ ρ->t ρ R->(∀y Φ' H',R y->Gr Φ H Φ' H'->Q y H')->
  wpAny (model X.prog X.w) X.A (eval e X.env) (λv s1=>∃y tk Φ' H',v=.str y tk/\Inv X pins σ H' s1/\Gr Φ H Φ' H'/\R y/\Q y H') X.xe s
structure PJs(K:Frag)(X:Cx)(es:List Expr)(t:fV):Prop where
 pj:X.K=K->∀(pins:List (Addr×Obj))(s:Shared)(σ:St)(H0 Φ H:Hp)(ρ:bT)(R:Str->Prop)(Q:VK)(out:Str),Inv X pins σ H s->EnvD K H0 Φ H σ ρ->t ρ R->out.length+1000000*es.length<=sizeLine->(∀y Φ' H',R y->Gr Φ H Φ' H'->Q (.str (out++y)) H')->
  wpAny (model X.prog X.w) X.A (joinParts out (evalEach es X.env)) (EP X pins σ Q) X.xe s
section
variable{K:Frag}{X:Cx}{e e2:Expr}{es:List Expr}{pos:Pos}{t u:fV}{ta:TD}
noncomputable def jC(x:Str):fV:=λ_ R=>R x
def fK{x:Str}{j}:PJ K X (.Constant (.str x) j pos) (jC x):=⟨λy a s r w f H ρ R Q I E h k=>by
 refine JF (sU a s r H (λv g=>v=.str x/\g=H) I ⟨rfl,rfl⟩) (λv z m=>?_) λ_ _ h=>h;obtain⟨A,c,l,o,rfl,rfl⟩:=m;obtain⟨p,rfl⟩:=o
 exact⟨x,p,f,c,rfl,l,.refl E.fz,h,k _ f c h (.refl E.fz)⟩⟩
noncomputable def jV(t:TD):fV:=λρ R=>t ρ λd=>match d with|.str x=>x.length<=1000000/\R x|.int i=>i.natAbs<2^1900/\R (Tx.nstr i)|_=>False
def fj(h:PD K X e ta):PJ K X (.FormattedValue e (-1) none pos) (jV ta):=⟨λA f s F y w H ρ R Q I E B k=>by
 refine FormattedValue_plain (aq (h.pe A f s F H (λv m=>∃d a,Gr w H a m/\Rp K a d v/\(match d with|.str x=>x.length<=1000000/\R x|.int i=>i.natAbs<2^1900/\R (Tx.nstr i)|_=>False)) I ⟨y,w,ρ,_,E,B,λd a m v r g l=>⟨d,a,g,l,r⟩⟩) λv J z=>?_);obtain⟨M,j,o,l,d,c,g,p,r⟩:=z
 cases d with
 |str x=>
  obtain rfl:=p.s;obtain⟨C,rfl⟩:=l;exact formatField_str (λt' G=>⟨x,t',c,j,rfl,o.tok _,g,r.2,k _ c j r.2 g⟩) (by have:=r.1;have:=Ju;omega)
 |int i=>
  obtain rfl:=p.i;obtain⟨C,rfl⟩:=l;exact formatField_int_small (vv r.1) ⟨Tx.nstr i,_,c,j,rfl,o.tok _,g,r.2,k _ c j r.2 g⟩
 |_=>exact r.elim⟩
noncomputable def BF(t:fV):fV:=λρ R=>t ρ λy=>y.length<=1000000/\R y
noncomputable def Db(t u:fV):fV:=λρ R=>t ρ λy=>y.length<=1000000/\u ρ λz=>R (y++z)
def fE(a b:Str):(a++b).length=a.length+b.length:=by show (a.cps++b.cps).size=a.cps.size+b.cps.size;rw[Array.size_append]
def jj(h:PJ K X e t):PJs K X [e] (BF t):=⟨λp f s B m A H ρ R Q c I E z x k=>by
 refine joinParts_cons (JF (h.pj p f s B m A H ρ _ (λy a=>y.length<=1000000/\Q (.str (c++y)) a) I E z λy j a r g=>⟨r.1,k y j a r.2 g⟩) (λv F w=>?_) λ_ _ h=>h);obtain⟨y,G,j,a,rfl,o,g,r,C,q⟩:=w
 have l:(c++y).length<=sizeLine:=by rw[fE];simp only[Ij,Jh]at x;omega
 exact⟨l,joinParts_nil ⟨.str _,a,o.tok _,⟨_,rfl⟩,q⟩ l⟩⟩
def dG(h:PJ K X e t)(F:PJs K X es u):PJs K X (e::es) (Db t u):=⟨λm a s o l O H ρ R Q c I E J G k=>by
 refine joinParts_cons (JF (h.pj m a s o l O H ρ _ (λ_ _=>True) I E J λ_ _ _ _ _=>trivial) (λv N C=>?_) λ_ _ h=>h);obtain⟨y,S,f,p,rfl,x,g,⟨P,r⟩,_⟩:=C;rw[Ij]at G
 have B:(c++y).length<=sizeLine:=by rw[fE];omega
 refine⟨B,F.pj m a N o l f p ρ _ Q (c++y) x (E.gr g) r (by rw[fE];omega) λz j w M A=>?_⟩;rw[PySem.Str.append_assoc]
 exact k (y++z) j w M (g.trans A)⟩
noncomputable def CN(t:fV):TD:=λρ R=>t ρ λy=>R (.str y)
def js(h:PJs K X (e::e2::es) t)(o:Nat.ble es.length 10=true:=by rfl):PD K X (.JoinedStr (e::e2::es) pos) (CN t):=⟨λm a s v H Q I l=>by
 obtain⟨j,p,ρ,R,E,t,k⟩:=l;refine JoinedStr_many ?_;refine h.pj m a s v j p H ρ _ Q Str.empty I E t ?_ λy c f r g=>?_
 ·have:=MH o;have:=Ju;simp only[Ij];show 0+_<=_;omega
 ·rw[PySem.Str.empty_append]
  exact k _ c f _ r g (.str y)⟩
end
noncomputable def oZ(lo st:Int)(n:Nat):It:=⟨λi _=>i<n,λi H x a=>a=H/\x=.int (lo+i*st),λi _=>n<=i⟩
def Hc{P:Program}{w:World}{K:Frag}{R:Expr}(a:Addr)(lo st:Int)(n:Nat):Turn P w K R (oZ lo st n) [a] a (λi h=>IsRangeIter h a (lo+(i:Nat)*st) ((n:Int)-(i:Nat)) st) where
 mem:=by simp
 obj:=λi h st b f=>by
  have e:b=a:=by simpa using f
  subst e
  exact⟨_,st,λv z=>by
   have S:Data.fields _=Data.cell v:=z
   cases S⟩
 keep:=λi h h' st k=>k a (by simp) _ st
 item:=by
  intro X y C x A i c s G H E I j g B;subst y C x;obtain⟨l,m,N,p,r,u⟩:=j a (by simp);have W:=Walks.range (prog:=X.prog) (w:=X.w) (I.ok.hd A) a lo st n;refine W.item i s _ _ B g λv h' F O g Q=>?_;obtain⟨t,rfl⟩:=O;have J:Inv X c G H { s with heap:=h',toks:=F }:=I.turned (λb o f e=>Q b o (by simpa using f) e) l m p r u;exact⟨_,rfl,kH (s:={ s with heap:=h',toks:=F }) (n:="range_iterator") g rfl rfl (by decide) ⟨.int (lo+i*st),H,J,⟨t,rfl⟩,⟨rfl,rfl⟩,g,λb f=>(j b f).1⟩⟩
 done:=by intro X y C x A i c s G H E I j st B;subst y C x;obtain⟨l,m,N,p,r,u⟩:=j a (by simp);exact wpAny_pyNext_range_end (I.ok.hd A) st (by have:n<=i:=B;omega) λh' M=>⟨rfl,I.turned (t':=s.toks) (λb o f e=>M b o f e) l m p r u⟩
 self:=λ_ _ _ _ _ st h=>wpAny_pyIter_rangeiter st h
noncomputable def fc(lo a st:Int):Nat:=((a-lo+st-1)/st).toNat
noncomputable def gO(lo a st:Int):List D:=(List.range (fc lo a st)).map λ(i:Nat)=>D.int (lo+(i:Int)*st)
section
variable{K:Frag}{X:Cx}{tg:Expr}
noncomputable def xW(c:TA):TI:=λe H R=>c e H λvs a=>∃i j k:Int,vs=[.int i,.int j,.int k]/\(-(2^61)<=i/\i<2^61/\-(2^61)<=j/\j<2^61/\0<k/\k<=1000)/\R (oZ i k (fc i j k)) a
def DN{i j k:Int}(e:0<k):Builtin.Range.rangeSize i j k=(fc i j k:Int):=by
 unfold Builtin.Range.rangeSize fc;rw[Ia e];by_cases c:i<j
 ·rw[Ia c,show j-i+k-1=(j-i-1)+1*k by omega,Int.add_mul_ediv_right _ _ (by omega)];have:=Int.ediv_nonneg (a:=j-i-1) (b:=k) (by omega) (by omega);omega
 ·rw[Ib c];have:(j-i+k-1)/k<1:=Int.ediv_lt_of_lt_mul e (by omega);omega
def Dj{i j k:Int}(h:-(2^61)<=i/\i<2^61/\-(2^61)<=j/\j<2^61/\0<k/\k<=1000):Builtin.Range.small i j k=true:=by
 have c:=Int.ediv_nonneg (a:=j-i-1) (b:=k);have e:=Int.ediv_le_self k (a:=j-i-1);unfold Builtin.Range.small Builtin.Range.rangeSize;rw[Ia (show k>0 by omega),Ia (show k>0 by omega)];simp only[Builtin.Range.rangeFitsLong,Iz,Mv,IZ,KH];split<;>omega
def ym{a b c:Expr}{y:TA}{p g:Pos}(G:Gl X "range")(J:X.mg "range"=none)(F:PA X [a,b,c] y)(M:starEach [a,b,c] X.env=[(false,eval a X.env),(false,eval b X.env),(false,eval c X.env)]:=by rfl)(x:starEach [b,c] X.env=[(false,eval b X.env),(false,eval c X.env)]:=by rfl) :
  PI X tg (.Call (.Name "range" p) [a,b,c] [] g) (xW y):=by
 intro f s z H R I h;refine Call_ (iw I G J boot_range (JY (aq (F g f s z H _ I h) λus u B=>?_) (by rw[M,x]) (by rw[x];rfl)));obtain⟨vs,w,A,O,i,j,k,e,m,q⟩:=B;subst e
 cases O with
 |cons r l=>
  cases l with
  |cons N l=>
   cases l with
   |cons P l=>
    cases l;obtain⟨t,rfl⟩:=r;obtain⟨t',rfl⟩:=N;obtain⟨Q,rfl⟩:=P;refine call_range_3 (by omega) ?_ (.inl (PyProof.noPylong_small (by omega)));have v:Inv X f z w { u with heap:=u.heap.push { cls:=.type "range",data:=.fields #[.int i t,.int j t',.int k Q] },toks:=u.toks }:=A.kept λb o e=>Ig _ e;refine wpAny_pyIter_range (IsRange.new ..) (Dj m) ?_;refine⟨_,[_],_,_,w,rfl,v.kept (t':=u.toks) λb o e=>Ig _ e,Hc _ i k (fc i j k),?_,λb m=>?_,q⟩
    ·have C:i+((0:Nat):Int)*k=i:=by simp
     have E:((fc i j k:Nat):Int)-((0:Nat):Int)=Builtin.Range.rangeSize i j k:=by rw[DN m.2.2.2.2.1];omega
     show IsRangeIter _ _ (i+((0:Nat):Int)*k) (((fc i j k:Nat):Int)-((0:Nat):Int)) k;rw[C,E];exact Iy _ rfl
    ·have e:=Ip.mp m;subst e;exact v.fpOk (Ih _) (v.hok.fresh (Ih _))
def A0{h:Hp}{i j k:Int}{vs:List V}(r:RpL K h [.int i,.int j,.int k] vs):vs=[.int i,.int j,.int k]:=by
 match vs,r with
 | [a,b,c],r=>
  have e:=r.2 0 a _ rfl rfl;have f:=r.2 1 b _ rfl rfl;have g:=r.2 2 c _ rfl rfl;obtain rfl:=e.i;obtain rfl:=f.i;obtain rfl:=g.i;rfl
 | [],r=>cases r.1
 | [_],r=>cases r.1
 | [_,_],r=>cases r.1
 |_::_::_::_::_,r=>cases r.1
def GP(f:Hp)(lo a st:Int):SteadyD K (oZ lo st (fc lo a st)) f (gO lo a st):=by
 have c:(gO lo a st).length=fc lo a st:=by unfold gO;rw[HV,Je]
 refine⟨λi H s a=>(by rw[c]at a;exact a),λi g H v j d m s hd y=>?_,λH s=>Lv c.symm⟩;obtain⟨rfl,rfl⟩:=y;unfold gO at hd;rw[Ii]at hd
 cases h:(List.range (fc lo a st))[i]? with
 |none=>rw[h]at hd;cases hd
 |some k=>
  rw[h]at hd;cases hd;obtain⟨l,e⟩:=Jk.mp h;rw[List.getElem_range]at e;subst e;exact⟨_,.refl s,.int _⟩
noncomputable def BY(t:aX):aX:=λρ R=>t ρ λds=>∃i j k:Int,ds=[.int i,.int j,.int k]/\(-(2^61)<=i/\i<2^61/\-(2^61)<=j/\j<2^61/\0<k/\k<=1000)/\R (gO i j k)
def BH{a b c:Expr}{l:aX}{p h:Pos}(z:Gl X "range")(A:X.mg "range"=none)(x:PAD K X [a,b,c] l)(B:starEach [a,b,c] X.env=[(false,eval a X.env),(false,eval b X.env),(false,eval c X.env)]:=by rfl)(v:starEach [b,c] X.env=[(false,eval b X.env),(false,eval c X.env)]:=by rfl) :
  PID K X tg (.Call (.Name "range" p) [a,b,c] [] h) (BY l):=⟨λw=>(ym z A (x.pa w) B v).imp λI H F u=>by
 obtain⟨m,C,ρ,R,E,t,k⟩:=u;refine⟨m,C,ρ,_,E,t,λds f o vs r g rl G=>?_⟩;obtain⟨i,j,st,rfl,y,r⟩:=r;have e:=A0 rl;subst e
 exact⟨i,j,st,rfl,y,k _ f o _ r g (GP f i j st)⟩⟩
end
end L2
open PySem
namespace L2
end L2
namespace L2
open PySem PySem.Spec PyProof.Rows
section
variable{K:Frag}{X:Cx}{e a:Expr}{x:Str}
noncomputable def mz:Option Int->D
 |none=>.non
 |some i=>.int i
noncomputable def lx:Option Int->V
 |none=>.non
 |some i=>.int i
def xp{j:Hp}{xs:List (Option Int)}{vs:List V}(r:RpL K j (xs.map mz) vs):vs=xs.map lx:=by
 refine Jo λi=>?_;rw[Ii]
 cases h:xs[i]? with
 |none=>
  have g:=JR.mp h;exact IX (by rw[r.1,HV];exact g)
 |some o=>
  have c:=ba h;have f:vs[i]?=some (vs[i]'(by rw[r.1,HV];exact c)):=bw _;have q:=r.2 i _ (mz o) f (by rw[Ii,h];rfl);rw[f];generalize vs[i]'(by rw[r.1,HV];exact c)=v at q
  cases o with
  |none=>obtain rfl:=q.n;rfl
  |some n=>obtain rfl:=q.i;rfl
noncomputable def BT:bW:=λc f R=>∃(xs:List (Option Int)),c=.non/\gh f=some (xs.map mz)/\R (.bl (decide (none∈xs)))
def zC:OpD K X (compareOp .In) BT:=⟨λm c s G H x y u v Q I C E g=>by
 obtain⟨F,J,M,R,f,t,w,⟨xs,rfl,e,h⟩,B⟩:=g;cases t.non;obtain⟨a,vs,rfl,q,rl⟩:=w.seq f e;cases xp rl;refine vI c s G H _ _ u v Q I C E ⟨a,_,rfl,by rw[m];exact q,rfl,?_,?_⟩
 ·rw[IC];intro z A;obtain⟨j,_,rfl⟩:=IM.mp A;cases j<;>rfl
 ·have l:(if false=true then !eY .non (xs.map lx) else eY .non (xs.map lx))=decide (none∈xs):=by
   show eY .non (xs.map lx)=_;unfold eY;rw[Mi,JQ,Li,IZ];constructor
   ·rintro⟨o,r,p⟩
    cases o with
    |none=>exact r
    |some n=>cases p
   ·intro h;exact⟨none,h,rfl⟩
  rw[l]
  exact B _ F H _ h (.refl f) (.bl _)⟩
end
end L2
namespace Kx
open PySem L2
section
local macro_rules|`(tactic|rfl')=>`(tactic|dsimp only[aT,aP,aG,aQ,aZ,aU,aY,List.set])
variable{P:Program}{w:World}{K:Frag}{mg:Str->Option Value}{base:Heap}{n:Nat}{f:Addr}{fd:FuncData}
noncomputable def top(i:Nat):Stmt:=PySem.Challenge.pw_cutyard_k70_a_desk_changed.main.body.getD i (.Pass ⟨0,0,0,0⟩)
noncomputable abbrev jM:Stmt:=top 20
def G2:FnScope ["row"] ["row"] (ay jM):=by ac_rfl
noncomputable abbrev jY:Stmt:=top 98
def G5:FnScope ["word"] ["word"] (ay jY):=by ac_rfl
noncomputable abbrev kg:Stmt:=top 99
def sc_number_form:FnScope ["word","figures"] ["word"] (ay kg):=by ac_rfl
noncomputable abbrev ma:Stmt:=top 100
def sc_sum_form:FnScope ["words","terms","place","number","name"] ["words"] (ay ma):=by ac_rfl
noncomputable abbrev mO:Stmt:=top 101
def sc_unknown_form:FnScope ["words","least","most"] ["words"] (ay mO):=by ac_rfl
noncomputable abbrev kZ:Stmt:=top 102
def sc_row_form:FnScope ["words","terms","number"] ["words"] (ay kZ):=by ac_rfl
noncomputable abbrev lZ:Stmt:=top 103
def sc_worth_form:FnScope ["words","terms"] ["words"] (ay lZ):=by ac_rfl
noncomputable abbrev lH:Stmt:=top 104
def sc_line_form:FnScope ["line","words"] ["line"] (ay lH):=by ac_rfl
noncomputable abbrev nF:Stmt:=top 105
def sc_sum_entries:FnScope ["terms","names","at","entries","came","number","name"] ["terms","names","at"] (ay nF):=by ac_rfl
noncomputable abbrev kO:Stmt:=top 106
def Aq:FnScope ["entries"] ["entries"] (ay kO):=by ac_rfl
noncomputable abbrev mr:Stmt:=top 107
def sc_written_unknown:FnScope ["name","bounds","least","most"] ["name","bounds"] (ay mr):=by ac_rfl
noncomputable abbrev kr:Stmt:=top 108
def sc_written_sum:FnScope ["names","entries","terms"] ["names","entries"] (ay kr):=by ac_rfl
noncomputable abbrev lf:Stmt:=top 109
def sc_written_row:FnScope ["names","row","total","bound"] ["names","row"] (ay lf):=by ac_rfl
noncomputable abbrev mU:Stmt:=top 110
def sc_written_worth:FnScope ["names","goal","sense","total"] ["names","goal","sense"] (ay mU):=by ac_rfl
noncomputable abbrev jp:Stmt:=top 111
def sc_write_plan:FnScope ["names","plan","sense","lines"] ["names","plan","sense"] (ay jp):=by ac_rfl
noncomputable abbrev jQ:Stmt:=top 113
def sc_with_unknown:FnScope ["state","name","bounds","names","plan","rows"] ["state","name","bounds"] (ay jQ):=by ac_rfl
noncomputable abbrev lu:Stmt:=top 114
def sc_with_row:FnScope ["state","terms","number","at_most","plan","row","rows"] ["state","terms","number","at_most"] (ay lu):=by ac_rfl
noncomputable abbrev mF:Stmt:=top 115
def sc_with_worth:FnScope ["state","terms","sense","plan","goal"] ["state","terms","sense"] (ay mF):=by ac_rfl
noncomputable abbrev mq:Stmt:=top 116
def sc_without_row:FnScope ["state","number","plan"] ["state","number"] (ay mq):=by ac_rfl
noncomputable abbrev mM:Stmt:=top 117
def xJ:FnScope ["state","form"] ["state","form"] (ay mM):=by ac_rfl
noncomputable abbrev kF:Stmt:=top 122
def sc_numbers_form:FnScope ["words","numbers"] ["words"] (ay kF):=by ac_rfl
noncomputable abbrev lB:Stmt:=top 123
def sc_say_form:FnScope ["line","n","words","numbers"] ["line","n"] (ay lB):=by ac_rfl
noncomputable abbrev kY:Stmt:=top 126
def sc__law_pool:FnScope ["_law_script","_law_at","_law_rest"] ["_law_script","_law_at"] (ay kY):=by ac_rfl
noncomputable abbrev lP:Stmt:=top 127
def sc__law_next:FnScope ["_law_pool_here","_law_size","_law_drawn","_law_cell","_law_stir"] ["_law_pool_here","_law_size"] (ay lP):=by ac_rfl
noncomputable abbrev mR:Stmt:=top 128
def sc__law_names:FnScope ["_law_pool_here","_law_count","_law_letters","_law_way","_law_turn","_law_at","_law_names_here","_law_k","_law_some"] ["_law_pool_here","_law_count"] (ay mR):=by ac_rfl
noncomputable abbrev lD:Stmt:=top 129
def sc__law_number:FnScope ["_law_pool_here","_law_way"] ["_law_pool_here"] (ay lD):=by ac_rfl
noncomputable abbrev jD:Stmt:=top 130
def sc__law_sum:FnScope ["_law_pool_here","_law_names_here","_law_free","_law_entries","_law_terms_here","_law_k","_law_at"] ["_law_pool_here","_law_names_here"] (ay jD):=by ac_rfl
noncomputable abbrev kN:Stmt:=top 131
def sc__law_unknown:FnScope ["_law_pool_here","_law_state","_law_name","_law_names_here","_law_bounds","_law_rows","_law_goal","_law_sense","_law_least","_law_most","_law_line","_law_wider"] ["_law_pool_here","_law_state","_law_name"] (ay kN):=by ac_rfl
noncomputable abbrev jB:Stmt:=top 132
def sc__law_rowed:FnScope ["_law_pool_here","_law_state","_law_way","_law_names_here","_law_bounds","_law_rows","_law_goal","_law_sense","_law_text_here","_law_entries","_law_bound","_law_line","_law_row"] ["_law_pool_here","_law_state","_law_way"] (ay jB):=by ac_rfl
noncomputable abbrev kR:Stmt:=top 133
def sc__law_sought:FnScope ["_law_pool_here","_law_state","_law_names_here","_law_bounds","_law_rows","_law_goal","_law_sense","_law_way","_law_text_here","_law_entries","_law_turns"] ["_law_pool_here","_law_state"] (ay kR):=by ac_rfl
noncomputable abbrev mh:Stmt:=top 134
def sc__law_taken:FnScope ["_law_pool_here","_law_state","_law_names_here","_law_bounds","_law_rows","_law_goal","_law_sense","_law_number_here","_law_line"] ["_law_pool_here","_law_state"] (ay mh):=by ac_rfl
noncomputable abbrev lY:Stmt:=top 135
def sc__law_change:FnScope ["_law_pool_here","_law_words","_law_state","_law_past","_law_way"] ["_law_pool_here","_law_words","_law_state","_law_past"] (ay lY):=by ac_rfl
noncomputable abbrev l7:Stmt:=top 136
def sc__law_terms:FnScope ["_law_names_here","_law_entries","_law_turns","_law_terms_here","_law_name","_law_entry"] ["_law_names_here","_law_entries","_law_turns"] (ay l7):=by ac_rfl
noncomputable abbrev nH:Stmt:=top 137
def sc__law_text:FnScope ["_law_state","_law_names_here","_law_bounds","_law_rows","_law_goal","_law_sense","_law_lines","_law_name","_law_pair","_law_line","_law_row"] ["_law_state"] (ay nH):=by ac_rfl
noncomputable abbrev mZ:Stmt:=top 138
def sc__law_said:FnScope ["_law_desk","_law_line","_law_seen","_law_told","_law_at","e"] ["_law_desk","_law_line"] (ay mZ):=by ac_rfl
noncomputable abbrev nq:Stmt:=top 139
def sc__law_standing:FnScope ["_law_desk","_law_state","_law_seen","_law_told"] ["_law_desk","_law_state"] (ay nq):=by ac_rfl
noncomputable abbrev mL:Stmt:=top 140
def sc__law_step:FnScope ["_law_pool_here","_law_desk","_law_change_here","_law_state","_law_past","_law_line","_law_due","_law_later","_law_seen","_law_told"] ["_law_pool_here","_law_desk","_law_change_here","_law_state","_law_past"] (ay mL):=by ac_rfl
noncomputable abbrev lz:Stmt:=top 141
def y6:FnScope ["_law_pool_here","_law_words","_law_state","_law_past","_law_k","_law_many","_law_rows"] ["_law_pool_here","_law_words","_law_state","_law_past","_law_k","_law_many","_law_rows"] (ay lz):=by ac_rfl
noncomputable abbrev lv:Stmt:=top 142
def sc_law:FnScope ["_law_script","_law_pool_here","_law_words","_law_desk","_law_state","_law_past","_law_many","_law_rows","_law_k","_law_own","_law_change_here"] ["_law_script"] (ay lv):=by ac_rfl
noncomputable abbrev ik:Stmt:=hZ (top 124) 0
def B3:FnScope ["self"] ["self"] (ay ik):=by ac_rfl
noncomputable abbrev iF:Stmt:=hZ (top 124) 1
def sc_Desk__say:FnScope ["self","line","form"] ["self","line"] (ay iF):=by ac_rfl
noncomputable abbrev iz:Stmt:=hZ (top 124) 2
def xH:FnScope ["self","state"] ["self","state"] (ay iz):=by ac_rfl
noncomputable abbrev ii:Stmt:=hZ (top 124) 3
def xO:FnScope ["self"] ["self"] (ay ii):=by ac_rfl
structure TxtDesk(K:Frag)(mg:Str->Option Value)(C:Addr):Prop where
 cl:Cls K C
 n_state:NoAttr K C "state"
 n_states:NoAttr K C "states"
 mgC:mg "Desk"=some (.ref C)
 ns:nsIn K mainGlobals "Desk"=some (some (.ref C))
noncomputable def mw:List Str:=["YardError","NoNumber","NoName","Twice","TooGreat","NoText","NoRow","NoChange"]
noncomputable def ij:Str->Str->Bool:=λa b=>a==b ||b == "YardError"
noncomputable abbrev Dq:Stmt:=hZ (top 3) 0
noncomputable abbrev jZ:Stmt:=hZ (top 4) 0
def GN:FnScope ["self","at"] ["self","at"] (ay jZ):=by ac_rfl
noncomputable abbrev jw:Stmt:=hZ (top 5) 0
def wK:FnScope ["self","at"] ["self","at"] (ay jw):=by ac_rfl
noncomputable abbrev jW:Stmt:=hZ (top 6) 0
def ww:FnScope ["self","at"] ["self","at"] (ay jW):=by ac_rfl
def dc{a b:Int}(h:(a==b)=true):a=b:=eq_of_beq h
def ko{a b:Int}(h:(a==b)=false):a≠b:=λe=>by subst e;rw[Jf]at h;cases h
open Tx
noncomputable def dm(w:Str):Prop:=w.cps.all (·<128)=true/\w.length<=100000
def nZ{R:Sm->List Om->Prop}{a b:Bool}(q:R (.v (.bl a)) [])(h:b=a):R (.v (.bl b)) []:=by rw[h];exact q
def tU{l:List Nat}{a n:Nat}(e:l=(List.range n).map (a+·))(c:Nat):c∈l↔a<=c/\c<a+n:=by
 rw[e,IM];constructor
 ·rintro⟨i,g,rfl⟩;have:=JO.mp g;omega
 ·exact λh=>⟨c-a,JO.mpr (by omega),by omega⟩
def CU(c:Nat):(false != decide (c∈("abcdefghijklmnopqrstuvwxyz":Str).cps.toList))=eE c:=by rw[Kr,JQ,IZ,tU (a:=97) (n:=26) (by lia)];unfold eE;rw[Iz,IZ,IZ];omega
def DS(c:Nat):(false != decide (c∈("0123456789":Str).cps.toList))=dL c:=by rw[Kr,JQ,IZ,tU (a:=48) (n:=10) (by lia)];unfold dL;rw[Iz,IZ,IZ];omega
def kM{w:Str}(h:w.length<=100000):w.length<=sizeLine:=by have:=Ju;omega
def wo{n:Nat}(h:n<=100000):n<sizeLine:=by have:=Ju;omega
def oy(w:Str):(L w).length=w.length:=by unfold L;rw[Jl];rfl
inductive z_is_name(ds:List D)(R:D->Prop):Prop|mk (w:Str) (_:ds=[.str w]) (_:dm w) (_:R (.bl (bD w)))
def Ge(F:Fun K "is_name" "is_name" jY f fd)(t:mg "all"=none)(o:∃g,mg "MOST_LETTERS"=some (.int 12 g))(j:mg "len"=none)(m:∃g,mg "LETTERS"=some (.str "abcdefghijklmnopqrstuvwxyz" g)):FnOk P w K mg base bf (n+1) f fd ["word"] (bu K (zM z_is_name)):=by
 refine F.okM G5 (λas R p h=>?_) (λv A outer s H E as R p z u x h l=>?_)
 ·obtain⟨_,rfl,w,rfl,_⟩:=h;rfl
 obtain⟨_,rfl,w,rfl,e,q⟩:=h;obtain rfl:=bZ l
 refine⟨_,(aL (aJ (aR (PWD.td (dM (aw fS (PD.q (bE bG rfl j Iv (be (ad 0) bd aa) aa ag)) (PD.q ah) (au _)) (eR (aw iU (PD.q (bE bG rfl j Iv (be (ad 0) bd aa) aa ag)) (PD.q (ms rfl o.choose_spec)) (au _)))))) (ai (aC (ae ip))) aK)
   (ai (aC (ae (bE (vW rfl) rfl t MK (be (PD.q (PF.d (gq (k:=1) (N':=["sign"]) (cap:=[none]) rfl (.ok (show dB ["word"] (ay jY) _ ["sign"] [none]=true by lia)) (by lia) (dH (by decide)) (tJ (dv 0)) (λ_ _ _ _ _=>(dI (i:=0) (show List.Nodup (["sign"]:List Str)by lia) rfl VZ)) (λ_ _ _ _ _=>(i9 uJ (ad 0) (PD.q (vj rfl m.choose_spec)) (by with_unfolding_all rfl)))))) bd c8) c8 ag))))),?_⟩
 intro y;have sz:=kM e.2
 have no:¬ (1<=w.length/\w.length<=12)->bD w=false:=λh=>by
  unfold bD;rcases Decidable.not_and_iff_or_not.mp h with h|h
  ·rw[ID h];rfl
  ·rw[ID h,Bool.and_false];rfl
 refine⟨λρ=>(1<=w.length/\w.length<=12)/\ρ=[some (.v (.str w))],?_,?_⟩
 ·refine⟨sz,λh=>⟨λ_=>?_,λh=>tf h⟩,λh=>⟨sz,λa=>?_,λa=>⟨⟨?_,?_⟩,rfl⟩⟩⟩
  ·exact nZ q (no (by have:=Ir h;omega)).symm
  ·exact nZ q (no (by have:=Ir a;omega)).symm
  ·have:=IH h;omega
  ·have:=IH a;omega
 rintro ρ ⟨⟨r,a⟩,rfl⟩;refine⟨w,rfl,e.1,?_⟩;refine gm (f:=λc=>D.str (qf c)) (λc=>D.bl (eE c)) (by rw[Jl];exact wo e.2) (λc _=>⟨c,_,rfl,rfl,by rw[CU]⟩) ?_;refine⟨(L w).map eE,by rw[JH];rfl,?_⟩;refine nZ q ?_;unfold bD;rw[Jc r,Jc a];show ((L w).map eE).all id=_;rw[MO];rfl
def FK(w:Str):Txt.startswith w "-"=((L w).head?==some 45):=by
 have a:("-":Str)=⟨#[45]⟩:=by decide
 have h:=PySem.StrLaws.subAt_one w 45 0;rw[a,JQ,KH,MC];refine Iff.trans ?_ h;unfold Txt.startswith;rw[Iz,IZ]
noncomputable def gp(l:List Nat):List Nat:=match l with|45::r=>r|l=>l
def lw{l:List Nat}(h:(l.head?==some 45)=true):∃r,l=45::r/\gp l=r:=by
 cases l with
 |nil=>cases h
 |cons a r=>
  have:a=45:=by simpa using h
  subst this;exact⟨r,rfl,rfl⟩
def lm{l:List Nat}(h:(l.head?==some 45)=false):gp l=l/\fP l=if cR l&&(l.head? != some 48 ||l==[48]) then some (NumText.digitsVal l:Int) else none:=by
 unfold gp fP;constructor
 ·split
  ·next r=>simp at h
  ·rfl
 ·split
  ·next r=>simp at h
  ·rfl
def sR{l:List Nat}(h:cR (gp l)=false):fP l=none:=by
 cases c:l.head?==some 45 with
 |true=>
  obtain⟨r,rfl,e⟩:=lw c;rw[e]at h;show (if cR r&&_ then _ else none)=none;rw[h];rfl
 |false=>
  obtain⟨e,a⟩:=lm c;rw[e]at h;rw[a,h];rfl
def xQ{l:List Nat}(h:(gp l).head?=some 48)(g:l≠[48]):fP l=none:=by
 cases c:l.head?==some 45 with
 |true=>
  obtain⟨r,rfl,e⟩:=lw c;rw[e]at h;show (if cR r&&r.head? != some 48 then _ else none)=none;rw[h];simp
 |false=>
  obtain⟨e,a⟩:=lm c;rw[e]at h;rw[a,h];simp[g]
def DR{l:List Nat}(h:cR (gp l)=true)(a:(gp l).head?≠some 48\/l=[48]):∃n,fP l=some n:=by
 cases c:l.head?==some 45 with
 |true=>
  obtain⟨r,rfl,e⟩:=lw c;rw[e]at h a;refine⟨-(NumText.digitsVal r:Int),?_⟩;show (if cR r&&r.head? != some 48 then _ else none)=_;rcases a with a|a
  ·rw[h,MM.mpr a];rfl
  ·cases a
 |false=>
  obtain⟨e,g⟩:=lm c;rw[e]at h a;refine⟨(NumText.digitsVal l:Int),?_⟩;rw[g,h,Ia];rcases a with a|a
  ·rw[MM.mpr a];rfl
  ·rw[a];rfl
def yV(l:List Nat):br l (some 1) none=l.drop 1:=by
 unfold br;rw[HT.sIx_none,show (some (1:Int))=some ((1:Nat):Int)from rfl,HT.sIx_nat];rw[JK (by rw[Jm];omega)]
 cases l with
 |nil=>rfl
 |cons a r=>simp
noncomputable def bV(w:Str):Str:=if ((L w).head?==some 45)=true then fi w (some 1) none else w
def jE(w:Str):L (bV w)=gp (L w):=by
 unfold bV
 cases c:(L w).head?==some 45 with
 |true=>
  rw[Ia rfl];obtain⟨r,e,a⟩:=lw c;rw[a];show (br (L w) (some 1) none).toArray.toList=r;rw[yV,e];rfl
 |false=>rw[Ib (by simp)];exact (lm c).1.symm
def yF{w:Str}(h:dm w):dm (bV w):=by
 have j:(bV w).length<=w.length:=by
  unfold bV;split
  ·exact GD _ _ _
  ·exact Ih _
 refine⟨?_,by have:=h.2;omega⟩;rw[←KN,IC];intro c a;have g:=h.1;rw[←KN,IC]at g;refine g c ?_;have a:c∈L (bV w):=a;rw[jE]at a;unfold gp at a;split at a
 ·next r e=>
  show c∈L w;rw[e];exact Ic _ a
 ·exact a
noncomputable def ir:Option Int->D
 |none=>.non
 |some n=>.int n
inductive z_number_form(ds:List D)(R:D->Prop):Prop|mk (w:Str) (_:ds=[.str w]) (_:dm w) (_:R (ir (bv w)))
def B1{w:Str}(h:(w == "0")=true):L w=[48]:=by have:=eq_of_beq h;subst this;decide
def xN(F:Fun K "number_form" "number_form" kg f fd)(S:mg "int"=none)(M:∃v,mg "MOST_FIGURES"=some (.int 4 v))(Y:mg "all"=none)(x:mg "len"=none)(I:∃v,mg "FIGURES"=some (.str "0123456789" v)):FnOk P w K mg base bf (n+1) f fd ["word"] (bu K (zM z_number_form)):=by
 refine F.okM sc_number_form (λas R N h=>?_) (λMZ A outer s H E as R N qs MY C h G=>?_)
 ·obtain⟨_,rfl,w,rfl,_⟩:=h;rfl
 obtain⟨_,rfl,w,rfl,B,q⟩:=h;obtain rfl:=bZ G
 refine⟨_,(aL (ar (i:=1) sc_number_form.nd rfl VZ (ae (iN (jx (PD.q (xP (ad 0) az (bX am) am)) (λ_=>rfl)) (fF (ad 0) (eQ (PD.q ah)) fM) (dv 0))))
   (aL (aJ (aR (PWD.td (dM (aw fS (PD.q (bE bG rfl x Iv (be (ad 1) bd aa) aa ag)) (PD.q ah) (au _)) (eR (aw iU (PD.q (bE bG rfl x Iv (be (ad 1) bd aa) aa ag)) (PD.q (ms rfl M.choose_spec)) (au _)))))) (ai (aC (ae bA))) aK)
   (aL (aJ (aR (ou (jx (PD.q (bE (vW rfl) rfl Y MK (be (PD.q (PF.d (gq (k:=1) (N':=["sign"]) (cap:=[none]) rfl (.ok (show dB ["word","figures"] (ay kg) _ ["sign"] [none]=true by lia)) (by lia) (dH (by decide)) (tJ (dv 1)) (λ_ _ _ _ _=>(dI (i:=0) (show List.Nodup (["sign"]:List Str)by lia) rfl VZ)) (λ_ _ _ _ _=>(i9 uJ (ad 0) (PD.q (vj rfl I.choose_spec)) (by with_unfolding_all rfl)))))) bd c8) c8 ag)) (λ_=>rfl)))) (ai (aC (ae bA))) aK)
   (aL (aJ (aR (PWD.td (iQ (aw (bi C.units) (PD.q (av (ad 1))) (PD.q az) (au _)) (iZ (aw (eG C.units) (ad 0) (PD.q az) (au _)))))) (ai (aC (ae bA))) aK)
   (ai (aC (ae (cL HB rfl S Lq (be (ad 0) bd aa) aa ag)))))))),?_⟩
 intro ke;have sz:=kM B.2;have t:=yF B;have p:=kM t.2
 have u:fP (L w)=none->R (.v .non) []:=λh=>by have:bv w=none:=h;rw[this]at q;exact q
 refine⟨λρ=>ρ=[some (.v (.str w)),some (.v (.str (bV w)))],?_,?_⟩
 ·refine⟨_,rfl,_,rfl,?_⟩;rw[FK];refine⟨λh=>⟨sz,_,rfl,?_⟩,λh=>?_⟩
  ·unfold bV;rw[Ia h];rfl
  ·unfold bV;rw[h,Ib (by simp)];rfl
 rintro ρ rfl
 have Q:∀f:Str,cR (L f)=true->1<=f.length/\f.length<=4:=λf h=>by unfold cR at h;simp only[Iz,IZ,oy]at h;exact h.1
 refine⟨λρ=>(1<=(bV w).length/\(bV w).length<=4)/\ρ=[some (.v (.str w)),some (.v (.str (bV w)))],?_,?_⟩
 ·have j:¬ (1<=(bV w).length/\(bV w).length<=4)->R (.v .non) []:=λh=>u (sR (by
   rw[←jE]
   cases e:cR (L (bV w))with
   |false=>rfl
   |true=>exact absurd (Q _ e) h))
  refine⟨p,λh=>⟨λ_=>j ?_,λh=>tf h⟩,λh=>⟨p,λg=>j ?_,λg=>⟨⟨?_,?_⟩,rfl⟩⟩⟩
  ·have:=Ir h;omega
  ·have:=Ir g;omega
  ·have:=IH h;omega
  ·have:=IH g;omega
 rintro ρ ⟨⟨Z,l4⟩,rfl⟩;refine⟨λρ=>cR (L (bV w))=true/\ρ=[some (.v (.str w)),some (.v (.str (bV w)))],⟨bV w,rfl,t.1,?_⟩,?_⟩
 ·refine gm (f:=λc=>D.str (qf c)) (λc=>D.bl (dL c)) (by rw[Jl];exact wo t.2) (λc _=>⟨c,_,rfl,rfl,by rw[DS]⟩) ?_;refine⟨(L (bV w)).map dL,by rw[JH];rfl,?_⟩
  have e:(((L (bV w)).map dL).all id)=(L (bV w)).all dL:=by rw[MO];rfl
  have y:cR (L (bV w))=(L (bV w)).all dL:=by unfold cR;rw[oy,Jc Z,Jc l4];rfl
  refine⟨λh=>?_,λh=>?_⟩
  ·refine u (sR ?_);rw[←jE,y,←e];simpa using h
  ·refine⟨?_,rfl⟩;rw[y,←e];simpa using h
 rintro ρ ⟨l,rfl⟩
 have hd:∃c,(L (bV w)).head?=some c:=by
  cases e:L (bV w)with
  |nil=>have:=oy (bV w);rw[e]at this;simp at this;omega
  |cons a r=>exact⟨a,rfl⟩
 obtain⟨c,m⟩:=hd;have J:bK (bV w).cps.toList 0=some c:=mj (i:=0) (by rw[←MC];exact m) rfl;refine⟨λρ=>(c≠48\/L w=[48])/\ρ=[some (.v (.str w)),some (.v (.str (bV w)))],⟨p,c,J,λh=>⟨λg=>?_,λg=>⟨.inr ?_,rfl⟩⟩,λh=>⟨λg=>ff g,λ_=>⟨.inl λe=>?_,rfl⟩⟩⟩,?_⟩
 ·have e:=eq_of_beq h
  have O:c=48:=by
   have U:L (⟨#[c]⟩:Str)=L "0":=JD L e;have:[c]=[48]:=U.trans (by decide);exact List.head_eq_of_cons_eq this
  refine u (xQ (by rw[←jE,m,O]) λz=>?_);have:w="0":=oa (z.trans (by decide));rw[this]at g;exact ff g
 ·exact B1 (by simpa using g)
 ·subst e;exact absurd h (by decide)
 rintro ρ ⟨X,rfl⟩;rw[jE]at l m;obtain⟨n,o⟩:=DR l (by rw[m];rcases X with h|h;exact .inl (λe=>h (IK e));exact .inr h);have o:bv w=some n:=o;obtain⟨T,g⟩:=wy o;rw[o]at q;exact⟨w,n,rfl,by omega,T,q⟩
noncomputable def dh(t:Tm):D:=.tup [.int t.1,.str t.2]
noncomputable def BU:Option (List Tm)->D
 |none=>.non
 |some ts=>.tup (ts.map dh)
open Tx
inductive z_sum_form(ds:List D)(R:D->Prop):Prop|mk (ws:List Str) (_:ds=[.lst (ws.map D.str)]) (_:ws.length<=1000) (_:(∀w∈ws,dm w)) (_:R (BU (eM ws)))
def D3(ws:List Str):cx 40 (.lst (ws.map D.str)) (.lst [.str "0"])=some (decide (ws=[("0":Str)])):=by
 match ws with
 | []=>rfl
 | [w]=>
  show (if 1=1 then eC (cx 39) [.str w] [.str "0"] else some false)=_;rw[Ia rfl];show ((cx 39 (.str w) (.str "0")).bind λb=>(eC (cx 39) [] []).map (b&&·))=_;show some ((w == "0")&&true)=_;rw[Bool.and_true];congr 1;rw[JQ];simp
 |w::a::r=>
  show (if ((w::a::r).map D.str).length=1 then _ else some false)=_;rw[Ib (by simp)];simp
def EW{i:Nat}{ρ:bT}{d:D}{R:D->Prop}(h:ρ[i]?=some (some (.v d)))(k:R d):jF i ρ R:=by unfold jF;rw[h];exact k
def D5{d e:D}{b:Bool}{R:D->Prop}(h:cx 40 d e=some b)(q:R (.bl b)):nc d e R:=by unfold nc;rw[h];exact q
noncomputable def gP(ws:List Str)(N i:Nat)(ts:List Tm):Prop:=db ws=if i=N then some ts else (if i=0\/aO ws (3*i-1)="+" then (db (ws.drop (3*i))).map (ts++·) else none)
def nP{ws:List Str}{i:Nat}{w:Str}(h:ws[i]?=some w):aO ws i=w:=by unfold aO;rw[Jp,h];rfl
def qQ{ws:List Str}{i:Nat}{w:Str}(h:ws[i]?=some w):ws.drop i=w::ws.drop (i+1):=by obtain⟨a,e⟩:=Jk.mp h;rw[←e];exact L7 a
def CK{ws:List Str}{N i:Nat}{ts:List Tm}(v:ws.length+1=3*N)(y:i<N)(h:gP ws N i ts):∃a b,ws[3*i]?=some a/\ws[3*i+1]?=some b/\(bv a=none->db ws=none)/\(bD b=false->db ws=none)/\(0<i->aO ws (3*i-1)≠"+"->db ws=none)/\∀n,bv a=some n->bD b=true->(i=0\/aO ws (3*i-1)="+")->gP ws N (i+1) (ts++[(n,b)]):=by
 have m:ws[3*i]?=some (ws[3*i]'(by omega)):=IB (by omega);have o:ws[3*i+1]?=some (ws[3*i+1]'(by omega)):=IB (by omega);generalize ws[3*i]'(by omega)=a at m;generalize ws[3*i+1]'(by omega)=b at o
 have hd:ws.drop (3*i)=a::b::ws.drop (3*i+2):=by rw[qQ m,qQ o]
 unfold gP at h;rw[Ib (by omega),hd]at h;refine⟨a,b,m,o,?_⟩;by_cases c:i+1=N
 ·have e:ws.drop (3*i+2)=[]:=MD (by omega);rw[e]at h
  have t:db [a,b]=match bv a with|some n=>if bD b then some [(n,b)] else none|none=>none:=rfl
  rw[t]at h;refine⟨λz=>?_,λz=>?_,λj g=>?_,λn j g u=>?_⟩
  ·rw[h,z];split<;>rfl
  ·rw[h,z];split
   ·cases bv a<;>rfl
   ·rfl
  ·rw[h,Ib (by intro z;rcases z with z|z;omega;exact g z)]
  ·unfold gP;rw[Ia c,h,Ia u,j];show (if bD b=true then some [(n,b)] else none).map _=_;rw[Ia g];rfl
 ·have r:ws[3*i+2]?=some (ws[3*i+2]'(by omega)):=IB (by omega);generalize ws[3*i+2]'(by omega)=p at r;have e:ws.drop (3*i+2)=p::ws.drop (3*(i+1)):=qQ r;rw[e]at h
  have t:db (a::b::p::ws.drop (3*(i+1)))=match bv a with|some n=>if bD b then (if p="+" then (db (ws.drop (3*(i+1)))).map ((n,b)::·) else none) else none|none=>none:=by first|(rw[db];rfl)|rw[db]
  rw[t]at h;refine⟨λz=>?_,λz=>?_,λj g=>?_,λn j g u=>?_⟩
  ·rw[h,z];split<;>rfl
  ·rw[h,z];split
   ·cases bv a<;>rfl
   ·rfl
  ·rw[h,Ib (by intro z;rcases z with z|z;omega;exact g z)]
  ·unfold gP;rw[Ib c,h,Ia u,j];show (if bD b=true then (if p="+" then (db (ws.drop (3*(i+1)))).map ((n,b)::·) else none) else none).map (ts++·)=_;rw[Ia g,show 3*(i+1)-1=3*i+2 by omega,nP r];by_cases l:p="+"
   ·rw[Ia l,Ia (.inr l),Option.map_map];congr 1
    funext x
    simp
   ·rw[Ib l,Ib (by intro z;rcases z with z|z;omega;exact l z)];rfl
def tO{n N:Nat}(h:n+1=3*N):fc 0 (n:Int) 3=N:=by unfold fc;omega
def Ev(F:Fun K "sum_form" "sum_form" ma f fd)(ic:Cl P w K mg base n "number_form" ["word"] z_number_form)(ra:Cl P w K mg base n "is_name" ["word"] z_is_name)(eO:mg "range"=none)(bO:mg "tuple"=none)(B:mg "len"=none):FnOk P w K mg base bf (n+1) f fd ["words"] (bu K (zM z_sum_form)):=by
 refine F.okM sc_sum_form (λas R X h=>?_) (λMZ A outer s H E as R X qs MY o h T=>?_)
 ·obtain⟨_,rfl,ws,rfl,_⟩:=h;rfl
 obtain⟨_,rfl,ws,rfl,hl,O,q⟩:=h;obtain rfl:=bZ T
 refine⟨_,(aL (aJ (aR (aw (bi o.units) (ad 0) (PD.q (PF.d (fJ (af az ao am)))) (au _))) (ai (aC (ae (aM ao)))) aK)
   (aL (aJ (aR (aw (eG o.units) (PD.q (aH hU (PD.q (bE bG rfl B Iv (be (ad 0) bd aa) aa ag)) (PD.q ah))) (PD.q ah) (au _))) (ai (aC (ae bA))) aK)
   (ap (ar (i:=1) sc_sum_form.nd rfl VZ (ft (fJ ao)))
   (ap (g6 JZ rfl (jk (BH rfl eO (af ah (af (bE bG rfl B Iv (be (ad 0) bd aa) aa ag) (af ah ao am) bP) am))) (bq (i:=2) sc_sum_form.nd rfl VZ) (ap (ar (i:=3) sc_sum_form.nd rfl VZ (ae (bM ic o rfl (af (cu (ad 0) (ad 2) (λ_ _=>rfl)) ao ax) ax ag)))
   (ap (ar (i:=4) sc_sum_form.nd rfl VZ (ae (cu (ad 0) (PD.q (aH bh (ad 2) (PD.q ah))) (λ_ _=>rfl))))
   (aL (aJ (aR (PWD.td (dM (aw fW (ad 3) (PD.q bA) (au _)) (eR (ou (jx (PD.q (bM ra o rfl (af (dv 4) ao aa) aa ag)) (λ_=>rfl))))))) (ai (aC (ae bA))) aK)
   (aL (aJ (aR (PWD.td (iQ (aw iU (ad 2) (PD.q ah) (au _)) (iZ (aw (eG o.units) (PD.q (cu (ad 0) (PD.q (aH eV (ad 2) (PD.q ah))) (λ_ _=>rfl))) (PD.q az) (au _)))))) (ai (aC (ae bA))) aK)
   (ai (dY 1 (ae (aM (af (dv 3) (af (dv 4) ao aa) aa))) (bX cC) cC)))))))
   (ai (aC (ae (cL fN rfl bO Jq (be (ad 1) bd aa) aa ag)))))))),?_⟩
 intro ke;have at_:∀{i:Nat}{w:Str}{k:Int},ws[i]?=some w->k=(i:Int)->bK (ws.map D.str) k=some (.str w):=λh e=>gu h e;refine⟨λρ=>ws≠[("0":Str)]/\ρ=[some (.v (.lst (ws.map D.str))),none,none,none,none],?_,?_⟩
 ·dsimp only[tq,xB,qu,gG,rG,tF,qw,dC,pk];refine EW (d:=.lst (ws.map D.str)) rfl ?_;refine D5 (D3 ws) ?_;refine⟨λh=>?_,λh=>⟨IH h,rfl⟩⟩;have h:=Ir h;unfold eM at q;rw[Ia h]at q;exact q
 rintro ρ ⟨U,rfl⟩
 have S:eM ws=if ws.length % 3=2 then db ws else none:=by unfold eM;rw[Ib U]
 refine⟨λρ=>ws.length % 3=2/\ρ=[some (.v (.lst (ws.map D.str))),none,none,none,none],?_,?_⟩
 ·have e:(((ws.map D.str).length:Nat):Int) % 3=((ws.length % 3:Nat):Int):=by rw[HV];omega
  refine⟨(by decide:(0:Int)<3),λh=>?_,λh=>⟨?_,rfl⟩⟩
  ·have l:ws.length % 3≠2:=λz=>by rw[e,z]at h;exact ff h
   rw[S,Ib l]at q;exact q
  ·by_cases c:ws.length % 3=2
   ·exact c
   ·exfalso;rw[e]at h
    have:(((ws.length % 3:Nat):Int)==2)=true:=by simpa using h
    have:=dc this;omega
 rintro ρ ⟨h3,rfl⟩;rw[S,Ia h3]at q;obtain⟨N,r⟩:∃N,ws.length+1=3*N:=⟨(ws.length+1)/3,by omega⟩
 have M:(((ws.map D.str).length:Nat):Int)=(ws.length:Int):=by rw[HV]
 refine⟨0,_,3,rfl,⟨by decide,by decide,by omega,by omega,by decide,by decide⟩,?_⟩;refine⟨λi ρ=>∃(ts:List Tm)(u v x:Option Sm),ρ=[some (.v (.lst (ws.map D.str))),some (.own (ts.map dh)),u,v,x]/\ts.length=i/\gP ws N i ts,⟨[],_,_,_,rfl,rfl,?_⟩,?_,?_⟩
 ·unfold gP;rw[Ib (by omega),Ia (.inl rfl),Nat.mul_zero,K5];cases db ws<;>rfl
 ·rintro i d ρ hd ⟨ts,u,v,x,rfl,Q,g⟩;unfold gO at hd;rw[Ii]at hd;obtain⟨j,hj,rfl⟩:=Lb.mp hd;obtain⟨y,C⟩:=Jk.mp hj;rw[List.getElem_range]at C;subst C;rw[Je,M,tO r]at y;obtain⟨a,b,I,J,n1,n2,n3,go⟩:=CK r y g
  have t:db ws=none->R (.v .non) []:=λz=>by rw[z]at q;exact q
  have Y:=O a (IA I);have Z:=O b (IA J);refine⟨_,at_ I (by omega),a,rfl,Y,?_⟩;refine⟨_,at_ J (by omega),?_⟩;refine⟨λρ=>∃n,bv a=some n/\bD b=true/\ρ=[some (.v (.lst (ws.map D.str))),some (.own (ts.map dh)),some (.v (.int (0+(i:Int)*3))),some (.v (.int n)),some (.v (.str b))],?_,?_⟩
  ·cases e:bv a with
   |none=>exact⟨λ_=>⟨λ_=>t (n1 e),λh=>tf h⟩,λh=>tf h⟩
   |some n=>
    refine⟨λh=>ff h,λ_=>⟨b,rfl,Z,?_⟩⟩
    cases e2:bD b with
    |false=>exact⟨λ_=>t (n2 e2),λh=>tf h⟩
    |true=>exact⟨λh=>ff h,λ_=>⟨n,rfl,rfl,rfl⟩⟩
  rintro ρ ⟨n,hn,hb,rfl⟩;refine⟨λρ=>(i=0\/aO ws (3*i-1)="+")/\ρ=[some (.v (.lst (ws.map D.str))),some (.own (ts.map dh)),some (.v (.int (0+(i:Int)*3))),some (.v (.int n)),some (.v (.str b))],⟨λh=>?_,λh=>⟨λh=>ff h,λ_=>⟨.inl (by have:=IH h;omega),rfl⟩⟩⟩,?_⟩
  ·have h:=Ir h;have m:ws[3*i-1]?=some (ws[3*i-1]'(by omega)):=IB (by omega);generalize ws[3*i-1]'(by omega)=p at m;have G:=nP m;refine⟨_,at_ m (by omega),λl=>t (n3 (by omega) ?_),λl=>⟨.inr ?_,rfl⟩⟩
   ·rw[G];intro z;subst z;exact ff l
   ·rw[G];exact eq_of_beq (by simpa using l)
  rintro ρ ⟨m,rfl⟩;refine⟨cy (by rw[HV];omega),_,zY dh ts (n,b),ts++[(n,b)],_,_,_,rfl,by rw[HY,Q];rfl,go n hn hb m⟩
 ·rintro ρ ⟨ts,u,v,x,rfl,Q,g⟩
  have e:(gO 0 (((ws.map D.str).length:Nat):Int) 3).length=N:=by unfold gO;rw[HV,Je,M,tO r]
  rw[e]at g;unfold gP at g;rw[Ia rfl]at g;rw[g]at q;exact q
open Tx
noncomputable def mK:Frm->D
 |.unk x l m=>.tup [.str "unknown",.str x,.tup [.int l,ir m]]
 |.row ts b t=>.tup [.str "row",.tup (ts.map dh),.int b,.bl t]
 |.worth ts s=>.tup [.str "worth",.tup (ts.map dh),.int s]
noncomputable def jd:Option Frm->D
 |none=>.non
 |some f=>mK f
def dS{ws:List Str}{k:Int}(i:Nat)(a:i<ws.length)(e:k=(i:Int)):bK (ws.map D.str) k=some (.str (aO ws i)):=gu (by rw[nP (IB a)];exact IB a) e
def mT{ws:List Str}{i:Nat}(a:i<ws.length):aO ws i∈ws:=by rw[nP (IB a)];exact KI a
inductive z_unknown_form(ds:List D)(R:D->Prop):Prop|mk (ws:List Str) (_:ds=[.lst (ws.map D.str)]) (_:ws.length<=1000) (_:(∀w∈ws,dm w)) (_:R (jd (gM ws)))
def qt{a b:Str}(h:(!(a==b))=false):a=b:=eq_of_beq (by simpa using h)
def n0{a b:Str}(h:(!(a==b))=true):a≠b:=λe=>by subst e;simp at h
def G8{n:Nat}:fb (.inl (n:Int)) [.inl 4,.inl 6]=decide (n=4\/n=6):=by rw[JQ,pH,IZ];simp;omega
def kj{b:Bool}(h:(true != b)=true):b=false:=by cases b<;>simp_all
def ka{b:Bool}(h:(true != b)=false):b=true:=by cases b<;>simp_all
def zR(F:Fun K "unknown_form" "unknown_form" mO f fd)(u:Cl P w K mg base n "number_form" ["word"] z_number_form)(C:Cl P w K mg base n "is_name" ["word"] z_is_name)(r:mg "len"=none):FnOk P w K mg base bf (n+1) f fd ["words"] (bu K (zM z_unknown_form)):=by
 refine F.okM sc_unknown_form (λas R x h=>?_) (λI A outer s H E as R x O G c h v=>?_)
 ·obtain⟨_,rfl,ws,rfl,_⟩:=h;rfl
 obtain⟨_,rfl,ws,rfl,M,p,q⟩:=h;obtain rfl:=bZ v
 refine⟨_,(aL (aJ (aR (PWD.td (dM (aw lR (PD.q (bE bG rfl r Iv (be (ad 0) bd aa) aa ag)) (PD.q (aM (af ah (af ah ao am) am))) (by with_unfolding_all rfl)) (dM (aw (eG c.units) (PD.q (av (ad 0))) (PD.q az) (au _)) (eR (ou (jx (PD.q (bM C c rfl (af (av (ad 0)) ao ax) ax ag)) (λ_=>rfl)))))))) (ai (aC (ae bA))) aK)
   (ap (ar (i:=1) sc_unknown_form.nd rfl VZ (ae (bM u c rfl (af (av (ad 0)) ao ax) ax ag)))
   (aL (aJ (aR (aw fW (ad 1) (PD.q bA) (au _))) (ai (aC (ae bA))) aK)
   (aL (aJ (aR (aw (bi c.units) (PD.q (bE bG rfl r Iv (be (ad 0) bd aa) aa ag)) (PD.q ah) (au _))) (ai (aC (ae (aM (af az (af (av (ad 0)) (af (aM (af (dv 1) (af bA ao am) aa)) ao cC) ax) am))))) aK)
   (ap (ar (i:=2) sc_unknown_form.nd rfl VZ (ae (bM u c rfl (af (av (ad 0)) ao ax) ax ag)))
   (aL (aJ (aR (PWD.td (dM (aw (eG c.units) (PD.q (av (ad 0))) (PD.q az) (au _)) (eR (aw fW (ad 2) (PD.q bA) (au _)))))) (ai (aC (ae bA))) aK)
   (ai (aC (ae (aM (af az (af (av (ad 0)) (af (aM (af (dv 1) (af (dv 2) ao aa) aa)) ao cC) ax) am))))))))))),?_⟩
 intro N
 have B:(((ws.map D.str).length:Nat):Int)=(ws.length:Int):=by rw[HV]
 have a:¬ ((ws.length=4\/ws.length=6)/\aO ws 2="from"/\bD (aO ws 1)=true)->R (.v .non) []:=λh=>by unfold gM at q;rw[Ib h]at q;exact q
 refine⟨λρ=>((ws.length=4\/ws.length=6)/\aO ws 2="from"/\bD (aO ws 1)=true)/\ρ=[some (.v (.lst (ws.map D.str))),none,none],?_,?_⟩
 ·refine⟨.inl _,[.inl 4,.inl 6],rfl,rfl,?_⟩;rw[B,G8];refine⟨λh=>⟨λ_=>a λz=>?_,λh=>tf h⟩,λh=>?_⟩
  ·exact IH (kj h) z.1
  have g:=Ir (ka h);refine⟨_,dS 2 (by omega) rfl,λo=>⟨λ_=>a λz=>n0 o z.2.1,λh=>tf h⟩,λo=>?_⟩;refine⟨_,dS 1 (by omega) rfl,_,rfl,p _ (mT (by omega)),?_⟩
  cases e:bD (aO ws 1)with
  |false=>exact⟨λ_=>a λz=>(by rw[e]at z;cases z.2.2),λh=>tf h⟩
  |true=>exact⟨λh=>ff h,λ_=>⟨⟨g,qt o,rfl⟩,rfl⟩⟩
 rintro ρ ⟨t,rfl⟩;unfold gM at q;rw[Ia t]at q;have g:=t.1;refine⟨_,dS 3 (by omega) rfl,_,rfl,p _ (mT (by omega)),?_⟩
 cases e:bv (aO ws 3)with
 |none=>
  rw[e]at q;refine⟨λρ=>False,⟨λ_=>q,λh=>tf h⟩,?_⟩;rintro ρ ⟨⟩
 |some l=>
  rw[e]at q;refine⟨λρ=>ρ=_,⟨λh=>ff h,λ_=>rfl⟩,?_⟩;rintro ρ rfl;have q:R (.v (jd (if ws.length=4 then some (.unk (aO ws 1) l none) else match bv (aO ws 5)with|none=>none|some m=>if aO ws 4="to" then some (.unk (aO ws 1) l (some m)) else none))) []:=q;refine⟨λρ=>ws.length=6/\ρ=[some (.v (.lst (ws.map D.str))),some (.v (.int l)),none],⟨λh=>?_,λh=>⟨?_,rfl⟩⟩,?_⟩
  ·have h:=dc h;rw[Ia (by omega)]at q;exact⟨_,dS 1 (by omega) rfl,q⟩
  ·have h:=ko h;omega
  rintro ρ ⟨J,rfl⟩;rw[Ib (by omega)]at q;refine⟨_,dS 5 (by omega) rfl,_,rfl,p _ (mT (by omega)),?_⟩;refine⟨λρ=>∃m,bv (aO ws 5)=some m/\aO ws 4="to"/\ρ=[some (.v (.lst (ws.map D.str))),some (.v (.int l)),some (.v (.int m))],⟨_,dS 4 (by omega) rfl,λh=>⟨λ_=>?_,λh=>tf h⟩,λh=>?_⟩,?_⟩
  ·have:(match bv (aO ws 5)with|none=>none|some m=>if aO ws 4="to" then some (Frm.unk (aO ws 1) l (some m)) else none)=none:=by
    cases bv (aO ws 5)with
    |none=>rfl
    |some m=>exact Ib (n0 h)
   rw[this]at q;exact q
  ·cases j:bv (aO ws 5)with
   |none=>rw[j]at q;exact⟨λ_=>q,λh=>tf h⟩
   |some m=>exact⟨λh=>ff h,λ_=>⟨m,rfl,qt h,rfl⟩⟩
  rintro ρ ⟨m,j,y,rfl⟩;rw[j]at q;have q:R (.v (jd (if aO ws 4="to" then some (.unk (aO ws 1) l (some m)) else none))) []:=q;rw[Ia y]at q;exact⟨_,dS 1 (by omega) rfl,q⟩
inductive z_row_form(ds:List D)(R:D->Prop):Prop|mk (ws:List Str) (_:ds=[.lst (ws.map D.str)]) (_:ws.length<=1000) (_:(∀w∈ws,dm w)) (_:R (jd (jt ws)))
def mP{ws:List Str}{k:Int}(i:Nat)(a:0<i)(c:i<=ws.length)(e:k = -(i:Int)):bK (ws.map D.str) k=some (.str (aO ws (ws.length-i))):=by have h:=dS (ws:=ws) (k:=((ws.length-i:Nat):Int)) (ws.length-i) (by omega) rfl;rw[←h,e];unfold bK ei;rw[HV,Ib (by omega),Ia (by omega)];congr 1;rw[Ia (by omega),Ia (by omega)];congr 1;omega
def zu{ws:List Str}(h:5<=ws.length):br (ws.map D.str) (some 1) (some (-3))=((ws.drop 1).take (ws.length-4)).map D.str:=by
 rw[pD];congr 1;unfold br;rw[show (some (1:Int))=some ((1:Nat):Int)from rfl,HT.sIx_nat,KW (by omega)]
 have:HT.sIx ws.length ws.length (some (-3))=ws.length-3:=by unfold HT.sIx;simp;omega
 rw[this,show ws.length-3-1=ws.length-4 by omega]
def xK{ws:List Str}(h:1<=ws.length):br (ws.map D.str) (some 1) none=(ws.drop 1).map D.str:=by rw[pD];congr 1;unfold br;rw[HT.sIx_none,show (some (1:Int))=some ((1:Nat):Int)from rfl,HT.sIx_nat,KW h,JK (by rw[Jm];omega)]
def sL{x a b:Str}:fb (.inr x) [.inr a,.inr b]=decide (x=a\/x=b):=by rw[JQ,pH,IZ];simp
def EA(F:Fun K "row_form" "row_form" kZ f fd)(y:Cl P w K mg base n "sum_form" ["words"] z_sum_form)(x:Cl P w K mg base n "number_form" ["word"] z_number_form)(u:mg "len"=none):FnOk P w K mg base bf (n+1) f fd ["words"] (bu K (zM z_row_form)):=by
 refine F.okM sc_row_form (λas R t h=>?_) (λC A outer s H E as R t M B e h r=>?_)
 ·obtain⟨_,rfl,ws,rfl,_⟩:=h;rfl
 obtain⟨_,rfl,ws,rfl,I,p,q⟩:=h;obtain rfl:=bZ r
 refine⟨_,(aL (aJ (aR (PWD.td (dM (aw fS (PD.q (bE bG rfl u Iv (be (ad 0) bd aa) aa ag)) (PD.q ah) (au _)) (dM (aw (eG e.units) (PD.q (cu (ad 0) (PD.q (dQ (PD.q ah))) (λ_ _=>rfl))) (PD.q az) (au _)) (eR (aw lR (PD.q (cu (ad 0) (PD.q (dQ (PD.q ah))) (λ_ _=>rfl))) (PD.q (aM (af az (af az ao am) am))) (by with_unfolding_all rfl))))))) (ai (aC (ae bA))) aK)
   (ap (ar (i:=1) sc_row_form.nd rfl VZ (ae (bM y e rfl (af (fF (ad 0) (eQ (PD.q ah)) (eQ (PD.q (dQ (PD.q ah))))) ao ax) ax ag)))
   (ap (ar (i:=2) sc_row_form.nd rfl VZ (ae (bM x e rfl (af (cu (ad 0) (PD.q (dQ (PD.q ah))) (λ_ _=>rfl)) ao ax) ax ag)))
   (aL (aJ (aR (PWD.td (dM (aw fW (ad 1) (PD.q bA) (au _)) (eR (aw fW (ad 2) (PD.q bA) (au _)))))) (ai (aC (ae bA))) aK)
   (ai (aC (ae (aM (af az (af (dv 1) (af (dv 2) (af (i9 (bi e.units) (PD.q (cu (ad 0) (PD.q (dQ (PD.q ah))) (λ_ _=>rfl))) (PD.q az) (au _)) ao jS) aa) aa) am))))))))),?_⟩
 intro J
 have a:¬ (5<=ws.length/\aO ws (ws.length-3)="at"/\(aO ws (ws.length-2)="least"\/aO ws (ws.length-2)="most"))->R (.v .non) []:=λh=>by unfold jt at q;rw[Ib h]at q;exact q
 refine⟨λρ=>(5<=ws.length/\aO ws (ws.length-3)="at"/\(aO ws (ws.length-2)="least"\/aO ws (ws.length-2)="most"))/\ρ=[some (.v (.lst (ws.map D.str))),none,none],?_,?_⟩
 ·have G:(((ws.map D.str).length:Nat):Int)=(ws.length:Int):=by rw[HV]
  refine⟨λh=>⟨λ_=>a λz=>?_,λh=>tf h⟩,λh=>?_⟩
  ·have:=Ir h;omega
  have m:5<=ws.length:=by have:=IH h;omega
  refine⟨_,mP 3 (by decide) (by omega) rfl,λj=>⟨λ_=>a λz=>n0 j z.2.1,λh=>tf h⟩,λj=>?_⟩;refine⟨_,mP 2 (by decide) (by omega) rfl,.inr _,[.inr "least",.inr "most"],rfl,rfl,?_⟩;rw[sL];refine⟨λl=>a λz=>?_,λl=>⟨⟨m,qt j,?_⟩,rfl⟩⟩
  ·exact IH (kj l) z.2.2
  ·exact Ir (ka l)
 rintro ρ ⟨o,rfl⟩;unfold jt at q;rw[Ia o]at q;have m:=o.1;refine⟨_,zu m,_,rfl,?_,λw v=>p w (KO (List.mem_of_mem_take v)),?_⟩
 ·rw[I0,Jm];omega
 refine⟨_,mP 1 (by decide) (by omega) rfl,_,rfl,p _ (mT (by omega)),?_⟩;refine⟨λρ=>∃ts b,eM ((ws.drop 1).take (ws.length-4))=some ts/\bv (aO ws (ws.length-1))=some b/\ρ=[some (.v (.lst (ws.map D.str))),some (.v (.tup (ts.map dh))),some (.v (.int b))],?_,?_⟩
 ·cases c:eM ((ws.drop 1).take (ws.length-4))with
  |none=>rw[c]at q;exact⟨λ_=>⟨λ_=>q,λh=>tf h⟩,λh=>tf h⟩
  |some ts=>
   refine⟨λh=>ff h,λ_=>?_⟩
   cases g:bv (aO ws (ws.length-1))with
   |none=>rw[c,g]at q;exact⟨λ_=>q,λh=>tf h⟩
   |some b=>exact⟨λh=>ff h,λ_=>⟨ts,b,rfl,rfl,rfl⟩⟩
 rintro ρ ⟨ts,b,c,g,rfl⟩;rw[c,g]at q;exact⟨_,mP 2 (by decide) (by omega) rfl,q⟩
inductive z_worth_form(ds:List D)(R:D->Prop):Prop|mk (ws:List Str) (_:ds=[.lst (ws.map D.str)]) (_:1<=ws.length) (_:ws.length<=1000) (_:(∀w∈ws,dm w)) (_:R (jd (il ws)))
def EO(F:Fun K "worth_form" "worth_form" lZ f fd)(o:Cl P w K mg base n "sum_form" ["words"] z_sum_form):FnOk P w K mg base bf (n+1) f fd ["words"] (bu K (zM z_worth_form)):=by
 refine F.okM sc_worth_form (λas R g h=>?_) (λr A outer s H E as R g v p c h e=>?_)
 ·obtain⟨_,rfl,ws,rfl,_⟩:=h;rfl
 obtain⟨_,rfl,ws,rfl,j,t,l,q⟩:=h;obtain rfl:=bZ e
 refine⟨_,(ap (ar (i:=1) sc_worth_form.nd rfl VZ (ae (bM o c rfl (af (fF (ad 0) (eQ (PD.q ah)) fM) ao ax) ax ag)))
   (aL (aJ (aR (aw fW (ad 1) (PD.q bA) (au _))) (ai (aC (ae bA))) aK)
   (ai (aC (ae (aM (af az (af (dv 1) (af (iN (aw (bi c.units) (PD.q (av (ad 0))) (PD.q az) (au _)) ah (dQ (PD.q ah))) ao rV) aa) am))))))),?_⟩
 intro u;unfold il at q;refine⟨_,xK j,_,rfl,by rw[Jm];omega,λw m=>l w (KO m),?_⟩
 cases a:eM (ws.drop 1)with
 |none=>
  rw[a]at q;refine⟨λρ=>False,⟨λ_=>q,λh=>tf h⟩,?_⟩;rintro ρ ⟨⟩
 |some ts=>
  rw[a]at q;refine⟨λρ=>ρ=_,⟨λh=>ff h,λ_=>rfl⟩,?_⟩;rintro ρ rfl;have q:R (.v (mK (.worth ts (if aO ws 0="most" then 1 else -1)))) []:=q;refine⟨_,dS 0 (by omega) rfl,λh=>?_,λh=>?_⟩
  ·rw[Ia (eq_of_beq h)]at q;exact q
  ·rw[Ib (λz=>by rw[z]at h;simp at h)]at q;exact q
def rO{c:Nat}{s w:Str}:∀{ws:List Str},w∈ws->c∈L w->c∈L (Str.join s ws)
 | [x],e,a=>by rw[Ip.mp e]at a;exact a
 |x::y::r,e,a=>by
  rw[i4];rcases Ik.mp e with rfl|e
  ·exact JN _ a
  ·exact Jb _ (Jb _ (rO e a))
def sK{x:Str}(h:dm x):∀w∈Txt.split x " ",dm w:=λw g=>by
 have l:=PyProof.Rows.part_short g;refine⟨?_,by have:=h.2;omega⟩;have a:=h.1;rw[←KN,IC]at a ⊢;intro c j;refine a c ?_;have e:=PySem.StrLaws.join_split x " ";have:c∈L (Str.join " " (Txt.split x " ")):=rO g j;rw[e]at this;exact this
inductive z_line_form(ds:List D)(R:D->Prop):Prop|mk (x:Str) (_:ds=[.str x]) (_:dm x) (_:x.length<=900) (_:R (jd (gU x)))
def Ae(F:Fun K "line_form" "line_form" lH f fd)(g:Cl P w K mg base n "unknown_form" ["words"] z_unknown_form)(j:Cl P w K mg base n "row_form" ["words"] z_row_form)(l:Cl P w K mg base n "worth_form" ["words"] z_worth_form):FnOk P w K mg base bf (n+1) f fd ["line"] (bu K (zM z_line_form)):=by
 refine F.okM sc_line_form (λas R o h=>?_) (λC A outer s H E as R o J B a h m=>?_)
 ·obtain⟨_,rfl,x,rfl,_⟩:=h;rfl
 obtain⟨_,rfl,x,rfl,t,G,q⟩:=h;obtain rfl:=bZ m
 refine⟨_,(ap (ar (i:=1) sc_line_form.nd rfl VZ (ae (PF.d (tS (ad 0) az (bX am) am))))
   (aL (aJ (aR (aw (bi a.units) (PD.q (av (ad 1))) (PD.q az) (au _))) (ai (aC (ae (bM g a rfl (af (dv 1) ao aa) aa ag)))) aK)
   (aL (aJ (aR (aw (bi a.units) (PD.q (av (ad 1))) (PD.q az) (au _))) (ai (aC (ae (bM j a rfl (af (dv 1) ao aa) aa ag)))) aK)
   (aL (aJ (aR (aw l0 (PD.q (av (ad 1))) (PD.q (aM (af az (af az ao am) am))) (by with_unfolding_all rfl))) (ai (aC (ae (bM l a rfl (af (dv 1) ao aa) aa ag)))) aK)
   (ai (aC (ae bA))))))),?_⟩
 intro I;have c:=sK t;have p:=Lc x " ";have r:=ML x " ";unfold gU pR at q;obtain⟨ws,e⟩:∃ws,ws=Txt.split x " ":=⟨_,rfl⟩;rw[←e]at c p r q;refine⟨_,rfl,_,rfl,by decide,by have:=Ju;omega,?_⟩;rw[←e];refine⟨λρ=>aO ws 0≠"unknown"/\ρ=[some (.v (.str x)),some (.v (.lst (ws.map D.str)))],⟨_,dS 0 (by omega) rfl,λh=>?_,λh=>⟨λz=>(by rw[z]at h;simp at h),rfl⟩⟩,?_⟩
 ·rw[Ia (eq_of_beq h)]at q;exact⟨ws,rfl,by omega,c,q⟩
 rintro ρ ⟨u,rfl⟩;rw[Ib u]at q;refine⟨λρ=>aO ws 0≠"row"/\ρ=[some (.v (.str x)),some (.v (.lst (ws.map D.str)))],⟨_,dS 0 (by omega) rfl,λh=>?_,λh=>⟨λz=>(by rw[z]at h;simp at h),rfl⟩⟩,?_⟩
 ·rw[Ia (eq_of_beq h)]at q;exact⟨ws,rfl,by omega,c,q⟩
 rintro ρ ⟨v,rfl⟩;rw[Ib v]at q;refine⟨λρ=>¬ (aO ws 0="most"\/aO ws 0="least"),⟨_,dS 0 (by omega) rfl,.inr _,[.inr "most",.inr "least"],rfl,rfl,?_⟩,?_⟩
 ·rw[sL,Kr];refine⟨λh=>?_,λh=>IH h⟩;rw[Ia (Ir h)]at q;exact⟨ws,rfl,by omega,by omega,c,q⟩
 rintro ρ y;rw[Ib y]at q;exact q
open Tx
noncomputable def look(ts:List Tm)(x:Str):Int:=match ts.find? (λt=>decide (t.2=x))with|some t=>t.1|none=>0
noncomputable def bF(ns:List Str)(ts:List Tm):List Int:=ns.map (look ts)
def Aj{ts:List Tm}{n:Int}{x y:Str}(h:y≠x):look (ts++[(n,x)]) y=look ts y:=by
 unfold look;rw[List.find?_append]
 cases e:ts.find? (λt=>decide (t.2=y))with
 |some t=>rfl
 |none=>
  have:decide (x=y)=false:=ID (Jj h);simp[J5,this]
def CM{ts:List Tm}{n:Int}{x:Str}(h:x∉ts.map (·.2)):look (ts++[(n,x)]) x=n:=by
 unfold look;rw[List.find?_append]
 have e:ts.find? (λt=>decide (t.2=x))=none:=by rw[LV];intro t a c;exact h (IM.mpr ⟨t,a,Ir c⟩)
 rw[e];simp[J5]
def Fx{ns:List Str}{ts:List Tm}{n:Int}{x:Str}{j:Nat}(g:ns.Nodup)(h:x∉ts.map (·.2))(a:ns[j]?=some x):bF ns (ts++[(n,x)])=(bF ns ts).set j n:=by
 unfold bF;refine Jo λi=>?_;rw[Ii];by_cases c:j=i
 ·subst c;rw[a,IP (by rw[HV];exact ba a)];show some (look _ x)=_;rw[CM h]
 ·rw[IL c,Ii]
  cases e:ns[i]? with
  |none=>rfl
  |some y=>
   have:y≠x:=λz=>c ((Kp (ba a) g).mp (by rw[a,e,z]));show some (look _ y)=some (look _ y);rw[Aj this]
def GJ(ns:List Str):(bF ns []).map D.int=List.replicate ns.length (.int 0):=by
 unfold bF;rw[JH];refine Jo λi=>?_;rw[Ii,J9];by_cases c:i<ns.length
 ·rw[IB c,Ia c];rfl
 ·rw[IX (by omega),Ib c];rfl
def Dy{xs:List Str}{x:Str}(h:x∈xs)(l:xs.length<=1000){R:D->Prop}(k:∀j:Nat,j<xs.length->xs[j]?=some x->R (.int (j:Int))):iY (.tup (xs.map D.str)) (.str x) R:=by
 have a:xs.findIdx (λs=>s==x)<xs.length:=List.findIdx_lt_length_of_exists ⟨x,h,Jf x⟩;unfold iY;refine⟨by rw[HV];exact l,xs.map (λs=>s==x),xs.findIdx (λs=>s==x),by simp,λi d b hd c=>?_,?_,λi g=>?_,k _ a ?_⟩
 ·obtain⟨s,rfl,m⟩:=gY hd;rw[Ii,m]at c;cases c;rfl
 ·rw[Ii,bw a];exact JD some (List.findIdx_getElem (p:=λs=>s==x))
 ·have e:i<xs.length:=by omega
  rw[Ii,bw e];have:=List.not_of_lt_findIdx g;show some (xs[i]==x)=some false;simpa using this
 ·have:=List.findIdx_getElem (p:=λs=>s==x) (w:=a);rw[bw a];exact JD some (eq_of_beq this)
noncomputable def na(ns:List Str)(ts:List Tm):Prop:=(∀t∈ts,t.2∈ns)/\(ts.map (·.2)).Nodup
def pW(xs:List Str):xs.map D.str=(xs.map Sum.inr).map gw:=by rw[JH];rfl
def jv{x:Str}{xs:List Str}:fb (.inr x) (xs.map Sum.inr)=decide (x∈xs):=by rw[JQ,pH,IZ];simp
inductive z_sum_entries(ds:List D)(R:D->Prop):Prop|mk (ts:List Tm) (ns:List Str) (at_:D) (_:ds=[.tup (ts.map dh),.tup (ns.map D.str),at_]) (_:ns.Nodup) (_:ns.length<=8) (_:ts.length<=900) (_:na ns ts) (_:R (.tup ((bF ns ts).map D.int)))
def GV{ts:List Tm}{i:Nat}{t:Tm}(j:(ts.map (·.2)).Nodup)(h:ts[i]?=some t):t.2∉(ts.take i).map (·.2):=λe=>by
 rw[L0]at e;obtain⟨k,a⟩:=Kq e
 have c:k<i:=by have:=ba a;rw[I0]at this;omega
 rw[Kt c]at a
 have g:(ts.map (·.2))[i]?=some t.2:=by rw[Ii,h];rfl
 have:=(Kp (ba a) j).mp (a.trans g.symm);omega
def Fw{n j:Nat}(h:j<n):ei n (j:Int)=some j:=by unfold ei;rw[Ia (by omega),Ia (by omega)];rfl
def Bx{a:List (aD×D)}{xs:List Str}{x:Str}(h:a.map (·.1)=xs.map Sum.inr):(dO a (.inr x)).isSome=decide (x∈xs):=by
 rw[vN]
 have e:(a.any λj=>decide (j.1=.inr x))=((a.map (·.1)).any λk=>decide (k=.inr x)):=by rw[Mi];rfl
 rw[e,h,Mi];by_cases c:x∈xs
 ·rw[Jc c];exact Li.mpr ⟨x,c,by show decide ((Sum.inr x:aD)=.inr x)=true;rw[Jc rfl]⟩
 ·rw[ID c];refine Bool.eq_false_iff.mpr λz=>?_;obtain⟨y,g,e⟩:=Li.mp z;have:=Sum.inr.inj (Ir e);rw[this]at g;exact c g
noncomputable abbrev SE(ts:List Tm)(ns:List Str)(at_:D)(es:List Int)(a:List (aD×D))(c e:Option Sm):ak:=[some (.v (.tup (ts.map dh))),some (.v (.tup (ns.map D.str))),some (.v at_),some (.own (es.map D.int)),some (.ob none (.map a)),c,e]
def FI(F:Fun K "sum_entries" "sum_entries" nF f fd)(N:mg "tuple"=none)(M:mg "len"=none):FnOk P w K mg base bf (n+1) f fd ["terms","names","at"] (bu K (zM z_sum_entries)):=by
 refine F.okM sc_sum_entries (λas R I h=>?_) (λX A outer s H E as R I qs U o h C=>?_)
 ·obtain⟨_,rfl,ts,ns,at_,rfl,_⟩:=h;rfl
 obtain⟨_,rfl,ts,ns,at_,rfl,S,Z,T,B,q⟩:=h;obtain rfl:=bZ C
 refine⟨_,(ap (ar (i:=3) sc_sum_entries.nd rfl VZ (ft (wC (PD.q (PF.d (fJ (af ah ao am)))) (PD.q (bE bG rfl M Iv (be (ad 1) bd aa) aa ag)))))
   (ap (ar (i:=4) sc_sum_entries.nd rfl VZ D8)
   (ap (g6 JZ rfl (jk (fu (dv 0))) (eD (n:=2) rfl (bz (bq (i:=5) sc_sum_entries.nd rfl VZ) (bz (bq (i:=6) sc_sum_entries.nd rfl VZ) eo))) (aL (aJ (aR (aw lR (ad 6) (ad 1) (by with_unfolding_all rfl))) (ai j8) aK)
   (aL (aJ (EY 4 o.units (dv 6)) (ai j8) aK)
   (ap (wT 4 o.units (dv 6) ip)
   (ai (ld 3 (ae (dv 5)) (ae (Fe o.units (ad 1) (dv 6) rfl (bX aa) aa))))))))
   (ai (aC (ae (cL fN rfl N Jq (be (ad 3) bd aa) aa ag))))))),?_⟩
 intro ke
 have O:(((ns.map D.str).length:Nat):Int)=(ns.length:Int):=by rw[HV]
 refine⟨⟨by omega,by omega,small (by show 1*_<=1000;omega)⟩,(bF ns []).map D.int,?_,?_⟩
 ·rw[FX,GJ,O,JL,List.map_replicate]
 refine⟨λi ρ=>∃(a:List (aD×D))(p r:Option Sm),a.map (·.1)=((ts.take i).map (·.2)).map Sum.inr/\ρ=SE ts ns at_ (bF ns (ts.take i)) a p r,⟨[],_,_,rfl,rfl⟩,?_,?_⟩
 ·rintro i d ρ hd ⟨a,p,r,l,rfl⟩;obtain⟨t,rfl,g⟩:=gY hd;have z:=B.1 t (IA g);have u:=GV B.2 g;have Y:=ba g;have c:=Bx (x:=t.2) l;rw[ID u]at c;refine⟨rfl,?_⟩;refine⟨λρ=>ρ=SE ts ns at_ (bF ns (ts.take i)) a (some (.v (.int t.1))) (some (.v (.str t.2))),⟨.inr t.2,ns.map Sum.inr,rfl,by rw[←pW];rfl,?_⟩,?_⟩
  ·rw[jv,Jc z];exact⟨λh=>ff h,λ_=>rfl⟩
  rintro ρ rfl;refine⟨λρ=>ρ=SE ts ns at_ (bF ns (ts.take i)) a (some (.v (.int t.1))) (some (.v (.str t.2))),⟨.inr t.2,rfl,λh=>?_,λ_=>rfl⟩,?_⟩
  ·rw[vQ,c]at h;cases h
  rintro ρ rfl;have y:=ji g
  have G:a.length=(ts.take i).length:=by have:=JD List.length l;rwa [HV,HV,HV]at this
  have J:dO a (.inr t.2)=none:=by
   cases e:dO a (.inr t.2)with
   |none=>rfl
   |some v=>rw[e]at c;cases c
  refine⟨trivial,.inr t.2,rfl,by rw[G,I0];exact cy (by omega),_,zy J,?_⟩;rfl';refine⟨trivial,?_⟩;show iY (.tup (ns.map D.str)) (.str t.2) _;refine Dy z (by omega) λj Q m=>?_;refine⟨j,Fw (by rw[HV];unfold bF;rw[HV];exact Q),(bF ns (ts.take (i+1))).map D.int,?_,_,_,_,?_,rfl⟩
  ·rw[y,show t=(t.1,t.2)from rfl,Fx S u m,List.map_set]
  ·rw[y,IJ,IJ,IJ,l];rfl
 ·rintro ρ ⟨a,p,r,l,rfl⟩;rw[HV,Kf];exact q
noncomputable abbrev cS:=Int×Option Int
noncomputable abbrev Rw:=List Int×Int
noncomputable def dl(b:cS):D:=.tup [.int b.1,ir b.2]
noncomputable def bJ(r:Rw):D:=.tup [.tup (r.1.map D.int),.int r.2]
noncomputable def jy(r:Rw):Rw:=(r.1.map λx=>-x,-r.2)
inductive z_turned(ds:List D)(R:D->Prop):Prop|mk (r:Rw) (_:ds=[bJ r]) (_:r.1.length<=1000) (_:R (bJ (jy r)))
def w8(F:Fun K "turned" "turned" jM f fd)(e:mg "tuple"=none):FnOk P w K mg base bf (n+1) f fd ["row"] (bu K (zM z_turned)):=by
 refine F.okM G2 (λas R c h=>?_) (λl A outer s H E as R c p j m h a=>?_)
 ·obtain⟨_,rfl,r,rfl,_⟩:=h;rfl
 obtain⟨_,rfl,r,rfl,g,q⟩:=h;obtain rfl:=bZ a;refine⟨_,(ai (aC (ae (aM (af (cL fN rfl e Jq (be (PD.q (PF.d (gq (k:=1) (N':=["entry"]) (cap:=[none]) rfl (.ok (show dB ["row"] (ay jM) _ ["entry"] [none]=true by lia)) (by lia) (dH (by decide)) (fu (av (ad 0))) (λ_ _ _ _ _=>(dI (i:=0) (show List.Nodup (["entry"]:List Str)by lia) rfl VZ)) (λ_ _ _ _ _=>(dQ (ad 0)))))) bd c8) c8 ag) (af (dQ (PD.q (av (ad 0)))) ao pG) bP))))),?_⟩;intro o;refine⟨_,rfl,?_⟩;refine lj (f:=D.int) (λx=>-x) (cy g) (λx _=>rfl) ?_;exact⟨_,rfl,q⟩
open Tx
inductive z_turned_numbers(ds:List D)(R:D->Prop):Prop|mk (es:List Int) (_:ds=[.tup (es.map D.int)]) (_:es.length<=1000) (_:R (.tup ((es.map λx=>-x).map D.int)))
def zw(F:Fun K "turned_numbers" "turned_numbers" kO f fd)(e:mg "tuple"=none):FnOk P w K mg base bf (n+1) f fd ["entries"] (bu K (zM z_turned_numbers)):=by
 refine F.okM Aq (λas R c h=>?_) (λl A outer s H E as R c p j m h a=>?_)
 ·obtain⟨_,rfl,es,rfl,_⟩:=h;rfl
 obtain⟨_,rfl,es,rfl,g,q⟩:=h;obtain rfl:=bZ a;refine⟨_,(ai (aC (ae (cL fN rfl e Jq (be (PD.q (PF.d (gq (k:=1) (N':=["entry"]) (cap:=[none]) rfl (.ok (show dB ["entries"] (ay kO) _ ["entry"] [none]=true by lia)) (by lia) (dH (by decide)) (fu (dv 0)) (λ_ _ _ _ _=>(dI (i:=0) (show List.Nodup (["entry"]:List Str)by lia) rfl VZ)) (λ_ _ _ _ _=>(dQ (ad 0)))))) bd c8) c8 ag)))),?_⟩;intro o;refine lj (f:=D.int) (λx=>-x) (cy g) (λx _=>rfl) ?_;exact q
noncomputable def cX(sn:Int)(es:List Int):List Int:=if sn = -1 then es.map λx=>-x else es
def Ec{f:Frm}(h:eJ f)(e:(aW f).length<=900):dm (aW f):=by
 refine⟨?_,by omega⟩;rw[←KN,IC];intro c a;have:=FY h c a;exact Jc (by omega)
def le{s:Str}:∀{ws:List Str}{B:Nat},(∀w∈ws,w.length<=B)->(Str.join s ws).length<=ws.length*(B+s.length)
 | [],B,_=>by show 0<=_;omega
 | [x],B,h=>by
  have:=h x Ie;show x.length<=1*(B+s.length);omega
 |x::y::r,B,h=>by
  have e:=h x Ie;have a:=le (s:=s) (ws:=y::r) (B:=B) λw c=>h w (Ic _ c);show (x++s++Str.join s (y::r)).length<=_;rw[fE,fE];simp only[Ij]at a ⊢;rw[Nat.succ_mul];omega
open Tx
def cQ(s x y:Str)(r:List Str):Str.join s (x::y::r)=x++s++Str.join s (y::r):=rfl
def ui:("unknown ":Str)="unknown"++" ":=by decide
def va:(" from ":Str)=" "++("from"++" "):=by decide
def Cr:(" to ":Str)=" "++("to"++" "):=by decide
def Bd:(" + ":Str)=" "++("+"++" "):=by decide
def wn:("row ":Str)="row"++" ":=by decide
def EM:(" at least ":Str)=" "++("at"++(" "++("least"++" "))):=by decide
def EX:(" at most ":Str)=" "++("at"++(" "++("most"++" "))):=by decide
def E8:("most ":Str)="most"++" ":=by decide
def wx:("least ":Str)="least"++" ":=by decide
def kS(x:Str)(l:Int):"unknown "++(x++(" from "++nstr l))=aW (.unk x l none):=by unfold aW bY;rw[cQ,cQ,cQ,ui,va];simp only[Jg];rfl
def qH(x:Str)(l m:Int):"unknown "++(x++(" from "++(nstr l++(" to "++nstr m))))=aW (.unk x l (some m)):=by unfold aW bY;rw[cQ,cQ,cQ,cQ,cQ,ui,va,Cr];simp only[Jg];rfl
def gX{s:Str}:∀{xs ys:List Str},xs≠[]->ys≠[]->Str.join s (xs++ys)=Str.join s xs++(s++Str.join s ys)
 | [],_,h,_=>absurd rfl h
 | [x],y::ys,_,_=>by rw[List.singleton_append,cQ,Jg];rfl
 | [x],[],_,h=>absurd rfl h
 |x::a::xs,ys,_,h=>by rw[KL,KL,cQ,cQ,←KL,gX (xs:=a::xs) (by simp) h];simp only[Jg]
def jz:∀ts:List Tm,aS ts≠[]
 | []=>by simp[aS]
 | [(n,x)]=>by simp[aS]
 |(n,x)::_::_=>by simp[aS]
noncomputable def cB(t:Tm):Str:=nstr t.1++(" "++t.2)
def kA:∀{ts:List Tm},ts≠[]->Str.join " + " (ts.map cB)=Str.join " " (aS ts)
 | [],h=>absurd rfl h
 | [(n,x)],_=>by show cB (n,x)=Str.join " " [nstr n,x];rw[cQ,Jg];rfl
 |(n,x)::(m,y)::r,_=>by
  have a:=kA (ts:=(m,y)::r) (by simp);show Str.join " + " (cB (n,x)::cB (m,y)::r.map cB)=Str.join " " ([nstr n,x,"+"]++aS ((m,y)::r));rw[cQ,gX (by simp) (jz _)];have a:Str.join " + " (cB (m,y)::r.map cB)=_:=a;rw[a];show (nstr n++(" "++x))++" + "++_=Str.join " " [nstr n,x,"+"]++_;rw[cQ,cQ,Bd];simp only[Jg];rfl
noncomputable def b7(ts:List Tm):Str:=Str.join " " (aS ts)
def uk(ts:List Tm)(b:Int):"row "++(b7 ts++(" at least "++nstr b))=aW (.row ts b false):=by
 unfold b7;show _=Str.join " " (("row":Str)::(aS ts++cA false b));have e:("row":Str)::(aS ts++cA false b)=[("row":Str)]++(aS ts++cA false b):=rfl;rw[e,gX (by simp) (by simp[cA]),gX (jz ts) (by simp[cA]),wn,EM];show _="row"++(" "++(Str.join " " (aS ts)++(" "++Str.join " " [("at":Str),"least",nstr b])));rw[cQ,cQ];simp only[Jg];rfl
def Bc(ts:List Tm)(b:Int):"row "++(b7 ts++(" at most "++nstr b))=aW (.row ts b true):=by
 unfold b7;show _=Str.join " " (("row":Str)::(aS ts++cA true b));have e:("row":Str)::(aS ts++cA true b)=[("row":Str)]++(aS ts++cA true b):=rfl;rw[e,gX (by simp) (by simp[cA]),gX (jz ts) (by simp[cA]),wn,EX];show _="row"++(" "++(Str.join " " (aS ts)++(" "++Str.join " " [("at":Str),"most",nstr b])));rw[cQ,cQ];simp only[Jg];rfl
def iM(ts:List Tm):"most "++b7 ts=aW (.worth ts 1)/\"least "++b7 ts=aW (.worth ts (-1)):=by
 have e:∀x:Str,x::aS ts=[x]++aS ts:=λ_=>rfl;constructor
 ·unfold b7;show _=Str.join " " (("most":Str)::aS ts);rw[e,gX (by simp) (jz ts),E8,Jg];rfl
 ·unfold b7;show _=Str.join " " (("least":Str)::aS ts);rw[e,gX (by simp) (jz ts),wx,Jg];rfl
noncomputable def bC(ns:List Str)(es:List Int):List Tm:=(es.zip ns).filter λt=>decide (t.1≠0)
def tD{ns:List Str}{es:List Int}{t:Tm}(h:t∈bC ns es):t.1∈es/\t.2∈ns/\t.1≠0:=by obtain⟨a,c⟩:=Mt.mp h;obtain⟨e,g⟩:=Km (show (t.1,t.2)∈es.zip ns from a);exact⟨e,g,Ir c⟩
noncomputable abbrev BC:=List Tm×Int×Bool
noncomputable def jL(ns:List Str)(bs:List cS)(rs:List BC)(a:List Tm)(sn:Int):List Frm:=(List.zipWith (λx b=>Frm.unk x b.1 b.2) ns bs)++(rs.map (λr=>Frm.row r.1 r.2.1 r.2.2)++[Frm.worth a sn])
open Tx
noncomputable def fG(ns:List Str):Prop:=ns.Nodup/\ns.length<=8/\∀x∈ns,bD x=true
noncomputable def bx(z:Int):Prop:=z.natAbs<10000
def fm{x:Str}(h:bD x=true):x.length<=12:=by unfold bD at h;simp only[Iz,IZ]at h;exact h.1.2
def big{z:Int}(h:bx z):z.natAbs<2^1900:=IT (show z.natAbs<2^20 by unfold bx at h;omega) (Nat.pow_le_pow_right (by decide) (by decide))
def hV{x:Str}{n:Nat}(h:x.length<=n)(a:n<=1000000:=by decide):x.length<=1000000:=IF h a
def jO{s:Str}{a:List Str}(B:Nat)(c:∀z∈a,z.length<=B)(e:a.length*B+a.length*s.length<=16777216):JoinOk s a=true:=by unfold JoinOk;rw[PySem.StrLaws.joinFits (B:=B) c e];rfl
def By{g:Type}(c:g->Bool)(h:g->D):∀l:List g,(l.map λx=>if c x then some (h x) else none).filterMap id=(l.filter c).map h:=by
 intro l
 induction l with
 |nil=>rfl
 |cons x l j=>
  rw[IE]
  cases e:c x with
  |true=>rw[Ia rfl,List.filterMap_cons_some (f:=id) (a:=some (h x)) (b:=h x) rfl,Ms e,IE,j]
  |false=>rw[Ib (by simp),List.filterMap_cons_none (f:=id) rfl,List.filter_cons_of_neg (by rw[e];simp),j]
def yR{m:Type}{f:m->D}{xs:List m}{g:cP}{t:bL}{u:TD}{ρ:bT}{R:List (Option D)->Prop}(c:m->Bool)(h:m->D)(j:xs.length<sizeLine)(v:∀x∈xs,g (f x) ρ λa=>t a λb=>(b=true->u a λy=>c x=true/\y=h x)/\(b=false->c x=false))(k:R (xs.map λx=>if c x then some (h x) else none)) :
  (xs.map f).length<sizeLine/\∃P:Nat->Option D->Prop,(∀i d,(xs.map f)[i]?=some d->g d ρ λa=>t a λb=>(b=true->u a λy=>P i (some y))/\(b=false->P i none))/\∀ys:List (Option D),ys.length=(xs.map f).length->(∀i y,ys[i]?=some y->P i y)->R ys:=by
 refine⟨by rw[HV];exact j,λi=>match xs[i]? with|some x=>λo=>(match o with|some y=>c x=true/\y=h x|none=>c x=false)|none=>λ_=>False,λi d hd=>?_,λys r z=>?_⟩
 ·rw[Ii]at hd
  cases e:xs[i]? with
  |none=>rw[e]at hd;cases hd
  |some x=>
   rw[e]at hd;cases hd;simp only[e];exact v x (IA e)
 ·have e:ys=xs.map λx=>if c x then some (h x) else none:=by
   refine Jo λi=>?_;rw[Ii]
   cases ex:xs[i]? with
   |none=>
    have:xs.length<=i:=JR.mp ex;rw[HV]at r;rw[IX (by omega)];rfl
   |some x=>
    have A:=ba ex;rw[HV]at r;have l:ys[i]?=some (ys[i]'(by omega)):=bw (by omega);have q:=z i _ l;rw[l];simp only[ex]at q
    cases p:ys[i]'(by omega)with
    |none=>
     rw[p]at q;show some none=some (if c x=true then _ else _);rw[Ib (by rw[q];simp)]
    |some y=>
     rw[p]at q;show some (some y)=some (if c x=true then _ else _);rw[Ia q.1,q.2]
  rw[e];exact k
def CO(es:List Int)(ns:List Str):eT (es.map D.int) (ns.map D.str)=(es.zip ns).map dh:=by rw[rN];rfl
def jg(ns:List Str)(es:List Int):(bC ns es).length<=es.length:=IF (List.length_filter_le _ _) (by rw[Mw];omega)
def pf{ns:List Str}{es:List Int}(l:fG ns)(j:∀e∈es,bx e):∀t∈bC ns es,(cB t).length<=18:=λt m=>by
 obtain⟨g,h,_⟩:=tD m;have a:=cK (j _ g);have b:=fm (l.2.2 _ h)
 have c:(" ":Str).length=1:=by decide
 unfold cB;rw[fE,fE,c];omega
def mH{ns:List Str}{es:List Int}(h:fG ns)(m:es.length<=8)(g:∀e∈es,bx e):(b7 (bC ns es)).length<=200:=by
 have o:=jg ns es;by_cases c:bC ns es=[]
 ·rw[c];decide
 ·have e:b7 (bC ns es)=Str.join " + " ((bC ns es).map cB):=(kA c).symm;rw[e]
  have:=le (s:=" + ") (ws:=(bC ns es).map cB) (B:=18) λz l=>by obtain⟨t,j,rfl⟩:=IM.mp l;exact pf h g t j
  have a:(" + ":Str).length=3:=by decide
  rw[a,HV]at this;omega
def kT{sn:Int}{es:List Int}(a:∀e∈es,bx e):∀e∈cX sn es,bx e:=by
 unfold cX;split
 ·intro e h;obtain⟨x,c,rfl⟩:=IM.mp h;have:=a x c;unfold bx at this ⊢;omega
 ·exact a
def k7(sn:Int)(es:List Int):(cX sn es).length=es.length:=by unfold cX;split<;>simp
noncomputable def iB(bs:List cS)(rs:List Rw)(gl:List Int):D:=.tup [.tup (bs.map dl),.tup (rs.map bJ),.tup (gl.map D.int)]
structure PlOk(ns:List Str)(bs:List cS)(rs:List Rw)(gl:List Int):Prop where
 nm:fG ns
 bl:bs.length=ns.length
 bo:∀b∈bs,bx b.1/\∀m,b.2=some m->bx m
 rl:rs.length<=12
 ro:∀r∈rs,r.1.length=ns.length/\(∀e∈r.1,bx e)/\bx r.2
 gn:gl.length=ns.length
 go:∀e∈gl,bx e
noncomputable def cT(ns:List Str)(bs:List cS)(rs:List Rw)(gl:List Int)(sn:Int):List Frm:=jL ns bs (rs.map λr=>(bC ns r.1,r.2,false)) (bC ns (cX sn gl)) sn
noncomputable def oV:Frm->Prop
 |.unk _ _ _=>True
 |.row ts _ _=>ts.length<=8
 |.worth ts _=>ts.length<=8
def nj:∀ts:List Tm,(aS ts).length<=3*ts.length+1
 | []=>by simp[aS]
 | [(n,x)]=>by simp[aS]
 |(n,x)::t::r=>by
  have:=nj (t::r);show (aS (t::r)).length+3<=_;simp only[Ij]at this ⊢;omega
def k9:∀{ts:List Tm},(∀t∈ts,fU t)->∀w∈aS ts,w.length<=12
 | [],_,w,a=>by rw[Ip.mp a];decide
 | [(n,x)],h,w,a=>by
  have c:=h (n,x) Ie;simp only[aS,Ik,IQ,JJ]at a;rcases a with rfl|rfl
  ·exact IF (cK c.1) (by decide)
  ·exact fm c.2
 |(n,x)::t::r,h,w,a=>by
  have c:=h (n,x) Ie;have a:w∈nstr n::x::"+"::aS (t::r):=a;simp only[Ik]at a;rcases a with rfl|rfl|rfl|a
  ·exact IF (cK c.1) (by decide)
  ·exact fm c.2
  ·decide
  ·exact k9 (λt e=>h t (Ic _ e)) w a
def ux{f:Frm}(h:eJ f)(g:oV f):(aW f).length<=900:=by
 have o:(" ":Str).length=1:=by decide
 have k:∀z∈(["unknown","from","to","row","at","most","least"]:List Str),z.length<=12:=by decide
 have r:∀w∈bY f,w.length<=12:=by
  intro w a
  cases f with
  |unk x l m=>
   obtain⟨c,e,p⟩:=h;have y:=cK e;have j:=fm c
   cases m with
   |none=>
    simp only[bY,Ik,IQ,JJ]at a;rcases a with rfl|rfl|rfl|rfl
    ·exact k _ (by simp)
    ·exact j
    ·exact k _ (by simp)
    ·omega
   |some m=>
    have A:=cK (p m rfl);simp only[bY,Ik,IQ,JJ]at a;rcases a with rfl|rfl|rfl|rfl|rfl|rfl
    ·exact k _ (by simp)
    ·exact j
    ·exact k _ (by simp)
    ·omega
    ·exact k _ (by simp)
    ·omega
  |row ts b t=>
   obtain⟨c,e⟩:=h;have u:=cK e;simp only[bY,Ik,II,cA,IQ,JJ]at a;rcases a with rfl|a|rfl|rfl|rfl
   ·exact k _ (by simp)
   ·exact k9 c w a
   ·exact k _ (by simp)
   ·cases t<;>exact k _ (by simp)
   ·omega
  |worth ts s=>
   obtain⟨c,e⟩:=h;simp only[bY,Ik]at a;rcases a with rfl|a
   ·split<;>exact k _ (by simp)
   ·exact k9 c w a
 have v:(bY f).length<=29:=by
  cases f with
  |unk x l m=>cases m<;>simp[bY]
  |row ts b t=>
   have:=nj ts;have g:ts.length<=8:=g;simp only[bY,Ij,HY,cA,Jh];omega
  |worth ts s=>
   have:=nj ts;have g:ts.length<=8:=g;simp only[bY,Ij];omega
 have:=le (s:=" ") (ws:=bY f) (B:=12) r;rw[o]at this;unfold aW;omega
def rc{ns:List Str}{es:List Int}(h:fG ns)(g:∀e∈es,bx e):∀t∈bC ns es,fU t:=λt j=>by obtain⟨a,c,_⟩:=tD j;exact⟨g _ a,h.2.2 _ c⟩
def tX{ns:List Str}{bs:List cS}{rs:List Rw}{gl:List Int}{sn:Int}(c:PlOk ns bs rs gl)(t:sn=1\/sn = -1):∀f∈cT ns bs rs gl sn,eJ f/\(aW f).length<=900:=by
 intro f a
 have g:eJ f/\oV f:=by
  unfold cT jL at a;rcases II.mp a with a|a
  ·obtain⟨i,e⟩:=Kq a;rw[MI]at e
   cases j:ns[i]? with
   |none=>rw[j]at e;cases e
   |some x=>
    cases l:bs[i]? with
    |none=>rw[j,l]at e;cases e
    |some b=>
     rw[j,l]at e;cases e;have h:=c.bo b (IA l);exact⟨⟨c.nm.2.2 x (IA j),h.1,h.2⟩,trivial⟩
  ·rcases II.mp a with a|a
   ·rw[JH]at a;obtain⟨r,p,rfl⟩:=IM.mp a;obtain⟨h,m,o⟩:=c.ro r p;exact⟨⟨rc c.nm m,o⟩,IF (jg ns r.1) (by rw[h];exact c.nm.2.1)⟩
   ·rw[Ip.mp a];exact⟨⟨rc c.nm (kT c.go),t⟩,IF (jg ns _) (by rw[k7,c.gn];exact c.nm.2.1)⟩
 exact⟨g.1,ux g.1 g.2⟩
def uF{ns:List Str}{bs:List cS}{rs:List Rw}{gl:List Int}{sn:Int}(a:PlOk ns bs rs gl):(cT ns bs rs gl sn).length<=40:=by
 have c:=a.nm.2.1;have e:=a.bl;have g:=a.rl;unfold cT jL;simp only[HY,KR,HV,Ij,Jh];omega
open Tx
inductive z_written_unknown(ds:List D)(R:D->Prop):Prop|mk (x:Str) (b:cS) (_:ds=[.str x,dl b]) (_:bD x=true) (_:bx b.1) (_:(∀m,b.2=some m->bx m)) (_:R (.str (aW (.unk x b.1 b.2))))
def Ga(F:Fun K "written_unknown" "written_unknown" mr f fd) :FnOk P w K mg base bf (n+1) f fd ["name","bounds"] (bu K (zM z_written_unknown)):=by
 refine F.okM sc_written_unknown (λas R r h=>?_) (λz A outer s H E as R r G y B h p=>?_)
 ·obtain⟨_,rfl,x,b,rfl,_⟩:=h;rfl
 obtain⟨_,rfl,x,b,rfl,u,e,a,q⟩:=h;obtain rfl:=bZ p
 refine⟨_,(ap (ar (i:=2) sc_written_unknown.nd rfl VZ (ae (av (ad 1))))
   (ap (ar (i:=3) sc_written_unknown.nd rfl VZ (ae (av (ad 1))))
   (aL (aJ (aR (aw fW (ad 3) (PD.q bA) (au _))) (ai (aC (ae (js (dG fK (dG (fj (dv 0)) (dG fK (jj (fj (dv 2)))))))))) aK)
   (ai (aC (ae (js (dG fK (dG (fj (dv 0)) (dG fK (dG (fj (dv 2)) (dG fK (jj (fj (dv 3))))))))))))))),?_⟩
 intro C;obtain⟨l,m⟩:=b;have c:=hV (fm u);have o:=hV (cK e)
 have g:("unknown ":Str).length<=1000000:=by decide
 have j:(" from ":Str).length<=1000000:=by decide
 have t:(" to ":Str).length<=1000000:=by decide
 refine⟨_,rfl,_,rfl,?_⟩
 cases m with
 |none=>
  refine⟨λρ=>False,⟨λ_=>?_,λh=>tf h⟩,?_⟩
  ·refine⟨g,c,c,j,big e,o,?_⟩;show R (.v (.str ("unknown "++(x++(" from "++nstr l))))) [];rw[kS];exact q
  rintro ρ ⟨⟩
 |some m=>
  have a:=a m rfl;have v:=hV (cK a);refine⟨λρ=>ρ=_,⟨λh=>ff h,λ_=>rfl⟩,?_⟩;rintro ρ rfl;refine⟨g,c,c,j,big e,o,t,big a,v,?_⟩;show R (.v (.str ("unknown "++(x++(" from "++(nstr l++(" to "++nstr m))))))) [];rw[qH];exact q
inductive z_written_sum(ds:List D)(R:D->Prop):Prop|mk (ns:List Str) (es:List Int) (_:ds=[.tup (ns.map D.str),.tup (es.map D.int)]) (_:fG ns) (_:es.length<=8) (_:(∀e∈es,bx e)) (_:R (.str (b7 (bC ns es))))
def Gc(F:Fun K "written_sum" "written_sum" kr f fd)(x:mg "len"=none)(y:mg "zip"=none):FnOk P w K mg base bf (n+1) f fd ["names","entries"] (bu K (zM z_written_sum)):=by
 refine F.okM sc_written_sum (λas R v h=>?_) (λI A outer s H E as R v O G o h p=>?_)
 ·obtain⟨_,rfl,ns,es,rfl,_⟩:=h;rfl
 obtain⟨_,rfl,ns,es,rfl,g,J,a,q⟩:=h;obtain rfl:=bZ p
 refine⟨_,(ap (AF (i:=2) (k:=2) (N':=["entry","name"]) (cap:=[none,none]) rfl sc_written_sum.nd rfl VZ (.ok (show dB ["names","entries","terms"] (ay kr) _ ["entry","name"] [none,none]=true by lia)) (by lia) (wj (n:=2) (mW (dH (by decide)) (mW (dH (by decide)) sM))) (lW rfl y (af (dv 1) (af (dv 0) ao aa) aa)) (λ_ _ _ _ _=>(vS (n:=2) rfl (nL (dI (i:=0) (show List.Nodup (["entry","name"]:List Str)by lia) rfl VZ) (nL (dI (i:=1) (show List.Nodup (["entry","name"]:List Str)by lia) rfl VZ) v2)))) (λ_ _ _ _ _=>(EF (aw (eG o.units) (ad 0) (PD.q ah) (au _)))) (λ_ _ _ _ _=>(js (dG (fj (dv 0)) (dG fK (jj (fj (dv 1))))))))
   (iP 2 (aL (aJ (aR (aw (bi o.units) (PD.q (bE bG rfl x Iv (be (ad 2) bd aa) aa ag)) (PD.q ah) (au _))) (ai (aC (ae az))) aK)
   (ai (aC (ae (jP (PD.q az) (dv 2) (bX aa) aa))))))),?_⟩
 intro M;have N:=g.2.1;refine⟨_,_,rfl,rfl,?_⟩;rw[CO];refine yR (f:=dh) (xs:=es.zip ns) (λt:Tm=>decide (t.1≠0)) (λt=>D.str (cB t)) (cy (by rw[Mw];omega)) (λt j=>?_) ?_
 ·obtain⟨m,B⟩:=Km (show (t.1,t.2)∈es.zip ns from j);have a6:=hV (cK (a _ m));have l:=hV (fm (g.2.2 _ B));refine⟨rfl,λh=>?_,λh=>?_⟩
  ·refine⟨big (a _ m),a6,by decide,l,l,?_,rfl⟩;refine Jc λz=>?_;rw[z]at h;exact ff h
  ·refine ID λz=>?_
   have:(t.1==0)=true:=by simpa using h
   exact z (dc this)
 rw[By];have u:(es.zip ns).filter (λt:Tm=>decide (t.1≠0))=bC ns es:=rfl;rw[u];have Q:=jg ns es;refine⟨λρ=>bC ns es≠[]/\ρ=[some (.v (.tup (ns.map D.str))),some (.v (.tup (es.map D.int))),some (.v (.lst ((bC ns es).map λt=>D.str (cB t))))],⟨λh=>?_,λh=>⟨λz=>?_,rfl⟩⟩,?_⟩
 ·have h:=dc h;rw[HV]at h;have e:bC ns es=[]:=Jx.mp (by omega);rw[e]at q;exact q
 ·rw[z]at h;exact tf h
 rintro ρ ⟨r,rfl⟩;refine⟨_,rfl,(bC ns es).map cB,by rw[JH];rfl,jO 18 (λz C=>?_) ?_,?_⟩
 ·obtain⟨t,j,rfl⟩:=IM.mp C;exact pf g a t j
 ·have c:(" + ":Str).length=3:=by decide
  rw[HV,c];omega
 ·have e:Txt.join " + " ((bC ns es).map cB)=b7 (bC ns es):=(J0 _ _).trans (kA r);rw[e];exact q
inductive z_written_row(ds:List D)(R:D->Prop):Prop|mk (ns:List Str) (r:Rw) (_:ds=[.tup (ns.map D.str),bJ r]) (_:fG ns) (_:r.1.length<=8) (_:(∀e∈r.1,bx e)) (_:bx r.2) (_:R (.str (aW (.row (bC ns r.1) r.2 false))))
def Gj(F:Fun K "written_row" "written_row" lf f fd)(t:Cl P w K mg base n "written_sum" ["names","entries"] z_written_sum):FnOk P w K mg base bf (n+1) f fd ["names","row"] (bu K (zM z_written_row)):=by
 refine F.okM sc_written_row (λas R m h=>?_) (λv A outer s H E as R m y u p h l=>?_)
 ·obtain⟨_,rfl,ns,r,rfl,_⟩:=h;rfl
 obtain⟨_,rfl,ns,r,rfl,g,e,c,a,q⟩:=h;obtain rfl:=bZ l
 refine⟨_,(ap (ar (i:=2) sc_written_row.nd rfl VZ (ae (bM t p rfl (af (dv 0) (af (av (ad 1)) ao ax) aa) aa (aF ax ag))))
   (ap (ar (i:=3) sc_written_row.nd rfl VZ (ae (av (ad 1))))
   (ai (aC (ae (js (dG fK (dG (fj (dv 2)) (dG fK (jj (fj (dv 3)))))))))))),?_⟩
 intro x;have j:=hV (mH g e c);have o:=hV (cK a);refine⟨_,rfl,ns,r.1,rfl,g,e,c,?_⟩;refine⟨_,rfl,?_⟩;refine⟨by decide,j,j,by decide,big a,o,?_⟩;show R (.v (.str ("row "++(b7 (bC ns r.1)++(" at least "++nstr r.2))))) [];rw[uk];exact q
inductive z_written_worth(ds:List D)(R:D->Prop):Prop|mk (ns:List Str) (es:List Int) (sn:Int) (_:ds=[.tup (ns.map D.str),.tup (es.map D.int),.int sn]) (_:fG ns) (_:es.length<=8) (_:(∀e∈es,bx e)) (_:(sn=1\/sn = -1)) (_:R (.str (aW (.worth (bC ns (cX sn es)) sn))))
def Ez(F:Fun K "written_worth" "written_worth" mU f fd)(m:Cl P w K mg base n "written_sum" ["names","entries"] z_written_sum)(t:Cl P w K mg base n "turned_numbers" ["entries"] z_turned_numbers):FnOk P w K mg base bf (n+1) f fd ["names","goal","sense"] (bu K (zM z_written_worth)):=by
 refine F.okM sc_written_worth (λas R p h=>?_) (λv A outer s H E as R p z u a h o=>?_)
 ·obtain⟨_,rfl,ns,es,sn,rfl,_⟩:=h;rfl
 obtain⟨_,rfl,ns,es,sn,rfl,g,e,l,r,q⟩:=h;obtain rfl:=bZ o
 refine⟨_,(aL (aJ (aR (aw (bi a.units) (ad 2) (PD.q (dQ (PD.q ah))) (au _))) (ap (ar (i:=3) sc_written_worth.nd rfl VZ (ae (bM m a rfl (af (dv 0) (af (bM t a rfl (af (dv 1) ao aa) aa ag) ao bP) aa) aa (aF bP ag))))
   (ai (aC (ae (js (dG fK (jj (fj (dv 3))))))))) aK)
   (ap (ar (i:=3) sc_written_worth.nd rfl VZ (ae (bM m a rfl (af (dv 0) (af (dv 1) ao aa) aa) aa (aF aa ag))))
   (ai (aC (ae (js (dG fK (jj (fj (dv 3)))))))))),?_⟩
 intro y;have j:=kT (sn:=sn) l;have c:=hV (mH g (by rw[k7 sn];exact e) j);rcases r with rfl|rfl
 ·refine⟨λρ=>ρ=_,⟨λh=>ff h,λ_=>rfl⟩,?_⟩;rintro ρ rfl;refine⟨ns,es,rfl,g,e,l,?_⟩;refine⟨by decide,c,c,?_⟩;show R (.v (.str ("most "++b7 (bC ns es)))) [];rw[(iM _).1];exact q
 ·refine⟨λρ=>False,⟨λ_=>?_,λh=>tf h⟩,?_⟩
  ·refine⟨es,rfl,by omega,ns,es.map λx=>-x,rfl,g,by rw[HV];exact e,j,?_⟩;refine⟨by decide,c,c,?_⟩;show R (.v (.str ("least "++b7 (bC ns (cX (-1) es))))) [];rw[(iM _).2];exact q
  rintro ρ ⟨⟩
inductive z_write_plan(ds:List D)(R:D->Prop):Prop|mk (ns:List Str) (bs:List cS) (rs:List Rw) (gl:List Int) (sn:Int) (_:ds=[.tup (ns.map D.str),iB bs rs gl,.int sn]) (_:PlOk ns bs rs gl) (_:(sn=1\/sn = -1)) (_:R (.str (Str.join "\n" ((cT ns bs rs gl sn).map aW))))
def wP(F:Fun K "write_plan" "write_plan" jp f fd)(m:Cl P w K mg base n "written_unknown" ["name","bounds"] z_written_unknown)(p:Cl P w K mg base n "written_worth" ["names","goal","sense"] z_written_worth)(o:Cl P w K mg base n "written_row" ["names","row"] z_written_row)(y:mg "zip"=none):FnOk P w K mg base bf (n+1) f fd ["names","plan","sense"] (bu K (zM z_write_plan)):=by
 refine F.okM sc_write_plan (λas R u h=>?_) (λQ A outer s H E as R u Y O g h t=>?_)
 ·obtain⟨_,rfl,ns,bs,rs,gl,sn,rfl,_⟩:=h;rfl
 obtain⟨_,rfl,ns,bs,rs,gl,sn,rfl,a,l,q⟩:=h;obtain rfl:=bZ t
 refine⟨_,(ap (qR (i:=3) (k:=2) (N':=["name","bounds"]) (cap:=[none,none]) rfl sc_write_plan.nd rfl VZ (.ok (show dB ["names","plan","sense","lines"] (ay jp) _ ["name","bounds"] [none,none]=true by lia)) (by lia) (wj (n:=2) (mW (dH (by decide)) (mW (dH (by decide)) sM))) (lW rfl y (af (dv 0) (af (av (ad 1)) ao ax) aa)) (λ_ _ _ _ _=>(vS (n:=2) rfl (nL (dI (i:=0) (show List.Nodup (["name","bounds"]:List Str)by lia) rfl VZ) (nL (dI (i:=1) (show List.Nodup (["name","bounds"]:List Str)by lia) rfl VZ) v2)))) (λ_ _ _ _ _=>(bM m g rfl (af (dv 0) (af (dv 1) ao aa) aa) aa (aF aa ag))))
   (ap (D1 3 (ft (gq (k:=1) (N':=["row","names"]) (cap:=[none,some 0]) rfl (.ok (show dB ["names","plan","sense","lines"] (ay jp) _ ["row","names"] [none,some 0]=true by lia)) (by lia) (dH (by decide)) (fu (av (ad 1))) (λ_ _ _ _ _=>(dI (i:=0) (show List.Nodup (["row","names"]:List Str)by lia) rfl VZ)) (λ_ _ _ _ _=>(bM o g rfl (af (dv 1) (af (dv 0) ao aa) aa) aa (aF aa ag))))) (bX c8) c8)
   (ap (dY 3 (ae (bM p g rfl (af (dv 0) (af (av (ad 1)) (af (dv 2) ao aa) ax) aa) aa (aF ax (aF aa ag)))) (bX bP) bP)
   (iP 3 (ai (aC (ae (jP (PD.q az) (dv 3) (bX aa) aa)))))))),?_⟩
 intro X;have N:=a.nm.2.1;have U:=a.bl;have S:=a.rl;refine⟨_,rfl,_,_,rfl,rfl,?_⟩;refine Ba (f:=D.str) (h:=dl) (λx b=>D.str (aW (.unk x b.1 b.2))) (cy (by omega)) (λx J b j=>?_) ?_
 ·exact⟨rfl,x,b,rfl,a.nm.2.2 x J,(a.bo b j).1,(a.bo b j).2,rfl⟩
 rfl';refine⟨_,rfl,?_⟩;refine gm (f:=bJ) (λr=>D.str (aW (.row (bC ns r.1) r.2 false))) (cy (by omega)) (λr g=>?_) ?_
 ·obtain⟨B,C,G⟩:=a.ro r g;exact⟨ns,r,rfl,a.nm,by omega,C,G,rfl⟩
 rfl'
 have v:List.zipWith (λ(x:Str)(b:cS)=>D.str (aW (.unk x b.1 b.2))) ns bs=((List.zipWith (λx b=>Frm.unk x b.1 b.2) ns bs).map aW).map D.str:=by rw[List.map_zipWith,List.map_zipWith]
 have Z:(List.zipWith (λx b=>Frm.unk x b.1 b.2) ns bs).length<=8:=by rw[KR];omega
 rw[v];refine⟨by simp only[HV];rw[Ju];omega,_,rfl,?_⟩;have B:=kT (sn:=sn) a.go;refine⟨_,rfl,ns,gl,sn,rfl,a.nm,by rw[a.gn];exact N,a.go,l,?_⟩;rfl';refine⟨by simp only[HY,HV];rw[Ju];omega,((cT ns bs rs gl sn).map aW).map D.str,?_,?_⟩
 ·unfold cT jL;simp only[IJ,Iw,JH];rfl
 rfl';refine⟨_,rfl,?_⟩;have T:=uF (sn:=sn) a;refine⟨(cT ns bs rs gl sn).map aW,rfl,jO 900 (λz M=>?_) ?_,?_⟩
 ·obtain⟨f,I,rfl⟩:=IM.mp M;exact (tX a l f I).2
 ·have c:("\n":Str).length=1:=by decide
  rw[HV,c];omega
 ·have e:Txt.join "\n" ((cT ns bs rs gl sn).map aW) = Str.join "\n" ((cT ns bs rs gl sn).map aW):=J0 _ _;rw[e];exact q
open Tx
noncomputable def Gn(ns:List Str)(bs:List cS)(rs:List Rw)(gl:List Int)(sn:Int):D:=.tup [.tup (ns.map D.str),iB bs rs gl,.int sn]
open Tx
noncomputable def iJ(ws:List Str):Option (List Int):=if none∈ws.map bv then none else some (ws.map λw=>(bv w).getD 0)
noncomputable def GQ:Option (List Int)->D
 |none=>.non
 |some ns=>.tup (ns.map D.int)
def FJ:mz=ir:=by funext o;cases o<;>rfl
inductive z_numbers_form(ds:List D)(R:D->Prop):Prop|mk (ws:List Str) (_:ds=[.lst (ws.map D.str)]) (_:ws.length<=1000) (_:(∀w∈ws,dm w)) (_:R (GQ (iJ ws)))
def xA(F:Fun K "numbers_form" "numbers_form" kF f fd)(r:Cl P w K mg base n "number_form" ["word"] z_number_form)(l:mg "tuple"=none):FnOk P w K mg base bf (n+1) f fd ["words"] (bu K (zM z_numbers_form)):=by
 refine F.okM sc_numbers_form (λas R j h=>?_) (λu A outer s H E as R j x t p h g=>?_)
 ·obtain⟨_,rfl,ws,rfl,_⟩:=h;rfl
 obtain⟨_,rfl,ws,rfl,o,m,q⟩:=h;obtain rfl:=bZ g
 refine⟨_,(ap (qR (i:=1) (k:=1) (N':=["word"]) (cap:=[none]) rfl sc_numbers_form.nd rfl VZ (.ok (show dB ["words","numbers"] (ay kF) _ ["word"] [none]=true by lia)) (by lia) (dH (by decide)) (fu (dv 0)) (λ_ _ _ _ _=>(dI (i:=0) (show List.Nodup (["word"]:List Str)by lia) rfl VZ)) (λ_ _ _ _ _=>(bM r p rfl (af (dv 0) ao aa) aa ag)))
   (iP 1 (ai (aC (ae (iN (aw zC (PD.q bA) (ad 1) (by with_unfolding_all rfl)) bA (cL fN rfl l Jq (be (ad 1) bd aa) aa ag))))))),?_⟩
 intro v;refine gm (f:=D.str) (λw=>ir (bv w)) (cy o) (λw a=>⟨w,rfl,m w a,rfl⟩) ?_;refine⟨ws.map bv,rfl,by rw[FJ,JH];rfl,?_⟩;unfold iJ at q;refine⟨λh=>?_,λh=>?_⟩
 ·rw[Ia (Ir h)]at q;exact q
 ·have h:=IH h;rw[Ib h]at q
  have e:(ws.map λw=>ir (bv w))=(ws.map λw=>(bv w).getD 0).map D.int:=by
   rw[JH];refine Kc λw a=>?_
   cases c:bv w with
   |none=>exact absurd (IM.mpr ⟨w,a,c⟩) h
   |some k=>show _=D.int ((bv w).getD 0);rw[c];rfl
  rw[e];exact q
inductive Say where|word (w:Str)|frm (f:Frm)|take (k:Int)|tri (ns:List Int)
noncomputable def j5:Option Say->D
 |none=>.non
 |some (.word w)=>.tup [.str w]
 |some (.frm f)=>mK f
 |some (.take k)=>.tup [.str "take",.int k]
 |some (.tri ns)=>.tup [.str "try",.tup (ns.map D.int)]
noncomputable def dX(n:Nat)(x:Str):Option Say:=
 if x∈(["back","ask","fractions","write"]:List Str) then some (.word x)
 else if aO (Txt.split x " ") 0∈(["take","try"]:List Str) then
  match iJ ((Txt.split x " ").drop 1)with
  |none=>none
  |some l=>if aO (Txt.split x " ") 0="take" then (if l.length=1 then some (.take (l.getD 0 0)) else none) else (if l.length=n then some (.tri l) else none)
 else (gU x).map Say.frm
inductive z_say_form(ds:List D)(R:D->Prop):Prop|mk (x:Str) (n:Nat) (_:ds=[.str x,.int (n:Nat)]) (_:dm x) (_:x.length<=900) (_:R (j5 (dX n x)))
def GA{x:Str}:fb (.inr x) [.inr "back",.inr "ask",.inr "fractions",.inr "write"]=decide (x∈(["back","ask","fractions","write"]:List Str)):=jv (xs:=["back","ask","fractions","write"])
def Ee{x:Str}:fb (.inr x) [.inr "take",.inr "try"]=decide (x∈(["take","try"]:List Str)):=jv (xs:=["take","try"])
def Hq(ws:List Str):br (ws.map D.str) (some 1) none=(ws.drop 1).map D.str:=by
 rw[pD]
 have e:br ws (some 1) none=ws.drop 1:=by
  unfold br;show (ws.drop (HT.sIx ws.length 0 (some ((1:Nat):Int)))).take _=_;rw[HT.sIx_nat,HT.sIx_none];show List.take (ws.length-HT.sIx ws.length 0 (some ((1:Nat):Int))) _=_;rw[HT.sIx_nat]
  cases ws with
  |nil=>rfl
  |cons w ws=>
   have e:min 1 (w::ws).length=1:=by rw[Ij];omega
   show List.take ((w::ws).length-min 1 (w::ws).length) (List.drop (min 1 (w::ws).length) (w::ws))=ws;rw[e];show List.take (ws.length+1-1) ws=ws;rw[Nat.add_sub_cancel,Kf]
 rw[e]
def Hy(F:Fun K "say_form" "say_form" lB f fd)(y:Cl P w K mg base n "numbers_form" ["words"] z_numbers_form)(z:Cl P w K mg base n "line_form" ["line"] z_line_form)(G:mg "len"=none):FnOk P w K mg base bf (n+1) f fd ["line","n"] (bu K (zM z_say_form)):=by
 refine F.okM sc_say_form (λas R C h=>?_) (λS A outer s H E as R C U Q m h B=>?_)
 ·obtain⟨_,rfl,x,n,rfl,_⟩:=h;rfl
 obtain⟨_,rfl,x,n,rfl,r,M,q⟩:=h;obtain rfl:=bZ B
 refine⟨_,(aL (aJ (aR (aw l0 (ad 0) (PD.q (aM (af az (af az (af az (af az ao am) am) am) am))) (by with_unfolding_all rfl))) (ai (aC (ae (aM (af (dv 0) ao aa))))) aK)
   (ap (ar (i:=2) sc_say_form.nd rfl VZ (ae (PF.d (tS (ad 0) az (bX am) am))))
   (aL (aJ (aR (aw lR (PD.q (av (ad 2))) (PD.q (aM (af az (af az ao am) am))) (by with_unfolding_all rfl))) (ai (aC (ae (bM z m rfl (af (dv 0) ao aa) aa ag)))) aK)
   (ap (ar (i:=3) sc_say_form.nd rfl VZ (ae (bM y m rfl (af (fF (ad 2) (eQ (PD.q ah)) fM) ao ax) ax ag)))
   (aL (aJ (aR (PWD.td (dM (aw fW (ad 3) (PD.q bA) (au _)) (eR (aw (eG m.units) (PD.q (bE bG rfl G Iv (be (ad 3) bd aa) aa ag)) (PD.q (iN (aw (bi m.units) (PD.q (av (ad 2))) (PD.q az) (au _)) ah (dv 1))) (au _)))))) (ai (aC (ae bA))) aK)
   (ai (aC (ae (iN (aw (bi m.units) (PD.q (av (ad 2))) (PD.q az) (au _)) (aM (af az (af (av (ad 3)) ao ax) am)) (aM (af az (af (dv 3) ao aa) am))))))))))),?_⟩
 intro T;have v:=sK r;have I:=Lc x " ";have g:=ML x " ";unfold dX at q;obtain⟨ws,p⟩:∃ws,ws=Txt.split x " ":=⟨_,rfl⟩;rw[←p]at v I g q;refine⟨λρ=>x∉(["back","ask","fractions","write"]:List Str)/\ρ=[some (.v (.str x)),some (.v (.int (n:Nat))),none,none],⟨.inr x,[.inr "back",.inr "ask",.inr "fractions",.inr "write"],rfl,rfl,?_⟩,?_⟩
 ·rw[GA,Kr];refine⟨λh=>?_,λh=>⟨IH h,rfl⟩⟩;rw[Ia (Ir h)]at q;exact q
 rintro ρ ⟨N,rfl⟩;rw[Ib N]at q;refine⟨_,rfl,_,rfl,by decide,by have:=Ju;omega,?_⟩;rw[←p];refine⟨λρ=>aO ws 0∈(["take","try"]:List Str)/\ρ=[some (.v (.str x)),some (.v (.int (n:Nat))),some (.v (.lst (ws.map D.str))),none],⟨_,dS 0 (by omega) rfl,.inr _,[.inr "take",.inr "try"],rfl,rfl,?_⟩,?_⟩
 ·rw[Ee];by_cases c:aO ws 0∈(["take","try"]:List Str)
  ·rw[Jc c];exact⟨λh=>(by cases h),λ_=>⟨c,rfl⟩⟩
  ·rw[ID c];refine⟨λ_=>?_,λh=>(by cases h)⟩;rw[Ib c]at q;refine⟨x,rfl,r,M,?_⟩
   cases t:gU x with
   |none=>rw[t]at q;exact q
   |some f=>rw[t]at q;exact q
 rintro ρ ⟨O,rfl⟩;rw[Ia O]at q;refine⟨_,Hq ws,ws.drop 1,rfl,by rw[Jm];omega,λw J=>v w (KO J),?_⟩;have o:bK (ws.map D.str) 0=some (.str (aO ws 0)):=dS 0 (by omega) rfl
 cases u:iJ (ws.drop 1)with
 |none=>
  rw[u]at q;refine⟨λρ=>False,⟨λ_=>⟨λ_=>q,λh=>(by cases h)⟩,λh=>(by cases h)⟩,?_⟩;rintro ρ ⟨⟩
 |some l=>
  rw[u]at q;have q:R (.v (j5 (if aO ws 0="take" then (if l.length=1 then some (.take (l.getD 0 0)) else none) else (if l.length=n then some (.tri l) else none)))) []:=q
  have kj:∀{a b:Int},(!(a==b))=true->a≠b:=λ{a b} h e=>by rw[e,Jf]at h;cases h
  have ka:∀{a b:Int},(!(a==b))=false->a=b:=λ{a b} h=>by
   cases e:(a==b)with
   |true=>exact eq_of_beq e
   |false=>rw[e]at h;cases h
  refine⟨λρ=>l.length=(if aO ws 0="take" then 1 else n)/\ρ=[some (.v (.str x)),some (.v (.int (n:Nat))),some (.v (.lst (ws.map D.str))),some (.v (.tup (l.map D.int)))],⟨λh=>(by cases h),λ_=>⟨_,o,λh=>?_,λh=>?_⟩⟩,?_⟩
  ·have c:aO ws 0="take":=eq_of_beq h;rw[Ia c]at q;refine⟨λg=>?_,λg=>⟨?_,rfl⟩⟩
   ·have:=kj g;rw[HV]at this;rw[Ib (by omega)]at q;exact q
   ·have:=ka g;rw[HV]at this;rw[Ia c];omega
  ·have c:aO ws 0≠"take":=λe=>by rw[e,Jf]at h;cases h
   rw[Ib c]at q;refine⟨λg=>?_,λg=>⟨?_,rfl⟩⟩
   ·have:=kj g;rw[HV]at this;rw[Ib (by omega)]at q;exact q
   ·have:=ka g;rw[HV]at this;rw[Ib c];omega
  rintro ρ ⟨j,rfl⟩;refine⟨_,o,λh=>?_,λh=>?_⟩
  ·have c:aO ws 0="take":=eq_of_beq h;rw[Ia c]at q j;rw[Ia j]at q
   match l,j with
   | [k],_=>exact⟨_,rfl,q⟩
  ·have c:aO ws 0≠"take":=λe=>by rw[e,Jf]at h;cases h
   rw[Ib c]at q j;rw[Ia j]at q;exact q
open Tx
structure Dk where
 ns:List Str
 bs:List cS
 rs:List Rw
 gl:List Int
 sn:Int
noncomputable abbrev cN(s:Dk):D:=Gn s.ns s.bs s.rs s.gl s.sn
noncomputable def gZ(r:Rw):Rw:=(r.1++[0],r.2)
noncomputable def la(s:Dk):Frm->Dk
 |.unk x l m=>⟨s.ns++[x],s.bs++[(l,m)],s.rs.map gZ,s.gl++[0],s.sn⟩
 |.row ts b t=>⟨s.ns,s.bs,s.rs++[if t then jy (bF s.ns ts,b) else (bF s.ns ts,b)],s.gl,s.sn⟩
 |.worth ts sn=>⟨s.ns,s.bs,s.rs,cX sn (bF s.ns ts),sn⟩
noncomputable def nv(s:Dk):Frm->Prop
 |.unk _ _ _=>True
 |.row ts _ _=>na s.ns ts/\ts.length<=900
 |.worth ts _=>na s.ns ts/\ts.length<=900
noncomputable def fH(s:Dk):Frm->Int
 |.unk x _ _=>if x∈s.ns then 2 else if 8<=s.ns.length then 1 else 0
 |.row _ _ _=>if 12<=s.rs.length then 1 else 0
 |.worth _ _=>0
noncomputable def vw(s:Dk)(k:Int):Dk:=⟨s.ns,s.bs,s.rs.eraseIdx k.toNat,s.gl,s.sn⟩
structure DkW(s:Dk):Prop where
 nd:s.ns.Nodup
 nl:s.ns.length<=8
 bl:s.bs.length=s.ns.length
 rl:s.rs.length<=12
 ro:∀r∈s.rs,r.1.length=s.ns.length
 gn:s.gl.length=s.ns.length
noncomputable def gN(k:Int):XD:=if k=1 then ⟨"TooGreat",some .non⟩ else if k=2 then ⟨"Twice",some .non⟩ else if k=5 then ⟨"NoRow",none⟩ else ⟨"NoChange",none⟩
def fv{a:Type}(f:a->D)(xs:List a)(x:a):xs.map f++[f x]=(xs++[x]).map f:=by rw[IJ];rfl
def fA{a:Type}{f:a->D}{xs:List a}(h:xs.length<=100)(d:D):(xs.map f).length+[d].length<=sizeLine:=by
 have:=Ju;rw[HV];show xs.length+1<=_;omega
noncomputable abbrev WU(k:Dk)(x:Str)(b:cS)(a:Option Sm):ak:=[some (.v (cN k)),some (.v (.str x)),some (.v (dl b)),some (.v (.tup (k.ns.map D.str))),some (.v (iB k.bs k.rs k.gl)),a]
inductive y_with_unknown(as:List Sm)(R:Sm->List Om->Prop)(Rx:XD->List Om->Prop):Prop|mk (s:Dk) (x:Str) (b:cS) (_:as=[.v (cN s),.v (.str x),.v (dl b)]) (_:DkW s) (_:(fH s (.unk x b.1 b.2)=0->R (.v (cN (la s (.unk x b.1 b.2)))) [])) (_:(fH s (.unk x b.1 b.2)≠0->Rx (gN (fH s (.unk x b.1 b.2))) []))
def Gf(F:Fun K "with_unknown" "with_unknown" jQ f fd)(m:∃B,mg "MOST_UNKNOWNS"=some (.int 8 B))(v:mg "tuple"=none)(u:mg "len"=none)(p:Rz1 P w K mg base "Twice")(l:Rz1 P w K mg base "TooGreat"):FnOk P w K mg base (CXo P w) (n+3) f fd ["state","name","bounds"] (dU K mg y_with_unknown):=by
 refine F.okMX sc_with_unknown (λas R t h=>?_) (λG A outer s H E as R t O C g h j=>?_)
 ·obtain⟨k,x,b,rfl,_⟩:=h;rfl
 obtain⟨k,x,b,rfl,c,q,a⟩:=h;obtain rfl:=bZ j
 refine⟨_,(ap (ar (i:=3) sc_with_unknown.nd rfl VZ (ae (av (ad 0))))
   (ap (ar (i:=4) sc_with_unknown.nd rfl VZ (ae (av (ad 0))))
   (aL (aJ (aR (aw l0 (ad 1) (ad 3) (by with_unfolding_all rfl))) (ai (mf p rfl rfl rfl (g.mono (by omega)) bA am)) aK)
   (aL (aJ (aR (aw ki (PD.q (bE bG rfl u Iv (be (ad 3) bd aa) aa ag)) (PD.q (ms rfl m.choose_spec)) (au _))) (ai (mf l rfl rfl rfl (g.mono (by omega)) bA am)) aK)
   (ap (ar (i:=5) sc_with_unknown.nd rfl VZ (ae (cL fN rfl v Jq (be (PD.q (PF.d (gq (k:=1) (N':=["row"]) (cap:=[none]) rfl (.ok (show dB ["state","name","bounds","names","plan","rows"] (ay jQ) _ ["row"] [none]=true by lia)) (by lia) (dH (by decide)) (fu (av (ad 4))) (λ_ _ _ _ _=>(dI (i:=0) (show List.Nodup (["row"]:List Str)by lia) rfl VZ)) (λ_ _ _ _ _=>(aM (af (aH bh (PD.q (av (ad 0))) (PD.q (aM (af ah ao am)))) (af (av (ad 0)) ao ax) bB)))))) bd c8) c8 ag)))
   (ai (aC (ae (aM (af (aH bh (ad 3) (PD.q (aM (af (dv 1) ao aa)))) (af (aM (af (aH bh (PD.q (av (ad 4))) (PD.q (aM (af (dv 2) ao aa)))) (af (dv 5) (af (aH bh (PD.q (av (ad 4))) (PD.q (aM (af ah ao am)))) ao bB) aa) bB)) (af (av (ad 0)) ao ax) cC) bB)))))))))),?_⟩
 intro N;have J:=c.bl;have I:=c.rl;have z:=c.gn;rw[show fH k (.unk x b.1 b.2)=if x∈k.ns then 2 else if 8<=k.ns.length then 1 else 0 from rfl]at q a;refine⟨_,rfl,?_⟩;refine⟨_,rfl,?_⟩;refine⟨λρ=>x∉k.ns/\ρ=WU k x b none,⟨.inr x,k.ns.map Sum.inr,rfl,by rw[←pW];rfl,?_⟩,?_⟩
 ·rw[jv,Kr];refine⟨λh=>?_,λh=>⟨IH h,rfl⟩⟩;rw[Ia (Ir h)]at a;exact⟨trivial,a (by decide)⟩
 rintro ρ ⟨y,rfl⟩;rw[Ib y]at q a;refine⟨λρ=>k.ns.length<8/\ρ=WU k x b none,⟨λh=>?_,λh=>?_⟩,?_⟩
 ·have h:=Ir h;rw[HV]at h;rw[Ia (by omega)]at a;exact⟨trivial,a (by decide)⟩
 ·have h:=IH h;rw[HV]at h;exact⟨by omega,rfl⟩
 rintro ρ ⟨M,rfl⟩;have q:=q (Ib (by omega));refine⟨_,rfl,?_⟩;refine gm (f:=bJ) (λr=>bJ (gZ r)) (cy (by omega)) (λr o=>?_) ?_
 ·have:=c.ro r o;exact⟨_,rfl,fA (by omega) _,_,fv D.int r.1 0,_,rfl,rfl⟩
 refine⟨fA (by omega) _,_,fv D.str k.ns x,?_⟩;refine⟨_,rfl,fA (by omega) _,_,fv dl k.bs b,?_⟩;refine⟨_,rfl,fA (by omega) _,_,fv D.int k.gl 0,_,rfl,?_⟩
 have e:(k.rs.map λr=>bJ (gZ r))=(k.rs.map gZ).map bJ:=by rw[JH];rfl
 rw[e];exact q
inductive y_with_row(as:List Sm)(R:Sm->List Om->Prop)(Rx:XD->List Om->Prop):Prop|mk (s:Dk) (ts:List Tm) (b:Int) (t:Bool) (_:as=[.v (cN s),.v (.tup (ts.map dh)),.v (.int b),.v (.bl t)]) (_:DkW s) (_:nv s (.row ts b t)) (_:(fH s (.row ts b t)=0->R (.v (cN (la s (.row ts b t)))) [])) (_:(fH s (.row ts b t)≠0->Rx (gN (fH s (.row ts b t))) []))
def yG(F:Fun K "with_row" "with_row" lu f fd)(z:Cl P w K mg base (n+2) "sum_entries" ["terms","names","at"] z_sum_entries)(g:Cl P w K mg base (n+2) "turned" ["row"] z_turned)(l:∃B,mg "MOST_ROWS"=some (.int 12 B))(p:mg "len"=none)(m:Rz1 P w K mg base "TooGreat"):FnOk P w K mg base (CXo P w) (n+3) f fd ["state","terms","number","at_most"] (dU K mg y_with_row):=by
 refine F.okMX sc_with_row (λas R o h=>?_) (λG A outer s H E as R o N C c h j=>?_)
 ·obtain⟨k,ts,b,t,rfl,_⟩:=h;rfl
 obtain⟨k,ts,b,t,rfl,a,x,q,e⟩:=h;obtain rfl:=bZ j
 refine⟨_,(ap (ar (i:=4) sc_with_row.nd rfl VZ (ae (av (ad 0))))
   (ap (ar (i:=5) sc_with_row.nd rfl VZ (ae (aM (af (bM z c rfl (af (dv 1) (af (av (ad 0)) (af bA ao am) ax) aa) aa (aF ax (aF am ag))) (af (dv 2) ao aa) bP))))
   (aL (aJ (aR (aw ki (PD.q (bE bG rfl p Iv (be (PD.q (av (ad 4))) bd ax) ax ag)) (PD.q (ms rfl l.choose_spec)) (au _))) (ai (mf m rfl rfl rfl (c.mono (by omega)) bA am)) aK)
   (ap (ar (i:=6) sc_with_row.nd rfl VZ (ae (aH bh (PD.q (av (ad 4))) (PD.q (aM (af (iN (jx (ad 3) (λ_=>rfl)) (bM g c rfl (af (dv 5) ao aa) aa ag) (dv 5)) ao rV))))))
   (ai (aC (ae (aM (af (av (ad 0)) (af (aM (af (av (ad 4)) (af (dv 6) (af (av (ad 4)) ao ax) aa) ax)) (af (av (ad 0)) ao ax) cC) ax))))))))),?_⟩
 intro M;obtain⟨r,u⟩:=x;have I:=a.rl;have y:=a.nl;rw[show fH k (.row ts b t)=if 12<=k.rs.length then 1 else 0 from rfl]at q e;refine⟨_,rfl,?_⟩;refine⟨_,rfl,ts,k.ns,.non,rfl,a.nd,a.nl,u,r,?_⟩;refine⟨λρ=>k.rs.length<12/\ρ=[some (.v (cN k)),some (.v (.tup (ts.map dh))),some (.v (.int b)),some (.v (.bl t)),some (.v (iB k.bs k.rs k.gl)),some (.v (bJ (bF k.ns ts,b))),none],⟨_,rfl,λh=>?_,λh=>?_⟩,?_⟩
 ·have h:=Ir h;rw[HV]at h;rw[Ia (by omega)]at e;exact⟨trivial,e (by decide)⟩
 ·have h:=IH h;rw[HV]at h;exact⟨by omega,rfl⟩
 rintro ρ ⟨J,rfl⟩;have q:=q (Ib (by omega))
 have v:(bF k.ns ts).length<=1000:=by unfold bF;rw[HV];omega
 refine⟨_,rfl,λh=>?_,λh=>?_⟩
 ·have h:t=true:=h;subst h;refine⟨(bF k.ns ts,b),rfl,v,fA (by omega) _,_,fv bJ k.rs (jy (bF k.ns ts,b)),?_⟩;exact⟨_,rfl,_,rfl,_,rfl,_,rfl,q⟩
 ·have h:t=false:=h;subst h;refine⟨fA (by omega) _,_,fv bJ k.rs (bF k.ns ts,b),?_⟩;exact⟨_,rfl,_,rfl,_,rfl,_,rfl,q⟩
inductive z_with_worth(ds:List D)(R:D->Prop):Prop|mk (s:Dk) (ts:List Tm) (sn:Int) (_:ds=[cN s,.tup (ts.map dh),.int sn]) (_:DkW s) (_:nv s (.worth ts sn)) (_:R (cN (la s (.worth ts sn))))
def FG(F:Fun K "with_worth" "with_worth" mF f fd)(t:Cl P w K mg base n "sum_entries" ["terms","names","at"] z_sum_entries)(r:Cl P w K mg base n "turned_numbers" ["entries"] z_turned_numbers):FnOk P w K mg base bf (n+1) f fd ["state","terms","sense"] (bu K (zM z_with_worth)):=by
 refine F.okM sc_with_worth (λas R g h=>?_) (λv A outer s H E as R g y u c h e=>?_)
 ·obtain⟨_,rfl,k,ts,sn,rfl,_⟩:=h;rfl
 obtain⟨_,rfl,k,ts,sn,rfl,a,o,q⟩:=h;obtain rfl:=bZ e
 refine⟨_,(ap (ar (i:=3) sc_with_worth.nd rfl VZ (ae (av (ad 0))))
   (ap (ar (i:=4) sc_with_worth.nd rfl VZ (ae (bM t c rfl (af (dv 1) (af (av (ad 0)) (af bA ao am) ax) aa) aa (aF ax (aF am ag)))))
   (aL (aJ (aR (aw (bi c.units) (ad 2) (PD.q (dQ (PD.q ah))) (au _))) (ai (ar (i:=4) sc_with_worth.nd rfl VZ (ae (bM r c rfl (af (dv 4) ao aa) aa ag)))) aK)
   (ai (aC (ae (aM (af (av (ad 0)) (af (aM (af (av (ad 3)) (af (av (ad 3)) (af (dv 4) ao aa) ax) ax)) (af (dv 2) ao aa) cC) ax)))))))),?_⟩
 intro x;obtain⟨j,l⟩:=o;have p:=a.nl
 have m:(bF k.ns ts).length<=1000:=by unfold bF;rw[HV];omega
 refine⟨_,rfl,?_⟩;refine⟨_,rfl,ts,k.ns,.non,rfl,a.nd,a.nl,l,j,?_⟩;refine⟨λρ=>ρ=[some (.v (cN k)),some (.v (.tup (ts.map dh))),some (.v (.int sn)),some (.v (iB k.bs k.rs k.gl)),some (.v (.tup ((cX sn (bF k.ns ts)).map D.int)))],⟨λh=>?_,λh=>?_⟩,?_⟩
 ·have h:=dc h;exact⟨bF k.ns ts,rfl,m,by unfold cX;rw[Ia h];rfl⟩
 ·have h:=ko h;unfold cX;rw[Ib h];rfl
 rintro ρ rfl;exact⟨_,rfl,_,rfl,_,rfl,q⟩
noncomputable def iV(s:Dk)(k:Int):Int:=if k<0\/(s.rs.length:Int)<=k then 5 else 0
inductive y_without_row(as:List Sm)(R:Sm->List Om->Prop)(Rx:XD->List Om->Prop):Prop|mk (s:Dk) (k:Int) (_:as=[.v (cN s),.v (.int k)]) (_:DkW s) (_:(iV s k=0->R (.v (cN (vw s k))) [])) (_:(iV s k≠0->Rx (gN (iV s k)) []))
def mJ{c:Type}{f:c->D}{xs:List c}{k:Nat}(h:k<xs.length):br (xs.map f) none (some (k:Int))++br (xs.map f) (some ((k:Int)+1)) none=(xs.eraseIdx k).map f:=by
 have e:∀(ys:List D)(j:Nat),j<=ys.length->br ys none (some (j:Int))=ys.take j:=λys j a=>by
  unfold br;rw[HT.sIx_none];show List.take (HT.sIx ys.length ys.length (some (j:Int))-0) (ys.drop 0)=_;rw[HT.sIx_nat,KW a];rfl
 have g:∀(ys:List D)(j:Nat),j<=ys.length->br ys (some (j:Int)) none=ys.drop j:=λys j a=>by unfold br;rw[HT.sIx_none,HT.sIx_nat,KW a];exact JK (by rw[Jm];omega)
 have l:((k:Int)+1)=((k+1:Nat):Int):=rfl;rw[e _ _ (by rw[HV];omega),l,g _ _ (by rw[HV];omega),JC,IJ,L0,MN]
def xz(F:Fun K "without_row" "without_row" mq f fd)(m:mg "len"=none)(g:Rz0 K mg "NoRow"):FnOk P w K mg base (CXo P w) (n+1) f fd ["state","number"] (dU K mg y_without_row):=by
 refine F.okMX sc_without_row (λas R l h=>?_) (λu A outer s H E as R l B t y h e=>?_)
 ·obtain⟨s,k,rfl,_⟩:=h;rfl
 obtain⟨s,k,rfl,p,q,c⟩:=h;obtain rfl:=bZ e
 refine⟨_,(ap (ar (i:=2) sc_without_row.nd rfl VZ (ae (av (ad 0))))
   (aL (aJ (aR (PWD.td (dM (aw fS (ad 1) (PD.q ah) (au _)) (eR (aw ki (ad 1) (PD.q (bE bG rfl m Iv (be (PD.q (av (ad 2))) bd ax) ax ag)) (au _)))))) (ai (rE g rfl rfl rfl)) aK)
   (ai (aC (ae (aM (af (av (ad 0)) (af (aM (af (av (ad 2)) (af (aH bh (PD.q (fF (PD.q (av (ad 2))) fM (eQ (ad 1)))) (PD.q (fF (PD.q (av (ad 2))) (eQ (PD.q (aH bh (ad 1) (PD.q ah)))) fM))) (af (av (ad 2)) ao ax) bB) ax)) (af (av (ad 0)) ao ax) cC) ax))))))),?_⟩
 intro z;have v:=p.rl;unfold iV at q c;refine⟨_,rfl,?_⟩;refine⟨λρ=>(0<=k/\k<(s.rs.length:Int))/\ρ=[some (.v (cN s)),some (.v (.int k)),some (.v (iB s.bs s.rs s.gl))],?_,?_⟩
 ·refine⟨λh=>⟨λ_=>?_,λh=>tf h⟩,λh=>⟨_,rfl,λa=>?_,λa=>?_⟩⟩
  ·have h:=Ir h;rw[Ia (.inl h)]at c;exact c (by decide)
  ·have a:=Ir a;rw[HV]at a;rw[Ia (.inr a)]at c;exact c (by decide)
  ·have h:=IH h;have a:=IH a;rw[HV]at a;exact⟨⟨by omega,by omega⟩,rfl⟩
 rintro ρ ⟨⟨o,x⟩,rfl⟩;have q:=q (Ib (by omega));obtain⟨j,rfl⟩:=Jr o
 have r:(br (s.rs.map bJ) none (some (j:Int))).length+(br (s.rs.map bJ) (some ((j:Int)+1)) none).length<=sizeLine:=by
  have:=JD List.length (mJ (f:=bJ) (xs:=s.rs) (k:=j) (by omega));rw[HY]at this;rw[this,HV,LF];have:=Ju;split<;>omega
 exact⟨_,rfl,_,rfl,_,rfl,_,rfl,_,rfl,_,rfl,r,_,mJ (by omega),_,rfl,_,rfl,q⟩
noncomputable def bt(s:Dk)(a:List Dk):Say->Int
 |.frm f=>fH s f
 |.take k=>iV s k
 |.word v=>if v="back"/\a=[] then 6 else 0
 |.tri _=>0
noncomputable def fD(s:Dk):Say->Prop
 |.frm f=>nv s f
 |.take _=>True
 |_=>False
noncomputable def kP(s:Dk):Say->Dk
 |.frm f=>la s f
 |.take k=>vw s k
 |_=>s
inductive y_changed(as:List Sm)(R:Sm->List Om->Prop)(Rx:XD->List Om->Prop):Prop|mk (s:Dk) (w:Say) (_:as=[.v (cN s),.v (j5 (some w))]) (_:DkW s) (_:fD s w) (_:(bt s [] w=0->R (.v (cN (kP s w))) [])) (_:(bt s [] w≠0->Rx (gN (bt s [] w)) []))
def AA(F:Fun K "changed" "changed" mM f fd)(u:ClMX P w K mg base n "without_row" ["state","number"] y_without_row)(r:ClMX P w K mg base n "with_unknown" ["state","name","bounds"] y_with_unknown)(y:ClMX P w K mg base n "with_row" ["state","terms","number","at_most"] y_with_row)(o:Cl P w K mg base n "with_worth" ["state","terms","sense"] z_with_worth):FnOk P w K mg base (CXo P w) (n+1) f fd ["state","form"] (dU K mg y_changed):=by
 refine F.okMX xJ (λas R z h=>?_) (λC A outer s H E as R z I B a h p=>?_)
 ·obtain⟨k,w,rfl,_⟩:=h;rfl
 obtain⟨k,w,rfl,e,c,q,g⟩:=h;obtain rfl:=bZ p
 refine⟨_,(aL (aJ (aR (aw (bi a.units) (PD.q (av (ad 1))) (PD.q az) (au _))) (ai (aC (lV r a rfl rfl (aN (ae (dv 0)) (aN (ae (av (ad 1))) (aN (ae (av (ad 1))) bc ax) ax) aa) aa (aF ax (aF ax ag))))) aK)
   (aL (aJ (aR (aw (bi a.units) (PD.q (av (ad 1))) (PD.q az) (au _))) (ai (aC (lV y a rfl rfl (aN (ae (dv 0)) (aN (ae (av (ad 1))) (aN (ae (av (ad 1))) (aN (ae (av (ad 1))) bc ax) ax) ax) aa) aa (aF ax (aF ax (aF ax ag)))))) aK)
   (aL (aJ (aR (aw (bi a.units) (PD.q (av (ad 1))) (PD.q az) (au _))) (ai (aC (ae (bM o a rfl (af (dv 0) (af (av (ad 1)) (af (av (ad 1)) ao ax) ax) aa) aa (aF ax (aF ax ag)))))) aK)
   (ai (aC (lV u a rfl rfl (aN (ae (dv 0)) (aN (ae (av (ad 1))) bc ax) aa) aa (aF ax ag))))))),?_⟩
 intro G
 cases w with
 |word v=>exact c.elim
 |tri v=>exact c.elim
 |take j=>
  refine⟨λρ=>ρ=_,⟨_,rfl,λh=>(by cases h),λ_=>rfl⟩,?_⟩;rintro ρ rfl;refine⟨λρ=>ρ=_,⟨_,rfl,λh=>(by cases h),λ_=>rfl⟩,?_⟩;rintro ρ rfl;refine⟨λρ=>ρ=_,⟨_,rfl,λh=>(by cases h),λ_=>rfl⟩,?_⟩;rintro ρ rfl;exact⟨_,rfl,_,rfl,rfl,k,j,rfl,e,q,g⟩
 |frm f=>
  cases f with
  |unk x l m=>
   refine⟨λρ=>False,⟨_,rfl,λ_=>?_,λh=>(by cases h)⟩,?_⟩
   ·exact⟨_,rfl,_,rfl,_,rfl,rfl,k,x,(l,m),rfl,e,q,g⟩
   rintro ρ ⟨⟩
  |row ts b t=>
   refine⟨λρ=>ρ=_,⟨_,rfl,λh=>(by cases h),λ_=>rfl⟩,?_⟩;rintro ρ rfl;refine⟨λρ=>False,⟨_,rfl,λ_=>?_,λh=>(by cases h)⟩,?_⟩
   ·exact⟨_,rfl,_,rfl,_,rfl,_,rfl,rfl,k,ts,b,t,rfl,e,c,q,g⟩
   rintro ρ ⟨⟩
  |worth ts sn=>
   refine⟨λρ=>ρ=_,⟨_,rfl,λh=>(by cases h),λ_=>rfl⟩,?_⟩;rintro ρ rfl;refine⟨λρ=>ρ=_,⟨_,rfl,λh=>(by cases h),λ_=>rfl⟩,?_⟩;rintro ρ rfl;refine⟨λρ=>False,⟨_,rfl,λ_=>?_,λh=>(by cases h)⟩,?_⟩
   ·exact⟨_,rfl,_,rfl,k,ts,sn,rfl,e,c,q rfl⟩
   rintro ρ ⟨⟩
open Tx
def pV(es:List Int):NoL (.tup (es.map D.int)):=.tup λd hd=>by obtain⟨x,_,rfl⟩:=IM.mp hd;exact .int x
def Hv(r:Rw):NoL (bJ r):=.tup λd hd=>by
 simp only[Ik,IQ,JJ]at hd;rcases hd with rfl|rfl
 ·exact pV _
 ·exact .int _
def um(b:cS):NoL (dl b):=.tup λd hd=>by
 simp only[Ik,IQ,JJ]at hd;rcases hd with rfl|rfl
 ·exact .int _
 ·cases b.2
  ·exact .non
  ·exact .int _
def Gz(bs:List cS)(rs:List Rw)(gl:List Int):NoL (iB bs rs gl):=.tup λd hd=>by
 simp only[Ik,IQ,JJ]at hd;rcases hd with rfl|rfl|rfl
 ·refine .tup λe a=>?_;obtain⟨b,_,rfl⟩:=IM.mp a;exact um b
 ·refine .tup λe a=>?_;obtain⟨b,_,rfl⟩:=IM.mp a;exact Hv b
 ·exact pV _
def sW(s:Dk):NoL (cN s):=.tup λd hd=>by
 simp only[Ik,IQ,JJ]at hd;rcases hd with rfl|rfl|rfl
 ·refine .tup λe a=>?_;obtain⟨b,_,rfl⟩:=IM.mp a;exact .str b
 ·exact Gz _ _ _
 ·exact .int _
def wV(f:Frm):NoL (mK f):=by
 have c:∀ts:List Tm,NoL (.tup (ts.map dh)):=λts=>.tup λd hd=>by
  obtain⟨t,_,rfl⟩:=IM.mp hd;refine .tup λe a=>?_;simp only[Ik,IQ,JJ]at a;rcases a with rfl|rfl
  ·exact .int _
  ·exact .str _
 cases f with
 |unk x l m=>
  refine .tup λd hd=>?_;simp only[Ik,IQ,JJ]at hd;rcases hd with rfl|rfl|rfl
  ·exact .str _
  ·exact .str _
  ·exact um (l,m)
 |row ts b t=>
  refine .tup λd hd=>?_;simp only[Ik,IQ,JJ]at hd;rcases hd with rfl|rfl|rfl|rfl
  ·exact .str _
  ·exact c ts
  ·exact .int _
  ·exact .bl _
 |worth ts sn=>
  refine .tup λd hd=>?_;simp only[Ik,IQ,JJ]at hd;rcases hd with rfl|rfl|rfl
  ·exact .str _
  ·exact c ts
  ·exact .int _
def Al(w:Say):NoL (j5 (some w)):=by
 cases w with
 |word v=>
  refine .tup λd hd=>?_;rw[Ip.mp hd];exact .str _
 |frm f=>exact wV f
 |take k=>
  refine .tup λd hd=>?_;simp only[Ik,IQ,JJ]at hd;rcases hd with rfl|rfl
  ·exact .str _
  ·exact .int _
 |tri ns=>
  refine .tup λd hd=>?_;simp only[Ik,IQ,JJ]at hd;rcases hd with rfl|rfl
  ·exact .str _
  ·exact pV _
noncomputable def iT:Dk:=⟨[],[],[],[],1⟩
noncomputable def gB(s:Dk)(a:List Dk):List (Str×Fl):=[("state",.v (cN s)),("states",.l (a.map cN))]
noncomputable abbrev bS(s:Dk)(a:List Dk):Om:=.obj "Desk" (gB s a)
inductive y_Desk____init__(as:List Sm)(R:Sm->List Om->Prop)(Rx:XD->List Om->Prop):Prop|mk (a:Option Addr) (_:as=[.ob a (.obj "Desk" [])]) (_:R (.v .non) [bS iT []])
def DV(F:Fun K "__init__" "Desk.__init__" ik f fd){g:Addr}(c:TxtDesk K mg g):FnOk P w K mg base bf (n+1) f fd ["self"] (bu K y_Desk____init__):=by
 refine F.okM B3 (λas R j h=>?_) (λm A outer s H E as R j t l o h e=>?_)
 ·obtain⟨a,rfl,_⟩:=h;rfl
 obtain⟨a,rfl,q⟩:=h;obtain⟨r,rfl⟩:=dN e
 refine⟨_,(ap (oz 0 c.cl c.n_state c.ns (ae (aM (af (aM ao) (af (aM (af (aM ao) (af (aM ao) (af (aM ao) ao cC) cC) cC)) (af ah ao am) cC) cC))))
   (ai (FS 0 c.cl c.n_states c.ns (ft (fJ ao))))),?_⟩
 intro p;refine⟨_,_,rfl,rfl,(by decide),_,rfl,?_⟩;refine⟨_,_,rfl,rfl,(by show 1<1000;decide),gB iT [],rfl,?_⟩;exact⟨_,rfl,q⟩
inductive y_Desk__step_on(as:List Sm)(R:Sm->List Om->Prop)(Rx:XD->List Om->Prop):Prop|mk (a:Option Addr) (s t:Dk) (hs:List Dk) (_:as=[.ob a (bS s hs),.v (cN t)]) (_:hs.length<500) (_:R (.v .non) [bS t (hs++[s])])
def Ab(F:Fun K "step_on" "Desk.step_on" iz f fd){j:Addr}(c:TxtDesk K mg j):FnOk P w K mg base bf (n+1) f fd ["self","state"] (bu K y_Desk__step_on):=by
 refine F.okM xH (λas R l h=>?_) (λo A outer s H E as R l x m r h g=>?_)
 ·obtain⟨a,k,t,e,rfl,_⟩:=h;rfl
 obtain⟨a,k,t,e,rfl,p,q⟩:=h;obtain⟨v,rfl⟩:=dN g
 refine⟨_,(ap (ES 0 c.cl c.n_states c.ns (io c.cl c.n_state c.ns (ad 0)) (bX jf) jf)
   (ai (oz 0 c.cl c.n_state c.ns (ae (dv 1))))),?_⟩
 intro u;refine⟨_,_,e.map cN,rfl,rfl,rfl,_,rfl,sW k,cy (by rw[HV];omega),gB k (e++[k]),(by show _=gB k (e++[k]);rw[gB,gB,IJ];rfl),?_⟩;refine⟨_,_,rfl,rfl,(by show 2<1000;decide),gB t (e++[k]),rfl,?_⟩;exact⟨_,rfl,q⟩
def FB{a:Type}(f:a->D)(xs:List a)(x:a):((xs++[x]).map f)[((xs++[x]).map f).length-1]?=some (f x)/\((xs++[x]).map f).dropLast=xs.map f:=by rw[IJ];refine⟨?_,J6⟩;rw[HY,HX (by simp)];simp
inductive y_Desk__step_back(as:List Sm)(R:Sm->List Om->Prop)(Rx:XD->List Om->Prop):Prop|mk (a:Option Addr) (s:Dk) (hs:List Dk) (_:as=[.ob a (bS s hs)]) (_:(hs=[]->Rx (gN 6) [bS s hs])) (_:∀gs t,hs=gs++[t]->R (.v .non) [bS t gs])
def xa(F:Fun K "step_back" "Desk.step_back" ii f fd){m:Addr}(c:TxtDesk K mg m)(u:mg "len"=none)(o:Rz0 K mg "NoChange"):FnOk P w K mg base (CXo P w) (n+1) f fd ["self"] (dU K mg y_Desk__step_back):=by
 refine F.okMX xO (λas R r h=>?_) (λI A outer s H E as R r M G z h l=>?_)
 ·obtain⟨a,k,g,rfl,_⟩:=h;rfl
 obtain⟨a,k,g,rfl,C,q⟩:=h;obtain⟨B,rfl⟩:=dN l
 refine⟨_,(aL (aJ (yZ (aw (bi z.units) (PD.q (bE bG rfl u Iv (be (PD.q (io c.cl c.n_states c.ns (ad 0))) bd jf) jf ag)) (PD.q ah) (au _))) (ai (rE o rfl rfl rfl)) aK)
   (ai (oz 0 c.cl c.n_state c.ns (zc 0 c.cl c.n_states c.ns)))),?_⟩
 intro J;refine⟨λρ=>g≠[]/\ρ=[some (.ob (some B) (bS k g))],?_,?_⟩
 ·refine⟨rfl,_,rfl,λh=>⟨_,rfl,C ?_⟩,λh=>⟨λe=>?_,rfl⟩⟩
  ·have:=dc h
   cases g with
   |nil=>rfl
   |cons x xs=>simp at this;omega
  ·subst e;exact tf h
 rintro ρ ⟨p,rfl⟩;rcases KD g with e|⟨j,t,e⟩
 ·exact absurd e p
 rw[KG]at e;subst e;obtain⟨v,y⟩:=FB cN j t;refine⟨_,_,_,rfl,rfl,_,v,gB k j,(by rw[y];rfl),?_⟩;rfl';refine⟨_,_,rfl,rfl,(by show 2<1000;decide),gB t j,rfl,?_⟩;exact⟨_,rfl,q j t rfl⟩
open Tx
noncomputable def t9:bU:=λas R e=>∃(a:Option Addr)(s:Dk)(c:List Dk)(x:Str)(w:Say),as=[.ob a (bS s c),.v (.str x)]/\c.length<500/\dm x/\x.length<=900/\dX s.ns.length x=some w/\DkW s/\(
 (fD s w/\(bt s [] w=0->R (.v (.str "ok")) [bS (kP s w) (c++[s])])/\(bt s [] w≠0->e (gN (bt s [] w)) [bS s c])) \/
 (w=.word "write"/\PlOk s.ns s.bs s.rs s.gl/\(s.sn=1\/s.sn = -1)/\R (.v (.str (Str.join "\n" ((cT s.ns s.bs s.rs s.gl s.sn).map aW)))) [bS s c]) \/
 (w=.word "back"/\(c=[]->e (gN 6) [bS s c])/\∀g t,c=g++[t]->R (.v (.str "ok")) [bS t g]))
noncomputable abbrev SY(c:Addr)(k:Dk)(a:List Dk)(x:Str)(F:D):ak:=[some (.ob (some c) (bS k a)),some (.v (.str x)),some (.v F)]
def xg{s:Dk}{w:Say}(h:fD s w):∃(h:Str)(r:List D),j5 (some w)=.tup (.str h::r)/\(h == "ask")=false/\(h == "try")=false/\(h == "fractions")=false/\(h == "write")=false/\(h == "back")=false:=by
 cases w with
 |word v=>exact h.elim
 |tri v=>exact h.elim
 |take k=>exact⟨_,_,rfl,by decide,by decide,by decide,by decide,by decide⟩
 |frm f=>cases f<;>exact⟨_,_,rfl,by decide,by decide,by decide,by decide,by decide⟩
def Bk(F:Fun K "say" "Desk.say" iF f fd){B:Addr}(g:TxtDesk K mg B)(J:Cl P w K mg base (n+2) "say_form" ["line","n"] z_say_form)(I:Cl P w K mg base (n+2) "write_plan" ["names","plan","sense"] z_write_plan)(S:ClMX P w K mg base (n+2) "changed" ["state","form"] y_changed)(N:MthMX P w K mg base (n+2) B "step_back" ["self"] y_Desk__step_back)(Q:MthM P w K mg base (n+2) B "step_on" ["self","state"] y_Desk__step_on)(U:mg "len"=none)(O:Rz1 P w K mg base "NoText"):FnOk P w K mg base (CXo P w) (n+3) f fd ["self","line"] (dU K mg t9):=by
 refine F.okMX sc_Desk__say (λas R T h=>?_) (λMZ A outer s H E as R T qs MY l h M=>?_)
 ·obtain⟨a,k,v,x,w,rfl,_⟩:=h;rfl
 obtain⟨a,k,v,x,w,rfl,hl,ha,hx,hw,hk,q⟩:=h;obtain⟨G,rfl⟩:=dN M
 refine⟨_,(ap (ar (i:=2) sc_Desk__say.nd rfl VZ (pN (bM J l rfl (af (dv 1) (af (bE bG rfl U Iv (be (PD.q (av (PD.q (io g.cl g.n_state g.ns (ad 0))))) bd ax) ax ag) ao bP) aa) aa (aF bP ag))))
   (aL (aJ (aR (aw fW (ad 2) (PD.q bA) (au _))) (ai (mf O rfl rfl rfl (l.mono (by omega)) bA am)) aK)
   (aL (aJ (aR (aw (bi l.units) (PD.q (av (ad 2))) (PD.q az) (au _))) (ai j8) aK)
   (aL (aJ (aR (aw (bi l.units) (PD.q (av (ad 2))) (PD.q az) (au _))) (ai j8) aK)
   (aL (aJ (aR (aw (bi l.units) (PD.q (av (ad 2))) (PD.q az) (au _))) (ai j8) aK)
   (aL (aJ (aR (aw (bi l.units) (PD.q (av (ad 2))) (PD.q az) (au _))) (ai (aC (pN (bM I l rfl (af (av (PD.q (io g.cl g.n_state g.ns (ad 0)))) (af (av (PD.q (io g.cl g.n_state g.ns (ad 0)))) (af (av (PD.q (io g.cl g.n_state g.ns (ad 0)))) ao ax) ax) ax) ax (aF ax (aF ax ag)))))) aK)
   (aL (aJ (aR (aw (bi l.units) (PD.q (av (ad 2))) (PD.q az) (au _))) (ai (qe (yk 0 N l rfl g.cl g.ns))) (ai (qe (Ag 0 Q l g.cl g.ns (aN (lV S l rfl rfl (aN (pN (io g.cl g.n_state g.ns (ad 0))) (aN (ae (dv 2)) bc aa) jf) jf (aF aa ag)) bc bP) bP ag))))
   (ai (aC (ae az)))))))))),?_⟩
 intro ke;refine⟨rfl,_,rfl,_,rfl,x,k.ns.length,by rw[HV],ha,hx,?_⟩;rw[hw];refine⟨Al w,?_⟩;rfl';rcases q with⟨r,q,C⟩|⟨rfl,r,z,q⟩|⟨rfl,C,q⟩
 ·obtain⟨hd,m,e,Y,Z,e3,e4,e5⟩:=xg r;have X:=e;rw[e];have u:bK (D.str hd::m) 0=some (.str hd):=mj (i:=0) rfl rfl
  have y:∀{c:Bool}{p:Prop},c=false->c=true->p:=λr z=>by rw[r]at z;cases z
  refine⟨λρ=>ρ=_,⟨λh=>(by cases h),λ_=>rfl⟩,?_⟩;rintro ρ rfl;refine⟨λρ=>ρ=_,⟨_,u,λh=>y Y h,λ_=>rfl⟩,?_⟩;rintro ρ rfl;refine⟨λρ=>ρ=_,⟨_,u,λh=>y Z h,λ_=>rfl⟩,?_⟩;rintro ρ rfl;refine⟨λρ=>ρ=_,⟨_,u,λh=>y e3 h,λ_=>rfl⟩,?_⟩;rintro ρ rfl;refine⟨λρ=>ρ=_,⟨_,u,λh=>y e4 h,λ_=>rfl⟩,?_⟩;rintro ρ rfl;refine⟨λρ=>bt k [] w=0/\ρ=SY G (kP k w) (v++[k]) x (.tup (.str hd::m)),⟨_,u,λh=>y e5 h,λ_=>?_⟩,?_⟩
  ·refine⟨⟨_,_,rfl,rfl⟩,rfl,_,rfl,sW k,_,rfl,rfl,k,w,by rw[X],hk,r,λj=>?_,λj=>?_⟩
   ·exact⟨_,rfl,rfl,_,k,kP k w,v,rfl,hl,j,rfl⟩
   ·exact⟨_,rfl,C j⟩
  rintro ρ ⟨j,rfl⟩;exact⟨_,rfl,q j⟩
 ·refine⟨λρ=>ρ=_,⟨λh=>(by cases h),λ_=>rfl⟩,?_⟩;rintro ρ rfl;refine⟨λρ=>ρ=_,⟨_,rfl,λh=>(by cases h),λ_=>rfl⟩,?_⟩;rintro ρ rfl;refine⟨λρ=>ρ=_,⟨_,rfl,λh=>(by cases h),λ_=>rfl⟩,?_⟩;rintro ρ rfl;refine⟨λρ=>ρ=_,⟨_,rfl,λh=>(by cases h),λ_=>rfl⟩,?_⟩;rintro ρ rfl;refine⟨λρ=>False,⟨_,rfl,λ_=>?_,λh=>(by cases h)⟩,?_⟩
  ·exact⟨rfl,_,rfl,_,rfl,rfl,_,rfl,_,rfl,rfl,_,rfl,_,rfl,k.ns,k.bs,k.rs,k.gl,k.sn,rfl,r,z,.str _,_,rfl,q⟩
  rintro ρ ⟨⟩
 ·refine⟨λρ=>ρ=_,⟨λh=>(by cases h),λ_=>rfl⟩,?_⟩;rintro ρ rfl;refine⟨λρ=>ρ=_,⟨_,rfl,λh=>(by cases h),λ_=>rfl⟩,?_⟩;rintro ρ rfl;refine⟨λρ=>ρ=_,⟨_,rfl,λh=>(by cases h),λ_=>rfl⟩,?_⟩;rintro ρ rfl;refine⟨λρ=>ρ=_,⟨_,rfl,λh=>(by cases h),λ_=>rfl⟩,?_⟩;rintro ρ rfl;refine⟨λρ=>ρ=_,⟨_,rfl,λh=>(by cases h),λ_=>rfl⟩,?_⟩;rintro ρ rfl;refine⟨λρ=>∃o t,v=o++[t]/\ρ=SY G t o x (.tup [.str "back"]),⟨_,rfl,λ_=>?_,λh=>(by cases h)⟩,?_⟩
  ·refine⟨⟨_,_,rfl,rfl⟩,_,rfl,rfl,_,k,v,rfl,λj=>?_,λo t j=>?_⟩
   ·exact⟨_,rfl,C j⟩
   ·exact⟨o,t,j,rfl⟩
  rintro ρ ⟨o,t,j,rfl⟩;exact⟨_,rfl,q o t j⟩
noncomputable def Pl(n:Nat)(o:Om):Prop:=∃(ns:List Int)(r st c:Int),o=.lst [.fzl (ns.map D.int),.int r,.int st,.int c]/\ns.length<=63/\0<=c/\c<=n
def Pl.mono{n m:Nat}{o:Om}(h:Pl n o)(l:n<=m):Pl m o:=by obtain⟨ns,r,st,c,e,a,g,j⟩:=h;exact⟨ns,r,st,c,e,a,g,by omega⟩
inductive y__law_pool(as:List Sm)(R:Sm->List Om->Prop)(Rx:XD->List Om->Prop):Prop|mk (ns:List Int) (k:Int) (_:as=[.v (.fzl (ns.map D.int)),.v (.int k)]) (_:ns.length<=63) (_:0<=k) (_:∀o,Pl 0 o->R (.ob none o) [])
def AL(F:Fun K "_law_pool" "_law_pool" kY f fd)(o:mg "len"=none):FnOk P w K mg base bf (n+1) f fd ["_law_script","_law_at"] (bu K y__law_pool):=by
 refine F.okM sc__law_pool (λas R m h=>?_) (λu A outer s H E as R m z t x h l=>?_)
 ·obtain⟨ns,k,rfl,_⟩:=h;rfl
 obtain⟨ns,k,rfl,e,p,q⟩:=h;obtain rfl:=bZ l
 refine⟨_,(ap (ar (i:=2) sc__law_pool.nd rfl VZ (ae ah))
   (aL (aJ (aR (PWD.td (iQ (aw fS (ad 1) (PD.q (bE bG rfl o Iv (be (ad 0) bd aa) aa ag)) (au _)) (iZ (aw ki (PD.q (cu (ad 0) (ad 1) (λ_ _=>rfl))) (PD.q (aH Fv (PD.q ah) (PD.q ah))) (au _)))))) (ai (ar (i:=2) sc__law_pool.nd rfl VZ (ae (cu (ad 0) (ad 1) (λ_ _=>rfl))))) aK)
   (ai (aC (ft (fJ (af (dv 0) (af (dv 2) (af (aH bh (PD.q ah) (ad 1)) (af ah ao am) bB) aa) aa))))))),?_⟩
 intro y
 have g:(ns.map D.int).length<=63:=by rw[HV];exact e
 have a:∀r:Int,Pl 0 (.lst [.fzl (ns.map D.int),.int r,.int (7+k),.int 0]):=λr=>⟨ns,r,7+k,0,rfl,e,by omega,by omega⟩;refine⟨λρ=>∃r:Int,ρ=[some (.v (.fzl (ns.map D.int))),some (.v (.int k)),some (.v (.int r))],⟨λh=>?_,λh=>?_⟩,?_⟩
 ·have h:=dP h;obtain⟨v,j⟩:=vA (ns:=ns) (k:=k) p (by rw[HV]at h;exact h);exact⟨_,j,⟨by decide,by decide,by decide⟩,λ_=>⟨_,j,_,rfl⟩,λ_=>⟨_,rfl⟩⟩
 ·exact⟨λc=>(by cases c),λ_=>⟨_,rfl⟩⟩
 rintro ρ ⟨r,rfl⟩;exact q _ (a r)
inductive y__law_next(as:List Sm)(R:Sm->List Om->Prop)(Rx:XD->List Om->Prop):Prop|mk (a:Option Addr) (o:Om) (z:Int) (n:Nat) (_:as=[.ob a o,.v (.int z)]) (_:Pl n o) (_:n<2^20) (_:0<z) (_:z<2^9000) (_:∀(x:Int)(o':Om),0<=x->x<z->Pl (n+1) o'->R (.v (.int x)) [o'])
def A5(F:Fun K "_law_next" "_law_next" lP f fd)(j:mg "len"=none):FnOk P w K mg base bf (n+1) f fd ["_law_pool_here","_law_size"] (bu K y__law_next):=by
 refine F.okM sc__law_next (λas R u h=>?_) (λJ A outer s H E as R u Q I N h p=>?_)
 ·obtain⟨a,o,z,n,rfl,_⟩:=h;rfl
 obtain⟨a,o,z,n,rfl,g,M,e,G,q⟩:=h;obtain⟨m,rfl⟩:=dN p
 refine⟨_,(aL (aJ (aR (aw iU (PD.q (av (ad 0))) (PD.q ah) (au _))) (ap (ar (i:=2) sc__law_next.nd rfl VZ (ae (aH hU (PD.q (av (ad 0))) (ad 1))))
   (ap (ld 0 (ae (aH FW (PD.q (av (ad 0))) (ad 1))) (ae ah))
   (ai (aC (ae (dv 2)))))) aK)
   (ap (Es 0 D2 (ae ah) (ae ah))
   (ap (ar (i:=3) sc__law_next.nd rfl VZ (ae (av (ad 0))))
   (aL (aJ (aR (aw iU (PD.q (bE bG rfl j Iv (be (PD.q (av (ad 0))) bd ax) ax ag)) (PD.q ah) (au _))) (ai (ar (i:=3) sc__law_next.nd rfl VZ (ae (cu (PD.q (av (ad 0))) (PD.q (aH hU (PD.q (av (ad 0))) (PD.q (bE bG rfl j Iv (be (PD.q (av (ad 0))) bd ax) ax ag)))) (λ_ _=>rfl))))) aK)
   (ap (ar (i:=4) sc__law_next.nd rfl VZ (ae (aH bh (PD.q (aH bh (PD.q (aH bh (PD.q (aH bh (PD.q (av (ad 0))) (ad 3))) (PD.q (aH ge (PD.q (aH ge (PD.q ah) (PD.q (av (ad 0))))) (PD.q (av (ad 0))))))) (PD.q (aH ge (PD.q ah) (PD.q (av (ad 0))))))) (PD.q ah))))
   (ap (ld 0 (ae (aH hU (PD.q (aH ge (ad 4) (PD.q ah))) (PD.q ah))) (ae ah))
   (ai (aC (ae (aH hU (PD.q (aH hU (PD.q (aH ge (PD.q (av (ad 0))) (PD.q ah))) (PD.q ah))) (ad 1))))))))))),?_⟩
 intro O;obtain⟨ns,r,st,c,rfl,l,t,B⟩:=g;refine⟨λρ=>ρ=[some (.ob (some m) (.lst [.fzl (ns.map D.int),.int r,.int st,.int c])),some (.v (.int z)),none,none,none],⟨_,rfl,λh=>?_,λ_=>rfl⟩,?_⟩
 ·exact⟨_,rfl,e,_,rfl,CDivB.of e G,_,rfl,_,rfl,_,rfl,q _ _ (MA _ (by omega)) (LX _ e) ⟨ns,_,st,c,rfl,l,t,by omega⟩⟩
 rintro ρ rfl;refine⟨trivial,3,c,rfl,rfl,(by show 3<4;decide),_,rfl,_,rfl,?_⟩;refine⟨λρ=>∃v:Int,ρ=[some (.ob (some m) (.lst [.fzl (ns.map D.int),.int r,.int st,.int (c+1)])),some (.v (.int z)),none,some (.v (.int v)),none],⟨_,rfl,λh=>?_,λ_=>⟨_,rfl⟩⟩,?_⟩
 ·have h:=dP h
  have g:(0:Int)<((ns.map D.int).length:Int):=by omega
  obtain⟨v,C⟩:=vA (ns:=ns) (k:=(c+1) % ((ns.map D.int).length:Int)) (MA _ (by omega)) (by have:=LX (c+1) g;rw[HV]at this ⊢;exact this);exact⟨_,rfl,_,rfl,_,rfl,g,_,C,_,rfl⟩
 rintro ρ ⟨v,rfl⟩
 have x:-(2^64)<c+1:=by omega
 have y:c+1<2^64:=by omega
 refine⟨_,rfl,_,rfl,lc (by decide) (by decide),_,rfl,qc x y,_,rfl,lc (by decide) (by decide),qc (by decide) (by decide),(by decide:(0:Int)<2147483647),_,rfl,_,rfl,_,rfl,qc (by decide) (by decide),(by decide:(0:Int)<1000000007),e,_,rfl,?_⟩;exact q _ _ (MA _ (by omega)) (LX _ e) ⟨ns,r,_,c+1,rfl,l,by omega,by omega⟩
def cG{z:Int}(h:z<2^64):z<2^9000:=by
 have a:(2:Nat)^64<=2^9000:=Nat.pow_le_pow_right (by decide) (by omega)
 have c:(2:Int)^64<=2^9000:=by exact_mod_cast a
 omega
open Tx
inductive y__law_names(as:List Sm)(R:Sm->List Om->Prop)(Rx:XD->List Om->Prop):Prop|mk (a:Option Addr) (o:Om) (n m:Nat) (_:as=[.ob a o,.v (.int (n:Nat))]) (_:Pl m o) (_:m+100<2^20) (_:n<=10) (_:∀(ns:List Str)(o':Om),(∀x∈ns,bD x=true)->ns.length=n->Pl (m+3) o'->R (.own (ns.map D.str)) [o'])
noncomputable def cM(l:List Nat):Str:=⟨l.toArray⟩
def GZ(l:List Nat):L (cM l)=l:=rfl
def rJ(l m:List Nat):cM l++cM m=cM (l++m):=by show (⟨l.toArray++m.toArray⟩:Str)=⟨(l++m).toArray⟩;rw[List.append_toArray]
def oU(l:List Nat):(cM l).length=l.length:=rfl
def nm_iff{l:List Nat}:bD (cM l)=true↔1<=l.length/\l.length<=12/\l.all eE=true:=by unfold bD;rw[Iz,Iz,IZ,IZ,oU,GZ,and_assoc]
def oA{i:Nat}(h:i<26):eE (97+i)=true:=by unfold eE;simp;omega
noncomputable def noon:List Nat:=[110,111,111,110]
noncomputable def WD:List Str:=["at","to","from","least","most","row","unknown","by","try","ask","write","back","x"]
def Go:∀w∈WD,bD w=true:=by lia
noncomputable def fZ(c a at_ n k:Nat):Str:=
 if c=0 then cM (noon.take at_++[97+(a+k) % 26]++noon.drop at_)
 else if c=1 then cM (List.replicate (k+1) (97+a))
 else if c=2 then cM (List.replicate (n+2-k) (97+a))
 else WD.getD ((a+k) % 13) ""
def CJ{g a at_ n k:Nat}(o:a<26)(r:n<=10)(p:k<n):bD (fZ g a at_ n k)=true:=by
 unfold fZ;split
 ·refine nm_iff.mpr ⟨by simp;omega,?_,?_⟩
  ·have j:=List.length_take_le at_ noon;have l:noon.length=4:=rfl;simp only[HY,I0,Jm,Ij,Jh];omega
  ·have m:noon.all eE=true:=by decide
   rw[Mz,Mz];have j:(noon.take at_).all eE=true:=IC.mpr λc e=>IC.mp m c (List.mem_of_mem_take e);have l:(noon.drop at_).all eE=true:=IC.mpr λc e=>IC.mp m c (KO e);rw[j,l];have:=oA (i:=(a+k) % 26) (L8 _ (by decide));simpa using this
 ·split
  ·refine nm_iff.mpr ⟨by simp,by rw[JA];omega,?_⟩;rw[List.all_replicate];simp[oA o]
  ·split
   ·refine nm_iff.mpr ⟨by rw[JA];omega,by rw[JA];omega,?_⟩;rw[List.all_replicate];simp[oA o]
   ·refine Go _ ?_;have h:(a+k) % 13<WD.length:=L8 _ (by decide);rw[Jp,IB h];exact KI h
def wL{w:Str}{z:Int}(j:Nat)(h:z=(j:Int)):fi w none (some z)=cM ((L w).take j):=by
 subst h;unfold fi;show cM (br (L w) none (some (j:Int)))=_
 have e:br (L w) none (some (j:Int))=(L w).take j:=by unfold br;rw[HT.sIx_nat,HT.sIx_none,K5,Nat.sub_zero,←List.take_eq_take_min]
 rw[e]
def Ca{w:Str}{z:Int}(j:Nat)(h:z=(j:Int)):fi w (some z) none=cM ((L w).drop j):=by
 subst h;unfold fi;show cM (br (L w) (some (j:Int)) none)=_
 have e:br (L w) (some (j:Int)) none=(L w).drop j:=by
  unfold br;rw[HT.sIx_nat,HT.sIx_none];rcases IU j (L w).length with c|c
  ·rw[KW (by omega),JK (by rw[Jm];omega)]
  ·rw[Nat.min_eq_right c,List.drop_length,List.take_nil,MD c]
 rw[e]
def C1:("abcdefghijklmnopqrstuvwxyz":Str).cps.toList=(List.range 26).map (97+·):=by lia
def qG{k:Nat}{z:Int}(h:k<26)(e:z=(k:Int)):bK ("abcdefghijklmnopqrstuvwxyz":Str).cps.toList z=some (97+k):=by rw[C1];exact mj (i:=k) (by rw[Ii,J1 h];rfl) e
def p9:L ("noon":Str)=noon:=by decide
def DL{F:Nat->Str}(i:Nat):(List.range (i+1)).map F=(List.range i).map F++[F i]:=by rw[List.range_succ,IJ];rfl
def ua{c k:Nat}{j:Nat}(h:j=k):eB ⟨#[c]⟩ j=cM (List.replicate k c):=by subst h;unfold eB cM;simp
noncomputable abbrev N7(a:Addr)(n:Nat)(o:Om)(w t c:Nat)(ns:List Str)(e g:Option Sm):ak:=[some (.ob (some a) o),some (.v (.int (n:Nat))),some (.v (.str "abcdefghijklmnopqrstuvwxyz")),some (.v (.int (w:Nat))),some (.v (.int (t:Nat))),some (.v (.int (c:Nat))),some (.own (ns.map D.str)),e,g]
def EG(F:Fun K "_law_names" "_law_names" mR f fd)(u:ClM P w K mg base n "_law_next" ["_law_pool_here","_law_size"] y__law_next)(S:mg "range"=none):FnOk P w K mg base bf (n+1) f fd ["_law_pool_here","_law_count"] (bu K y__law_names):=by
 refine F.okM sc__law_names (λas R O h=>?_) (λMZ A outer s H E as R O qs MY g h I=>?_)
 ·obtain⟨a,o,n,m,rfl,_⟩:=h;rfl
 obtain⟨a,o,n,m,rfl,X,hm,U,q⟩:=h;obtain⟨r,rfl⟩:=dN I
 refine⟨_,(ap (ar (i:=2) sc__law_names.nd rfl VZ (ae az))
   (ap (ar (i:=3) sc__law_names.nd rfl VZ (bp u g rfl (bn 0 (aN (ae ah) bc am) aa) aa (aF am ag)))
   (ap (ar (i:=4) sc__law_names.nd rfl VZ (bp u g rfl (bn 0 (aN (ae ah) bc am) aa) aa (aF am ag)))
   (ap (ar (i:=5) sc__law_names.nd rfl VZ (bp u g rfl (bn 0 (aN (ae ah) bc am) aa) aa (aF am ag)))
   (ap (ar (i:=6) sc__law_names.nd rfl VZ (ft (fJ ao)))
   (ap (g6 JZ rfl (jk (Et rfl S (af (dv 1) ao aa))) (bq (i:=7) sc__law_names.nd rfl VZ) (aL (aJ (aR (aw (bi g.units) (ad 3) (PD.q ah) (au _))) (ai (dY 6 (ae (aH bh (PD.q (aH bh (PD.q (fF (PD.q az) fM (eQ (ad 5)))) (PD.q (cu (ad 2) (PD.q (aH hU (PD.q (aH bh (ad 4) (ad 7))) (PD.q ah))) (λ_ _=>rfl))))) (PD.q (fF (PD.q az) (eQ (ad 5)) fM)))) (bX bB) bB)) aK)
   (aL (aJ (aR (aw (bi g.units) (ad 3) (PD.q ah) (au _))) (ai (dY 6 (ae (aH ge (PD.q (cu (ad 2) (ad 4) (λ_ _=>rfl))) (PD.q (aH bh (ad 7) (PD.q ah))))) (bX bB) bB)) aK)
   (aL (aJ (aR (aw (bi g.units) (ad 3) (PD.q ah) (au _))) (ai (dY 6 (ae (aH ge (PD.q (cu (ad 2) (ad 4) (λ_ _=>rfl))) (PD.q (aH eV (PD.q (aH bh (ad 1) (PD.q ah))) (ad 7))))) (bX bB) bB)) aK)
   (ai (aJ (aR (aw (bi g.units) (ad 3) (PD.q ah) (au _))) (ap (ar (i:=8) sc__law_names.nd rfl VZ (ae (aM (af az (af az (af az (af az (af az (af az (af az ao am) am) am) am) am) am) am))))
   (ap (ar (i:=8) sc__law_names.nd rfl VZ (ae (aH bh (ad 8) (PD.q (aM (af az (af az (af az (af az (af az (af az ao am) am) am) am) am) am))))))
   (ai (dY 6 (ae (cu (ad 8) (PD.q (aH hU (PD.q (aH bh (ad 4) (ad 7))) (PD.q ah))) (λ_ _=>rfl))) (bX ax) ax)))) aK))))))
   (ai (aC (DG 6))))))))),?_⟩
 intro ke;refine⟨⟨_,_,rfl⟩,_,rfl,rfl,_,_,4,m,rfl,X,by omega,by decide,cG (by decide),λw' o1 w0 w1 J=>?_⟩;rfl';refine⟨⟨_,_,rfl⟩,_,rfl,rfl,_,_,26,_,rfl,J,by omega,by decide,cG (by decide),λt' o2 t0 t1 M=>?_⟩;rfl';refine⟨⟨_,_,rfl⟩,_,rfl,rfl,_,_,5,_,rfl,M,by omega,by decide,cG (by decide),λc' l Q c1 N=>?_⟩;rfl';obtain⟨w,rfl⟩:=Jr w0;obtain⟨t,rfl⟩:=Jr t0;obtain⟨c,rfl⟩:=Jr Q
 have z:t<26:=by omega
 have v:("abcdefghijklmnopqrstuvwxyz":Str).length<=sizeLine:=kM (by decide);have p:("noon":Str).length<=sizeLine:=kM (by decide);have Y:=Ju;refine⟨⟨by omega,by omega⟩,λi ρ=>∃(C j:Option Sm),ρ=N7 r n l w t c ((List.range i).map (fZ w t c n)) C j,⟨_,_,rfl⟩,?_,?_⟩
 ·rintro i d ρ hd ⟨C,j,rfl⟩;obtain⟨hi,rfl⟩:=jq hd
  have QQ:i<n:=by omega
  rfl'
  have e:∀{y:Str},y=fZ w t c n i->((List.range i).map (fZ w t c n)).map D.str++[D.str y]=((List.range (i+1)).map (fZ w t c n)).map D.str:=λ{y} h=>by rw[DL,IJ,h];rfl
  have len:(((List.range i).map (fZ w t c n)).map D.str).length<sizeLine:=by rw[HV,HV,Je];omega
  have B:w=0\/w=1\/w=2\/w=3:=by omega
  rcases B with rfl|rfl|rfl|rfl
  ·refine⟨λρ=>ρ=N7 r n l 0 t c ((List.range (i+1)).map (fZ 0 t c n)) (some (.v (.int (0+(i:Nat))))) j,⟨λ_=>?_,λh=>(by cases h)⟩,?_⟩
   ·refine⟨p,_,wL c rfl,(by decide:(0:Int)<26),v,_,qG (k:=(t+i) % 26) (L8 _ (by decide)) (by omega),?_⟩;have n4:noon.length=4:=rfl
    have ltk:(cM ((L ("noon":Str)).take c)).length<=4:=by rw[oU,p9,I0];omega
    have ldr:(cM ((L ("noon":Str)).drop c)).length<=4:=by rw[oU,p9,Jm];omega
    refine⟨by show _+1<=sizeLine;omega,p,_,Ca c rfl,?_⟩;refine⟨by rw[fE];show _+1+_<=sizeLine;omega,len,_,e ?_,rfl⟩;rw[p9];show cM (noon.take c)++cM [97+(t+i) % 26]++cM (noon.drop c)=_;rw[rJ,rJ];rfl
   rintro ρ rfl;refine⟨λρ=>ρ=_,⟨λh=>(by cases h),λ_=>rfl⟩,?_⟩;rintro ρ rfl;refine⟨λρ=>ρ=_,⟨λh=>(by cases h),λ_=>rfl⟩,?_⟩;rintro ρ rfl;exact⟨λh=>(by cases h),λ_=>⟨_,_,rfl⟩⟩
  ·refine⟨λρ=>ρ=_,⟨λh=>(by cases h),λ_=>rfl⟩,?_⟩;rintro ρ rfl;refine⟨λρ=>ρ=N7 r n l 1 t c ((List.range (i+1)).map (fZ 1 t c n)) (some (.v (.int (0+(i:Nat))))) j,⟨λ_=>?_,λh=>(by cases h)⟩,?_⟩
   ·refine⟨v,_,qG z rfl,?_⟩;refine⟨⟨by omega,by omega,by show 1*_<=sizeLine;omega,by show 1<=sizeLine;omega⟩,_,ua (by omega:(0+(i:Int)+1).toNat=i+1),len,_,e rfl,rfl⟩
   rintro ρ rfl;refine⟨λρ=>ρ=_,⟨λh=>(by cases h),λ_=>rfl⟩,?_⟩;rintro ρ rfl;exact⟨λh=>(by cases h),λ_=>⟨_,_,rfl⟩⟩
  ·refine⟨λρ=>ρ=_,⟨λh=>(by cases h),λ_=>rfl⟩,?_⟩;rintro ρ rfl;refine⟨λρ=>ρ=_,⟨λh=>(by cases h),λ_=>rfl⟩,?_⟩;rintro ρ rfl;refine⟨λρ=>ρ=N7 r n l 2 t c ((List.range (i+1)).map (fZ 2 t c n)) (some (.v (.int (0+(i:Nat))))) j,⟨λ_=>?_,λh=>(by cases h)⟩,?_⟩
   ·refine⟨v,_,qG z rfl,?_⟩;refine⟨⟨by omega,by omega,by show 1*_<=sizeLine;omega,by show 1<=sizeLine;omega⟩,_,ua (by omega:((n:Int)+2-(0+(i:Int))).toNat=n+2-i),len,_,e rfl,rfl⟩
   rintro ρ rfl;exact⟨λh=>(by cases h),λ_=>⟨_,_,rfl⟩⟩
  ·refine⟨λρ=>ρ=_,⟨λh=>(by cases h),λ_=>rfl⟩,?_⟩;rintro ρ rfl;refine⟨λρ=>ρ=_,⟨λh=>(by cases h),λ_=>rfl⟩,?_⟩;rintro ρ rfl;refine⟨λρ=>ρ=_,⟨λh=>(by cases h),λ_=>rfl⟩,?_⟩;rintro ρ rfl;refine⟨λ_=>?_,λh=>(by cases h)⟩;have G:(t+i) % 13<WD.length:=L8 _ (by decide);refine⟨by show 7+6<=sizeLine;omega,WD.map D.str,rfl,(by decide:(0:Int)<13),_,gu (i:=(t+i) % 13) (IB G) (by omega),len,_,e ?_,_,_,rfl⟩;show _=WD.getD ((t+i) % 13) "";rw[Jp,IB G];rfl
 rintro ρ ⟨C,j,rfl⟩;rw[gC,JL];exact⟨_,rfl,q _ l (λx Z=>by obtain⟨k,T,rfl⟩:=IM.mp Z;exact CJ z U (JO.mp T)) (by rw[HV,Je]) N⟩
open Tx
noncomputable abbrev Pn:=Nat×Int
noncomputable def PnOk(n:Nat)(ts:List Pn):Prop:=(ts.map (·.1)).Nodup/\∀t∈ts,t.1<n/\bx t.2
def v9{j:Type}[DecidableEq j]:∀{xs ys:List j},xs.Nodup->(∀x∈xs,x∈ys)->xs.length<=ys.length
 | [],_,_,_=>J4 _
 |x::xs,ys,h,c=>by
  rw[IS]at h;have:=v9 (ys:=ys.erase x) h.2 λy g=>(List.mem_erase_of_ne λe=>h.1 (by rw[←e];exact g)).mpr (c y (Ic _ g));have a:=c x Ie;rw[List.length_erase_of_mem a]at this;have l:=List.length_pos_of_mem a;rw[Ij];omega
noncomputable def bH(ns:List Str)(ts:List Pn):List Tm:=ts.map λt=>(t.2,ns.getD t.1 "")
def PnOk.len{n:Nat}{ts:List Pn}(h:PnOk n ts):ts.length<=n:=by
 have:=v9 (ys:=List.range n) h.1 λx c=>by obtain⟨t,a,rfl⟩:=IM.mp c;exact JO.mpr (h.2 t a).1
 rw[Je,HV]at this;exact this
def kL{ns:List Str}{p:Nat}(h:p<ns.length):ns[p]?=some (ns.getD p ""):=by rw[Jp,IB h];rfl
def nh{ns:List Str}{ts:List Pn}(m:fG ns)(a:PnOk ns.length ts):(∀t∈bH ns ts,fU t)/\na ns (bH ns ts)/\(bH ns ts).length<=8:=by
 have mem:∀t∈bH ns ts,t.2∈ns:=λt h=>by obtain⟨p,o,rfl⟩:=IM.mp h;exact IA (kL (a.2 p o).1)
 refine⟨λt h=>⟨?_,m.2.2 _ (mem t h)⟩,⟨mem,?_⟩,?_⟩
 ·obtain⟨p,o,rfl⟩:=IM.mp h;exact (a.2 p o).2
 ·unfold bH;rw[JH]
  have r:∀l:List Pn,(l.map (·.1)).Nodup->(∀t∈l,t.1<ns.length)->(l.map λt=>ns.getD t.1 "").Nodup:=by
   intro l
   induction l with
   |nil=>intro _ _;exact LK
   |cons t l z=>
    intro j g;rw[IE,IS]at j ⊢;refine⟨λy=>j.1 ?_,z j.2 λx c=>g x (Ic _ c)⟩;obtain⟨x,c,e⟩:=IM.mp y;have u:=kL (g x (Ic _ c));have v:=kL (g t Ie);rw[e,←v]at u;have:=(Kp (g x (Ic _ c)) m.1).mp u;rw[←this];exact List.mem_map_of_mem c
  exact r ts a.1 λt h=>(a.2 t h).1
 ·unfold bH;rw[HV];exact IF a.len m.2.1
noncomputable def eS(l:List Pn)(j:Nat):Int:=match l.find? (λt=>decide (t.1=j))with|some t=>t.2|none=>0
def pC{l:List Pn}{t:Pn}(h:(l.map (·.1)).Nodup)(o:t∈l):eS l t.1=t.2:=by
 unfold eS
 cases e:l.find? (λu=>decide (u.1=t.1))with
 |none=>
  have:=LV.mp e t o;simp at this
 |some u=>
  have r:u.1=t.1:=Ir (List.find?_some (p:=λu:Pn=>decide (u.1=t.1)) e);obtain⟨i,m⟩:=Kq (L9 e);obtain⟨j,a⟩:=Kq o
  have c:(l.map (·.1))[i]?=some u.1:=by rw[Ii,m];rfl
  have g:(l.map (·.1))[j]?=some t.1:=by rw[Ii,a];rfl
  rw[←r]at g;have:=(Kp (ba c) h).mp (c.trans g.symm);subst this;rw[m]at a;cases a;rfl
def uA{l:List Pn}{j:Nat}(h:j∉l.map (·.1)):eS l j=0:=by
 unfold eS;have e:l.find? (λu=>decide (u.1=j))=none:=LV.mpr λu c a=>h (by rw[←Ir a];exact List.mem_map_of_mem c);rw[e]
def AO{l m:List Pn}(a:List.Perm l m)(h:(l.map (·.1)).Nodup)(j:Nat):eS l j=eS m j:=by
 have g:(m.map (·.1)).Nodup:=(a.map _).nodup_iff.mp h;by_cases c:j∈l.map (·.1)
 ·obtain⟨t,e,rfl⟩:=IM.mp c;rw[pC h e,pC g (a.mem_iff.mp e)]
 ·rw[uA c,uA λz=>c ((a.map _).mem_iff.mpr z)]
def rY{ns:List Str}(l:ns.Nodup){i:Nat}{x:Str}(j:ns[i]?=some x):∀{ts:List Pn},(∀t∈ts,t.1<ns.length)->look (bH ns ts) x=eS ts i
 | [],_=>rfl
 |t::ts,h=>by
  have m:=rY l j (ts:=ts) λt o=>h t (Ic _ o);have g:=kL (h t Ie)
  have a:ns.getD t.1 ""=x↔t.1=i:=by
   constructor
   ·intro e;rw[e]at g;exact (Kp (h t Ie) l).mp (g.trans j.symm)
   ·intro e;rw[e,j]at g;rw[e];exact (IK g).symm
  unfold look eS at m ⊢;show (match ((t.2,ns.getD t.1 "")::bH ns ts).find? (λt=>decide (t.2=x))with|some t=>t.1|none=>0)=_;by_cases c:t.1=i
  ·rw[Kz (p:=λt:Tm=>decide (t.2=x)) (Jc (a.mpr c)),Kz (p:=λt:Pn=>decide (t.1=i)) (Jc c)]
  ·rw[Kg (p:=λt:Tm=>decide (t.2=x)) (by simpa using λz=>c (a.mp z)),Kg (p:=λt:Pn=>decide (t.1=i)) (by simpa using c)];exact m
def uh{ns:List Str}{ts:List Pn}(c:ns.Nodup)(e:∀t∈ts,t.1<ns.length):bF ns (bH ns ts)=(List.range ns.length).map (eS ts):=by
 unfold bF;refine Jo λi=>?_;rw[Ii,Ii]
 cases a:ns[i]? with
 |none=>
  have:=JR.mp a;rw[IX (by rw[Je];exact this)];rfl
 |some x=>
  rw[J1 (ba a)];show some _=some _;rw[rY c a e]
open Tx
inductive y__law_number(as:List Sm)(R:Sm->List Om->Prop)(Rx:XD->List Om->Prop):Prop|mk (a:Option Addr) (o:Om) (m:Nat) (_:as=[.ob a o]) (_:Pl m o) (_:m+10<2^20) (_:∀(x:Int)(o':Om),bx x->Pl (m+2) o'->R (.v (.int x)) [o'])
noncomputable abbrev NB(a:Addr)(o:Om)(x:Int):ak:=[some (.ob (some a) o),some (.v (.int x))]
def xG(F:Fun K "_law_number" "_law_number" lD f fd)(j:ClM P w K mg base n "_law_next" ["_law_pool_here","_law_size"] y__law_next):FnOk P w K mg base bf (n+1) f fd ["_law_pool_here"] (bu K y__law_number):=by
 refine F.okM sc__law_number (λas R z h=>?_) (λG A outer s H E as R z M C c h v=>?_)
 ·obtain⟨a,o,m,rfl,_⟩:=h;rfl
 obtain⟨a,o,m,rfl,B,I,q⟩:=h;obtain⟨r,rfl⟩:=dN v
 refine⟨_,(ap (ar (i:=1) sc__law_number.nd rfl VZ (bp j c rfl (bn 0 (aN (ae ah) bc am) aa) aa (aF am ag)))
   (aL (aJ (aR (aw (bi c.units) (ad 1) (PD.q ah) (au _))) (ai (aC (jc eV (bp j c rfl (bn 0 (aN (ae ah) bc am) aa) aa (aF am ag)) (ae ah)))) aK)
   (aL (aJ (aR (aw (bi c.units) (ad 1) (PD.q ah) (au _))) (ai (aC (jc eV (bp j c rfl (bn 0 (aN (ae ah) bc am) aa) aa (aF am ag)) (ae ah)))) aK)
   (ai (aC (jc eV (bp j c rfl (bn 0 (aN (ae ah) bc am) aa) aa (aF am ag)) (ae ah))))))),?_⟩
 intro J;refine⟨⟨_,_,rfl⟩,_,rfl,rfl,_,_,3,m,rfl,B,by omega,by decide,cG (by decide),λx p N O l=>?_⟩;rfl';refine⟨λρ=>ρ=NB r p x,⟨λ_=>?_,λ_=>rfl⟩,?_⟩
 ·refine⟨⟨_,_,rfl⟩,_,rfl,rfl,_,_,7,_,rfl,l,by omega,by decide,cG (by decide),λy g t u e=>⟨_,rfl,q _ g (by unfold bx;omega) e⟩⟩
 rintro ρ rfl;refine⟨λρ=>ρ=NB r p x,⟨λ_=>?_,λ_=>rfl⟩,?_⟩
 ·refine⟨⟨_,_,rfl⟩,_,rfl,rfl,_,_,199,_,rfl,l,by omega,by decide,cG (by decide),λy g t u e=>⟨_,rfl,q _ g (by unfold bx;omega) e⟩⟩
 rintro ρ rfl;exact⟨⟨_,_,rfl⟩,_,rfl,rfl,_,_,19999,_,rfl,l,by omega,by decide,cG (by decide),λy g t u e=>⟨_,rfl,q _ g (by unfold bx;omega) e⟩⟩
def cr{x y:Str}{a b:Nat}(c:x.length<=a)(e:y.length<=b)(h:a+b<=100000:=by decide):x.length+y.length<=sizeLine:=by have:=Ju;omega
def cz{x y:Str}{a b:Nat}(c:x.length<=a)(e:y.length<=b):(x++y).length<=a+b:=by rw[fE];omega
noncomputable def ja(ns:List Str)(t:Pn):Str:=cB (t.2,ns.getD t.1 "")
def tM(ns:List Str)(ts:List Pn):(bH ns ts).map cB=ts.map (ja ns):=by unfold bH;rw[JH];rfl
noncomputable abbrev cW(n:Nat)(ts:List Pn):List Int:=(List.range n).map (eS ts)
def AY{n:Nat}{ts:List Pn}{p:Nat}{z:Int}(h:PnOk n ts)(r:bx z)(g:p<n)(m:p∉ts.map (·.1)):PnOk n (ts++[(p,z)])/\cW n (ts++[(p,z)])=(cW n ts).set p z:=by
 have nd:((ts++[(p,z)]).map (·.1)).Nodup:=by rw[IJ,Js];refine⟨h.1,by simp,λx l y o e=>?_⟩;rw[e,Ip.mp o]at l;exact m l
 refine⟨⟨nd,λt a=>?_⟩,?_⟩
 ·rcases II.mp a with a|a
  ·exact h.2 t a
  ·rw[Ip.mp a];exact⟨g,r⟩
 ·refine Jo λj=>?_;rw[Ii,K8,HV,Je,Ii];rcases IU j n with c|c
  ·rw[J1 c];show some (eS _ j)=_;by_cases e:p=j
   ·subst e;rw[Ia rfl,Ia g,pC (t:=(p,z)) nd (by simp)]
   ·rw[Ib e];show some _=some _;rw[AO (List.perm_append_singleton (p,z) ts) nd];unfold eS;rw[Kg (by simpa using e)]
  ·rw[IX (by rw[Je];exact c),Ib (by omega)];rfl
inductive y__law_sum(as:List Sm)(R:Sm->List Om->Prop)(Rx:XD->List Om->Prop):Prop|mk (a:Option Addr) (o:Om) (ns:List Str) (m:Nat) (_:as=[.ob a o,.v (.tup (ns.map D.str))]) (_:Pl m o) (_:m+100<2^20) (_:fG ns) (_:∀(ts:List Pn)(o':Om),PnOk ns.length ts->Pl (m+30) o'->R (.v (.tup [.str (b7 (bH ns ts)),.tup ((cW ns.length ts).map D.int)])) [o'])
noncomputable def kQ(p:Nat):D:=.int (p:Nat)
def wY{a c:Type}(f:a->c)(xs:List a)(j:Nat):(xs.map f).eraseIdx j=(xs.eraseIdx j).map f:=by rw[JC,JC,IJ,L0,MN]
def C9{c:Type}{a:List c}{j:Nat}{p:c}(h:a[j]?=some p):List.Perm a (p::a.eraseIdx j):=by
 rw[JC]
 have e:a=a.take j++p::a.drop (j+1):=by have g:=ba h;rw[IB g]at h;cases h;rw[List.getElem_cons_drop,List.take_append_drop]
 exact (List.Perm.of_eq e).trans List.perm_middle
def D6(n:Nat):fk 0 n=(List.range n).map kQ:=by
 refine Jo λi=>?_;rw[Ii];rcases IU i n with c|c
 ·obtain⟨d,hd⟩:∃d,(fk 0 n)[i]?=some d:=⟨_,IB (by rw[gC];exact c)⟩;obtain⟨_,rfl⟩:=jq hd;rw[hd,J1 c,MP];rfl
 ·rw[IX (by rw[gC];exact c),IX (by rw[Je];exact c)];rfl
noncomputable abbrev SM(c:Addr)(o:Om)(ns:List Str)(a:List Nat)(ts:List Pn)(e g:Option Sm):ak:=[some (.ob (some c) o),some (.v (.tup (ns.map D.str))),some (.own (a.map kQ)),some (.own ((cW ns.length ts).map D.int)),some (.own ((ts.map (ja ns)).map D.str)),e,g]
structure FrOk(n i:Nat)(fr:List Nat)(ts:List Pn):Prop where
 nd:fr.Nodup
 lt:∀p∈fr,p<n
 no:∀p∈fr,p∉ts.map (·.1)
 fl:fr.length+i=n
def xn(F:Fun K "_law_sum" "_law_sum" jD f fd)(Y:ClM P w K mg base n "_law_next" ["_law_pool_here","_law_size"] y__law_next)(M3:ClM P w K mg base n "_law_number" ["_law_pool_here"] y__law_number)(qU:mg "list"=none)(eO:mg "range"=none)(J:mg "len"=none)(bO:mg "tuple"=none)(cn:mg "str"=none):FnOk P w K mg base bf (n+1) f fd ["_law_pool_here","_law_names_here"] (bu K y__law_sum):=by
 refine F.okM sc__law_sum (λas R Rx h=>?_) (λMZ A outer s H E as R Rx qs MY M h M1=>?_)
 ·obtain⟨a,o,ns,m,rfl,_⟩:=h;rfl
 obtain⟨a,o,ns,m,rfl,hp,hm,U,q⟩:=h;obtain⟨pa,rfl⟩:=dN M1
 refine⟨_,(ap (ar (i:=2) sc__law_sum.nd rfl VZ (ft (wN rfl rfl qU rfl eO (af (bE bG rfl J Iv (be (ad 1) bd aa) aa ag) ao bP))))
   (ap (qR (i:=3) (k:=1) (N':=["_law_name"]) (cap:=[none]) rfl sc__law_sum.nd rfl VZ (.ok (show dB ["_law_pool_here","_law_names_here","_law_free","_law_entries","_law_terms_here","_law_k","_law_at"] (ay jD) _ ["_law_name"] [none]=true by lia)) (by lia) (dH (by decide)) (fu (dv 1)) (λ_ _ _ _ _=>(dI (i:=0) (show List.Nodup (["_law_name"]:List Str)by lia) rfl VZ)) (λ_ _ _ _ _=>ah))
   (ap (ar (i:=4) sc__law_sum.nd rfl VZ (ft (fJ ao)))
   (ap (g6 JZ rfl (tZ rfl eO (aN (bp Y M rfl (bn 0 (aN (ae (aH bh (PD.q (bE bG rfl J Iv (be (ad 1) bd aa) aa ag)) (PD.q ah))) bc bB) aa) aa (aF bB ag)) bc bP)) (bq (i:=5) sc__law_sum.nd rfl VZ) (ap (ar (i:=6) sc__law_sum.nd rfl VZ (Ad 2 (bp Y M rfl (bn 0 (aN (ae (bE bG rfl J Iv (be (ad 2) bd aa) aa ag)) bc bP) aa) aa (aF bP ag)) (bX bP) bP))
   (ap (ld 3 (bp M3 M rfl (bn 0 bc aa) aa ag) (ae (dv 6)))
   (ai (dY 4 (ae (aH bh (PD.q (aH bh (PD.q (cL gv rfl cn Jt (be (PD.q (cu (ad 3) (ad 6) (λ_ _=>rfl))) bd ax) ax ag)) (PD.q az))) (PD.q (cu (ad 1) (ad 6) (λ_ _=>rfl))))) (bX bB) bB)))))
   (aL (aJ (aR (aw (bi M.units) (PD.q (bE bG rfl J Iv (be (ad 4) bd aa) aa ag)) (PD.q ah) (au _))) (ai (dY 4 (ae az) (bX am) am)) aK)
   (iP 4 (ai (aC (ae (aM (af (jP (PD.q az) (dv 4) (bX aa) aa) (af (cL fN rfl bO Jq (be (ad 3) bd aa) aa ag) ao bP) bP))))))))))),?_⟩
 intro ke;have n8:=U.2.1;rfl';refine⟨⟨by rw[HV];omega,by rw[HV];omega⟩,?_⟩;rfl';rw[HV,JL,D6];refine gm (f:=D.str) (λ_=>D.int 0) (cy (by omega)) (λx hx=>rfl) ?_
 have e0:(ns.map λ_=>D.int 0)=(cW ns.length []).map D.int:=by
  refine Jo λi=>?_;rw[Ii,Ii,Ii];rcases IU i ns.length with c|c
  ·rw[IB c,J1 c];rfl
  ·rw[IX c,IX (by rw[Je];exact c)];rfl
 rw[e0];rfl';refine⟨⟨_,_,rfl⟩,_,rfl,rfl,_,_,_,_,rfl,hp,by omega,by omega,cG (by rw[HV];omega),λX N a0 a1 G=>?_⟩;rfl';obtain⟨c,rfl⟩:=Jr a0;rw[HV]at a1;refine⟨⟨by omega,by omega⟩,λi ρ=>∃(g:List Nat)(ts:List Pn)(o':Om)(Q S:Option Sm),ρ=SM pa o' ns g ts Q S/\PnOk ns.length ts/\FrOk ns.length i g ts/\Pl (m+1+3*i) o',⟨List.range ns.length,[],N,_,_,rfl,⟨LK,λt h=>by cases h⟩,⟨List.nodup_range,λp h=>JO.mp h,λp _ h=>(by cases h),by rw[Je];rfl⟩,G⟩,?_,?_⟩
 ·rintro i d ρ hd ⟨g,ts,o2,Q,S,rfl,y,u,Nx⟩;obtain⟨hi,rfl⟩:=jq hd;rw[JL]at hi;have RS:=u.fl;rfl';refine⟨⟨_,_,rfl⟩,_,rfl,rfl,_,_,_,_,rfl,Nx,by omega,by rw[HV];omega,cG (by rw[HV];omega),λx2 o3 b0 b1 OP=>?_⟩;rfl';obtain⟨j,rfl⟩:=Jr b0;rw[HV]at b1
  have hj:j<g.length:=by omega
  obtain⟨p,T⟩:∃p,g[j]?=some p:=⟨_,IB hj⟩;have C:=IA T;have I:=u.lt p C;refine⟨j,kQ p,rfl,by omega,by rw[Ii,T];rfl,(g.eraseIdx j).map kQ,wY ..,?_⟩;rfl';refine⟨⟨_,_,rfl⟩,_,rfl,rfl,_,_,_,rfl,OP,by omega,λz o4 l U5=>?_⟩;rfl'
  have el:((cW ns.length ts).map D.int).length=ns.length:=by rw[HV,HV,Je]
  obtain⟨k1,k2⟩:=AY y l I (u.no p C);refine⟨p,by rw[el];exact rL I,(cW ns.length (ts++[(p,z)])).map D.int,by rw[k2,List.map_set],?_⟩;rfl';have X:=kL I;have x6:=fm (U.2.2 _ (IA X));have a6:=cK l
  have Z:(" ":Str).length<=1:=by decide
  have tl:=y.len;have h3:bK ((cW ns.length (ts++[(p,z)])).map D.int) ((p:Nat):Int)=some (.int z):=gu (i:=p) (by rw[k2,IP (by rw[HV,Je];exact I)]) rfl;refine⟨_,h3,_,rfl,big l,cr a6 Z,_,gu (i:=p) X rfl,cr (cz a6 Z) x6,by rw[HV,HV];exact cy (by omega),((ts++[(p,z)]).map (ja ns)).map D.str,?_,?_⟩
  ·rw[IJ,IJ]
   have e:(nstr z++" ")++ns.getD p ""=ja ns (p,z):=by unfold ja cB;rw[Jg]
   rw[e];rfl
  have O:=C9 T;have nd:=IS.mp (O.nodup_iff.mp u.nd);refine⟨g.eraseIdx j,ts++[(p,z)],o4,_,_,rfl,k1,⟨nd.2,λr h=>u.lt r (O.mem_iff.mpr (Ic _ h)),λr h v=>?_,?_⟩,U5⟩
  ·rw[IJ]at v;rcases II.mp v with v|v
   ·exact u.no r (O.mem_iff.mpr (Ic _ h)) v
   ·rw[Ip.mp v]at h;exact nd.1 h
  ·have:=O.length_eq;rw[Ij]at this;omega
 rintro ρ ⟨g,ts,N,Q,S,rfl,y,u,G⟩;rw[gC,JL]at G;have tl:=y.len;obtain⟨k1,k2,k3⟩:=nh U y;refine⟨λρ=>∃B:List Str,ρ=[some (.ob (some pa) N),some (.v (.tup (ns.map D.str))),some (.own (g.map kQ)),some (.own ((cW ns.length ts).map D.int)),some (.own (B.map D.str)),Q,S]/\B.length<=8/\(∀z∈B,z.length<=18)/\Txt.join " + " B=b7 (bH ns ts),⟨λh=>?_,λh=>?_⟩,?_⟩
 ·have h:=dc h;rw[HV,HV]at h;have e:ts=[]:=Jx.mp (by omega);subst e;exact⟨cy (J4 _),[D.str "0"],rfl,["0"],rfl,by decide,by decide,rfl⟩
 ·have Nv:ts≠[]:=λz=>by rw[z]at h;exact tf h
  have U6:bH ns ts≠[]:=λz=>Nv (List.map_eq_nil_iff.mp z);refine⟨ts.map (ja ns),rfl,by rw[HV];omega,λz l=>?_,?_⟩
  ·rw[←tM]at l;obtain⟨t,h,rfl⟩:=IM.mp l;have h1:=cK (k1 t h).1;have v:=fm (k1 t h).2
   have c:(" ":Str).length=1:=by decide
   unfold cB;rw[fE,fE,c];omega
  ·rw[←tM];exact (J0 _ _).trans (kA U6)
 rintro ρ ⟨B,rfl,z8,U7,l⟩;refine⟨_,rfl,B,rfl,jO 18 U7 ?_,?_⟩
 ·have c:(" + ":Str).length=3:=by decide
  rw[c];omega
 rw[l];exact⟨_,rfl,q ts N y (G.mono (by omega))⟩
open Tx
noncomputable def aV(s:Dk):D:=.tup [.tup (s.ns.map D.str),.tup (s.bs.map dl),.tup (s.rs.map bJ),.tup (s.gl.map D.int),.int s.sn]
noncomputable def pU(s:Dk)(a:List Dk):Say->Dk
 |.word _=>a.getLast?.getD s
 |w=>kP s w
noncomputable def cF(s:Dk)(a:List Dk)(w:Say):Dk:=if bt s a w=0 then pU s a w else s
noncomputable def cY(s:Dk)(a:List Dk)(x:Str)(w:Say):D:=.tup [.str x,.int (bt s a w),aV (cF s a w)]
structure SOk(s:Dk):Prop where
 pl:PlOk s.ns s.bs s.rs s.gl
 sn:s.sn=1\/s.sn = -1
noncomputable def Ej:Say->Prop
 |.frm f=>eJ f
 |_=>True
structure Ln(s:Dk)(x:Str)(w:Say):Prop where
 ac:dm x
 len:x.length<=900
 say:dX s.ns.length x=some w
 num:Ej w
 ok:fD s w\/w=.word "back"
def zh{f:Frm}(h:eJ f):Txt.split (aW f) " "=bY f:=by
 unfold aW;refine qa (c:=32) ?_ ?_
 ·cases f with
  |unk x l m=>cases m<;>simp[bY]
  |row ts b t=>simp[bY]
  |worth ts s=>simp[bY]
 ·intro w e a;have:=oB h w e 32 a;omega
def FR{n:Nat}{f:Frm}(h:eJ f):dX n (aW f)=some (.frm f):=by
 have o:=zh h;have a:=BQ h
 have e:aW f∉(["back","ask","fractions","write"]:List Str):=λj=>by
  have c:∀x∈(["back","ask","fractions","write"]:List Str),gU x=none:=by lia
  rw[c _ j]at a;cases a
 have g:aO (bY f) 0∉(["take","try"]:List Str):=by
  cases f with
  |unk x l m=>cases m<;>(show ("unknown":Str)∉_;decide)
  |row ts b t=>show ("row":Str)∉_;decide
  |worth ts s=>
   show (if s=1 then ("most":Str) else "least")∉_;split<;>decide
 unfold dX;rw[Ib e,o,Ib g,a];rfl
def Ln.frm{s:Dk}{f:Frm}(h:eJ f)(c:oV f)(e:nv s f):Ln s (aW f) (.frm f):=by have a:=ux h c;exact⟨Ec h a,a,FR h,h,.inl e⟩
def sC(n:Nat):dX n "back"=some (.word "back"):=by unfold dX;rw[Ia (by decide)]
def i6{s:Dk}{w:Say}(a:List Dk)(h:fD s w):bt s a w=bt s [] w/\cF s a w=cF s [] w:=by
 cases w with
 |word v=>exact h.elim
 |tri v=>exact h.elim
 |take k=>exact⟨rfl,rfl⟩
 |frm f=>exact⟨rfl,rfl⟩
inductive y__law_unknown(as:List Sm)(R:Sm->List Om->Prop)(Rx:XD->List Om->Prop):Prop|mk (a:Option Addr) (o:Om) (s:Dk) (x:Str) (m:Nat) (_:as=[.ob a o,.v (aV s),.v (.str x)]) (_:Pl m o) (_:m+100<2^20) (_:SOk s) (_:bD x=true) (_:∀(y:Str)(w:Say)(o':Om),Ln s y w->fD s w->Pl (m+60) o'->R (.v (cY s [] y w)) [o'])
noncomputable abbrev UN(e:Addr)(o:Om)(k:Dk)(x:Str)(l:Int)(c:Option Int)(y:Str)(a:Option Sm):ak:=[some (.ob (some e) o),some (.v (aV k)),some (.v (.str x)),some (.v (.tup (k.ns.map D.str))),some (.v (.tup (k.bs.map dl))),some (.v (.tup (k.rs.map bJ))),some (.v (.tup (k.gl.map D.int))),some (.v (.int k.sn)),some (.v (.int l)),some (.v (ir c)),some (.v (.str y)),a]
def Ew(F:Fun K "_law_unknown" "_law_unknown" kN f fd)(J:ClM P w K mg base n "_law_number" ["_law_pool_here"] y__law_number)(Z:ClM P w K mg base n "_law_next" ["_law_pool_here","_law_size"] y__law_next)(bO:mg "tuple"=none)(N:mg "str"=none)(aI:mg "len"=none):FnOk P w K mg base bf (n+1) f fd ["_law_pool_here","_law_state","_law_name"] (bu K y__law_unknown):=by
 refine F.okM sc__law_unknown (λas R Rx h=>?_) (λMZ A outer s H E as R Rx qs MY p h Y=>?_)
 ·obtain⟨a,o,k,x,m,rfl,_⟩:=h;rfl
 obtain⟨a,o,k,x,m,rfl,hp,hm,g,O,q⟩:=h;obtain⟨I,rfl⟩:=dN Y
 refine⟨_,(ap (fX (ae (dv 1)) (eD (n:=5) rfl (bz (bq (i:=3) sc__law_unknown.nd rfl VZ) (bz (bq (i:=4) sc__law_unknown.nd rfl VZ) (bz (bq (i:=5) sc__law_unknown.nd rfl VZ) (bz (bq (i:=6) sc__law_unknown.nd rfl VZ) (bz (bq (i:=7) sc__law_unknown.nd rfl VZ) eo)))))))
   (ap (ar (i:=8) sc__law_unknown.nd rfl VZ (bp J p rfl (bn 0 bc aa) aa ag))
   (ap (ar (i:=9) sc__law_unknown.nd rfl VZ (ae bA))
   (ap (ar (i:=10) sc__law_unknown.nd rfl VZ (ae (aH bh (PD.q (aH bh (PD.q (aH bh (PD.q az) (ad 2))) (PD.q az))) (PD.q (cL gv rfl N Jt (be (ad 8) bd aa) aa ag)))))
   (aL (aJ (mG (bi p.units) (bp Z p rfl (bn 0 (aN (ae ah) bc am) aa) aa (aF am ag)) (ae ah) (au _)) (ap (ar (i:=9) sc__law_unknown.nd rfl VZ (bp J p rfl (bn 0 bc aa) aa ag))
   (ai (ar (i:=10) sc__law_unknown.nd rfl VZ (ae (aH bh (PD.q (aH bh (ad 10) (PD.q az))) (PD.q (cL gv rfl N Jt (be (ad 9) bd aa) aa ag))))))) aK)
   (aL (aJ (aR (aw l0 (ad 2) (ad 3) (by with_unfolding_all rfl))) (ai (aC (ae (aM (af (dv 10) (af ah (af (dv 1) ao aa) am) aa))))) aK)
   (aL (aJ (aR (aw (bi p.units) (PD.q (bE bG rfl aI Iv (be (ad 3) bd aa) aa ag)) (PD.q ah) (au _))) (ai (aC (ae (aM (af (dv 10) (af ah (af (dv 1) ao aa) am) aa))))) aK)
   (ap (ar (i:=11) sc__law_unknown.nd rfl VZ (ae (cL fN rfl bO Jq (be (PD.q (PF.d (gq (k:=1) (N':=["_law_row"]) (cap:=[none]) rfl (.ok (show dB ["_law_pool_here","_law_state","_law_name","_law_names_here","_law_bounds","_law_rows","_law_goal","_law_sense","_law_least","_law_most","_law_line","_law_wider"] (ay kN) _ ["_law_row"] [none]=true by lia)) (by lia) (dH (by decide)) (fu (dv 5)) (λ_ _ _ _ _=>(dI (i:=0) (show List.Nodup (["_law_row"]:List Str)by lia) rfl VZ)) (λ_ _ _ _ _=>(aM (af (aH bh (PD.q (av (ad 0))) (PD.q (aM (af ah ao am)))) (af (av (ad 0)) ao ax) bB)))))) bd c8) c8 ag)))
   (ai (aC (ae (aM (af (dv 10) (af ah (af (aM (af (aH bh (ad 3) (PD.q (aM (af (dv 2) ao aa)))) (af (aH bh (ad 4) (PD.q (aM (af (aM (af (dv 8) (af (dv 9) ao aa) aa)) ao cC)))) (af (dv 11) (af (aH bh (ad 6) (PD.q (aM (af ah ao am)))) (af (dv 7) ao aa) bB) aa) bB) bB)) ao cC) am) aa))))))))))))),?_⟩
 intro ke;have n8:=g.pl.nm.2.1;have SI:=g.pl.bl;have Qw:=g.pl.rl;have hgn:=g.pl.gn;have z:=fm O
 have v:("unknown ":Str).length<=8:=by decide
 have B:(" from ":Str).length<=6:=by decide
 have M:(" to ":Str).length<=4:=by decide
 refine⟨rfl,?_⟩;rfl';refine⟨⟨_,_,rfl⟩,_,rfl,rfl,_,_,_,rfl,hp,by omega,λl o1 G Nw=>?_⟩;rfl';have Q:=cK G
 have U:(("unknown ":Str)++x++" from ")++nstr l=aW (.unk x l none):=by rw[←kS];simp only[Jg]
 have S:(aW (.unk x l none)).length<=100:=by rw[←U];exact IF (cz (cz (cz v z) B) Q) (by decide)
 refine⟨cr v z,cr (cz v z) B,_,rfl,big G,cr (cz (cz v z) B) Q,?_⟩;rfl';rw[U];refine⟨λρ=>∃(c:Option Int)(T:Om),ρ=UN I T k x l c (aW (.unk x l c)) none/\(∀j,c=some j->bx j)/\Pl (m+60) T,?_,?_⟩
 ·refine⟨⟨_,_,rfl⟩,_,rfl,rfl,_,_,2,_,rfl,Nw,by omega,by decide,cG (by decide),λy t y0 y1 u=>?_⟩;rfl';refine⟨λ_=>?_,λ_=>⟨none,t,rfl,λj h=>(by cases h),u.mono (by omega)⟩⟩;refine⟨⟨_,_,rfl⟩,_,rfl,rfl,_,_,_,rfl,u,by omega,λj o3 C OP=>?_⟩;rfl';have j6:=cK C;refine⟨cr S M,_,rfl,big C,cr (cz S M) j6,some j,o3,?_,λj' h=>(by cases h;exact C),OP.mono (by omega)⟩;rw[←qH,←kS];simp only[Jg];rfl
 rintro ρ ⟨c,t,rfl,TQ,u⟩;have fo:eJ (.unk x l c):=⟨O,G,TQ⟩;have X:Ln k (aW (.unk x l c)) (.frm (.unk x l c)):=.frm fo trivial trivial;have q:=q _ (.frm (.unk x l c)) t X trivial u
 have eb:bt k [] (.frm (.unk x l c))=if x∈k.ns then 2 else if 8<=k.ns.length then 1 else 0:=rfl
 unfold cY cF at q;rw[eb]at q;refine⟨λρ=>x∉k.ns/\ρ=UN I t k x l c (aW (.unk x l c)) none,⟨.inr x,k.ns.map Sum.inr,rfl,by rw[←pW];rfl,?_⟩,?_⟩
 ·rw[jv,Kr];refine⟨λh=>?_,λh=>⟨IH h,rfl⟩⟩;rw[Ia (Ir h),Ib (by decide)]at q;exact⟨_,rfl,q⟩
 rintro ρ ⟨n1,rfl⟩;rw[Ib n1]at q;refine⟨λρ=>k.ns.length<8/\ρ=UN I t k x l c (aW (.unk x l c)) none,⟨λh=>?_,λh=>?_⟩,?_⟩
 ·have h:=dc h;rw[HV]at h;rw[Ia (by omega),Ib (by decide)]at q;exact⟨_,rfl,q⟩
 ·have h:=ko h;rw[HV]at h;exact⟨by omega,rfl⟩
 rintro ρ ⟨n2,rfl⟩;rw[Ib (by omega),Ia rfl]at q;refine gm (f:=bJ) (λr=>bJ (gZ r)) (cy (by omega)) (λr O2=>?_) ?_
 ·have:=(g.pl.ro r O2).1;exact⟨_,rfl,fA (by omega) _,_,fv D.int r.1 0,_,rfl,rfl⟩
 have e:(k.rs.map λr=>bJ (gZ r))=(k.rs.map gZ).map bJ:=by rw[JH];rfl
 rw[e];exact⟨fA (by omega) _,_,fv D.str k.ns x,fA (by omega) _,_,fv dl k.bs (l,c),fA (by omega) _,_,fv D.int k.gl 0,_,rfl,q⟩
open Tx
def rj{ns:List Str}{ts:List Pn}(a:fG ns)(e:PnOk ns.length ts):(b7 (bH ns ts)).length<=400:=by
 obtain⟨k1,k2,k3⟩:=nh a e;have g:=nj (bH ns ts);have:=le (s:=" ") (ws:=aS (bH ns ts)) (B:=12) (k9 k1)
 have c:(" ":Str).length=1:=by decide
 rw[c]at this;unfold b7;omega
noncomputable def nX(t:Bool):Str:=if t then " at most " else " at least "
def sI(ts:List Tm)(b:Int)(t:Bool):((("row ":Str)++b7 ts)++nX t)++nstr b=aW (.row ts b t):=by
 cases t
 ·rw[←uk];simp only[Jg];rfl
 ·rw[←Bc];simp only[Jg];rfl
inductive y__law_rowed(as:List Sm)(R:Sm->List Om->Prop)(Rx:XD->List Om->Prop):Prop|mk (a:Option Addr) (o:Om) (s:Dk) (t:Bool) (m:Nat) (_:as=[.ob a o,.v (aV s),.v (.int (if t then 1 else 0))]) (_:Pl m o) (_:m+200<2^20) (_:SOk s) (_:∀(y:Str)(w:Say)(o':Om),Ln s y w->fD s w->Pl (m+60) o'->R (.v (cY s [] y w)) [o'])
def Eo(F:Fun K "_law_rowed" "_law_rowed" jB f fd)(C:ClM P w K mg base n "_law_sum" ["_law_pool_here","_law_names_here"] y__law_sum)(B:ClM P w K mg base n "_law_number" ["_law_pool_here"] y__law_number)(S:mg "str"=none)(N:mg "len"=none)(Q:mg "tuple"=none):FnOk P w K mg base bf (n+1) f fd ["_law_pool_here","_law_state","_law_way"] (bu K y__law_rowed):=by
 refine F.okM sc__law_rowed (λas R M h=>?_) (λMZ A outer s H E as R M qs Z g h z=>?_)
 ·obtain⟨a,o,k,t,m,rfl,_⟩:=h;rfl
 obtain⟨a,o,k,t,m,rfl,Y,hm,c,q⟩:=h;obtain⟨v,rfl⟩:=dN z
 refine⟨_,(ap (fX (ae (dv 1)) (eD (n:=5) rfl (bz (bq (i:=3) sc__law_rowed.nd rfl VZ) (bz (bq (i:=4) sc__law_rowed.nd rfl VZ) (bz (bq (i:=5) sc__law_rowed.nd rfl VZ) (bz (bq (i:=6) sc__law_rowed.nd rfl VZ) (bz (bq (i:=7) sc__law_rowed.nd rfl VZ) eo)))))))
   (ap (fX (bp C g rfl (bn 0 (aN (ae (dv 3)) bc aa) aa) aa (aF aa ag)) (eD (n:=2) rfl (bz (bq (i:=8) sc__law_rowed.nd rfl VZ) (bz (bq (i:=9) sc__law_rowed.nd rfl VZ) eo))))
   (ap (ar (i:=10) sc__law_rowed.nd rfl VZ (bp B g rfl (bn 0 bc aa) aa ag))
   (ap (ar (i:=11) sc__law_rowed.nd rfl VZ (ae (aH bh (PD.q (aH bh (PD.q (aH bh (PD.q az) (ad 8))) (PD.q (cu (PD.q (aM (af az (af az ao am) am))) (ad 2) (λ_ _=>rfl))))) (PD.q (cL gv rfl S Jt (be (ad 10) bd aa) aa ag)))))
   (aL (aJ (aR (aw (bi g.units) (PD.q (bE bG rfl N Iv (be (ad 5) bd aa) aa ag)) (PD.q ah) (au _))) (ai (aC (ae (aM (af (dv 11) (af ah (af (dv 1) ao aa) am) aa))))) aK)
   (ap (ar (i:=12) sc__law_rowed.nd rfl VZ (ae (aM (af (dv 9) (af (dv 10) ao aa) aa))))
   (aL (aJ (aR (aw (bi g.units) (ad 2) (PD.q ah) (au _))) (ai (ar (i:=12) sc__law_rowed.nd rfl VZ (ae (aM (af (cL fN rfl Q Jq (be (PD.q (PF.d (gq (k:=1) (N':=["_law_entry"]) (cap:=[none]) rfl (.ok (show dB ["_law_pool_here","_law_state","_law_way","_law_names_here","_law_bounds","_law_rows","_law_goal","_law_sense","_law_text_here","_law_entries","_law_bound","_law_line","_law_row"] (ay jB) _ ["_law_entry"] [none]=true by lia)) (by lia) (dH (by decide)) (fu (dv 9)) (λ_ _ _ _ _=>(dI (i:=0) (show List.Nodup (["_law_entry"]:List Str)by lia) rfl VZ)) (λ_ _ _ _ _=>(dQ (ad 0)))))) bd c8) c8 ag) (af (dQ (ad 10)) ao pG) bP))))) aK)
   (ai (aC (ae (aM (af (dv 11) (af ah (af (aM (af (dv 3) (af (dv 4) (af (aH bh (ad 5) (PD.q (aM (af (dv 12) ao aa)))) (af (dv 6) (af (dv 7) ao aa) aa) bB) aa) aa)) ao cC) am) aa)))))))))))),?_⟩
 intro ke;have n8:=c.pl.nm.2.1;have Qw:=c.pl.rl;refine⟨rfl,?_⟩;rfl';refine⟨⟨_,_,rfl⟩,_,rfl,rfl,_,_,k.ns,m,rfl,Y,by omega,c.pl.nm,λts o1 l I=>?_⟩;refine⟨rfl,?_⟩;rfl';refine⟨⟨_,_,rfl⟩,_,rfl,rfl,_,_,_,rfl,I,by omega,λb j r J=>?_⟩;rfl';obtain⟨k1,k2,k3⟩:=nh c.pl.nm l;have T:bF k.ns (bH k.ns ts)=cW k.ns.length ts:=uh c.pl.nm.1 λt e=>(l.2 t e).1;have sl:=rj c.pl.nm l
 have p:("row ":Str).length<=4:=by decide
 have u:(nX t).length<=10:=by cases t<;>decide
 have O:=cK r
 have G:bK [D.str " at least ",.str " at most "] (if t then 1 else 0)=some (.str (nX t)):=by cases t<;>rfl
 refine⟨cr p sl,_,G,cr (cz p sl) u,_,rfl,big r,cr (cz (cz p sl) u) O,?_⟩;rfl';rw[sI];have y:Ln k (aW (.row (bH k.ns ts) b t)) (.frm (.row (bH k.ns ts) b t)):=.frm ⟨k1,r⟩ k3 ⟨k2,by omega⟩;have q:=q _ (.frm (.row (bH k.ns ts) b t)) j y ⟨k2,by omega⟩ (J.mono (by omega))
 have U:bt k [] (.frm (.row (bH k.ns ts) b t))=if 12<=k.rs.length then 1 else 0:=rfl
 unfold cY cF at q;rw[U]at q;refine⟨λρ=>k.rs.length<12/\ρ=[some (.ob (some v) j),some (.v (aV k)),some (.v (.int (if t then 1 else 0))),some (.v (.tup (k.ns.map D.str))),some (.v (.tup (k.bs.map dl))),some (.v (.tup (k.rs.map bJ))),some (.v (.tup (k.gl.map D.int))),some (.v (.int k.sn)),some (.v (.str (b7 (bH k.ns ts)))),some (.v (.tup ((cW k.ns.length ts).map D.int))),some (.v (.int b)),some (.v (.str (aW (.row (bH k.ns ts) b t)))),none],⟨λh=>?_,λh=>?_⟩,?_⟩
 ·have h:=dc h;rw[HV]at h;rw[Ia (by omega),Ib (by decide)]at q;exact⟨_,rfl,q⟩
 ·have h:=ko h;rw[HV]at h;exact⟨by omega,rfl⟩
 rintro ρ ⟨n2,rfl⟩;rw[Ib (by omega),Ia rfl]at q;have q:R (.v (.tup [.str (aW (.row (bH k.ns ts) b t)),.int 0,.tup [.tup (k.ns.map D.str),.tup (k.bs.map dl),.tup ((k.rs++[if t then jy (bF k.ns (bH k.ns ts),b) else (bF k.ns (bH k.ns ts),b)]).map bJ),.tup (k.gl.map D.int),.int k.sn]])) [j]:=q;rw[T]at q
 have X:(cW k.ns.length ts).length<=1000:=by rw[HV,Je];omega
 refine⟨λρ=>ρ=[some (.ob (some v) j),some (.v (aV k)),some (.v (.int (if t then 1 else 0))),some (.v (.tup (k.ns.map D.str))),some (.v (.tup (k.bs.map dl))),some (.v (.tup (k.rs.map bJ))),some (.v (.tup (k.gl.map D.int))),some (.v (.int k.sn)),some (.v (.str (b7 (bH k.ns ts)))),some (.v (.tup ((cW k.ns.length ts).map D.int))),some (.v (.int b)),some (.v (.str (aW (.row (bH k.ns ts) b t)))),some (.v (bJ (if t then jy (cW k.ns.length ts,b) else (cW k.ns.length ts,b))))],⟨λh=>?_,λh=>?_⟩,?_⟩
 ·have e:t=true:=by cases t;exact ff h;rfl
  subst e;refine lj (f:=D.int) (λx=>-x) (cy X) (λx _=>rfl) ?_;rfl
 ·have e:t=false:=by cases t;rfl;exact tf h
  subst e;rfl
 rintro ρ rfl;exact⟨fA (by omega) _,_,fv bJ k.rs _,_,rfl,q⟩
inductive y__law_sought(as:List Sm)(R:Sm->List Om->Prop)(Rx:XD->List Om->Prop):Prop|mk (a:Option Addr) (o:Om) (s:Dk) (m:Nat) (_:as=[.ob a o,.v (aV s)]) (_:Pl m o) (_:m+200<2^20) (_:SOk s) (_:∀(y:Str)(w:Say)(o':Om),Ln s y w->fD s w->Pl (m+60) o'->R (.v (cY s [] y w)) [o'])
noncomputable def sg(t:Bool):Int:=if t then -1 else 1
def FE(F:Fun K "_law_sought" "_law_sought" kR f fd)(y:ClM P w K mg base n "_law_next" ["_law_pool_here","_law_size"] y__law_next)(z:ClM P w K mg base n "_law_sum" ["_law_pool_here","_law_names_here"] y__law_sum)(I:mg "tuple"=none):FnOk P w K mg base bf (n+1) f fd ["_law_pool_here","_law_state"] (bu K y__law_sought):=by
 refine F.okM sc__law_sought (λas R G h=>?_) (λX A outer s H E as R G qs U r h v=>?_)
 ·obtain⟨a,o,k,m,rfl,_⟩:=h;rfl
 obtain⟨a,o,k,m,rfl,S,Y,c,q⟩:=h;obtain⟨pa,rfl⟩:=dN v
 refine⟨_,(ap (fX (ae (dv 1)) (eD (n:=5) rfl (bz (bq (i:=2) sc__law_sought.nd rfl VZ) (bz (bq (i:=3) sc__law_sought.nd rfl VZ) (bz (bq (i:=4) sc__law_sought.nd rfl VZ) (bz (bq (i:=5) sc__law_sought.nd rfl VZ) (bz (bq (i:=6) sc__law_sought.nd rfl VZ) eo)))))))
   (ap (ar (i:=7) sc__law_sought.nd rfl VZ (bp y r rfl (bn 0 (aN (ae ah) bc am) aa) aa (aF am ag)))
   (ap (fX (bp z r rfl (bn 0 (aN (ae (dv 2)) bc aa) aa) aa (aF aa ag)) (eD (n:=2) rfl (bz (bq (i:=8) sc__law_sought.nd rfl VZ) (bz (bq (i:=9) sc__law_sought.nd rfl VZ) eo))))
   (ap (ar (i:=10) sc__law_sought.nd rfl (Or.inr rfl) (ae (cu (PD.q (aM (af ah (af (dQ (PD.q ah)) ao pG) am))) (ad 7) (λ_ _=>rfl))))
   (ap (ar (i:=5) sc__law_sought.nd rfl VZ (ae (cL fN rfl I Jq (be (PD.q (PF.d (gq (k:=1) (N':=["_law_entry","_law_turns"]) (cap:=[none,some 10]) rfl (.ok (show dB ["_law_pool_here","_law_state","_law_names_here","_law_bounds","_law_rows","_law_goal","_law_sense","_law_way","_law_text_here","_law_entries","_law_turns"] (ay kR) _ ["_law_entry","_law_turns"] [none,some 10]=true by lia)) (by lia) (dH (by decide)) (fu (dv 9)) (λ_ _ _ _ _=>(dI (i:=0) (show List.Nodup (["_law_entry","_law_turns"]:List Str)by lia) rfl VZ)) (λ_ _ _ _ _=>(aH ge (ad 1) (ad 0)))))) bd c8) c8 ag)))
   (ai (aC (ae (aM (af (aH bh (PD.q (cu (PD.q (aM (af az (af az ao am) am))) (ad 7) (λ_ _=>rfl))) (ad 8)) (af ah (af (aM (af (dv 2) (af (dv 3) (af (dv 4) (af (dv 5) (af (dv 10) ao aa) aa) aa) aa) aa)) ao cC) am) bB)))))))))),?_⟩
 intro Z;have n8:=c.pl.nm.2.1;refine⟨rfl,?_⟩;rfl';refine⟨⟨_,_,rfl⟩,_,rfl,rfl,_,_,2,m,rfl,S,by omega,by decide,cG (by decide),λx o1 x0 x1 B=>?_⟩;rfl';refine⟨⟨_,_,rfl⟩,_,rfl,rfl,_,_,k.ns,_,rfl,B,by omega,c.pl.nm,λts u j C=>?_⟩;refine⟨rfl,?_⟩;rfl';obtain⟨k1,k2,k3⟩:=nh c.pl.nm j;have J:bF k.ns (bH k.ns ts)=cW k.ns.length ts:=uh c.pl.nm.1 λt p=>(j.2 t p).1
 obtain⟨t,O,Q,p⟩:∃t:Bool,bK [D.int 1,.int (-1)] x=some (.int (sg t))/\bK [D.str "most ",.str "least "] x=some (.str (if t then "least " else "most "))/\(if t then ("least ":Str) else "most ")++b7 (bH k.ns ts)=aW (.worth (bH k.ns ts) (sg t)):=by
  obtain rfl|rfl:x=0\/x=1:=by omega
  ·exact⟨false,rfl,rfl,(iM _).1⟩
  ·exact⟨true,rfl,rfl,(iM _).2⟩
 have l:sg t=1\/sg t = -1:=by unfold sg;cases t<;>simp
 have M:(cW k.ns.length ts).length<=1000:=by rw[HV,Je];omega
 have sl:=rj c.pl.nm j
 have T:(if t then ("least ":Str) else "most ").length<=6:=by cases t<;>decide
 have N:(cW k.ns.length ts).map (λe=>sg t*e)=cX (sg t) (cW k.ns.length ts):=by
  cases t
  ·show List.map (λe:Int=>1*e) _=_;rw[Kc (g:=id) λe _=>Int.one_mul e,List.map_id];rfl
  ·show List.map (λe:Int=>-1*e) _=List.map (λx=>-x) _;exact Kc λe _=>Int.neg_one_mul e
 have q:=q _ (.frm (.worth (bH k.ns ts) (sg t))) u (.frm ⟨k1,l⟩ k3 ⟨k2,by omega⟩) ⟨k2,by omega⟩ (C.mono (by omega));have q:R (.v (.tup [.str (aW (.worth (bH k.ns ts) (sg t))),.int 0,.tup [.tup (k.ns.map D.str),.tup (k.bs.map dl),.tup (k.rs.map bJ),.tup ((cX (sg t) (bF k.ns (bH k.ns ts))).map D.int),.int (sg t)]])) [u]:=q;rw[J]at q;refine⟨_,O,?_⟩;rfl';refine lj (f:=D.int) (λe=>sg t*e) (cy M) (λe _=>⟨lc (by omega) (by omega),rfl⟩) ?_;rw[N];rfl';refine⟨_,Q,cr T sl,?_⟩;rw[p];exact⟨_,rfl,q⟩
def yE{n:Nat}{k:Int}(h:bx k):dX n ("take "++nstr k)=some (.take k)/\dm ("take "++nstr k)/\("take "++nstr k).length<=900:=by
 have e:("take ":Str)++nstr k=Str.join " " [("take":Str),nstr k]:=by rw[cQ,show ("take ":Str)="take"++" " by decide];rfl
 have p:∀w∈[("take":Str),nstr k],iK w:=λw g=>by
  simp only[Ik,IQ,JJ]at g;rcases g with rfl|rfl
  ·exact mi (by decide)
  ·exact ig k
 have m:Txt.split ("take "++nstr k) " "=[("take":Str),nstr k]:=by
  rw[e];refine qa (c:=32) (by simp) λw g t=>?_;have:=p w g 32 t;omega
 have y:=cK h
 have c:("take ":Str).length<=5:=by decide
 have A:("take "++nstr k).length<=900:=IF (cz c y) (by decide);refine⟨?_,⟨?_,by omega⟩,A⟩
 ·have o:("take ":Str)++nstr k∉(["back","ask","fractions","write"]:List Str):=λu=>by
   have j:∀x∈(["back","ask","fractions","write"]:List Str),aO (Txt.split x " ") 0≠"take":=by lia
   exact j _ u (by rw[m];rfl)
  unfold dX;rw[Ib o,m,Ia (by show ("take":Str)∈_;decide)]
  have v:iJ [nstr k]=some [k]:=by
   unfold iJ;show (if none∈[bv (nstr k)] then none else some [(bv (nstr k)).getD 0])=_;rw[iA h,Ib (by simp)];rfl
  show (match iJ [nstr k]with|none=>none|some l=>if ("take":Str)="take" then (if l.length=1 then some (Say.take (l.getD 0 0)) else none) else _)=_;rw[v];rfl
 ·rw[←KN,IC];intro z a;rw[e]at a;rcases pQ a with a|⟨w,g,a⟩
  ·have r:L (" ":Str)=[32]:=by decide
   rw[r]at a;have:=Ip.mp a;exact Jc (by omega)
  ·have:=p w g z a;exact Jc (by omega)
inductive y__law_taken(as:List Sm)(R:Sm->List Om->Prop)(Rx:XD->List Om->Prop):Prop|mk (a:Option Addr) (o:Om) (s:Dk) (m:Nat) (_:as=[.ob a o,.v (aV s)]) (_:Pl m o) (_:m+200<2^20) (_:SOk s) (_:∀(y:Str)(w:Say)(o':Om),Ln s y w->fD s w->Pl (m+60) o'->R (.v (cY s [] y w)) [o'])
def Em(F:Fun K "_law_taken" "_law_taken" mh f fd)(t:ClM P w K mg base n "_law_next" ["_law_pool_here","_law_size"] y__law_next)(B:mg "str"=none)(g:mg "len"=none):FnOk P w K mg base bf (n+1) f fd ["_law_pool_here","_law_state"] (bu K y__law_taken):=by
 refine F.okM sc__law_taken (λas R v h=>?_) (λY A outer s H E as R v qs X M h r=>?_)
 ·obtain⟨a,o,k,m,rfl,_⟩:=h;rfl
 obtain⟨a,o,k,m,rfl,J,hm,I,q⟩:=h;obtain⟨O,rfl⟩:=dN r
 refine⟨_,(ap (fX (ae (dv 1)) (eD (n:=5) rfl (bz (bq (i:=2) sc__law_taken.nd rfl VZ) (bz (bq (i:=3) sc__law_taken.nd rfl VZ) (bz (bq (i:=4) sc__law_taken.nd rfl VZ) (bz (bq (i:=5) sc__law_taken.nd rfl VZ) (bz (bq (i:=6) sc__law_taken.nd rfl VZ) eo)))))))
   (ap (ar (i:=7) sc__law_taken.nd rfl VZ (jc eV (bp t M rfl (bn 0 (aN (ae (aH bh (PD.q (bE bG rfl g Iv (be (ad 4) bd aa) aa ag)) (PD.q ah))) bc bB) aa) aa (aF bB ag)) (ae ah)))
   (ap (ar (i:=8) sc__law_taken.nd rfl VZ (ae (aH bh (PD.q az) (PD.q (cL gv rfl B Jt (be (ad 7) bd aa) aa ag)))))
   (aL (aJ (aR (PWD.td (dM (aw fS (ad 7) (PD.q ah) (au _)) (eR (aw ki (ad 7) (PD.q (bE bG rfl g Iv (be (ad 4) bd aa) aa ag)) (au _)))))) (ai (aC (ae (aM (af (dv 8) (af ah (af (dv 1) ao aa) am) aa))))) aK)
   (ai (aC (ae (aM (af (dv 8) (af ah (af (aM (af (dv 2) (af (dv 3) (af (aH bh (PD.q (fF (ad 4) fM (eQ (ad 7)))) (PD.q (fF (ad 4) (eQ (PD.q (aH bh (ad 7) (PD.q ah)))) fM))) (af (dv 5) (af (dv 6) ao aa) aa) bB) aa) aa)) ao cC) am) aa))))))))),?_⟩
 intro ke;have Z:=I.pl.rl;refine⟨rfl,?_⟩;rfl';refine⟨⟨_,_,rfl⟩,_,rfl,rfl,_,_,_,m,rfl,J,by omega,by rw[HV];omega,cG (by rw[HV];omega),λx l x0 U u=>?_⟩;rfl';rw[HV]at U
 have e:bx (x-2):=by unfold bx;omega
 have p:=cK e
 have y:("take ":Str).length<=5:=by decide
 refine⟨_,rfl,big e,cr y p,?_⟩;rfl';generalize x-2=z at e p ⊢;obtain⟨Q,S,T⟩:=yE (n:=k.ns.length) e;have q:=q _ (.take z) l ⟨S,T,Q,trivial,.inl trivial⟩ trivial (u.mono (by omega))
 have C:bt k [] (.take z)=if z<0\/(k.rs.length:Int)<=z then 5 else 0:=rfl
 unfold cY cF at q;rw[C]at q;refine⟨λρ=>(0<=z/\z<(k.rs.length:Int))/\ρ=[some (.ob (some O) l),some (.v (aV k)),some (.v (.tup (k.ns.map D.str))),some (.v (.tup (k.bs.map dl))),some (.v (.tup (k.rs.map bJ))),some (.v (.tup (k.gl.map D.int))),some (.v (.int k.sn)),some (.v (.int z)),some (.v (.str ("take "++nstr z)))],?_,?_⟩
 ·refine⟨λh=>⟨λ_=>?_,λh=>tf h⟩,λh=>⟨λc=>?_,λc=>?_⟩⟩
  ·rw[Ia (.inl (Ir h)),Ib (by decide)]at q;exact⟨_,rfl,q⟩
  ·have c:=Ir c;rw[HV]at c;rw[Ia (.inr c),Ib (by decide)]at q;exact⟨_,rfl,q⟩
  ·have h:=IH h;have c:=IH c;rw[HV]at c;exact⟨⟨by omega,by omega⟩,rfl⟩
 rintro ρ ⟨⟨G,h1⟩,rfl⟩;rw[Ib (by omega),Ia rfl]at q;obtain⟨j,rfl⟩:=Jr G
 have N:(br (k.rs.map bJ) none (some (j:Int))).length+(br (k.rs.map bJ) (some ((j:Int)+1)) none).length<=sizeLine:=by
  have:=JD List.length (mJ (f:=bJ) (xs:=k.rs) (k:=j) (by omega));rw[HY]at this;rw[this,HV,LF];have:=Ju;split<;>omega
 exact⟨_,rfl,_,rfl,N,_,mJ (by omega),_,rfl,q⟩
open Tx
def Ln.back(s:Dk):Ln s "back" (.word "back"):=⟨⟨by lia,by decide⟩,by decide,sC _,trivial,.inr rfl⟩
inductive y__law_change(as:List Sm)(R:Sm->List Om->Prop)(Rx:XD->List Om->Prop):Prop|mk (a a2:Option Addr) (o:Om) (ws:List Str) (s:Dk) (hs:List Dk) (m:Nat) (_:as=[.ob a o,.v (.lst (ws.map D.str)),.v (aV s),.ob a2 (.lst (hs.map aV))]) (_:Pl m o) (_:m+300<2^20) (_:SOk s) (_:(∀x∈ws,bD x=true)) (_:ws.length=10) (_:∀(y:Str)(w:Say)(o':Om),Ln s y w->Pl (m+70) o'->R (.v (cY s hs y w)) [o',.lst (hs.map aV)])
noncomputable abbrev CG(c e:Addr)(o:Om)(ws:List Str)(k:Dk)(a:List Dk)(x:Int):ak:=[some (.ob (some c) o),some (.v (.lst (ws.map D.str))),some (.v (aV k)),some (.ob (some e) (.lst (a.map aV))),some (.v (.int x))]
def Bz(F:Fun K "_law_change" "_law_change" lY f fd)(Q:ClM P w K mg base n "_law_next" ["_law_pool_here","_law_size"] y__law_next)(U:ClM P w K mg base n "_law_unknown" ["_law_pool_here","_law_state","_law_name"] y__law_unknown)(Z:ClM P w K mg base n "_law_rowed" ["_law_pool_here","_law_state","_law_way"] y__law_rowed)(OQ:ClM P w K mg base n "_law_sought" ["_law_pool_here","_law_state"] y__law_sought)(O7:ClM P w K mg base n "_law_taken" ["_law_pool_here","_law_state"] y__law_taken)(O:mg "len"=none):FnOk P w K mg base bf (n+1) f fd ["_law_pool_here","_law_words","_law_state","_law_past"] (bu K y__law_change):=by
 refine F.okM sc__law_change (λas R N h=>?_) (λMZ A outer s H E as R N qs MY g h S=>?_)
 ·obtain⟨a,a2,o,ws,k,c,m,rfl,_⟩:=h;rfl
 obtain⟨a,a2,o,ws,k,c,m,rfl,hp,hm,J,hw,Qu,q⟩:=h;obtain⟨z,B,rfl⟩:=vU S
 refine⟨_,(ap (ar (i:=4) sc__law_change.nd rfl VZ (bp Q g rfl (bn 0 (aN (ae ah) bc am) aa) aa (aF am ag)))
   (aL (aJ (aR (aw (bi g.units) (ad 4) (PD.q ah) (au _))) (ai (aC (bp U g rfl (bn 0 (aN (ae (dv 2)) (aN (qK (ae (dv 1)) (bp Q g rfl (bn 0 (aN (ae (bE bG rfl O Iv (be (ad 1) bd aa) aa ag)) bc bP) aa) aa (aF bP ag)) (λ_ _=>rfl)) bc ax) aa) aa) aa (aF aa (aF ax ag))))) aK)
   (aL (aJ (aR (PWD.td (dM (aw (bi g.units) (ad 4) (PD.q ah) (au _)) (eR (aw (bi g.units) (ad 4) (PD.q ah) (au _)))))) (ai (aC (bp Z g rfl (bn 0 (aN (ae (dv 2)) (aN (ae (aH eV (ad 4) (PD.q ah))) bc bB) aa) aa) aa (aF aa (aF bB ag))))) aK)
   (aL (aJ (aR (aw (bi g.units) (ad 4) (PD.q ah) (au _))) (ai (aC (bp OQ g rfl (bn 0 (aN (ae (dv 2)) bc aa) aa) aa (aF aa ag)))) aK)
   (aL (aJ (aR (aw (bi g.units) (ad 4) (PD.q ah) (au _))) (ai (aC (bp O7 g rfl (bn 0 (aN (ae (dv 2)) bc aa) aa) aa (aF aa ag)))) aK)
   (aL (aJ (aR (aw (bi g.units) (PD.q (bE bG rfl O Iv (be (ad 3) bd aa) aa ag)) (PD.q ah) (au _))) (ai (aC (ae (aM (af az (af ah (af (dv 2) ao aa) am) am))))) aK)
   (ai (aC (ae (aM (af az (af ah (af (cu (ad 3) (PD.q (aH eV (PD.q (bE bG rfl O Iv (be (ad 3) bd aa) aa ag)) (PD.q ah))) (λ_ _=>rfl)) ao ax) am) am))))))))))),?_⟩
 intro ke
 have I:∀(y:Str)(w:Say)(M:Om),Ln k y w->fD k w->Pl (m+70) M->R (.v (cY k [] y w)) [M,.lst (c.map aV)]:=λy w M r p h3=>by have:=q y w M r h3;unfold cY at this ⊢;rw[(i6 c p).1,(i6 c p).2]at this;exact this
 refine⟨⟨_,_,rfl⟩,_,rfl,rfl,_,_,7,m,rfl,hp,by omega,by decide,cG (by decide),λx l x0 x1 G=>?_⟩;rfl';refine⟨λρ=>ρ=CG z B l ws k c x,⟨λ_=>?_,λ_=>rfl⟩,?_⟩
 ·refine⟨⟨_,_,rfl⟩,⟨_,_,rfl⟩,_,rfl,rfl,_,_,_,_,rfl,G,by omega,by rw[HV];omega,cG (by rw[HV];omega),λj o2 j0 j1 Y=>?_⟩;obtain⟨j,rfl⟩:=Jr j0;rw[HV]at j1;have hj:ws[j]?=some ws[j]:=IB (by omega);refine⟨_,gu (i:=j) hj rfl,_,rfl,rfl,_,o2,k,ws[j],_,rfl,Y,by omega,J,hw _ (KI _),λy w v r p u=>?_⟩;exact⟨_,rfl,_,rfl,I y w v r p (u.mono (by omega))⟩
 rintro ρ rfl;refine⟨λρ=>ρ=CG z B l ws k c x,?_,?_⟩
 ·have go:∀t:Bool,x-1=(if t then 1 else 0)->(tj (pZ y__law_rowed λρ R N=>(∃a o,ρ[0]?=some (some (Sm.ob a o)))/\vO 0 (oq (xD (n5 2)) (oq (xD (gG (iE λi j=>D.int (i-j)) (jF 4) (dC (D.int 1)))) lg)) ρ R N)) { nx:=λρ=>True,rt:=λsm ρ=>eI (R sm) [Sm.ob a o,Sm.v (D.lst (List.map D.str ws)),Sm.v (aV k),Sm.ob a2 (Om.lst (List.map aV c))] [z,B] 0 ρ } (CG z B l ws k c x):=λt ht=>by refine⟨⟨_,_,rfl⟩,_,rfl,rfl,_,l,k,t,_,by rw[←ht],G,by omega,J,λy w v r p u=>?_⟩;exact⟨_,rfl,_,rfl,I y w v r p (u.mono (by omega))⟩
  refine⟨λh=>⟨λ_=>go false ?_,λh=>tf h⟩,λ_=>⟨λh=>go true ?_,λ_=>rfl⟩⟩
  ·have:=dc h;show x-1=0;omega
  ·have:=dc h;show x-1=1;omega
 rintro ρ rfl;refine⟨λρ=>ρ=CG z B l ws k c x,⟨λ_=>?_,λ_=>rfl⟩,?_⟩
 ·refine⟨⟨_,_,rfl⟩,_,rfl,rfl,_,l,k,_,rfl,G,by omega,J,λy w v r p u=>?_⟩;exact⟨_,rfl,_,rfl,I y w v r p (u.mono (by omega))⟩
 rintro ρ rfl;refine⟨λρ=>ρ=CG z B l ws k c x,⟨λ_=>?_,λ_=>rfl⟩,?_⟩
 ·refine⟨⟨_,_,rfl⟩,_,rfl,rfl,_,l,k,_,rfl,G,by omega,J,λy w v r p u=>?_⟩;exact⟨_,rfl,_,rfl,I y w v r p (u.mono (by omega))⟩
 rintro ρ rfl;have q:=q _ _ l (.back k) (G.mono (by omega))
 have eb:bt k c (.word "back")=if ("back":Str)="back"/\c=[] then 6 else 0:=rfl
 unfold cY cF at q;rw[eb]at q;refine⟨λρ=>c≠[]/\ρ=CG z B l ws k c x,⟨λh=>?_,λh=>⟨λe=>?_,rfl⟩⟩,?_⟩
 ·have h:=dc h;rw[HV]at h;have e:c=[]:=Jx.mp (by omega);rw[Ia ⟨rfl,e⟩,Ib (by decide)]at q;exact⟨_,rfl,_,rfl,q⟩
 ·subst e;exact tf h
 rintro ρ ⟨X,rfl⟩;rcases KD c with e|⟨C,t,e⟩
 ·exact absurd e X
 rw[KG]at e;subst e;rw[Ib (by simp),Ia rfl]at q;have q:R (.v (.tup [.str "back",.int 0,aV ((C++[t]).getLast?.getD k)])) [l,.lst ((C++[t]).map aV)]:=q;rw[LG]at q;have T:bK ((C++[t]).map aV) ((((C++[t]).map aV).length:Int)-1)=some (aV t):=gu (i:=C.length) (by rw[HX (Ih _),Jn];rfl) (by rw[HV,HY];show ((C.length+1:Nat):Int)-1=_;omega);exact⟨_,T,_,rfl,_,rfl,q⟩
inductive y__law_next_change(as:List Sm)(R:Sm->List Om->Prop)(Rx:XD->List Om->Prop):Prop|mk (a a2:Option Addr) (o:Om) (ws:List Str) (s:Dk) (hs:List Dk) (m i n r:Nat) (_:as=[.ob a o,.v (.lst (ws.map D.str)),.v (aV s),.ob a2 (.lst (hs.map aV)),.v (.int (i:Nat)),.v (.int (n:Nat)),.v (.int (r:Nat))]) (_:Pl m o) (_:m+400<2^20) (_:SOk s) (_:(∀x∈ws,bD x=true)) (_:ws.length=10) (_:n<=10) (_:∀(y:Str)(w:Say)(o':Om),Ln s y w->Pl (m+80) o'->R (.v (cY s hs y w)) [o',.lst (hs.map aV)])
noncomputable abbrev NC(c e:Addr)(o:Om)(ws:List Str)(k:Dk)(a:List Dk)(i n r:Nat):ak:=[some (.ob (some c) o),some (.v (.lst (ws.map D.str))),some (.v (aV k)),some (.ob (some e) (.lst (a.map aV))),some (.v (.int (i:Nat))),some (.v (.int (n:Nat))),some (.v (.int (r:Nat)))]
def GH(F:Fun K "_law_next_change" "_law_next_change" lz f fd)(S:ClM P w K mg base n "_law_change" ["_law_pool_here","_law_words","_law_state","_law_past"] y__law_change)(N:ClM P w K mg base n "_law_unknown" ["_law_pool_here","_law_state","_law_name"] y__law_unknown)(Q:ClM P w K mg base n "_law_rowed" ["_law_pool_here","_law_state","_law_way"] y__law_rowed)(M:ClM P w K mg base n "_law_next" ["_law_pool_here","_law_size"] y__law_next):FnOk P w K mg base bf (n+1) f fd ["_law_pool_here","_law_words","_law_state","_law_past","_law_k","_law_many","_law_rows"] (bu K y__law_next_change):=by
 refine F.okM y6 (λas R U h=>?_) (λMZ A outer s H E as R U qs MY u h J=>?_)
 ·obtain⟨a,a2,o,ws,k,e,m,i,n,r,rfl,_⟩:=h;rfl
 obtain⟨a,a2,o,ws,k,e,m,i,n,r,rfl,z,hm,x,C,T,hn,q⟩:=h;obtain⟨G,I,rfl⟩:=vU J
 refine⟨_,(aL (aJ (aR (aw fS (ad 4) (ad 5) (au _))) (ai (aC (bp N u rfl (bn 0 (aN (ae (dv 2)) (aN (ae (cu (ad 1) (ad 4) (λ_ _=>rfl))) bc ax) aa) aa) aa (aF aa (aF ax ag))))) aK)
   (aL (aJ (aR (aw fS (ad 4) (PD.q (aH bh (ad 5) (ad 6))) (au _))) (ai (aC (bp Q u rfl (bn 0 (aN (ae (dv 2)) (aN (bp M u rfl (bn 0 (aN (ae ah) bc am) aa) aa (aF am ag)) bc bP) aa) aa) aa (aF aa (aF bP ag))))) aK)
   (ai (aC (bp S u rfl (bn 0 (aN (ae (dv 1)) (aN (ae (dv 2)) (bn 3 bc aa) aa) aa) aa) aa (aF aa (aF aa (aF aa ag)))))))),?_⟩
 intro ke
 have B:∀(y:Str)(w:Say)(v:Om),Ln k y w->fD k w->Pl (m+80) v->R (.v (cY k [] y w)) [v,.lst (e.map aV)]:=λy w v c g X=>by have:=q y w v c X;unfold cY at this ⊢;rw[(i6 e g).1,(i6 e g).2]at this;exact this
 rfl';refine⟨λρ=>ρ=NC G I o ws k e i n r,⟨λh=>?_,λ_=>rfl⟩,?_⟩
 ·have h:=Ir h;have Y:ws[i]?=some ws[i]:=IB (by omega);refine⟨⟨_,_,rfl⟩,_,gu (i:=i) Y rfl,_,rfl,rfl,_,o,k,ws[i],_,rfl,z,by omega,x,C _ (KI _),λy w p c g l=>?_⟩;exact⟨_,rfl,_,rfl,B y w p c g (l.mono (by omega))⟩
 rintro ρ rfl;refine⟨λρ=>ρ=NC G I o ws k e i n r,⟨λh=>?_,λ_=>rfl⟩,?_⟩
 ·refine⟨⟨_,_,rfl⟩,⟨_,_,rfl⟩,_,rfl,rfl,_,_,2,_,rfl,z,by omega,by decide,cG (by decide),λj Z j0 j1 O=>?_⟩
  obtain⟨t,rfl⟩:∃t:Bool,j=if t then 1 else 0:=by
   obtain rfl|rfl:j=0\/j=1:=by omega
   ·exact⟨false,rfl⟩
   ·exact⟨true,rfl⟩
  refine⟨_,rfl,rfl,_,Z,k,t,_,rfl,O,by omega,x,λy w p c g l=>?_⟩;exact⟨_,rfl,_,rfl,B y w p c g (l.mono (by omega))⟩
 rintro ρ rfl;refine⟨⟨_,_,rfl⟩,⟨_,_,rfl⟩,_,rfl,rfl,_,_,o,ws,k,e,m,rfl,z,by omega,x,C,T,λy w p c l=>?_⟩;exact⟨_,rfl,_,rfl,q y w p c (l.mono (by omega))⟩
open Tx
def Ft{ns:List Str}{es:List Int}{x:Str}{e:Int}(h:es.length=ns.length):bC (ns++[x]) (es++[e])=bC ns es++(if e=0 then [] else [(e,x)]):=by
 unfold bC;rw[List.zip_append h,List.filter_append];by_cases c:e=0
 ·rw[Ia c,c];rfl
 ·rw[Ib c];show _++List.filter _ [(e,x)]=_;rw[Ms (by simpa using c)];rfl
def qS{t:Bool}{e:Int}:(bx e->bx (sg t*e))/\(sg t*e=0↔e=0):=by unfold sg bx;cases t<;>simp
inductive z__law_terms(ds:List D)(R:D->Prop):Prop|mk (ns:List Str) (es:List Int) (t:Bool) (_:ds=[.tup (ns.map D.str),.tup (es.map D.int),.int (sg t)]) (_:fG ns) (_:es.length=ns.length) (_:(∀e∈es,bx e)) (_:R (.str (b7 (bC ns (es.map λe=>sg t*e)))))
noncomputable abbrev TE(ns:List Str)(es:List Int)(t:Bool)(ts:List Tm)(a c:Option Sm):ak:=[some (.v (.tup (ns.map D.str))),some (.v (.tup (es.map D.int))),some (.v (.int (sg t))),some (.own ((ts.map cB).map D.str)),a,c]
def yq(F:Fun K "_law_terms" "_law_terms" l7 f fd)(Y:mg "zip"=none)(T:mg "len"=none)(U:mg "str"=none):FnOk P w K mg base bf (n+1) f fd ["_law_names_here","_law_entries","_law_turns"] (bu K (zM z__law_terms)):=by
 refine F.okM sc__law_terms (λas R Q h=>?_) (λMZ A outer s H E as R Q qs MY G h N=>?_)
 ·obtain⟨_,rfl,ns,es,t,rfl,_⟩:=h;rfl
 obtain⟨_,rfl,ns,es,t,rfl,r,hl,C,q⟩:=h;obtain rfl:=bZ N
 refine⟨_,(ap (ar (i:=3) sc__law_terms.nd rfl VZ (ft (fJ ao)))
   (ap (g6 JZ rfl (jk (lW rfl Y (af (dv 0) (af (dv 1) ao aa) aa))) (eD (n:=2) rfl (bz (bq (i:=4) sc__law_terms.nd rfl VZ) (bz (bq (i:=5) sc__law_terms.nd rfl VZ) eo))) (ai (aJ (aR (aw (eG G.units) (ad 5) (PD.q ah) (au _))) (ai (dY 3 (ae (aH bh (PD.q (aH bh (PD.q (cL gv rfl U Jt (be (PD.q (aH ge (ad 2) (ad 5))) bd bB) bB ag)) (PD.q az))) (ad 4))) (bX bB) bB)) aK)))
   (aL (aJ (aR (aw (bi G.units) (PD.q (bE bG rfl T Iv (be (ad 3) bd aa) aa ag)) (PD.q ah) (au _))) (ai (dY 3 (ae az) (bX am) am)) aK)
   (iP 3 (ai (aC (ae (jP (PD.q az) (dv 3) (bX aa) aa)))))))),?_⟩
 intro ke;have n8:=r.2.1
 have B:-(2^64)<sg t/\sg t<2^64:=by unfold sg;cases t<;>decide
 refine⟨_,_,rfl,rfl,?_⟩;refine⟨λi ρ=>∃(m o:Option Sm),ρ=TE ns es t (bC (ns.take i) ((es.map λe=>sg t*e).take i)) m o,⟨_,_,rfl⟩,?_,?_⟩
 ·rintro i d ρ hd ⟨m,o,rfl⟩;obtain⟨d1,d2,Z,h2,rfl⟩:=oX hd;obtain⟨x,rfl,j⟩:=gY Z;obtain⟨e,rfl,g⟩:=gY h2;have hi:=ba j;have X:=C e (IA g);have x6:=fm (r.2.2 x (IA j))
  have hm:(es.map λe=>sg t*e)[i]?=some (sg t*e):=by rw[Ii,g];rfl
  have sn:=Ft (ns:=ns.take i) (es:=(es.map λe=>sg t*e).take i) (x:=x) (e:=sg t*e) (by rw[I0,I0,HV];omega);rw[←ji j,←ji hm]at sn
  have y:(" ":Str).length<=1:=by decide
  have I:=(qS (t:=t)).1 X;have J:=cK I;refine⟨rfl,λh=>?_,λh=>?_⟩
  ·have p:¬ sg t*e=0:=λz=>by have:=(qS (t:=t)).2.mp z;subst this;exact ff h
   rw[Ib p]at sn;refine⟨lc B.1 B.2,_,rfl,big I,cr J y,cr (cz J y) x6,?_,((bC (ns.take (i+1)) ((es.map λe=>sg t*e).take (i+1))).map cB).map D.str,?_,_,_,rfl⟩
   ·rw[HV,HV];have:=jg (ns.take i) ((es.map λe=>sg t*e).take i);rw[I0]at this;exact cy (by omega)
   ·rw[sn,IJ,IJ];show _++[_]=_++[D.str (nstr (sg t*e)++(" "++x))];rw[Jg]
  ·have p:e=0:=by have h:(!(e==0))=false:=h;simpa using h
   subst p;rw[Ia (Int.mul_zero _),IW]at sn;exact⟨some (.v (.str x)),some (.v (.int 0)),by rw[sn];rfl⟩
 rintro ρ ⟨m,o,rfl⟩;rw[nN,HV,HV,hl,Nat.min_self,Kf,JK (by rw[HV];omega)]
 have me:∀e∈es.map (λe=>sg t*e),bx e:=λe h=>by obtain⟨x,j,rfl⟩:=IM.mp h;exact (qS (t:=t)).1 (C x j)
 have M:=jg ns (es.map λe=>sg t*e);rw[HV]at M;have l:=pf r me;generalize bC ns (es.map λe=>sg t*e)=ts at q M l ⊢;refine⟨λρ=>∃a:List Str,ρ=[some (.v (.tup (ns.map D.str))),some (.v (.tup (es.map D.int))),some (.v (.int (sg t))),some (.own (a.map D.str)),m,o]/\a.length<=8/\(∀z∈a,z.length<=18)/\Txt.join " + " a=b7 ts,⟨λh=>?_,λh=>?_⟩,?_⟩
 ·have h:=dc h;rw[HV,HV]at h;have e:ts=[]:=Jx.mp (by omega);subst e;exact⟨cy (J4 _),[D.str "0"],rfl,["0"],rfl,by decide,by decide,rfl⟩
 ·have O:ts≠[]:=λz=>by rw[z]at h;exact tf h
  refine⟨ts.map cB,rfl,by rw[HV];omega,λz v=>?_,(J0 _ _).trans (kA O)⟩;obtain⟨u,h,rfl⟩:=IM.mp v;exact l u h
 rintro ρ ⟨a,rfl,z8,S,v⟩;refine⟨_,rfl,a,rfl,jO 18 S ?_,?_⟩
 ·have c:(" + ":Str).length=3:=by decide
  rw[c];omega
 rw[v];exact q
noncomputable abbrev fC(ns:List Str)(bs:List cS):List Frm:=List.zipWith (λx (b:cS)=>Frm.unk x b.1 b.2) ns bs
def C7{ns:List Str}{bs:List cS}{x:Str}{b:cS}(h:ns.length=bs.length):fC (ns++[x]) (bs++[b])=fC ns bs++[Frm.unk x b.1 b.2]:=by unfold fC;rw[List.zipWith_append h];rfl
def pF(W:List Frm)(f:Frm){w:Str}(h:w=aW f):(W.map aW).map D.str++[D.str w]=((W++[f]).map aW).map D.str:=by rw[h,IJ,IJ];rfl
def vF(t:Bool)(es:List Int):(es.map λe=>sg t*e)=cX (sg t) es:=by
 cases t
 ·show List.map (λe:Int=>1*e) _=_;rw[Kc (g:=id) λe _=>Int.one_mul e,List.map_id];rfl
 ·show List.map (λe:Int=>-1*e) _=List.map (λx=>-x) _;exact Kc λe _=>Int.neg_one_mul e
noncomputable def jX(ns:List Str)(r:Rw):Frm:=.row (bC ns r.1) r.2 false
inductive z__law_text(ds:List D)(R:D->Prop):Prop|mk (s:Dk) (_:ds=[aV s]) (_:SOk s) (_:R (.str (Str.join "\n" ((cT s.ns s.bs s.rs s.gl s.sn).map aW))))
noncomputable abbrev TT(k:Dk)(fs:List Frm)(c e g a:Option Sm):ak:=[some (.v (aV k)),some (.v (.tup (k.ns.map D.str))),some (.v (.tup (k.bs.map dl))),some (.v (.tup (k.rs.map bJ))),some (.v (.tup (k.gl.map D.int))),some (.v (.int k.sn)),some (.own ((fs.map aW).map D.str)),c,e,g,a]
def DE(F:Fun K "_law_text" "_law_text" nH f fd)(wu:Cl P w K mg base n "_law_terms" ["_law_names_here","_law_entries","_law_turns"] z__law_terms)(fh:mg "zip"=none)(J:mg "str"=none)(gH:mg "int"=none):FnOk P w K mg base bf (n+1) f fd ["_law_state"] (bu K (zM z__law_text)):=by
 refine F.okM sc__law_text (λas R Rx h=>?_) (λMZ A outer s H E as R Rx qs MY N h M1=>?_)
 ·obtain⟨_,rfl,k,rfl,_⟩:=h;rfl
 obtain⟨_,rfl,k,rfl,a,q⟩:=h;obtain rfl:=bZ M1
 refine⟨_,(ap (fX (ae (dv 0)) (eD (n:=5) rfl (bz (bq (i:=1) sc__law_text.nd rfl VZ) (bz (bq (i:=2) sc__law_text.nd rfl VZ) (bz (bq (i:=3) sc__law_text.nd rfl VZ) (bz (bq (i:=4) sc__law_text.nd rfl VZ) (bz (bq (i:=5) sc__law_text.nd rfl VZ) eo)))))))
   (ap (ar (i:=6) sc__law_text.nd rfl VZ (ft (fJ ao)))
   (ap (g6 JZ rfl (jk (lW rfl fh (af (dv 1) (af (dv 2) ao aa) aa))) (eD (n:=2) rfl (bz (bq (i:=7) sc__law_text.nd rfl VZ) (bz (bq (i:=8) sc__law_text.nd rfl VZ) eo))) (ap (ar (i:=9) sc__law_text.nd rfl VZ (ae (aH bh (PD.q (aH bh (PD.q (aH bh (PD.q az) (ad 7))) (PD.q az))) (PD.q (cL gv rfl J Jt (be (PD.q (av (ad 8))) bd ax) ax ag)))))
   (aL (aJ (aR (aw sG (PD.q (av (ad 8))) (PD.q bA) (au _))) (ai (ar (i:=9) sc__law_text.nd rfl VZ (ae (aH bh (PD.q (aH bh (ad 9) (PD.q az))) (PD.q (cL gv rfl J Jt (be (PD.q (av (ad 8))) bd ax) ax ag)))))) aK)
   (ai (dY 6 (ae (dv 9)) (bX aa) aa)))))
   (ap (g6 JZ rfl (jk (fu (dv 3))) (bq (i:=10) sc__law_text.nd rfl VZ) (ai (dY 6 (ae (aH bh (PD.q (aH bh (PD.q (aH bh (PD.q az) (PD.q (bM wu N rfl (af (dv 1) (af (av (ad 10)) (af ah ao am) ax) aa) aa (aF ax (aF am ag)))))) (PD.q az))) (PD.q (cL gv rfl J Jt (be (PD.q (av (ad 10))) bd ax) ax ag)))) (bX bB) bB)))
   (ap (dY 6 (ae (aH bh (PD.q (cu (PD.q (aM (af az (af az ao am) am))) (PD.q (cL vZ rfl gH Lq (be (PD.q (i9 (bi N.units) (ad 5) (PD.q ah) (au _))) bd jS) jS ag)) (λ_ _=>rfl))) (PD.q (bM wu N rfl (af (dv 1) (af (dv 4) (af (dv 5) ao aa) aa) aa) aa (aF aa (aF aa ag)))))) (bX bB) bB)
   (iP 6 (ai (aC (ae (jP (PD.q az) (dv 6) (bX aa) aa)))))))))),?_⟩
 intro ke;have g:=a.pl.nm;have n8:=g.2.1;have SI:=a.pl.bl;have Qw:=a.pl.rl
 have o:("unknown ":Str).length<=8:=by decide
 have G:(" from ":Str).length<=6:=by decide
 have T:(" to ":Str).length<=4:=by decide
 have I:("row ":Str).length<=4:=by decide
 have U:(" at least ":Str).length<=10:=by decide
 refine⟨rfl,?_⟩;refine⟨_,_,rfl,rfl,?_⟩;refine⟨λi ρ=>∃(p u v:Option Sm),ρ=TT k (fC (k.ns.take i) (k.bs.take i)) p u v none,⟨_,_,_,rfl⟩,?_,?_⟩
 ·rintro i d ρ hd ⟨p,u,v,rfl⟩;obtain⟨d1,d2,h1,h2,rfl⟩:=oX hd;obtain⟨x,rfl,Q⟩:=gY h1;obtain⟨⟨l,m⟩,rfl,X⟩:=gY h2;have hi:=ba Q;have y:=fm (g.2.2 x (IA Q));obtain⟨Y,S⟩:=a.pl.bo _ (IA X);have Z:=cK Y
  have t0:(("unknown ":Str)++x++" from ")++nstr l=aW (.unk x l none):=by rw[←kS];simp only[Jg]
  have ll:(aW (.unk x l none)).length<=100:=by rw[←t0];exact IF (cz (cz (cz o y) G) Z) (by decide)
  have wl:(fC (k.ns.take i) (k.bs.take i)).length<=8:=by rw[KR,I0];omega
  have sn:=C7 (ns:=k.ns.take i) (bs:=k.bs.take i) (x:=x) (b:=(l,m)) (by rw[I0,I0];omega);rw[←ji Q,←ji X]at sn;refine⟨rfl,cr o y,cr (cz o y) G,_,rfl,_,rfl,big Y,cr (cz (cz o y) G) Z,?_⟩;rfl';rw[t0];refine⟨λρ=>ρ=TT k (fC (k.ns.take i) (k.bs.take i)) (some (.v (.str x))) (some (.v (dl (l,m)))) (some (.v (.str (aW (.unk x l m))))) none,⟨_,rfl,?_⟩,?_⟩
  ·cases m with
   |none=>exact⟨λh=>(by cases h),λ_=>rfl⟩
   |some j=>
    have j6:=cK (S j rfl);refine⟨λ_=>⟨cr ll T,_,rfl,_,rfl,big (S j rfl),cr (cz ll T) j6,?_⟩,λh=>(by cases h)⟩;rw[←qH,←kS];simp only[Jg];rfl
  rintro ρ rfl;exact⟨by rw[HV,HV];exact cy (by omega),((fC (k.ns.take (i+1)) (k.bs.take (i+1))).map aW).map D.str,(by rw[sn];exact pF _ (.unk x l m) rfl),_,_,_,rfl⟩
 rintro ρ ⟨p,u,v,rfl⟩;rw[nN,HV,HV,SI,Nat.min_self,Kf,JK (by omega)]
 have ul:(fC k.ns k.bs).length<=8:=by rw[KR];omega
 refine⟨λi ρ=>∃(C:Option Sm),ρ=TT k (fC k.ns k.bs++(k.rs.take i).map (jX k.ns)) p u v C,⟨none,(by rw[List.take_zero,Mg,IW])⟩,?_,?_⟩
 ·rintro i d ρ hd ⟨C,rfl⟩;obtain⟨r,rfl,B⟩:=gY hd;have hi:=ba B;obtain⟨r1,r2,r3⟩:=a.pl.ro r (IA B);have sl:=mH g (by omega:r.1.length<=8) r2;have b6:=cK r3;refine⟨_,rfl,k.ns,r.1,false,rfl,g,r1,r2,?_⟩;rw[vF,show cX (sg false) r.1=r.1 from rfl];refine⟨cr I sl,cr (cz I sl) U,_,rfl,_,rfl,big r3,cr (cz (cz I sl) U) b6,?_,((fC k.ns k.bs++(k.rs.take (i+1)).map (jX k.ns)).map aW).map D.str,?_,_,rfl⟩
  ·rw[HV,HV,HY,HV,I0];exact cy (by omega)
  ·rw[ji B,IJ (f:=jX k.ns),←Iw];exact pF _ (jX k.ns r) (sI (bC k.ns r.1) r.2 false)
 rintro ρ ⟨C,rfl⟩;rw[HV,Kf]
 obtain⟨t,O⟩:∃t:Bool,k.sn=sg t:=by
  rcases a.sn with h|h
  ·exact⟨false,h⟩
  ·exact⟨true,h⟩
 have M:k.gl.length<=8:=by rw[a.pl.gn];exact n8
 have sl:=mH g (by rw[k7];exact M) (kT (sn:=sg t) a.pl.go)
 have tl:(if t then ("least ":Str) else "most ").length<=6:=by cases t<;>decide
 have Nc:bK [D.str "least ",.str "most "] (if (k.sn==1) then 1 else 0)=some (.str (if t then "least " else "most ")):=by rw[O];cases t<;>rfl
 have wt:(if t then ("least ":Str) else "most ")++b7 (bC k.ns (cX (sg t) k.gl))=aW (.worth (bC k.ns (cX (sg t) k.gl)) (sg t)):=by
  cases t
  ·exact (iM _).1
  ·exact (iM _).2
 refine⟨_,Nc,k.ns,k.gl,t,by rw[O],g,a.pl.gn,a.pl.go,?_⟩;rw[vF]
 have ef:cT k.ns k.bs k.rs k.gl k.sn=fC k.ns k.bs++k.rs.map (jX k.ns)++[.worth (bC k.ns (cX (sg t) k.gl)) (sg t)]:=by unfold cT jL;rw[O,JH,Iw];rfl
 have fl:=uF (sn:=k.sn) a.pl;have fo:=tX a.pl a.sn;refine⟨cr tl sl,by rw[HV,HV,HY,HV];exact cy (by omega),((cT k.ns k.bs k.rs k.gl k.sn).map aW).map D.str,(by rw[ef];exact pF _ _ wt),?_⟩;refine⟨_,rfl,(cT k.ns k.bs k.rs k.gl k.sn).map aW,rfl,jO 900 (λz hz=>?_) ?_,?_⟩
 ·obtain⟨f,hf,rfl⟩:=IM.mp hz;exact (fo f hf).2
 ·have c:("\n":Str).length=1:=by decide
  rw[HV,c];omega
 have e:Txt.join "\n" ((cT k.ns k.bs k.rs k.gl k.sn).map aW) = Str.join "\n" ((cT k.ns k.bs k.rs k.gl k.sn).map aW):=J0 _ _;rw[e];exact q
open Tx
noncomputable def pX(s:Dk)(a:List Dk):Say->List Dk
 |.word _=>a.dropLast
 |_=>a++[s]
noncomputable def cm(s:Dk)(a:List Dk)(w:Say):List Dk:=if bt s a w=0 then pX s a w else a
noncomputable def iS(s:Dk)(a:List Dk)(w:Say):D:=if bt s a w=0 then .str "ok" else .non
def SOk.dk{s:Dk}(h:SOk s):DkW s:=⟨h.pl.nm.1,h.pl.nm.2.1,h.pl.bl,h.pl.rl,λr a=>(h.pl.ro r a).1,h.pl.gn⟩
noncomputable abbrev nR(s:Dk):Str:=Str.join "\n" ((cT s.ns s.bs s.rs s.gl s.sn).map aW)
inductive y__law_said(as:List Sm)(R:Sm->List Om->Prop)(Rx:XD->List Om->Prop):Prop|mk (a:Option Addr) (s:Dk) (hs:List Dk) (x:Str) (_:as=[.ob a (bS s hs),.v (.str x)]) (_:SOk s) (_:hs.length<500) (_:((∃w,Ln s x w/\R (.v (.tup [.int (bt s hs w),iS s hs w])) [bS (cF s hs w) (cm s hs w)])\/(x="write"/\R (.v (.tup [.int 0,.str (nR s)])) [bS s hs])))
def D9(s:Dk)(a:List Dk)(w:Say):bt s a w=0\/bt s a w=1\/bt s a w=2\/bt s a w=5\/bt s a w=6:=by
 cases w with
 |tri v=>exact .inl rfl
 |word v=>simp only[bt];split<;>simp
 |take k=>simp only[bt,iV];split<;>simp
 |frm f=>
  cases f with
  |unk x l m=>simp only[bt,fH];split<;>(try split)<;>simp
  |row ts b t=>simp only[bt,fH];split<;>simp
  |worth ts sn=>exact .inl rfl
def kB:∀k:Int,(k=1\/k=2\/k=5\/k=6)->(gN k).nm∈mw:=by rintro k (rfl|rfl|rfl|rfl)<;>decide +kernel
def dw{a b:Str}{p:Prop}(h:ij a b=true)(c:ij a b=false:=by lia):p:=by rw[h]at c;cases c
def kh{a b:Str}{p:Prop}(c:ij a b=false)(h:ij a b=true:=by lia):p:=dw h c
def AB(n:Nat):dX n "write"=some (.word "write"):=by unfold dX;rw[Ia (by decide)]
noncomputable abbrev SD(c:Addr)(s:Dk)(a:List Dk)(x:Str)(k:Int)(d:D)(e:Option Sm):ak:=[some (.ob (some c) (bS s a)),some (.v (.str x)),some (.v (.int k)),some (.v d),some (.v .non),e]
def y3(F:Fun K "_law_said" "_law_said" mZ f fd){I:Addr}(G:TxtDesk K mg I)(Pz:MthMX P w K mg base n I "say" ["self","line"] t9)(o:Exs K mg ij mw)(u:Isa K mg ij mw)(T:∃D,mg "TooGreat"=some (.ref D))(X:∃D,mg "Twice"=some (.ref D))(Z:∃D,mg "NoName"=some (.ref D))(OG:∃D,mg "NoText"=some (.ref D))(Y:∃D,mg "NoRow"=some (.ref D))(U:∃D,mg "NoChange"=some (.ref D)):FnOk P w K mg base bf (n+1) f fd ["_law_desk","_law_line"] (bu K y__law_said):=by
 refine F.okM sc__law_said (λas R Rx h=>?_) (λMZ A outer s H E as R Rx qs MY hr h S=>?_)
 ·obtain⟨a,k,l,x,rfl,_⟩:=h;rfl
 obtain⟨a,k,l,x,rfl,B,O,q⟩:=h;obtain⟨pa,rfl⟩:=dN S
 refine⟨_,(ap (ar (i:=2) sc__law_said.nd rfl VZ (ae ah))
   (ap (ar (i:=3) sc__law_said.nd rfl VZ (ae bA))
   (ap (ar (i:=4) sc__law_said.nd rfl VZ (ae bA))
   (aL (Do (λ_ _=>(ai (ar (i:=3) sc__law_said.nd rfl VZ (Ah 0 Pz hr rfl G.cl G.ns (aN (ae (dv 1)) bc aa) aa ag)))) (md 5 o T (by lia) rfl sc__law_said.nd (λ_ _=>(ap (ar (i:=2) sc__law_said.nd rfl VZ (ae ah))
   (ai (ar (i:=4) sc__law_said.nd rfl VZ (ae (lb o u (dv 5))))))) (md 5 o X (by lia) rfl sc__law_said.nd (λ_ _=>(ap (ar (i:=2) sc__law_said.nd rfl VZ (ae ah))
   (ai (ar (i:=4) sc__law_said.nd rfl VZ (ae (lb o u (dv 5))))))) (md 5 o Z (by lia) rfl sc__law_said.nd (λ_ _=>(ap (ar (i:=2) sc__law_said.nd rfl VZ (ae ah))
   (ai (ar (i:=4) sc__law_said.nd rfl VZ (ae (lb o u (dv 5))))))) (md 5 o OG (by lia) rfl sc__law_said.nd (λ_ _=>(ap (ar (i:=2) sc__law_said.nd rfl VZ (ae ah))
   (ai (ar (i:=4) sc__law_said.nd rfl VZ (ae (lb o u (dv 5))))))) (uj o Y (by lia) rfl (λ_ _=>(ai (ar (i:=2) sc__law_said.nd rfl VZ (ae ah)))) (uj o U (by lia) rfl (λ_ _=>(ai (ar (i:=2) sc__law_said.nd rfl VZ (ae ah)))) B2)))))) rfl rfl)
   (aL (aJ (aR (aw sG (ad 4) (PD.q bA) (au _))) (ai (aC (ae (aM (af ah (af (dv 3) ao aa) am))))) aK)
   (ai (aC (ae (aM (af (dv 2) (af (dv 3) ao aa) aa)))))))))),?_⟩
 intro ke;refine⟨λρ=>∃(s':Dk)(C:List Dk)(c:Int)(d:D)(Q:Option Sm),ρ=SD pa s' C x c d Q/\R (.v (.tup [.int c,d])) [bS s' C],?_,?_⟩
 ·rcases q with⟨w,y,q⟩|⟨rfl,q⟩
  ·have J:bt k l w=0->R (.v (.tup [.int 0,.str "ok"])) [bS (pU k l w) (pX k l w)]:=λh=>by unfold iS cF cm at q;rw[h,Ia rfl,Ia rfl,Ia rfl]at q;exact q
   have M:bt k l w≠0->R (.v (.tup [.int (bt k l w),.non])) [bS k l]:=λh=>by unfold iS cF cm at q;rw[Ib h,Ib h,Ib h]at q;exact q
   refine⟨⟨_,_,rfl,rfl⟩,_,rfl,rfl,_,k,l,x,w,rfl,O,y.ac,y.len,y.say,B.dk,?_⟩;rcases y.ok with r|rfl
   ·refine .inl ⟨r,λh=>?_,λh=>?_⟩
    ·rw[←(i6 l r).1]at h;refine⟨_,_,_,_,none,rfl,?_⟩;have:=J h
     cases w with
     |word v=>exact r.elim
     |tri v=>exact r.elim
     |take j=>exact this
     |frm f=>exact this
    ·rw[←(i6 l r).1]at h ⊢;have m:=M h;rcases D9 k l w with e|e|e|e|e
     ·exact absurd e h
     ·rw[e]at m ⊢;have g:=kB 1 (by decide);exact⟨g,λ_=>⟨_,_,rfl,g,trivial,_,_,_,_,none,rfl,m⟩,λz=>kh z⟩
     ·rw[e]at m ⊢;have g:=kB 2 (by decide);exact⟨g,λz=>dw z,λ_=>⟨g,λ_=>⟨_,_,rfl,g,trivial,_,_,_,_,none,rfl,m⟩,λz=>kh z⟩⟩
     ·rw[e]at m ⊢;have g:=kB 5 (by decide);exact⟨g,λz=>dw z,λ_=>⟨g,λz=>dw z,λ_=>⟨g,λz=>dw z,λ_=>⟨g,λz=>dw z,λ_=>⟨g,λ_=>⟨_,_,_,_,none,rfl,m⟩,λz=>kh z⟩⟩⟩⟩⟩
     ·rw[e]at m ⊢;have g:=kB 6 (by decide);exact⟨g,λz=>dw z,λ_=>⟨g,λz=>dw z,λ_=>⟨g,λz=>dw z,λ_=>⟨g,λz=>dw z,λ_=>⟨g,λz=>dw z,λ_=>⟨g,λ_=>⟨_,_,_,_,none,rfl,m⟩,λz=>kh z⟩⟩⟩⟩⟩⟩
   ·refine .inr (.inr ⟨rfl,λh=>?_,λp t h=>?_⟩)
    ·have e:bt k l (.word "back")=6:=Ia ⟨rfl,h⟩;have m:=M (by rw[e];decide);rw[e]at m;have g:=kB 6 (by decide);exact⟨g,λz=>dw z,λ_=>⟨g,λz=>dw z,λ_=>⟨g,λz=>dw z,λ_=>⟨g,λz=>dw z,λ_=>⟨g,λz=>dw z,λ_=>⟨g,λ_=>⟨_,_,_,_,none,rfl,m⟩,λz=>kh z⟩⟩⟩⟩⟩⟩
    ·subst h;have e:bt k (p++[t]) (.word "back")=0:=Ib (by simp);have N:=J e
     have e1:pU k (p++[t]) (.word "back")=t:=by show (p++[t]).getLast?.getD k=t;rw[LG];rfl
     have e2:pX k (p++[t]) (.word "back")=p:=J6;rw[e1,e2]at N;exact⟨_,_,_,_,none,rfl,N⟩
  ·refine⟨⟨_,_,rfl,rfl⟩,_,rfl,rfl,_,k,l,"write",.word "write",rfl,O,⟨by lia,by decide⟩,by decide,AB _,B.dk,.inr (.inl ⟨rfl,B.pl,B.sn,?_⟩)⟩;exact⟨_,_,_,_,none,rfl,q⟩
 rintro ρ ⟨s',C,c,d,Q,rfl,q⟩;refine⟨λρ=>ρ=_,⟨λh=>(by cases h),λ_=>rfl⟩,?_⟩;rintro ρ rfl;exact⟨_,rfl,q⟩
inductive y__law_standing(as:List Sm)(R:Sm->List Om->Prop)(Rx:XD->List Om->Prop):Prop|mk (a:Option Addr) (s:Dk) (hs:List Dk) (_:as=[.ob a (bS s hs),.v (aV s)]) (_:SOk s) (_:hs.length<500) (_:R (.v (.bl true)) [bS s hs])
def A3(F:Fun K "_law_standing" "_law_standing" nq f fd)(m:ClM P w K mg base n "_law_said" ["_law_desk","_law_line"] y__law_said)(j:Cl P w K mg base n "_law_text" ["_law_state"] z__law_text)(t:mg "isinstance"=none)(p:mg "str"=none):FnOk P w K mg base bf (n+1) f fd ["_law_desk","_law_state"] (bu K y__law_standing):=by
 refine F.okM sc__law_standing (λas R o h=>?_) (λx A outer s H E as R o B u c h l=>?_)
 ·obtain⟨a,k,g,rfl,_⟩:=h;rfl
 obtain⟨a,k,g,rfl,e,r,q⟩:=h;obtain⟨z,rfl⟩:=dN l
 refine⟨_,(ap (fX (bp m c rfl (bn 0 (aN (ae az) bc am) aa) aa (aF am ag)) (eD (n:=2) rfl (bz (bq (i:=2) sc__law_standing.nd rfl VZ) (bz (bq (i:=3) sc__law_standing.nd rfl VZ) eo))))
   (ai (aC (ae (t6 (i9 (bi c.units) (ad 2) (PD.q ah) (au _)) (t6 (xc rfl t (ad 3) (Fb (v:=.ty "str") rfl p Jt rfl) aa aa) (Dn (i9 (bi c.units) (ad 3) (PD.q (bM j c rfl (af (dv 1) ao aa) aa ag)) (au _))))))))),?_⟩
 intro y;refine⟨⟨_,_,rfl⟩,_,rfl,rfl,_,k,g,"write",rfl,e,r,.inr ⟨rfl,?_⟩⟩;refine⟨rfl,?_⟩;rfl';refine⟨λ_=>⟨_,rfl,λ_=>⟨k,rfl,e,?_⟩,λh=>(by cases h)⟩,λh=>(by cases h)⟩;show eI (R (.v (.bl (nR k==nR k)))) _ _ _ _;rw[Jf];exact⟨_,rfl,q⟩
open Tx
def Bl{e:List Addr}(h:e.length=3):∃a b c,e=[a,b,c]:=by
 match e,h with
 | [a,b,c],_=>exact⟨a,b,c,rfl⟩
def Eg{n:Nat}{x v:Str}(h:dX n x=some (.word v)):x=v:=by
 unfold dX at h;split at h
 ·cases h;rfl
 split at h
 ·split at h
  ·cases h
  ·split at h
   ·split at h<;>cases h
   ·split at h<;>cases h
 ·cases a:gU x with
  |none=>rw[a]at h;cases h
  |some f=>rw[a]at h;cases h
def wE{s:Dk}{a:List Dk}{y:Str}{w:Say}(h:Ln s y w)(g:bt s a w=0)(m:y="back"):∃c t,a=c++[t]/\cm s a w=c:=by
 have j:=h.say;rw[m,sC]at j;cases j
 have l:a≠[]:=λe=>by have:bt s a (.word "back")=6:=Ia ⟨rfl,e⟩;rw[this]at g;cases g
 rcases KD a with e|⟨c,t,e⟩
 ·exact absurd e l
 rw[KG]at e;refine⟨c,t,e,?_⟩;unfold cm;rw[Ia g,e];exact J6
def A1{s:Dk}{c:List Dk}{y:Str}{w:Say}(h:Ln s y w)(e:bt s c w=0)(g:y≠"back"):cm s c w=c++[s]:=by
 unfold cm;rw[Ia e]
 cases w with
 |word v=>
  rcases h.ok with a|a
  ·exact a.elim
  ·cases a;exact absurd (Eg h.say) g
 |tri v=>rfl
 |take v=>rfl
 |frm v=>rfl
def EJ{s:Dk}{a:List Dk}{w:Say}(h:a.length<400):(cm s a w).length<500:=by
 unfold cm;split
 ·cases w with
  |word v=>show a.dropLast.length<500;rw[Lx];omega
  |tri v=>show (a++[s]).length<500;rw[HY];show a.length+1<500;omega
  |take v=>show (a++[s]).length<500;rw[HY];show a.length+1<500;omega
  |frm v=>show (a++[s]).length<500;rw[HY];show a.length+1<500;omega
 ·omega
inductive y__law_step(as:List Sm)(R:Sm->List Om->Prop)(Rx:XD->List Om->Prop):Prop|mk (a b c:Option Addr) (o:Om) (s:Dk) (hs:List Dk) (y:Str) (w:Say) (m:Nat) (_:as=[.ob a o,.ob b (bS s hs),.v (cY s hs y w),.v (aV s),.ob c (.lst (hs.map aV))]) (_:Pl m o) (_:m+10<2^20) (_:SOk s) (_:SOk (cF s hs w)) (_:hs.length<400) (_:Ln s y w) (_:∀o',Pl (m+1) o'->R (.v (aV (cF s hs w))) [o',bS (cF s hs w) (cm s hs w),.lst ((cm s hs w).map aV)])
noncomputable abbrev ST(e g h:Addr)(o:Om)(k:Dk)(a:List Dk)(y:Str)(w:Say)(c:List Dk):ak:=[some (.ob (some e) o),some (.ob (some g) (bS (cF k a w) (cm k a w))),some (.v (cY k a y w)),some (.v (aV k)),some (.ob (some h) (.lst (c.map aV))),some (.v (.str y)),some (.v (.int (bt k a w))),some (.v (aV (cF k a w))),some (.v (.int (bt k a w))),some (.v (iS k a w))]
def Gi(F:Fun K "_law_step" "_law_step" mL f fd)(X:ClM P w K mg base n "_law_said" ["_law_desk","_law_line"] y__law_said)(Y:ClM P w K mg base n "_law_next" ["_law_pool_here","_law_size"] y__law_next)(T:ClM P w K mg base n "_law_standing" ["_law_desk","_law_state"] y__law_standing):FnOk P w K mg base bf (n+1) f fd ["_law_pool_here","_law_desk","_law_change_here","_law_state","_law_past"] (bu K y__law_step):=by
 refine F.okM sc__law_step (λas R Z h=>?_) (λMZ A outer s H E as R Z qs MY l h U=>?_)
 ·obtain⟨a,b,c,o,k,g,y,w,m,rfl,_⟩:=h;rfl
 obtain⟨a,b,c,o,k,g,y,w,m,rfl,hp,hm,hk,N,hl,J,q⟩:=h;obtain⟨C,G,I,rfl⟩:=Bl U
 refine⟨_,(ap (fX (ae (dv 2)) (eD (n:=3) rfl (bz (bq (i:=5) sc__law_step.nd rfl VZ) (bz (bq (i:=6) sc__law_step.nd rfl VZ) (bz (bq (i:=7) sc__law_step.nd rfl VZ) eo)))))
   (ap (fX (bp X l rfl (bn 1 (aN (ae (dv 5)) bc aa) aa) aa (aF aa ag)) (eD (n:=2) rfl (bz (bq (i:=8) sc__law_step.nd rfl VZ) (bz (bq (i:=9) sc__law_step.nd rfl VZ) eo))))
   (aL (aJ (aR (PWD.td (dM (aw (eG l.units) (ad 8) (ad 6) (au _)) (eR (PWD.td (iQ (aw (bi l.units) (ad 6) (PD.q ah) (au _)) (iZ (aw (eG l.units) (ad 9) (PD.q az) (au _))))))))) (ai (aC (ae bA))) aK)
   (aL (aJ (aR (PWD.td (iQ (aw (bi l.units) (ad 6) (PD.q ah) (au _)) (iZ (aw (bi l.units) (ad 5) (PD.q az) (au _)))))) (ai (qe (vP 4))) aK)
   (aL (aJ (aR (PWD.td (iQ (aw (bi l.units) (ad 6) (PD.q ah) (au _)) (iZ (aw (eG l.units) (ad 5) (PD.q az) (au _)))))) (ai (dY 4 (ae (dv 3)) (bX aa) aa)) aK)
   (aL (aJ (PXW.toB (v7 (mG (bi l.units) (bp Y l rfl (bn 0 (aN (ae ah) bc am) aa) aa (aF am ag)) (ae ah) (au _)) (uQ (nK (mB (bp T l rfl (bn 1 (aN (ae (dv 7)) bc aa) aa) aa (aF aa ag)) (λ_=>rfl)))))) (ai (aC (ae bA))) aK)
   (ai (aC (ae (dv 7)))))))))),?_⟩
 intro ke;refine⟨rfl,?_⟩;rfl';refine⟨⟨_,_,rfl⟩,_,rfl,rfl,_,k,g,y,rfl,hk,by omega,.inl ⟨w,J,?_⟩⟩;refine⟨rfl,?_⟩;rfl';refine⟨λρ=>ρ=ST C G I o k g y w g,?_,?_⟩
 ·have ne:(!(bt k g w==bt k g w))=false:=by rw[Jf];rfl
  refine⟨λh=>(by have:=h.symm.trans ne;cases this),λ_=>⟨λh=>?_,λ_=>⟨λh=>ff h,λ_=>rfl⟩⟩⟩;have Q:iS k g w=.str "ok":=Ia (dc h);rw[Q];exact⟨λh=>ff h,λ_=>(by delta ST;rw[Q];rfl)⟩
 rintro ρ rfl;refine⟨λρ=>∃p,ρ=ST C G I o k g y w p/\((bt k g w=0/\y="back"/\p=cm k g w)\/(¬ (bt k g w=0/\y="back")/\p=g)),?_,?_⟩
 ·refine⟨λh=>⟨λj=>?_,λj=>⟨g,rfl,.inr ⟨λz=>?_,rfl⟩⟩⟩,λh=>⟨λj=>ff j,λ_=>⟨g,rfl,.inr ⟨λz=>?_,rfl⟩⟩⟩⟩
  ·have r:=dc h;have u:y="back":=eq_of_beq j;obtain⟨p,t,e,eg⟩:=wE J r u
   have O:g.map aV=p.map aV++[aV t]:=by rw[e,IJ];rfl
   have e1:(g.map aV)[(g.map aV).length-1]?=some (aV t):=by rw[O,HY,HX (by simp)];simp
   exact⟨_,e1,p.map aV,(by rw[O,J6]),p,rfl,.inl ⟨r,u,eg.symm⟩⟩
  ·rw[z.2]at j;exact tf j
  ·rw[z.1]at h;exact tf h
 rintro ρ ⟨p,rfl,M⟩;refine⟨λρ=>ρ=ST C G I o k g y w (cm k g w),?_,?_⟩
 ·refine⟨λh=>⟨λj=>?_,λj=>?_⟩,λh=>⟨λj=>ff j,λ_=>?_⟩⟩
  ·have r:=dc h
   have u:y≠"back":=λe=>by rw[e]at j;exact ff j
   obtain⟨_,rfl⟩:_/\p=g:=M.resolve_left λz=>u z.2.1;exact⟨by rw[HV];exact cy (by omega),(cm k p w).map aV,(by rw[A1 J r u,IJ];rfl),rfl⟩
  ·have r:=dc h
   have u:y="back":=by have j:(!(y == "back"))=false:=j;simpa using j
   rcases M with z|z
   ·rw[z.2.2];rfl
   ·exact absurd ⟨r,u⟩ z.1
  ·have r:bt k g w≠0:=ko h;rcases M with z|z
   ·exact absurd z.1 r
   ·have:cm k g w=g:=Ib r
    delta ST
    rw[z.2,this];rfl
 rintro ρ rfl;refine⟨λρ=>∃S,ρ=ST C G I S k g y w (cm k g w)/\Pl (m+1) S,?_,?_⟩
 ·refine⟨⟨_,_,rfl⟩,_,rfl,rfl,_,_,3,_,rfl,hp,by omega,by decide,cG (by decide),λx B x0 x1 v=>?_⟩;rfl';refine⟨λ_=>⟨⟨_,_,rfl⟩,_,rfl,rfl,_,cF k g w,cm k g w,rfl,N,EJ hl,λh=>ff h,λ_=>⟨B,rfl,v⟩⟩,λ_=>⟨λh=>ff h,λ_=>⟨B,rfl,v⟩⟩⟩
 rintro ρ ⟨B,rfl,v⟩;exact⟨_,rfl,_,rfl,_,rfl,q B v⟩
open Tx
def AI{c:Type}{xs:List c}{x:c}(h:xs.Nodup)(l:x∉xs):(xs++[x]).Nodup:=by rw[Js];refine⟨h,by simp,λa g b j=>?_⟩;rw[Ip.mp j];exact λe=>l (e▸g)
def fw{c:Type}{P:c->Prop}{xs:List c}{x:c}(h:∀y∈xs,P y)(e:P x):∀y∈xs++[x],P y:=λy a=>by
 rcases II.mp a with a|a
 ·exact h y a
 ·rw[Ip.mp a];exact e
def Fq{ts:List Tm}(h:∀t∈ts,fU t)(x:Str):bx (look ts x):=by
 unfold look
 cases e:ts.find? (λt=>decide (t.2=x))with
 |none=>show bx 0;unfold bx;decide
 |some t=>exact (h t (L9 e)).1
def uE{ns:List Str}{ts:List Tm}(h:∀t∈ts,fU t):(bF ns ts).length=ns.length/\∀e∈bF ns ts,bx e:=by
 refine⟨by unfold bF;rw[HV],λe a=>?_⟩;obtain⟨x,_,rfl⟩:=IM.mp a;exact Fq h x
def rB{x:Int}(h:bx x):bx (-x):=by unfold bx at h ⊢;omega
def SOk.aft{s:Dk}{o:List Dk}{y:Str}{w:Say}(h:SOk s)(M:∀t∈o,SOk t)(I:Ln s y w):SOk (cF s o w):=by
 unfold cF;split
 case isFalse=>exact h
 rename_i g;have a:=h.pl;have C:=I.num
 cases w with
 |word v=>
  show SOk (o.getLast?.getD s)
  cases e:o.getLast? with
  |none=>exact h
  |some t=>exact M t (List.mem_of_getLast? e)
 |tri v=>exact h
 |take k=>
  refine⟨⟨a.nm,a.bl,a.bo,?_,λr E=>a.ro r (List.mem_of_mem_eraseIdx E),a.gn,a.go⟩,h.sn⟩;show (s.rs.eraseIdx _).length<=12;have:=a.rl;rw[LF];split<;>omega
 |frm f=>
  cases f with
  |unk x l m=>
   have B:bt s o (.frm (.unk x l m))=if x∈s.ns then 2 else if 8<=s.ns.length then 1 else 0:=rfl
   rw[B]at g
   have F:x∉s.ns:=λz=>by rw[Ia z]at g;cases g
   have O:s.ns.length<8:=by
    rw[Ib F]at g;rcases IU s.ns.length 8 with c|c
    ·exact c
    ·rw[Ia c]at g;cases g
   obtain⟨p,j,H⟩:=C;refine⟨⟨⟨AI a.nm.1 F,by show (s.ns++[x]).length<=8;rw[HY];show s.ns.length+1<=8;omega,fw a.nm.2.2 p⟩,by show (s.bs++[_]).length=(s.ns++[x]).length;rw[HY,HY,a.bl];rfl,fw a.bo ⟨j,H⟩,by show (s.rs.map gZ).length<=12;rw[HV];exact a.rl,λr E=>?_,by show (s.gl++[0]).length=(s.ns++[x]).length;rw[HY,HY,a.gn];rfl,fw a.go (by unfold bx;decide)⟩,h.sn⟩;obtain⟨r,G,rfl⟩:=IM.mp E;obtain⟨Q,R,S⟩:=a.ro r G;exact⟨by show (r.1++[0]).length=(s.ns++[x]).length;rw[HY,HY,Q];rfl,fw R (by unfold bx;decide),S⟩
  |row ts b t=>
   obtain⟨p,j⟩:=C;obtain⟨u,A⟩:=uE (ns:=s.ns) p
   have B:bt s o (.frm (.row ts b t))=if 12<=s.rs.length then 1 else 0:=rfl
   rw[B]at g
   have O:s.rs.length<12:=by
    rcases IU s.rs.length 12 with c|c
    ·exact c
    ·rw[Ia c]at g;cases g
   refine⟨⟨a.nm,a.bl,a.bo,by show (s.rs++[_]).length<=12;rw[HY];show s.rs.length+1<=12;omega,fw a.ro ?_,a.gn,a.go⟩,h.sn⟩
   cases t with
   |false=>exact⟨u,A,j⟩
   |true=>
    refine⟨by show ((bF s.ns ts).map _).length=_;rw[HV];exact u,λe J=>?_,rB j⟩;obtain⟨z,N,rfl⟩:=IM.mp J;exact rB (A z N)
  |worth ts sn=>
   obtain⟨p,j⟩:=C;obtain⟨u,A⟩:=uE (ns:=s.ns) p;exact⟨⟨a.nm,a.bl,a.bo,a.rl,a.ro,by show (cX sn _).length=_;rw[k7];exact u,kT A⟩,j⟩
def FO{s:Dk}{a:List Dk}{w:Say}(h:SOk s)(c:∀t∈a,SOk t):(∀t∈cm s a w,SOk t)/\(cm s a w).length<=a.length+1:=by
 unfold cm;split
 ·cases w with
  |word v=>exact⟨λt e=>c t ((List.dropLast_sublist a).subset e),by show a.dropLast.length<=_;rw[Lx];omega⟩
  |tri v=>exact⟨fw c h,by show (a++[s]).length<=_;rw[HY];exact Ih _⟩
  |take v=>exact⟨fw c h,by show (a++[s]).length<=_;rw[HY];exact Ih _⟩
  |frm v=>exact⟨fw c h,by show (a++[s]).length<=_;rw[HY];exact Ih _⟩
 ·exact⟨c,MB _⟩
open Tx
def Fr(xs:List D)(a b:Option Int):(br xs a b).length<=xs.length:=by unfold br;rw[I0,Jm];omega
noncomputable abbrev LW(ns:List Int)(g:Addr)(o:Om)(ws:List Str)(s:Dk)(a:List Dk)(e rw:Nat)(h j c:Option Sm):ak:=[some (.v (.fzl (ns.map D.int))),some (.ob (some g) o),some (.v (.lst (ws.map D.str))),some (.ob none (bS s a)),some (.v (aV s)),some (.own (a.map aV)),some (.v (.int (e:Nat))),some (.v (.int (rw:Nat))),h,j,c]
noncomputable abbrev sp_law:=vq
noncomputable abbrev FZ:=vd
def sJ:SOk iT:=⟨⟨⟨LK,by decide,λx h=>(by cases h)⟩,rfl,λb h=>(by cases h),by decide,λr h=>(by cases h),rfl,λe h=>(by cases h)⟩,.inl rfl⟩
noncomputable abbrev LP(ns:List Int)(c:Addr)(o:Om)(ws:List Str)(s:Dk)(a:List Dk)(g rw:Nat)(h e:Option Sm):ak:=[some (.v (.fzl (ns.map D.int))),some (.ob (some c) .ptr),some (.v (.lst (ws.map D.str))),some (.ob none (bS s a)),some (.v (aV s)),some (.own (a.map aV)),some (.v (.int (g:Nat))),some (.v (.int (rw:Nat))),h,some (.ob (some c) o),e]
def zm(F:Fun K "law" "law" lv f fd){MX:Addr}(MT:TxtDesk K mg MX)(Ol:ClM P w K mg base (n+1) "_law_pool" ["_law_script","_law_at"] y__law_pool)(Pa:ClM P w K mg base (n+1) "_law_names" ["_law_pool_here","_law_count"] y__law_names)(S:ClM P w K mg base (n+1) "_law_next" ["_law_pool_here","_law_size"] y__law_next)(Y:ClM P w K mg base (n+1) "_law_standing" ["_law_desk","_law_state"] y__law_standing)(NX:ClM P w K mg base (n+1) "_law_next_change" ["_law_pool_here","_law_words","_law_state","_law_past","_law_k","_law_many","_law_rows"] y__law_next_change)(PB:ClM P w K mg base (n+1) "_law_step" ["_law_pool_here","_law_desk","_law_change_here","_law_state","_law_past"] y__law_step)(M7:ClM P w K mg base (n+1) "_law_said" ["_law_desk","_law_line"] y__law_said)(Oa:MkM P w K mg base n MX ["self"] y_Desk____init__)(eO:mg "range"=none)(gH:mg "int"=none)(aI:mg "len"=none)(qX:mg "max"=none):FnOk P w K mg base bf (n+2) f fd ["_law_script"] (bu K (zM FZ)):=by
 refine F.okM sc_law (λas R Rx h=>?_) (λMZ A outer s H E as R Rx qs MY j h M1=>?_)
 ·obtain⟨_,rfl,ns,rfl,_⟩:=h;rfl
 obtain⟨_,rfl,ns,rfl,hz,q⟩:=h;obtain rfl:=bZ M1
 refine⟨_,(ap (ar (i:=1) sc_law.nd rfl VZ (bp Ol j rfl (aN (ae (dv 0)) (aN (ae ah) bc am) aa) aa (aF am ag)))
   (DT 1 (ap (ar (i:=2) sc_law.nd rfl VZ (A7 (bp Pa j rfl (bn 1 (aN (ae ah) bc am) aa) aa (aF am ag))))
   (ap (ar (i:=3) sc_law.nd rfl VZ (AK Oa j rfl MT.mgC MT.ns))
   (ap (ar (i:=4) sc_law.nd rfl VZ (ae (aM (af (aM ao) (af (aM ao) (af (aM ao) (af (aM ao) (af ah ao am) cC) cC) cC) cC))))
   (ap (ar (i:=5) sc_law.nd rfl VZ (ft (fJ ao)))
   (ap (ar (i:=6) sc_law.nd rfl VZ (bp S j rfl (bn 1 (aN (ae ah) bc am) aa) aa (aF am ag)))
   (ap (ar (i:=7) sc_law.nd rfl VZ (qK (BB (aN (bp S j rfl (bn 1 (aN (ae ah) bc am) aa) aa (aF am ag)) (aN (ae ah) bc am) bP)) (DM vZ rfl gH Lq (aN (sS (bi j.units) (bp S j rfl (bn 1 (aN (ae ah) bc am) aa) aa (aF am ag)) (ae ah) (au _)) bc jS) jS ag) (λ_ _=>rfl)))
   (aL (aJ (nK (mB (bp Y j rfl (bn 3 (aN (ae (dv 4)) bc aa) aa) aa (aF aa ag)) (λ_=>rfl))) (ai (aC (ae ip))) aK)
   (ap (g6 JZ rfl (tZ rfl eO (aN (jc bh (ae (aH bh (ad 6) (ad 7))) (G6 (Dz rfl) rfl qX PyProof.Rows.boot_max (aN (jc bh (ae ah) (bp S j rfl (bn 1 (aN (ae ah) bc am) aa) aa (aF am ag))) (aN (ae (bE bG rfl aI Iv (be (PD.q (fF (ad 0) fM (eQ (PD.q ah)))) bd ax) ax ag)) bc bP) bB) bB (aF bP ag))) bc bB)) (bq (i:=8) sc_law.nd rfl VZ) (ap (ar (i:=9) sc_law.nd rfl VZ (ET 1))
   (aL (aJ (aR (GR fS fS (PD.q ah) (PD.q (aH eV (PD.q (aH eV (ad 8) (ad 6))) (ad 7))) (PD.q (bE bG rfl aI Iv (be (ad 0) bd aa) aa ag)) (by with_unfolding_all rfl))) (Ek 1 9 (ai (ar (i:=9) sc_law.nd rfl VZ (bp Ol j rfl (aN (ae (dv 0)) (aN (ae (aH eV (PD.q (aH eV (ad 8) (ad 6))) (ad 7))) bc bB) aa) aa (aF bB ag))))) aK)
   (aL (ar (i:=10) sc_law.nd rfl VZ (bp NX j rfl (bn 9 (aN (ae (dv 2)) (aN (ae (dv 4)) (bn 5 (aN (ae (dv 8)) (aN (ae (dv 6)) (aN (ae (dv 7)) bc aa) aa) aa) aa) aa) aa) aa) aa (aF aa (aF aa (aF aa (aF aa (aF aa (aF aa ag))))))))
   (Bn 1 9 (ap (ar (i:=4) sc_law.nd rfl VZ (bp PB j rfl (bn 1 (bn 3 (aN (ae (dv 10)) (aN (ae (dv 4)) (bn 5 bc aa) aa) aa) aa) aa) aa (aF aa (aF aa (aF aa (aF aa ag))))))
   (ai (aJ (aR (aw fW (ad 4) (PD.q bA) (au _))) (ai (aC (ae ip))) aK))))))))
   (aL (aJ (nK (mB (bp Y j rfl (bn 3 (aN (ae (dv 4)) bc aa) aa) aa (aF aa ag)) (λ_=>rfl))) (ai (aC (ae ip))) aK)
   (ap (At JZ (aR (aw iU (PD.q (bE bG rfl aI Iv (be (ad 5) bd aa) aa ag)) (PD.q ah) (au _))) (ap (ar (i:=4) sc_law.nd rfl VZ (vP 5))
   (aL (aJ (mG (eG j.units) (bp M7 j rfl (bn 3 (aN (ae az) bc am) aa) aa (aF am ag)) (ae (aM (af ah (af az ao am) am))) (au _)) (ai (aC (ae ip))) aK)
   (ai (aJ (PXW.toB (v7 (mG (bi j.units) (bp S j rfl (bn 1 (aN (ae ah) bc am) aa) aa (aF am ag)) (ae ah) (au _)) (uQ (nK (mB (bp Y j rfl (bn 3 (aN (ae (dv 4)) bc aa) aa) aa (aF aa ag)) (λ_=>rfl)))))) (ai (aC (ae ip))) aK)))))
   (ai (aC (Dg (bp Y j rfl (bn 3 (aN (ae (dv 4)) bc aa) aa) aa (aF aa ag)) (yw (sS (bi j.units) (qK (bp M7 j rfl (bn 3 (aN (ae az) bc am) aa) aa (aF am ag)) (ae ah) (λ_ _=>rfl)) (ae ah) (au _)))))))))))))))))),?_⟩
 intro ke;show vg _ _ _ ([some (.v (.fzl (ns.map D.int))),none,none,none,none,none,none,none,none,none,none]:ak);refine⟨_,rfl,rfl,ns,0,rfl,hz,by decide,λo hp=>?_⟩;refine⟨_,rfl,λp=>?_⟩;rfl';refine⟨⟨_,_,rfl⟩,_,rfl,rfl,_,_,10,0,rfl,hp,by decide,by decide,λws o1 hw Qu Nw=>?_⟩;rfl';refine⟨none,rfl,?_⟩;rfl';refine⟨⟨_,_,rfl⟩,_,rfl,rfl,_,_,10,_,rfl,Nw,by decide,by decide,cG (by decide),λx o2 x0 x1 Nx=>?_⟩;rfl';refine⟨⟨_,_,rfl⟩,_,rfl,rfl,_,_,6,_,rfl,Nx,by decide,by decide,cG (by decide),λy o3 y0 y1 OP=>?_⟩;rfl';refine⟨⟨_,_,rfl⟩,_,rfl,rfl,_,_,4,_,rfl,OP,by decide,by decide,cG (by decide),λz o4 z0 z1 U5=>?_⟩;rfl';obtain⟨x,rfl⟩:=Jr x0
 obtain⟨r,hr4,r9⟩:∃r:Nat,bK [D.int y,.int 13] (if z==0 then 1 else 0)=some (.int (r:Nat))/\r<=13:=by
  obtain⟨y,rfl⟩:=Jr y0;cases z==0
  ·exact⟨y,rfl,by omega⟩
  ·exact⟨13,rfl,by omega⟩
 refine⟨_,hr4,?_⟩;rfl';refine⟨λρ=>ρ=LW ns p o4 ws iT [] x r none none none,⟨⟨_,_,rfl⟩,_,rfl,rfl,_,iT,[],rfl,sJ,by decide,λh=>ff h,λ_=>rfl⟩,?_⟩;rintro ρ rfl;refine⟨⟨_,_,rfl⟩,_,rfl,rfl,_,_,9,_,rfl,U5,by decide,by decide,cG (by decide),λv o5 v0 v1 hp5=>?_⟩;rfl';refine⟨_,rfl,?_⟩
 have hl30:((br (ns.map D.int) none (some 30)).length:Int)<=63:=by have:=Fr (ns.map D.int) none (some 30);rw[HV]at this;omega
 refine⟨⟨by omega,by omega⟩,λi ρ=>∃(c:Om)(s:Dk)(a:List Dk)(G l B:Option Sm),ρ=LW ns p c ws s a x r G l B/\Pl (20+100*i) c/\SOk s/\(∀t∈a,SOk t)/\a.length<=i,⟨o5,iT,[],_,_,_,rfl,hp5.mono (by decide),sJ,λ_ h=>(by cases h),Ih _⟩,?_,?_⟩
 ·rintro i d ρ hd ⟨c,s,a,G,l,B,rfl,C,u,J,I⟩;obtain⟨hi,rfl⟩:=jq hd
  have hi:i<100:=by omega
  simp only[MP];refine⟨p,c,rfl,?_⟩;rfl';refine⟨λρ=>(∃l,ρ=LW ns p c ws s a x r (some (.v (.int (i:Nat)))) (some (.ob none l)) B/\Pl 0 l)\/ρ=LP ns p c ws s a x r (some (.v (.int (i:Nat)))) B,⟨λh=>⟨λh2=>?_,λh2=>.inr rfl⟩,λh=>⟨λh=>ff h,λ_=>.inr rfl⟩⟩,?_⟩
  ·have h:=Ir h;refine⟨p,c,rfl,rfl,?_⟩;rfl';exact⟨_,rfl,rfl,ns,_,rfl,hz,by omega,λX M=>.inl ⟨X,rfl,M⟩⟩
  intro ρ N;refine⟨λρ=>∃(y:Str)(w:Say),Ln s y w/\((∃l,ρ=LW ns p c ws s a x r (some (.v (.int (i:Nat)))) l (some (.v (cY s a y w))))\/∃c,Pl (20+100*i+80) c/\ρ=LP ns p c ws s a x r (some (.v (.int (i:Nat)))) (some (.v (cY s a y w)))),?_,?_⟩
  ·rcases N with⟨l,rfl,M⟩|rfl
   ·exact⟨⟨_,_,rfl⟩,⟨_,_,rfl⟩,_,rfl,rfl,_,_,l,ws,s,a,0,i,x,r,rfl,M,by decide,u,hw,Qu,by omega,λy w o7 Q O=>⟨y,w,Q,.inl ⟨_,rfl⟩⟩⟩
   ·exact⟨⟨_,_,rfl⟩,⟨_,_,rfl⟩,_,rfl,rfl,_,_,c,ws,s,a,_,i,x,r,rfl,C,by omega,u,hw,Qu,by omega,λy w o7 Q O=>⟨y,w,Q,.inr ⟨_,O,rfl⟩⟩⟩
  rintro ρ ⟨y,w,Q,N⟩;refine⟨λρ=>∃c l,ρ=LW ns p c ws s a x r (some (.v (.int (i:Nat)))) l (some (.v (cY s a y w)))/\Pl (20+100*i+80) c,?_,?_⟩
  ·rcases N with⟨l,rfl⟩|⟨c,O,rfl⟩
   ·exact .inl ⟨_,_,rfl,C.mono (by omega)⟩
   ·exact .inr ⟨p,c,rfl,rfl,_,_,rfl,O⟩
  rintro ρ ⟨c,l,rfl,O⟩;obtain⟨g1,g2⟩:=FO (w:=w) u J;have g3:=u.aft J Q;refine⟨⟨_,_,rfl⟩,⟨_,_,rfl⟩,⟨_,_,rfl⟩,_,rfl,rfl,_,_,_,c,s,a,y,w,_,rfl,O,by omega,u,g3,by omega,Q,λo8 hp8=>?_⟩;rfl';exact⟨λh=>(by cases h),λ_=>⟨o8,cF s a w,cm s a w,_,_,_,rfl,hp8.mono (by omega),g3,g1,by omega⟩⟩
 rintro ρ ⟨c,s,a,G,l,B,rfl,C,u,J,I⟩;rw[gC]at C I
 have I:a.length<=100:=by omega
 refine⟨λρ=>ρ=LW ns p c ws s a x r G l B,⟨⟨_,_,rfl⟩,_,rfl,rfl,_,s,a,rfl,u,by omega,λh=>ff h,λ_=>rfl⟩,?_⟩;rintro ρ rfl;refine⟨λm ρ=>∃(c:Om)(s:Dk)(a:List Dk),m=a.length/\ρ=LW ns p c ws s a x r G l B/\Pl (12000-a.length) c/\SOk s/\(∀t∈a,SOk t)/\a.length<=100,⟨_,c,s,a,rfl,rfl,C.mono (by omega),u,J,I⟩,?_⟩;rintro m ρ ⟨c,s,a,rfl,rfl,C,u,J,I⟩;rcases KD a with e|⟨g,t,e⟩
 ·subst e;refine⟨λh=>(by cases h),λ_=>?_⟩
  have e6:bt s [] (.word "back")=6:=by show (if ("back":Str)="back"/\([]:List Dk)=[] then (6:Int) else 0)=6;exact Ia ⟨rfl,rfl⟩
  refine⟨⟨_,_,rfl⟩,_,rfl,rfl,_,s,[],rfl,u,by decide,?_⟩;rfl';refine⟨λ_=>?_,λh=>(by cases h)⟩;refine⟨⟨_,_,rfl⟩,_,rfl,rfl,_,s,[],"back",rfl,u,by decide,.inl ⟨_,.back s,?_⟩⟩;rw[e6];exact⟨_,rfl,q⟩
 rw[KG]at e;subst e;refine⟨λ_=>?_,λh=>?_⟩
 ·have em:(g++[t]).map aV=g.map aV++[aV t]:=by rw[IJ];rfl
  have e1:((g++[t]).map aV)[((g++[t]).map aV).length-1]?=some (aV t):=by rw[em,HY,HX (by simp)];simp
  have gl:g.length+1<=100:=by rw[HY]at I;exact I
  have U:=J t (by simp);have Z:bt s (g++[t]) (.word "back")=0:=Ib (by simp)
  have a1:cF s (g++[t]) (.word "back")=t:=by
   unfold cF;rw[Ia Z];show (g++[t]).getLast?.getD s=t;rw[LG];rfl
  have a2:cm s (g++[t]) (.word "back")=g:=by unfold cm;rw[Ia Z];exact J6
  refine⟨_,e1,g.map aV,(by rw[em,J6]),?_⟩;rfl';refine⟨λρ=>ρ=LW ns p c ws t g x r G l B,?_,?_⟩
  ·refine⟨⟨_,_,rfl⟩,_,rfl,rfl,_,s,g++[t],"back",rfl,u,by rw[HY];show g.length+1<500;omega,.inl ⟨_,.back s,?_⟩⟩;rw[a1,a2,Z,show iS s (g++[t]) (.word "back")=.str "ok" from Ia Z];rfl';exact⟨λh=>ff h,λ_=>rfl⟩
  rintro ρ rfl;rw[HY]at C;refine⟨⟨_,_,rfl⟩,_,rfl,rfl,_,_,4,_,rfl,C,by omega,by decide,cG (by decide),λz X z0 z1 M=>?_⟩;rfl';have M:Pl (12000-g.length) X:=M.mono (by show 12000-(g.length+1)+1<=_;omega);have T:∃m',m'<(g++[t]).length/\∃(c:Om)(s:Dk)(a:List Dk),m'=a.length/\LW ns p X ws t g x r G l B=LW ns p c ws s a x r G l B/\Pl (12000-a.length) c/\SOk s/\(∀t∈a,SOk t)/\a.length<=100:=⟨g.length,by simp,X,t,g,rfl,rfl,M,U,λz hz=>J z (JN _ hz),by omega⟩;refine⟨λ_=>⟨⟨_,_,rfl⟩,_,rfl,rfl,_,t,g,rfl,U,by omega,λh=>ff h,λ_=>T⟩,λ_=>⟨λh=>ff h,λ_=>T⟩⟩
 ·have:=IH h;rw[HV,HY,ME]at this;omega
end
def eh{A:Type}{p:List A->Prop}(h:∀a0,p [a0]):∀us:List A,us.length=1->p us
 | [a0],_=>h a0
def cV{A:Type}{p:List A->Prop}(h:∀a0 a1,p [a0,a1]):∀us:List A,us.length=2->p us
 | [a0,a1],_=>h a0 a1
def gJ{A:Type}{p:List A->Prop}(h:∀a0 a1 a2,p [a0,a1,a2]):∀us:List A,us.length=3->p us
 | [a0,a1,a2],_=>h a0 a1 a2
def vT{A:Type}{p:List A->Prop}(h:∀a0 a1 a2 a3,p [a0,a1,a2,a3]):∀us:List A,us.length=4->p us
 | [a0,a1,a2,a3],_=>h a0 a1 a2 a3
def xq{A:Type}{p:List A->Prop}(h:∀a0 a1 a2 a3 a4,p [a0,a1,a2,a3,a4]):∀us:List A,us.length=5->p us
 | [a0,a1,a2,a3,a4],_=>h a0 a1 a2 a3 a4
def xf{A:Type}{p:List A->Prop}(h:∀a0 a1 a2 a3 a4 a5 a6,p [a0,a1,a2,a3,a4,a5,a6]):∀us:List A,us.length=7->p us
 | [a0,a1,a2,a3,a4,a5,a6],_=>h a0 a1 a2 a3 a4 a5 a6
def all_mk{l:PySem.W.OpenLaw}{w:World}{K:PySem.W.Frag}{h:Heap}{mg:Str->Option Value}{fa TR TU TV TY:Addr}{c:Addr}(X:K.In h)(G:h.Ns mainGlobals mg)(hfa:mg "law"=some (.ref fa))
  {U8 U9 Va Vb Vc Vd Ve Vf:Option Addr} {Vg Vh Vi Vj:Array (Option Value)} {Vk Vl Vm Vn S8 Vo Vp Vq Vr Vs S9 Vt Vu Vv Vw Vx Ta Vy Vz VA VB VC Tb VD:Value}
  (OA:PySem.W.nsIn K mainGlobals "Desk"=some (some (.ref c)))
  (a1:Has K jM "turned")
  (a2:Has K jY "is_name")
  (a3:Has K kg "number_form")
  (a4:Has K ma "sum_form")
  (a5:Has K mO "unknown_form")
  (a6:Has K kZ "row_form")
  (a7:Has K lZ "worth_form")
  (a8:Has K lH "line_form")
  (a9:Has K nF "sum_entries")
  (a10:Has K kO "turned_numbers")
  (a11:Has K mr "written_unknown")
  (a12:Has K kr "written_sum")
  (a13:Has K lf "written_row")
  (a14:Has K mU "written_worth")
  (a15:Has K jp "write_plan")
  (a16:Has K jQ "with_unknown")
  (a17:Has K lu "with_row")
  (a18:Has K mF "with_worth")
  (a19:Has K mq "without_row")
  (a20:Has K mM "changed")
  (a21:Has K kF "numbers_form")
  (a22:Has K lB "say_form")
  (a23:Has K kY "_law_pool")
  (a24:Has K lP "_law_next")
  (a25:Has K mR "_law_names")
  (a26:Has K lD "_law_number")
  (a27:Has K jD "_law_sum")
  (a28:Has K kN "_law_unknown")
  (a29:Has K jB "_law_rowed")
  (a30:Has K kR "_law_sought")
  (a31:Has K mh "_law_taken")
  (a32:Has K lY "_law_change")
  (a33:Has K l7 "_law_terms")
  (a34:Has K nH "_law_text")
  (a35:Has K mZ "_law_said")
  (a36:Has K nq "_law_standing")
  (a37:Has K mL "_law_step")
  (a38:Has K lz "_law_next_change")
  (a39:Has K lv "law")
  (VE:PySem.W.findIn K (.ref c) "__init__"=some (some (.ref TR))) (VF:PySem.W.isFn K (.ref TR)=true) (VG:K.lookup TR=some ⟨Vk,U8,.func (PySem.W.fnOf "__init__" "Desk.__init__" (da ik) (cw ik) (ay ik) .none Vl Vm Vn U9 S8 Vo),Vg⟩) (VH:PySem.W.codeIn K S8 "Desk.__init__"=true) (VI:PySem.W.keepIn K (.ref TR)=true)
  (VJ:PySem.W.findIn K (.ref c) "say"=some (some (.ref TU))) (VL:PySem.W.isFn K (.ref TU)=true) (VM:K.lookup TU=some ⟨Vp,Va,.func (PySem.W.fnOf "say" "Desk.say" (da iF) (cw iF) (ay iF) .none Vq Vr Vs Vb S9 Vt),Vh⟩) (VN:PySem.W.codeIn K S9 "Desk.say"=true) (TZ:PySem.W.keepIn K (.ref TU)=true)
  (VO:PySem.W.findIn K (.ref c) "step_on"=some (some (.ref TV))) (VP:PySem.W.isFn K (.ref TV)=true) (VQ:K.lookup TV=some ⟨Vu,Vc,.func (PySem.W.fnOf "step_on" "Desk.step_on" (da iz) (cw iz) (ay iz) .none Vv Vw Vx Vd Ta Vy),Vi⟩) (VR:PySem.W.codeIn K Ta "Desk.step_on"=true) (T2:PySem.W.keepIn K (.ref TV)=true)
  (VS:PySem.W.findIn K (.ref c) "step_back"=some (some (.ref TY))) (VT:PySem.W.isFn K (.ref TY)=true) (VU:K.lookup TY=some ⟨Vz,Ve,.func (PySem.W.fnOf "step_back" "Desk.step_back" (da ii) (cw ii) (ay ii) .none VA VB VC Vf Tb VD),Vj⟩) (VW:PySem.W.codeIn K Tb "Desk.step_back"=true) (T3:PySem.W.keepIn K (.ref TY)=true)
  (Pb:PySem.W.plainGet K c Str.empty=true) (Pc:PySem.W.hasDictIn K c=true) (Pd:PySem.W.plainOver K c=true) (Pe:PySem.W.findIn K (.ref c) "__setattr__"=some (some (.builtin "object.__setattr__"))) (Pf:PySem.W.makesIn K c=true) (Pg:PySem.W.keepIn K (.ref c)=true)
  (Nz:PySem.W.findIn K (.ref c) "state"=some none)
  (Nu:PySem.W.findIn K (.ref c) "states"=some none)
  (Ph:PySem.W.nsIn K mainGlobals "tuple"=some none)
  (QG:PySem.W.nsIn K mainGlobals "all"=some none)
  {Ov:Tok} (Nk:PySem.W.nsIn K mainGlobals "MOST_LETTERS"=some (some (.int 12 Ov)))
  (QH:PySem.W.nsIn K mainGlobals "len"=some none)
  {P4:Tok} (Ob:PySem.W.nsIn K mainGlobals "LETTERS"=some (some (.str "abcdefghijklmnopqrstuvwxyz" P4)))
  (QI:PySem.W.nsIn K mainGlobals "int"=some none)
  {Ox:Tok} (Nl:PySem.W.nsIn K mainGlobals "MOST_FIGURES"=some (some (.int 4 Ox)))
  {P5:Tok} (Oc:PySem.W.nsIn K mainGlobals "FIGURES"=some (some (.str "0123456789" P5)))
  (Pj:PySem.W.nsIn K mainGlobals "range"=some none)
  (QJ:PySem.W.nsIn K mainGlobals "zip"=some none)
  {Od:Tok} (Ng:PySem.W.nsIn K mainGlobals "MOST_UNKNOWNS"=some (some (.int 8 Od)))
  {Pk:Tok} (NJ:PySem.W.nsIn K mainGlobals "MOST_ROWS"=some (some (.int 12 Pk)))
  (P6:PySem.W.nsIn K mainGlobals "list"=some none)
  (QK:PySem.W.nsIn K mainGlobals "str"=some none)
  (NA:PySem.W.nsIn K mainGlobals "isinstance"=some none)
  (QL:PySem.W.nsIn K mainGlobals "max"=some none)
  (f:iq K ij mw=true)
  {PH N3:Addr} {Qn Qo:Option Addr} {Qp Qq Qr OW Qs:Value} {Qt:Array (Option Value)} (PL:PySem.W.nsIn K mainGlobals "Twice"=some (some (.ref PH))) (PM:PySem.W.findIn K (.ref PH) "__init__"=some (some (.ref N3))) (OH:K.lookup N3=some ⟨.type "function",Qn,.func (PySem.W.fnOf "__init__" "Twice.__init__" (da jZ) (cw jZ) (ay jZ) .none Qp Qq Qr Qo OW Qs),Qt⟩) (OI:PySem.W.codeIn K OW "Twice.__init__"=true) (OJ:PySem.W.keepIn K (.ref N3)=true) (OK:initOf K "Twice"=some (some (.ref N3)))
  {Oo Nq:Addr} {Po Pp:Option Addr} {Pq Pr Pt N4 Pu:Value} {Pw:Array (Option Value)} (Oq:PySem.W.nsIn K mainGlobals "TooGreat"=some (some (.ref Oo))) (Ot:PySem.W.findIn K (.ref Oo) "__init__"=some (some (.ref Nq))) (NK:K.lookup Nq=some ⟨.type "function",Po,.func (PySem.W.fnOf "__init__" "TooGreat.__init__" (da jw) (cw jw) (ay jw) .none Pq Pr Pt Pp N4 Pu),Pw⟩) (NL:PySem.W.codeIn K N4 "TooGreat.__init__"=true) (NM:PySem.W.keepIn K (.ref Nq)=true) (NN:initOf K "TooGreat"=some (some (.ref Nq)))
  (OL:initOf K "NoRow"=some none)
  {OX NP:Addr} {P8 P9:Option Addr} {Qa Qb Qc OM Qd:Value} {Qe:Array (Option Value)} (OY:PySem.W.nsIn K mainGlobals "NoText"=some (some (.ref OX))) (OZ:PySem.W.findIn K (.ref OX) "__init__"=some (some (.ref NP))) (Oe:K.lookup NP=some ⟨.type "function",P8,.func (PySem.W.fnOf "__init__" "NoText.__init__" (da jW) (cw jW) (ay jW) .none Qa Qb Qc P9 OM Qd),Qe⟩) (Of:PySem.W.codeIn K OM "NoText.__init__"=true) (Og:PySem.W.keepIn K (.ref NP)=true) (Oh:initOf K "NoText"=some (some (.ref NP)))
  (NO:initOf K "NoChange"=some none) :
  ∃fd:FuncData,(∀(s:Shared)(v:Value),BindsTo s fd ⟨[v],[]⟩ [("_law_script",v)])/\∀base:Heap,K.In base->base.Ns mainGlobals mg->FnOk l.prog w K mg base bf 10 fa fd ["_law_script"] (sp_law K):=by
 obtain⟨f1,d1,F1,m1,_⟩:=a1.fn X G;obtain⟨f2,d2,F2,m2,_⟩:=a2.fn X G;obtain⟨f3,d3,F3,m3,_⟩:=a3.fn X G;obtain⟨f4,d4,F4,m4,_⟩:=a4.fn X G;obtain⟨f5,d5,F5,m5,_⟩:=a5.fn X G;obtain⟨f6,d6,F6,m6,_⟩:=a6.fn X G;obtain⟨f7,d7,F7,m7,_⟩:=a7.fn X G;obtain⟨f8,d8,F8,m8,_⟩:=a8.fn X G;obtain⟨f9,d9,F9,m9,_⟩:=a9.fn X G;obtain⟨f10,d10,r,m10,_⟩:=a10.fn X G;obtain⟨f11,d11,t,m11,_⟩:=a11.fn X G;obtain⟨f12,d12,u,m12,_⟩:=a12.fn X G;obtain⟨f13,d13,x,m13,_⟩:=a13.fn X G;obtain⟨f14,d14,y,m14,_⟩:=a14.fn X G;obtain⟨f15,d15,z,m15,_⟩:=a15.fn X G;obtain⟨f16,d16,A,m16,_⟩:=a16.fn X G;obtain⟨f17,d17,B,m17,_⟩:=a17.fn X G;obtain⟨f18,d18,C,m18,_⟩:=a18.fn X G;obtain⟨f19,d19,E,m19,_⟩:=a19.fn X G;obtain⟨f20,d20,F,m20,_⟩:=a20.fn X G;obtain⟨f21,d21,H,m21,_⟩:=a21.fn X G;obtain⟨f22,d22,I,m22,_⟩:=a22.fn X G;obtain⟨f23,d23,J,m23,_⟩:=a23.fn X G;obtain⟨f24,d24,M,m24,_⟩:=a24.fn X G;obtain⟨f25,d25,N,m25,_⟩:=a25.fn X G;obtain⟨f26,d26,O,m26,_⟩:=a26.fn X G;obtain⟨f27,d27,Q,m27,_⟩:=a27.fn X G;obtain⟨f28,d28,R,m28,_⟩:=a28.fn X G;obtain⟨f29,d29,S,m29,_⟩:=a29.fn X G;obtain⟨f30,d30,T,m30,_⟩:=a30.fn X G;obtain⟨f31,d31,U,m31,_⟩:=a31.fn X G;obtain⟨f32,d32,Y,m32,_⟩:=a32.fn X G;obtain⟨f33,d33,Z,m33,_⟩:=a33.fn X G;obtain⟨f34,d34,F34,m34,_⟩:=a34.fn X G;obtain⟨f35,d35,F35,m35,_⟩:=a35.fn X G;obtain⟨f36,d36,F36,m36,_⟩:=a36.fn X G;obtain⟨f37,d37,F37,m37,_⟩:=a37.fn X G;obtain⟨f38,d38,F38,m38,_⟩:=a38.fn X G;obtain⟨f39,d39,F39,m39,_,_,_,e⟩:=a39.fn X G;have F40:=kJ (st:=ik) VG VH VI;have b40:=F40.binds (ps:=["self"]) <|λ_ _ _ _ _ _=>eh λ_=>rfl;have F41:=kJ (st:=iF) VM VN TZ;have b41:=F41.binds (ps:=["self","line"]) <|λ_ _ _ _ _ _=>cV λ_ _=>rfl;have F42:=kJ (st:=iz) VQ VR T2;have b42:=F42.binds (ps:=["self","state"]) <|λ_ _ _ _ _ _=>cV λ_ _=>rfl;have F43:=kJ (st:=ii) VU VW T3;have b43:=F43.binds (ps:=["self"]) <|λ_ _ _ _ _ _=>eh λ_=>rfl;cases hfa.symm.trans m39;refine⟨d39,λs v=>by rw[e];exact .of_eq rfl,λbase _ _=>?_⟩;have m:=JI X G Ph;have ju:=JI X G QG;have Nh:∃g,mg "MOST_LETTERS"=some (.int 12 g):=⟨_,Kv X G Nk⟩;have a:=JI X G QH;have N8:∃g,mg "LETTERS"=some (.str "abcdefghijklmnopqrstuvwxyz" g):=⟨_,Kv X G Ob⟩;have gH:=JI X G QI;have Ni:∃g,mg "MOST_FIGURES"=some (.int 4 g):=⟨_,Kv X G Nl⟩;have N9:∃g,mg "FIGURES"=some (.str "0123456789" g):=⟨_,Kv X G Oc⟩;have eO:=JI X G Pj;have fh:=JI X G QJ;have Nf:∃g,mg "MOST_UNKNOWNS"=some (.int 8 g):=⟨_,Kv X G Ng⟩;have NI:∃g,mg "MOST_ROWS"=some (.int 12 g):=⟨_,Kv X G NJ⟩;have qU:=JI X G P6;have o:=JI X G QK;have qV:=JI X G NA;have qX:=JI X G QL;have p:TxtDesk K mg c:=⟨⟨Pb,Pc,Pd,Pe⟩,Nz,Nu,Kv X G OA,OA⟩;have Ex:=wR X G f;have Is:=Dh X G f;have OF:=iX X G f (nm:="NoName") (by lia);have O8:=iX X G f (nm:="Twice") (by lia);have NV:=iX X G f (nm:="TooGreat") (by lia);have OG:=iX X G f (nm:="NoText") (by lia);have O9:=iX X G f (nm:="NoRow") (by lia);have NW:=iX X G f (nm:="NoChange") (by lia);have O5:Rz1 l.prog w K mg base "Twice":=pE X G f (by lia) OK OH rfl OI OJ GN rfl VZ VZ (λ_=>rfl) (λ_ _ _ _ _ _=>cV λ_ _=>rfl);have Nb:Rz1 l.prog w K mg base "TooGreat":=pE X G f (by lia) NN NK rfl NL NM wK rfl VZ VZ (λ_=>rfl) (λ_ _ _ _ _ _=>cV λ_ _=>rfl);have O6:Rz0 K mg "NoRow":=su X G f (by lia) OL;have OE:Rz1 l.prog w K mg base "NoText":=pE X G f (by lia) Oh Oe rfl Of Og ww rfl VZ VZ (λ_=>rfl) (λ_ _ _ _ _ _=>cV λ_ _=>rfl);have NT:Rz0 K mg "NoChange":=su X G f (by lia) NO;have H1:=w8 (P:=l.prog) (w:=w) (mg:=mg) (base:=base) (n:=0) F1 m;have Q1:=F1.cl m1 (H1.imp cI) <|λ_ _ _ _ _ _=>eh λ_=>rfl;have H2:=Ge (P:=l.prog) (w:=w) (mg:=mg) (base:=base) (n:=0) F2 ju Nh a N8;have Q2:=F2.cl m2 (H2.imp cI) <|λ_ _ _ _ _ _=>eh λ_=>rfl;have H3:=xN (P:=l.prog) (w:=w) (mg:=mg) (base:=base) (n:=0) F3 gH Ni ju a N9;have Q3:=F3.cl m3 (H3.imp cI) <|λ_ _ _ _ _ _=>eh λ_=>rfl;have H4:=Ev (n:=1) F4 Q3.mono Q2.mono eO m a;have Q4:=F4.cl m4 (H4.imp cI) <|λ_ _ _ _ _ _=>eh λ_=>rfl;have H5:=zR (n:=1) F5 Q3.mono Q2.mono a;have Q5:=F5.cl m5 (H5.imp cI) <|λ_ _ _ _ _ _=>eh λ_=>rfl;have H6:=EA (n:=2) F6 Q4.mono Q3.mono a;have Q6:=F6.cl m6 (H6.imp cI) <|λ_ _ _ _ _ _=>eh λ_=>rfl;have H7:=EO (n:=2) F7 Q4.mono;have Q7:=F7.cl m7 (H7.imp cI) <|λ_ _ _ _ _ _=>eh λ_=>rfl;have H8:=Ae (n:=3) F8 Q5.mono Q6.mono Q7.mono;have Q8:=F8.cl m8 (H8.imp cI) <|λ_ _ _ _ _ _=>eh λ_=>rfl;have H9:=FI (P:=l.prog) (w:=w) (mg:=mg) (base:=base) (n:=0) F9 m a;have Q9:=F9.cl m9 (H9.imp cI) <|λ_ _ _ _ _ _=>gJ λ_ _ _=>rfl;have Ur:=zw (P:=l.prog) (w:=w) (mg:=mg) (base:=base) (n:=0) r m;have Q10:=r.cl m10 (Ur.imp cI) <|λ_ _ _ _ _ _=>eh λ_=>rfl;have H11:=Ga (P:=l.prog) (w:=w) (mg:=mg) (base:=base) (n:=0) t;have Q11:=t.cl m11 (H11.imp cI) <|λ_ _ _ _ _ _=>cV λ_ _=>rfl;have H12:=Gc (P:=l.prog) (w:=w) (mg:=mg) (base:=base) (n:=0) u a fh;have Q12:=u.cl m12 (H12.imp cI) <|λ_ _ _ _ _ _=>cV λ_ _=>rfl;have H13:=Gj (n:=1) x Q12.mono;have Q13:=x.cl m13 (H13.imp cI) <|λ_ _ _ _ _ _=>cV λ_ _=>rfl;have H14:=Ez (n:=1) y Q12.mono Q10.mono;have Q14:=y.cl m14 (H14.imp cI) <|λ_ _ _ _ _ _=>gJ λ_ _ _=>rfl;have H15:=wP (n:=2) z Q11.mono Q14.mono Q13.mono fh;have Q15:=z.cl m15 (H15.imp cI) <|λ_ _ _ _ _ _=>gJ λ_ _ _=>rfl;have H16:=Gf (P:=l.prog) (w:=w) (mg:=mg) (base:=base) (n:=0) A Nf m a O5 Nb;have R16:=A.clMX m16 H16 <|λ_ _ _ _ _ _=>gJ λ_ _ _=>rfl;have H17:=yG (P:=l.prog) (w:=w) (mg:=mg) (base:=base) (n:=0) B Q9.mono Q1.mono NI a Nb;have R17:=B.clMX m17 H17 <|λ_ _ _ _ _ _=>vT λ_ _ _ _=>rfl;have H18:=FG (n:=1) C Q9.mono Q10.mono;have Q18:=C.cl m18 (H18.imp cI) <|λ_ _ _ _ _ _=>gJ λ_ _ _=>rfl;have H19:=xz (P:=l.prog) (w:=w) (mg:=mg) (base:=base) (n:=0) E a O6;have R19:=E.clMX m19 H19 <|λ_ _ _ _ _ _=>cV λ_ _=>rfl;have H20:=AA (P:=l.prog) (w:=w) (mg:=mg) (base:=base) (n:=3) F R19.mono R16.mono R17.mono Q18.mono;have R20:=F.clMX m20 H20 <|λ_ _ _ _ _ _=>cV λ_ _=>rfl;have H21:=xA (n:=1) H Q3.mono m;have Q21:=H.cl m21 (H21.imp cI) <|λ_ _ _ _ _ _=>eh λ_=>rfl;have H22:=Hy (n:=4) I Q21.mono Q8.mono a;have Q22:=I.cl m22 (H22.imp cI) <|λ_ _ _ _ _ _=>cV λ_ _=>rfl;have H23:=AL (P:=l.prog) (w:=w) (mg:=mg) (base:=base) (n:=0) J a;have R23:=J.clM m23 H23 <|λ_ _ _ _ _ _=>cV λ_ _=>rfl;have H24:=A5 (P:=l.prog) (w:=w) (mg:=mg) (base:=base) (n:=0) M a;have j:=M.clM m24 H24 <|λ_ _ _ _ _ _=>cV λ_ _=>rfl;have H25:=EG (n:=1) N j.mono eO;have R25:=N.clM m25 H25 <|λ_ _ _ _ _ _=>cV λ_ _=>rfl;have H26:=xG (n:=1) O j.mono;have VX:=O.clM m26 H26 <|λ_ _ _ _ _ _=>eh λ_=>rfl;have H27:=xn (n:=2) Q j.mono VX.mono qU eO a m o;have R27:=Q.clM m27 H27 <|λ_ _ _ _ _ _=>cV λ_ _=>rfl;have H28:=Ew (n:=2) R VX.mono j.mono m o a;have R28:=R.clM m28 H28 <|λ_ _ _ _ _ _=>gJ λ_ _ _=>rfl;have H29:=Eo (n:=3) S R27.mono VX.mono o a m;have R29:=S.clM m29 H29 <|λ_ _ _ _ _ _=>gJ λ_ _ _=>rfl;have H30:=FE (n:=3) T j.mono R27.mono m;have R30:=T.clM m30 H30 <|λ_ _ _ _ _ _=>cV λ_ _=>rfl;have H31:=Em (n:=1) U j.mono o a;have R31:=U.clM m31 H31 <|λ_ _ _ _ _ _=>cV λ_ _=>rfl;have H32:=Bz (n:=4) Y j.mono R28.mono R29.mono R30.mono R31.mono a;have R32:=Y.clM m32 H32 <|λ_ _ _ _ _ _=>vT λ_ _ _ _=>rfl;have H33:=yq (P:=l.prog) (w:=w) (mg:=mg) (base:=base) (n:=0) Z fh a o;have Q33:=Z.cl m33 (H33.imp cI) <|λ_ _ _ _ _ _=>gJ λ_ _ _=>rfl;have H34:=DE (n:=1) F34 Q33.mono fh o gH;have Q34:=F34.cl m34 (H34.imp cI) <|λ_ _ _ _ _ _=>eh λ_=>rfl;have H38:=GH (n:=5) F38 R32.mono R28.mono R29.mono j.mono;have R38:=F38.clM m38 H38 <|λ_ _ _ _ _ _=>xf λ_ _ _ _ _ _ _=>rfl;have H40:=DV (P:=l.prog) (w:=w) (mg:=mg) (base:=base) (n:=0) F40 p;have R40:=MkM.mk ⟨_,_,H40,b40,⟨Pf,VE,VF,Pg⟩⟩;have H42:=Ab (P:=l.prog) (w:=w) (mg:=mg) (base:=base) (n:=0) F42 p;have R42:=MthM.mk ⟨_,_,H42,b42,⟨VO,VP,T2⟩⟩;have H43:=xa (P:=l.prog) (w:=w) (mg:=mg) (base:=base) (n:=0) F43 p a NT;have R43:=MthMX.mk ⟨_,_,H43,b43,⟨VS,VT,T3⟩⟩;have H41:=Bk (P:=l.prog) (w:=w) (mg:=mg) (base:=base) (n:=3) F41 p Q22.mono Q15.mono R20.mono R43.mono R42.mono a OE;have R41:=MthMX.mk ⟨_,_,H41,b41,⟨VJ,VL,TZ⟩⟩;have H35:=y3 (P:=l.prog) (w:=w) (mg:=mg) (base:=base) (n:=6) F35 p R41.mono Ex Is NV O8 OF OG O9 NW;have VY:=F35.clM m35 H35 <|λ_ _ _ _ _ _=>cV λ_ _=>rfl;have H36:=A3 (n:=7) F36 VY.mono Q34.mono qV o;have R36:=F36.clM m36 H36 <|λ_ _ _ _ _ _=>cV λ_ _=>rfl;have H37:=Gi (n:=8) F37 VY.mono j.mono R36.mono;have R37:=F37.clM m37 H37 <|λ_ _ _ _ _ _=>xq λ_ _ _ _ _=>rfl;have H39:=zm (n:=8) F39 p R23.mono R25.mono j.mono R36.mono R38.mono R37.mono VY.mono R40.mono eO gH a qX;exact (H39.imp cI).imp Cp
def walk{l:PySem.W.OpenLaw}{q:Program}{c:List Str}{r:(Str->Option Value)->Heap->Prop}{g:World->Heap->Prop}{d:DefRec}{K:Params->PySem.W.Frag}(C:l.most=some 63)(p:d.params.defaults=[])(e:PyProof.Rows.importsNone q=true)
  (A:∀(w:World)(h:Heap),g w h->(K w.params).In h) (v:∀w:World,tK (K w.params)=[])
  (F:∀(w:World)(mg:Str->Option Value)(j:Addr)(h:Heap),(K w.params).In h->h.Ns mainGlobals mg->mg d.name=some (.ref j)->
   ∃m:FuncData,(∀(s:Shared)(u:Value),BindsTo s m ⟨[u],[]⟩ [("_law_script",u)])/\∀base:Heap,(K w.params).In base->base.Ns mainGlobals mg->FnOk l.prog w (K w.params) mg base bf 10 j m ["_law_script"] (sp_law (K w.params))) :
  PySem.W.WalkO q c r g l.row.toRowW d [] (λf vs=>PySem.call f vs):=
 L2.walk_of (n:=63) (k:=10) (x:="_law_script") (CX:=λ_=>bf) (sp:=λw=>sp_law (K w.params)) C (by decide) p e ⟨rfl,by decide,by decide⟩ A F (λw H a ns B _ y=>⟨a,ns,rfl,y,B,(λt o=>by rw[v w]at o;cases o),λ_=>rfl⟩) λ_ _ _ _ _ z=>z
end Kx
namespace Kx
open PySem PySem.W L2
noncomputable def KK:Params->Frag:=λP=>
 (nat_lit 2,⟨.none,none,(.dict #[] 0),#[]⟩) ::
 (nat_lit 3,⟨(.type "dict"),none,(.dict #[dE P "__name__" 165 ((.str "law_cutyard_k70_a_desk_changed" 1619)),dE P "__doc__" 166 (.none),dE P "__package__" 167 (.none),dE P "__loader__" 168 ((.builtin "__main__.__loader__#opaque")),dE P "__spec__" 169 (.none),dE P "__annotations__" 170 ((.ref 6)),dE P "__builtins__" 171 ((.ref 4)),dE P "__file__" 173 ((.str "/claim/cut.py" 172)),dE P "__cached__" 174 (.none),dE P "YardError" 206 ((.ref 24)),dE P "NoNumber" 222 ((.ref 37)),dE P "NoName" 247 ((.ref 56)),dE P "Twice" 272 ((.ref 75)),dE P "TooGreat" 297 ((.ref 94)),dE P "NoText" 322 ((.ref 113)),dE P "NoRow" 338 ((.ref 125)),dE P "NoChange" 354 ((.ref 137)),dE P "common_of_two" 367 ((.ref 146)),dE P "common" 376 ((.ref 153)),dE P "up" 384 ((.ref 160)),dE P "nearest" 392 ((.ref 167)),dE P "lowest" 398 ((.ref 172)),dE P "unit" 406 ((.ref 177)),dE P "width" 413 ((.ref 184)),dE P "left" 419 ((.ref 189)),dE P "meets" 427 ((.ref 196)),dE P "turned" 433 ((.ref 201)),dE P "evened" 439 ((.ref 206)),dE P "Stand" 476 ((.ref 223)),dE P "beginning" 482 ((.ref 232)),dE P "growths" 488 ((.ref 237)),dE P "over" 496 ((.ref 244)),dE P "missed_row" 506 ((.ref 251)),dE P "least_grown" 512 ((.ref 256)),dE P "stopping_row" 528 ((.ref 263)),dE P "moved" 534 ((.ref 268)),dE P "exchanged" 540 ((.ref 273)),dE P "fallen" 546 ((.ref 278)),dE P "in_lowest" 552 ((.ref 283)),dE P "none_ending" 562 ((.ref 290)),dE P "best_ending" 571 ((.ref 297)),dE P "endless_ending" 577 ((.ref 302)),dE P "next_step" 591 ((.ref 309)),dE P "walk_on" 603 ((.ref 316)),dE P "walk" 611 ((.ref 323)),dE P "first" 619 ((.ref 330)),dE P "MOST_UNKNOWNS" 623 ((.int 8 622)),dE P "MOST_ROWS" 625 ((.int 12 624)),dE P "givens" 631 ((.ref 335)),dE P "worth" 639 ((.ref 342)),dE P "less" 647 ((.ref 347)),dE P "Basis" 727 ((.ref 397)),dE P "plain_basis" 733 ((.ref 406)),dE P "greatest_first" 741 ((.ref 411)),dE P "gather" 747 ((.ref 416)),dE P "levels" 759 ((.ref 423)),dE P "Lengths" 853 ((.ref 480)),dE P "lean_off" 864 ((.ref 491)),dE P "shorten" 875 ((.ref 498)),dE P "Side" 910 ((.ref 515)),dE P "walk_side" 918 ((.ref 526)),dE P "side_with" 924 ((.ref 531)),dE P "Choice" 958 ((.ref 548)),dE P "shut_lines" 966 ((.ref 559)),dE P "broken_form" 975 ((.ref 566)),dE P "near_choice" 981 ((.ref 571)),dE P "PARTS" 985 ((.int 1048576 984)),dE P "MOST_FITTINGS" 987 ((.int 6 986)),dE P "parts_between" 997 ((.ref 578)),dE P "reaches" 1003 ((.ref 583)),dE P "Shape" 1103 ((.ref 650)),dE P "fitted_shape" 1112 ((.ref 661)),dE P "summed" 1120 ((.ref 666)),dE P "divided" 1126 ((.ref 671)),dE P "ask_still" 1132 ((.ref 676)),dE P "inner" 1146 ((.ref 683)),dE P "FEW_CHOICES" 1150 ((.int 40 1149)),dE P "MOST_SHAPES" 1152 ((.int 100 1151)),dE P "tied_basis" 1158 ((.ref 688)),dE P "corner_spot" 1164 ((.ref 693)),dE P "search_by_forms" 1181 ((.ref 700)),dE P "search" 1187 ((.ref 705)),dE P "along_ray" 1193 ((.ref 710)),dE P "found" 1199 ((.ref 715)),dE P "raised_stand" 1207 ((.ref 720)),dE P "raised_side" 1219 ((.ref 727)),dE P "Climb" 1308 ((.ref 780)),dE P "settled" 1323 ((.ref 791)),dE P "LETTERS" 1327 ((.str "abcdefghijklmnopqrstuvwxyz" 1326)),dE P "FIGURES" 1329 ((.str "0123456789" 1328)),dE P "MOST_LETTERS" 1331 ((.int 12 1330)),dE P "MOST_FIGURES" 1333 ((.int 4 1332)),dE P "is_name" 1339 ((.ref 796)),dE P "number_form" 1345 ((.ref 801)),dE P "sum_form" 1356 ((.ref 808)),dE P "unknown_form" 1365 ((.ref 815)),dE P "row_form" 1374 ((.ref 822)),dE P "worth_form" 1382 ((.ref 829)),dE P "line_form" 1390 ((.ref 836)),dE P "sum_entries" 1403 ((.ref 843)),dE P "turned_numbers" 1409 ((.ref 848)),dE P "written_unknown" 1419 ((.ref 855)),dE P "written_sum" 1425 ((.ref 860)),dE P "written_row" 1435 ((.ref 867)),dE P "written_worth" 1445 ((.ref 874)),dE P "write_plan" 1451 ((.ref 879)),dE P "with_unknown" 1459 ((.ref 884)),dE P "with_row" 1472 ((.ref 891)),dE P "with_worth" 1483 ((.ref 898)),dE P "without_row" 1492 ((.ref 905)),dE P "changed" 1500 ((.ref 912)),dE P "named" 1511 ((.ref 919)),dE P "asked" 1521 ((.ref 926)),dE P "tried" 1536 ((.ref 933)),dE P "in_fractions" 1549 ((.ref 940)),dE P "numbers_form" 1555 ((.ref 945)),dE P "say_form" 1565 ((.ref 952)),dE P "Desk" 1618 ((.ref 990)),dE P "_law_pool" 1629 ((.ref 1001)),dE P "_law_next" 1640 ((.ref 1008)),dE P "_law_names" 1655 ((.ref 1015)),dE P "_law_number" 1663 ((.ref 1022)),dE P "_law_sum" 1669 ((.ref 1027)),dE P "_law_unknown" 1675 ((.ref 1032)),dE P "_law_rowed" 1681 ((.ref 1037)),dE P "_law_sought" 1687 ((.ref 1042)),dE P "_law_taken" 1702 ((.ref 1049)),dE P "_law_change" 1713 ((.ref 1056)),dE P "_law_terms" 1725 ((.ref 1063)),dE P "_law_text" 1742 ((.ref 1070)),dE P "_law_said" 1754 ((.ref 1077)),dE P "_law_standing" 1764 ((.ref 1084)),dE P "_law_step" 1780 ((.ref 1091)),dE P "_law_next_change" 1793 ((.ref 1098)),dE P "law" 1810 ((.ref 1105))] 135),#[]⟩) ::
 (nat_lit 15,⟨(.type "tuple"),none,(.seq #[(.type "ValueError")] 0),#[]⟩) ::
 (nat_lit 22,⟨(.type "tuple"),none,(.seq #[] 0),#[]⟩) ::
 (nat_lit 23,⟨(.type "dict"),none,(.dict #[dE P "__module__" 196 ((.str "cutyard.errors" 187)),dE P "__firstlineno__" 200 ((.int 2 199)),dE P "__static_attributes__" 201 ((.ref 22)),dE P "__weakref__" 203 ((.ref 25)),dE P "__doc__" 204 (.none)] 3),#[]⟩) ::
 (nat_lit 24,⟨(.type "type"),none,(.cls ⟨"YardError",[(.type "ValueError")],[(.ref 24),(.type "ValueError"),(.type "Exception"),(.type "BaseException"),(.type "object")],23,"YardError",true,[],[(.ref 37),(.ref 56),(.ref 75),(.ref 94),(.ref 113),(.ref 125),(.ref 137)],false,none,false⟩),#[(some (.ref 15)),none,(some (.str "YardError" 189)),(some (.str "YardError" 197)),(some (.builtin "ValueError.__new__")),(some (.bool true))]⟩) ::
 (nat_lit 25,⟨(.type "getset_descriptor"),none,(.fields #[(.str "__weakref__" 202),(.ref 24),(.builtin "ExceptionGroup.__weakref__"),.none]),#[]⟩) ::
 (nat_lit 28,⟨(.type "tuple"),none,(.seq #[(.ref 24)] 0),#[]⟩) ::
 (nat_lit 35,⟨(.type "tuple"),none,(.seq #[] 0),#[]⟩) ::
 (nat_lit 36,⟨(.type "dict"),none,(.dict #[dE P "__module__" 214 ((.str "cutyard.errors" 187)),dE P "__firstlineno__" 218 ((.int 4 217)),dE P "__static_attributes__" 219 ((.ref 35)),dE P "__doc__" 220 (.none)] 2),#[]⟩) ::
 (nat_lit 37,⟨(.type "type"),none,(.cls ⟨"NoNumber",[(.ref 24)],[(.ref 37),(.ref 24),(.type "ValueError"),(.type "Exception"),(.type "BaseException"),(.type "object")],36,"NoNumber",true,[],[],false,none,false⟩),#[(some (.ref 28)),none,(some (.str "NoNumber" 207)),(some (.str "NoNumber" 215)),(some (.builtin "ValueError.__new__")),(some (.bool true))]⟩) ::
 (nat_lit 40,⟨(.type "tuple"),none,(.seq #[(.ref 24)] 0),#[]⟩) ::
(nat_lit 52,cO "__init__" 235 "NoName.__init__" 236 237 8 2 3 47 181 48 (.ref 49) (.ref 50) 51 240 241) ::
 (nat_lit 53,fO Dq "__init__" "NoName.__init__" "cutyard.errors" 187 52) ::
 (nat_lit 54,⟨(.type "tuple"),none,(.seq #[(.str "at" 243)] 0),#[]⟩) ::
 (nat_lit 55,⟨(.type "dict"),none,(.dict #[dE P "__module__" 230 ((.str "cutyard.errors" 187)),dE P "__firstlineno__" 234 ((.int 6 233)),dE P "__init__" 242 ((.ref 53)),dE P "__static_attributes__" 244 ((.ref 54)),dE P "__doc__" 245 (.none)] 2),#[]⟩) ::
 (nat_lit 56,⟨(.type "type"),none,(.cls ⟨"NoName",[(.ref 24)],[(.ref 56),(.ref 24),(.type "ValueError"),(.type "Exception"),(.type "BaseException"),(.type "object")],55,"NoName",true,[],[],false,none,false⟩),#[(some (.ref 40)),none,(some (.str "NoName" 223)),(some (.str "NoName" 231)),(some (.builtin "ValueError.__new__")),(some (.bool true))]⟩) ::
 (nat_lit 59,⟨(.type "tuple"),none,(.seq #[(.ref 24)] 0),#[]⟩) ::
(nat_lit 71,cO "__init__" 260 "Twice.__init__" 261 262 12 2 3 66 181 67 (.ref 68) (.ref 69) 70 265 266) ::
 (nat_lit 72,fO jZ "__init__" "Twice.__init__" "cutyard.errors" 187 71) ::
 (nat_lit 73,⟨(.type "tuple"),none,(.seq #[(.str "at" 268)] 0),#[]⟩) ::
 (nat_lit 74,⟨(.type "dict"),none,(.dict #[dE P "__module__" 255 ((.str "cutyard.errors" 187)),dE P "__firstlineno__" 259 ((.int 10 258)),dE P "__init__" 267 ((.ref 72)),dE P "__static_attributes__" 269 ((.ref 73)),dE P "__doc__" 270 (.none)] 2),#[]⟩) ::
 (nat_lit 75,⟨(.type "type"),none,(.cls ⟨"Twice",[(.ref 24)],[(.ref 75),(.ref 24),(.type "ValueError"),(.type "Exception"),(.type "BaseException"),(.type "object")],74,"Twice",true,[],[],false,none,false⟩),#[(some (.ref 59)),none,(some (.str "Twice" 248)),(some (.str "Twice" 256)),(some (.builtin "ValueError.__new__")),(some (.bool true))]⟩) ::
 (nat_lit 78,⟨(.type "tuple"),none,(.seq #[(.ref 24)] 0),#[]⟩) ::
(nat_lit 90,cO "__init__" 285 "TooGreat.__init__" 286 287 16 2 3 85 181 86 (.ref 87) (.ref 88) 89 290 291) ::
 (nat_lit 91,fO jw "__init__" "TooGreat.__init__" "cutyard.errors" 187 90) ::
 (nat_lit 92,⟨(.type "tuple"),none,(.seq #[(.str "at" 293)] 0),#[]⟩) ::
 (nat_lit 93,⟨(.type "dict"),none,(.dict #[dE P "__module__" 280 ((.str "cutyard.errors" 187)),dE P "__firstlineno__" 284 ((.int 14 283)),dE P "__init__" 292 ((.ref 91)),dE P "__static_attributes__" 294 ((.ref 92)),dE P "__doc__" 295 (.none)] 2),#[]⟩) ::
 (nat_lit 94,⟨(.type "type"),none,(.cls ⟨"TooGreat",[(.ref 24)],[(.ref 94),(.ref 24),(.type "ValueError"),(.type "Exception"),(.type "BaseException"),(.type "object")],93,"TooGreat",true,[],[],false,none,false⟩),#[(some (.ref 78)),none,(some (.str "TooGreat" 273)),(some (.str "TooGreat" 281)),(some (.builtin "ValueError.__new__")),(some (.bool true))]⟩) ::
 (nat_lit 97,⟨(.type "tuple"),none,(.seq #[(.ref 24)] 0),#[]⟩) ::
(nat_lit 109,cO "__init__" 310 "NoText.__init__" 311 312 20 2 3 104 181 105 (.ref 106) (.ref 107) 108 315 316) ::
 (nat_lit 110,fO jW "__init__" "NoText.__init__" "cutyard.errors" 187 109) ::
 (nat_lit 111,⟨(.type "tuple"),none,(.seq #[(.str "at" 318)] 0),#[]⟩) ::
 (nat_lit 112,⟨(.type "dict"),none,(.dict #[dE P "__module__" 305 ((.str "cutyard.errors" 187)),dE P "__firstlineno__" 309 ((.int 18 308)),dE P "__init__" 317 ((.ref 110)),dE P "__static_attributes__" 319 ((.ref 111)),dE P "__doc__" 320 (.none)] 2),#[]⟩) ::
 (nat_lit 113,⟨(.type "type"),none,(.cls ⟨"NoText",[(.ref 24)],[(.ref 113),(.ref 24),(.type "ValueError"),(.type "Exception"),(.type "BaseException"),(.type "object")],112,"NoText",true,[],[],false,none,false⟩),#[(some (.ref 97)),none,(some (.str "NoText" 298)),(some (.str "NoText" 306)),(some (.builtin "ValueError.__new__")),(some (.bool true))]⟩) ::
 (nat_lit 116,⟨(.type "tuple"),none,(.seq #[(.ref 24)] 0),#[]⟩) ::
 (nat_lit 123,⟨(.type "tuple"),none,(.seq #[] 0),#[]⟩) ::
 (nat_lit 124,⟨(.type "dict"),none,(.dict #[dE P "__module__" 330 ((.str "cutyard.errors" 187)),dE P "__firstlineno__" 334 ((.int 22 333)),dE P "__static_attributes__" 335 ((.ref 123)),dE P "__doc__" 336 (.none)] 2),#[]⟩) ::
 (nat_lit 125,⟨(.type "type"),none,(.cls ⟨"NoRow",[(.ref 24)],[(.ref 125),(.ref 24),(.type "ValueError"),(.type "Exception"),(.type "BaseException"),(.type "object")],124,"NoRow",true,[],[],false,none,false⟩),#[(some (.ref 116)),none,(some (.str "NoRow" 323)),(some (.str "NoRow" 331)),(some (.builtin "ValueError.__new__")),(some (.bool true))]⟩) ::
 (nat_lit 128,⟨(.type "tuple"),none,(.seq #[(.ref 24)] 0),#[]⟩) ::
 (nat_lit 135,⟨(.type "tuple"),none,(.seq #[] 0),#[]⟩) ::
 (nat_lit 136,⟨(.type "dict"),none,(.dict #[dE P "__module__" 346 ((.str "cutyard.errors" 187)),dE P "__firstlineno__" 350 ((.int 24 349)),dE P "__static_attributes__" 351 ((.ref 135)),dE P "__doc__" 352 (.none)] 2),#[]⟩) ::
 (nat_lit 137,⟨(.type "type"),none,(.cls ⟨"NoChange",[(.ref 24)],[(.ref 137),(.ref 24),(.type "ValueError"),(.type "Exception"),(.type "BaseException"),(.type "object")],136,"NoChange",true,[],[],false,none,false⟩),#[(some (.ref 128)),none,(some (.str "NoChange" 339)),(some (.str "NoChange" 347)),(some (.builtin "ValueError.__new__")),(some (.bool true))]⟩) ::
(nat_lit 200,cO "turned" 428 "turned" 429 430 62 1 3 197 181 198 .none .none 199 431 432) ::
 (nat_lit 201,fO jM "turned" "turned" "cutyard.rows" 399 200) ::
(nat_lit 795,cO "is_name" 1334 "is_name" 1335 1336 615 1 3 792 181 793 .none .none 794 1337 1338) ::
 (nat_lit 796,fO jY "is_name" "is_name" "cutyard.texts" 1324 795) ::
(nat_lit 800,cO "number_form" 1340 "number_form" 1341 1342 619 1 3 797 181 798 .none .none 799 1343 1344) ::
 (nat_lit 801,fO kg "number_form" "number_form" "cutyard.texts" 1324 800) ::
(nat_lit 807,cO "sum_form" 1346 "sum_form" 1347 1348 628 1 3 802 181 803 (.ref 804) (.ref 805) 806 1354 1355) ::
 (nat_lit 808,fO ma "sum_form" "sum_form" "cutyard.texts" 1324 807) ::
(nat_lit 814,cO "unknown_form" 1357 "unknown_form" 1358 1359 643 1 3 809 181 810 (.ref 811) (.ref 812) 813 1363 1364) ::
 (nat_lit 815,fO mO "unknown_form" "unknown_form" "cutyard.texts" 1324 814) ::
(nat_lit 821,cO "row_form" 1366 "row_form" 1367 1368 655 1 3 816 181 817 (.ref 818) (.ref 819) 820 1372 1373) ::
 (nat_lit 822,fO kZ "row_form" "row_form" "cutyard.texts" 1324 821) ::
(nat_lit 828,cO "worth_form" 1375 "worth_form" 1376 1377 663 1 3 823 181 824 (.ref 825) (.ref 826) 827 1380 1381) ::
 (nat_lit 829,fO lZ "worth_form" "worth_form" "cutyard.texts" 1324 828) ::
(nat_lit 835,cO "line_form" 1383 "line_form" 1384 1385 668 1 3 830 181 831 (.ref 832) (.ref 833) 834 1388 1389) ::
 (nat_lit 836,fO lH "line_form" "line_form" "cutyard.texts" 1324 835) ::
(nat_lit 842,cO "sum_entries" 1391 "sum_entries" 1392 1393 677 3 3 837 181 838 (.ref 839) (.ref 840) 841 1401 1402) ::
 (nat_lit 843,fO nF "sum_entries" "sum_entries" "cutyard.texts" 1324 842) ::
(nat_lit 847,cO "turned_numbers" 1404 "turned_numbers" 1405 1406 688 1 3 844 181 845 .none .none 846 1407 1408) ::
 (nat_lit 848,fO kO "turned_numbers" "turned_numbers" "cutyard.texts" 1324 847) ::
(nat_lit 854,cO "written_unknown" 1410 "written_unknown" 1411 1412 690 2 3 849 181 850 (.ref 851) (.ref 852) 853 1417 1418) ::
 (nat_lit 855,fO mr "written_unknown" "written_unknown" "cutyard.texts" 1324 854) ::
(nat_lit 859,cO "written_sum" 1420 "written_sum" 1421 1422 696 2 3 856 181 857 .none .none 858 1423 1424) ::
 (nat_lit 860,fO kr "written_sum" "written_sum" "cutyard.texts" 1324 859) ::
(nat_lit 866,cO "written_row" 1426 "written_row" 1427 1428 701 2 3 861 181 862 (.ref 863) (.ref 864) 865 1433 1434) ::
 (nat_lit 867,fO lf "written_row" "written_row" "cutyard.texts" 1324 866) ::
(nat_lit 873,cO "written_worth" 1436 "written_worth" 1437 1438 705 3 3 868 181 869 (.ref 870) (.ref 871) 872 1443 1444) ::
 (nat_lit 874,fO mU "written_worth" "written_worth" "cutyard.texts" 1324 873) ::
(nat_lit 878,cO "write_plan" 1446 "write_plan" 1447 1448 711 3 3 875 181 876 .none .none 877 1449 1450) ::
 (nat_lit 879,fO jp "write_plan" "write_plan" "cutyard.texts" 1324 878) ::
(nat_lit 883,cO "with_unknown" 1454 "with_unknown" 1455 1456 717 3 3 880 181 881 .none .none 882 1457 1458) ::
 (nat_lit 884,fO jQ "with_unknown" "with_unknown" "cutyard.desk" 1452 883) ::
(nat_lit 890,cO "with_row" 1460 "with_row" 1461 1462 726 4 3 885 181 886 (.ref 887) (.ref 888) 889 1470 1471) ::
 (nat_lit 891,fO lu "with_row" "with_row" "cutyard.desk" 1452 890) ::
(nat_lit 897,cO "with_worth" 1473 "with_worth" 1474 1475 733 3 3 892 181 893 (.ref 894) (.ref 895) 896 1481 1482) ::
 (nat_lit 898,fO mF "with_worth" "with_worth" "cutyard.desk" 1452 897) ::
(nat_lit 904,cO "without_row" 1484 "without_row" 1485 1486 739 2 3 899 181 900 (.ref 901) (.ref 902) 903 1490 1491) ::
 (nat_lit 905,fO mq "without_row" "without_row" "cutyard.desk" 1452 904) ::
(nat_lit 911,cO "changed" 1493 "changed" 1494 1495 744 2 3 906 181 907 (.ref 908) (.ref 909) 910 1498 1499) ::
 (nat_lit 912,fO mM "changed" "changed" "cutyard.desk" 1452 911) ::
(nat_lit 944,cO "numbers_form" 1550 "numbers_form" 1551 1552 786 1 3 941 181 942 .none .none 943 1553 1554) ::
 (nat_lit 945,fO kF "numbers_form" "numbers_form" "cutyard.desk" 1452 944) ::
(nat_lit 951,cO "say_form" 1556 "say_form" 1557 1558 789 2 3 946 181 947 (.ref 948) (.ref 949) 950 1563 1564) ::
 (nat_lit 952,fO lB "say_form" "say_form" "cutyard.desk" 1452 951) ::
(nat_lit 965,cO "__init__" 1578 "Desk.__init__" 1579 1580 801 1 3 960 181 961 (.ref 962) (.ref 963) 964 1582 1583) ::
 (nat_lit 966,fO ik "__init__" "Desk.__init__" "cutyard.desk" 1452 965) ::
(nat_lit 972,cO "say" 1585 "Desk.say" 1586 1587 805 2 3 967 181 968 (.ref 969) (.ref 970) 971 1591 1592) ::
 (nat_lit 973,fO iF "say" "Desk.say" "cutyard.desk" 1452 972) ::
(nat_lit 979,cO "step_on" 1594 "Desk.step_on" 1595 1596 823 2 3 974 181 975 (.ref 976) (.ref 977) 978 1599 1600) ::
 (nat_lit 980,fO iz "step_on" "Desk.step_on" "cutyard.desk" 1452 979) ::
(nat_lit 986,cO "step_back" 1602 "Desk.step_back" 1603 1604 827 1 3 981 181 982 (.ref 983) (.ref 984) 985 1606 1607) ::
 (nat_lit 987,fO ii "step_back" "Desk.step_back" "cutyard.desk" 1452 986) ::
 (nat_lit 988,⟨(.type "tuple"),none,(.seq #[(.str "state" 1609),(.str "states" 1610)] 0),#[]⟩) ::
 (nat_lit 989,⟨(.type "dict"),none,(.dict #[dE P "__module__" 1573 ((.str "cutyard.desk" 1452)),dE P "__firstlineno__" 1577 ((.int 799 1576)),dE P "__init__" 1584 ((.ref 966)),dE P "say" 1593 ((.ref 973)),dE P "step_on" 1601 ((.ref 980)),dE P "step_back" 1608 ((.ref 987)),dE P "__static_attributes__" 1611 ((.ref 988)),dE P "__dict__" 1613 ((.ref 991)),dE P "__weakref__" 1615 ((.ref 992)),dE P "__doc__" 1616 (.none)] 4),#[]⟩) ::
 (nat_lit 990,⟨(.type "type"),none,(.cls ⟨"Desk",[(.type "object")],[(.ref 990),(.type "object")],989,"Desk",true,[],[],false,none,false⟩),#[none,none,(some (.str "Desk" 1566)),(some (.str "Desk" 1574)),(some (.builtin "object.__new__")),(some (.bool true))]⟩) ::
 (nat_lit 991,⟨(.type "getset_descriptor"),none,(.fields #[(.str "__dict__" 1612),(.ref 990),(.builtin "function.__dict__"),(.builtin "function.__dict__#set")]),#[]⟩) ::
 (nat_lit 992,⟨(.type "getset_descriptor"),none,(.fields #[(.str "__weakref__" 1614),(.ref 990),(.builtin "ExceptionGroup.__weakref__"),.none]),#[]⟩) ::
(nat_lit 1000,cO "_law_pool" 1621 "_law_pool" 1622 1623 832 2 3 995 181 996 (.ref 997) (.ref 998) 999 1627 1628) ::
 (nat_lit 1001,fO kY "_law_pool" "_law_pool" "law_cutyard_k70_a_desk_changed" 1619 1000) ::
(nat_lit 1007,cO "_law_next" 1630 "_law_next" 1631 1632 837 2 3 1002 181 1003 (.ref 1004) (.ref 1005) 1006 1638 1639) ::
 (nat_lit 1008,fO lP "_law_next" "_law_next" "law_cutyard_k70_a_desk_changed" 1619 1007) ::
(nat_lit 1014,cO "_law_names" 1641 "_law_names" 1642 1643 849 2 3 1009 181 1010 (.ref 1011) (.ref 1012) 1013 1653 1654) ::
 (nat_lit 1015,fO mR "_law_names" "_law_names" "law_cutyard_k70_a_desk_changed" 1619 1014) ::
(nat_lit 1021,cO "_law_number" 1656 "_law_number" 1657 1658 867 1 3 1016 181 1017 (.ref 1018) (.ref 1019) 1020 1661 1662) ::
 (nat_lit 1022,fO lD "_law_number" "_law_number" "law_cutyard_k70_a_desk_changed" 1619 1021) ::
(nat_lit 1026,cO "_law_sum" 1664 "_law_sum" 1665 1666 874 2 3 1023 181 1024 .none .none 1025 1667 1668) ::
 (nat_lit 1027,fO jD "_law_sum" "_law_sum" "law_cutyard_k70_a_desk_changed" 1619 1026) ::
(nat_lit 1031,cO "_law_unknown" 1670 "_law_unknown" 1671 1672 885 3 3 1028 181 1029 .none .none 1030 1673 1674) ::
 (nat_lit 1032,fO kN "_law_unknown" "_law_unknown" "law_cutyard_k70_a_desk_changed" 1619 1031) ::
(nat_lit 1036,cO "_law_rowed" 1676 "_law_rowed" 1677 1678 899 3 3 1033 181 1034 .none .none 1035 1679 1680) ::
 (nat_lit 1037,fO jB "_law_rowed" "_law_rowed" "law_cutyard_k70_a_desk_changed" 1619 1036) ::
(nat_lit 1041,cO "_law_sought" 1682 "_law_sought" 1683 1684 910 2 3 1038 181 1039 .none .none 1040 1685 1686) ::
 (nat_lit 1042,fO kR "_law_sought" "_law_sought" "law_cutyard_k70_a_desk_changed" 1619 1041) ::
(nat_lit 1048,cO "_law_taken" 1688 "_law_taken" 1689 1690 917 2 3 1043 181 1044 (.ref 1045) (.ref 1046) 1047 1700 1701) ::
 (nat_lit 1049,fO mh "_law_taken" "_law_taken" "law_cutyard_k70_a_desk_changed" 1619 1048) ::
(nat_lit 1055,cO "_law_change" 1703 "_law_change" 1704 1705 924 4 3 1050 181 1051 (.ref 1052) (.ref 1053) 1054 1711 1712) ::
 (nat_lit 1056,fO lY "_law_change" "_law_change" "law_cutyard_k70_a_desk_changed" 1619 1055) ::
(nat_lit 1062,cO "_law_terms" 1714 "_law_terms" 1715 1716 937 3 3 1057 181 1058 (.ref 1059) (.ref 1060) 1061 1723 1724) ::
 (nat_lit 1063,fO l7 "_law_terms" "_law_terms" "law_cutyard_k70_a_desk_changed" 1619 1062) ::
(nat_lit 1069,cO "_law_text" 1726 "_law_text" 1727 1728 945 1 3 1064 181 1065 (.ref 1066) (.ref 1067) 1068 1740 1741) ::
 (nat_lit 1070,fO nH "_law_text" "_law_text" "law_cutyard_k70_a_desk_changed" 1619 1069) ::
(nat_lit 1076,cO "_law_said" 1743 "_law_said" 1744 1745 957 2 3 1071 181 1072 (.ref 1073) (.ref 1074) 1075 1752 1753) ::
 (nat_lit 1077,fO mZ "_law_said" "_law_said" "law_cutyard_k70_a_desk_changed" 1619 1076) ::
(nat_lit 1083,cO "_law_standing" 1755 "_law_standing" 1756 1757 982 2 3 1078 181 1079 (.ref 1080) (.ref 1081) 1082 1762 1763) ::
 (nat_lit 1084,fO nq "_law_standing" "_law_standing" "law_cutyard_k70_a_desk_changed" 1619 1083) ::
(nat_lit 1090,cO "_law_step" 1765 "_law_step" 1766 1767 985 5 3 1085 181 1086 (.ref 1087) (.ref 1088) 1089 1778 1779) ::
 (nat_lit 1091,fO mL "_law_step" "_law_step" "law_cutyard_k70_a_desk_changed" 1619 1090) ::
(nat_lit 1097,cO "_law_next_change" 1781 "_law_next_change" 1782 1783 997 7 3 1092 181 1093 (.ref 1094) (.ref 1095) 1096 1791 1792) ::
 (nat_lit 1098,fO lz "_law_next_change" "_law_next_change" "law_cutyard_k70_a_desk_changed" 1619 1097) ::
(nat_lit 1104,cO "law" 1794 "law" 1795 1796 1003 1 3 1099 181 1100 (.ref 1101) (.ref 1102) 1103 1808 1809) ::
 (nat_lit 1105,fO lv "law" "law" "law_cutyard_k70_a_desk_changed" 1619 1104)::[]
end Kx
noncomputable def PySem.W.Fast.tw17917472761282231123:=PySem.Challenge.pw_cutyard_k70_a_desk_changed
theorem PySem.W.Fast.te17917472761282231123:PySem.Challenge.pw_cutyard_k70_a_desk_changed=PySem.W.Fast.tw17917472761282231123:=rfl
noncomputable def PySem.W.Fast.tw5385739360559341639:=Kx.KK
theorem PySem.W.Fast.te5385739360559341639:Kx.KK=PySem.W.Fast.tw5385739360559341639:=rfl
structure PySem.W.Fast:Prop where(tw10041482103166155554 tw1005853524113214176 tw10099824210264050654 tw10135066793675392710 tw10147659781572754424 tw10155744991896333524 tw10168598333654091164 tw10187702941827906241 tw1022970983707054109 tw10292371244050394031 tw10303934580064877511 tw10346014655406495159 tw10393187674707664230 tw10431112215496231689 tw10484919106426809119 tw10489725608473610511 tw10513427879784739213 tw10545750708208007236 tw10566091431571596244 tw10586259352613090036 tw10605547650372147953 tw10671739867745257939 tw10695103294747637974 tw10698933110423703420 tw10732529178430288398 tw10757265448310570765 tw10773497803791285319 tw10798332565637447257 tw1089429994785337955 tw10907384144722960068 tw10911588693635454148 tw10919626825805511617 tw10921956833464533957 tw10972164675439673482 tw10981736311071981610 tw11017495421820949752 tw110749661203887196 tw11106780572015133919 tw11135693816397831330 tw11151587395413477002 tw11209413195685608161 tw11226419425798501769 tw1124341046598284678 tw11352956717252291511 tw1137974975349252214 tw11457031050852063997 tw11459403766940754428 tw11464629209288400153 tw1147122715695171752 tw11479403766035705314 tw114799890415740085 tw11483063582030475865 tw11494500341043766719 tw11508654830185207516 tw11520683004711670173 tw11556277920002790137 tw11591915158489627832 tw11631416221736385676 tw11637789850897417797 tw11651127524250268829 tw1166767654502083544 tw11667820202798195753 tw11703795789564062925 tw11711036472060604722 tw11755245535813194824 tw11798113453762338268 tw11817473504606236381 tw1186081655943317168 tw11873483587440859680 tw11877948819586271562 tw1189951676248814431 tw11909162333092962960 tw11914243376727817799 tw11943609783241776222 tw11954847127568052159 tw11957535798207668910 tw11959640240846135655 tw12006521059140916894 tw12015800280303208995 tw12043758882094060283 tw12045417192511362680 tw12070961327978803012 tw12071521529238122245 tw12116623425725536049 tw12124335041558995708 tw12125894683927063570 tw12140576415385776583 tw12192364856517193923 tw12197393671911569433 tw12244855617775178724 tw12285604650671024847 tw12286875946057931701 tw1235271252333226224 tw1235507068086528009 tw12364310055368932311 tw12375825719366577947 tw12378051466596261711 tw12386696723395494125 tw12406329965619636165 tw12422974700443529605 tw12434279708047419684 tw12452821192955430888 tw12461569224768230502 tw1249549043728854959 tw12512818968489988680 tw1251487343548443716 tw12599252714318668413 tw12602729355343910385 tw12646257906508919677 tw12656390775137432216 tw12663502911047891451 tw12669207204816451320 tw12724153117947683273 tw12740258360581709245 tw1274652526420596934 tw12777454345078738584 tw12788599699101410723 tw12831274166162843839 tw12838215557760339639 tw12930092876538623929 tw13051176333568325701 tw13058382602878804987 tw13082326146385929306 tw13086694405204580921 tw13100024631965578306 tw13106639884275135032 tw13138028518637638689 tw13143328719580098564 tw13158367442586417562 tw13168386911051386638 tw13172985890671449360 tw13179995606104367805 tw1318227853490789138 tw13194518394468146691 tw13204361293325254531 tw13220935233045161869 tw13233068845562906945 tw1327985304099584306 tw13295046341798373721 tw13309949587829823114 tw13322436504785417073 tw13340662738377687845 tw1336764828012000400 tw1337578494639264759 tw13393143213535854251 tw13416951231318022052 tw13428374546234739393 tw13429456029726577079 tw13444588792630830929 tw13506830915091599659 tw1353191459491076615 tw1356302650312011860 tw13585410289489113563 tw13597386330086507285 tw13682646435636161491 tw13691938981514233194 tw13729232056637158174 tw13737498067671438255 tw13756456743158856146 tw13766593514510617927 tw13784440567304589130 tw13785195453130931502 tw13817511885085825455 tw1382552449679786185 tw13858437505328506771 tw1387792384222458267 tw1388430115460189328 tw13910343954206001820 tw13940674138766625056 tw13956613157620983172 tw13969766375456587244 tw1399031755951809149 tw14050792761256680695 tw14052654596754506532 tw14071811585531924517 tw14108431058512438868 tw1410929792264650172 tw14111296730226846707 tw14290618994414439070 tw14320456745571645823 tw14353848047229340280 tw1442396042831396638 tw14445774360974517062 tw14502430477902309031 tw14528294185061985364 tw14540250925398190253 tw14570584729242732157 tw14686378867120391388 tw14768465442408444968 tw14795971822863388272 tw14846201740339804952 tw14860853665665474924 tw14871936689521256402 tw14927293738037077665 tw14977520877932795211 tw15008700555636082248 tw15013242420591810314 tw15027662176211701028 tw15064292603004415449 tw15069921313212039195 tw15080129397259417834 tw15120334793041127926 tw1518278687531323955 tw15195925348771504411 tw15212693329815322656 tw15220060715758068389 tw15251998771451780395 tw15279809564341662880 tw15324605191674723757 tw1534703987396300071 tw15360086275670525184 tw15377957616303249259 tw15400658296205070475 tw15403502117519626683 tw15417454664259771854 tw15491745349617582674 tw15524694949557969987 tw15527740263287715287 tw15591347603077321481 tw15618137427196849793 tw15618894375143842742 tw15627196065341668317 tw15650387736950825433 tw15718762115802294604 tw15720804702006834017 tw15742826015379135889 tw15772695692345684551 tw15803756480257779440 tw15805482504107237874 tw15822150692195690374 tw15833053272680046358 tw15941162531970494179 tw16002846835236402982 tw1605056105776392103 tw1607967498043692220 tw16083479351594220558 tw1609044403680357945 tw16100106270933568168 tw16127992103743404866 tw16145521356214628299 tw16197544433654062176 tw1621984034950719863 tw16234419828425012825 tw16240443016312816722 tw16262588250848897292 tw16273483966967483495 tw16349388045657341144 tw16439032845409419159 tw16456083008181676311 tw16457392623675775608 tw16458755250091868436 tw16464493126337885533 tw16501594266448995226 tw16502371397336884954 tw16526889988360902787 tw16533378721657362358 tw16575544078440222018 tw16604668784865899799 tw16620191349099966595 tw16623198089605494971 tw16628076968220321138 tw16672546887807755152 tw16711614724676062784 tw16728009402055738354 tw16733943971824534406 tw16748590261081429098 tw16763011171203810631 tw1677932428620561778 tw16809956162888956399 tw16819776243174046640 tw16836046562064569494 tw16847539304632136107 tw16874373424709864115 tw16910495613349548069 tw16918014201534893723 tw16934378335370838751 tw16940852331780945513 tw16953157967250696512 tw16979061924618654589 tw16998179743450222424 tw1700266477734459870 tw17015668368557672571 tw1706822747677571206 tw17070739113268361671 tw17112106660775748549 tw17116420167911746559 tw17127025125905197410 tw17146022584383531950 tw17159160423405109349 tw17228180334452796475 tw17245474690810400215 tw17322916414835601824 tw17323273584300312074 tw17323832775675086257 tw17413995517896695061 tw17429392982022893626 tw17473519009172296319 tw1753354458524932217 tw17545468148969257674 tw17566187365426200823 tw1757548295701852913 tw17600564454387916132 tw17612014273193044013 tw17660658686343719397 tw17696592094971955560 tw17700534946942164818 tw17774230045384413810 tw17780925405185760768 tw17789971438183366895 tw17800585614310964410 tw17812894547862228316 tw17879002142232211366 tw17879288579064172360 tw17921425816648289199 tw17972478646871053344 tw17979063052511389764 tw1799296249874688459 tw18047451156536257030 tw1805780184166864314 tw18105241969214935398 tw18113534068549223924 tw18174365394821622272 tw18211582631425207076 tw18214442550760408170 tw18257146125336546016 tw18293640337246273638 tw18298794381680329423 tw18303377599634195280 tw18303701131907007647 tw18315591889316573052 tw18325232936199225971 tw18391538176085312255 tw18411055756159328217 tw18412592925338773354 tw18427054996063388842 tw1897602488438248956 tw1904781340504314144 tw1931774199746697200 tw1974473167471076473 tw2005565886230330457 tw2084413182306711796 tw2086131201372379652 tw2104922981380812078 tw2163804037821225712 tw2186564229453388458 tw2189265802839592518 tw2231748015020625950 tw2236259843186566462 tw2250215306684615350 tw2279859793483814781 tw2297817315736726873 tw2319839621444174185 tw236300526572860124 tw2371708552278011083 tw2475013644815724643 tw2491921058203285386 tw2531707209131976061 tw2539653857772559890 tw2560805263185862494 tw2609551244664462536 tw2622821937316192413 tw2628256359084669012 tw264240238679883478 tw2677631533839146171 tw2690838881908943292 tw2696752590072935558 tw274658668940265460 tw2761963344781920414 tw2829778699188483149 tw2852854757715077104 tw2906669671525154057 tw2919798686669934793 tw2939825263406267167 tw2951527959232602418 tw2970141574201944583 tw2984571029476852442 tw2991342900478278094 tw3023308526613629644 tw3032624666477270614 tw3038805913844130328 tw3116772283409669359 tw3133917552938798645 tw3203287608040502490 tw3207028599675379231 tw3226173919378092537 tw3267502915609093905 tw3281594574413157207 tw3290010554503794476 tw3315590399823832799 tw3316881160610293500 tw3347003130451689325 tw3380270790428644537 tw3420564182727910756 tw342880835978310197 tw347308744035521024 tw3484403791198674793 tw3535278107412103756 tw3619693301195336709 tw3629923645685254323 tw3631289280366010678 tw364190489404366304 tw3654379410613641960 tw3732768706165676526 tw3739547002892637604 tw3792160074291125756 tw3804150462247565816 tw3808459207548907299 tw3823527866796392565 tw3825576444085168877 tw3858867843583035193 tw3873375776893277594 tw388467004887547632 tw3912614040670345470 tw3914665381612008137 tw3937066835823700036 tw3948562431126424225 tw3949225611067602312 tw4000212527621226710 tw4001074547949324131 tw4011124343687361531 tw4032445058849617986 tw4134995237996485756 tw4143323178335045119 tw4198507653433156264 tw4211450935724501991 tw4280558387013782166 tw4311116178799610866 tw4348622414178069425 tw4357861230896272940 tw4397828822474293504 tw4413047932344309044 tw4459211763795891301 tw4459775905619093677 tw4464771802345087673 tw4465791482484851030 tw4467563808600497744 tw4472968702053546543 tw448946556056097188 tw4496712888343194393 tw4500866876581458411 tw4503363297005002625 tw4513472811042436589 tw4520119753710906214 tw4521994380294006311 tw4530950693641767868 tw4537831091797468035 tw4549429339196610604 tw4579396680248857279 tw4583990943911174617 tw4588552975416015070 tw4593279918099090102 tw46122481929774043 tw4644860931991938036 tw46768397339086952 tw4697163054548436762 tw4709092128106049763 tw4720906257149939248 tw4753009902934299799 tw4777851450183387127 tw4832171458671431243 tw487653731725358125 tw4902634363037372520 tw4921954642652036117 tw4967025250587949712 tw4977111326479809944 tw4985237140764077361 tw5004863192131771625 tw5021991900183289247 tw5039214495311660704 tw504411069333810735 tw508509495215779454 tw5107878905558679988 tw5145747430700528724 tw5187581259484516665 tw5200691350479292039 tw5257788905520070874 tw526639782969700809 tw5283025940801168311 tw5284527873692656203 tw5292773136479068783 tw5300867370230986250 tw535219321669046853 tw5367713051678364320 tw5383283700152656167 tw5395076315802402869 tw5425597066118456063 tw5479798745910910130 tw5501436200312008630 tw5526747166687502039 tw5591028402298321953 tw5622232283858079967 tw575812468499529404 tw5804973089017032166 tw5811051304122393182 tw583240305103860481 tw5893130552401249668 tw596012618105717679 tw5996113687472740420 tw6007343740161791535 tw6015769672868159888 tw6061600668117046205 tw6077613191410217243 tw6078211016479571823 tw6114786091472076315 tw611592965145023736 tw612401997429444334 tw6135399117726057319 tw6141073427163412654 tw6151015067124358546 tw6154722707033963330 tw6163640243383836024 tw6204419608839556041 tw621714347619032623 tw626570305126411741 tw6267743239115182914 tw6268456796328885619 tw6280272822556186715 tw629057019519059424 tw6342423054417886743 tw634599270700583276 tw6393372805106768822 tw6437626004948580706 tw6448961845965249214 tw647608692424052743 tw6483470679033986405 tw6496874537847580377 tw6503399303168820664 tw651110586507130284 tw6534552291858048877 tw65393932550292228 tw6560595329449400161 tw6584671746334686115 tw6599490362710023478 tw6627935354943649780 tw6633761122686326941 tw6660016096924923318 tw6672152627875927910 tw6680223135799517763 tw6701674537030300808 tw6719975750422374447 tw6745278103591529420 tw6771624361020891847 tw6835997792808851296 tw6839204187023625165 tw6841496285190045201 tw6844649703360670404 tw686095491711901381 tw6889192983446890048 tw6953015510157392121 tw6965100000033586470 tw6979266426669088711 tw6985601618112562827 tw7022187544024402148 tw7032389871394330584 tw7038690081420874331 tw7044238597762062790 tw7063880489542017246 tw7072795935517332037 tw7076814795065023182 tw7098751886057487961 tw7113335301685905445 tw7132168737871028404 tw7144867381472767874 tw716985294882977189 tw7214917854481469435 tw7231544324795768336 tw7236794577928604682 tw7269747941069999975 tw7302006731765385288 tw7327154260832797764 tw7340369369414204982 tw7377442993684237497 tw7432194319980864105 tw7482965408299403688 tw7497519210187267305 tw7545755446639226298 tw7550956033609412576 tw7552725363592630546 tw755687596812674662 tw7570619666752525091 tw7589540222620215201 tw7600028514651373735 tw769574254699192219 tw7709864257651678555 tw7766182350611731298 tw7803852479486401903 tw7817913744398825623 tw7840683463778260253 tw785033030095826064 tw7867740913916733605 tw7872603938031739 tw8057498619608646252 tw8102247006869340503 tw8161434730100016932 tw818906590766371878 tw8263523149595249657 tw8286426565056180526 tw8313270711563805667 tw8362867837298424910 tw8415292721149933039 tw8442972101674696155 tw846248341061245575 tw8479280360011730446 tw8525614477616936709 tw8552372473640452180 tw8558935345817306771 tw8576801977336485378 tw8616942258652771307 tw863566413469927236 tw8663062957633528961 tw8693159654609663325 tw8700741446184026774 tw871762500952832213 tw8717985839497182726 tw8735916041124411917 tw874507897659348308 tw8762721805373137318 tw8763928133566206778 tw8771803810503512901 tw8801235941955264084 tw8862264568083970214 tw8868210401816857676 tw8884291118639823013 tw8887254038615564223 tw8965893436116764714 tw8966240202957472251 tw8983877545794276318 tw8985636648340486111 tw9024487535311065891 tw9081301618908185790 tw9090313597912666015 tw9102936858081198368 tw9103360847905764659 tw9166100765969087713 tw9167226523073943385 tw9228565366911855921 tw9256355049485837743 tw9272116770336049361 tw9278641719194883283 tw9289732224334314939 tw9296736238972686676 tw929918692974656671 tw9322297748515414355 tw9334892396893790490 tw9422648357504377893 tw9437453742930165695 tw9485901915482738226 tw9506742810864970630 tw9521143771053968709 tw9522804356119715865 tw9555776113914342109 tw9589553279503937089 tw9596034892048260313 tw962705570459039749 tw973578653397776413 tw9775659883200316940 tw9839863981861320550 tw9857600683742908939 tw9860935258372616089 tw9888989122263223799 tw9937798946625064158 tw9941766114311362033 tw9946234856850134232 tw9993888654576344635:True)
open PySem PySem.W PyProof.Rows
set_option maxRecDepth 100000 in
set_option maxHeartbeats 0 in
theorem PySem.Challenge.cw_cutyard_k70_a_desk_changed_holds : PySem.Challenge.rw_cutyard_k70_a_desk_changed.Holds := by
 w_on;o_law;o_head (kHook Kx.KK (2::3::15::22::23::24::25::28::35::36::37::40::52::53::54::55::56::59::71::72::73::74::75::78::90::91::92::93::94::97::109::110::111::112::113::116::123::124::125::128::135::136::137::200::201::795::796::800::801::807::808::814::815::821::822::828::829::835::836::842::843::847::848::854::855::859::860::866::867::873::874::878::879::883::884::890::891::897::898::904::905::911::912::944::945::951::952::965::966::972::973::979::980::986::987::988::989::990::991::992::1000::1001::1007::1008::1014::1015::1021::1022::1026::1027::1031::1032::1036::1037::1041::1042::1048::1049::1055::1056::1062::1063::1069::1070::1076::1077::1083::1084::1090::1091::1097::1098::1104::1105::[]) (λ_=>by kernel_rfl));(case hw=>w_witness2)
 k_fill
 refine Kx.walk (l:=PySem.Challenge.rw_cutyard_k70_a_desk_changed) rfl rfl (by decide +kernel) (λw h Y=>kIn_of Y) (λw=>?N1) ?F
 (case N1=>kernel_rfl)
 case F=>
  intro w mg fa h KX G Rc;refine' Kx.all_mk KX G Rc ?OA ?a1 ?a2 ?a3 ?a4 ?a5 ?a6 ?a7 ?a8 ?a9 ?a10 ?a11 ?a12 ?a13 ?a14 ?a15 ?a16 ?a17 ?a18 ?a19 ?a20 ?a21 ?a22 ?a23 ?a24 ?a25 ?a26 ?a27 ?a28 ?a29 ?a30 ?a31 ?a32 ?a33 ?a34 ?a35 ?a36 ?a37 ?a38 ?a39 ?VE ?VF ?VG ?VH ?VI ?VJ ?VL ?VM ?VN ?TZ ?VO ?VP ?VQ ?VR ?T2 ?VS ?VT ?VU ?VW ?T3 ?Pb ?Pc ?Pd ?Pe ?Pf ?Pg ?Nz ?Nu ?Ph ?QG ?Nk ?QH ?Ob ?QI ?Nl ?Oc ?Pj ?QJ ?Ng ?NJ ?P6 ?QK ?NA ?QL ?P7 ?PL ?PM ?OH ?OI ?OJ ?OK ?Oq ?Ot ?NK ?NL ?NM ?NN ?OL ?OY ?OZ ?Oe ?Of ?Og ?Oh ?NO
  (case OA=>k_is);(case Pb=>k_is);(case Pc=>k_is);(case Pd=>k_is);(case Pe=>k_is);(case Pf=>k_is);(case Pg=>k_is);(case Nz=>k_is);(case Nu=>k_is)
  (case VE=>k_is);(case VF=>k_is);(case VG=>k_is);(case VH=>k_is);(case VI=>k_is)
  (case VJ=>k_is);(case VL=>k_is);(case VM=>k_is);(case VN=>k_is);(case TZ=>k_is)
  (case VO=>k_is);(case VP=>k_is);(case VQ=>k_is);(case VR=>k_is);(case T2=>k_is)
  (case VS=>k_is);(case VT=>k_is);(case VU=>k_is);(case VW=>k_is);(case T3=>k_is)
  (case Ph=>k_is)
  (case QG=>k_is)
  (case Nk=>k_is)
  (case QH=>k_is)
  (case Ob=>k_is)
  (case QI=>k_is)
  (case Nl=>k_is)
  (case Oc=>k_is)
  (case Pj=>k_is)
  (case QJ=>k_is)
  (case Ng=>k_is)
  (case NJ=>k_is)
  (case P6=>k_is)
  (case QK=>k_is)
  (case NA=>k_is)
  (case QL=>k_is)
  (case PL=>k_is);(case PM=>k_is);(case OH=>k_is);(case OI=>k_is);(case OJ=>k_is);(case OK=>kernel_rfl)
  (case Oq=>k_is);(case Ot=>k_is);(case NK=>k_is);(case NL=>k_is);(case NM=>k_is);(case NN=>kernel_rfl)
  (case OL=>kernel_rfl)
  (case OY=>k_is);(case OZ=>k_is);(case Oe=>k_is);(case Of=>k_is);(case Og=>k_is);(case Oh=>kernel_rfl)
  (case NO=>kernel_rfl)
  (case P7=>kernel_rfl)
  all_goals (refine' L2.Has.of ?a ?l ?c;(case a=>k_is);(case l=>k_is);(case c=>k_is))

