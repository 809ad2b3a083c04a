import PyProof.Rows.All
import Wide.All
import OpenK.AllK
import Wide.FinOn
import Lean
import PyProof.EqAt
import PyProof.EqKinds
import PyProof.TupleCall
import PyProof.NeKinds
import KE.KLam
import KE.KMinKey
import KE.KSortTup
import PyProof.AutoListH
import PyProof.MeetsStr
import PyProof.StrLawsJoin
import PyProof.FitsReplace
import PyProof.Rows.TupDisplay
import PyProof.ListRange
import PyProof.ZipIter
import PyProof.ListNew
import KE.KSortKey
import PyProof.StationsW
import PyProof.ExcClass2
import PyProof.ExcInit
import PyProof.ExcBaseAll.ValueError
import PyProof.RulesAs
import PyProof.NsDelKeeps
import PyProof.ExcAttrAll.ValueError
import PyProof.IsiBase
import KE.KIsAll
import PyProof.InstStoreFacts
import PyProof.Rows.SetFrom
import PyProof.SetRoads
import KE.KRevIter
import PyProof.StrLawsChain
import PyProof.StrLawsTight
import PyProof.Rows.StrItems
import PyProof.Rows.StrSplitCount
import KE.KIntText
import PyProof.StrCalls2
import PyProof.StrLoop
import PyProof.StrWalks
import PyProof.StrOps
import PyProof.StrLawsIn
import PyProof.Rows.FStr
import PyProof.Rows.StrSplitAre
import PyProof.CallStr
import PyProof.IsiNone
import PyProof.Rows.Range3
import PyProof.Rows.ChunkLeaf
import PySem.Challenge.RW_cutyard_k72_tried
open PySem.W (instObj methodObj Frag lookIn InstAt plainGet hasDictIn findIn handedIn plainGet_of isFn plainOver takerIn makesIn typeIn emptyDict keepIn callWith_K methodCall_KW callWith_K0 cellsFrom_some fnOf codeIn kIn_of mg_of nsIn)
set_option Elab.async false
set_option linter.all false
set_option maxRecDepth 100000
noncomputable abbrev mn:=@List.length_map
noncomputable abbrev wy:=@List.getElem?_append_left
noncomputable abbrev IU:=@List.getElem?_append_right
noncomputable abbrev IV:=@PySem.wpAny_bind
noncomputable abbrev IW:=@List.length_append
noncomputable abbrev IX:=@PySem.Heap.get?_push_of_some
noncomputable abbrev IY:=@List.mem_cons_of_mem
noncomputable abbrev IZ:=@List.mem_cons_self
noncomputable abbrev I0:=@if_neg
noncomputable abbrev Ja:=@if_pos
noncomputable abbrev Jb:=@List.mem_cons
noncomputable abbrev Jc:=@Nat.le_refl
noncomputable abbrev Jd:=@List.getElem?_map
noncomputable abbrev Je:=@List.length_cons
noncomputable abbrev Jf:=@PySem.wpAny_pure
noncomputable abbrev Jg:=@List.length_set
noncomputable abbrev Jh:=@PySem.Heap.get?_push_size
noncomputable abbrev Ji:=@List.mem_singleton
noncomputable abbrev Jj:=@List.size_toArray
noncomputable abbrev Jk:=@List.append_assoc
noncomputable abbrev Jl:=@List.getElem?_eq_getElem
noncomputable abbrev Jm:=@PySem.Heap.lt_size
noncomputable abbrev Jn:=@List.mem_of_getElem?
noncomputable abbrev Jo:=@decide_eq_false
noncomputable abbrev Jp:=@List.not_mem_nil
noncomputable abbrev Jq:=@List.map_cons
noncomputable abbrev Jr:=@List.mem_map
noncomputable abbrev Js:=@List.getElem?_set_ne
noncomputable abbrev Jt:=@List.getElem?_set_self
noncomputable abbrev Ju:=@of_decide_eq_true
noncomputable abbrev Jv:=@List.mem_append
noncomputable abbrev Jw:=@Nat.lt_of_lt_of_le
noncomputable abbrev Jx:=@PySem.Heap.size_push
noncomputable abbrev Jy:=@List.nodup_cons
noncomputable abbrev Jz:=@List.map_append
noncomputable abbrev JA:=@List.length_take
noncomputable abbrev JB:=@List.all_eq_true
noncomputable abbrev JC:=@PySem.boot_len
noncomputable abbrev JD:=@List.getD_eq_getElem?_getD
noncomputable abbrev JE:=@Nat.le_trans
noncomputable abbrev JF:=@List.lookup_cons
noncomputable abbrev JG:=@Nat.sub_self
noncomputable abbrev JH:=@List.length_replicate
noncomputable abbrev JI:=@Nat.lt_or_ge
noncomputable abbrev JJ:=@Bool.false_ne_true
noncomputable abbrev JK:=@List.flatten_cons
noncomputable abbrev JL:=@decide_eq_true_eq
noncomputable abbrev JM:=@Nat.ne_of_lt
noncomputable abbrev JN:=@List.getElem?_eq_some_iff
noncomputable abbrev JO:=@List.mem_append_right
noncomputable abbrev JP:=@decide_eq_true
noncomputable abbrev JQ:=@List.length_range
noncomputable abbrev JR:=@Bool.and_eq_true
noncomputable abbrev JS:=@PySem.wpAny_field
noncomputable abbrev JT:=@beq_self_eq_true
noncomputable abbrev JU:=@Nat.add_sub_cancel_left
noncomputable abbrev JV:=@Option.some.inj
noncomputable abbrev JW:=@List.append_nil
noncomputable abbrev JX:=@PySem.wpAny_loadPart'
noncomputable abbrev JY:=@List.length_drop
noncomputable abbrev JZ:=@PySem.Str.append_assoc
noncomputable abbrev J0:=@PySem.wpAny_setField_rec
noncomputable abbrev J1:=@of_decide_eq_false
noncomputable abbrev J2:=@List.getElem?_eq_none
noncomputable abbrev J3:=@Array.length_toList
noncomputable abbrev J4:=@PySem.wpAny_seqItems
noncomputable abbrev J5:=@or_false
noncomputable abbrev J6:=@List.mem_range
noncomputable abbrev J7:=@Ne.symm
noncomputable abbrev J8:=@List.length_nil
noncomputable abbrev J9:=@PySem.mem_of_lookup
noncomputable abbrev Ka:=@PySem.wpAny_callSpecial?_slot
noncomputable abbrev Kb:=@Int.toNat_natCast
noncomputable abbrev Kc:=@List.ext_getElem?
noncomputable abbrev Kd:=@PySem.sizeLine_eq
noncomputable abbrev Ke:=@List.take_of_length_le
noncomputable abbrev Kf:=@PySem.PassesOwn.never
noncomputable abbrev Kg:=@List.map_map
noncomputable abbrev Kh:=@List.replicate_succ
noncomputable abbrev Ki:=@PyProof.Rows.boot_str
noncomputable abbrev Kj:=@PyProof.Rows.slot_tuple_getitem
noncomputable abbrev Kk:=@PySem.W.mg_none_of
noncomputable abbrev Kl:=@congrArg
noncomputable abbrev Km:=@List.getElem?_eq_none_iff
noncomputable abbrev Kn:=@PyProof.Rows.callWith_type1
noncomputable abbrev Ko:=@List.length_eq_zero_iff
noncomputable abbrev Kp:=@Int.eq_ofNat_of_zero_le
noncomputable abbrev Kq:=@List.nodup_append
noncomputable abbrev Kr:=@Bool.eq_iff_iff
noncomputable abbrev Ks:=@PySem.wpAny_call_entry
noncomputable abbrev Kt:=@List.take_length
noncomputable abbrev Ku:=@PySem.call_meets
noncomputable abbrev Kv:=@List.getElem?_of_mem
noncomputable abbrev Kw:=@List.getElem?_replicate
noncomputable abbrev Kz:=@PySem.F.plainAttrs_list
noncomputable abbrev KA:=@PyProof.Rows.boot_tuple
noncomputable abbrev KC:=@Nat.lt_irrefl
noncomputable abbrev KD:=@PySem.wpAny_mono
noncomputable abbrev KG:=@PySem.wpAny_holding
noncomputable abbrev KH:=@PySem.wpAny_onRaise
noncomputable abbrev KI:=@List.getElem?_zipWith
noncomputable abbrev KJ:=@Nat.zero_le
noncomputable abbrev KL:=@Nat.le_of_lt
noncomputable abbrev KN:=@List.getElem?_take_of_lt
noncomputable abbrev KO:=@List.find?_cons
noncomputable abbrev KP:=@PySem.F.slot_zip_next
noncomputable abbrev KQ:=@List.set_append_left
noncomputable abbrev KR:=@PySem.wpAny_newObj_type
noncomputable abbrev KS:=@List.getElem?_inj
noncomputable abbrev KU:=@beq_eq_false_iff_ne
noncomputable abbrev KW:=@Nat.lt_succ_self
noncomputable abbrev KY:=@PySem.wpAny_pyIter_tuple
noncomputable abbrev KZ:=@PySem.StrLaws.glued_eq_join
noncomputable abbrev K0:=@List.of_mem_zip
noncomputable abbrev K1:=@PySem.F.slot_tuple_iterator_next
noncomputable abbrev K2:=@List.map_congr_left
noncomputable abbrev K3:=@List.length_zipWith
noncomputable abbrev K4:=@PySem.W.mg_of
noncomputable abbrev K5:=@List.forIn_cons
noncomputable abbrev K6:=@Bool.or_eq_true
noncomputable abbrev K7:=@PySem.wpAny_letGo
noncomputable abbrev K8:=@List.take_append_of_le_length
noncomputable abbrev K9:=@Nat.lt_succ_of_lt
noncomputable abbrev La:=@if_true
noncomputable abbrev Lb:=@Decidable.em
noncomputable abbrev Lc:=@PyProof.Rows.boot_int
noncomputable abbrev Ld:=@beq_iff_eq
noncomputable abbrev Le:=@List.getElem_mem
noncomputable abbrev Lf:=@PySem.F.slot_tuple_mul
noncomputable abbrev Lg:=@Nat.le_add_right
noncomputable abbrev Lh:=@List.cons_append
noncomputable abbrev Li:=@Array.all_toList
noncomputable abbrev Lj:=@List.mem_of_mem_drop
noncomputable abbrev Lk:=@Nat.pow_le_pow_right
noncomputable abbrev Ll:=@PySem.wpAny_passesOwn
noncomputable abbrev Lm:=@List.nil_append
noncomputable abbrev Ln:=@PySem.wpAny_Call_Name_kw
noncomputable abbrev Lo:=@PySem.F.args_tuple_add_2
noncomputable abbrev Lq:=@PySem.AutoSeq1.sub_tuple_tuple
noncomputable abbrev Lr:=@List.getElem?_drop
noncomputable abbrev Ls:=@PySem.F.slot_list_append
noncomputable abbrev Lu:=@PySem.F.type_list_append
noncomputable abbrev Lv:=@List.find?_eq_none
noncomputable abbrev Lw:=@List.forIn_nil
noncomputable abbrev Lx:=@List.drop_zero
noncomputable abbrev Ly:=@Nat.mod_lt
noncomputable abbrev Lz:=@Bool.false_bne
noncomputable abbrev LA:=@PySem.F.entry_tuple_add
noncomputable abbrev LB:=@PySem.wpAny_truthy_bool
noncomputable abbrev LC:=@PySem.F.args_zip_next_1
noncomputable abbrev LD:=@PySem.wpAny_pyNext_list_item
noncomputable abbrev LF:=@PySem.F.slot_tuple_add
noncomputable abbrev LG:=@PyProof.Rows.split_pos
noncomputable abbrev LH:=@PySem.F.plainAttrs_str
noncomputable abbrev LI:=@List.find?_cons_of_neg
noncomputable abbrev LJ:=@List.any_cons
noncomputable abbrev LK:=@PySem.wpAny_attempt
noncomputable abbrev LL:=@List.zipIdx_cons
noncomputable abbrev LM:=@PySem.F.entry_zip_next
noncomputable abbrev LN:=@PySem.wpAny_pyIter_zip
noncomputable abbrev LO:=@List.take_succ_eq_append_getElem
noncomputable abbrev LP:=@List.map_zipWith
noncomputable abbrev LQ:=@PySem.wpAny_pyNext_list_end
noncomputable abbrev LR:=@PySem.Heap.get?_update_self
noncomputable abbrev LS:=@List.length_singleton
noncomputable abbrev LU:=@Nat.add_sub_add_right
noncomputable abbrev LV:=@List.mem_append_left
noncomputable abbrev LX:=@Nat.le_of_eq
noncomputable abbrev LY:=@PySem.typeIs_str
noncomputable abbrev LZ:=@PySem.F.slot_int_rmul
noncomputable abbrev L0:=@PySem.wpAny_rule
noncomputable abbrev L1:=@PySem.Heap.get?_push_cases
noncomputable abbrev L3:=@List.zipIdx_nil
noncomputable abbrev L4:=@PySem.wpAny_updateSeq_pair
noncomputable abbrev L5:=@PySem.call_isinstance
noncomputable abbrev L6:=@List.range_succ
noncomputable abbrev L7:=@Nat.mul_le_mul_right
noncomputable abbrev L8:=@List.filterMap_cons
noncomputable abbrev L9:=@PySem.Heap.SameBut.update
noncomputable abbrev Ma:=@List.getElem?_range
noncomputable abbrev Mb:=@ne_true_of_eq_false
noncomputable abbrev Mc:=@PySem.F.args_tuple_iterator_next_1
noncomputable abbrev Md:=@List.mem_filterMap
noncomputable abbrev Me:=@List.filterMap_map
noncomputable abbrev Mf:=@List.lookup_append
noncomputable abbrev Mg:=@PySem.F.entry_tuple_iterator_next
noncomputable abbrev Mh:=@PySem.F.args_tuple_mul_2
noncomputable abbrev Mi:=@PyProof.Rows.signs_ofString
noncomputable abbrev Mj:=@PySem.F.args_str_split_2
noncomputable abbrev Ml:=@Int.emod_lt_of_pos
noncomputable abbrev Mm:=@PySem.Paired.length
noncomputable abbrev Mn:=@PySem.wpAny_standAt
noncomputable abbrev Mo:=@List.all_cons
noncomputable abbrev Mp:=@PySem.wpAny_pyIter_list
noncomputable abbrev Mq:=@PySem.F.entry_tuple_mul
noncomputable abbrev Mr:=@PySem.F.entry_str_split
noncomputable abbrev Ms:=@PySem.typeIs_int
noncomputable abbrev Mt:=@List.drop_eq_getElem_cons
noncomputable abbrev Mu:=@Nat.ne_of_gt
noncomputable abbrev Mv:=@PySem.codeAny_mono
noncomputable abbrev Mw:=@PySem.noFill_tuple_add
noncomputable abbrev Mx:=@Nat.succ_mul
noncomputable abbrev Mz:=@Nat.mul_comm
noncomputable abbrev MA:=@PySem.wpAny_isInstance
noncomputable abbrev MB:=@PySem.AutoSeq1.idx_int
noncomputable abbrev MC:=@List.mem_flatten
noncomputable abbrev MD:=@PySem.F.slot_tuple_index
noncomputable abbrev ME:=@PySem.F.slot_str_split
noncomputable abbrev MF:=@Nat.min_self
noncomputable abbrev MG:=@List.map_zip_eq_zipWith
noncomputable abbrev MH:=@List.getElem?_cons_succ
noncomputable abbrev MI:=@List.mem_filter
noncomputable abbrev MJ:=@PySem.wpAny_execs_nil
noncomputable abbrev MK:=@PySem.wpAny_ite_false
noncomputable abbrev ML:=@List.length_zip
noncomputable abbrev MM:=@beq_false_of_ne
noncomputable abbrev MN:=@List.all_append
noncomputable abbrev MO:=@Nat.min_eq_left
noncomputable abbrev MP:=@Int.emod_nonneg
noncomputable abbrev MQ:=@List.head?_eq_getElem?
noncomputable abbrev MR:=@List.drop_eq_nil_of_le
noncomputable abbrev MS:=@List.find?_cons_of_pos
noncomputable abbrev MT:=@Array.getElem?_toList
noncomputable abbrev MU:=@List.dropLast_eq_take
noncomputable abbrev MV:=@Nat.le_of_ble_eq_true
noncomputable abbrev MW:=@List.nodup_nil
noncomputable abbrev MX:=@List.set_append_right
noncomputable abbrev MY:=@PySem.W.KIN.signs_num
noncomputable abbrev MZ:=@PyProof.Rows.boot_all
noncomputable abbrev M0:=@PyProof.Rows.split_le
noncomputable abbrev M1:=@PyProof.Rows.boot_sum
noncomputable abbrev M3:=@if_false
noncomputable abbrev M4:=@bne_iff_ne
noncomputable abbrev M5:=@Bool.or_false
noncomputable abbrev M6:=@List.map_take
noncomputable abbrev M7:=@List.cons.inj
noncomputable abbrev M8:=@List.map_nil
noncomputable abbrev M9:=@List.all_map
noncomputable abbrev Na:=@List.any_map
local macro_rules|`(tactic|ac_rfl)=>`(tactic|exact⟨rfl,rfl,rfl,by decide +kernel,rfl,by decide +kernel,by decide +kernel⟩)
local macro_rules|`(tactic|lia)=>`(tactic|decide +kernel)
local macro_rules|`(tactic|nofun)=>`(tactic|first|exact Or.inl rfl|exact Or.inr (Or.inl rfl)|exact Or.inr (Or.inr rfl)|exact .inr rfl|assumption)
theorem U2{α:Sort _}{a:α}{b:Prop}:a=a\/b:=.inl rfl
namespace L2
open PySem PySem.Spec PyProof.Rows
noncomputable abbrev ax:=Sum Int Str
noncomputable def jn:ax->Value->Bool
 |.inl k,v=>Value.isInt k v
 |.inr x,v=>Value.isStrOf x v
noncomputable def Ir(w:World):ax->Int
 |.inl k=>hashInt k
 |.inr x=>hashStr w x
theorem gO:∀{k:ax}{v:Value},jn k v=true->(∃i t,k=Sum.inl i/\v=Value.int i t)\/(∃x t,k=Sum.inr x/\v=Value.str x t)
 |.inl i,v,h=>by obtain⟨t,e⟩:=Value.isInt_shape (k:=i) (v:=v) h;exact .inl ⟨i,t,rfl,e⟩
 |.inr x,v,h=>by obtain⟨t,e⟩:=Value.isStrOf_shape (x:=x) (v:=v) h;exact .inr ⟨x,t,rfl,e⟩
theorem Bg(i:Int)(t:Tok):jn (.inl i) (.int i t)=true:=by simp[jn,Value.isInt]
theorem Co(x:Str)(t:Tok):jn (.inr x) (.str x t)=true:=by simp[jn,Value.isStrOf]
theorem HZ(a b:Int):decide ((Sum.inl a:ax)=Sum.inl b)=(a==b):=by
 by_cases e:a=b
 ·subst e;simp
 ·have h:¬ (Sum.inl a:ax)=Sum.inl b:=λq=>e (Sum.inl.inj q);rw[Jo h];exact (KU.mpr e).symm
theorem CB(a b:Str):decide ((Sum.inr a:ax)=Sum.inr b)=decide (a=b):=by
 by_cases e:a=b
 ·subst e;simp
 ·have h:¬ (Sum.inr a:ax)=Sum.inr b:=λq=>e (Sum.inr.inj q);rw[Jo h,Jo e]
theorem Cr(a:Int)(b:Str):decide ((Sum.inl a:ax)=Sum.inr b)=false:=Jo (λq=>nomatch q)
theorem Bb(a:Str)(b:Int):decide ((Sum.inr a:ax)=Sum.inl b)=false:=Jo (λq=>nomatch q)
noncomputable def eN(prog:Program)(w:World):PySem.KeyKind prog w ax where
 is:=jn
 hash:=Ir w
 inj:=λv a b ha hb=>by
  rcases gO ha with⟨i,t,rfl,rfl⟩|⟨x,t,rfl,rfl⟩
  ·rcases gO hb with⟨j,u,rfl,e⟩|⟨y,u,rfl,e⟩
   ·injection e with e1 _;rw[e1]
   ·exact nomatch e
  ·rcases gO hb with⟨j,u,rfl,e⟩|⟨y,u,rfl,e⟩
   ·exact nomatch e
   ·injection e with e1 _;rw[e1]
 byValue:=λk v h=>by rcases gO h with⟨i,t,rfl,rfl⟩|⟨x,t,rfl,rfl⟩<;>rfl
 pyHash:=λhv h=>by
  rcases gO hv with⟨i,t,rfl,rfl⟩|⟨x,t,rfl,rfl⟩
  ·exact wpAny_pyHash_int h
  ·exact wpAny_pyHash_str h
 eqBool:=λhu hv h=>by
  rcases gO hu with⟨i,t,rfl,rfl⟩|⟨x,t,rfl,rfl⟩
  ·rcases gO hv with⟨j,u,rfl,rfl⟩|⟨y,u,rfl,rfl⟩
   ·rw[HZ]at h;exact wpAny_eqBool_int h
   ·rw[Cr]at h;exact SeqAt.EqAt.int_str i t y u _ _ _ _ h
  ·rcases gO hv with⟨j,u,rfl,rfl⟩|⟨y,u,rfl,rfl⟩
   ·rw[Bb]at h;exact SeqAt.EqAt.str_int x t j u _ _ _ _ h
   ·rw[CB]at h;exact wpAny_eqBool_str h
 «strs»:=λk x t v h=>by
  rcases gO h with⟨i,u,rfl,e⟩|⟨y,u,rfl,e⟩
  ·exact nomatch e
  ·injection e with e1 _;subst e1;cases v<;>rfl
theorem zA(prog:Program)(w:World)(i:Int)(t:Tok):(eN prog w).is (.inl i) (.int i t)=true:=Bg i t
theorem Gv(prog:Program)(w:World)(x:Str)(t:Tok):(eN prog w).is (.inr x) (.str x t)=true:=Co x t
inductive V where
 |non|bl (b:Bool)|int (i:Int)|str (x:Str)|byt (b:Array UInt8)|flt (b:UInt64)|ref (a:Addr)|ty (n:String)
 deriving DecidableEq
noncomputable def RelV:V->Value->Prop
 |.non,u=>u=Value.none
 |.bl b,u=>u=Value.bool b
 |.int i,u=>∃t,u=Value.int i t
 |.str x,u=>∃t,u=Value.str x t
 |.byt b,u=>∃t,u=Value.bytes b t
 |.flt b,u=>∃t,u=Value.float b t
 |.ref a,u=>u=Value.ref a
 |.ty n,u=>u=Value.type n
noncomputable abbrev Vals:List V->List Value->Prop:=Paired RelV
theorem Vals.length{xs:List V}{us:List Value}(r:Vals xs us):xs.length=us.length:=Mm r
theorem Vals.get:∀{xs:List V}{us:List Value}{i:Nat}{x:V},Vals xs us->xs[i]?=some x->∃u,us[i]?=some u/\RelV x u
 |_,_,_,_,.nil,e=>by simp at e
 |_,_,0,_,.cons r _,e=>by simp at e;subst e;exact⟨_,rfl,r⟩
 |_,_,i+1,x,.cons _ t,e=>by obtain⟨u,h1,h2⟩:=Vals.get (i:=i) (x:=x) t (by simpa using e);exact⟨u,by simpa using h1,h2⟩
theorem Vals.set{x:V}{u:Value}(r:RelV x u):∀{xs:List V}{us:List Value}(i:Nat),Vals xs us->Vals (xs.set i x) (us.set i u)
 |_,_,_,.nil=>.nil
 |_,_,0,.cons _ t=>.cons r t
 |_,_,i+1,.cons q t=>.cons q (Vals.set r i t)
theorem Vals.append:∀{xs ys:List V}{us ws:List Value},Vals xs us->Vals ys ws->Vals (xs++ys) (us++ws)
 |_,_,_,_,.nil,s=>s
 |_,_,_,_,.cons r t,s=>.cons r (Vals.append t s)
theorem Vals.take:∀{xs:List V}{us:List Value}(n:Nat),Vals xs us->Vals (xs.take n) (us.take n)
 |_,_,0,_=>.nil
 |_,_,_+1,.nil=>.nil
 |_,_,n+1,.cons r t=>.cons r (Vals.take n t)
theorem Vals.drop:∀{xs:List V}{us:List Value}(n:Nat),Vals xs us->Vals (xs.drop n) (us.drop n)
 |_,_,0,r=>r
 |_,_,_+1,.nil=>.nil
 |_,_,n+1,.cons _ t=>Vals.drop n t
noncomputable def RelO:Option V->Option Value->Prop
 |some v,some u=>RelV v u
 |none,none=>True
 |_,_=>False
noncomputable def KV{κ:Type}:List (κ×V)->List (κ×Value)->Prop:=Paired λ(p:κ×V)(q:κ×Value)=>p.1=q.1/\RelV p.2 q.2
noncomputable def kV:ax->V
 |.inl i=>.int i
 |.inr x=>.str x
inductive HO where
  |lst (xs:List V)
  |tup (xs:List V)
  |dK (Ng:List (ax×V))|dT (Ng:List (List ax×V))
  |set (S:Int->Bool) (n:Nat)
  |ins (C dx:Addr) (fs:List (Str×V))
  |own (x:Addr)
  |xd (fs:List (Str×V))
  |met (f x:Addr)
  |rng (lo hi:Int)
  |frz (o:Obj) (u:HO)
  |tbl (ps:Array Value)
  |ext (φ:Heap->Prop)
noncomputable abbrev Hp:=Addr->Option HO
noncomputable def ak(H:Hp)(a:Addr)(o:HO):Hp:=λb=>if b=a then some o else H b
theorem bq{H:Hp}{a:Addr}{o:HO}:ak H a o a=some o:=by unfold ak;rw[Ja rfl]
theorem ba{H:Hp}{a b:Addr}{o:HO}(h:b≠a):ak H a o b=H b:=by unfold ak;rw[I0 h]
theorem HY{H:Hp}{a b:Addr}{o u:HO}(h:H a=some o)(h':H b=some u)(d:o≠u):a≠b:=by intro e;subst e;rw[h]at h';exact d (JV h')
theorem dA{H:Hp}{a b:Addr}{o:HO}(h:H a=some o)(h':H b=none):a≠b:=by intro e;subst e;rw[h]at h';cases h'
noncomputable def IsTupD(h:Heap)(a:Addr)(items:Array Value):Prop:=∃o,h.get? a=some o/\(o.cls=.type "tuple"/\o.dict=none)/\∃n,o.data=.seq items n
theorem IsTupD.tup{h:Heap}{a:Addr}{items:Array Value}(x:IsTupD h a items):IsTup h a items:=let ⟨o,e,c,d⟩:=x;⟨o,e,c.1,d⟩
theorem IsTupD.lt{h:Heap}{a:Addr}{items:Array Value}(x:IsTupD h a items):a<h.objs.size:=x.tup.lt
theorem IsTupD.new(h:Heap)(items:Array Value):IsTupD (h.push { cls:=.type "tuple",data:=.seq items }) h.objs.size items:=⟨_,Jh _ rfl,⟨rfl,rfl⟩,_,rfl⟩
section
variable(P:Program)(w:World)
noncomputable def ObjOk(H:Hp)(h:Heap)(a:Addr):HO->Prop
 |.lst xs=>xs.length<=sizeLine/\∃(Nc:List Value)(n:Nat),Vals xs Nc/\h.get? a=some { cls:=.type "list",data:=.seq Nc.toArray n }
 |.tup xs=>xs.length<=sizeLine/\∃Nc:List Value,Vals xs Nc/\IsTupD h a Nc.toArray
 |.dK Ng=>Ng.length<=sizeLine/\(a==sysModules)=false/\∃vs,KV Ng vs/\h.DictOf (eN P w) a vs
 |.dT Ng=>Ng.length<=sizeLine/\(a==sysModules)=false/\∃xs:List (List ax×Addr×Value),
   Paired (λ(p:List ax×V)(q:List ax×Addr×Value)=>p.1=q.1/\H q.2.1=some (.tup (p.1.map kV))/\RelV p.2 q.2.2) Ng xs /\
   ∃o es ep,h.get? a=some o/\o.ExactDict/\o.data=.dict es ep/\es.toList=xs.map (entryOfKey (tupleKind (eN P w)))/\(xs.map (·.1)).Nodup
 |.set S n=>h.SetOf (intKind P w) a S n
 |.ins C dx fs=>H dx=some (.own a)/\fs.length<=1000/\dx≠a/\h.get? a=some (instObj C dx) /\
   ∃mA,h.Ns1 dx mA/\(∀f,RelO (fs.lookup f) (mA f))/\PySem.Within mA (fs.map (·.1))
 |.own _=>∃o,h.get? a=some o
 |.xd fs=>∃mA,h.Ns1 a mA/\∀f,RelO (fs.lookup f) (mA f)
 |.rng lo hi=>∃t u v,h.get? a=some { cls:=.type "range",data:=.fields #[.int lo t,.int hi u,.int 1 v] }
 |.frz o u=>h.get? a=some o/\ObjOk H h a u
 |.tbl ps=>h.get? a=some { cls:=.none,data:=.fields #[] }\/∃(c:Addr)(o:Obj)(vs:Array Value)(x y:Value)(q:Str)(t t':Tok),ps=#[x,y,.str q t]/\H c=some (.frz o (.own a)) /\
   h.get? a=some { cls:=.none,data:=.fields #[x,y,.ref c] }/\o.data=.fields vs/\vs[1]?=some (.str q t')
 |.met f x=>h.get? a=some (methodObj (.ref f) (.ref x))
 |.ext φ=>φ h/\(∃o,h.get? a=some o)/\∀h1 h2:Heap,φ h1->(∀o,h1.get? a=some o->h2.get? a=some o)->φ h2
noncomputable def HOk(H:Hp)(h:Heap):Prop:=∀a o,H a=some o->ObjOk P w H h a o
end
section
variable{P:Program}{w:World}{H H':Hp}{h h':Heap}{a:Addr}{o:HO}
theorem ObjOk.lt(x:ObjOk P w H h a o):a<h.objs.size:=by
 cases o with
 |lst xs=>obtain⟨_,_,_,_,e⟩:=x;exact Jm e
 |tup xs=>obtain⟨_,_,_,p⟩:=x;exact p.lt
 |dK Ng=>obtain⟨_,_,_,_,o,_,_,e,_⟩:=x;exact Jm e
 |dT Ng=>obtain⟨_,_,_,_,o,_,_,e,_⟩:=x;exact Jm e
 |set S n=>obtain⟨o,_,_,_,e,_⟩:=x;exact Jm e
 |ins C dx fs=>obtain⟨_,_,_,e,_⟩:=x;exact Jm e
 |own y=>obtain⟨_,e⟩:=x;exact Jm e
 |xd fs=>obtain⟨_,⟨_,_,_,e,_⟩,_⟩:=x;exact Jm e
 |rng lo hi=>obtain⟨_,_,_,e⟩:=x;exact Jm e
 |frz ob u=>obtain⟨e,_⟩:=x;exact Jm e
 |tbl ps=>rcases x with x|⟨_,_,_,_,_,_,_,_,_,_,x,_⟩<;>exact Jm x
 |met f y=>exact Jm (show h.get? a=some _ from x)
 |ext φ=>obtain⟨_,⟨_,e⟩,_⟩:=x;exact Jm e
theorem Paired.mapP{α β:Type}{F G:α->β->Prop}:∀{l₁:List α}{l₂:List β},Paired F l₁ l₂->(∀a b,F a b->G a b)->Paired G l₁ l₂
 |_,_,.nil,_=>.nil
 |_,_,.cons r t,f=>.cons (f _ _ r) (Paired.mapP t f)
theorem ObjOk.stay(x:ObjOk P w H h a o)(k:∀b u,(b=a\/H b=some (.own a))->h.get? b=some u->h'.get? b=some u)
  (ho:∀b,H b=some (.own a)->H' b=some (.own a)) (ht:∀b xs,H b=some (.tup xs)->H' b=some (.tup xs)) (hf:∀b o u,H b=some (.frz o u)->H' b=some (.frz o u)):ObjOk P w H' h' a o:=by
 induction o with
 |lst xs=>obtain⟨z,Nc,n,r,e⟩:=x;exact⟨z,Nc,n,r,k _ _ (.inl rfl) e⟩
 |tup xs=>obtain⟨z,Nc,r,ob,e,c⟩:=x;exact⟨z,Nc,r,ob,k _ _ (.inl rfl) e,c⟩
 |dK Ng=>obtain⟨z,y,vs,r,ob,es,ep,e,c⟩:=x;exact⟨z,y,vs,r,ob,es,ep,k _ _ (.inl rfl) e,c⟩
 |dT Ng=>
  obtain⟨z,y,xs,r,ob,es,ep,e,c⟩:=x;exact⟨z,y,xs,Paired.mapP r λp q z=>⟨z.1,ht _ _ z.2.1,z.2.2⟩,ob,es,ep,k _ _ (.inl rfl) e,c⟩
 |set S n=>obtain⟨ob,es,ep,t,e,c⟩:=x;exact⟨ob,es,ep,t,k _ _ (.inl rfl) e,c⟩
 |ins C dx fs=>
  obtain⟨d,z,ne,e,mA,⟨od,es,ep,e2,c⟩,r⟩:=x;exact⟨ho _ d,z,ne,k _ _ (.inl rfl) e,mA,⟨od,es,ep,k _ _ (.inr d) e2,c⟩,r⟩
 |own y=>obtain⟨ob,e⟩:=x;exact⟨ob,k _ _ (.inl rfl) e⟩
 |xd fs=>obtain⟨mA,⟨od,es,ep,e,c⟩,r⟩:=x;exact⟨mA,⟨od,es,ep,k _ _ (.inl rfl) e,c⟩,r⟩
 |rng lo hi=>obtain⟨t,u,v,e⟩:=x;exact⟨t,u,v,k _ _ (.inl rfl) e⟩
 |frz ob u ih=>obtain⟨e,q⟩:=x;exact⟨k _ _ (.inl rfl) e,ih q⟩
 |tbl ps=>
  rcases x with x|⟨c,o,vs,y,z,q,t,t',e1,e2,e3,e4⟩
  ·exact .inl (k a _ (.inl rfl) x)
  ·exact .inr ⟨c,o,vs,y,z,q,t,t',e1,hf _ _ _ e2,k a _ (.inl rfl) e3,e4⟩
 |met f y=>
  have e:h.get? a=some (methodObj (.ref f) (.ref y)):=x;show h'.get? a=some (methodObj (.ref f) (.ref y));exact k a _ (.inl rfl) e
 |ext φ=>obtain⟨p,⟨o,e⟩,st⟩:=x;exact⟨st _ _ p λo q=>k _ _ (.inl rfl) q,⟨o,k _ _ (.inl rfl) e⟩,st⟩
theorem HOk.lt(x:HOk P w H h)(e:H a=some o):a<h.objs.size:=(x a o e).lt
theorem HOk.fresh(x:HOk P w H h)(e:h.objs.size<=a):H a=none:=by
 cases q:H a with
 |none=>rfl
 |some u=>exact absurd (Jw (x.lt q) e) (KC _)
theorem HOk.kept(x:HOk P w H h)(k:∀b u,h.get? b=some u->h'.get? b=some u):HOk P w H h':=λa o e=>
 (x a o e).stay (λb u _ q=>k b u q) (λ_ q=>q) (λ_ _ q=>q) λ_ _ _ q=>q
theorem HOk.laid(x:HOk P w H h)(k:∀b u,h.get? b=some u->h'.get? b=some u)(hp:h.objs.size<=a)(new:ObjOk P w (ak H a o) h' a o):HOk P w (ak H a o) h':=λb u e=>by
 have hn:=x.fresh hp;by_cases hb:b=a
 ·subst hb;rw[bq]at e;cases e;exact new
 ·rw[ba hb]at e
  exact (x b u e).stay (λc v _ q=>k c v q) (λc q=>by rw[ba (dA q hn)];exact q) (λc xs q=>by rw[ba (dA q hn)];exact q) λc ob w' q=>by rw[ba (dA q hn)];exact q
end
noncomputable def Rd(H:Hp)(a:Addr)(u:HO):Prop:=H a=some u\/∃o,H a=some (.frz o u)
theorem Rd.ok{P:Program}{w:World}{H:Hp}{h:Heap}{a:Addr}{u:HO}(r:Rd H a u)(x:HOk P w H h):ObjOk P w H h a u:=by
 rcases r with r|⟨o,r⟩
 ·exact x a u r
 ·obtain⟨_,q⟩:=x a _ r;exact q
noncomputable def kM:Option HO->Prop
 |some (.lst _)=>True
 |some (.dK _)=>True
 |some (.dT _)=>True
 |some (.set _ _)=>True
 |some (.ins _ _ _)=>True
 |some (.ext _)=>True
 |_=>False
section
variable{P:Program}{w:World}{H:Hp}{h h':Heap}{x e:Addr}{o':HO}
theorem HOk.write(ok:HOk P w H h)(mu:kM (H x))(he:e=x\/H e=some (.own x))(k:∀b u,b≠e->h.get? b=some u->h'.get? b=some u)(QN:∃u,h'.get? e=some u)
  (new:ObjOk P w (ak H x o') h' x o'):HOk P w (ak H x o') h':=λb u q=>by
 have Rb:∀c y,H c=some (.own y)->c≠x:=λc y r z=>by subst z;rw[r]at mu;exact mu
 have SI:∀c xs,H c=some (.tup xs)->c≠x:=λc xs r z=>by subst z;rw[r]at mu;exact mu
 have SJ:∀c ob w',H c=some (.frz ob w')->c≠x:=λc ob w' r z=>by subst z;rw[r]at mu;exact mu
 by_cases hb:b=x
 ·subst hb;rw[bq]at q;cases q;exact new
 ·rw[ba hb]at q;by_cases Qp:b=e
  ·have q':H b=some (.own x):=by
    rcases he with z|z
    ·exact absurd (Qp.trans z) hb
    ·rw[Qp];exact z
   rw[q]at q';cases q';obtain⟨v,hv⟩:=QN;exact⟨v,by rw[Qp];exact hv⟩
  ·refine (ok b u q).stay (λc v hc r=>k c v ?_ r) (λc r=>by rw[ba (Rb c b r)];exact r) (λc xs r=>by rw[ba (SI c xs r)];exact r) λc ob w' r=>by rw[ba (SJ c ob w' r)];exact r
   rcases hc with rfl|hc
   ·exact Qp
   ·rintro rfl;rcases he with z|z
    ·exact Rb c b hc z
    ·rw[hc]at z;cases z;exact hb rfl
end
structure Un(fs ex:List Addr)(H H':Hp)(h h':Heap):Prop where
 keep:∀b o,h.get? b=some o->H b=none->b∉fs->b∉ex->h'.get? b=some o
 slot:∀b o,h.get? b=some o->H b=none->b∈fs->b∉ex->∃sl,h'.get? b=some { o with slots:=sl }
 free:∀b o,h.get? b=some o->H b=none->b∉ex->H' b=none
 there:∀b o,h.get? b=some o->b∉ex->∃o',h'.get? b=some o'
 tups:∀b xs,H b=some (.tup xs)->H' b=some (.tup xs)
 frzs:∀b o u,H b=some (.frz o u)->H' b=some (.frz o u)
 tbls:∀b ps,H b=some (.tbl ps)->H' b=some (.tbl ps)
section
variable{fs ex:List Addr}{H H1:Hp}{h h1 h':Heap}{a x e:Addr}{o:HO}
theorem Un.any(u:Un fs ex H H1 h h1){b:Addr}{ob:Obj}(q:h.get? b=some ob)(n:H b=none)(hx:b∉ex):∃sl,h1.get? b=some { ob with slots:=sl }:=by
 by_cases hb:b∈fs
 ·exact u.slot b ob q n hb hx
 ·exact⟨ob.slots,u.keep b ob q n hb hx⟩
theorem Un.kept(k:∀b u,h.get? b=some u->h'.get? b=some u):Un fs ex H H h h':=
 ⟨λb ob q _ _ _=>k b ob q,λb ob q _ _ _=>⟨ob.slots,k b ob q⟩,λ_ _ _ n _=>n,λb ob q _=>⟨ob,k b ob q⟩,λ_ _ q=>q,λ_ _ _ q=>q,λ_ _ q=>q⟩
theorem Un.refl:Un fs ex H H h h:=Un.kept λ_ _ q=>q
theorem Un.laid(k:∀b u,h.get? b=some u->h'.get? b=some u)(hp:h.objs.size<=a)(hn:H a=none):Un fs ex H (ak H a o) h h' where
 keep:=λb u q _ _ _=>k b u q
 slot:=λb u q _ _ _=>⟨u.slots,k b u q⟩
 free:=λb u q n _=>by rw[ba (JM (Jw (Jm q) hp))];exact n
 there:=λb u q _=>⟨u,k b u q⟩
 tups:=λb xs q=>by rw[ba (dA q hn)];exact q
 frzs:=λb u xs q=>by rw[ba (dA q hn)];exact q
 tbls:=λb ps q=>by rw[ba (dA q hn)];exact q
theorem Un.write(mu:kM (H x))(he:e=x\/H e=some (.own x))(k:∀b u,b≠e->h.get? b=some u->h'.get? b=some u)(QN:∃u,h'.get? e=some u):Un fs ex H (ak H x o) h h':=by
 have hx:∀b,H b=none->b≠x:=λb n z=>by subst z;rw[n]at mu;exact mu
 have hb:∀b,H b=none->b≠e:=λb n z=>by
  subst z;rcases he with r|r
  ·exact hx b n r
  ·rw[n]at r;cases r
 have hm:∀b u,H b=some u->¬ kM (some u)->b≠x:=λb u q nm z=>by subst z;rw[q]at mu;exact nm mu
 refine⟨λb u q n _ _=>k b u (hb b n) q,λb u q n _ _=>⟨u.slots,k b u (hb b n) q⟩,λb u q n _=>by rw[ba (hx b n)];exact n,λb u q _=>?_,
  λb xs q=>by rw[ba (hm b _ q λz=>z)];exact q,λb u xs q=>by rw[ba (hm b _ q λz=>z)];exact q,λb ps q=>by rw[ba (hm b _ q λz=>z)];exact q⟩
 by_cases Qp:b=e
 ·subst Qp;exact QN
 ·exact⟨u,k b u Qp q⟩
end
noncomputable def mU(h:Heap)(H:Hp):List Addr:=(List.range h.objs.size).filter λa=>(H a).isSome
noncomputable def gH(h:Heap)(H:Hp):Heap:=PySem.W.hideAll h (mU h H)
theorem EA(h:Heap)(H:Hp):(gH h H).objs.size=h.objs.size:=PySem.W.hideAll_size _ _
theorem Gu{h:Heap}{H:Hp}{b:Addr}{o:Obj}(e:h.get? b=some o)(n:H b=none):(gH h H).get? b=some o:=
 PySem.W.hideAll_get _ e λhm=>by have q:(H b).isSome=true:=(MI.mp hm).2;rw[n]at q;simp at q
theorem CK{h:Heap}{H:Hp}{b:Addr}{o:Obj}(e:(gH h H).get? b=some o):h.get? b=some o/\H b=none:=by
 have e':h.get? b=some o:=PySem.W.of_hideAll (mU h H) e;refine⟨e',?_⟩
 cases q:H b with
 |none=>rfl
 |some x=>
  have hm:b∈mU h H:=MI.mpr ⟨J6.mpr (Jm e'),by simp[q]⟩;have z:(gH h H).get? b=none:=PySem.W.hideAll_none (mU h H) hm;rw[z]at e;cases e
structure Mod(K:Frag)(mg:Str->Option Value)(base:Heap):Prop where
 kin:K.In base
 glob:base.Ns mainGlobals mg
 blt:∃mb,base.Ns builtinsNs mb/\∀x:Str,x≠"__name__"->mb x=bootBuiltins x
 nolimit:base.NoLimit
 bmod:∃bm ob,mg "__builtins__"=some (.ref bm)/\bm≠builtinsNs/\base.get? bm=some ob/\ob.cls=.type "module"/\ob.dict=some builtinsNs/\ob.data=.plain
 seer:base.NoSeer
 dig:∃mc,base.Ns cStatics mc/\mc "sys.int_max_str_digits"=none
structure Cx where
 prog:Program
 w:World
 K:Frag
 mg:Str->Option Value
 base:Heap
 A:Around
 N:List Str
 s₀:Shared
 H₀:Hp
 env:Env
 outer:List Env
 stack:List Env
 ex:List Addr
 fn:Str->Bool
 calm:Bool
 pn:List (Addr×Obj)
 xe:Value->Shared->Prop
noncomputable def fh(l:List Env):List Addr:=l.filterMap (·.frame)
noncomputable abbrev Cx.fs(X:Cx):List Addr:=fh X.outer
noncomputable def cF(sc:Scope)(x:Str):Prop:=sc.names.lookup x=some .local\/sc.names.lookup x=some .cell\/sc.names.lookup x=some .free
noncomputable def di(sc:Scope)(x:Str):Prop:=sc.names.lookup x=some .local\/sc.names.lookup x=some .cell
noncomputable def Dw(env:Env)(h:Heap)(m:Str->Option Value)(x:Str)(u:Value):Prop:=
 (env.kindOf x=some .local/\m x=some u)\/((env.kindOf x=some .cell\/env.kindOf x=some .free)/\∃c,env.cells.lookup x=some c/\h.IsCell c (some u))
structure Cx.Ok(X:Cx):Prop where
 mod:Mod X.K X.mg X.base
 kind:X.env.scope.kind=.function
 glob:X.env.globals=mainGlobals
 blt:X.env.builtins=builtinsNs
 above:X.s₀.heap.objs.size<=X.env.locals
 inj:∀x y c,X.env.cells.lookup x=some c->X.env.cells.lookup y=some c->x=y
 has:∀x,(X.env.kindOf x=some .cell\/X.env.kindOf x=some .free)->∃c,X.env.cells.lookup x=some c
 cab:∀x c,X.fn x=true->X.env.cells.lookup x=some c->X.s₀.heap.objs.size<=c
 hd:X.calm=true->X.A.handled=none
 frames:X.A.frames=some X.stack
 stk:X.stack=X.outer\/(X.stack=X.env::X.outer/\X.env.frame=some X.env.locals)
 exf:∀b∈X.ex,b≠X.env.locals/\∀x c,X.env.cells.lookup x=some c->c≠b
 bs:∀b o,X.base.get? b=some o->X.s₀.heap.get? b=some o/\X.H₀ b=none
 bsz:X.base.objs.size<=X.s₀.heap.objs.size
 noex:∀b o,X.base.get? b=some o->b∉X.ex
 exfs:∀b∈X.ex,b∉X.fs
 funs:X.s₀.heap.FunFrames X.base X.outer
 frf:∀b∈X.fs,X.H₀ b=none
structure Inv(X:Cx)(pins:List (Addr×Obj))(σ:List (Option V))(H:Hp)(s:Shared):Prop where
 ok:X.Ok
 os:s.os=X.s₀.os
 bare:AllBare s.gens
 base:Un X.fs X.ex X.H₀ H X.s₀.heap s.heap
 loc:∃m,s.heap.Ns X.env.locals m/\∀(i:Nat)(x:Str)(v:V),X.N[i]?=some x->σ[i]?=some (some v)->cF X.env.scope x->∃u,RelV v u/\Dw X.env s.heap m x u
 cell:∀x c,X.env.cells.lookup x=some c->∃v,s.heap.IsCell c v
 free:H X.env.locals=none
 freeC:∀x c,X.env.cells.lookup x=some c->H c=none
 pin:∀p∈X.pn++pins,s.heap.get? p.1=some p.2/\H p.1=none/\p.1≠X.env.locals/\p.1∉X.fs/\∀v,p.2.data≠.cell v
 hok:HOk X.prog X.w H s.heap
 len:σ.length=X.N.length
section
variable{X:Cx}{pins:List (Addr×Obj)}{σ:List (Option V)}{H H':Hp}{s:Shared}{h':Heap}
theorem Cx.Ok.nofr(ok:X.Ok){b:Addr}{o:Obj}(e:X.base.get? b=some o):b∉X.fs:=λhb=>by have:=(ok.funs.mem hb).1;rw[e]at this;cases this
theorem Inv.bs(I:Inv X pins σ H s):∀b o,X.base.get? b=some o->s.heap.get? b=some o/\H b=none:=λb o e=>
 ⟨I.base.keep b o (I.ok.bs b o e).1 (I.ok.bs b o e).2 (I.ok.nofr e) (I.ok.noex b o e),I.base.free b o (I.ok.bs b o e).1 (I.ok.bs b o e).2 (I.ok.noex b o e)⟩
theorem Inv.bk(I:Inv X pins σ H s):∀b o,X.base.get? b=some o->s.heap.get? b=some o:=λb o e=>(I.bs b o e).1
theorem Inv.mod(I:Inv X pins σ H s):Mod X.K X.mg X.base:=I.ok.mod
theorem Inv.kIn(I:Inv X pins σ H s):X.K.In s.heap:=I.ok.mod.kin.keeps I.bk
theorem Inv.lt(I:Inv X pins σ H s):X.env.locals<s.heap.objs.size:=let ⟨_,hn,_⟩:=I.loc;hn.lt
theorem Inv.sz(I:Inv X pins σ H s):X.s₀.heap.objs.size<=s.heap.objs.size:=JE I.ok.above (KL I.lt)
theorem Inv.nofs(I:Inv X pins σ H s){a:Addr}(h:s.heap.objs.size<=a):a∉X.fs:=λhb=>by obtain⟨_,o,ho,_⟩:=I.ok.funs.mem hb;exact absurd (Jw (Jm ho) (JE I.sz h)) (KC _)
theorem Inv.cne(I:Inv X pins σ H s):∀x c,X.env.cells.lookup x=some c->c≠X.env.locals:=λx c e z=>by obtain⟨v,o,ho,hd⟩:=I.cell x c e;obtain⟨m,⟨o',es,ep,Pg,Qh,_⟩,_⟩:=I.loc;rw[z,Pg]at ho;cases ho;rw[Qh]at hd;cases hd
theorem Inv.funs(I:Inv X pins σ H s):s.heap.FunFrames X.base X.outer:=by
 have all:∀(l:List Env),(∀b∈fh l,b∈X.fs)->X.s₀.heap.FunFrames X.base l->s.heap.FunFrames X.base l:=by
  intro l
  induction l with
  |nil=>intro _ _;trivial
  |cons env r ih=>
   intro hs hl;obtain⟨hk,⟨L,o,hf,hn,ho,hd⟩,hr⟩:=hl;have hL:L∈X.fs:=hs L (by unfold fh;rw[L8,hf];exact IZ);obtain⟨sl,e⟩:=I.base.slot L o ho (I.ok.frf L hL) hL λz=>I.ok.exfs L z hL;exact⟨hk,⟨L,_,hf,hn,e,hd⟩,ih (λb hb=>hs b (by unfold fh;rw[L8,hf];exact IY _ hb)) hr⟩
 exact all X.outer (λ_ hb=>hb) I.ok.funs
theorem Inv.stack(I:Inv X pins σ H s):s.heap.FunFrames X.base X.stack:=by
 rcases I.ok.stk with e|⟨e,hf⟩
 ·rw[e];exact I.funs
 ·rw[e];obtain⟨m,hn,_⟩:=I.loc;refine .cons (by rw[I.ok.kind];decide) hf hn ?_ I.funs;exact Heap.get?_none_of_le (JE I.ok.bsz I.ok.above)
theorem Inv.stkSub(I:Inv X pins σ H s):∀b∈fh X.stack,b∈X.env.locals::X.fs:=λb hb=>by
 rcases I.ok.stk with e|⟨e,hf⟩
 ·rw[e]at hb;exact IY _ hb
 ·rw[e]at hb;unfold fh at hb;rw[L8,hf]at hb;exact hb
theorem Inv.stkFree(I:Inv X pins σ H s):∀b∈fh X.stack,H b=none:=λb hb=>by
 rcases Jb.mp (I.stkSub b hb)with e|hb
 ·rw[e];exact I.free
 ·obtain⟨_,o,ho,_⟩:=I.ok.funs.mem hb;exact I.base.free b o ho (I.ok.frf b hb) λz=>I.ok.exfs b z hb
theorem Inv.step{g':Array GenState}{t':Nat}{d':Drawn}{ch:List Addr}(I:Inv X pins σ H s)
  (PN:∀b∈ch,(b∈X.ex\/X.s₀.heap.objs.size<=b)/\b≠X.env.locals/\(∀x c,X.env.cells.lookup x=some c->c≠b)/\∀p∈X.pn++pins,p.1≠b)
  (keep:∀b o,b≠X.env.locals->b∉X.fs->b∉ch->s.heap.get? b=some o->H b=none->h'.get? b=some o)
  (slot:∀b o,b≠X.env.locals->b∈X.fs->b∉ch->s.heap.get? b=some o->H b=none->∃sl,h'.get? b=some { o with slots:=sl }) (free:∀b o,b∉ch->s.heap.get? b=some o->H b=none->H' b=none)
  (there:∀b o,b∉ch->s.heap.get? b=some o->∃o',h'.get? b=some o')
  (tups:∀b xs,H b=some (.tup xs)->H' b=some (.tup xs)) (frzs:∀b o u,H b=some (.frz o u)->H' b=some (.frz o u)) (tbls:∀b ps,H b=some (.tbl ps)->H' b=some (.tbl ps))
  (ns:∀m,s.heap.Ns X.env.locals m->h'.Ns X.env.locals m) (hok:HOk X.prog X.w H' h') (hg:AllBare g') :
  Inv X pins σ H' { s with heap:=h',gens:=g',drawn:=d',toks:=t' }:=by
 have neL:∀b o,X.s₀.heap.get? b=some o->b≠X.env.locals:=λb o e=>JM (Jw (Jm e) I.ok.above)
 have RX:∀b o,X.s₀.heap.get? b=some o->b∉X.ex->b∉ch:=λb o e hx hb=>by
  rcases (PN b hb).1 with z|z
  ·exact hx z
  ·exact absurd (Jw (Jm e) z) (KC _)
 have cellK:∀x c,X.env.cells.lookup x=some c->∀v,s.heap.IsCell c v->h'.IsCell c v:=λx c e v Nb=>by
  obtain⟨o,ho,hd⟩:=Nb;have Rc:c∉ch:=λz=>(PN c z).2.2.1 x c e rfl;by_cases hc:c∈X.fs
  ·obtain⟨sl,q⟩:=slot c o (I.cne x c e) hc Rc ho (I.freeC x c e);exact⟨_,q,hd⟩
  ·exact⟨o,keep c o (I.cne x c e) hc Rc ho (I.freeC x c e),hd⟩
 refine⟨I.ok,I.os,hg,⟨λb o e n hb hx=>?_,λb o e n hb hx=>?_,λb o e n hx=>?_,λb o e hx=>?_,λb xs e=>tups b xs (I.base.tups b xs e),λb o xs e=>frzs b o xs (I.base.frzs b o xs e),λb ps e=>tbls b ps (I.base.tbls b ps e)⟩,?_,λx c e=>?_,?_,λx c e=>?_,λp hp=>?_,hok,I.len⟩
 ·exact keep b o (neL b o e) hb (RX b o e hx) (I.base.keep b o e n hb hx) (I.base.free b o e n hx)
 ·obtain⟨sl,e1⟩:=I.base.slot b o e n hb hx;obtain⟨sl',e2⟩:=slot b _ (neL b o e) hb (RX b o e hx) e1 (I.base.free b o e n hx);exact⟨sl',e2⟩
 ·obtain⟨o',e1⟩:=I.base.there b o e hx;exact free b o' (RX b o e hx) e1 (I.base.free b o e n hx)
 ·obtain⟨o',e1⟩:=I.base.there b o e hx;exact there b o' (RX b o e hx) e1
 ·obtain⟨m,hn,hl⟩:=I.loc;refine⟨m,ns m hn,λi x v e1 e2 e3=>?_⟩;obtain⟨u,r,l⟩:=hl i x v e1 e2 e3;refine⟨u,r,?_⟩;rcases l with l|⟨k,c,e,z⟩
  ·exact .inl l
  ·exact .inr ⟨k,c,e,cellK x c e _ z⟩
 ·obtain⟨v,z⟩:=I.cell x c e;exact⟨v,cellK x c e v z⟩
 ·obtain⟨m,⟨o,_,_,ho,_⟩,_⟩:=I.loc;exact free _ o (λz=>(PN _ z).2.1 rfl) ho I.free
 ·obtain⟨v,o,ho,hd⟩:=I.cell x c e;exact free c o (λz=>(PN c z).2.2.1 x c e rfl) ho (I.freeC x c e)
 ·obtain⟨e,n,ne,nf,d⟩:=I.pin p hp;have Rc:p.1∉ch:=λz=>(PN p.1 z).2.2.2 p hp rfl;exact⟨keep p.1 p.2 ne nf Rc e n,free p.1 p.2 Rc e n,ne,nf,d⟩
theorem Inv.un{t':Nat}(I:Inv X pins σ H s)(u:Un X.fs [] H H' s.heap h')(hok:HOk X.prog X.w H' h'):Inv X pins σ H' { s with heap:=h',toks:=t' }:=by
 obtain⟨m,⟨o,es,ep,ho,r⟩,_⟩:=id I.loc;obtain⟨sl,hL⟩:=u.any ho I.free (by simp)
 exact I.step (g':=s.gens) (d':=s.drawn) (ch:=[]) (λ_ z=>nomatch z) (λb o _ hb _ e n=>u.keep b o e n hb (by simp)) (λb o _ hb _ e n=>u.slot b o e n hb (by simp)) (λb o _ e n=>u.free b o e n (by simp)) (λb o _ e=>u.there b o e (by simp)) u.tups u.frzs u.tbls (λm' hm=>by
  obtain⟨o',SK,SM,Pg,r'⟩:=hm;rw[ho]at Pg;cases Pg
  exact⟨_,SK,SM,hL,r'⟩) hok I.bare
theorem Inv.call{g':Array GenState}{t':Nat}{d':Drawn}{ch:List Addr}(I:Inv X pins σ H s)(u:Un (fh X.stack) ch H H' s.heap h')(hok:HOk X.prog X.w H' h')(hg:AllBare g')
  (PN:∀b∈ch,(b∈X.ex\/X.s₀.heap.objs.size<=b)/\b≠X.env.locals/\(∀x c,X.env.cells.lookup x=some c->c≠b)/\∀p∈X.pn++pins,p.1≠b) :
  Inv X pins σ H' { s with heap:=h',gens:=g',drawn:=d',toks:=t' }:=by
 obtain⟨m,⟨o,es,ep,ho,r⟩,_⟩:=id I.loc;obtain⟨sl,hL⟩:=u.any ho I.free λz=>(PN _ z).2.1 rfl
 exact I.step (ch:=ch) PN (λb o hL hb hc e n=>u.keep b o e n (λz=>(Jb.mp (I.stkSub b z)).elim hL hb) hc) (λb o _ _ hc e n=>u.any e n hc) (λb o hc e n=>u.free b o e n hc) (λb o hc e=>u.there b o e hc) u.tups u.frzs u.tbls (λm' hm=>by
  obtain⟨o',SK,SM,Pg,r'⟩:=hm;rw[ho]at Pg;cases Pg
  exact⟨_,SK,SM,hL,r'⟩) hok hg
theorem Inv.turned{t':Nat}{it:Addr}(I:Inv X pins σ H s)(k:∀b o,b≠it->s.heap.get? b=some o->h'.get? b=some o)(hn:H it=none)(hL:it≠X.env.locals)
  (h1:it∈X.ex\/X.s₀.heap.objs.size<=it) (h2:∀x c,X.env.cells.lookup x=some c->c≠it) (h3:∀p∈X.pn++pins,p.1≠it):Inv X pins σ H { s with heap:=h',toks:=t' }:=by
 have Rf:∀b u,H b=some u->b≠it:=λb u e z=>by rw[z,hn]at e;cases e
 refine I.step (g':=s.gens) (d':=s.drawn) (ch:=[it]) (λb hb=>?_) (λb o _ _ hc e _=>k b o (λz=>hc (by simp[z])) e) (λb o _ _ hc e _=>⟨o.slots,k b o (λz=>hc (by simp[z])) e⟩) (λ_ _ _ _ n=>n)
  (λb o hc e=>⟨o,k b o (λz=>hc (by simp[z])) e⟩) (λ_ _ e=>e) (λ_ _ _ e=>e) (λb ps e=>e) (λm hm=>?_) (λb u e=>?_) I.bare
 ·have e:b=it:=by simpa using hb
  subst e;exact⟨h1,hL,h2,h3⟩
 ·obtain⟨o,es,ep,ho,r⟩:=hm;exact⟨o,es,ep,k _ o (J7 hL) ho,r⟩
 ·refine (I.hok b u e).stay (λc v hc q=>k c v ?_ q) (λ_ q=>q) (λ_ _ q=>q) λ_ _ _ q=>q;rcases hc with z|z
  ·rw[z];exact Rf b u e
  ·exact Rf c _ z
theorem Inv.tok(I:Inv X pins σ H s)(t:Nat):Inv X pins σ H { s with toks:=t }:=I.un (h':=s.heap) (t':=t) Un.refl I.hok
theorem Inv.kept{t':Nat}(I:Inv X pins σ H s)(k:∀b u,s.heap.get? b=some u->h'.get? b=some u):Inv X pins σ H { s with heap:=h',toks:=t' }:=I.un (Un.kept k) (I.hok.kept k)
theorem Inv.laid{a:Addr}{o:HO}{t':Nat}(I:Inv X pins σ H s)(k:∀b u,s.heap.get? b=some u->h'.get? b=some u)(hp:s.heap.objs.size<=a)(new:ObjOk X.prog X.w (ak H a o) h' a o) :
  Inv X pins σ (ak H a o) { s with heap:=h',toks:=t' }:=I.un (Un.laid k hp (I.hok.fresh hp)) (I.hok.laid k hp new)
theorem Inv.write{x e:Addr}{o:HO}{t':Nat}(I:Inv X pins σ H s)(mu:kM (H x))(he:e=x\/H e=some (.own x))(k:∀b u,b≠e->s.heap.get? b=some u->h'.get? b=some u)(QN:∃u,h'.get? e=some u)
  (new:ObjOk X.prog X.w (ak H x o) h' x o):Inv X pins σ (ak H x o) { s with heap:=h',toks:=t' }:=I.un (Un.write mu he k QN) (I.hok.write mu he k QN new)
theorem Inv.pins_of{Pp:List (Addr×Obj)}(I:Inv X pins σ H s)(h:∀p∈Pp,s.heap.get? p.1=some p.2/\H p.1=none/\p.1≠X.env.locals/\p.1∉X.fs/\∀v,p.2.data≠.cell v):Inv X Pp σ H s:=
 ⟨I.ok,I.os,I.bare,I.base,I.loc,I.cell,I.free,I.freeC,λp hp=>(Jv.mp hp).elim (λz=>I.pin p (LV _ z)) (h p),I.hok,I.len⟩
theorem sy{N:List Str}(hN:N.Nodup){i j:Nat}{x:Str}(a:N[i]?=some x)(b:N[j]?=some x):i=j:=by obtain⟨h1,e1⟩:=JN.mp a;obtain⟨h2,e2⟩:=JN.mp b;exact (List.getElem_inj hN).mp (e1.trans e2.symm)
theorem wg{M:Model}{A:Around}{E:Value->Shared->Prop}{i:Nat}{x:Str}{v:V}{u:Value}{Q:Unit->Shared->Prop}(I:Inv X pins σ H s)(hN:X.N.Nodup)(hi:X.N[i]?=some x)(hx:di X.env.scope x)(r:RelV v u)
  (h:∀s',Inv X pins (σ.set i (some v)) H s'->(∃a,Heap.SameBut a s.heap s'.heap/\(a=X.env.locals\/X.env.cells.lookup x=some a))->Q () s') (hf:X.fn x=true\/X.env.scope.names.lookup x=some .local:=by nofun):wpAny M A (storeName X.env x u) Q E s:=by
 obtain⟨m,hn,hl⟩:=id I.loc
 have SN:(X.env.scope.kind==.class ||(X.env.scope.kind==.module&&X.env.locals != X.env.globals))=false:=by rw[I.ok.kind];rfl
 have hiσ:i<σ.length:=by rw[I.len];exact (JN.mp hi).1
 have cne:=I.cne
 have tracked:∀{a:Addr}{h':Heap},(∃o,s.heap.get? a=some o/\H a=none)->Heap.SameBut a s.heap h'->HOk X.prog X.w H h':=λ{a h'} ha hs b ob e=>by
  obtain⟨_,_,Qi⟩:=ha;refine (I.hok b ob e).stay (λc w' hc q=>(hs.2 c ?_).trans q) (λ_ q=>q) (λ_ _ q=>q) λ_ _ _ q=>q;rintro rfl;rcases hc with rfl|hc
  ·rw[Qi]at e;cases e
  ·rw[Qi]at hc;cases hc
 rcases hx with hk|hk
 ·refine wpAny_storeName_local hk hn (λh' hn' hs=>?_) SN;obtain⟨oL,_,_,hoL,_⟩:=id hn;refine h _ ⟨I.ok,I.os,I.bare,⟨λb o e n hb hx=>?_,λb o e n hb hx=>?_,I.base.free,λb o e hx=>?_,I.base.tups,I.base.frzs,I.base.tbls⟩,⟨_,hn',λj y v' e1 e2 e3=>?_⟩,λy c e=>?_,I.free,I.freeC,λp hp=>?_,tracked ⟨oL,hoL,I.free⟩ hs,by simpa using I.len⟩ ⟨_,hs,.inl rfl⟩
  ·exact (hs.2 b (JM (Jw (Jm e) I.ok.above))).trans (I.base.keep b o e n hb hx)
  ·obtain⟨sl,e1⟩:=I.base.slot b o e n hb hx;exact⟨sl,(hs.2 b (JM (Jw (Jm e) I.ok.above))).trans e1⟩
  ·obtain⟨o',e1⟩:=I.base.there b o e hx;exact⟨o',(hs.2 b (JM (Jw (Jm e) I.ok.above))).trans e1⟩
  ·by_cases hj:j=i
   ·subst hj;rw[hi]at e1;cases e1;rw[Jt hiσ]at e2;cases e2;exact⟨u,r,.inl ⟨hk,by simp⟩⟩
   ·rw[Js (J7 hj)]at e2;obtain⟨u',r',q⟩:=hl j y v' e1 e2 e3;refine⟨u',r',?_⟩;rcases q with⟨k,e⟩|⟨k,c,e,z⟩
    ·refine .inl ⟨k,?_⟩;have:y≠x:=λe=>hj (sy hN e1 (e▸hi));simp[this,e]
    ·exact .inr ⟨k,c,e,z.sameBut hs (cne y c e)⟩
  ·obtain⟨w',z⟩:=I.cell y c e;exact⟨w',z.sameBut hs (cne y c e)⟩
  ·obtain⟨e,n,ne,nf,d⟩:=I.pin p hp;exact⟨(hs.2 p.1 ne).trans e,n,ne,nf,d⟩
 ·have SO:X.fn x=true:=by
   rcases hf with z|z
   ·exact z
   ·rw[z]at hk;cases hk
  obtain⟨c,hc⟩:=I.ok.has x (.inl hk);obtain⟨w',z⟩:=I.cell x c hc;refine wpAny_storeName_cell I.ok.kind hk hc z (λh' Rg hs=>?_);obtain⟨oc,RY,SQ⟩:=id z;refine h { s with heap:=h' } ⟨I.ok,I.os,I.bare,⟨λb o e n hb hx=>?_,λb o e n hb hx=>?_,I.base.free,λb o e hx=>?_,I.base.tups,I.base.frzs,I.base.tbls⟩,⟨m,hn.sameBut hs (J7 (cne x c hc)),λj y v' e1 e2 e3=>?_⟩,λy c' e=>?_,I.free,I.freeC,λp hp=>?_,tracked ⟨oc,RY,I.freeC x c hc⟩ hs,by simpa using I.len⟩ ⟨c,hs,.inr hc⟩
  ·exact (hs.2 b (JM (Jw (Jm e) (I.ok.cab x c SO hc)))).trans (I.base.keep b o e n hb hx)
  ·obtain⟨sl,e1⟩:=I.base.slot b o e n hb hx;exact⟨sl,(hs.2 b (JM (Jw (Jm e) (I.ok.cab x c SO hc)))).trans e1⟩
  ·obtain⟨o',e1⟩:=I.base.there b o e hx;exact⟨o',(hs.2 b (JM (Jw (Jm e) (I.ok.cab x c SO hc)))).trans e1⟩
  ·by_cases hj:j=i
   ·subst hj;rw[hi]at e1;cases e1;rw[Jt hiσ]at e2;cases e2;exact⟨u,r,.inr ⟨.inl hk,c,hc,Rg⟩⟩
   ·rw[Js (J7 hj)]at e2;obtain⟨u',r',q⟩:=hl j y v' e1 e2 e3;refine⟨u',r',?_⟩;rcases q with q|⟨k,c',e,z'⟩
    ·exact .inl q
    ·refine .inr ⟨k,c',e,z'.sameBut hs ?_⟩;rintro rfl;exact hj (sy hN e1 (I.ok.inj _ _ _ e hc▸hi))
  ·by_cases Qq:c'=c
   ·subst Qq;exact⟨_,Rg⟩
   ·obtain⟨w2,z2⟩:=I.cell y c' e;exact⟨w2,z2.sameBut hs Qq⟩
  ·obtain⟨e,n,ne,nf,d⟩:=I.pin p hp;refine⟨(hs.2 p.1 ?_).trans e,n,ne,nf,d⟩;intro q;rw[q,RY]at e;have q':oc=p.2:=JV e;exact d w' (by rw[←q'];exact SQ)
theorem t9{M:Model}{A:Around}{E:Value->Shared->Prop}{i:Nat}{x:Str}{v:V}{u:Value}{Q:Unit->Shared->Prop}(I:Inv X pins σ H s)(hN:X.N.Nodup)(hi:X.N[i]?=some x)(hx:di X.env.scope x)(r:RelV v u)
  (h:∀s',Inv X pins (σ.set i (some v)) H s'->Q () s') (hf:X.fn x=true\/X.env.scope.names.lookup x=some .local:=by nofun):wpAny M A (storeName X.env x u) Q E s:=
 wg I hN hi hx r (λs' I' _=>h s' I') hf
theorem Inv.call'{s':Shared}{ch:List Addr}(I:Inv X pins σ H s)(ho:s'.os=s.os)(u:Un (fh X.stack) ch H H' s.heap s'.heap)(hok:HOk X.prog X.w H' s'.heap)(hg:AllBare s'.gens)
  (PN:∀b∈ch,(b∈X.ex\/X.s₀.heap.objs.size<=b)/\b≠X.env.locals/\(∀x c,X.env.cells.lookup x=some c->c≠b)/\∀p∈X.pn++pins,p.1≠b):Inv X pins σ H' s':=by
 obtain⟨h',g',d',t',o'⟩:=s';have e:o'=s.os:=ho;subst e;exact I.call (g':=g') (t':=t') (d':=d') u hok hg PN
end
noncomputable abbrev XK:=Value->Option Addr->Hp->Prop
noncomputable abbrev St:=List (Option V)
noncomputable abbrev VK:=V->Hp->Prop
noncomputable abbrev TE:=St->Hp->VK->Prop
noncomputable abbrev TT:=St->Hp->(Bool->Hp->Prop)->Prop
noncomputable abbrev TA:=St->Hp->(List V->Hp->Prop)->Prop
structure Ends where
 nx:St->Hp->Prop
 rt:VK
 bk:St->Hp->Prop:=λ_ _=>False
 ct:St->Hp->Prop:=λ_ _=>False
noncomputable abbrev TS:=Ends->St->Hp->Prop
noncomputable def EP(X:Cx)(pins:List (Addr×Obj))(σ:St)(Q:VK)(u:Value)(s':Shared):Prop:=∃v H',Inv X pins σ H' s'/\RelV v u/\Q v H'
noncomputable def TP(X:Cx)(pins:List (Addr×Obj))(σ:St)(Q:Bool->Hp->Prop)(b:Bool)(s':Shared):Prop:=∃H',Inv X pins σ H' s'/\Q b H'
noncomputable def AP(X:Cx)(pins:List (Addr×Obj))(σ:St)(Q:List V->Hp->Prop)(us:List Value)(s':Shared):Prop:=∃vs H',Inv X pins σ H' s'/\Vals vs us/\Q vs H'
noncomputable def SP(X:Cx)(pins:List (Addr×Obj))(D:Ends)(f:Flow)(s':Shared):Prop:=
 match f with
 |.next=>∃σ' H',Inv X pins σ' H' s'/\D.nx σ' H'
 |.brk=>∃σ' H',Inv X pins σ' H' s'/\D.bk σ' H'
 |.cont=>∃σ' H',Inv X pins σ' H' s'/\D.ct σ' H'
 |.ret u=>∃v σ' H',Inv X pins σ' H' s'/\RelV v u/\D.rt v H'
noncomputable def PE(X:Cx)(e:Expr)(t:TE):Prop:=
 ∀(pins:List (Addr×Obj))(s:Shared)(σ:St)(H:Hp)(Q:VK),Inv X pins σ H s->t σ H Q->wpAny (model X.prog X.w) X.A (eval e X.env) (EP X pins σ Q) X.xe s
noncomputable def PT(X:Cx)(e:Expr)(t:TT):Prop:=
 ∀(pins:List (Addr×Obj))(s:Shared)(σ:St)(H:Hp)(Q:Bool->Hp->Prop),Inv X pins σ H s->t σ H Q->wpAny (model X.prog X.w) X.A (isTrue e X.env (eval e X.env)) (TP X pins σ Q) X.xe s
noncomputable def PW(X:Cx)(e:Expr)(t:TT):Prop:=
 ∀(whole:Sem Value)(pins:List (Addr×Obj))(s:Shared)(σ:St)(H:Hp)(Q:Bool->Hp->Prop),Inv X pins σ H s->t σ H Q->wpAny (model X.prog X.w) X.A (isTrue e X.env whole) (TP X pins σ Q) X.xe s
theorem PW.pt{X:Cx}{e:Expr}{t:TT}(h:PW X e t):PT X e t:=h _
noncomputable def PA(X:Cx)(es:List Expr)(t:TA):Prop:=
 ∀(pos:Pos)(pins:List (Addr×Obj))(s:Shared)(σ:St)(H:Hp)(Q:List V->Hp->Prop),Inv X pins σ H s->t σ H Q->wpAny (model X.prog X.w) X.A (spliced (backTo pos (starEach es X.env))) (AP X pins σ Q) X.xe s
noncomputable def PS(X:Cx)(st:Stmt)(t:TS):Prop:=
 ∀(pins:List (Addr×Obj))(s:Shared)(σ:St)(H:Hp)(D:Ends),Inv X pins σ H s->t D σ H->wpAny (model X.prog X.w) X.A (exec st X.env) (SP X pins D) X.xe s
noncomputable def PSs(X:Cx)(st:List Stmt)(t:TS):Prop:=
 ∀(pins:List (Addr×Obj))(s:Shared)(σ:St)(H:Hp)(D:Ends),Inv X pins σ H s->t D σ H->wpAny (model X.prog X.w) X.A (execs st X.env) (SP X pins D) X.xe s
theorem aw{α:Type}{t:Sem α}{Q Q':α->Shared->Prop}{M:Model}{A:Around}{E:Value->Shared->Prop}{s:Shared}(h:wpAny M A t Q E s)(hQ:∀a s,Q a s->Q' a s):wpAny M A t Q' E s:=KD h hQ λ_ _ x=>x
section
variable{X:Cx}
noncomputable def sI(i:Nat):TE:=λσ H Q=>∃v,σ[i]?=some (some v)/\Q v H
noncomputable def tC(v:V):TE:=λ_ H Q=>Q v H
theorem Ij{i:Nat}{x:Str}{pos:Pos}(hN:X.N[i]?=some x)(hv:cF X.env.scope x)(hd:(x==("__debug__":Str))=false:=by decide)(Np:(x==("__classdict__":Str))=false:=by decide):PE X (.Name x pos) (sI i):=by
 intro pins s σ H Q I h;obtain⟨v,e,h⟩:=h;obtain⟨m,hn,hl⟩:=I.loc;obtain⟨u,r,l⟩:=hl i x v hN e hv;have fin:EP X pins σ Q u s:=⟨v,H,I,r,h⟩;rcases l with⟨hk,hm⟩|⟨hk,c,hc,Qj⟩
 ·exact wpAny_Name (wpAny_loadName_local I.ok.kind hk hn hm fin) hd
 ·rcases hk with hk|hk
  ·exact wpAny_Name (wpAny_loadName_cell I.ok.kind hk hc Qj fin) hd
  ·exact wpAny_Name (wpAny_loadName_free I.ok.kind hk hc Qj fin Np) hd
theorem Cc{i j pos}:PE X (.Constant (.int i) j pos) (tC (.int i)):=λ_ _ _ H _ I h=>wpAny_Constant_int ⟨.int i,H,I.tok _,⟨_,rfl⟩,h⟩
theorem G0{b j pos}:PE X (.Constant (.bool b) j pos) (tC (.bl b)):=λ_ _ _ H _ I h=>Constant_bool ⟨.bl b,H,I,rfl,h⟩
theorem HL{j pos}:PE X (.Constant .none j pos) (tC .non):=λ_ _ _ H _ I h=>Constant_none ⟨.non,H,I,rfl,h⟩
theorem wq{x j pos}:PE X (.Constant (.str x) j pos) (tC (.str x)):=λ_ _ _ H _ I h=>Calls.Constant_str ⟨.str x,H,I.tok _,⟨_,rfl⟩,h⟩
noncomputable def Gl(X:Cx)(x:Str):Prop:=X.env.kindOf x=some .globalImplicit
theorem qw{E:Value->Shared->Prop}{pins:List (Addr×Obj)}{s:Shared}{σ:St}{H:Hp}{x:Str}{u:Value}{pos:Pos}{Q:Value->Shared->Prop}(I:Inv X pins σ H s)(hg:Gl X x)(hm:X.mg x=some u)(h:Q u s)
  (hd:(x==("__debug__":Str))=false:=by decide):wpAny (model X.prog X.w) X.A (eval (.Name x pos) X.env) Q E s:=
 Calls.Name_function_global I.ok.kind hg (Calls.loadGlobal_global (by rw[I.ok.glob];exact I.mod.glob.keeps I.bk) hm h) hd
theorem hX{E:Value->Shared->Prop}{pins:List (Addr×Obj)}{s:Shared}{σ:St}{H:Hp}{x:Str}{u:Value}{pos:Pos}{Q:Value->Shared->Prop}(I:Inv X pins σ H s)(hg:Gl X x)(hm:X.mg x=none)(hv:bootBuiltins x=some u)(h:Q u s)
  (hn:x≠"__name__":=by decide) (hd:(x==("__debug__":Str))=false:=by decide):wpAny (model X.prog X.w) X.A (eval (.Name x pos) X.env) Q E s:=by
 obtain⟨mb,h1,h2⟩:=I.mod.blt;exact Calls.Name_function_global I.ok.kind hg (Calls.loadGlobal_builtin (by rw[I.ok.glob];exact I.mod.glob.keeps I.bk) hm (by rw[I.ok.blt];exact h1.keeps I.bk) ((h2 x hn).trans hv) h) hd
theorem sZ{x:Str}{v:V}{u:Value}{pos:Pos}(hg:Gl X x)(hm:X.mg x=some u)(r:RelV v u)(hd:(x==("__debug__":Str))=false:=by decide):PE X (.Name x pos) (tC v):=
 λ_ _ _ H _ I h=>qw I hg hm ⟨v,H,I,r,h⟩ hd
theorem FR{x:Str}{v:V}{u:Value}{pos:Pos}(hg:Gl X x)(hm:X.mg x=none)(hv:bootBuiltins x=some u)(r:RelV v u)(hn:x≠"__name__":=by decide)(hd:(x==("__debug__":Str))=false:=by decide):PE X (.Name x pos) (tC v):=
 λ_ _ _ H _ I h=>hX I hg hm hv ⟨v,H,I,r,h⟩ hn hd
variable{a b:Expr}{ta tb:TE}{pos:Pos}
noncomputable def PC(X:Cx)(op:CmpOp)(a b:Expr)(t:TE):Prop:=
 ∀(pins:List (Addr×Obj))(s:Shared)(σ:St)(H:Hp)(Q:VK),Inv X pins σ H s->t σ H Q->
  wpAny (model X.prog X.w) X.A (eval a X.env) (λv s₁=>wpAny (model X.prog X.w) X.A (eval b X.env) (λu s₂=>wpAny (model X.prog X.w) X.A (compareOp op v u) (EP X pins σ Q) X.xe s₂) X.xe s₁) X.xe s
noncomputable def tB(t:TE):TT:=λσ H Q=>t σ H λx H1=>∃c,x=.bl c/\Q c H1
theorem BH{op:CmpOp}{t:TE}(h:PC X op a b t)(h1:behindInMarks op b=false:=by first|exact nobehind _ (by decide) (by decide)|rfl):PT X (.Compare a [op] [b] pos) (tB t):=by intro pins s σ H Q I hw;refine wpAny_isTrue_Compare1 (aw (h pins s σ H _ I hw) λv s1 h1=>aw h1 λu s2 h2=>aw h2 λc s3 Nb=>?_) h1;obtain⟨x,H1,I1,r1,q1⟩:=Nb;obtain⟨d,rfl,q⟩:=q1;cases r1;exact LB ⟨H1,I1,q⟩
variable{tA RZ:TT}{rest:List Expr}
noncomputable def Fd(t u:TT):TT:=λσ H Q=>t σ H λc H1=>if c=true then u σ H1 Q else Q false H1
noncomputable def Az(t u:TT):TT:=λσ H Q=>t σ H λc H1=>if c=true then Q true H1 else u σ H1 Q
noncomputable def BW(t:TT):TT:=λσ H Q=>t σ H λc H1=>Q (!c) H1
theorem DW(ha:PT X a tA):PW X (.BoolOp .And [a] pos) tA:=by
 intro wh pins s σ H Q I h;refine isTrue_and (aw (ha pins s σ H Q I h) λc s1 e=>?_)
 cases c with
 |true=>exact isTrue_and_nil e
 |false=>exact e
theorem sR(ha:PT X a tA):PW X (.BoolOp .Or [a] pos) tA:=by
 intro wh pins s σ H Q I h;refine isTrue_or (aw (ha pins s σ H Q I h) λc s1 e=>?_)
 cases c with
 |false=>exact isTrue_or_nil e
 |true=>exact e
theorem Ex(ha:PT X a tA)(hb:PW X (.BoolOp .And (b::rest) pos) RZ):PW X (.BoolOp .And (a::b::rest) pos) (Fd tA RZ):=by
 intro wh pins s σ H Q I h;refine isTrue_and (aw (ha pins s σ H _ I h) λc s1 Nb=>?_);obtain⟨H1,I1,q1⟩:=Nb
 cases c with
 |true=>exact hb wh pins s1 σ H1 Q I1 q1
 |false=>exact⟨H1,I1,q1⟩
theorem sT(ha:PT X a tA)(hb:PW X (.BoolOp .Or (b::rest) pos) RZ):PW X (.BoolOp .Or (a::b::rest) pos) (Az tA RZ):=by
 intro wh pins s σ H Q I h;refine isTrue_or (aw (ha pins s σ H _ I h) λc s1 Nb=>?_);obtain⟨H1,I1,q1⟩:=Nb
 cases c with
 |true=>exact⟨H1,I1,q1⟩
 |false=>exact hb wh pins s1 σ H1 Q I1 q1
theorem Im(ha:PT X a tA):PT X (.UnaryOp .Not a pos) (BW tA):=by intro pins s σ H Q I h;exact isTrue_not (ha pins s σ H (λc H1=>Q (!c) H1) I h)
noncomputable def HF(t:TT)(ta tb:TE):TE:=λσ H Q=>t σ H λc H1=>if c=true then ta σ H1 Q else tb σ H1 Q
theorem Cq{c:Expr}(hc:PT X c tA)(ha:PE X a ta)(hb:PE X b tb):PE X (.IfExp c a b pos) (HF tA ta tb):=by
 intro pins s σ H Q I h;refine wpAny_IfExp (aw (hc pins s σ H _ I h) λd s1 Nb=>?_);obtain⟨H1,I1,q1⟩:=Nb
 cases d with
 |true=>exact ha pins s1 σ H1 Q I1 q1
 |false=>exact hb pins s1 σ H1 Q I1 q1
end
noncomputable def SqL(K:Frag)(H:Hp)(a:Addr)(xs:List V):Prop:=
 Rd H a (.lst xs) \/
  ∃(o:Obj)(Nc:Array Value)(n:Nat),K.lookup a=some o/\o.cls=.type "list"/\o.dict=none/\o.data=.seq Nc n/\Nc.size<=sizeLine/\Vals xs Nc.toList
noncomputable def SqT(K:Frag)(H:Hp)(a:Addr)(xs:List V):Prop:=
 Rd H a (.tup xs) \/
  ∃(o:Obj)(Nc:Array Value)(n:Nat),K.lookup a=some o/\o.cls=.type "tuple"/\o.data=.seq Nc n/\Nc.size<=sizeLine/\Vals xs Nc.toList
noncomputable def FG:Value->Option V
 |.none=>some .non
 |.bool b=>some (.bl b)
 |.int i _=>some (.int i)
 |.str x _=>some (.str x)
 |.bytes b _=>some (.byt b)
 |.float b _=>some (.flt b)
 |.ref a=>some (.ref a)
 |.type n=>some (.ty n)
 |_=>none
theorem RelV.abs{x:V}{u:Value}(r:RelV x u):FG u=some x:=by
 cases x with
 |non=>cases r;rfl
 |bl _=>cases r;rfl
 |int _=>obtain⟨t,rfl⟩:=r;rfl
 |str _=>obtain⟨t,rfl⟩:=r;rfl
 |byt _=>obtain⟨t,rfl⟩:=r;rfl
 |flt _=>obtain⟨t,rfl⟩:=r;rfl
 |ref _=>cases r;rfl
 |ty _=>cases r;rfl
theorem RelV.inj{x y:V}{u:Value}(r:RelV x u)(q:RelV y u):x=y:=JV (r.abs.symm.trans q.abs)
theorem Vals.inj:∀{xs ys:List V}{us:List Value},Vals xs us->Vals ys us->xs=ys
 |_,_,_,.nil,.nil=>rfl
 |_,_,_,.cons r t,.cons r' t'=>by rw[r.inj r',Vals.inj t t']
section
variable{X:Cx}{pins:List (Addr×Obj)}{σ:St}{H:Hp}{s:Shared}{a:Addr}{xs ys:List V}
theorem SqL.of{K:Frag}(h:H a=some (.lst xs)):SqL K H a xs:=.inl (.inl h)
theorem SqT.of{K:Frag}(h:H a=some (.tup xs)):SqT K H a xs:=.inl (.inl h)
theorem Inv.list(I:Inv X pins σ H s)(h:SqL X.K H a xs):∃Nc:List Value,Vals xs Nc/\PlainL s.heap a Nc.toArray/\xs.length<=sizeLine:=by
 rcases h with h|⟨o,Nc,n,hk,hc,hd,hs,hz,r⟩
 ·obtain⟨z,Nc,n,r,e⟩:=h.ok I.hok;exact⟨Nc,r,⟨_,n,e,rfl,rfl,rfl⟩,z⟩
 ·refine⟨Nc.toList,r,⟨o,n,I.kIn a o hk,hc,hd,by simpa using hs⟩,?_⟩;have e:=r.length;simp only[J3]at e;omega
theorem Inv.tuple(I:Inv X pins σ H s)(h:SqT X.K H a xs):∃Nc:List Value,Vals xs Nc/\IsTup s.heap a Nc.toArray/\xs.length<=sizeLine:=by
 rcases h with h|⟨o,Nc,n,hk,hc,hs,hz,r⟩
 ·obtain⟨z,Nc,r,p⟩:=h.ok I.hok;exact⟨Nc,r,p.tup,z⟩
 ·refine⟨Nc.toList,r,⟨o,I.kIn a o hk,hc,n,by simpa using hs⟩,?_⟩;have e:=r.length;simp only[J3]at e;omega
theorem Inv.list_inj(I:Inv X pins σ H s)(h:SqL X.K H a xs)(h':SqL X.K H a ys):xs=ys:=by
 obtain⟨Nc,r,⟨o,n,e,_,_,d⟩,_⟩:=I.list h;obtain⟨Nr,r',⟨o',n',e',_,_,d'⟩,_⟩:=I.list h';rw[e]at e';cases e';rw[d]at d';injection d' with d1 _
 have:Nc=Nr:=by simpa using Kl Array.toList d1
 subst this;exact r.inj r'
theorem Inv.tuple_inj(I:Inv X pins σ H s)(h:SqT X.K H a xs)(h':SqT X.K H a ys):xs=ys:=by
 obtain⟨Nc,r,⟨o,e,_,n,d⟩,_⟩:=I.tuple h;obtain⟨Nr,r',⟨o',e',_,n',d'⟩,_⟩:=I.tuple h';rw[e]at e';cases e';rw[d]at d';injection d' with d1 _
 have:Nc=Nr:=by simpa using Kl Array.toList d1
 subst this;exact r.inj r'
end
noncomputable abbrev Cx.wish(X:Cx)(E:Value->Shared->Prop):Cx:={ X with xe:=E }
noncomputable abbrev Cx.nox(X:Cx):Cx:=X.wish λ_ _=>False
theorem Cx.Ok.wish{X:Cx}(ok:X.Ok)(E:Value->Shared->Prop):(X.wish E).Ok:=
 ⟨ok.mod,ok.kind,ok.glob,ok.blt,ok.above,ok.inj,ok.has,ok.cab,ok.hd,ok.frames,ok.stk,ok.exf,ok.bs,ok.bsz,ok.noex,ok.exfs,ok.funs,ok.frf⟩
theorem Cx.Ok.unwish{X:Cx}{E:Value->Shared->Prop}(ok:(X.wish E).Ok):X.Ok:=
 ⟨ok.mod,ok.kind,ok.glob,ok.blt,ok.above,ok.inj,ok.has,ok.cab,ok.hd,ok.frames,ok.stk,ok.exf,ok.bs,ok.bsz,ok.noex,ok.exfs,ok.funs,ok.frf⟩
section
variable{X:Cx}{pins:List (Addr×Obj)}{σ:St}{H:Hp}{s:Shared}{E:Value->Shared->Prop}
theorem Inv.wish(I:Inv X pins σ H s)(E:Value->Shared->Prop):Inv (X.wish E) pins σ H s:=⟨I.ok.wish E,I.os,I.bare,I.base,I.loc,I.cell,I.free,I.freeC,I.pin,I.hok,I.len⟩
theorem Inv.unwish(I:Inv (X.wish E) pins σ H s):Inv X pins σ H s:=⟨I.ok.unwish,I.os,I.bare,I.base,I.loc,I.cell,I.free,I.freeC,I.pin,I.hok,I.len⟩
theorem SP.unwish{D:Ends}{f:Flow}{s':Shared}(h:SP (X.wish E) pins D f s'):SP X pins D f s':=by
 cases f with
 |next=>obtain⟨σ',H',I,q⟩:=h;exact⟨σ',H',I.unwish,q⟩
 |brk=>obtain⟨σ',H',I,q⟩:=h;exact⟨σ',H',I.unwish,q⟩
 |cont=>obtain⟨σ',H',I,q⟩:=h;exact⟨σ',H',I.unwish,q⟩
 |ret u=>obtain⟨v,σ',H',I,r,q⟩:=h;exact⟨v,σ',H',I.unwish,r,q⟩
theorem PSs.nox{st:List Stmt}{t:TS}(h:PSs X.nox st t):PSs X st t:=λpins s σ H D I hw=>
 KD (h pins s σ H D (I.wish _) hw) (λ_ _ q=>q.unwish) λ_ _ z=>False.elim z
end
section
variable{X:Cx}{st:Stmt}{rest:List Stmt}{t u:TS}{e:Expr}{te:TE}{pos:Pos}
noncomputable def Cm:TS:=λD σ H=>D.nx σ H
noncomputable def Fz(t u:TS):TS:=λD σ H=>t { D with nx:=u D } σ H
theorem pss_nil:PSs X [] Cm:=λ_ _ σ H _ I h=>MJ ⟨σ,H,I,h⟩
theorem lV(h1:PS X st t)(h2:PSs X rest u):PSs X (st::rest) (Fz t u):=by
 intro pins s σ H D I h;refine wpAny_execs_cons (aw (h1 pins s σ H { D with nx:=u D } I h) λf s1 q=>?_)
 cases f with
 |next=>
  obtain⟨σ',H',I',q⟩:=q;exact h2 pins s1 σ' H' D I' q
 |ret v=>exact q
 |brk=>exact q
 |cont=>exact q
theorem uD(h1:PS X st t):PSs X [st] t:=by
 intro pins s σ H D I h;refine wpAny_execs_cons (aw (h1 pins s σ H D I h) λf s1 q=>?_)
 cases f with
 |next=>exact MJ q
 |ret v=>exact q
 |brk=>exact q
 |cont=>exact q
theorem Inv.quiet{pins:List (Addr×Obj)}{σ:St}{H:Hp}{s:Shared}(I:Inv X pins σ H s):interactive X.env=false:=by simp[interactive,I.ok.kind]
noncomputable def x8(te:TE):TS:=λD σ H=>te σ H λ_ H1=>D.nx σ H1
theorem jk(he:PE X e te)(hs:swapsWith e none pos.line X.env=pure false:=by rfl):PS X (.Expr e pos) (x8 te):=by intro pins s σ H D I h;exact wpAny_Expr_any (aw (he pins s σ H _ I h) λv s1 Nb=>by obtain⟨x,H1,I1,r1,q1⟩:=Nb;exact⟨σ,H1,I1,q1⟩) I.quiet hs
noncomputable def Cy(te:TE):TS:=λD σ H=>te σ H D.rt
theorem tQ(he:PE X e te):PS X (.Return (some e) pos) (Cy te):=by intro pins s σ H D I h;exact wpAny_Return_some (aw (he pins s σ H _ I h) λv s1 Nb=>by obtain⟨x,H1,I1,r1,q1⟩:=Nb;exact⟨x,σ,H1,I1,r1,q1⟩)
noncomputable def BS(c:TT)(t u:TS):TS:=λD σ H=>c σ H λb H1=>if b=true then t D σ H1 else u D σ H1
theorem wQ{c:Expr}{a b:List Stmt}{tc:TT}(hc:PT X c tc)(ha:PSs X a t)(hb:PSs X b u):PS X (.If c a b pos) (BS tc t u):=by
 intro pins s σ H D I h;refine wpAny_If (aw (hc pins s σ H _ I h) λd s1 Nb=>?_);obtain⟨H1,I1,q1⟩:=Nb
 cases d with
 |true=>exact ha pins s1 σ H1 D I1 q1
 |false=>exact hb pins s1 σ H1 D I1 q1
noncomputable def Hv:TS:=λ_ _ _=>False
theorem ps_never:PS X st Hv:=λ_ _ _ _ _ _ h=>h.elim
end
noncomputable abbrev TG:=V->St->Hp->(St->Hp->Prop)->Prop
noncomputable abbrev dS:=List V->St->Hp->(St->Hp->Prop)->Prop
noncomputable def PG(X:Cx)(target:Expr)(t:TG):Prop:=
 ∀(pins:List (Addr×Obj))(s:Shared)(σ:St)(H:Hp)(v:V)(u:Value)(Q:St->Hp->Prop),Inv X pins σ H s->RelV v u->t v σ H Q->
  wpAny (model X.prog X.w) X.A (assign target X.env u) (λ_ s'=>∃σ' H',Inv X pins σ' H' s'/\Q σ' H') X.xe s
noncomputable def PGs(X:Cx)(ts:List Expr)(t:dS):Prop:=
 ∀(pins:List (Addr×Obj))(s:Shared)(σ:St)(H:Hp)(vs:List V)(us:List Value)(Q:St->Hp->Prop),Inv X pins σ H s->Vals vs us->t vs σ H Q->
  wpAny (model X.prog X.w) X.A (assignInOrder ((assignEach ts X.env).map (·.2)) us) (λ_ s'=>∃σ' H',Inv X pins σ' H' s'/\Q σ' H') X.xe s
noncomputable abbrev kn:=V->V->V->Hp->(Hp->Prop)->Prop
noncomputable def oV(X:Cx)(t:kn):Prop:=
 ∀(pins:List (Addr×Obj))(s:Shared)(σ:St)(H:Hp)(o i v:V)(ov iv u:Value)(Q:Hp->Prop),Inv X pins σ H s->RelV o ov->RelV i iv->RelV v u->t o i v H Q->
  wpAny (model X.prog X.w) X.A (setItem ov iv u) (λ_ s'=>∃H',Inv X pins σ H' s'/\Q H') X.xe s
noncomputable abbrev l8:=V->V->Hp->VK->Prop
noncomputable def pZ(X:Cx)(op:Operator)(t:l8):Prop:=
 ∀(pins:List (Addr×Obj))(s:Shared)(σ:St)(H:Hp)(x y:V)(v u:Value)(Q:VK),Inv X pins σ H s->RelV x v->RelV y u->t x y H Q->
  wpAny (model X.prog X.w) X.A (inplaceOp op v u) (EP X pins σ Q) X.xe s
section
variable{X:Cx}{pos:Pos}
noncomputable def gQ(i:Nat):TG:=λv σ H Q=>Q (σ.set i (some v)) H
theorem iU{i:Nat}{x:Str}(hN:X.N.Nodup)(hi:X.N[i]?=some x)(hx:di X.env.scope x)(hf:X.fn x=true\/X.env.scope.names.lookup x=some .local:=by nofun):PG X (.Name x pos) (gQ i):=by intro pins s σ H v u Q I r h;exact wpAny_assign_Name (t9 I hN hi hx r (λs' I'=>⟨_,H,I',h⟩) hf)
noncomputable def FN:dS:=λvs σ H Q=>vs=[]/\Q σ H
noncomputable def Ie(t:TG)(u:dS):dS:=λvs σ H Q=>∃v r,vs=v::r/\t v σ H λσ' H'=>u r σ' H' Q
theorem pgs_nil:PGs X [] FN:=by intro pins s σ H vs us Q I r h;obtain⟨e,h⟩:=h;subst e;cases r;exact assignInOrder_nil ⟨σ,H,I,h⟩
theorem iK{e:Expr}{es:List Expr}{t:TG}{u:dS}(h1:PG X e t)(h2:PGs X es u)
  (hs:(assignEach (e::es) X.env).map (·.2)=assign e X.env::(assignEach es X.env).map (·.2):=by rfl):PGs X (e::es) (Ie t u):=by
 intro pins s σ H vs us Q I r h;obtain⟨v,vr,e1,h⟩:=h;subst e1
 cases r with
 |cons r rr=>
  rw[hs];refine assignInOrder_cons (aw (h1 pins s σ H _ _ _ I r h) λ_ s1 Nb=>?_);obtain⟨σ1,H1,I1,q1⟩:=Nb;exact h2 pins s1 σ1 H1 _ _ Q I1 rr q1
noncomputable def rg(K:Frag)(n:Nat)(t:dS):TG:=λv σ H Q=>∃a xs,v=.ref a/\SqT K H a xs/\xs.length=n/\t xs σ H Q
theorem qB{es:List Expr}{k:Nat}{t:dS}{n:Nat}(hc:X.calm=true)(h:PGs X es t)
  (hn:(assignEach es X.env).length=n:=by rfl) (N5:(assignEach es X.env).findIdx? (·.1)=none:=by rfl):PG X (.Tuple es k pos) (rg X.K n t):=by
 intro pins s σ H v u Q I r hw;obtain⟨a,xs,e1,hq,hl,hw⟩:=hw;subst e1;cases r;obtain⟨Nc,rv,ht,hz⟩:=I.tuple hq;refine assign_Tuple_tuple (I.ok.hd hc) ht (by simp[hn,←hl,rv.length]) N5 λh' hx=>?_;have I1:Inv X pins σ H { s with heap:=h' }:=I.kept (t':=s.toks) λb o e=>hx b o (JM (Jm e)) e;exact h pins _ σ H xs _ Q I1 (by simpa using rv) hw
noncomputable def Ah(to ti:TE)(t:kn):TG:=λv σ H Q=>to σ H λo H1=>ti σ H1 λi H2=>t o i v H2 λH3=>Q σ H3
theorem tq{o i:Expr}{to ti:TE}{t:kn}(ho:PE X o to)(hi:PE X i ti)(hs:oV X t)
  (ha:∀v,assign (.Subscript o i pos) X.env v=(do
   let ov ←holding [v] (eval o X.env)
   let iv ←holding [v,ov] (eval i X.env)
   standAt pos
   holding [v,ov,iv] (setItem ov iv v)
   release [v,ov,iv] []):=by intro _;rfl):PG X (.Subscript o i pos) (Ah to ti t):=by
 intro pins s σ H v u Q I r h;rw[ha];refine IV (KG (aw (ho pins s σ H _ I h) λov s1 Nb=>?_));obtain⟨x,H1,I1,r1,q1⟩:=Nb;refine IV (KG (aw (hi pins s1 σ H1 _ I1 q1) λiv s2 NN=>?_));obtain⟨y,H2,I2,r2,q2⟩:=NN;refine IV (Mn (IV (KG (aw (hs pins s2 σ H2 x y v ov iv u _ I2 r1 r2 r q2) λ_ s3 Of=>?_))));obtain⟨H3,I3,q3⟩:=Of;exact wpAny_release ⟨σ,H3,I3,q3⟩
noncomputable def iP(te:TE)(g:TG):TS:=λD σ H=>te σ H λx H1=>g x σ H1 D.nx
theorem kA{tg e:Expr}{te:TE}{g:TG}(he:PE X e te)(hg:PG X tg g)(hs:swapsWithSole [tg] e pos.line X.env=pure false:=by rfl)(hw:swappedStores [tg] e X.env=pure none:=by rfl)
  (h1:(assignEach [tg] X.env).map (·.2)=[assign tg X.env]:=by rfl):PS X (.Assign [tg] e pos) (iP te g):=by
 intro pins s σ H D I h;refine wpAny_Assign_stores (aw (he pins s σ H _ I h) λv s1 Nb=>?_) hs hw;obtain⟨x,H1,I1,r1,q1⟩:=Nb;rw[h1];exact aw (hg pins s1 σ H1 x v _ I1 r1 q1) λ_ s2 q=>q
theorem lJ{i:Nat}{x:Str}{e:Expr}{te:TE}{pos':Pos}(hN:X.N.Nodup)(hi:X.N[i]?=some x)(hx:di X.env.scope x)(he:PE X e te)(hs:swapsWith e (some (.Name x pos')) pos.line X.env=pure false:=by rfl)(hf:X.fn x=true\/X.env.scope.names.lookup x=some .local:=by nofun) :
  PS X (.Assign [.Name x pos'] e pos) (iP te (gQ i)):=by
 intro pins s σ H D I h;refine wpAny_Assign_Name (aw (he pins s σ H _ I h) λv s1 Nb=>?_) hs;obtain⟨y,H1,I1,r1,q1⟩:=Nb;exact t9 I1 hN hi hx r1 (λs2 I2=>⟨_,H1,I2,q1⟩) hf
noncomputable def Hm(to ti te:TE)(PY:V->V->Hp->VK->Prop)(R0:l8)(PZ:kn):TS:=λD σ H=>to σ H λo H1=>ti σ H1 λi H2=>PY o i H2 λx H3=>te σ H3 λy H4=>R0 x y H4 λz H5=>PZ o i z H5 λH6=>D.nx σ H6
noncomputable def qm(X:Cx)(t:V->V->Hp->VK->Prop):Prop:=
 ∀(pins:List (Addr×Obj))(s:Shared)(σ:St)(H:Hp)(o i:V)(ov iv:Value)(Q:VK),Inv X pins σ H s->RelV o ov->RelV i iv->t o i H Q->
  wpAny (model X.prog X.w) X.A (getItem ov iv) (EP X pins σ Q) X.xe s
theorem sM{o i e:Expr}{to ti te:TE}{PY:V->V->Hp->VK->Prop}{R0:l8}{PZ:kn}{op:Operator}{P0:Pos}(ho:PE X o to)(hi:PE X i ti)(hg:qm X PY)(he:PE X e te)(hp:pZ X op R0)(hs:oV X PZ)
  (ha:∀ov iv new,augStore i ov iv new=(do holding [new,ov,iv] (setItem ov iv new);release [new,ov,iv] [];pure .next):=by intros;rfl):PS X (.AugAssign (.Subscript o i P0) op e pos) (Hm to ti te PY R0 PZ):=by
 intro pins s σ H D I h;refine wpAny_AugAssign_SubscriptAny (aw (ho pins s σ H _ I h) λov s1 Nb=>?_) ha;obtain⟨x1,H1,I1,r1,q1⟩:=Nb;refine aw (hi pins s1 σ H1 _ I1 q1) λiv s2 NN=>?_;obtain⟨x2,H2,I2,r2,q2⟩:=NN;refine aw (hg pins s2 σ H2 x1 x2 ov iv _ I2 r1 r2 q2) λold s3 Of=>?_;obtain⟨x3,H3,I3,r3,q3⟩:=Of;refine aw (he pins s3 σ H3 _ I3 q3) λv s4 O8=>?_;obtain⟨x4,H4,I4,r4,q4⟩:=O8;refine aw (hp pins s4 σ H4 x3 x4 old v _ I4 r3 r4 q4) λnew s5 SR=>?_;obtain⟨x5,H5,I5,r5,q5⟩:=SR
 exact aw (hs pins s5 σ H5 x1 x2 x5 ov iv new _ I5 r1 r2 r5 q5) λ_ s6 SU=>by obtain⟨H6,I6,q6⟩:=SU;exact⟨σ,H6,I6,q6⟩
noncomputable def ve(f:Int->Int->Int):l8:=λx y H Q=>∃i j,x=.int i/\y=.int j/\Q (.int (f i j)) H
theorem Aj:pZ X .Add (ve λi j=>i+j):=by intro pins s σ H x y v u Q I r1 r2 h;obtain⟨i,j,e1,e2,q⟩:=h;subst e1;subst e2;obtain⟨t,rfl⟩:=r1;obtain⟨t',rfl⟩:=r2;exact iadd_int ⟨.int _,H,I.tok _,⟨_,rfl⟩,q⟩
end
structure It where
 go:Nat->Hp->Prop
 yld:Nat->Hp->V->Hp->Prop
 stop:Nat->Hp->Prop
noncomputable def cZ(X:Cx)(pins:List (Addr×Obj))(H:Hp)(b:Addr):Prop:=
 H b=none/\b≠X.env.locals/\b∉X.fs/\(b∈X.ex\/X.s₀.heap.objs.size<=b)/\(∀x c,X.env.cells.lookup x=some c->c≠b)/\∀p∈X.pn++pins,p.1≠b
theorem Inv.fpOk{X:Cx}{pins:List (Addr×Obj)}{σ:St}{H H':Hp}{s:Shared}{b:Addr}(I:Inv X pins σ H s)(hb:s.heap.objs.size<=b)(hn:H' b=none):cZ X pins H' b:=by
 refine⟨hn,Mu (Jw I.lt hb),I.nofs hb,.inr (JE I.sz hb),λx c e z=>?_,λp hp z=>?_⟩
 ·obtain⟨v,q⟩:=I.cell x c e;exact absurd (Jw q.lt (by rw[z];exact hb)) (KC _)
 ·exact absurd (Jw (Jm (I.pin p hp).1) (by rw[z];exact hb)) (KC _)
structure Turn(P:Program)(w:World)(K:Frag)(tg:Expr)(J:It)(fp:List Addr)(it:Addr)(tn:Nat->Heap->Prop):Prop where
 mem:it∈fp
 obj:∀i h,tn i h->∀b∈fp,∃o,h.get? b=some o/\∀v,o.data≠.cell v
 keep:∀i h h',tn i h->(∀b∈fp,∀o,h.get? b=some o->h'.get? b=some o)->tn i h'
 item:∀(X:Cx),X.prog=P->X.w=w->X.K=K->X.calm=true->∀(i:Nat)(pins:List (Addr×Obj))(s:Shared)(σ:St)(H:Hp)(E:Value->Shared->Prop),Inv X pins σ H s->(∀b∈fp,cZ X pins H b)->tn i s.heap->J.go i H->
  wpAny (model P w) X.A (pyNext (.ref it)) (λr s1=>∃u,r=some u /\
   wpAny (model P w) X.A (letOwnedTupleGo tg (.ref it) u) (λ_ s2=>∃x H',Inv X pins σ H' s2/\RelV x u/\J.yld i H x H'/\tn (i+1) s2.heap/\∀b∈fp,H' b=none) E s1) E s
 done:∀(X:Cx),X.prog=P->X.w=w->X.K=K->X.calm=true->∀(i:Nat)(pins:List (Addr×Obj))(s:Shared)(σ:St)(H:Hp)(E:Value->Shared->Prop),Inv X pins σ H s->(∀b∈fp,cZ X pins H b)->tn i s.heap->J.stop i H->
  wpAny (model P w) X.A (pyNext (.ref it)) (λr s1=>r=none/\Inv X pins σ H s1) E s
 self:∀(A:Around)(i:Nat)(s:Shared)(Q:Value->Shared->Prop)(E:Value->Shared->Prop),tn i s.heap->Q (.ref it) s->wpAny (model P w) A (pyIter (.ref it)) Q E s
noncomputable abbrev TI:=St->Hp->(It->Hp->Prop)->Prop
noncomputable def uk(X:Cx)(pins:List (Addr×Obj))(σ:St)(tg:Expr)(R:It->Hp->Prop)(R1:Value)(s2:Shared):Prop:=
 ∃(it:Addr)(fp:List Addr)(tn:Nat->Heap->Prop)(J:It)(H':Hp),R1=.ref it/\Inv X pins σ H' s2/\Turn X.prog X.w X.K tg J fp it tn/\tn 0 s2.heap/\(∀b∈fp,cZ X pins H' b)/\R J H'
noncomputable def PI(X:Cx)(tg iter:Expr)(wi:TI):Prop:=
 ∀(pins:List (Addr×Obj))(s:Shared)(σ:St)(H:Hp)(R:It->Hp->Prop),Inv X pins σ H s->wi σ H R->
  wpAny (model X.prog X.w) X.A (eval iter X.env) (λv s1=>wpAny (model X.prog X.w) X.A (pyIter v) (uk X pins σ tg R) X.xe s1) X.xe s
theorem j7{M:Model}{A:Around}{E:Value->Shared->Prop}{s:Shared}{tg:Expr}{it:Addr}{u:Value}{o:Obj}{n:String}{vs:Array Value}{Q:Unit->Shared->Prop}(ho:s.heap.get? it=some o)(hc:o.cls=.type n)(hd:o.data=.fields vs)
  (hn:["enumerate","zip","dict_itemiterator","dict_reverseitemiterator","odict_iterator","itertools.zip_longest","itertools.pairwise"].contains n=false) (hQ:Q () s):wpAny M A (letOwnedTupleGo tg (.ref it) u) Q E s:=by
 unfold letOwnedTupleGo
 cases tg<;>first
  |exact Jf hQ
  |(cases u<;>first
   |exact Jf hQ
   |(refine IV (wpAny_load ho ?_)
     rw [hc, hd];show wpAny M A (if (["enumerate", "zip", "dict_itemiterator", "dict_reverseitemiterator", "odict_iterator", "itertools.zip_longest", "itertools.pairwise"].contains n&&vs[0]?==some (rawInt _)) = true then _ else _) Q E s;rw [I0 (by intro h; rw [hn, Bool.false_and]at h; cases h)]
     exact Jf hQ))
noncomputable def qi(K:Frag)(a:Addr):It:=
 ⟨λi H=>∃xs x,SqL K H a xs/\xs[i]?=some x,λi H x H'=>H'=H/\∀xs,SqL K H a xs->xs[i]?=some x,λi H=>∃xs,SqL K H a xs/\xs.length<=i⟩
noncomputable def nv(K:Frag)(a:Addr):It:=
 ⟨λi H=>∃xs x,SqT K H a xs/\xs[i]?=some x,λi H x H'=>H'=H/\∀xs,SqT K H a xs->xs[i]?=some x,λi H=>∃xs,SqT K H a xs/\xs.length<=i⟩
noncomputable def k8(lo:Int)(n:Nat):It:=⟨λi _=>i<n,λi H x H'=>H'=H/\x=.int (lo+i),λi _=>n<=i⟩
theorem GV{P:Program}{w:World}{K:Frag}{tg:Expr}(a it:Addr):Turn P w K tg (qi K a) [it] it (λi h=>h.IsListIter it a i) where
 mem:=by simp
 obj:=λi h st b hb=>by
  have e:b=it:=by simpa using hb
  subst e;obtain⟨o,e,c,d⟩:=st;exact⟨o,e,λv z=>by rw[d]at z;cases z⟩
 keep:=λi h h' st k=>st.at λo e=>k it (by simp) o e
 item:=by
  intro X hP hw hK hc i pins s σ H E I hf st hg;subst hP hw hK;obtain⟨xs,x,hq,hx⟩:=hg;obtain⟨Nc,rv,p,hz⟩:=I.list hq;obtain⟨u,hu,ru⟩:=rv.get hx;obtain⟨f0,f1,f2,f3,f4,f5⟩:=hf it (by simp);refine LD st p.isList (x:=u) (by simpa using hu) λh' OX sb=>?_;have I1:Inv X pins σ H { s with heap:=h' }:=I.turned (t':=s.toks) (λb o hb e=>(sb.2 b hb).trans e) f0 f1 f3 f4 f5;obtain⟨o,e,c,d⟩:=id OX;exact⟨u,rfl,j7 (s:={ s with heap:=h' }) e c d (by decide) ⟨x,H,I1,ru,⟨rfl,λys hy=>by rw[I.list_inj hy hq];exact hx⟩,OX,λb hb=>(hf b hb).1⟩⟩
 done:=by
  intro X hP hw hK hc i pins s σ H E I hf st hg;subst hP hw hK;obtain⟨xs,hq,hx⟩:=hg;obtain⟨Nc,rv,p,hz⟩:=I.list hq;obtain⟨f0,f1,f2,f3,f4,f5⟩:=hf it (by simp);have hl:=rv.length;exact LQ (I.ok.hd hc) st p.isList (by simp;omega) λh' eb=>⟨rfl,I.turned (t':=s.toks) (λb o hb e=>eb b o hb e) f0 f1 f3 f4 f5⟩
 self:=λ_ _ _ _ _ st h=>wpAny_pyIter_listiter st h
theorem vt{P:Program}{w:World}{K:Frag}{tg:Expr}(a it:Addr):Turn P w K tg (nv K a) [it] it (λi h=>h.IsTupleIter it a i) where
 mem:=by simp
 obj:=λi h st b hb=>by
  have e:b=it:=by simpa using hb
  subst e;obtain⟨o,e,c,d⟩:=st;exact⟨o,e,λv z=>by rw[d]at z;cases z⟩
 keep:=λi h h' st k=>st.at λo e=>k it (by simp) o e
 item:=by
  intro X hP hw hK hc i pins s σ H E I hf st hg;subst hP hw hK;obtain⟨xs,x,hq,hx⟩:=hg;obtain⟨Nc,rv,p,hz⟩:=I.tuple hq;obtain⟨u,hu,ru⟩:=rv.get hx;obtain⟨f0,f1,f2,f3,f4,f5⟩:=hf it (by simp);refine wpAny_pyNext_tuple_item st (show s.heap.IsTuple a Nc.toArray from p) (x:=u) (by simpa using hu) λh' OX sb=>?_;have I1:Inv X pins σ H { s with heap:=h' }:=I.turned (t':=s.toks) (λb o hb e=>(sb.2 b hb).trans e) f0 f1 f3 f4 f5;obtain⟨o,e,c,d⟩:=id OX;exact⟨u,rfl,j7 (s:={ s with heap:=h' }) e c d (by decide) ⟨x,H,I1,ru,⟨rfl,λys hy=>by rw[I.tuple_inj hy hq];exact hx⟩,OX,λb hb=>(hf b hb).1⟩⟩
 done:=by
  intro X hP hw hK hc i pins s σ H E I hf st hg;subst hP hw hK;obtain⟨xs,hq,hx⟩:=hg;obtain⟨Nc,rv,p,hz⟩:=I.tuple hq;obtain⟨f0,f1,f2,f3,f4,f5⟩:=hf it (by simp);have hl:=rv.length;exact wpAny_pyNext_tuple_end (I.ok.hd hc) st (show s.heap.IsTuple a Nc.toArray from p) (by simp;omega) λh' eb=>⟨rfl,I.turned (t':=s.toks) (λb o hb e=>eb b o hb e) f0 f1 f3 f4 f5⟩
 self:=λ_ _ _ _ _ st h=>wpAny_pyIter_tupleiter st h
theorem yV{P:Program}{w:World}{K:Frag}{tg:Expr}(it:Addr)(lo:Int)(n:Nat):Turn P w K tg (k8 lo n) [it] it (λi h=>IsRangeIter h it (lo+(i:Nat)*1) ((n:Int)-(i:Nat)) 1) where
 mem:=by simp
 obj:=λi h st b hb=>by
  have e:b=it:=by simpa using hb
  subst e
  exact⟨_,st,λv z=>by
   have z':Data.fields _=Data.cell v:=z
   cases z'⟩
 keep:=λi h h' st k=>k it (by simp) _ st
 item:=by
  intro X hP hw hK hc i pins s σ H E I hf st hg;subst hP hw hK;obtain⟨f0,f1,f2,f3,f4,f5⟩:=hf it (by simp);have W:=Walks.range (prog:=X.prog) (w:=X.w) (I.ok.hd hc) it lo 1 n;refine W.item i s _ _ hg st λv h' tk hv OX kk=>?_;obtain⟨t,rfl⟩:=hv;have I1:Inv X pins σ H { s with heap:=h',toks:=tk }:=I.turned (λb o hb e=>kk b o (by simpa using hb) e) f0 f1 f3 f4 f5;refine⟨_,rfl,j7 (s:={ s with heap:=h',toks:=tk }) (n:="range_iterator") OX rfl rfl (by decide) ⟨.int (lo+i),H,I1,⟨t,?_⟩,⟨rfl,rfl⟩,OX,λb hb=>(hf b hb).1⟩⟩;rw[Int.mul_one]
 done:=by intro X hP hw hK hc i pins s σ H E I hf st hg;subst hP hw hK;obtain⟨f0,f1,f2,f3,f4,f5⟩:=hf it (by simp);exact wpAny_pyNext_range_end (I.ok.hd hc) st (by have:n<=i:=hg;omega) λh' eb=>⟨rfl,I.turned (t':=s.toks) (λb o hb e=>eb b o hb e) f0 f1 f3 f4 f5⟩
 self:=λ_ _ _ _ _ st h=>wpAny_pyIter_rangeiter st h
section
variable{X:Cx}{tg:Expr}
noncomputable def pF(K:Frag)(tl:TE):TI:=λσ H R=>tl σ H λx H1=>∃a,x=.ref a/\(∃xs,SqT K H1 a xs)/\R (nv K a) H1
theorem FB{l:Expr}{tl:TE}(hl:PE X l tl):PI X tg l (pF X.K tl):=by
 intro pins s σ H R I h;refine aw (hl pins s σ H _ I h) λv s1 Nb=>?_;obtain⟨x,H1,I1,r1,q1⟩:=Nb;obtain⟨a,e,⟨xs,hq⟩,q⟩:=q1;subst e;cases r1;obtain⟨Nc,rv,p,hz⟩:=I1.tuple hq;refine KY (show s1.heap.IsTuple a Nc.toArray from p) ?_;refine⟨s1.heap.objs.size,[s1.heap.objs.size],_,_,H1,rfl,I1.kept (t':=s1.toks) λb o e=>IX _ e,vt a _,⟨_,Jh _ rfl,rfl,rfl⟩,λb hb=>?_,q⟩
 have e:b=s1.heap.objs.size:=by simpa using hb
 subst e;exact I1.fpOk (Jc _) (I1.hok.fresh (Jc _))
theorem FS{pins:List (Addr×Obj)}{σ:St}{H:Hp}{s:Shared}{R:It->Hp->Prop}{E:Value->Shared->Prop}{lo hi:Int}{t u v:Tok}{tk:Nat}(I:Inv X pins σ H s)(h1:-(2^62)<=lo)(h2:lo<2^62)(h3:-(2^62)<=hi)(h4:hi<2^62)
  (q:R (k8 lo (hi-lo).toNat) H):wpAny (model X.prog X.w) X.A (pyIter (.ref s.heap.objs.size)) (uk X pins σ tg R) E { s with heap:=s.heap.push { cls:=.type "range",data:=.fields #[.int lo t,.int hi u,.int 1 v] },toks:=tk }:=by
 refine wpAny_pyIter_range (IsRange.new ..) (small_one h1 h2 h3 h4) ?_;have I1:Inv X pins σ H { s with heap:=s.heap.push { cls:=.type "range",data:=.fields #[.int lo t,.int hi u,.int 1 v] },toks:=tk }:=I.kept λb o e=>IX _ e
 refine⟨(s.heap.push { cls:=.type "range",data:=.fields #[.int lo t,.int hi u,.int 1 v] }).objs.size,[(s.heap.push { cls:=.type "range",data:=.fields #[.int lo t,.int hi u,.int 1 v] }).objs.size],_,_,H,rfl,
  I1.kept (t':=tk) λb o e=>IX _ e,yV _ lo (hi-lo).toNat,?_,λb hb=>?_,q⟩
 ·have e1:lo+((0:Nat):Int)*1=lo:=by simp
  have e2:(((hi-lo).toNat:Nat):Int)-((0:Nat):Int)=Builtin.Range.rangeSize lo hi 1:=by rw[rangeSize_one];split<;>omega
  show IsRangeIter _ _ (lo+((0:Nat):Int)*1) ((((hi-lo).toNat:Nat):Int)-((0:Nat):Int)) 1;rw[e1,e2];exact Jh _ rfl
 ·have e:b=(s.heap.push { cls:=.type "range",data:=.fields #[.int lo t,.int hi u,.int 1 v] }).objs.size:=by simpa using hb
  subst e;exact I1.fpOk (Jc _) (I1.hok.fresh (Jc _))
noncomputable def Em(ta:TA):TI:=λσ H R=>ta σ H λvs H1=>∃j:Int,vs=[.int j]/\-(2^62)<=j/\j<2^62/\R (k8 0 j.toNat) H1
theorem wG{a:Expr}{ta:TA}{p pos:Pos}(hg:Gl X "range")(hm:X.mg "range"=none)(ha:PA X [a] ta)(hs:starEach [a] X.env=[(false,eval a X.env)]:=by rfl):PI X tg (.Call (.Name "range" p) [a] [] pos) (Em ta):=by
 intro pins s σ H R I h;refine Call_ (hX I hg hm boot_range (Kn (aw (ha pos pins s σ H _ I h) λus s1 Nb=>?_) hs rfl));obtain⟨vs,H1,I1,r1,q1⟩:=Nb;obtain⟨j,e,q1,q2,q⟩:=q1;subst e
 cases r1 with
 |cons r rr=>
  cases rr;obtain⟨t,rfl⟩:=r;exact call_range_1 (FS I1 (by omega) (by omega) q1 q2 (by simpa using q))
noncomputable def GW(wi:TI)(g:TG)(tb:TS):TS:=λD σ H=>wi σ H λJ H1=>∃W:Nat->Nat->St->Hp->Prop,(∃m,W 0 m σ H1)/\∀i m σ H,W i m σ H->
 (J.stop i H/\D.nx σ H)\/(J.go i H/\∃N:St->Hp->Prop,(∀σ' H',N σ' H'->∃m',m'<m/\W (i+1) m' σ' H')/\∀x H',J.yld i H x H'->g x σ H' λσ2 H2=>tb { D with nx:=N,ct:=N,bk:=D.nx } σ2 H2)
noncomputable def jY(fp:List Addr)(h:Heap):List (Addr×Obj):=fp.filterMap λb=>(h.get? b).map λo=>(b,o)
theorem mP{fp:List Addr}{h:Heap}{b:Addr}{o:Obj}(hb:b∈fp)(e:h.get? b=some o):(b,o)∈jY fp h:=Md.mpr ⟨b,hb,by rw[e];rfl⟩
theorem CD{fp:List Addr}{h:Heap}{p:Addr×Obj}(hp:p∈jY fp h):p.1∈fp/\h.get? p.1=some p.2:=by
 obtain⟨b,hb,e⟩:=Md.mp hp
 cases q:h.get? b with
 |none=>rw[q]at e;cases e
 |some o=>
  rw[q]at e;have e':(b,o)=p:=JV e;subst e';exact⟨hb,q⟩
theorem Inv.pinned{pins:List (Addr×Obj)}{σ:St}{H:Hp}{s:Shared}{fp:List Addr}(I:Inv X pins σ H s)(hf:∀b∈fp,cZ X pins H b)(ho:∀b∈fp,∃o,s.heap.get? b=some o/\∀v,o.data≠.cell v):Inv X (pins++jY fp s.heap) σ H s:=
 I.pins_of λp hp=>(Jv.mp hp).elim (λz=>I.pin p (JO _ z)) λz=>by obtain⟨hb,e⟩:=CD z;obtain⟨f0,f1,f2,_⟩:=hf p.1 hb;obtain⟨o,e',d⟩:=ho p.1 hb;rw[e]at e';cases e';exact⟨e,f0,f1,f2,d⟩
theorem Inv.unpinned{pins pl:List (Addr×Obj)}{σ:St}{H:Hp}{s:Shared}(I:Inv X (pins++pl) σ H s):Inv X pins σ H s:=I.pins_of λp hp=>I.pin p (JO _ (LV _ hp))
theorem uQ{iter:Expr}{body:List Stmt}{wi:TI}{g:TG}{tb:TS}{pos:Pos}(hp:PassesOwn (model X.prog X.w) X.A X.env X.xe)(hc:X.calm=true)(hi:PI X tg iter wi)(hg:PG X tg g)(hb:PSs X body tb)
  (hs:∀x,foldedSetIterable iter X.env x=pure x:=by intro _;rfl):PS X (.For tg iter body [] pos) (GW wi g tb):=by
 intro pins s σ H D I h;refine wpAny_For (aw (hi pins s σ H _ I h) λv s1 h1=>aw h1 λR1 s2 h2=>?_) hs;obtain⟨it,fp,tn,J,H2,e,I2,T,Qk,f2,W,⟨m0,w0⟩,turn⟩:=h2;subst e;have Qr:∀{H':Hp},(∀b∈fp,H' b=none)->∀b∈fp,cZ X pins H' b:=λhn b hb=>⟨hn b hb,(f2 b hb).2⟩;refine codeAny_forLoop_any (λn s'=>∃i σ' H',Inv X pins σ' H' s'/\tn i s'.heap/\(∀b∈fp,H' b=none)/\W i n σ' H') ?_ m0 ⟨0,σ,H2,I2,Qk,λb hb=>(f2 b hb).1,w0⟩;rintro n s3 ⟨i,σ3,H3,I3,st3,fr3,w3⟩;rcases turn i n σ3 H3 w3 with⟨stop,qn⟩|⟨go,N,hN,step⟩
 ·refine Ll hp (aw (T.done X rfl rfl rfl hc i pins s3 σ3 H3 X.xe I3 (Qr fr3) st3 stop) λr s4 Nb=>?_);obtain⟨hr,I4⟩:=Nb;subst hr;exact MJ ⟨σ3,H3,I4,qn⟩
 ·refine Ll hp (aw (T.item X rfl rfl rfl hc i pins s3 σ3 H3 X.xe I3 (Qr fr3) st3 go) λr s4 NN=>?_);obtain⟨u,hr,h4⟩:=NN;subst hr;refine Ll hp (aw h4 λ_ s5 Of=>?_);obtain⟨x,H5,I5,r5,y5,QO,R4⟩:=Of;have I5':=I5.pinned (Qr R4) (T.obj _ _ QO);refine Ll hp (aw (hg _ s5 σ3 H5 x u _ I5' r5 (step x H5 y5)) λ_ s6 O8=>?_);obtain⟨σ6,H6,I6,q6⟩:=O8;refine Ll hp (aw (hb _ s6 σ6 H6 _ I6 q6) λf s7 q7=>?_)
  have again:∀{σ7:St}{H7:Hp},Inv X (pins++jY fp s5.heap) σ7 H7 s7->N σ7 H7->∃m,m<n/\∃i σ' H',Inv X pins σ' H' s7/\tn i s7.heap/\(∀b∈fp,H' b=none)/\W i m σ' H':=λ{σ7 H7} I7 n7=>by obtain⟨m',hm,w7⟩:=hN σ7 H7 n7;refine⟨m',hm,i+1,σ7,H7,I7.unpinned,T.keep _ _ _ QO λb hb o e=>(I7.pin (b,o) (JO _ (JO _ (mP hb e)))).1,λb hb=>?_,w7⟩;obtain⟨o,e,d⟩:=T.obj _ _ QO b hb;exact (I7.pin (b,o) (JO _ (JO _ (mP hb e)))).2.1
  cases f with
  |next=>obtain⟨σ7,H7,I7,n7⟩:=q7;exact again I7 n7
  |cont=>obtain⟨σ7,H7,I7,n7⟩:=q7;exact again I7 n7
  |brk=>obtain⟨σ7,H7,I7,q7⟩:=q7;exact⟨σ7,H7,I7.unpinned,q7⟩
  |ret v=>obtain⟨x7,σ7,H7,I7,r7,q7⟩:=q7;exact⟨x7,σ7,H7,I7.unpinned,r7,q7⟩
end
noncomputable abbrev R2:=V->V->Hp->VK->Prop
noncomputable def bO(X:Cx)(f:Value->Value->Sem Value)(r:R2):Prop:=
 ∀(pins:List (Addr×Obj))(s:Shared)(σ:St)(H:Hp)(x y:V)(v u:Value)(Q:VK),Inv X pins σ H s->RelV x v->RelV y u->r x y H Q->
  wpAny (model X.prog X.w) X.A (f v u) (EP X pins σ Q) X.xe s
noncomputable def qj(X:Cx)(f:Value->Sem Value)(r:V->Hp->VK->Prop):Prop:=
 ∀(pins:List (Addr×Obj))(s:Shared)(σ:St)(H:Hp)(x:V)(v:Value)(Q:VK),Inv X pins σ H s->RelV x v->r x H Q->
  wpAny (model X.prog X.w) X.A (f v) (EP X pins σ Q) X.xe s
noncomputable def fH(X:Cx)(f:Value)(r:List V->Hp->VK->Prop):Prop:=
 ∀(pins:List (Addr×Obj))(s:Shared)(σ:St)(H:Hp)(xs:List V)(us:List Value)(Q:VK),Inv X pins σ H s->Vals xs us->r xs H Q->
  wpAny (model X.prog X.w) X.A (call f us) (EP X pins σ Q) X.xe s
noncomputable def HX(X:Cx)(r:V->Hp->(Bool->Hp->Prop)->Prop):Prop:=
 ∀(pins:List (Addr×Obj))(s:Shared)(σ:St)(H:Hp)(x:V)(v:Value)(Q:Bool->Hp->Prop),Inv X pins σ H s->RelV x v->r x H Q->
  wpAny (model X.prog X.w) X.A (truthy v) (TP X pins σ Q) X.xe s
noncomputable def iq(r:R2)(ta tb:TE):TE:=λσ H Q=>ta σ H λx H1=>tb σ H1 λy H2=>r x y H2 Q
noncomputable def zQ(r:V->Hp->VK->Prop)(ta:TE):TE:=λσ H Q=>ta σ H λx H1=>r x H1 Q
noncomputable def rI(C:Int->Int->Prop)(g:Int->Int->V):R2:=λx y H Q=>∃i j,x=.int i/\y=.int j/\C i j/\Q (g i j) H
noncomputable def gq(g:Int->Int->V):R2:=λx y H Q=>∃i j,x=.int i/\y=.int j/\Q (g i j) H
noncomputable def rU(g:Int->V):V->Hp->VK->Prop:=λx H Q=>∃i,x=.int i/\Q (g i) H
section
variable{X:Cx}{a b:Expr}{ta tb:TE}{pos:Pos}
theorem oZ(ha:PE X a ta)(hb:PE X b tb){pins:List (Addr×Obj)}{s:Shared}{σ:St}{H:Hp}{R:V->V->Hp->Prop}(I:Inv X pins σ H s)
  (h:ta σ H λx H1=>tb σ H1 λy H2=>R x y H2) {Q:Value->Shared->Prop} {f:Value->Value->Sem Value}
  (hf:∀v u s2 x y H2,Inv X pins σ H2 s2->RelV x v->RelV y u->R x y H2->wpAny (model X.prog X.w) X.A (f v u) Q X.xe s2) :
  wpAny (model X.prog X.w) X.A (eval a X.env) (λv s₁=>wpAny (model X.prog X.w) X.A (eval b X.env) (λu s₂=>wpAny (model X.prog X.w) X.A (f v u) Q X.xe s₂) X.xe s₁) X.xe s:=by
 refine aw (ha pins s σ H _ I h) λv s1 Nb=>?_;obtain⟨x,H1,I1,r1,q1⟩:=Nb;refine aw (hb pins s1 σ H1 _ I1 q1) λu s2 NN=>?_;obtain⟨y,H2,I2,r2,q2⟩:=NN;exact hf v u s2 x y H2 I2 r1 r2 q2
theorem ql{op:Operator}{r:R2}(ho:bO X (binaryOp op) r)(ha:PE X a ta)(hb:PE X b tb):PE X (.BinOp a op b pos) (iq r ta tb):=by intro pins s σ H Q I h;exact wpAny_BinOp (oZ ha hb I h λv u s2 x y H2 I2 rx ry q=>ho pins s2 σ H2 x y v u Q I2 rx ry q)
theorem yM{op:UnaryOp}{r:V->Hp->VK->Prop}(ho:qj X (unaryOp op) r)(ha:PE X a ta):PE X (.UnaryOp op a pos) (zQ r ta):=by intro pins s σ H Q I h;exact UnaryOp_ (aw (ha pins s σ H _ I h) λv s1 Nb=>by obtain⟨x,H1,I1,r1,q1⟩:=Nb;exact ho pins s1 σ H1 x v Q I1 r1 q1)
theorem mF{f:Value->Value->Sem Value}{C:Int->Int->Prop}{g:Int->Int->Int}
  (rule:∀(i j:Int)(t u:Tok)(s:Shared)(Q:Value->Shared->Prop)(E:Value->Shared->Prop),C i j->Q (.int (g i j) s.toks) { s with toks:=s.toks+1 }->wpAny (model X.prog X.w) X.A (f (.int i t) (.int j u)) Q E s) :
  bO X f (rI C λi j=>.int (g i j)):=by
 intro pins s σ H x y v u Q I rx ry h;obtain⟨i,j,rfl,rfl,hc,q⟩:=h;obtain⟨t,rfl⟩:=rx;obtain⟨t',rfl⟩:=ry;exact rule i j t t' s _ _ hc ⟨.int (g i j),H,I.tok _,⟨_,rfl⟩,q⟩
theorem uA{f:Value->Value->Sem Value}{g:Int->Int->Int}
  (rule:∀(i j:Int)(t u:Tok)(s:Shared)(Q:Value->Shared->Prop)(E:Value->Shared->Prop),Q (.int (g i j) s.toks) { s with toks:=s.toks+1 }->wpAny (model X.prog X.w) X.A (f (.int i t) (.int j u)) Q E s) :
  bO X f (gq λi j=>.int (g i j)):=by
 intro pins s σ H x y v u Q I rx ry h;obtain⟨i,j,rfl,rfl,q⟩:=h;obtain⟨t,rfl⟩:=rx;obtain⟨t',rfl⟩:=ry;exact rule i j t t' s _ _ ⟨.int (g i j),H,I.tok _,⟨_,rfl⟩,q⟩
theorem pS{f:Value->Value->Sem Value}{g:Int->Int->Bool}
  (rule:∀(i j:Int)(t u:Tok)(s:Shared)(Q:Value->Shared->Prop)(E:Value->Shared->Prop),Q (.bool (g i j)) s->wpAny (model X.prog X.w) X.A (f (.int i t) (.int j u)) Q E s) :
  bO X f (gq λi j=>.bl (g i j)):=by
 intro pins s σ H x y v u Q I rx ry h;obtain⟨i,j,rfl,rfl,q⟩:=h;obtain⟨t,rfl⟩:=rx;obtain⟨t',rfl⟩:=ry;exact rule i j t t' s _ _ ⟨.bl (g i j),H,I,rfl,q⟩
noncomputable def vJ(i j:Int):Prop:=0<=j/\j<=1000000/\i.natAbs<2^64
theorem D7:bO X (binaryOp .Add) (gq λi j=>.int (i+j)):=uA λ_ _ _ _ _ _ _ q=>add_int q
theorem A2:bO X (binaryOp .Sub) (gq λi j=>.int (i-j)):=uA λ_ _ _ _ _ _ _ q=>sub_int q
theorem Cv:bO X (binaryOp .Mod) (rI (λ_ j=>0<j) λi j=>.int (i % j)):=mF λi j _ _ _ _ _ hc q=>by have h1:(0:Int)<j:=hc;exact mod_int' (by omega) (by rw[Int.fmod_eq_emod_of_nonneg i (by omega)];exact q)
theorem zJ:bO X (binaryOp .Pow) (rI vJ λi j=>.int (i^j.toNat)):=mF λ_ _ _ _ _ _ _ hc q=>pow_int_small hc.1 hc.2.1 hc.2.2 q
theorem AH{f:Value->Sem Value}{g:Int->Int}
  (rule:∀(i:Int)(t:Tok)(s:Shared)(Q:Value->Shared->Prop)(E:Value->Shared->Prop),Q (.int (g i) s.toks) { s with toks:=s.toks+1 }->wpAny (model X.prog X.w) X.A (f (.int i t)) Q E s) :
  qj X f (rU λi=>.int (g i)):=by
 intro pins s σ H x v Q I rx h;obtain⟨i,rfl,q⟩:=h;obtain⟨t,rfl⟩:=rx;exact rule i t s _ _ ⟨.int (g i),H,I.tok _,⟨_,rfl⟩,q⟩
theorem Bw:qj X (unaryOp .USub) (rU λi=>.int (-i)):=AH λ_ _ _ _ _ q=>neg_int q
end
section
variable{X:Cx}{a b:Expr}{ta tb:TE}{pos:Pos}
theorem nU{pins:List (Addr×Obj)}{σ:St}{H:Hp}{s:Shared}{Q:VK}{k k':Bool}(I:Inv X pins σ H s)(q:Q (.bl k) H)(e:k=k'):EP X pins σ Q (.bool k') s:=by subst e;exact⟨.bl k,H,I,rfl,q⟩
theorem zR:bO X (compareOp .Lt) (gq λi j=>.bl (decide (i<j))):=pS λ_ _ _ _ _ _ _ q=>lt_int q
theorem HS:bO X (compareOp .Gt) (gq λi j=>.bl (decide (j<i))):=pS λ_ _ _ _ _ _ _ q=>gt_int q
theorem zc:bO X (compareOp .GtE) (gq λi j=>.bl (decide (j<=i))):=pS λ_ _ _ _ _ _ _ q=>ge_int q
theorem ye:bO X (compareOp .Is) (λx y H Q=>y=.non/\Q (.bl (decide (x=.non))) H):=by
 intro pins s σ H x y v u Q I rx ry h;obtain⟨rfl,q⟩:=h;cases ry;refine is_none_gen (nU I q ?_)
 cases x<;>first
  |(cases rx;rfl)
  |(obtain⟨t,rfl⟩:=rx;rfl)
theorem F0:bO X (compareOp .IsNot) (λx y H Q=>y=.non/\Q (.bl (!decide (x=.non))) H):=by
 intro pins s σ H x y v u Q I rx ry h;obtain⟨rfl,q⟩:=h;cases ry;refine isnot_none_gen (nU I q ?_)
 cases x<;>first
  |(cases rx;rfl)
  |(obtain⟨t,rfl⟩:=rx;rfl)
theorem aG(b:Expr){op:CmpOp}(h:op≠.In:=by decide)(h2:op≠.NotIn:=by decide):behindInMarks op b=false:=by
 have e1:(op==CmpOp.In)=false:=by cases op<;>first|rfl|exact absurd rfl h
 have e2:(op==CmpOp.NotIn)=false:=by cases op<;>first|rfl|exact absurd rfl h2
 cases b<;>simp[behindInMarks,e1,e2]
theorem tT{op:CmpOp}{r:R2}(ho:bO X (compareOp op) r)(ha:PE X a ta)(hb:PE X b tb)(hm:behindInMarks op b=false):PE X (.Compare a [op] [b] pos) (iq r ta tb):=by intro pins s σ H Q I h;exact wpAny_Compare1 (oZ ha hb I h λv u s2 x y H2 I2 rx ry q=>ho pins s2 σ H2 x y v u Q I2 rx ry q) hm
noncomputable def qD(t:TE):TT:=λσ H Q=>t σ H λx H'=>∃k,x=.bl k/\Q k H'
theorem vj{op:CmpOp}{r:R2}(ho:bO X (compareOp op) r)(ha:PE X a ta)(hb:PE X b tb)(hm:behindInMarks op b=false):PT X (.Compare a [op] [b] pos) (qD (iq r ta tb)):=by
 intro pins s σ H Q I h
 refine wpAny_isTrue_Compare1 (aw (ha pins s σ H _ I h) λv s1 ⟨x,H1,I1,r1,q1⟩=>aw (hb pins s1 σ H1 _ I1 q1) λu s2 ⟨y,H2,I2,r2,q2⟩=>
  aw (ho pins s2 σ H2 x y v u _ I2 r1 r2 q2) λc s3 ⟨z,H3,I3,r3,k,e,q3⟩=>?_) hm
 subst e;cases r3;exact LB ⟨H3,I3,q3⟩
noncomputable def qY(K:Frag)(x:V)(H:Hp)(k:Bool):Prop:=
 match x with
 |.non=>k=false
 |.bl b=>k=b
 |.int i=>k=(i != 0)
 |.str y=>y.length<=sizeLine/\k=((y.length:Int) != 0)
 |.byt y=>y.size<=sizeLine/\k=((y.size:Int) != 0)
 |.ref p=>(∃xs,SqL K H p xs/\k=!xs.isEmpty)\/(∃xs,SqT K H p xs/\k=!xs.isEmpty)\/∃Ng,H p=some (.dK Ng)/\k=!Ng.isEmpty
 |_=>False
theorem CL{κ:Type}{Ng:List (κ×V)}{vs:List (κ×Value)}(r:KV Ng vs):(!vs.isEmpty)=!Ng.isEmpty:=by cases r<;>rfl
theorem tN{xs:List V}{Nc:List Value}(r:Vals xs Nc):(!Nc.toArray.isEmpty)=!xs.isEmpty:=by cases r<;>simp
theorem h8:(sizeLine:Nat)<2^63:=by rw[Kd];decide
theorem zi:HX X (λx H Q=>∃k,qY X.K x H k/\Q k H):=by
 intro pins s σ H x v Q I rx h;obtain⟨k,e,q⟩:=h;have hl:=h8;have hs:sizeLine=16777216:=Kd
 cases x with
 |non=>
  cases rx;have e':k=false:=e;subst e';exact truthy_none ⟨H,I,q⟩
 |bl b=>
  cases rx;have e':k=b:=e;subst e';exact LB ⟨H,I,q⟩
 |int i=>
  obtain⟨t,rfl⟩:=rx;have e':k=(i != 0):=e;subst e';exact PySem.P.truthy_int ⟨H,I,q⟩
 |str y=>
  obtain⟨t,rfl⟩:=rx;obtain⟨hy,e'⟩:y.length<=sizeLine/\k=((y.length:Int) != 0):=e;subst e';exact PySem.P.truthy_str (by omega) ⟨H,I.tok _,q⟩
 |byt y=>
  obtain⟨t,rfl⟩:=rx;obtain⟨hy,e'⟩:y.size<=sizeLine/\k=((y.size:Int) != 0):=e;subst e';exact PySem.W.truthy_bytes (by omega) ⟨H,I.tok _,q⟩
 |ref p=>
  cases rx;have e':(∃xs,SqL X.K H p xs/\k=!xs.isEmpty)\/(∃xs,SqT X.K H p xs/\k=!xs.isEmpty)\/∃Ng,H p=some (.dK Ng)/\k=!Ng.isEmpty:=e;rcases e' with⟨xs,hx,e'⟩|⟨xs,hx,e'⟩|⟨Ng,hx,e'⟩
  ·subst e';obtain⟨Nc,r,pl,hz⟩:=I.list hx;have hlen:=r.length;exact wpAny_truthy_list pl.isList (by simp only[Jj];omega) ⟨H,I.tok _,by rw[tN r];exact q⟩
  ·subst e';obtain⟨Nc,r,pl,hz⟩:=I.tuple hx;have hlen:=r.length;exact truthy_tuple pl (by simp only[Jj];omega) ⟨H,I.tok _,by rw[tN r];exact q⟩
  ·subst e';obtain⟨hz,hS,vs,r,m⟩:Ng.length<=sizeLine/\(p==sysModules)=false/\∃vs,KV Ng vs/\s.heap.DictOf (eN X.prog X.w) p vs:=I.hok p _ hx;have hlen:Ng.length=vs.length:=Mm r;exact wpAny_truthy_dict hS m (by omega) ⟨H,I.tok _,by rw[CL r];exact q⟩
 |_=>exact (show False from e).elim
theorem zN(ha:PE X a ta)(he:∀whole,isTrue a X.env whole=(do let v ←whole;standAt a.pos;holding [v] (truthy v))) :
  PT X a (λσ H Q=>ta σ H λx H'=>∃k,qY X.K x H' k/\Q k H'):=by
 intro pins s σ H Q I h;exact isTrue_plain (aw (ha pins s σ H _ I h) λv s1 Nb=>by obtain⟨x,H1,I1,r1,q1⟩:=Nb;exact zi pins s1 σ H1 x v Q I1 r1 q1) (he _)
theorem xY:bO X (binaryOp .Add) (λx y H Q=>∃i j,x=.str i/\y=.str j/\i.length+j.length<=sizeLine/\Q (.str (i++j)) H):=by intro pins s σ H x y v u Q I rx ry h;obtain⟨i,j,rfl,rfl,hz,q⟩:=h;obtain⟨t,rfl⟩:=rx;obtain⟨t',rfl⟩:=ry;exact add_str (λt' tk=>⟨.str (i++j),H,I.tok _,⟨_,rfl⟩,q⟩) hz
theorem Dg:bO X (inplaceOp .Add) (λx y H Q=>∃i j,x=.str i/\y=.str j/\i.length+j.length<=sizeLine/\Q (.str (i++j)) H):=by intro pins s σ H x y v u Q I rx ry h;obtain⟨i,j,rfl,rfl,hz,q⟩:=h;obtain⟨t,rfl⟩:=rx;obtain⟨t',rfl⟩:=ry;exact iadd_str (λt' tk=>⟨.str (i++j),H,I.tok _,⟨_,rfl⟩,q⟩) hz
theorem jr{x:V}{us:List Value}(r:Vals [x] us):∃u,us=[u]/\RelV x u:=by
 cases r with
 |cons r1 r2=>cases r2;exact⟨_,rfl,r1⟩
theorem vS:fH X (.type "int") (λxs H Q=>(∃i,xs=[.int i]/\Q (.int i) H)\/∃k,xs=[.bl k]/\Q (.int (if k then 1 else 0)) H):=by
 intro pins s σ H xs us Q I r h;rcases h with⟨i,rfl,q⟩|⟨k,rfl,q⟩
 ·obtain⟨u,rfl,t,rfl⟩:=jr r;exact call_int_int ⟨.int i,H,I,⟨_,rfl⟩,q⟩
 ·obtain⟨u,rfl,r1⟩:=jr r;cases r1;exact call_int_bool ⟨.int (if k then 1 else 0),H,I.tok _,⟨_,rfl⟩,q⟩
end
structure ObjM(h:Heap)(x dx C:Addr)(mA:Str->Option Value):Prop where
 obj:h.get? x=some (instObj C dx)
 ns:h.Ns1 dx mA
 ne:dx≠x
theorem Io{h:Heap}{dx:Addr}{mA:Str->Option Value}(n:h.Ns1 dx mA):∃od,h.get? dx=some od/\∀name,lookIn name od=some (mA name):=by
 obtain⟨o,es,ep,ho,hd,hk,_,hm⟩:=n;refine⟨o,ho,λname=>?_⟩;have e:=hm name;unfold nsFind findBy at e;rw[←Array.find?_toList]at e;unfold lookIn;rw[hd];dsimp only;split
 ·rename_i y q;rw[q]at e;exact Kl some e
 ·rename_i q;rw[q]at e
  have a:es.toList.any (·.refKey)=false:=by rw[List.any_eq_false];intro y hy;obtain⟨z,t,SV⟩:=hk y (Array.mem_toList_iff.mp hy);simp[DictEntry.refKey,SV]
  have a':¬ es.toList.any (·.refKey)=true:=by rw[a];exact JJ
  rw[I0 a'];exact Kl some e
theorem ObjM.look{h:Heap}{x dx C:Addr}{mA:Str->Option Value}(I:ObjM h x dx C mA):∃od,InstAt h x (instObj C dx) C (some od)/\∀name,lookIn name od=some (mA name):=
 let ⟨od,ho,hl⟩:=Io I.ns
 ⟨od,⟨I.obj,rfl,rfl,ho⟩,hl⟩
section
variable{prog:Program}{w:World}{A:Around}{E:Value->Shared->Prop}{s:Shared}{K:Frag}{x dx C f:Addr}{mA:Str->Option Value}{name:Str}{v:Value}
theorem CF{expr:Bool}{Q:Value->Shared->Prop}(X:K.In s.heap)(I:ObjM s.heap x dx C mA)(hg:plainGet K C name=true)(hh:hasDictIn K C=true)
  (ha:findIn K (.ref C) name=some none) (hv:mA name=some v) (SW:handedIn v=true) (h:Q v { s with toks:=s.toks+1 }) :
  wpAny (model prog w) A (getAttr (.ref x) name expr) Q E s:=by
 obtain⟨od,J,hl⟩:=I.look;exact PySem.W.get_value X J (plainGet_of hg).1 (PySem.W.findObj_own hh ha rfl (by rw[hl,hv])) SW h
theorem Hs{pl:Sem Bool}{Q:Value×List Value->Shared->Prop}(X:K.In s.heap)(I:ObjM s.heap x dx C mA)(hg:plainGet K C name=true)
  (hf:findIn K (.ref C) name=some (some (.ref f))) (ht:isFn K (.ref f)=true) (hv:mA name=none) (h:Q (.ref f,[.ref x]) s) :
  wpAny (model prog w) A (getMethod (.ref x) name pl) Q E s:=by
 obtain⟨od,J,hl⟩:=I.look;exact PySem.W.method_fn X J (plainGet_of hg).1 (plainGet_of hg).2 hf (Ld.mp ht) (by show (lookIn name od).map (·.isSome)=some false;rw[hl,hv];rfl) h
theorem yR{ns:List Str}{Q:Unit->Shared->Prop}(X:K.In s.heap)(I:ObjM s.heap x dx C mA)
  (hs:findIn K (.ref C) "__setattr__"=some (some (.builtin "object.__setattr__"))) (hp:plainOver K C=true) (ht:takerIn K C name=some none) (hh:hasDictIn K C=true)
  (hw:PySem.Within mA ns) (hsz:ns.length<=sizeLine)
  (h:∀h',ObjM h' x dx C (λy=>if y=name then some v else mA y)->Heap.SameBut dx s.heap h'->Q () { s with heap:=h',toks:=s.toks+2 }) :
  wpAny (model prog w) A (setAttr (.ref x) name v) Q E s:=by
 obtain⟨od,J,hl⟩:=I.look;refine PySem.W.set_plain X J hs (PySem.W.osa_open (s:={ s with toks:=s.toks+1 }) (r:=none) X J hp ht λb=>?_);obtain⟨cd,hc,Qh⟩:=PySem.W.any_some hh;have hx:s.heap.get? x=some ⟨.ref C,some dx,.plain,#[]⟩:=I.obj;refine IV (Jf (IV (IV (wpAny_loadPart hx (IV (PySem.W.Looks.here (s:={ s with toks:=s.toks+1 }) (PySem.W.looks_clsIn X hc) ?_))))));rw[Qh];refine Jf (a:=some dx) (IV (Jf (IV ?_)));refine wpAny_nsSet1 (s:={ s with toks:=s.toks+1 }) I.ns λh' QP NL=>?_;obtain⟨oD,esD,epD,hoD,hdD,hcD⟩:=QP.count (PySem.Within.cons name v hw);refine IV (wpAny_lookBehind hoD (by rw[hdD];exact pastItsLine_dict (JE hcD (by rw[Je];omega))) ?_);exact Jf (h _ ⟨(NL.2 _ (J7 I.ne)).trans I.obj,QP,I.ne⟩ NL)
theorem AA{R:Result->Shared->Prop}{vs:List Value}{kw:List (Str×Value)}(X:K.In s.heap)(hm:makesIn K C=true)
  (hi:findIn K (.ref C) "__init__"=some (some (.ref f))) (hf:typeIn K (.ref f)=some (.type "function"))
  (h:codeAny (model prog w) (A.under (.builtin "type.__call__" ⟨.ref C::vs,kw⟩)) (.call (.ref f) ⟨.ref (s.heap.objs.size+1)::vs,kw⟩) (PySem.W.InitBack (s.heap.objs.size+1) R)
   { s with heap:=(s.heap.push emptyDict).push (instObj C s.heap.objs.size) }) :
  codeAny (model prog w) A (.call (.ref C) ⟨vs,kw⟩) R s:=by
 obtain⟨hh,g,d,t,os⟩:=s;exact PySem.W.make_core (PySem.W.makes_of X hm) (PySem.W.looks_findIn X hi) (λself=>PySem.W.bind_fn X self hf) (.inl rfl) h
end
noncomputable def cz(f:Str)(v:V):List (Str×V)->List (Str×V)
 | []=>[(f,v)]
 |(g,x)::r=>if g=f then (g,v)::r else (g,x)::cz f v r
theorem uR(f g:Str)(v:V):∀fs:List (Str×V),(cz f v fs).lookup g=if g=f then some v else fs.lookup g
 | []=>by
  show List.lookup g [(f,v)]=_;by_cases h:g=f
  ·have hb:(g==f)=true:=Ld.mpr h;simp only[List.lookup,hb,Ja h]
  ·have hb:(g==f)=false:=KU.mpr h;simp only[List.lookup,hb,I0 h]
 |(k,x)::r=>by
  have ih:=uR f g v r;rw[show cz f v ((k,x)::r)=(if k=f then (k,v)::r else (k,x)::cz f v r)from rfl];by_cases hk:k=f
  ·rw[Ja hk];by_cases h:g=k
   ·have hb:(g==k)=true:=Ld.mpr h;simp only[List.lookup,hb,Ja (h.trans hk)]
   ·have hb:(g==k)=false:=KU.mpr h;simp only[List.lookup,hb,I0 (λe:g=f=>h (e.trans hk.symm))]
  ·rw[I0 hk];by_cases h:g=k
   ·have hb:(g==k)=true:=Ld.mpr h;simp only[List.lookup,hb,I0 (λe:g=f=>hk (h.symm.trans e))]
   ·have hb:(g==k)=false:=KU.mpr h;simp only[List.lookup,hb];exact ih
theorem ra(f:Str)(v:V):∀fs:List (Str×V),f∈(cz f v fs).map (·.1)/\∀g,g∈fs.map (·.1)->g∈(cz f v fs).map (·.1)
 | []=>⟨by simp[cz],λg h=>by simp at h⟩
 |(k,x)::r=>by
  obtain⟨i1,i2⟩:=ra f v r;rw[show cz f v ((k,x)::r)=(if k=f then (k,v)::r else (k,x)::cz f v r)from rfl];by_cases hk:k=f
  ·rw[Ja hk];subst hk;exact⟨by simp,λg h=>by simpa using h⟩
  ·rw[I0 hk];refine⟨?_,λg h=>?_⟩
   ·rw[Jq];exact IY _ i1
   ·rw[Jq]at h ⊢;rcases Jb.mp h with e|e
    ·exact Jb.mpr (.inl e)
    ·exact IY _ (i2 g e)
theorem uq(f:Str)(v:V):∀fs:List (Str×V),(cz f v fs).length<=fs.length+1
 | []=>by simp[cz]
 |(k,x)::r=>by
  have ih:=uq f v r;rw[show cz f v ((k,x)::r)=(if k=f then (k,v)::r else (k,x)::cz f v r)from rfl];by_cases hk:k=f
  ·rw[Ja hk,Je,Je];omega
  ·rw[I0 hk,Je,Je];omega
theorem RelO.some_of{v:V}{o:Option Value}(r:RelO (some v) o):∃u,o=some u/\RelV v u:=by
 cases o with
 |none=>exact (show False from r).elim
 |some u=>exact⟨u,rfl,r⟩
theorem RelO.none_of{o:Option Value}(r:RelO none o):o=none:=by
 cases o with
 |none=>rfl
 |some u=>exact (show False from r).elim
theorem HK{v:V}{u:Value}(r:RelV v u):handedIn u=true:=by
 cases v with
 |non=>cases (show u=Value.none from r);rfl
 |bl b=>cases (show u=Value.bool b from r);rfl
 |int i=>obtain⟨t,e⟩:=(show ∃t,u=Value.int i t from r);cases e;rfl
 |str x=>obtain⟨t,e⟩:=(show ∃t,u=Value.str x t from r);cases e;rfl
 |byt b=>obtain⟨t,e⟩:=(show ∃t,u=Value.bytes b t from r);cases e;rfl
 |flt b=>obtain⟨t,e⟩:=(show ∃t,u=Value.float b t from r);cases e;rfl
 |ref a=>cases (show u=Value.ref a from r);rfl
 |ty n=>cases (show u=Value.type n from r);rfl
section
variable{P:Program}{w:World}{H:Hp}{h:Heap}{a C dx:Addr}{fs:List (Str×V)}
theorem qZ(hok:HOk P w H h)(e:H a=some (.ins C dx fs)):∃mA,ObjM h a dx C mA/\(∀f,RelO (fs.lookup f) (mA f))/\PySem.Within mA (fs.map (·.1))/\fs.length<=1000/\H dx=some (.own a):=by obtain⟨d,z,ne,ob,mA,n,r,q⟩:=(show ObjOk P w H h a (.ins C dx fs)from hok a _ e);exact⟨mA,⟨ob,n,ne⟩,r,q,z,d⟩
end
structure Cls(K:Frag)(C:Addr):Prop where
 pg:plainGet K C Str.empty=true
 hd:hasDictIn K C=true
 po:plainOver K C=true
 sa:findIn K (.ref C) "__setattr__"=some (some (.builtin "object.__setattr__"))
theorem Cls.get{K:Frag}{C:Addr}(c:Cls K C)(f:Str):plainGet K C f=true:=c.pg
noncomputable def NoAttr(K:Frag)(C:Addr)(f:Str):Prop:=findIn K (.ref C) f=some none
theorem NoAttr.taker{K:Frag}{C:Addr}{f:Str}(n:NoAttr K C f):takerIn K C f=some none:=by unfold takerIn;rw[show findIn K (.ref C) f=some none from n];rfl
structure Meth(K:Frag)(C:Addr)(m:Str)(f:Addr):Prop where
 at_:findIn K (.ref C) m=some (some (.ref f))
 fn:isFn K (.ref f)=true
 kp:keepIn K (.ref f)=true
section
variable{X:Cx}{pins:List (Addr×Obj)}{σ:St}{H:Hp}{s:Shared}{a C dx:Addr}{fs:List (Str×V)}{f:Str}{v:V}{A:Around}{E:Value->Shared->Prop}
theorem Dv{b:Bool}{Q:Value->Shared->Prop}(I:Inv X pins σ H s)(e:H a=some (.ins C dx fs))(c:Cls X.K C)(n:NoAttr X.K C f)(l:fs.lookup f=some v)
  (h:∀u s',Inv X pins σ H s'->RelV v u->Q u s'):wpAny (model X.prog X.w) A (getAttr (.ref a) f b) Q E s:=by
 obtain⟨mA,O,r,_,_,_⟩:=qZ I.hok e;obtain⟨u,hu,ru⟩:=RelO.some_of (v:=v) (o:=mA f) (by rw[←l];exact r f);exact CF I.kIn O (c.get f) c.hd n hu (HK ru) (h u _ (I.tok _) ru)
theorem rR{m:Str}{g:Addr}{pl:Sem Bool}{Q:Value×List Value->Shared->Prop}(I:Inv X pins σ H s)(e:H a=some (.ins C dx fs))(c:Cls X.K C)(k:Meth X.K C m g)(l:fs.lookup m=none)
  (h:Q (.ref g,[.ref a]) s):wpAny (model X.prog X.w) A (getMethod (.ref a) m pl) Q E s:=by
 obtain⟨mA,O,r,_,_,_⟩:=qZ I.hok e;have hn:mA m=none:=RelO.none_of (by rw[←l];exact r m);exact Hs I.kIn O (c.get m) k.at_ k.fn hn h
theorem Gn{y:V}{u:Value}{Q:Unit->Shared->Prop}(I:Inv X pins σ H s)(e:H a=some (.ins C dx fs))(c:Cls X.K C)(n:NoAttr X.K C f)(hl:fs.length<1000)(ry:RelV y u)
  (h:∀s',Inv X pins σ (ak H a (.ins C dx (cz f y fs))) s'->Q () s'):wpAny (model X.prog X.w) A (setAttr (.ref a) f u) Q E s:=by
 obtain⟨mA,O,r,wi,_,ho⟩:=qZ I.hok e
 have hz:(fs.map (·.1)).length<=sizeLine:=by rw[mn,Kd];omega
 refine yR I.kIn O c.sa c.po n.taker c.hd wi hz λh' O' sb=>h _ ?_
 have hd:∃o,h'.get? dx=some o:=let ⟨o,_,_,e',_⟩:=O'.ns;⟨o,e'⟩
 refine I.write (x:=a) (e:=dx) (by rw[e];exact True.intro) (.inr ho) (λb q hb z=>(sb.2 b hb).trans z) hd ?_;refine⟨by rw[ba O.ne];exact ho,?_,O.ne,O'.obj,_,O'.ns,λg=>?_,λg hg=>?_⟩
 ·have:=uq f y fs;omega
 ·show RelO ((cz f y fs).lookup g) (if g=f then some u else mA g);rw[uR];by_cases q:g=f
  ·rw[Ja q,Ja q];exact ry
  ·rw[I0 q,I0 q];exact r g
 ·by_cases q:g=f
  ·rw[q];exact (ra f y fs).1
  ·refine (ra f y fs).2 g (wi g λz=>hg ?_);show (if g=f then some u else mA g)=none;rw[I0 q];exact z
theorem Inv.made(I:Inv X pins σ H s):Inv X pins σ (ak (ak H s.heap.objs.size (.own (s.heap.objs.size+1))) (s.heap.objs.size+1) (.ins C s.heap.objs.size []))
  { s with heap:=(s.heap.push emptyDict).push (instObj C s.heap.objs.size) }:=by
 have e1:(s.heap.push emptyDict).get? s.heap.objs.size=some emptyDict:=Jh s.heap rfl
 have e2:((s.heap.push emptyDict).push (instObj C s.heap.objs.size)).get? (s.heap.objs.size+1)=some (instObj C s.heap.objs.size):=by
  have:=Jh (s.heap.push emptyDict) (o:=instObj C s.heap.objs.size) rfl
  rwa [Jx]at this
 have e3:(s.heap.push emptyDict).Ns s.heap.objs.size (λ_=>none):=⟨emptyDict,#[],_,e1,rfl,(λe he=>absurd he (by simp)),λ_=>rfl⟩;have I1:=I.laid (a:=s.heap.objs.size) (o:=.own (s.heap.objs.size+1)) (h':=s.heap.push emptyDict) (t':=s.toks) (λb u q=>IX _ q) (Jc _) ⟨_,e1⟩;refine I1.laid (a:=s.heap.objs.size+1) (o:=.ins C s.heap.objs.size []) (t':=s.toks) (λb u q=>IX _ q) (LX (Jx _ _)) ?_;have ne:s.heap.objs.size≠s.heap.objs.size+1:=JM (KW _);refine⟨by rw[ba ne,bq],KJ _,ne,e2,λ_=>none,(Heap.Ns1.of_empty e3).at λo q=>IX _ q,λ_=>True.intro,λy hy=>absurd rfl hy⟩
theorem HV{prog:Program}{w:World}{env:Env}{e:Expr}{f:Str}{pos:Pos}{s:Shared}{Q:Value->Shared->Prop}(hb:attributeBase e f env (eval e env)=eval e env)
  (h:wpAny (model prog w) A (eval e env) (λo s₁=>wpAny (model prog w) A (getAttr o f true) Q E s₁) E s):wpAny (model prog w) A (eval (.Attribute e f pos) env) Q E s:=
 Attribute_any_ h (by rw[arm_eval_Attribute,hb])
end
noncomputable def vA(K:Frag)(ta:TE)(f:Str):TE:=λσ H Q=>ta σ H λx H1=>∃a C dx fs v,x=.ref a/\H1 a=some (.ins C dx fs)/\Cls K C/\NoAttr K C f/\fs.lookup f=some v/\Q v H1
noncomputable def x9(K:Frag)(ta tv:TE)(f:Str):TS:=λD σ H=>tv σ H λy H1=>ta σ H1 λx H2=>∃a C dx fs,x=.ref a/\H2 a=some (.ins C dx fs)/\Cls K C/\NoAttr K C f/\fs.length<1000 /\
 D.nx σ (ak H2 a (.ins C dx (cz f y fs)))
section
variable{X:Cx}{o e value:Expr}{f:Str}{pos pos':Pos}{ta tv:TE}
theorem zh(he:PE X e ta)(hb:attributeBase e f X.env (eval e X.env)=eval e X.env):PE X (.Attribute e f pos) (vA X.K ta f):=by intro pins s σ H Q I h;refine HV hb (aw (he pins s σ H _ I h) λu s1 Nb=>?_);obtain⟨x,H1,I1,rx,a,C,dx,fs,v,ex,ea,c,n,l,q⟩:=Nb;subst ex;obtain rfl:u=Value.ref a:=rx;exact Dv I1 ea c n l λu' s2 I2 ru=>⟨v,H1,I2,ru,q⟩
theorem tS(ha:PE X o ta)(hv:PE X value tv)(hs:swapsWith value (some (.Attribute o f pos')) pos.line X.env=pure false):PS X (.Assign [.Attribute o f pos'] value pos) (x9 X.K ta tv f):=by intro pins s σ H D I h;refine plainObj_wpAny_Assign_Attribute (aw (hv pins s σ H _ I h) λu s1 ⟨y,H1,I1,ry,q⟩=>aw (ha pins s1 σ H1 _ I1 q) λov s2 ⟨x,H2,I2,rx,a,C,dx,fs,ex,ea,c,n,l,q2⟩=>?_) hs;subst ex;obtain rfl:ov=Value.ref a:=rx;exact Gn I2 ea c n l ry λs3 I3=>⟨σ,_,I3,q2⟩
end
structure Room(k:Nat)(A:Around):Prop where
 hd:A.handled=none
 dp:A.depth+3*k+5<recursionLimit
 un:A.units+16*k+200<cLine
theorem Room.mono{j k:Nat}{A:Around}(r:Room k A)(h:j<=k):Room j A:=⟨r.hd,by have:=r.dp;omega,by have:=r.un;omega⟩
theorem Room.deeper{k:Nat}{A:Around}(r:Room (k+1) A)(env:Env):Room k (A.deeper env):=
 ⟨r.hd,by have:=r.dp;show A.depth+1+3*k+5<_;omega,by have:=r.un;show A.units+3+16*k+200<_;omega⟩
theorem HR{A:Around}{C:Addr}{us:List Value}{kw:List (Str×Value)}:(A.under (.builtin "type.__call__" ⟨.ref C::us,kw⟩)).depth=A.depth+1:=by
 first|rfl|simp[Around.under,Code.weight,Code.isCreation,Code.isGuard,Code.isCaller,Code.frames,Code.isFrame,guardIds]
theorem CV{A:Around}{C:Addr}{us:List Value}{kw:List (Str×Value)}:(A.under (.builtin "type.__call__" ⟨.ref C::us,kw⟩)).units=A.units+1:=by
 first|rfl|simp[Around.under,Code.cUnits,Code.frames,Code.isFrame]
theorem Room.make{k:Nat}{A:Around}(r:Room (k+1) A)(C:Addr)(us:List Value)(kw:List (Str×Value)):Room k (A.under (.builtin "type.__call__" ⟨.ref C::us,kw⟩)):=
 ⟨r.hd,by have:=r.dp;rw[HR];omega,by have:=r.un;rw[CV];omega⟩
theorem Room.depth{k:Nat}{A:Around}(r:Room k A):A.depth<recursionLimit:=by have:=r.dp;omega
theorem Room.units{k:Nat}{A:Around}(r:Room k A):A.units+64<cLine:=by have:=r.un;omega
noncomputable def qg:TA:=λ_ H Q=>Q [] H
noncomputable def Il(ta:TE)(tr:TA):TA:=λσ H Q=>ta σ H λx H1=>tr σ H1 λxs H2=>Q (x::xs) H2
section
variable{X:Cx}{e:Expr}{es:List Expr}{te:TE}{t:TA}{pos:Pos}
theorem pa_nil:PA X [] qg:=λ_ _ _ _ H Q I h=>Calls.spliced_nil ⟨[],H,I,.nil,h⟩
theorem dZ(ha:PE X e te)(hr:PA X es t)(hs:starEach (e::es) X.env=(false,eval e X.env)::starEach es X.env:=by rfl):PA X (e::es) (Il te t):=by
 intro pos pins s σ H Q I h;rw[hs];show wpAny _ _ (spliced ((false,eval e X.env)::backTo pos (starEach es X.env))) _ _ s;refine Calls.spliced_cons (aw (ha pins s σ H _ I h) λu s1 Nb=>?_);obtain⟨x,H1,I1,r1,q1⟩:=Nb
 exact aw (hr pos pins s1 σ H1 _ I1 q1) λus s2 NN=>by obtain⟨xs,H2,I2,r2,q2⟩:=NN;exact⟨x::xs,H2,I2,.cons r1 r2,q2⟩
noncomputable def Gk(t:TA):TE:=λσ H Q=>t σ H λxs H1=>xs.length<=sizeLine/\∀p,H1 p=none->Q (.ref p) (ak H1 p (.tup xs))
noncomputable def C3(t:TA):TE:=λσ H Q=>t σ H λxs H1=>xs.length<=sizeLine/\∀p,H1 p=none->Q (.ref p) (ak H1 p (.lst xs))
theorem nZ{x1}(h:PA X es t):PE X (.Tuple es x1 pos) (Gk t):=by
 intro pins s σ H Q I hq;refine wpAny_Tuple_spliced (aw (h pos pins s σ H _ I hq) λus s1 ⟨xs,H1,I1,r,z,q⟩=>⟨by rw[←r.length];exact z,?_⟩);have hf:H1 s1.heap.objs.size=none:=I1.hok.fresh (Jc _);refine⟨.ref s1.heap.objs.size,ak H1 s1.heap.objs.size (.tup xs),I1.laid (t':=s1.toks) (λb u e=>IX _ e) (Jc _) ?_,rfl,q _ hf⟩;exact⟨z,us,r,⟨_,Jh _ rfl,⟨rfl,rfl⟩,_,rfl⟩⟩
theorem D8(h:PA X es t):PE X (.List es pos) (C3 t):=by
 intro pins s σ H Q I hq;refine wpAny_List_spliced (aw (h pos pins s σ H _ I hq) λus s1 ⟨xs,H1,I1,r,z,q⟩=>⟨by rw[←r.length];exact z,?_⟩);have hf:H1 s1.heap.objs.size=none:=I1.hok.fresh (Jc _);refine⟨.ref s1.heap.objs.size,ak H1 s1.heap.objs.size (.lst xs),I1.laid (t':=s1.toks) (λb u e=>IX _ e) (Jc _) ?_,rfl,q _ hf⟩;exact⟨z,us,0,r,Jh _ rfl⟩
end
noncomputable abbrev Sp:=List V->Hp->VK->XK->Prop
noncomputable abbrev dc:=List Env->Hp->Shared->XK->Value->Shared->Prop
structure Env0(P:Program)(w:World)(K:Frag)(mg:Str->Option Value)(base:Heap)(A:Around)(outer:List Env)(s:Shared)(H:Hp):Prop where
 frames:A.frames=some outer
 mod:Mod K mg base
 bs:∀b o,base.get? b=some o->s.heap.get? b=some o/\H b=none
 bsz:base.objs.size<=s.heap.objs.size
 funs:s.heap.FunFrames base outer
 frf:∀b∈fh outer,H b=none
 hok:HOk P w H s.heap
 bare:AllBare s.gens
noncomputable def CE(outer:List Env)(P:Program)(w:World)(H:Hp)(s:Shared)(Q:VK)(u:Value)(s':Shared):Prop:=
 ∃v H',s'.os=s.os/\AllBare s'.gens/\Un (fh outer) [] H H' s.heap s'.heap/\HOk P w H' s'.heap/\RelV v u/\Q v H'
noncomputable def CR(CX:dc)(outer:List Env)(P:Program)(w:World)(H:Hp)(s:Shared)(Q:VK)(E:XK)(r:Result)(s':Shared):Prop:=
 match r with
 |.ok (.ret u)=>CE outer P w H s Q u s'
 |.ok _=>False
 |.error e=>CX outer H s E e s'
structure FnOk(P:Program)(w:World)(K:Frag)(mg:Str->Option Value)(base:Heap)(CX:dc)(k:Nat)(f:Addr)(fd:FuncData)(ps:List Str)(sp:Sp):Prop where
 len:∀vs H Q E,sp vs H Q E->vs.length=ps.length
 run:∀(A:Around)(outer:List Env)(s:Shared)(H:Hp)(args:Args)(us:List Value)(vs:List V)(Q:VK)(E:XK),Room k A->Env0 P w K mg base A outer s H->BindsTo s fd args (ps.zip us)->Vals vs us->sp vs H Q E->
  codeAny (model P w) A (.call (.ref f) args) (CR CX outer P w H s Q E) s
theorem FnOk.mono{P:Program}{w:World}{K:Frag}{mg:Str->Option Value}{base:Heap}{CX:dc}{j k:Nat}{f:Addr}{fd:FuncData}{ps:List Str}{sp:Sp}(F:FnOk P w K mg base CX j f fd ps sp)(h:j<=k) :
  FnOk P w K mg base CX k f fd ps sp:=⟨F.len,λA outer s H args us vs Q E hr=>F.run A outer s H args us vs Q E (hr.mono h)⟩
theorem FnOk.imp{P:Program}{w:World}{K:Frag}{mg:Str->Option Value}{base:Heap}{CX:dc}{k:Nat}{f:Addr}{fd:FuncData}{ps:List Str}{sp QQ:Sp}(F:FnOk P w K mg base CX k f fd ps sp)
  (h:∀vs H Q E,QQ vs H Q E->sp vs H Q E):FnOk P w K mg base CX k f fd ps QQ:=
 ⟨λvs H Q E q=>F.len vs H Q E (h _ _ _ _ q),λA outer s H args us vs Q E hr he hb hv hs=>F.run A outer s H args us vs Q E hr he hb hv (h _ _ _ _ hs)⟩
theorem Env0.make{P:Program}{w:World}{K:Frag}{mg:Str->Option Value}{base:Heap}{A:Around}{outer:List Env}{s:Shared}{H:Hp}(e:Env0 P w K mg base A outer s H)(C:Addr)(us:List Value)(kw:List (Str×Value)) :
  Env0 P w K mg base (A.under (.builtin "type.__call__" ⟨.ref C::us,kw⟩)) outer s H:=⟨by first|exact e.frames|(simpa [Around.under,Code.envs,Code.isFrame,pushEnvs] using e.frames),e.mod,e.bs,e.bsz,e.funs,e.frf,e.hok,e.bare⟩
section
variable{X:Cx}{pins:List (Addr×Obj)}{σ:St}{H:Hp}{s s':Shared}
theorem Inv.env0(I:Inv X pins σ H s):Env0 X.prog X.w X.K X.mg X.base X.A X.stack s H:=
 ⟨I.ok.frames,I.ok.mod,I.bs,JE I.ok.bsz I.sz,I.stack,I.stkFree,I.hok,I.bare⟩
theorem Inv.after{Q:VK}{u:Value}(I:Inv X pins σ H s)(h:CE X.stack X.prog X.w H s Q u s'):EP X pins σ Q u s':=by obtain⟨v,H',os,bare,un,hok,r,q⟩:=h;obtain⟨hh,g,d,t,SX⟩:=s';obtain rfl:SX=s.os:=os;exact⟨v,H',I.call (h':=hh) (g':=g) (d':=d) (t':=t) (ch:=[]) un hok bare (λb z=>absurd z (by simp)),r,q⟩
end
noncomputable def yO(sp:Sp)(dvs:List V)(E:XK)(t:TA):TE:=λσ H Q=>t σ H λvs H1=>sp (vs++dvs) H1 Q E
noncomputable def rT(C:Addr)(m:Str)(sp:Sp)(dvs:List V)(E:XK)(ta:TE)(t:TA):TE:=λσ H Q=>ta σ H λx H1=>∃a dx fs,x=.ref a/\H1 a=some (.ins C dx fs)/\fs.lookup m=none /\
 t σ H1 λvs H2=>sp (x::(vs++dvs)) H2 Q E
noncomputable def Aw(C:Addr)(sp:Sp)(dvs:List V)(E:XK)(t:TA):TE:=λσ H Q=>t σ H λvs H1=>∀x dx,H1 x=none->H1 dx=none->dx≠x->
 sp (.ref x::(vs++dvs)) (ak (ak H1 dx (.own x)) x (.ins C dx [])) (λv H2=>v=.non/\Q (.ref x) H2) E
noncomputable def Binds(K:Frag)(fd:FuncData)(ps:List Str)(ds:List Value):Prop:=
 ∀(s:Shared)(us:List Value),K.In s.heap->(us++ds).length=ps.length->BindsTo s fd ⟨us,[]⟩ (ps.zip (us++ds))
theorem Binds.all{K:Frag}{fd:FuncData}{ps:List Str}(h:∀us:List Value,us.length=ps.length->bindArgs fd ⟨us,[]⟩=pure (ps.zip us)):Binds K fd ps []:=λs us _ hl=>by rw[JW]at hl ⊢;exact .of_eq (h us hl)
noncomputable def iB(CX:dc)(X:Cx)(E:XK):Prop:=∀(pins:List (Addr×Obj))(σ:St)(H:Hp)(s:Shared)(e:Value)(s':Shared),Inv X pins σ H s->CX X.stack H s E e s'->X.xe e s'
section
variable{X:Cx}{CX:dc}{k:Nat}{f C:Addr}{fd:FuncData}{ps:List Str}{sp:Sp}{dvs:List V}{ds:List Value}{E:XK}{x m:Str}{p pos apos:Pos}{e o:Expr}{es:List Expr}{ta:TE}{t:TA}
theorem rG{pins:List (Addr×Obj)}{σ:St}{H:Hp}{s:Shared}{Q:VK}{us:List Value}{vs:List V}(F:FnOk X.prog X.w X.K X.mg X.base CX k f fd ps sp)(hr:Room k X.A)(hb:Binds X.K fd ps ds)(hd:Vals dvs ds)(hx:iB CX X E)
  (I:Inv X pins σ H s) (r:Vals vs us) (h:sp (vs++dvs) H Q E):wpAny (model X.prog X.w) X.A (call (.ref f) us) (EP X pins σ Q) X.xe s:=by
 have r2:Vals (vs++dvs) (us++ds):=r.append hd
 have hl:(us++ds).length=ps.length:=by rw[←r2.length];exact F.len _ _ _ _ h
 refine wpAny_call (Mv (F.run X.A X.stack s H ⟨us,[]⟩ (us++ds) (vs++dvs) Q E hr I.env0 (hb s us I.kIn hl) r2 h) λr s' hq=>?_)
 cases r with
 |error e=>exact hx pins σ H s e s' I hq
 |ok fl=>
  cases fl with
  |ret u=>exact I.after hq
  |next=>exact False.elim hq
  |brk=>exact False.elim hq
  |cont=>exact False.elim hq
theorem vg(F:FnOk X.prog X.w X.K X.mg X.base CX k f fd ps sp)(hr:Room k X.A)(hg:Gl X x)(hm:X.mg x=some (.ref f))(hk:keepIn X.K (.ref f)=true)(hb:Binds X.K fd ps ds)(hd:Vals dvs ds)(hx:iB CX X E)
  (ha:PA X (e::es) t) (OA:(x==("__debug__":Str))=false:=by decide) (he:starEach (e::es) X.env=(false,eval e X.env)::starEach es X.env:=by rfl) (Ot:(backTo pos (starEach es X.env)).any (·.1)=false:=by rfl) :
  PE X (.Call (.Name x p) (e::es) [] pos) (yO sp dvs E t):=by
 intro pins s σ H Q I h;refine Ln (qw I hg hm ?_ OA);refine callWith_K (h₀:=X.base) I.ok.mod.kin hk (aw (ha pos pins s σ H _ I h) λus s1 ⟨vs,H1,I1,r,q⟩=>⟨I1.kIn,?_⟩) he Ot;exact rG F hr hb hd hx I1 r q
theorem Ih{pl:Sem Bool}(he:PE X o ta)(c:Cls X.K C)(hm:Meth X.K C m f)(F:FnOk X.prog X.w X.K X.mg X.base CX k f fd ps sp)(hr:Room k X.A)(hb:Binds X.K fd ps ds)(hd:Vals dvs ds)(hx:iB CX X E)(ha:PA X (e::es) t)
  (N5:starEach (e::es) X.env=(false,eval e X.env)::starEach es X.env:=by rfl) (Ot:(backTo pos (starEach es X.env)).any (·.1)=false:=by rfl)
  (ht:eval (.Call (.Attribute o m apos) (e::es) [] pos) X.env=(do
   let ov ←eval o X.env
   standAt apos.atName
   let (f,first) ←holding [ov] (getMethod ov m pl)
   callWith pos f first (backTo pos (starEach (e::es) X.env)) (backToKw pos (keywordEach [] X.env))):=by rfl) :
  PE X (.Call (.Attribute o m apos) (e::es) [] pos) (rT C m sp dvs E ta t):=by
 intro pins s σ H Q I h;refine methodCall_KW (pl:=pl) (aw (he pins s σ H _ I h) λu s1 ⟨x,H1,I1,rx,a,dx,fs,ex,ea,l,q⟩=>?_) ht;subst ex;obtain rfl:u=Value.ref a:=rx;refine rR I1 ea c hm l ?_;refine callWith_K (first:=[.ref a]) (h₀:=X.base) I.ok.mod.kin hm.kp (aw (ha pos pins s1 σ H1 _ I1 q) λus s2 ⟨vs,H2,I2,r,q2⟩=>⟨I2.kIn,?_⟩) N5 Ot;exact rG (us:=.ref a::us) (vs:=.ref a::vs) F hr hb hd hx I2 (.cons rfl r) q2
theorem Ey{pl:Sem Bool}(he:PE X o ta)(c:Cls X.K C)(hm:Meth X.K C m f)(F:FnOk X.prog X.w X.K X.mg X.base CX k f fd ps sp)(hr:Room k X.A)(hb:Binds X.K fd ps ds)(hd:Vals dvs ds)(hx:iB CX X E)
  (ht:eval (.Call (.Attribute o m apos) [] [] pos) X.env=(do
   let ov ←eval o X.env
   standAt apos.atName
   let (f,first) ←holding [ov] (getMethod ov m pl)
   callWith pos f first (backTo pos (starEach [] X.env)) (backToKw pos (keywordEach [] X.env))):=by rfl) :
  PE X (.Call (.Attribute o m apos) [] [] pos) (rT C m sp dvs E ta qg):=by
 intro pins s σ H Q I h;refine methodCall_KW (pl:=pl) (aw (he pins s σ H _ I h) λu s1 Nb=>?_) ht;obtain⟨x,H1,I1,rx,a,dx,fs,ex,ea,l,q⟩:=Nb;subst ex;obtain rfl:u=Value.ref a:=rx;refine rR I1 ea c hm l ?_;exact callWith_K0 (first:=[.ref a]) I1.kIn hm.kp (rG (us:=[.ref a]) (vs:=[.ref a]) F hr hb hd hx I1 (.cons rfl .nil) q)
structure Mk(K:Frag)(C f:Addr):Prop where
 makes:makesIn K C=true
 init:findIn K (.ref C) "__init__"=some (some (.ref f))
 fn:isFn K (.ref f)=true
 kp:keepIn K (.ref C)=true
theorem Fm{pins:List (Addr×Obj)}{σ:St}{H:Hp}{s:Shared}{Q:VK}{us:List Value}{vs:List V}(M:Mk X.K C f)(F:FnOk X.prog X.w X.K X.mg X.base CX k f fd ps sp)(hr:Room (k+1) X.A)(hb:Binds X.K fd ps ds)(hd:Vals dvs ds)
  (hx:iB CX X E) (I:Inv X pins σ H s) (r:Vals vs us)
  (h:∀x dx,H x=none->H dx=none->dx≠x->sp (.ref x::(vs++dvs)) (ak (ak H dx (.own x)) x (.ins C dx [])) (λv H2=>v=.non/\Q (.ref x) H2) E) :
  wpAny (model X.prog X.w) X.A (call (.ref C) us) (EP X pins σ Q) X.xe s:=by
 have hq:=h (s.heap.objs.size+1) s.heap.objs.size (I.hok.fresh (Nat.le_succ _)) (I.hok.fresh (Jc _)) (JM (KW _));have I2:=Inv.made (C:=C) I;have r2:Vals (V.ref (s.heap.objs.size+1)::(vs++dvs)) (Value.ref (s.heap.objs.size+1)::(us++ds)):=.cons rfl (r.append hd)
 have hl:(Value.ref (s.heap.objs.size+1)::us++ds).length=ps.length:=by have e:=r2.length;rw[F.len _ _ _ _ hq]at e;exact e.symm
 refine wpAny_call (AA (f:=f) I.kIn M.makes M.init (Ld.mp M.fn) (Mv (F.run _ X.stack _ _ ⟨Value.ref (s.heap.objs.size+1)::us,[]⟩ (Value.ref (s.heap.objs.size+1)::(us++ds)) _ _ E (hr.make C us [])
  (I2.env0.make C us []) (hb _ (Value.ref (s.heap.objs.size+1)::us) I2.kIn hl) r2 hq) λr s' Rh=>?_))
 cases r with
 |error e=>exact hx pins σ _ _ e s' I2 Rh
 |ok fl=>
  cases fl with
  |ret u=>
   obtain⟨v,H',I3,rv,ev,q3⟩:=I2.after Rh;subst ev;exact⟨rv,⟨V.ref (s.heap.objs.size+1),H',I3,rfl,q3⟩⟩
  |next=>exact False.elim Rh
  |brk=>exact False.elim Rh
  |cont=>exact False.elim Rh
theorem zE(M:Mk X.K C f)(F:FnOk X.prog X.w X.K X.mg X.base CX k f fd ps sp)(hr:Room (k+1) X.A)(hg:Gl X x)(hm:X.mg x=some (.ref C))(hb:Binds X.K fd ps ds)(hd:Vals dvs ds)(hx:iB CX X E)
  (OA:(x==("__debug__":Str))=false:=by decide):PE X (.Call (.Name x p) [] [] pos) (Aw C sp dvs E qg):=by
 intro pins s σ H Q I h;refine Ln (qw I hg hm ?_ OA);exact callWith_K0 I.kIn M.kp (Fm (us:=[]) M F hr hb hd hx I .nil h)
end
structure FnScope(N P:List Str)(sc:Scope):Prop where
 kind:sc.kind=.function
 co:sc.isCoroutine=false
 gen:sc.isGenerator=false
 nd:N.Nodup
 pre:N.take P.length=P
 par:∀x∈P,sc.names.lookup x=some .local\/sc.names.lookup x=some .cell
 nofree:∀y∈sc.names,y.2≠.free
theorem uW{kindOf:Str->Option NameKind}{x:Str}:∀{binds:List (Str×Value)}{m:Str->Option Value},(∀v,(x,v)∉binds)->bindL kindOf binds m x=m x
 | [],_,_=>rfl
 |(n,v)::r,m,h=>by
  unfold bindL;rw[uW λw hw=>h w (IY _ hw)];split
  ·have:x≠n:=by rintro rfl;exact h v IZ
   simp[this]
  ·rfl
theorem tK{kindOf:Str->Option NameKind}{x:Str}:∀{binds:List (Str×Value)}{m:Str->Option Value},(∀v,(x,v)∉binds)->bindC kindOf binds m x=m x
 | [],_,_=>rfl
 |(n,v)::r,m,h=>by
  unfold bindC;rw[tK λw hw=>h w (IY _ hw)];split
  ·rfl
  ·have:x≠n:=by rintro rfl;exact h v IZ
   simp[this]
theorem ub{kindOf:Str->Option NameKind}{x:Str}{v:Value}:∀{P:List Str}{vs:List Value}{i:Nat}{m:Str->Option Value},P.Nodup->P[i]?=some x->vs[i]?=some v->kindOf x=some .local->
  bindL kindOf (P.zip vs) m x=some v
 | [],_,_,_,_,h,_,_=>by simp at h
 |_::_,[],_,_,_,_,h,_=>by simp at h
 |p::P,w::vs,0,m,nd,h1,h2,hk=>by
  simp at h1 h2;subst h1;subst h2;show bindL kindOf ((p,w)::P.zip vs) m p=_;unfold bindL;rw[uW λv hv=>(Jy.mp nd).1 (K0 hv).1,Ja hk];simp
 |p::P,w::vs,i+1,m,nd,h1,h2,hk=>by show bindL kindOf ((p,w)::P.zip vs) m x=_;unfold bindL;exact ub (i:=i) (Jy.mp nd).2 (by simpa using h1) (by simpa using h2) hk
theorem uV{kindOf:Str->Option NameKind}{x:Str}{v:Value}:∀{P:List Str}{vs:List Value}{i:Nat}{m:Str->Option Value},P.Nodup->P[i]?=some x->vs[i]?=some v->kindOf x≠some .local->
  bindC kindOf (P.zip vs) m x=some v
 | [],_,_,_,_,h,_,_=>by simp at h
 |_::_,[],_,_,_,_,h,_=>by simp at h
 |p::P,w::vs,0,m,nd,h1,h2,hk=>by
  simp at h1 h2;subst h1;subst h2;show bindC kindOf ((p,w)::P.zip vs) m p=_;unfold bindC;rw[tK λv hv=>(Jy.mp nd).1 (K0 hv).1,I0 hk];simp
 |p::P,w::vs,i+1,m,nd,h1,h2,hk=>by show bindC kindOf ((p,w)::P.zip vs) m x=_;unfold bindC;exact uV (i:=i) (Jy.mp nd).2 (by simpa using h1) (by simpa using h2) hk
noncomputable def start(N:List Str)(vs:List V):St:=vs.map some++List.replicate (N.length-vs.length) none
noncomputable def gI(CX:dc)(P:Program)(w:World)(K:Frag)(mg:Str->Option Value)(base:Heap)(N:List Str)(qual:Str)(scope:Scope)(f:Addr)(cd:Value)(A:Around)(outer:List Env)(s:Shared)(H:Hp)(E:XK):Cx where
 prog:=P
 w:=w
 K:=K
 mg:=mg
 base:=base
 A:=A.deeper (envOfC qual scope s.heap.objs.size f cd)
 N:=N
 s₀:=s
 H₀:=H
 env:=envOfC qual scope s.heap.objs.size f cd
 outer:=outer
 stack:=envOfC qual scope s.heap.objs.size f cd::outer
 ex:=[]
 calm:=true
 fn:=λ_=>true
 pn:=[]
 xe:=λe s'=>wpAny (model P w) (A.deeper (envOfC qual scope s.heap.objs.size f cd)) (leaving (envOfC qual scope s.heap.objs.size f cd) e) (λ_ Ri=>CX outer H s E e Ri) (λe' Ri=>CX outer H s E e' Ri) s'
theorem pV{sc:Scope}{n:Nat}{x:Str}(h:sc.names.lookup x=some .cell):∃c,(cellsFrom n sc.names []).lookup x=some c:=by have q:=cellsFrom_some sc.names n [] (.inl h);exact Option.isSome_iff_exists.mp q
theorem xT{CX:dc}{P:Program}{w:World}{K:Frag}{mg:Str->Option Value}{base:Heap}{N ps:List Str}{qual:Str}{scope:Scope}{f:Addr}{cd:Value}{A:Around}{outer:List Env}{s s1:Shared}{H:Hp}{E:XK}{us:List Value}{vs:List V}
  (S:FnScope N ps scope) (hd:A.handled=none) (e0:Env0 P w K mg base A outer s H) (hl:vs.length=ps.length) (r:Vals vs us)
  (x:InCallC s s.heap.objs.size (bindL (envOfC qual scope s.heap.objs.size f cd).kindOf (ps.zip us) λ_=>none) (cellsFrom (s.heap.objs.size+1) scope.names []) (bindC (envOfC qual scope s.heap.objs.size f cd).kindOf (ps.zip us) λ_=>none) s1) :
  Inv (gI CX P w K mg base N qual scope f cd A outer s H E) [] (start N vs) H s1:=by
 have Ot:ps.length<=N.length:=by have:=Kl List.length S.pre;rw[JA]at this;omega
 obtain⟨h1,tk,rfl,hk⟩:=x.done;have Rj:∀b:Addr,b∉(gI CX P w K mg base N qual scope f cd A outer s H E).ex:=λb z=>absurd (show b∈([]:List Addr)from z) (by simp)
 refine⟨⟨e0.mod,S.kind,rfl,rfl,Jc _,λy z c h1 h2=>?_,λy hy=>?_,λy c _ h=>?_,λ_=>hd,Around.frames_deeper e0.frames,.inr ⟨rfl,rfl⟩,λb z=>absurd z (Rj b),e0.bs,e0.bsz,λb _ _=>Rj b,λb z=>absurd z (Rj b),e0.funs,e0.frf⟩,
  rfl,e0.bare,Un.kept hk,⟨_,x.toInCall.ns,λi y v h1 h2 h3=>?_⟩,λy c h=>⟨_,x.cell y c h⟩,e0.hok.fresh (Jc _),λy c h=>?_,λp hp=>absurd (show p∈([]:List (Addr×Obj))from hp) (by simp),e0.hok.kept hk,?_⟩
 ·exact name_of_addr x.apart (J9 h1) (J9 h2)
 ·have hy:scope.names.lookup y=some .cell\/scope.names.lookup y=some .free:=hy;rcases hy with hy|hy
  ·exact pV hy
  ·exact absurd rfl (S.nofree _ (J9 hy))
 ·exact KL (x.above y c (J9 h))
 ·have hi:i<vs.length:=by
   unfold start at h2;by_cases hi:i<vs.length
   ·exact hi
   ·rw[IU (by simpa using hi)]at h2;rw[Kw]at h2;split at h2<;>cases h2
  have ha:vs[i]?=some v:=by
   unfold start at h2;rw[wy (by simpa using hi),Jd]at h2
   cases e:vs[i]? with
   |none=>rw[e]at h2;cases h2
   |some a=>rw[e]at h2;cases h2;rfl
  obtain⟨u,hu,rv⟩:=r.get ha
  have hp:ps[i]?=some y:=by rw[←S.pre,KN (by omega)];exact h1
  have ndP:ps.Nodup:=by rw[←S.pre];exact S.nd.sublist (List.take_sublist _ _)
  refine⟨u,rv,?_⟩;rcases S.par y (Jn hp)with k|k
  ·exact .inl ⟨k,ub ndP hp hu k⟩
  ·obtain⟨c,e⟩:=pV (n:=s.heap.objs.size+1) k;refine .inr ⟨.inl k,c,e,?_⟩;have q:=x.cell y c e;rw[uV ndP hp hu (by show scope.names.lookup y≠_;rw[k];decide)]at q;exact q
 ·exact e0.hok.fresh (KL (x.above y c (J9 h)))
 ·unfold start;show _=N.length;rw[IW,mn,JH];omega
theorem vM{CX:dc}{P:Program}{w:World}{K:Frag}{mg:Str->Option Value}{base:Heap}{k:Nat}{f:Addr}{name qual:Str}{params:Arguments}{body:List Stmt}{scope:Scope}{dV kV doc pm Nk ct oc:Value}{an od:Option Addr}
  {P4:Array (Option Value)} {N ps:List Str} {sp:Sp} (lk:K.lookup f=some ⟨oc,od,.func (fnOf name qual params body scope dV kV doc pm an Nk ct),P4⟩) (Np:codeIn K Nk qual=true) (S:FnScope N ps scope)
  (len:∀vs H Q E,sp vs H Q E->vs.length=ps.length)
  (N0:∀(A:Around)(outer:List Env)(s:Shared)(H:Hp)(vs:List V)(Q:VK)(E:XK),Room k (A.deeper (envOfC qual scope s.heap.objs.size f Nk))->sp vs H Q E->
   ∃t,PSs (gI CX P w K mg base N qual scope f Nk A outer s H E) body t/\t { nx:=λ_ H'=>Q .non H',rt:=Q } (start N vs) H) :
  FnOk P w K mg base CX (k+1) f (fnOf name qual params body scope dV kV doc pm an Nk ct) ps sp:=by
 refine⟨len,λA outer s H args us vs Q E hr e0 hb r PR=>?_⟩;have hl:=len _ _ _ _ PR;have KX:K.In s.heap:=e0.mod.kin.keeps λb o e=>(e0.bs b o e).1;have lim:s.heap.NoLimit:=e0.mod.nolimit.keeps λb o e=>(e0.bs b o e).1
 have Rk:∀y∈ps.zip us,scope.names.lookup y.1=some .local\/(scope.names.lookup y.1=some .cell/\((cellsFrom (s.heap.objs.size+1) scope.names []).lookup y.1).isSome=true):=λNb hy=>by
  obtain⟨n,v⟩:=Nb;rcases S.par n (K0 hy).1 with q|q
  ·exact .inl q
  ·exact .inr ⟨q,cellsFrom_some _ _ _ (.inl q)⟩
 refine codeAny_call_function hr.depth (KX _ _ lk) rfl S.co S.gen rfl (PySem.W.codeRec_of KX Np) (hb _ _ _ _ ?_);refine wpAny_newFunctionEnv_cells S.kind Rk λenv he s1 x=>?_;subst he;refine⟨lim.keeps x.toInCall.keep,codeAny_func ?_⟩;obtain⟨t,ht,hq⟩:=N0 A outer s H vs Q E (hr.deeper _) PR;have I:Inv (gI CX P w K mg base N qual scope f Nk A outer s H E) [] (start N vs) H s1:=xT S hr.hd e0 hl r x;refine KD (ht [] s1 (start N vs) H _ I hq) (λfl s' hs=>?_) λe s' hs=>hs
 have fin:∀{σ':St}{H':Hp}{v:V}{u:Value},Inv (gI CX P w K mg base N qual scope f Nk A outer s H E) [] σ' H' s'->RelV v u->Q v H'->CE outer P w H s Q u s':=
  λ{σ' H' v u} J rv q=>⟨v,H',J.os,J.bare,J.base,J.hok,rv,q⟩
 cases fl with
 |ret u=>
  obtain⟨v,σ',H',J,rv,q⟩:=hs;exact fin J rv q
 |next=>
  obtain⟨σ',H',J,q⟩:=hs;exact fin (v:=V.non) (u:=Value.none) J rfl q
 |brk=>
  obtain⟨_,_,_,q⟩:=hs;exact False.elim q
 |cont=>
  obtain⟨_,_,_,q⟩:=hs;exact False.elim q
section
variable{X:Cx}{x:Str}{p pos:Pos}{e:Expr}{es:List Expr}{t:TA}{id T:String}{r:List V->Hp->VK->Prop}
noncomputable def wO(r:List V->Hp->VK->Prop)(t:TA):TE:=λσ H Q=>t σ H λvs H1=>r vs H1 Q
theorem sG(hc:fH X (.builtin id) r)(hg:Gl X x)(hm:X.mg x=none)(hv:bootBuiltins x=some (.builtin id))(ha:PA X (e::es) t)(hn:x≠"__name__":=by decide)(OA:(x==("__debug__":Str))=false:=by decide)
  (he:starEach (e::es) X.env=(false,eval e X.env)::starEach es X.env:=by rfl) (Ot:(backTo pos (starEach es X.env)).any (·.1)=false:=by rfl):PE X (.Call (.Name x p) (e::es) [] pos) (wO r t):=by
 intro pins s σ H Q I h;refine Ln (hX I hg hm hv ?_ hn OA);exact PyProof.Rows.callWith_builtin1 (aw (ha pos pins s σ H _ I h) λus s1 Nb=>by obtain⟨vs,H1,I1,r1,q1⟩:=Nb;exact hc pins s1 σ H1 vs us Q I1 r1 q1) he Ot
theorem sN(hc:fH X (.type T) r)(hg:Gl X x)(hm:X.mg x=none)(hv:bootBuiltins x=some (.type T))(ha:PA X (e::es) t)(hn:x≠"__name__":=by decide)(OA:(x==("__debug__":Str))=false:=by decide)
  (he:starEach (e::es) X.env=(false,eval e X.env)::starEach es X.env:=by rfl) (Ot:(backTo pos (starEach es X.env)).any (·.1)=false:=by rfl):PE X (.Call (.Name x p) (e::es) [] pos) (wO r t):=by
 intro pins s σ H Q I h;refine Ln (hX I hg hm hv ?_ hn OA);exact Kn (aw (ha pos pins s σ H _ I h) λus s1 Nb=>by obtain⟨vs,H1,I1,r1,q1⟩:=Nb;exact hc pins s1 σ H1 vs us Q I1 r1 q1) he Ot
end
end L2
namespace HT
open PySem PyProof.Rows
section
variable{prog:Program}{w:World}{A:Around}{E:Value->Shared->Prop}{s:Shared}
theorem cat_tup{t b:Addr}{vs ws:List Value}{Q:Value->Shared->Prop}(ht:IsTup s.heap t vs.toArray)(hb:IsTup s.heap b ws.toArray)(hv:vs≠[])
  (h1:ws=[]->Q (.ref t) s) (h2:ws≠[]->Q (.ref s.heap.objs.size) { s with heap:=s.heap.push { cls:=.type "tuple",data:=.seq (vs++ws).toArray } })
  (hsz:vs.length+ws.length<=sizeLine):wpAny (model prog w) A (binaryOp .Add (.ref t) (.ref b)) Q E s:=by
 obtain⟨⟨cls,dd,data,sl⟩,ho,hc,n,hd⟩:=id ht;obtain⟨⟨S0,R5,data2,R6⟩,OS,P5,n2,hd2⟩:=id hb;simp only at hc hd P5 hd2;subst hc hd P5 hd2
 have e:vs.toArray++ws.toArray=(vs++ws).toArray:=by simp
 by_cases hw:ws=[]
 ·exact concat_meets ⟨_,ho,rfl⟩ ⟨_,OS,rfl⟩ Mw seq_tuple_add LF LA (Lo _ _)
   (tuple_addW1 t b vs.toArray ws.toArray n n2 dd R5 sl R6 (by simpa using hv) (by simp[hw])) ⟨ho,OS,h1 hw⟩
 ·refine concat_meets ⟨_,ho,rfl⟩ ⟨_,OS,rfl⟩ Mw seq_tuple_add LF LA (Lo _ _)
   (tuple_addW2 t b vs.toArray ws.toArray n n2 dd R5 sl R6 (by simpa using hv) (by simpa using hw) (by rw[Jj,Jj];exact hsz)) ⟨ho,OS,?_⟩
  rw[e];exact h2 hw
noncomputable def sIx(n d:Nat):Option Int->Nat
 |none=>d
 |some v=>if v<0 then (v+(n:Int)).toNat else min v.toNat n
theorem sIx_none(n d:Nat):sIx n d none=d:=rfl
theorem sIx_nat(n d k:Nat):sIx n d (some (k:Int))=min k n:=by show (if (k:Int)<0 then ((k:Int)+(n:Int)).toNat else min (k:Int).toNat n)=min k n;rw[I0 (by omega),Kb]
theorem EC(n d:Nat)(hd:d<=n)(o:Option Int):sIx n d o<=n:=by
 cases o with
 |none=>exact hd
 |some v=>
  show (if v<0 then (v+(n:Int)).toNat else min v.toNat n)<=n;by_cases hv:v<0
  ·rw[Ja hv];omega
  ·rw[I0 hv];exact Nat.min_le_right _ _
theorem xl(v:Int)(n d:Nat):(if v<0 then max (v+(n:Int)) 0 else min v (n:Int))=((sIx n d (some v):Nat):Int):=by
 show (if v<0 then max (v+(n:Int)) 0 else min v (n:Int))=(((if v<0 then (v+(n:Int)).toNat else min v.toNat n):Nat):Int);by_cases hv:v<0
 ·simp only[Ja hv];omega
 ·simp only[I0 hv];omega
theorem Dx(lo hi:Option Int)(n:Nat):Builtin.Slice.sliceAdjust lo hi 1 (n:Int)=(((sIx n 0 lo:Nat):Int),((sIx n n hi:Nat):Int)):=by
 have h1:¬ ((1:Int)<0):=by omega
 unfold Builtin.Slice.sliceAdjust;simp only[h1,M3];refine Prod.ext ?_ ?_
 ·cases lo with
  |none=>rfl
  |some v=>exact xl v n 0
 ·cases hi with
  |none=>rfl
  |some v=>exact xl v n n
theorem Ai(i j:Nat):Builtin.Slice.slicePlaces (i:Int) (j:Int) 1=j-i:=by
 unfold Builtin.Slice.slicePlaces
 have h1:(1:Int)>0:=by omega
 simp only[h1,La,Int.ediv_one];split<;>omega
theorem vo{v:Value}{o:Option Int}{Q:Option Int->Shared->Prop}(p:IsPart v o)(h:Q o s):wpAny (model prog w) A (Builtin.Slice.slicePartIndex v) Q E s:=by
 cases p with
 |none=>exact slicePart_none h
 |int i t=>exact slicePart_int h
theorem tV{sl:Addr}{vl vu:Value}{lo hi:Option Int}{n:Nat}{Q:Int×Int×Nat->Shared->Prop}(hs:s.heap.IsSliceOf sl vl vu .none)(pl:IsPart vl lo)(pu:IsPart vu hi)
  (h:Q (((sIx n 0 lo:Nat):Int),1,sIx n n hi-sIx n 0 lo) s):wpAny (model prog w) A (Builtin.Slice.sliceApplied (.ref sl) (pure (n:Int))) Q E s:=by
 obtain⟨os,P6,R7,Rl⟩:=id hs;unfold Builtin.Slice.sliceApplied Builtin.Slice.sliceFields;refine IV (IV (JS P6 Rl (x:=vl) rfl (IV (JS P6 Rl (x:=vu) rfl (IV (JS P6 Rl (x:=.none) rfl (Jf ?_)))))));refine IV (slicePart_none ?_);show wpAny _ _ (if ((1:Int)==0)=true then _ else _) _ _ s;rw[I0 (by decide)];refine IV (vo pl (IV (vo pu (IV (Jf ?_)))));show wpAny _ _ (match Builtin.Slice.sliceAdjust lo hi 1 (n:Int)with|(lo,hi)=>pure (lo,(1:Int),Builtin.Slice.slicePlaces lo hi 1)) _ _ s;rw[Dx lo hi n];show wpAny _ _ (pure (((sIx n 0 lo:Nat):Int),(1:Int),Builtin.Slice.slicePlaces ((sIx n 0 lo:Nat):Int) ((sIx n n hi:Nat):Int) 1)) _ _ s;rw[Ai];exact Jf h
theorem zo(xs:Array Value)(i k:Nat):((List.range k).filterMap λ(m:Nat)=>xs[((i:Int)+(m:Int)*1).toNat]?).toArray=((xs.toList.drop i).take k).toArray:=by
 have e:(λ(m:Nat)=>xs[((i:Int)+(m:Int)*1).toNat]?)=λm=>xs[i+m]?:=by
  funext m
  have:((i:Int)+(m:Int)*1).toNat=i+m:=by omega
  rw[this]
 rw[e];have:=pick_run xs i k;rw[Me]at this;have e2:((λx=>xs[x]?) ∘ λx=>i+x)=λm=>xs[i+m]?:=rfl;rw[e2]at this;rw[this]
theorem getItem_tuple_cut{t sl:Addr}{items:Array Value}{vl vu:Value}{lo hi:Option Int}{Q:Value->Shared->Prop}(ht:IsTup s.heap t items)(hs:s.heap.IsSliceOf sl vl vu .none)(pl:IsPart vl lo)(pu:IsPart vu hi)
  (hw:¬ (sIx items.size 0 lo=0/\sIx items.size items.size hi=items.size))
  (h:Q (.ref s.heap.objs.size) { s with heap:=s.heap.push { cls:=.type "tuple",data:=.seq ((items.toList.drop (sIx items.size 0 lo)).take (sIx items.size items.size hi-sIx items.size 0 lo)).toArray } })
  (hsz:items.size<=sizeLine):wpAny (model prog w) A (getItem (.ref t) (.ref sl)) Q E s:=by
 have O9:sizeOk (.seq ((items.toList.drop (sIx items.size 0 lo)).take (sIx items.size items.size hi-sIx items.size 0 lo)).toArray):=by show ((items.toList.drop (sIx items.size 0 lo)).take (sIx items.size items.size hi-sIx items.size 0 lo)).toArray.size<=sizeLine;rw[Jj,JA,JY,J3];omega
 have hj:sIx items.size items.size hi<=items.size:=EC _ _ (Jc _) hi;obtain⟨os,P6,R7,Rl⟩:=id hs;have S4:s.TypeIs (.ref sl) "slice":=⟨os,P6,R7⟩;unfold getItem
 try with_reducible refine KG ?_
 first|refine IV (Jf ?_)|skip
 refine IV (wpAny_sequenceKey ht.typeIs (by decide) ?_)
 refine IV (Ka (name:=Str.ofString "__getitem__") ht.typeIs Kj
  (Ks Kj ht.typeIs entry_tuple_getitem ?_ (args_tuple_getitem _ _)))
 show wpAny _ _ (Builtin.Tuple.tupleItemsOf (.ref t) >>= _) _ _ s;refine IV (tupleItemsOf_ ht ?_);refine IV (wpAny_typeOf S4 ?_);rw[Ja (by decide)];refine IV (tV hs pl pu ?_)
 have N6:¬ ((((sIx items.size 0 lo:Nat):Int)==0&&(1:Int)==1&&(sIx items.size items.size hi-sIx items.size 0 lo)==items.size)=true):=by
  intro q;rw[JR,JR]at q;have q1:((sIx items.size 0 lo:Nat):Int)=0:=eq_of_beq q.1.1;have q2:sIx items.size items.size hi-sIx items.size 0 lo=items.size:=eq_of_beq q.2;exact hw ⟨by omega,by omega⟩
 show wpAny _ _ (if (((sIx items.size 0 lo:Nat):Int)==0&&(1:Int)==1&&(sIx items.size items.size hi-sIx items.size 0 lo)==items.size)=true then _ else _) _ _ s;rw[I0 N6,zo]
 first
  |exact IV (m:=Builtin.Tuple.tupleExact _) (KR (Jf ⟨_,rfl,Jf h⟩) O9)
  |exact IV (m:=Builtin.Tuple.tupleExact _) (KR (IV (Jf (Jf ⟨_,rfl,Jf h⟩))) O9)
  |exact IV (IV (m:=Builtin.Tuple.tupleExact _) (KR (Jf (Jf ⟨_,rfl,Jf h⟩)) O9))
  |exact IV (IV (m:=Builtin.Tuple.tupleExact _) (KR (Jf ⟨_,rfl,Jf h⟩) O9))
end
end HT
namespace L2
open PySem PySem.Spec PyProof.Rows
noncomputable abbrev TO:=St->Hp->(Option Int->Hp->Prop)->Prop
noncomputable def PO(X:Cx)(e:Option Expr)(t:TO):Prop:=
 ∀(pins:List (Addr×Obj))(s:Shared)(σ:St)(H:Hp)(Q:Option Int->Hp->Prop),Inv X pins σ H s->t σ H Q->
  wpAny (model X.prog X.w) X.A (evalPart e X.env) (λu s'=>∃o H',Inv X pins σ H' s'/\IsPart u o/\Q o H') X.xe s
noncomputable def AE:TO:=λ_ H Q=>Q none H
noncomputable def D3(t:TE):TO:=λσ H Q=>t σ H λx H1=>∃i,x=.int i/\Q (some i) H1
section
variable{X:Cx}{e:Expr}{te:TE}{lo hi:Option Expr}{tl th:TO}{pos p2:Pos}
theorem po_none:PO X none AE:=by intro pins s σ H Q I h;rw[evalPart_none];exact Jf ⟨none,H,I,.none,h⟩
theorem Gs(h:PE X e te):PO X (some e) (D3 te):=by intro pins s σ H Q I hw;rw[evalPart_some];refine aw (h pins s σ H _ I hw) λu s1 Nb=>?_;obtain⟨x,H1,I1,r1,q1⟩:=Nb;obtain⟨i,rfl,q⟩:=q1;obtain⟨t,rfl⟩:=r1;exact⟨some i,H1,I1,.int i t,q⟩
noncomputable def SlR(X:Cx)(r:V->Option Int->Option Int->Hp->VK->Prop):Prop:=
 ∀(pins:List (Addr×Obj))(s:Shared)(σ:St)(H:Hp)(x:V)(v vl vu:Value)(lo hi:Option Int)(sl:Addr)(Q:VK),Inv X pins σ H s->RelV x v->s.heap.IsSliceOf sl vl vu .none->IsPart vl lo->IsPart vu hi->r x lo hi H Q->
  ∃T id,typeLookup (.type T) "__getitem__"=pure (some (.builtin id))/\s.TypeIs v T/\wpAny (model X.prog X.w) X.A (getItem v (.ref sl)) (EP X pins σ Q) X.xe s
theorem SlR.or{r r':V->Option Int->Option Int->Hp->VK->Prop}(h:SlR X r)(h':SlR X r'):SlR X (λx lo hi H Q=>r x lo hi H Q\/r' x lo hi H Q):=by
 intro pins s σ H x v vl vu lo hi sl Q I rx hs pl pu q;rcases q with q|q
 ·exact h pins s σ H x v vl vu lo hi sl Q I rx hs pl pu q
 ·exact h' pins s σ H x v vl vu lo hi sl Q I rx hs pl pu q
noncomputable def BL(r:V->Option Int->Option Int->Hp->VK->Prop)(te:TE)(tl th:TO):TE:=λσ H Q=>te σ H λx H1=>tl σ H1 λl H2=>th σ H2 λu H3=>r x l u H3 Q
theorem zg{r:V->Option Int->Option Int->Hp->VK->Prop}(hr:SlR X r)(he:PE X e te)(hl:PO X lo tl)(hu:PO X hi th):PE X (.Subscript e (.Slice lo hi none p2) pos) (BL r te tl th):=by
 intro pins s σ H Q I h;refine Subscript_ (aw (he pins s σ H _ I h) λv s1 ⟨x,H1,I1,r1,q1⟩=>?_);refine wpAny_Slice (aw (hl pins s1 σ H1 _ I1 q1) λvl s2 ⟨l,H2,I2,pl,q2⟩=>aw (hu pins s2 σ H2 _ I2 q2) λvu s3 ⟨u,H3,I3,pu,q3⟩=>?_);rw[evalPart_none];refine Jf ?_;have I4:Inv X pins σ H3 { s3 with heap:=s3.heap.push { cls:=.type "slice",data:=.fields #[vl,vu,.none] } }:=I3.kept (t':=s3.toks) λb ob q=>IX _ q;obtain⟨T,id,hT,ht,hg⟩:=hr pins { s3 with heap:=s3.heap.push { cls:=.type "slice",data:=.fields #[vl,vu,.none] } } σ H3 x v vl vu l u s3.heap.objs.size Q I4 r1 (Heap.IsSliceOf.new ..) pl pu q3;show wpAny (model X.prog X.w) X.A (subscriptTail e (.Slice lo hi none p2) v (.ref s3.heap.objs.size)) (EP X pins σ Q) X.xe { s3 with heap:=s3.heap.push { cls:=.type "slice",data:=.fields #[vl,vu,.none] } };exact tail_any (ops:=[.ref s3.heap.objs.size,v]) ht hT hg (by with_unfolding_all rfl)
noncomputable def iy(xs:List V)(lo hi:Option Int):List V:=(xs.drop (HT.sIx xs.length 0 lo)).take (HT.sIx xs.length xs.length hi-HT.sIx xs.length 0 lo)
theorem wc(xs:List V)(lo hi:Option Int):(iy xs lo hi).length<=xs.length:=by unfold iy;rw[JA,JY];omega
noncomputable def w8(K:Frag):V->Option Int->Option Int->Hp->VK->Prop:=λx lo hi H Q=>∃a xs,x=.ref a/\SqT K H a xs /\
 ¬ (HT.sIx xs.length 0 lo=0/\HT.sIx xs.length xs.length hi=xs.length)/\∀p,H p=none->Q (.ref p) (ak H p (.tup (iy xs lo hi)))
theorem sl_tup:SlR X (w8 X.K):=by
 intro pins s σ H x v vl vu lo hi sl Q I rx hs pl pu h;obtain⟨a,xs,rfl,hx,hw,q⟩:=h;cases rx;obtain⟨Nc,r,ht,hz⟩:=I.tuple hx
 have hlen:Nc.toArray.size=xs.length:=by rw[Jj];exact r.length.symm
 refine⟨"tuple",_,Kj.lookup,ht.typeIs,?_⟩;refine HT.getItem_tuple_cut ht hs pl pu (by rw[hlen];exact hw) ?_ (by rw[hlen];exact hz);rw[hlen];refine⟨.ref s.heap.objs.size,_,I.laid (t':=s.toks) (o:=.tup (iy xs lo hi)) (λb ob q=>IX _ q) (Jc _) ?_,rfl,q _ (I.hok.fresh (Jc _))⟩;exact⟨JE (wc xs lo hi) hz,_,(r.drop (HT.sIx xs.length 0 lo)).take (HT.sIx xs.length xs.length hi-HT.sIx xs.length 0 lo),IsTupD.new _ _⟩
noncomputable def GA(K:Frag):R2:=λx y H Q=>∃a b xs ys,x=.ref a/\y=.ref b/\SqT K H a xs/\SqT K H b ys/\xs≠[]/\xs.length+ys.length<=sizeLine /\
 (ys=[]->Q (.ref a) H)/\(ys≠[]->∀p,H p=none->Q (.ref p) (ak H p (.tup (xs++ys))))
theorem Vals.nil_iff{xs:List V}{us:List Value}(r:Vals xs us):us=[]↔xs=[]:=by
 cases r with
 |nil=>simp
 |cons _ _=>simp
theorem Ht:bO X (binaryOp .Add) (GA X.K):=by intro pins s σ H x y v u Q I rx ry h;obtain⟨a,b,xs,ys,rfl,rfl,ha,hb,hx,hz,q1,q2⟩:=h;cases rx;cases ry;obtain⟨Nc,r1,p1,_⟩:=I.tuple ha;obtain⟨NO,r2,p2,_⟩:=I.tuple hb;refine HT.cat_tup p1 p2 (λz=>hx (r1.nil_iff.mp z)) (λz=>⟨.ref a,H,I,rfl,q1 (r2.nil_iff.mp z)⟩) (λz=>?_) (by rw[←r1.length,←r2.length];exact hz);refine⟨.ref s.heap.objs.size,_,I.laid (t':=s.toks) (o:=.tup (xs++ys)) (λb ob q=>IX _ q) (Jc _) ?_,rfl,q2 (λw=>z (r2.nil_iff.mpr w)) _ (I.hok.fresh (Jc _))⟩;exact⟨by rw[IW];exact hz,_,r1.append r2,IsTupD.new _ _⟩
end
noncomputable def eA(n:Nat)(i:Int):Option Nat:=if 0<=i then (if i<n then some i.toNat else none) else if -(n:Int)<=i then some (i+n).toNat else none
noncomputable def bJ{α:Type}(xs:List α)(i:Int):Option α:=(eA xs.length i).bind λj=>xs[j]?
theorem ug{n:Nat}{i:Int}{j:Nat}(h:eA n i=some j):seqIndex? i n=some j/\j<n/\-(n:Int)<=i/\i<n:=by
 unfold eA at h;by_cases h0:0<=i
 ·rw[Ja h0]at h;by_cases h1:i<n
  ·rw[Ja h1]at h;have e:i.toNat=j:=JV h;exact⟨by rw[seqIndex_of h0 h1,e],by omega,by omega,h1⟩
  ·rw[I0 h1]at h;cases h
 ·rw[I0 h0]at h;by_cases h1:-(n:Int)<=i
  ·rw[Ja h1]at h;have e:(i+n).toNat=j:=JV h;exact⟨by rw[seqIndex_neg (by omega) h1,e],by omega,h1,by omega⟩
  ·rw[I0 h1]at h;cases h
theorem qE{α:Type}{xs:List α}{i:Int}{v:α}(h:bJ xs i=some v):∃j,seqIndex? i xs.length=some j/\xs[j]?=some v/\j<xs.length/\-(xs.length:Int)<=i/\i<xs.length:=by
 unfold bJ at h
 cases e:eA xs.length i with
 |none=>rw[e]at h;cases h
 |some j=>
  rw[e]at h;obtain⟨h1,h2,h3,h4⟩:=ug e;exact⟨j,h1,h,h2,h3,h4⟩
theorem Bp{α:Type}{xs:List α}{j:Nat}{v:α}(h:xs[j]?=some v):bJ xs (j:Int)=some v:=by
 have hj:j<xs.length:=(JN.mp h).1
 have e:eA xs.length (j:Int)=some j:=by unfold eA;rw[Ja (by omega),Ja (by omega)];simp
 unfold bJ;rw[e];exact h
noncomputable def pd(b:Expr):Prop:=∀o i,subscripted b false o i=operate [o,i] (getItem o i)
noncomputable def ku(X:Cx)(r:R2):Prop:=
 ∀(value slice:Expr)(pins:List (Addr×Obj))(s:Shared)(σ:St)(H:Hp)(x y:V)(v u:Value)(Q:VK),Inv X pins σ H s->RelV x v->RelV y u->r x y H Q->
  subscripted slice false v u=operate [v,u] (getItem v u)->wpAny (model X.prog X.w) X.A (subscriptTail value slice v u) (EP X pins σ Q) X.xe s
noncomputable def jz(X:Cx)(id:String)(r:V->List V->Hp->VK->Prop):Prop:=
 ∀(pins:List (Addr×Obj))(s:Shared)(σ:St)(H:Hp)(x:V)(xs:List V)(v:Value)(us:List Value)(Q:VK),Inv X pins σ H s->RelV x v->Vals xs us->r x xs H Q->
  wpAny (model X.prog X.w) X.A (call (.builtin id) (v::us)) (EP X pins σ Q) X.xe s
section
variable{X:Cx}{a b:Expr}{ta tb:TE}{pos:Pos}
theorem vL{r:R2}(hr:ku X r)(ha:PE X a ta)(hb:PE X b tb)(hs:pd b):PE X (.Subscript a b pos) (iq r ta tb):=by intro pins s σ H Q I h;exact Subscript_ (oZ ha hb I h λv u s2 x y H2 I2 rx ry q=>hr a b pins s2 σ H2 x y v u Q I2 rx ry q (hs _ _))
noncomputable def C7(K:Frag):R2:=λx y H Q=>∃p xs i v,x=.ref p/\y=.int i/\SqL K H p xs/\bJ xs i=some v/\Q v H
noncomputable def FD(K:Frag):R2:=λx y H Q=>∃p xs i v,x=.ref p/\y=.int i/\SqT K H p xs/\bJ xs i=some v/\Q v H
noncomputable def B4:R2:=λx y H Q=>∃z i c,x=.str z/\y=.int i/\z.length<=sizeLine/\bJ z.cps.toList i=some c/\Q (.str ⟨#[c]⟩) H
theorem wj:ku X (C7 X.K):=by
 intro value slice pins s σ H x y v u Q I rx ry h hs;obtain⟨p,xs,i,z,rfl,rfl,hq,he,q⟩:=h;cases rx;obtain⟨t,rfl⟩:=ry;obtain⟨Nc,r,pl,hz⟩:=I.list hq;obtain⟨j,h1,h2,h3,h4,h5⟩:=qE he;obtain⟨w,ew,OC⟩:=r.get h2;have hl:=r.length;have hn:=h8;have fin:EP X pins σ Q w s:=⟨z,H,I,OC,q⟩;by_cases h0:0<=i
 ·have hj:i.toNat=j:=by rw[seqIndex_of h0 h5]at h1;exact JV h1
  exact item_listR pl.isList h0 (by omega) (by rw[hj];simpa using ew) fin hs
 ·have hj:(i+(Nc.toArray.size:Int)).toNat=j:=by rw[seqIndex_neg (by omega) h4]at h1;rw[Jj,←hl];exact JV h1
  exact subscriptTail_builtinR (x:=w) pl.isList.typeIs slot_list_getitem.lookup
   (wpAny_getItem_list_neg (Q:=λr s'=>r=w/\EP X pins σ Q r s') pl.isList (by omega) (by rw[Jj]<;>omega) (by omega) (by rw[hj];simpa using ew) ⟨rfl,fin⟩) hs
theorem Cj:ku X (FD X.K):=by
 intro value slice pins s σ H x y v u Q I rx ry h hs;obtain⟨p,xs,i,z,rfl,rfl,hq,he,q⟩:=h;cases rx;obtain⟨t,rfl⟩:=ry;obtain⟨Nc,r,pl,hz⟩:=I.tuple hq;obtain⟨j,h1,h2,h3,h4,h5⟩:=qE he;obtain⟨w,ew,OC⟩:=r.get h2;have hl:=r.length;have hn:=h8;have fin:EP X pins σ Q w s:=⟨z,H,I,OC,q⟩
 exact subscriptTail_builtinR (x:=w) pl.typeIs slot_tuple_getitem.lookup
  (getItem_tuple (j:=j) (Q:=λr s'=>r=w/\EP X pins σ Q r s') pl (by omega) (by omega) (by rw[Jj,←hl];exact h1) (by simpa using ew) ⟨rfl,fin⟩) hs
theorem Gw:ku X B4:=by
 intro value slice pins s σ H x y v u Q I rx ry h hs;obtain⟨z,i,c,rfl,rfl,hz,he,q⟩:=h;obtain⟨t,rfl⟩:=rx;obtain⟨t',rfl⟩:=ry;obtain⟨j,h1,h2,h3,h4,h5⟩:=qE he
 have hl:z.cps.toList.length=z.length:=by simp[Str.length]
 rw[hl]at h1 h4 h5;have hn:=h8
 exact tail_any (LY s z t) slot_str_getitem.lookup (getItem_str (c:=c) (by
  have e1:decide (i < -(2^63:Int))=false:=Jo (by omega);have e2:decide (i≥2^63)=false:=Jo (by omega)
  rw[e1,e2,M5]) (by rw[h1];simpa using h2) ⟨.str ⟨#[c]⟩,H,I.tok _,⟨_,rfl⟩,q⟩) hs
theorem zw(Nc:List Value)(n j:Nat)(u:Value):Obj.mapSeq (·.setIfInBounds j u) { cls:=.type "list",data:=.seq Nc.toArray n }={ cls:=.type "list",data:=.seq (Nc.set j u).toArray n }:=by simp[Obj.mapSeq]
theorem Inv.lst{pins:List (Addr×Obj)}{σ:St}{H:Hp}{s:Shared}{p:Addr}{xs:List V}(I:Inv X pins σ H s)(h:H p=some (.lst xs)) :
  ∃(Nc:List Value)(n:Nat),Vals xs Nc/\s.heap.get? p=some { cls:=.type "list",data:=.seq Nc.toArray n }/\xs.length<=sizeLine:=by
 obtain⟨z,Nc,n,r,e⟩:=I.hok p _ h;exact⟨Nc,n,r,e,z⟩
theorem Inv.lstUpd{pins:List (Addr×Obj)}{σ:St}{H:Hp}{s:Shared}{p:Addr}{xs ys:List V}{Nc Nr:List Value}{n n':Nat}{f:Obj->Obj}(I:Inv X pins σ H s)(h:H p=some (.lst xs))
  (ho:s.heap.get? p=some { cls:=.type "list",data:=.seq Nc.toArray n }) (hf:f { cls:=.type "list",data:=.seq Nc.toArray n }={ cls:=.type "list",data:=.seq Nr.toArray n' }) (r:Vals ys Nr) (hz:ys.length<=sizeLine) (t:Nat) :
  Inv X pins σ (ak H p (.lst ys)) { s with heap:=s.heap.update p f,toks:=t }:=by
 have e:(s.heap.update p f).get? p=some { cls:=.type "list",data:=.seq Nr.toArray n' }:=by
  rw[LR f ho (by rw[hf]<;>rfl),hf]
 refine I.write (x:=p) (e:=p) (by rw[h];trivial) (.inl rfl) (λb u hb q=>(Heap.get?_update_other _ _ (J7 hb)).trans q) ⟨_,e⟩ ?_;exact⟨hz,Nr,n',r,e⟩
noncomputable def yT:V->V->V->Hp->(Hp->Prop)->Prop:=λo i v H Q=>∃p xs k j,o=.ref p/\i=.int k/\H p=some (.lst xs)/\eA xs.length k=some j/\Q (ak H p (.lst (xs.set j v)))
theorem oa:oV X yT:=by
 intro pins s σ H o i v ov iv u Q I ro ri rv h;obtain⟨p,xs,k,j,rfl,rfl,hp,hj,q⟩:=h;cases ro;obtain⟨t,rfl⟩:=ri;obtain⟨Nc,n,r,ho,hz⟩:=I.lst hp;obtain⟨h1,h2,h3,h4⟩:=ug hj;have hl:=r.length;have hn:=h8
 have I':Inv X pins σ (ak H p (.lst (xs.set j v))) { s with heap:=s.heap.update p (Obj.mapSeq (·.setIfInBounds j u)) }:=
  I.lstUpd hp ho (zw Nc n j u) (r.set rv j) (by rw[Jg];exact hz) s.toks
 by_cases h0:0<=k
 ·have hk:k.toNat=j:=by rw[seqIndex_of h0 h4]at h1;exact JV h1
  exact PySem.W.ki_setAt ho h0 (by omega) (by rw[Jj,←hl];exact h4) (by rw[hk];exact⟨_,I',q⟩)
 ·have hk:(k+(Nc.toArray.size:Int)).toNat=j:=by rw[seqIndex_neg (by omega) h3]at h1;rw[Jj,←hl];exact JV h1
  exact PySem.W.ki_setBack ho (by omega) (by rw[Jj,←hl];exact h3) (by omega) (by rw[hk];exact⟨_,I',q⟩)
theorem yF(lo hi:Option Int)(n:Nat):(sliceBounds lo hi none n).1=((HT.sIx n 0 lo:Nat):Int)/\(sliceBounds lo hi none n).2.1=((HT.sIx n n hi:Nat):Int)/\(sliceBounds lo hi none n).2.2=1:=by
 refine⟨?_,?_,rfl⟩
 ·cases lo with
  |none=>simp[sliceBounds,HT.sIx]
  |some i=>
   simp only[sliceBounds,HT.sIx,Option.getD_none,show (1:Int)>0 by decide,La];by_cases h:i<0
   ·simp only[h,La]<;>omega
   ·simp only[h,M3]<;>omega
 ·cases hi with
  |none=>simp[sliceBounds,HT.sIx]
  |some i=>
   simp only[sliceBounds,HT.sIx,Option.getD_none,show (1:Int)>0 by decide,La];by_cases h:i<0
   ·simp only[h,La]<;>omega
   ·simp only[h,M3]<;>omega
theorem yK(Nc:List Value)(lo hi:Option Int):slicePick Nc.toArray lo hi none=((Nc.drop (HT.sIx Nc.length 0 lo)).take (HT.sIx Nc.length Nc.length hi-HT.sIx Nc.length 0 lo)).toArray:=by obtain⟨h1,h2,h3⟩:=yF lo hi Nc.toArray.size;unfold slicePick;rw[h1,h2,h3];simp only[sliceRange_one,pick_run,Jj]<;>rfl
noncomputable def sV(K:Frag):V->Option Int->Option Int->Hp->VK->Prop:=λx lo hi H Q=>∃a xs,x=.ref a/\SqL K H a xs/\∀p,H p=none->Q (.ref p) (ak H p (.lst (iy xs lo hi)))
theorem sl_list:SlR X (sV X.K):=by
 intro pins s σ H x v vl vu lo hi sl Q I rx hs pl pu h;obtain⟨a,xs,rfl,hx,q⟩:=h;cases rx;obtain⟨Nc,r,ht,hz⟩:=I.list hx;have hlen:=r.length;refine⟨"list",_,slot_list_getitem.lookup,ht.isList.typeIs,?_⟩;refine wpAny_getItem_list_slice ht.isList hs pl pu .none (by simp) ?_ (by rw[Jj]<;>omega);rw[yK,←hlen];refine⟨.ref s.heap.objs.size,_,I.laid (t':=s.toks) (o:=.lst (iy xs lo hi)) (λb ob q=>IX _ q) (Jc _) ?_,rfl,q _ (I.hok.fresh (Jc _))⟩;exact⟨JE (wc xs lo hi) hz,_,0,(r.drop (HT.sIx xs.length 0 lo)).take (HT.sIx xs.length xs.length hi-HT.sIx xs.length 0 lo),Jh _ rfl⟩
noncomputable def gj:V->Bool
 |.non=>true
 |.bl _=>true
 |.int _=>true
 |.str _=>true
 |_=>false
noncomputable def gJ:V->V->Bool
 |.non,.non=>true
 |.bl a,.bl b=>a==b
 |.bl a,.int b=>(if a then 1 else 0)==b
 |.int a,.bl b=>a==(if b then 1 else 0)
 |.int a,.int b=>a==b
 |.str a,.str b=>a==b
 |_,_=>false
theorem Cb{A:Around}{s:Shared}{y x:V}{u v:Value}(ry:RelV y u)(rx:RelV x v)(fy:gj y=true)(fx:gj x=true):SeqAt.EqAt A s u v (gJ y x):=by
 cases y with
 |non=>
  cases ry
  cases x with
  |non=>cases rx;exact SeqAt.EqAt.same _
  |bl b=>cases rx;exact SeqAt.EqAt.none_bool b
  |int b=>obtain⟨t,rfl⟩:=rx;exact SeqAt.EqAt.none_int b t
  |str b=>obtain⟨t,rfl⟩:=rx;exact SeqAt.EqAt.none_str b t
  |_=>exact absurd (show false=true from fx) JJ
 |bl a=>
  cases ry
  cases x with
  |non=>cases rx;exact SeqAt.EqAt.bool_none a
  |bl b=>cases rx;exact SeqAt.EqAt.bool_bool a b
  |int b=>obtain⟨t,rfl⟩:=rx;exact SeqAt.EqAt.bool_int a b t
  |str b=>obtain⟨t,rfl⟩:=rx;exact SeqAt.EqAt.bool_str a b t
  |_=>exact absurd (show false=true from fx) JJ
 |int a=>
  obtain⟨t',rfl⟩:=ry
  cases x with
  |non=>cases rx;exact SeqAt.EqAt.int_none a t'
  |bl b=>cases rx;exact SeqAt.EqAt.int_bool a t' b
  |int b=>obtain⟨t,rfl⟩:=rx;exact SeqAt.EqAt.int_int a t' b t
  |str b=>obtain⟨t,rfl⟩:=rx;exact SeqAt.EqAt.int_str a t' b t
  |_=>exact absurd (show false=true from fx) JJ
 |str a=>
  obtain⟨t',rfl⟩:=ry
  cases x with
  |non=>cases rx;exact SeqAt.EqAt.str_none a t'
  |bl b=>cases rx;exact SeqAt.EqAt.str_bool a t' b
  |int b=>obtain⟨t,rfl⟩:=rx;exact SeqAt.EqAt.str_int a t' b t
  |str b=>obtain⟨t,rfl⟩:=rx;exact SeqAt.EqAt.str_str a t' b t
  |_=>exact absurd (show false=true from fx) JJ
 |_=>exact absurd (show false=true from fy) JJ
noncomputable def eh(x:V)(u:Value):Bool:=match u with
 |.none=>gJ .non x
 |.bool b=>gJ (.bl b) x
 |.int i _=>gJ (.int i) x
 |.str z _=>gJ (.str z) x
 |_=>false
theorem uC{x y:V}{u:Value}(r:RelV y u)(f:gj y=true):eh x u=gJ y x:=by
 cases y with
 |non=>cases r;rfl
 |bl b=>cases r;rfl
 |int i=>obtain⟨t,rfl⟩:=r;rfl
 |str z=>obtain⟨t,rfl⟩:=r;rfl
 |_=>exact absurd (show false=true from f) JJ
theorem j9{x:V}:∀{xs:List V}{us:List Value},Vals xs us->xs.all gj=true->us.any (eh x)=xs.any λy=>gJ y x
 |_,_,.nil,_=>rfl
 |y::xs,u::us,.cons r t,f=>by rw[Mo,JR]at f;rw[LJ,LJ,uC r f.1,j9 t f.2]
theorem kC{A:Around}{s:Shared}{x:V}{v:Value}(rx:RelV x v)(fx:gj x=true):∀{xs:List V}{us:List Value},Vals xs us->xs.all gj=true->∀u∈us,SeqAt.EqAt A s u v (eh x u)
 |_,_,.nil,_=>λu hu=>by cases hu
 |y::xs,u::us,.cons r t,f=>λu' hu=>by
  rw[Mo,JR]at f;rcases Jb.mp hu with rfl|hu
  ·rw[uC r f.1];exact Cb r rx f.1 fx
  ·exact kC rx fx t f.2 u' hu
noncomputable def fC(x:V)(xs:List V):Bool:=xs.any λy=>gJ y x
noncomputable def vc(K:Frag)(neg:Bool):R2:=λx y H Q=>∃p xs,y=.ref p/\(SqL K H p xs\/SqT K H p xs)/\gj x=true/\xs.all gj=true/\Q (.bl (if neg then !fC x xs else fC x xs)) H
theorem tE:bO X (compareOp .In) (vc X.K false):=by
 intro pins s σ H x y v u Q I rx ry h;obtain⟨p,xs,rfl,hq,fx,fs,q⟩:=h;cases ry;rcases hq with hq|hq
 ·obtain⟨Nc,r,pl,hz⟩:=I.list hq;refine SeqAt.in_listAt (eh x) pl.isList (λw hw=>kC rx fx r fs w (by simpa using hw)) ⟨.bl _,H,I,rfl,?_⟩;rw[show Nc.toArray.any (eh x)=Nc.any (eh x)by simp,j9 r fs];exact q
 ·obtain⟨Nc,r,pl,hz⟩:=I.tuple hq;refine SeqAt.in_tupleAt (eh x) pl (λw hw=>kC rx fx r fs w (by simpa using hw)) ⟨.bl _,H,I,rfl,?_⟩;rw[show Nc.toArray.any (eh x)=Nc.any (eh x)by simp,j9 r fs];exact q
theorem Gf:bO X (compareOp .NotIn) (vc X.K true):=by
 intro pins s σ H x y v u Q I rx ry h;obtain⟨p,xs,rfl,hq,fx,fs,q⟩:=h;cases ry;rcases hq with hq|hq
 ·obtain⟨Nc,r,pl,hz⟩:=I.list hq;refine SeqAt.notIn_listAt (eh x) pl.isList (λw hw=>kC rx fx r fs w (by simpa using hw)) ⟨.bl _,H,I,rfl,?_⟩;rw[show Nc.toArray.any (eh x)=Nc.any (eh x)by simp,j9 r fs];exact q
 ·obtain⟨Nc,r,pl,hz⟩:=I.tuple hq;refine SeqAt.notIn_tupleAt (eh x) pl (λw hw=>kC rx fx r fs w (by simpa using hw)) ⟨.bl _,H,I,rfl,?_⟩;rw[show Nc.toArray.any (eh x)=Nc.any (eh x)by simp,j9 r fs];exact q
theorem qa:fH X (.builtin "len") (λxs H Q=>∃p ys,xs=[.ref p]/\(SqL X.K H p ys\/SqT X.K H p ys)/\Q (.int ys.length) H):=by
 intro pins s σ H xs us Q I r h;obtain⟨p,ys,rfl,hq,q⟩:=h;obtain⟨u,rfl,rx⟩:=jr r;cases rx;have hn:=h8;rcases hq with hq|hq
 ·obtain⟨Nc,r',pl,hz⟩:=I.list hq;have hlen:=r'.length;exact Calls.call_len_list pl.isList (by simp only[Jj]<;>omega) ⟨.int ys.length,H,I.tok _,⟨s.toks+1,by rw[Jj,hlen]⟩,q⟩
 ·obtain⟨Nc,r',pl,hz⟩:=I.tuple hq;have hlen:=r'.length;exact len_tuple pl (by simp only[Jj]<;>omega) ⟨.int ys.length,H,I.tok _,⟨s.toks+1,by rw[Jj,hlen]⟩,q⟩
theorem HE:fH X (.builtin "len") (λxs H Q=>∃z,xs=[.str z]/\z.length<=sizeLine/\Q (.int z.length) H):=by
 intro pins s σ H xs us Q I r h;obtain⟨z,rfl,hz,q⟩:=h;obtain⟨u,rfl,t,rfl⟩:=jr r;have hn:=h8;exact len_str (by omega) ⟨.int z.length,H,I.tok _,⟨_,rfl⟩,q⟩
theorem oP:fH X (.type "tuple") (λxs H Q=>∃p ys,xs=[.ref p]/\((SqL X.K H p ys/\∀l,H l=none->Q (.ref l) (ak H l (.tup ys)))\/(SqT X.K H p ys/\Q (.ref p) H))):=by
 intro pins s σ H xs us Q I r h;obtain⟨p,ys,rfl,h⟩:=h;obtain⟨u,rfl,rx⟩:=jr r;cases rx;rcases h with⟨hq,q⟩|⟨hq,q⟩
 ·obtain⟨Nc,r',pl,hz⟩:=I.list hq;have hlen:=r'.length;refine call_tuple_list pl.isList (λh' kp=>?_) (by simp only[Jj]<;>omega);have I1:Inv X pins σ H { s with heap:=h' }:=I.kept (t':=s.toks) kp
  have I2:Inv X pins σ (ak H h'.objs.size (.tup ys)) { s with heap:=h'.push { cls:=.type "tuple",data:=.seq Nc.toArray } }:=
   I1.laid (t':=s.toks) (λb o e=>IX _ e) (Jc _) (show ObjOk X.prog X.w _ _ _ (.tup ys)from ⟨hz,Nc,r',IsTupD.new _ _⟩)
  exact⟨.ref h'.objs.size,_,I2,rfl,q _ (I1.hok.fresh (Jc _))⟩
 ·obtain⟨Nc,r',pl,hz⟩:=I.tuple hq;exact call_tuple_same pl ⟨.ref p,H,I,rfl,q⟩
noncomputable def pL(K:Frag)(T:String)(x:V)(H:Hp):Prop:=match x with
 |.str _=>T="str"
 |.int _=>T="int"
 |.ref p=>(T="list"/\∃xs,SqL K H p xs)\/(T="tuple"/\((∃xs,H p=some (.tup xs))\/∃o,K.lookup p=some o/\o.cls=.type "tuple"/\o.dict=none)) \/
   (T="dict"/\((∃Ng,H p=some (.dK Ng))\/∃Ng,H p=some (.dT Ng)))\/(T="set"/\∃S n,H p=some (.set S n))
 |_=>False
theorem wM{pins:List (Addr×Obj)}{σ:St}{H:Hp}{s:Shared}{T:String}{x:V}{v:Value}(I:Inv X pins σ H s)(r:RelV x v)(ty:pL X.K T x H) :
  s.TypeIs v T/\∀a,v=.ref a->∃ob,s.heap.get? a=some ob/\ob.dict=none:=by
 cases x with
 |str z=>
  obtain⟨t,rfl⟩:=r;cases (show T="str" from ty);exact⟨LY s z t,λ_ e=>nomatch e⟩
 |int i=>
  obtain⟨t,rfl⟩:=r;cases (show T="int" from ty);exact⟨Ms s i t,λ_ e=>nomatch e⟩
 |ref p=>
  cases r;rcases ty with⟨rfl,xs,hq⟩|⟨rfl,⟨xs,hk⟩|⟨o,hk,hc,hd⟩⟩|⟨rfl,hk⟩|⟨rfl,S,n,hk⟩
  ·obtain⟨Nc,_,pl,_⟩:=I.list hq;refine⟨pl.isList.typeIs,λa e=>?_⟩;cases e;obtain⟨o,n,e,c,hd,_⟩:=pl;exact⟨o,e,hd⟩
  ·obtain⟨_,_,_,o,e,⟨c,hd⟩,_⟩:=I.hok p _ hk;refine⟨⟨o,e,c⟩,λa e2=>?_⟩;cases e2;exact⟨o,e,hd⟩
  ·refine⟨⟨o,I.kIn p o hk,hc⟩,λa e=>?_⟩;cases e;exact⟨o,I.kIn _ o hk,hd⟩
  ·have z:∃o,s.heap.get? p=some o/\o.ExactDict:=by
    rcases hk with⟨Ng,hk⟩|⟨Ng,hk⟩
    ·obtain⟨_,_,_,_,o,_,_,e,ex,_⟩:=I.hok p _ hk;exact⟨o,e,ex⟩
    ·obtain⟨_,_,_,_,o,_,_,e,ex,_⟩:=I.hok p _ hk;exact⟨o,e,ex⟩
   obtain⟨o,e,ex⟩:=z;refine⟨⟨o,e,ex.1⟩,λa e2=>?_⟩;cases e2;exact⟨o,e,ex.2.1⟩
  ·obtain⟨o,_,_,_,e,ex,_⟩:=I.hok p _ hk;refine⟨⟨o,e,ex.1⟩,λa e2=>?_⟩;cases e2;exact⟨o,e,ex.2.1⟩
 |_=>exact False.elim ty
noncomputable def B9(K:Frag)(T:String)(r:V->List V->Hp->VK->Prop)(to:TE):TE:=λσ H Q=>to σ H λx H1=>pL K T x H1/\r x [] H1 Q
noncomputable def D0(K:Frag)(T:String)(r:V->List V->Hp->VK->Prop)(to:TE)(t:TA):TE:=λσ H Q=>to σ H λx H1=>pL K T x H1/\t σ H1 λxs H2=>r x xs H2 Q
variable{o e:Expr}{es:List Expr}{to:TE}{t:TA}{name:Str}{apos Ni:Pos}{T id:String}{r:V->List V->Hp->VK->Prop}
theorem Bk(pa:PlainAttrs T)(slot:Slot T name id)(S5:typeOf (.builtin id)=pure (.type "method_descriptor"))(hm:jz X id r)(ho:PE X o to)
  (Nm:attributeBase o name X.env (eval o X.env)=eval o X.env:=by rfl) (Nn:(apos.endLine==Ni.line)=true:=by rfl):PE X (.Call (.Attribute o name apos) [] [] Ni) (B9 X.K T r to):=by
 intro pins s σ H Q I h;refine wpAny_Call_method0_late Nm Nn (aw (ho pins s σ H _ I h) λv s1 Nb=>?_);obtain⟨x,H1,I1,r1,ty,q1⟩:=Nb;obtain⟨h1,h2⟩:=wM I1 r1 ty;exact⟨T,id,pa,slot,S5,h1,h2,Calls.callWith_builtin rfl (PySem.evalArgs_none (hm pins s1 σ H1 x [] v [] Q I1 r1 .nil q1))⟩
theorem gv(pa:PlainAttrs T)(slot:Slot T name id)(S5:typeOf (.builtin id)=pure (.type "method_descriptor"))(hm:jz X id r)(ho:PE X o to)(ha:PA X (e::es) t)
  (Nm:attributeBase o name X.env (eval o X.env)=eval o X.env:=by rfl)
  (NI:((backTo Ni (starEach (e::es) X.env)).all (λx=>!x.1)&&(backToKw Ni (keywordEach [] X.env)).all (λx=>x.1.isSome)
   && decide ((e::es).length+([]:List Keyword).length+(if ([]:List Keyword).isEmpty then 0 else 1)<30))=true:=by rfl)
  (Nn:(apos.endLine==Ni.line)=true:=by rfl) (hs:starEach (e::es) X.env=(false,eval e X.env)::starEach es X.env:=by rfl) (Qs:(backTo Ni (starEach es X.env)).any (·.1)=false:=by rfl) :
  PE X (.Call (.Attribute o name apos) (e::es) [] Ni) (D0 X.K T r to t):=by
 intro pins s σ H Q I h;refine wpAny_Call_method_late Nm NI Nn rfl (aw (ho pins s σ H _ I h) λv s1 Nb=>?_);obtain⟨x,H1,I1,r1,ty,q1⟩:=Nb;obtain⟨h1,h2⟩:=wM I1 r1 ty;refine⟨T,id,pa,slot,S5,h1,h2,?_⟩;have hA:=ha Ni pins s1 σ H1 _ I1 q1;rw[hs]at hA ⊢;refine Calls.callWith_builtin (by show (false ||(backTo Ni (starEach es X.env)).any (·.1))=false;rw[Qs]<;>rfl) (Calls.evalArgs_plain ?_)
 exact aw hA λus s2 NN=>by obtain⟨vs,H2,I2,r2,q2⟩:=NN;exact hm pins s2 σ H2 x vs v us Q I2 r1 r2 q2
end
noncomputable def lh(X:Cx)(id:String)(r:V->List V->Hp->VK->Prop):Prop:=
 ∀(pins:List (Addr×Obj))(s:Shared)(σ:St)(H:Hp)(x:V)(xs:List V)(v:Value)(us:List Value)(Q:VK),Inv X pins σ H s->RelV x v->Vals xs us->r x xs H Q->
  wpAny (model X.prog X.w) X.A (call (.builtin id) (v::us)) (EP X pins σ Q) X.xe s
theorem Vals.one:∀{x:V}{us:List Value},Vals [x] us->∃u,us=[u]/\RelV x u
 |_,_,.cons r .nil=>⟨_,rfl,r⟩
theorem Vals.zero:∀{us:List Value},Vals [] us->us=[]
 |_,.nil=>rfl
theorem Vals.dropLast{xs:List V}{us:List Value}(h:Vals xs us):Vals xs.dropLast us.dropLast:=by
 induction h with
 |nil=>exact .nil
 |cons r t ih=>
  cases t with
  |nil=>exact .nil
  |cons q t'=>exact .cons r ih
theorem Vals.rep{xs:List V}{us:List Value}(h:Vals xs us):∀k:Nat,Vals (List.replicate k xs).flatten (List.replicate k us).flatten
 |0=>.nil
 |k+1=>by rw[Kh,Kh,JK,JK];exact Vals.append h (Vals.rep h k)
theorem EG{α:Type}(l:List α):l.eraseIdx (l.length-1)=l.dropLast:=by
 induction l with
 |nil=>rfl
 |cons a r ih=>
  cases r with
  |nil=>rfl
  |cons b r=>
   have e:(a::b::r).length-1=((b::r).length-1)+1:=by
    have h1:(a::b::r).length=r.length+2:=rfl;have h2:(b::r).length=r.length+1:=rfl;omega
   rw[e,List.eraseIdx_cons_succ,ih]
   all_goals rfl
theorem qh(Nc:List Value):∀(k:Nat)(acc:List Value),
  List.foldl (λx1 x2=>x1++x2) acc.toArray (List.replicate k Nc.toArray)=(acc++(List.replicate k Nc).flatten).toArray
 |0,acc=>by simp
 |k+1,acc=>by
  have e:acc.toArray++Nc.toArray=(acc++Nc).toArray:=by simp
  have e2:(acc++Nc)++(List.replicate k Nc).flatten=acc++(List.replicate (k+1) Nc).flatten:=by rw[Kh,JK,Jk]
  rw[←e2,←qh Nc k (acc++Nc),←e,Kh,List.foldl_cons]
section
variable{X:Cx}{pins:List (Addr×Obj)}{σ:St}{H:Hp}{s:Shared}{l:Addr}{xs ys:List V}
theorem Inv.lset{Nc Nr:List Value}{n:Nat}{f:Array Value->Array Value}{t':Nat}(I:Inv X pins σ H s)(hH:H l=some (.lst xs))
  (e:s.heap.get? l=some { cls:=.type "list",data:=.seq Nc.toArray n }) (hf:f Nc.toArray=Nr.toArray) (hv:Vals ys Nr) (hz:ys.length<=sizeLine) :
  Inv X pins σ (ak H l (.lst ys)) { s with heap:=s.heap.update l (Obj.mapSeq f),toks:=t' }:=by
 have q:=PySem.IsL.update e f;rw[hf]at q;refine I.write (x:=l) (e:=l) (by rw[hH];exact trivial) (.inl rfl) (λb' u hb hu=>(Heap.get?_update_other s.heap (Obj.mapSeq f) (J7 hb)).trans hu) ⟨_,q⟩ ?_;exact⟨hz,Nr,_,hv,q⟩
theorem Inv.lnew{Nc:List Value}{t':Nat}(I:Inv X pins σ H s)(hv:Vals ys Nc)(hz:ys.length<=sizeLine) :
  Inv X pins σ (ak H s.heap.objs.size (.lst ys)) { s with heap:=s.heap.push { cls:=.type "list",data:=.seq Nc.toArray },toks:=t' }:=
 I.laid (λ_ _ q=>IX _ q) (Jc _) ⟨hz,Nc,0,hv,Jh _ rfl⟩
theorem Inv.fresh(I:Inv X pins σ H s):H s.heap.objs.size=none:=I.hok.fresh (Jc _)
theorem Inv.lstM(I:Inv X pins σ H s)(hH:H l=some (.lst xs)):xs.length<=sizeLine/\∃(Nc:List Value)(n:Nat),Vals xs Nc/\xs.length=Nc.length/\s.heap.get? l=some { cls:=.type "list",data:=.seq Nc.toArray n }:=by obtain⟨z,Nc,n,r,e⟩:=I.hok l _ hH;exact⟨z,Nc,n,r,r.length,e⟩
theorem wu{n:Nat}(h:n<=sizeLine):Builtin.List.listTooLong n=false:=by unfold Builtin.List.listTooLong;exact Jo (by omega)
end
section
variable{X:Cx}
noncomputable def CS:V->List V->Hp->VK->Prop:=λx vs H Q=>∃l xs y,x=.ref l/\vs=[y]/\H l=some (.lst xs)/\xs.length<sizeLine/\Q .non (ak H l (.lst (xs++[y])))
theorem mM:lh X "list.append" CS:=by intro pins s σ H x vs v us Q I rx rv h;obtain⟨l,xs,y,rfl,rfl,hH,hz,q⟩:=h;cases rx;obtain⟨u,rfl,ru⟩:=rv.one;obtain⟨z,Nc,n,r,hl,e⟩:=I.lstM hH;refine Ku F.slot_list_append ⟨_,e,rfl⟩ F.entry_list_append (F.args_list_append_2 _ _) (PySem.list_append l Nc.toArray n u (by rw[Jj];omega)) ⟨e,?_⟩;refine⟨.non,_,I.lset (Nr:=Nc++[u]) hH e (by simp) (r.append (.cons ru .nil)) ?_,rfl,q⟩;rw[IW,LS];omega
noncomputable def tR:V->List V->Hp->VK->Prop:=λx vs H Q=>∃l b xs zs,x=.ref l/\vs=[.ref b]/\H l=some (.lst xs)/\H b=some (.lst zs)/\xs.length+zs.length<=sizeLine/\Q .non (ak H l (.lst (xs++zs)))
theorem xS:lh X "list.extend" tR:=by
 intro pins s σ H x vs v us Q I rx rv h;obtain⟨l,b,xs,zs,rfl,rfl,hH,hB,hz,q⟩:=h;cases rx;obtain⟨u,rfl,ru⟩:=rv.one;cases ru;obtain⟨z,Nc,n,r,hl,e⟩:=I.lstM hH;obtain⟨z2,NO,n2,r2,NS,e2⟩:=I.lstM hB
 have hsz:Nc.toArray.size+NO.toArray.size<=sizeLine:=by rw[Jj,Jj];omega
 have Pq:¬ (!Nc.toArray.isEmpty&&Builtin.List.listTooLong (Nc.toArray.size+NO.toArray.size))=true:=by rw[wu hsz,Bool.and_false];exact JJ
 refine Ku F.slot_list_extend ⟨_,e,rfl⟩ F.entry_list_extend (F.args_list_extend_2 _ _)
  (AutoSeq1.list_extend_list_list_0 l Nc.toArray n b NO.toArray n2 Pq (by rw[Jj];omega) (by omega)) ⟨e,e2,?_⟩
 refine⟨.non,_,I.lset (Nr:=Nc++NO) hH e (by simp) (r.append r2) ?_,rfl,q⟩;rw[IW];omega
noncomputable def EF:V->List V->Hp->VK->Prop:=λx vs H Q=>∃l xs y,x=.ref l/\vs=[]/\H l=some (.lst xs)/\xs[xs.length-1]?=some y/\Q y (ak H l (.lst xs.dropLast))
theorem Ft:lh X "list.pop" EF:=by
 intro pins s σ H x vs v us Q I rx rv h;obtain⟨l,xs,y,rfl,rfl,hH,hy,q⟩:=h;cases rx;have hus:=rv.zero;subst hus;obtain⟨z,Nc,n,r,hl,e⟩:=I.lstM hH;obtain⟨u,hu,ru⟩:=r.get hy
 have Ph:Nc.toArray[Nc.toArray.size-1]?=some u:=by show Nc.toArray[Nc.length-1]?=some u;rw[←MT,←hl];exact hu
 refine Ku F.slot_list_pop ⟨_,e,rfl⟩ F.entry_list_pop (F.args_list_pop_1 _) (MeetsSeq.list_pop_last l Nc.toArray n u Ph (by rw[Jj];omega)) ⟨e,?_⟩;refine⟨y,_,I.lset (Nr:=Nc.dropLast) hH e ?_ r.dropLast ?_,ru,q⟩
 ·show Nc.toArray.eraseIdxIfInBounds (Nc.toArray.size-1)=Nc.dropLast.toArray;rw[Jj,List.eraseIdxIfInBounds_toArray,EG]
 ·rw[List.length_dropLast];omega
noncomputable def Bq:R2:=λx y H Q=>∃l b xs zs,x=.ref l/\y=.ref b/\H l=some (.lst xs)/\H b=some (.lst zs)/\xs.length+zs.length<=sizeLine/\∀p,H p=none->Q (.ref p) (ak H p (.lst (xs++zs)))
theorem Ez:bO X (binaryOp .Add) Bq:=by
 intro pins s σ H x y v u Q I rx ry h;obtain⟨l,b,xs,zs,rfl,rfl,hH,hB,hz,q⟩:=h;cases rx;cases ry;obtain⟨z,Nc,n,r,hl,e⟩:=I.lstM hH;obtain⟨z2,NO,n2,r2,NS,e2⟩:=I.lstM hB;refine PySem.P.add_list e e2 ?_ (by rw[Jj,Jj];omega)
 have ea:Nc.toArray++NO.toArray=(Nc++NO).toArray:=by simp
 rw[ea];exact⟨.ref _,_,I.lnew (t':=s.toks) (r.append r2) (by rw[IW];omega),rfl,q _ I.fresh⟩
noncomputable def Av:R2:=λx y H Q=>∃l k xs,x=.ref l/\y=.int k/\H l=some (.lst xs)/\-(2^63)<=k/\k<2^63/\xs.length*k.toNat<=sizeLine /\
 ∀p,H p=none->Q (.ref p) (ak H p (.lst (List.replicate k.toNat xs).flatten))
theorem pN{α:Type}(xs:List α)(k:Nat):(List.replicate k xs).flatten.length=k*xs.length:=by
 induction k with
 |zero=>simp
 |succ k ih=>rw[Kh,JK,IW,ih,Mx,Nat.add_comm]
theorem wD:bO X (binaryOp .Mult) Av:=by
 intro pins s σ H x y v u Q I rx ry h;obtain⟨l,k,xs,rfl,rfl,hH,h1,h2,hz,q⟩:=h;cases rx;obtain⟨t,rfl⟩:=ry;obtain⟨z,Nc,n,r,hl,e⟩:=I.lstM hH
 have hlen:Nc.toArray.size*k.toNat<=sizeLine:=by rw[Jj,←hl];exact hz
 have NT:¬ Nc.toArray.size*k.toNat>(2^63-1)/8:=by
  have:(sizeLine:Nat)<=(2^63-1)/8:=by decide
  omega
 have P7:¬ (!Builtin.List.listFitsIndex k)=true:=by rw[fitsIndex_both h1 h2];exact JJ
 have Pq:¬ Builtin.List.listTooLong (Nc.toArray.size*k.toNat)=true:=by rw[wu hlen];exact JJ
 have OD:List.foldl (λx1 x2=>x1++x2) #[] (List.replicate (if Nc.toArray.isEmpty=true then 0 else k.toNat) Nc.toArray)=(List.replicate k.toNat Nc).flatten.toArray:=by
  have f0:∀m:Nat,List.foldl (λx1 x2=>x1++x2) #[] (List.replicate m Nc.toArray)=(List.replicate m Nc).flatten.toArray:=λm=>by have:=qh Nc m [];rw[Lm]at this;exact this
  rw[f0]
  cases Nc with
  |nil=>simp
  |cons a r'=>rw[I0 (by simp)]
 refine wpAny_binaryOp_repeat_ref (T:="list") (U:="int") (by decide) ⟨_,e,rfl⟩ (λs'=>Ms s' k t) noFill_list_mul F.fills_int_mul LZ repeat_list F.slot_int_index.lookup
  (Ku LZ (Ms s k t) F.entry_int_rmul (F.args_int_rmul_2 _ _) (int___rmul___int_list k t l Nc.toArray n)
   ⟨e,rfl,⟨_,e,rfl⟩,Ku F.slot_list_mul ⟨_,e,rfl⟩ F.entry_list_mul (F.args_list_mul_2 _ _) (AutoListH.list___mul___list_int_3 l Nc.toArray n k t P7 NT Pq) ⟨e,?_⟩⟩)
 rw[OD];exact⟨.ref _,_,I.lnew (t':=s.toks) (r.rep k.toNat) (by rw[pN,Mz];exact hz),rfl,q _ I.fresh⟩
end
end L2
namespace Att
open PySem PySem.W PySem.Calls PyProof.Rows
theorem zO{P:Params}{h:Heap}:∀(ns:List Int)(vs:List Value),WellAll P h vs (ns.map WData.int)->IntsAre vs ns:=by
 intro ns
 induction ns with
 |nil=>
  intro vs w;rw[M8]at w;cases w;exact .nil
 |cons n ns ih=>
  intro vs w;rw[Jq]at w
  cases w with
  |cons a b=>
   cases a;exact .cons _ _ (ih _ b)
theorem DD{l:OpenLaw}{n:Nat}(hn:l.most=some n){P:Params}{h:Heap}{args:List WData}{vals:List Value}
  (P8:l.row.toRowW.claim.pre args=true) (QR:WellAll P h vals args) :
  ∃a vs ns,vals=[Value.ref a]/\args=[WData.list (ns.map WData.int)]/\h.get? a=some { cls:=.type "list",data:=.seq vs.toArray }/\IntsAre vs ns/\ns.length<=n:=by
 have hsh:WShape.hasAll [] args [.list .int]=true:=(pre_splitW P8).1;have hc:l.pre.holds [] { args:=args }=true:=(pre_splitW P8).2;obtain⟨d,r,rfl,h1,h2⟩:=hasAllW_cons hsh;obtain rfl:=hasAllW_nil h2;obtain⟨xs,rfl,h3⟩:=hasW_list h1;obtain⟨ns,rfl⟩:=items_int h3
 have hlen:ns.length<=n:=by
  unfold OpenLaw.pre at hc
  have h4:(WTm.not (.lt (.lit (.int (n:Int))) (.len (.arg 0)))).holds [] { args:=[.list (ns.map .int)] }=true:=by have h4:=(holds_andW hc).1;rw[hn]at h4;exact h4
  have h5:=condW_of h4 (w_not (w_lt w_lit (w_len_list (w_arg rfl))));rw[mn]at h5;refine Nat.le_of_not_lt λq=>?_
  have q':(n:Int)<((ns.length:Nat):Int):=by omega
  first
   |(rw[JP q']at h5;exact absurd h5 (by decide))
   |(simp at h5;omega)
 cases QR with
 |cons w1 w2=>
  cases w2
  cases w1 with
  |list ho Qt=>exact⟨_,_,ns,rfl,rfl,ho,zO ns _ Qt,hlen⟩
theorem Eg(l:OpenLaw)(args:List WData):l.row.toRowW.claim.post args (.bool true) args=true:=
 postW_of (r:=l.row.toRowW) (X:=(true==true))
  (show WShape.has [] (.bool true) .bool=true by first|rfl|decide|simp[WShape.has,WShape.arms,WShape.armsAll])
  (show (WTm.eq .res (.lit (.bool true))).value [] { args:=args,res:=some (.bool true),after:=args }=some (.bool (true==true))from w_eq_bool (w_res rfl) w_lit) rfl
theorem attach_call{l:OpenLaw}{n:Nat}{q:Program}{loose:List Str}{XP:(Str->Option Value)->Heap->Prop}{YP:World->Heap->Prop}{d:DefRec}
  (hn:l.most=some n) (Rm:d.params.defaults=[])
  (call:∀(w:World)(s₀ s₁:Shared)(mg mb:Str->Option Value)(fa:Addr)(o:Obj)(pm cd doc:Value)(a:Addr)(vs:List Value)(ns:List Int),
   Ground q loose [] XP w s₀ mg mb s₁.heap->YP w s₁.heap->
   s₁.heap.get? fa=some o->o.data=.func (docDef d.name d.params d.body d.scope pm cd doc)->s₁.heap.CodeRec cd d.name->mg d.name=some (.ref fa)->
   s₁.heap.get? a=some { cls:=.type "list",data:=.seq vs.toArray }->IntsAre vs ns->ns.length<=n->s₁.gens=#[]->
   codeAny (model l.prog w) callerA (.call (.ref fa) ⟨[.ref a],[]⟩) (λr s'=>r=.ok (.ret (.bool true))/\OldK s₁.heap s'.heap/\s'.os=s₁.os/\AllBare s'.gens) s₁) :
  WalkO q loose XP YP l.row.toRowW d [] (λf vs=>PySem.call f vs):=by
 intro w s₀ s₁ mg mb G Y fa o pm cd doc dV kV ho hd Np hD Qu hg args vals as P8 hlay hrd QR hlo;obtain rfl:dV=.none:=Dflts.none hD Rm;obtain rfl:kV=.none:=Dflts.noKw hD;obtain⟨a,vs,ns,rfl,rfl,Qv,hints,hlen⟩:=DD hn P8 QR;refine enter_call (Mv (call w s₀ s₁ mg mb fa o pm cd doc a vs ns G Y ho (fd_plain hd) Np Qu Qv hints hlen hg) λr s' hq=>?_);obtain⟨rfl,h2,h3,h4⟩:=hq;exact⟨.inl ⟨.bool true,.bool true,[],rfl,λ_=>rfl,.bool true,Eg l _,λ_=>⟨List.Pairwise.nil,λ_ hm=>(nomatch hm)⟩⟩,h2,h3,h4⟩
end Att
namespace L2
open PySem PySem.Spec PyProof.Rows
theorem vy:∀{vs:List Value}{ns:List Int},IntsAre vs ns->Vals (ns.map V.int) vs
 |_,_,.nil=>.nil
 |_,_,.cons n t h=>.cons ⟨t,rfl⟩ (vy h)
noncomputable def qP(H:Hp):Prop:=∀b,H b=none\/∃o xs,H b=some (.frz o (.lst xs))
theorem zC{P:Program}{w:World}{K:Frag}{mg mb:Str->Option Value}{CX:dc}{k:Nat}{fa a:Addr}{fd:FuncData}{x:Str}{sp:Sp}{s₁:Shared}{vs:List Value}{ns:List Int}
  (KX:K.In s₁.heap) (hns:s₁.heap.Ns mainGlobals mg) (hb:s₁.heap.Ns builtinsNs mb) (hbb:∀x:Str,x≠"__name__"->mb x=bootBuiltins x) (S6:s₁.heap.NoLimit)
  (hbm:∃bm ob,mg "__builtins__"=some (.ref bm)/\bm≠builtinsNs/\s₁.heap.get? bm=some ob/\ob.cls=.type "module"/\ob.dict=some builtinsNs/\ob.data=.plain) (NV:s₁.heap.NoSeer) (hdg:∃mc,s₁.heap.Ns cStatics mc/\mc "sys.int_max_str_digits"=none) (hg:s₁.gens=#[])
  (ha:s₁.heap.get? a=some { cls:=.type "list",data:=.seq vs.toArray }) (hi:IntsAre vs ns) (hl:ns.length<=sizeLine) (hr:Room k callerA)
  (F:∀base:Heap,K.In base->base.Ns mainGlobals mg->FnOk P w K mg base CX k fa fd [x] sp) (Rn:∀(s:Shared)(u:Value),BindsTo s fd ⟨[u],[]⟩ [(x,u)])
  (PR:∀H:Hp,qP H->SqL K H a (ns.map V.int)->sp [.ref a] H (λv _=>v=.bl true) λ_ _ _=>False)
  (S7:∀H e s',CX [] H s₁ (λ_ _ _=>False) e s'->False) :
  codeAny (model P w) callerA (.call (.ref fa) ⟨[.ref a],[]⟩) (λr s'=>r=.ok (.ret (.bool true))/\OldK s₁.heap s'.heap/\s'.os=s₁.os/\AllBare s'.gens) s₁:=by
 have rv:=vy hi;have S8:=hi.length
 have core:∀H:Hp,qP H->SqL K H a (ns.map V.int)->HOk P w H s₁.heap->(∀b,H b≠none->b=a)->(H a≠none->K.lookup a=none)->
   codeAny (model P w) callerA (.call (.ref fa) ⟨[.ref a],[]⟩) (λr s'=>r=.ok (.ret (.bool true))/\OldK s₁.heap s'.heap/\s'.os=s₁.os/\AllBare s'.gens) s₁:=by
  intro H hO hS hok hA hK;have Ou:∀{b:Addr}{o:Obj},s₁.heap.get? b=some o->H b=none->(gH s₁.heap H).get? b=some o:=λe n=>Gu e n
  have Rj:∀{b:Addr}{o:Obj}{es:Array DictEntry}{ep:Nat},s₁.heap.get? b=some o->o.data=.dict es ep->H b=none:=λ{b o es ep} e d=>by
   cases q:H b with
   |none=>rfl
   |some u=>
    have e':b=a:=hA b (by rw[q];simp);subst e';rw[ha]at e;cases e;have d':Data.seq vs.toArray _=Data.dict es ep:=d;cases d'
  have P9:∀{b:Addr}{m:Str->Option Value},s₁.heap.Ns b m->(gH s₁.heap H).Ns b m:=λ{b m} Nb=>by obtain⟨o,es,ep,e,d,r⟩:=Nb;exact⟨o,es,ep,Ou e (Rj e d),d,r⟩
  have hKb:K.In (gH s₁.heap H):=λb o e=>Ou (KX b o e) (by
   cases q:H b with
   |none=>rfl
   |some u=>
    have e':b=a:=hA b (by rw[q];simp);subst e'
    rw[hK (by rw[q];simp)]at e;cases e)
  have hM:Mod K mg (gH s₁.heap H):=⟨hKb,P9 hns,⟨mb,P9 hb,hbb⟩,let ⟨mc,h1,h2⟩:=S6;⟨mc,P9 h1,h2⟩,let ⟨bm,ob,b1,b2,b3,b4,b5,b6⟩:=hbm;⟨bm,ob,b1,b2,Ou b3 (by
   cases q:H bm with
   |none=>rfl
   |some u=>
    have e':bm=a:=hA bm (by rw[q];simp)
    rw[e',ha]at b3;cases b3;injection b4 with z;exact absurd z (by decide)),b4,b5,b6⟩,
   ⟨let ⟨mc,h1,h2⟩:=NV.statics;⟨mc,P9 h1,h2⟩,let ⟨mc,h1,h2⟩:=NV.mods;⟨mc,P9 h1,h2⟩,let ⟨mc,h1,h2⟩:=NV.imp;⟨mc,P9 h1,h2⟩,let ⟨m1,bm,ob,n1,b1,b3,b4,b5⟩:=NV.main;⟨m1,bm,ob,P9 n1,b1,Ou b3 (by
   cases q:H bm with
   |none=>rfl
   |some u=>
    have e':bm=a:=hA bm (by rw[q];simp)
    rw[e',ha]at b3;cases b3;injection b4 with z;exact absurd z (by decide)),b4,b5⟩⟩,let ⟨mc,h1,h2⟩:=hdg;⟨mc,P9 h1,h2⟩⟩
  have e0:Env0 P w K mg (gH s₁.heap H) callerA [] s₁ H:=⟨rfl,hM,λb o e=>CK e,LX (EA _ _),trivial,λb hb=>absurd (show b∈([]:List Addr)from hb) (by simp),hok,.of_eq hg⟩;refine Mv ((F _ hKb (P9 hns)).run callerA [] s₁ H ⟨[.ref a],[]⟩ [.ref a] [.ref a] _ _ hr e0 (Rn s₁ (.ref a)) (.cons rfl .nil) (PR H hO hS)) λr s' h=>?_
  cases r with
  |error e=>exact (S7 H e s' h).elim
  |ok fl=>
   cases fl with
   |next=>exact False.elim h
   |brk=>exact False.elim h
   |cont=>exact False.elim h
   |ret u=>
    obtain⟨v,H',os,bare,un,S9,r',q⟩:=h;have q':v=.bl true:=q;subst q';obtain rfl:u=Value.bool true:=r';refine⟨rfl,OldK.of_keep λb o e=>?_,os,bare⟩
    cases q:H b with
    |none=>exact un.keep b o e q (by intro z;exact absurd (show b∈([]:List Addr)from z) (by simp)) (by simp)
    |some u=>
     rcases hO b with z|⟨ob,xs,z⟩
     ·rw[q]at z;cases z
     ·have z2:=un.frzs b ob _ z;obtain⟨e1,_⟩:=hok b _ z;obtain⟨e2,_⟩:=S9 b _ z2;rw[e]at e1;cases e1;exact e2
 cases hk:K.lookup a with
 |some o=>
  have e:=KX a o hk;rw[ha]at e;cases e;refine core (λ_=>none) (λ_=>.inl rfl) (.inr ⟨_,vs.toArray,_,hk,rfl,rfl,rfl,by rw[Jj,S8];exact hl,by simpa using rv⟩) (λb u z=>by have z':(none:Option HO)=some u:=z;cases z') (λb z=>absurd rfl z) λz=>absurd rfl z
 |none=>
  refine core (λb=>if b=a then some (.frz { cls:=.type "list",data:=.seq vs.toArray } (.lst (ns.map V.int))) else none) (λb=>?_) (.inl (.inr ⟨{ cls:=.type "list",data:=.seq vs.toArray },Ja rfl⟩)) (λb u z=>?_) (λb z=>?_) λ_=>hk
  ·by_cases hb:b=a
   ·exact .inr ⟨_,_,Ja hb⟩
   ·exact .inl (I0 hb)
  ·by_cases hb:b=a
   ·have z':=(Ja hb).symm.trans z;cases z';subst hb;exact⟨ha,by rw[mn];exact hl,vs,_,rv,ha⟩
   ·have z':=(I0 hb).symm.trans z;cases z'
  ·by_cases hb:b=a
   ·exact hb
   ·exact absurd (I0 hb) z
theorem walk_of{l:PySem.W.OpenLaw}{n k:Nat}{q:Program}{loose:List Str}{XP:(Str->Option Value)->Heap->Prop}{YP:World->Heap->Prop}{d:DefRec}{K:Params->Frag}{CX:World->dc}{sp:World->Sp}{x:Str}
  (hn:l.most=some n) (QP:n<=sizeLine) (Rm:d.params.defaults=[]) (hi:importsNone q=true) (hr:Room k callerA)
  (hY:∀(w:World)(h:Heap),YP w h->(K w.params).In h)
  (F:∀(w:World)(mg:Str->Option Value)(fa:Addr)(h:Heap),(K w.params).In h->h.Ns mainGlobals mg->mg d.name=some (.ref fa)->
   ∃fd:FuncData,(∀(s:Shared)(u:Value),BindsTo s fd ⟨[u],[]⟩ [(x,u)]) /\
    ∀base:Heap,(K w.params).In base->base.Ns mainGlobals mg->FnOk l.prog w (K w.params) mg base (CX w) k fa fd [x] (sp w))
  (PR:∀(w:World)(H:Hp)(a:Addr)(ns:List Int),ns.length<=n->qP H->SqL (K w.params) H a (ns.map V.int)->sp w [.ref a] H (λv _=>v=.bl true) λ_ _ _=>False)
  (S7:∀(w:World)(H:Hp)(s:Shared)(e:Value)(s':Shared),CX w [] H s (λ_ _ _=>False) e s'->False) :
  PySem.W.WalkO q loose XP YP l.row.toRowW d [] (λf vs=>PySem.call f vs):=by
 refine Att.attach_call hn Rm λw s₀ s₁ mg mb fa o pm cd doc a vs ns G Y ho hd Np Qu Qv hints hlen hg=>?_;have KX:=hY w _ Y;obtain⟨fd,hb,hF⟩:=F w mg fa _ KX G.T.g Qu;exact zC KX G.T.g G.T.b G.T.builtins G.T.nolimit G.T.bmain (G.T.seer hi) G.T.nodigits hg Qv hints (JE hlen QP) hr hF hb (λH hO hS=>PR w H a ns hlen hO hS) λH e s'=>S7 w H s₁ e s'
end L2
/- THE LAST R8 (shape; LID, My.* are yours):
   My.Adr: a structure of R9 addresses that your layer names (classes, QS); My.Txt K t: a structure (Prop) of R9 equations over K;
   My.txt_mk : {K} {implicit addresses ..} (e1 : nsIn K mainGlobals "law" = some (some (.ref f))) (e2 : K.lookup f = some ⟨oc, od, .func (fnOf "law" "law" params body scope dV kV doc pm an Nk ct), sl⟩) (e3 : codeIn K Nk "law" = true) .. : ∃t, My.Txt K t
set_option maxRecDepth 100000 in
set_option maxHeartbeats 0 in
theorem PySem.Challenge.cw_LID_holds : PySem.Challenge.rw_LID.Holds := by
 w_on;o_law;k_head;(case hw=>w_witness2)
 k_fill
 refine L2.walk_of (l:=PySem.Challenge.rw_LID) (n:=63) (k:=40) (x:="script") (CX:=λw=>..) (sp:=λ_=>My.sp_law) rfl (by decide) rfl ⟨rfl,by decide,by decide⟩ (λw h Y=>kIn_of Y) ?F ?S ?C
 case F=>
  intro w mg fa h KX G Qu
  have T:∃t,My.Txt (L2.KOf KX) t:=by
   dsimp only[L2.KOf]                          -- K must stand as «<heap const> w.params» for k_is;refine' My.txt_mk ?e1 ?e2 ?e3 ..
   (case e1=>PySem.W.k_is)                    -- in R9 order: a name-> Nc address-> Nc object-> Nc parts
   (case e2=>PySem.W.k_is)
   ..
  obtain⟨t,T⟩:=T;have e0:=Qu.symm.trans (mg_of KX G T.law);cases e0                                       -- fa is R9 law's own address
  exact⟨_,λs u=>.of_eq rfl,λbase kb nb=>My.law_fn T kb nb⟩     -- if «.of_eq rfl» comes too early: refine' ⟨_,?b,λbase kb nb=>My.law_fn T kb nb⟩;exact λs u=>.of_eq rfl
 case S=>exact λw H a ns hl hO hS=>..
 case C=>exact ..
(R9 tactic k_is has no namespace: write k_is) -/
namespace L2
open PySem PySem.Spec PyProof.Rows
noncomputable def lj(s:Stmt)(j:Nat):Stmt:=match s with
 |.ClassDef _ _ _ body _ _ _ _ _ _ _=>body.getD j (.Pass ⟨0,0,0,0⟩)
 |_=>.Pass ⟨0,0,0,0⟩
noncomputable def fi(s:Stmt):Arguments:=match s with
 |.FunctionDef _ a _ _ _ _ _ _ _ _=>a
 |_=>{ posonlyargs:=[],args:=[],vararg:=none,kwonlyargs:=[],kw_defaults:=[],kwarg:=none,defaults:=[] }
noncomputable def eg(s:Stmt):List Stmt:=match s with
 |.FunctionDef _ _ b _ _ _ _ _ _ _=>b
 |_=>[]
noncomputable def aE(s:Stmt):Scope:=match s with
 |.FunctionDef _ _ _ _ _ _ sc _ _ _=>sc
 |_=>{ kind:=.function,names:=[],isGenerator:=false,isCoroutine:=false }
noncomputable abbrev aT:dc:=λ_ _ _ _ _ _=>False
noncomputable abbrev E0:XK:=λ_ _ _=>False
theorem j5{X:Cx}:iB aT X E0:=λ_ _ _ _ _ _ _ h=>h.elim
structure Fun(K:Frag)(x qual:Str)(st:Stmt)(f:Addr)(fd:FuncData):Prop where
 ex:∃(oc:Value)(od:Option Addr)(kV doc pm:Value)(an:Option Addr)(Nk ct:Value)(P4:Array (Option Value)),
  fd=fnOf x qual (fi st) (eg st) (aE st) .none kV doc pm an Nk ct/\K.lookup f=some ⟨oc,od,.func fd,P4⟩/\codeIn K Nk qual=true
 kp:keepIn K (.ref f)=true
section
variable{P:Program}{w:World}{K:Frag}{mg:Str->Option Value}{base:Heap}
theorem Fun.ok{x qual:Str}{st:Stmt}{f:Addr}{fd:FuncData}{N ps:List Str}{k:Nat}{sp:Sp}(F:Fun K x qual st f fd)(S:FnScope N ps (aE st))(len:∀vs H Q E,sp vs H Q E->vs.length=ps.length)
  (N0:∀(Nk:Value)(A:Around)(outer:List Env)(s:Shared)(H:Hp)(vs:List V)(Q:VK)(E:XK),Room k (A.deeper (envOfC qual (aE st) s.heap.objs.size f Nk))->sp vs H Q E->
   ∃t,PSs (gI aT P w K mg base N qual (aE st) f Nk A outer s H E).nox (eg st) t/\t { nx:=λ_ H'=>Q .non H',rt:=Q } (start N vs) H):FnOk P w K mg base aT (k+1) f fd ps sp:=by
 obtain⟨oc,od,kV,doc,pm,an,Nk,ct,P4,rfl,lk,Np⟩:=F.ex;refine vM lk Np S len λA outer s H vs Q E hr PR=>?_;obtain⟨t,h,q⟩:=N0 Nk A outer s H vs Q E hr PR;exact⟨t,h.nox,q⟩
theorem Fun.binds{x qual:Str}{st:Stmt}{f:Addr}{fd:FuncData}{ps:List Str}(F:Fun K x qual st f fd)
  (h:∀(kV doc pm:Value)(an:Option Addr)(Nk ct:Value)(us:List Value),us.length=ps.length->bindArgs (fnOf x qual (fi st) (eg st) (aE st) .none kV doc pm an Nk ct) ⟨us,[]⟩=pure (ps.zip us)):Binds K fd ps []:=by
 obtain⟨oc,od,kV,doc,pm,an,Nk,ct,P4,rfl,lk,Np⟩:=F.ex;exact .all (h kV doc pm an Nk ct)
theorem kI{x qual:Str}{st:Stmt}{f:Addr}{oc:Value}{od an:Option Addr}{P4:Array (Option Value)}{kV doc pm Nk ct:Value}(l:K.lookup f=some ⟨oc,od,.func (fnOf x qual (fi st) (eg st) (aE st) .none kV doc pm an Nk ct),P4⟩)
  (c:codeIn K Nk qual=true) (k:keepIn K (.ref f)=true):Fun K x qual st f (fnOf x qual (fi st) (eg st) (aE st) .none kV doc pm an Nk ct):=⟨⟨oc,od,kV,doc,pm,an,Nk,ct,P4,rfl,l,c⟩,k⟩
end
theorem cm{n:Nat}(h:n<=1000):n<sizeLine:=Nat.lt_of_le_of_lt h (by decide)
section
variable{X:Cx}
theorem pv(i:Nat){x:Str}{pos:Pos}(hN:X.N[i]?=some x:=by rfl)(hv:cF X.env.scope x:=by nofun)(hd:(x==("__debug__":Str))=false:=by decide)
  (Np:(x==("__classdict__":Str))=false:=by decide):PE X (.Name x pos) (sI i):=Ij hN hv hd Np
end
theorem rF{A B:Prop}(h:B):if false=true then A else B:=by rw[I0 JJ];exact h
theorem oG{A B:Prop}(h:A):if true=true then A else B:=by rw[Ja rfl];exact h
noncomputable def Same(H H':Hp):Prop:=∀b o,H b=some o->H' b=some o
theorem Same.refl(H:Hp):Same H H:=λ_ _ h=>h
theorem Same.trans{H H1 H2:Hp}(a:Same H H1)(b:Same H1 H2):Same H H2:=λc o h=>b c o (a c o h)
theorem Same.free{H H':Hp}(e:Same H H'){l:Addr}(h:H' l=Option.none):H l=Option.none:=by
 cases q:H l with
 |none=>rfl
 |some o=>
  rw[e l o q]at h;cases h
theorem Same.seq{K:Frag}{H H':Hp}{a:Addr}{xs:List V}(e:Same H H')(h:SqL K H a xs):SqL K H' a xs:=by
 rcases h with (h|⟨o,h⟩)|h
 ·exact .inl (.inl (e _ _ h))
 ·exact .inl (.inr ⟨o,e _ _ h⟩)
 ·exact .inr h
section
variable{κ:Type}[DecidableEq κ]
noncomputable def fA(Ng:List (κ×V))(k:κ):Option V:=(Ng.find? λkv=>decide (kv.1=k)).map (·.2)
noncomputable def eP(Ng:List (κ×V))(k:κ)(v:V):List (κ×V):=
 if (Ng.any λkv=>decide (kv.1=k))=true then Ng.map (λkv=>if kv.1=k then (kv.1,v) else kv) else Ng++[(k,v)]
theorem qC{p:κ×V}{r:List (κ×V)}{k:κ}(e:p.1=k):fA (p::r) k=some p.2:=by simp[fA,KO,e]
theorem pC{p:κ×V}{r:List (κ×V)}{k:κ}(e:¬ p.1=k):fA (p::r) k=fA r k:=by simp[fA,KO,e]
theorem mv(k:κ):∀Ng:List (κ×V),(Ng.any λkv=>decide (kv.1=k))=(fA Ng k).isSome
 | []=>rfl
 |p::r=>by
  rw[LJ];by_cases e:p.1=k
  ·simp only[qC e,JP e,Bool.true_or,Option.isSome_some]
  ·rw[pC e,Jo e,Bool.false_or];exact mv k r
theorem vG(Ng:List (κ×V))(k:κ)(v:V):(eP Ng k v).length<=Ng.length+1:=by
 unfold eP;split
 ·rw[mn];omega
 ·rw[IW,Je,J8];omega
theorem RelO.isSome_eq{o:Option V}{u:Option Value}(r:RelO o u):o.isSome=u.isSome:=by
 cases o with
 |none=>cases u with
  |none=>rfl
  |some _=>exact (show False from r).elim
 |some _=>cases u with
  |none=>exact (show False from r).elim
  |some _=>rfl
theorem KV.val{Ng:List (κ×V)}{vs:List (κ×Value)}(r:KV Ng vs)(k:κ):RelO (fA Ng k) (valueAt vs k):=by
 unfold KV at r
 induction r with
 |nil=>exact True.intro
 | @cons p q ps qs h t ih=>
  obtain⟨h1,h2⟩:=h;by_cases e:p.1=k
  ·have e':q.1=k:=h1.symm.trans e
   have b:valueAt (q::qs) k=some q.2:=by simp[valueAt,KO,e']
   rw[qC e,b];exact h2
  ·have e':¬ q.1=k:=λz=>e (h1.trans z)
   have b:valueAt (q::qs) k=valueAt qs k:=by simp[valueAt,KO,e']
   rw[pC e,b];exact ih
theorem KV.any{Ng:List (κ×V)}{vs:List (κ×Value)}(r:KV Ng vs)(k:κ):(Ng.any λkv=>decide (kv.1=k))=vs.any λkv=>decide (kv.1=k):=by
 unfold KV at r
 induction r with
 |nil=>rfl
 |cons h t ih=>rw[LJ,LJ,ih,h.1]
theorem KV.repl{Ng:List (κ×V)}{vs:List (κ×Value)}(r:KV Ng vs)(k:κ){y:V}{u:Value}(ry:RelV y u) :
  KV (Ng.map λkv=>if kv.1=k then (kv.1,y) else kv) (vs.map λkv=>if kv.1=k then (kv.1,u) else kv):=by
 unfold KV at r ⊢
 induction r with
 |nil=>exact .nil
 | @cons p q ps qs h t ih=>
  rw[Jq,Jq];refine .cons ?_ ih;obtain⟨h1,h2⟩:=h;by_cases e:p.1=k
  ·rw[Ja e,Ja (h1.symm.trans e)];exact⟨h1,ry⟩
  ·rw[I0 e,I0 (λz=>e (h1.trans z))];exact⟨h1,h2⟩
theorem KV.put{Ng:List (κ×V)}{vs:List (κ×Value)}(r:KV Ng vs)(k:κ){y:V}{u:Value}(ry:RelV y u):KV (eP Ng k y) (stored vs k u):=by
 unfold eP stored;rw[r.any k];by_cases e:(vs.any λkv=>decide (kv.1=k))=true
 ·rw[Ja e,Ja e];exact r.repl k ry
 ·rw[I0 e,I0 e];exact Paired.snoc r ⟨rfl,ry⟩
theorem KV.length{Ng:List (κ×V)}{vs:List (κ×Value)}(r:KV Ng vs):Ng.length=vs.length:=Mm r
end
theorem qy{P:Program}{w:World}{k:ax}{u:Value}(r:RelV (kV k) u):(eN P w).is k u=true:=by
 cases k with
 |inl i=>obtain⟨t,e⟩:=(show ∃t,u=Value.int i t from r);subst e;exact zA P w i t
 |inr x=>obtain⟨t,e⟩:=(show ∃t,u=Value.str x t from r);subst e;exact Gv P w x t
theorem uI{P:Program}{w:World}:∀{ks:List ax}{us:List Value},Vals (ks.map kV) us->ItemsAre (eN P w) ks us
 | [],_,r=>by rw[M8]at r;cases r;exact .nil
 |k::ks,_,r=>by
  rw[Jq]at r
  cases r with
  |cons h t=>exact .cons (qy h) (uI t)
noncomputable abbrev KT(H:Hp):List (List ax×V)->List (List ax×Addr×Value)->Prop:=Paired λp q=>p.1=q.1/\H q.2.1=some (.tup (p.1.map kV))/\RelV p.2 q.2.2
theorem KT.val{H:Hp}{Ng:List (List ax×V)}{xs:List (List ax×Addr×Value)}(r:KT H Ng xs)(k:List ax):RelO (fA Ng k) ((atKey xs k).map (·.2)):=by
 induction r with
 |nil=>exact True.intro
 | @cons p q ps qs h t ih=>
  obtain⟨h1,_,h2⟩:=h;by_cases e:p.1=k
  ·have e':q.1=k:=h1.symm.trans e
   have b:atKey (q::qs) k=some q.2:=by simp[atKey,KO,e']
   rw[qC e,b];exact h2
  ·have e':¬ q.1=k:=λz=>e (h1.trans z)
   have b:atKey (q::qs) k=atKey qs k:=by simp[atKey,KO,e']
   rw[pC e,b];exact ih
theorem KT.repl{H:Hp}{Ng:List (List ax×V)}{xs:List (List ax×Addr×Value)}(r:KT H Ng xs)(k:List ax){y:V}{u:Value}(ry:RelV y u) :
  KT H (Ng.map λkv=>if kv.1=k then (kv.1,y) else kv) (xs.map (putAt k u)):=by
 induction r with
 |nil=>exact .nil
 | @cons p q ps qs h t ih=>
  rw[Jq,Jq];refine .cons ?_ ih;obtain⟨h1,h2,h3⟩:=h;unfold putAt;by_cases e:p.1=k
  ·rw[Ja e,Ja (h1.symm.trans e)];exact⟨h1,h2,ry⟩
  ·rw[I0 e,I0 (λz=>e (h1.trans z))];exact⟨h1,h2,h3⟩
theorem KT.put{H:Hp}{Ng:List (List ax×V)}{xs:List (List ax×Addr×Value)}(r:KT H Ng xs)(k:List ax){b:Addr}{y:V}{u:Value}(hb:H b=some (.tup (k.map kV)))(ry:RelV y u) :
  KT H (eP Ng k y) (storedH xs k b u):=by
 have e:(Ng.any λkv=>decide (kv.1=k))=(atKey xs k).isSome:=by rw[mv,(r.val k).isSome_eq,Option.isSome_map]
 unfold eP storedH;rw[e];by_cases q:(atKey xs k).isSome=true
 ·rw[Ja q,Ja q];exact r.repl k ry
 ·rw[I0 q,I0 q];exact Paired.snoc r ⟨rfl,hb,ry⟩
theorem KT.keeps{H H':Hp}{Ng:List (List ax×V)}{xs:List (List ax×Addr×Value)}(r:KT H Ng xs)(ht:∀b ys,H b=some (.tup ys)->H' b=some (.tup ys)):KT H' Ng xs:=
 Paired.mapP r λ_ _ z=>⟨z.1,ht _ _ z.2.1,z.2.2⟩
section
variable{P:Program}{w:World}{H:Hp}{h:Heap}{a:Addr}
theorem wY{u:HO}(ok:HOk P w H h)(e:Rd H a u):ObjOk P w H h a u:=e.ok ok
theorem sE{Ng:List (ax×V)}(ok:HOk P w H h)(e:Rd H a (.dK Ng)):Ng.length<=sizeLine/\(a==sysModules)=false/\∃vs,KV Ng vs/\h.DictOf (eN P w) a vs:=
 show ObjOk P w H h a (.dK Ng)from wY ok e
theorem EH{Ng:List (ax×V)}(ok:HOk P w H h)(e:H a=some (.dK Ng)):Ng.length<=sizeLine/\(a==sysModules)=false/\∃vs,KV Ng vs/\h.DictOf (eN P w) a vs:=sE ok (.inl e)
theorem qx{ks:List ax}(ok:HOk P w H h)(e:H a=some (.tup (ks.map kV))):(tupleKind (eN P w)).is h ks a:=by obtain⟨_,Nc,r,o,h1,⟨h2,_⟩,n,h3⟩:=(show ObjOk P w H h a (.tup (ks.map kV))from ok a _ e);exact⟨o,Nc.toArray,n,h1,h2,h3,by simpa using uI r⟩
theorem wb{Ng:List (List ax×V)}(ok:HOk P w H h)(e:Rd H a (.dT Ng)):Ng.length<=sizeLine/\(a==sysModules)=false /\
  ∃xs,KT H Ng xs/\h.DictOfH (tupleKind (eN P w)) a xs:=by
 obtain⟨z,y,xs,r,o,es,ep,h1,h2,h3,h4,h5⟩:=(show ObjOk P w H h a (.dT Ng)from wY ok e);refine⟨z,y,xs,r,o,es,ep,h1,h2,h3,h4,λx hx=>?_,h5⟩
 have all:∀{l:List (List ax×V)}{m:List (List ax×Addr×Value)},KT H l m->∀x∈m,(tupleKind (eN P w)).is h x.1 x.2.1:=by
  intro l m q
  induction q with
  |nil=>intro x hx;exact nomatch hx
  | @cons p q ps qs hq t ih=>
   intro x hx;rcases Jb.mp hx with e|hx
   ·subst e;exact qx ok (by rw[←hq.1];exact hq.2.1)
   ·exact ih x hx
 exact all r x hx
theorem Dc{Ng:List (List ax×V)}(ok:HOk P w H h)(e:H a=some (.dT Ng)):Ng.length<=sizeLine/\(a==sysModules)=false /\
  ∃xs,KT H Ng xs/\h.DictOfH (tupleKind (eN P w)) a xs:=wb ok (.inl e)
end
noncomputable def DGet(H:Hp)(a:Addr)(y:V)(r:Option V):Prop:=
 (∃Ng k,Rd H a (.dK Ng)/\y=kV k/\r=fA Ng k)\/∃Ng k b,Rd H a (.dT Ng)/\y=.ref b/\H b=some (.tup (k.map kV))/\r=fA Ng k
noncomputable def DPut(H:Hp)(a:Addr)(y v:V)(H':Hp):Prop:=
 (∃Ng k,H a=some (.dK Ng)/\y=kV k/\Ng.length<sizeLine/\H'=ak H a (.dK (eP Ng k v))) \/
 ∃Ng k b,H a=some (.dT Ng)/\y=.ref b/\H b=some (.tup (k.map kV))/\Ng.length<sizeLine/\H'=ak H a (.dT (eP Ng k v))
theorem DGet.k{H:Hp}{a:Addr}{Ng:List (ax×V)}{k:ax}(e:H a=some (.dK Ng)):DGet H a (kV k) (fA Ng k):=.inl ⟨Ng,k,.inl e,rfl,rfl⟩
theorem DPut.k{H:Hp}{a:Addr}{Ng:List (ax×V)}{k:ax}{v:V}(e:H a=some (.dK Ng))(hl:Ng.length<sizeLine):DPut H a (kV k) v (ak H a (.dK (eP Ng k v))):=.inl ⟨Ng,k,e,rfl,hl,rfl⟩
section
variable{X:Cx}{pins:List (Addr×Obj)}{σ:St}{H:Hp}{s:Shared}{a:Addr}{y v:V}{u r:Value}{o:Option V}{A:Around}{E:Value->Shared->Prop}
theorem Inv.big(I:Inv X pins σ H s):sysModules<s.heap.objs.size:=by have h:mainGlobals<s.heap.objs.size:=(I.mod.glob.keeps I.bk).lt;exact Nat.lt_trans (by decide) h
theorem BB{Q:Value->Shared->Prop}(hu:A.units+1<cLine)(I:Inv X pins σ H s)(g:DGet H a y o)(ry:RelV y u)(h:∀s',Inv X pins σ H s'->Q (.bool o.isSome) s') :
  wpAny (model X.prog X.w) A (compareOp .In u (.ref a)) Q E s:=by
 rcases g with⟨Ng,k,e,ey,l⟩|⟨Ng,k,b,e,ey,eb,l⟩
 ·subst ey;obtain⟨z,hd,vs,rel,dd⟩:=sE I.hok e;refine wpAny_in_of (qy ry) hd dd.mapOf ?_;rw[←(rel.val k).isSome_eq,←l];exact h _ (I.tok _)
 ·subst ey;cases (show u=Value.ref b from ry);obtain⟨z,hd,xs,rel,dd⟩:=wb I.hok e;refine wpAny_in_heap (tupleKind_room_in1 hu) (qx I.hok eb) hd dd ?_;have q:=(rel.val k).isSome_eq;rw[Option.isSome_map]at q;rw[←q,←l];exact h _ (I.tok _)
theorem vW{h':Heap}{t':Nat}{ob:HO}(I:Inv X pins σ H s)(mu:kM (H a))(hs:Heap.SameBut a s.heap h')(he:∃q,h'.get? a=some q)(new:ObjOk X.prog X.w (ak H a ob) h' a ob) :
  Inv X pins σ (ak H a ob) { s with heap:=h',toks:=t' }:=
 I.write (x:=a) (e:=a) mu (.inl rfl) (λb q hb z=>(hs.2 b hb).trans z) he new
theorem C4{P:Program}{w:World}{H':Hp}{h':Heap}{Ng:List (ax×V)}{vs:List (ax×Value)}(z:Ng.length<=sizeLine)(hd:(a==sysModules)=false)(rel:KV Ng vs)(dd:h'.DictOf (eN P w) a vs) :
  ObjOk P w H' h' a (.dK Ng):=⟨z,hd,vs,rel,dd⟩
theorem Fc{H':Hp}{Q:Unit->Shared->Prop}(hu:A.units+1<cLine)(I:Inv X pins σ H s)(g:DPut H a y v H')(ry:RelV y u)(rv:RelV v r)(h:∀s',Inv X pins σ H' s'->Q () s') :
  wpAny (model X.prog X.w) A (setItem (.ref a) u r) Q E s:=by
 rcases g with⟨Ng,k,e,ey,l,eH⟩|⟨Ng,k,b,e,ey,eb,l,eH⟩
 ·subst ey eH;obtain⟨z,hd,vs,rel,dd⟩:=EH I.hok e
  have hz:vs.length<=sizeLine:=by rw[←rel.length];exact z
  have hl:(eP Ng k v).length<=sizeLine:=by have:=vG Ng k v;omega
  refine wpAny_setItem_pairs (hsz:=hz) (qy ry) dd λh' Sa hs=>h _ ?_
  have he:∃q,h'.get? a=some q:=let ⟨q,_,_,hq,_⟩:=Sa;⟨q,hq⟩
  exact vW I (by rw[e];exact True.intro) hs he (C4 hl hd (rel.put k rv) Sa)
 ·subst ey eH;cases (show u=Value.ref b from ry);obtain⟨z,hd,xs,rel,dd⟩:=Dc I.hok e
  have hz:xs.length<=sizeLine:=by rw[←Mm rel];exact z
  have hl:(eP Ng k v).length<=sizeLine:=by have:=vG Ng k v;omega
  refine wpAny_setItem_heap (hsz:=hz) (tupleKind_room_in1 hu) (qx I.hok eb) dd λh' Sa hs=>h _ ?_;obtain⟨q,es,ep,hq,h2,h3,h4,_,h5⟩:=Sa;refine vW I (by rw[e];exact True.intro) hs ⟨q,hq⟩ ⟨hl,hd,_,(rel.put k eb rv).keeps λc ys ec=>?_,q,es,ep,hq,h2,h3,h4,h5⟩;rw[ba (HY ec e (λz=>nomatch z))];exact ec
end
noncomputable def xy(ty td:TE):TE:=λσ H Q=>ty σ H λy H1=>td σ H1 λx H2=>∃a o,x=.ref a/\DGet H2 a y o/\Q (.bl o.isSome) H2
noncomputable def xH(td ty tv:TE):TS:=λD σ H=>tv σ H λv H1=>td σ H1 λx H2=>ty σ H2 λy H3=>∃a H4,x=.ref a/\DPut H3 a y v H4/\D.nx σ H4
section
variable{X:Cx}{o i value:Expr}{pos pos':Pos}{td ty tv:TE}
theorem Ew(hu:X.A.units+1<cLine)(hi:PE X i ty)(ho:PE X o td):PC X .In i o (xy ty td):=by intro pins s σ H Q I h;refine aw (hi pins s σ H _ I h) λiv s1 ⟨y,H1,I1,ry,q1⟩=>aw (ho pins s1 σ H1 _ I1 q1) λu s2 ⟨x,H2,I2,rx,a,ov,ex,g,q2⟩=>?_;subst ex;obtain rfl:u=Value.ref a:=rx;exact BB hu I2 g ry λs3 I3=>⟨.bl ov.isSome,H2,I3,rfl,q2⟩
theorem BJ(hu:X.A.units+1<cLine)(ho:PE X o td)(hi:PE X i ty)(hv:PE X value tv)(hs:swapsWith value (some (.Subscript o i pos')) pos.line X.env=pure false) :
  PS X (.Assign [.Subscript o i pos'] value pos) (xH td ty tv):=by
 intro pins s σ H D I h;refine wpAny_Assign_Subscript (aw (hv pins s σ H _ I h) λr s1 ⟨v,H1,I1,rv,q1⟩=>aw (ho pins s1 σ H1 _ I1 q1) λu s2 ⟨x,H2,I2,rx,q2⟩=>aw (hi pins s2 σ H2 _ I2 q2) λiv s3 ⟨y,H3,I3,ry,a,H4,ex,g,q3⟩=>?_) hs;subst ex;obtain rfl:u=Value.ref a:=rx;exact Fc hu I3 g ry rv λs4 I4=>⟨σ,H4,I4,q3⟩
end
theorem Cz{P:Program}{w:World}{H:Hp}(h:Heap)(hb:sysModules<h.objs.size):ObjOk P w H (h.push { cls:=.type "dict",data:=.dict #[] }) h.objs.size (.dK []):=
 ⟨KJ _,KU.mpr (J7 (JM hb)),[],.nil,Heap.DictOf.new h⟩
noncomputable def DN:TE:=λ_ H Q=>∀p,H p=none->Q (.ref p) (ak H p (.dK []))
section
variable{X:Cx}{pos:Pos}
theorem AZ:PE X (.Dict [] [] pos) DN:=λpins s σ H Q I h=>
 wpAny_Dict_empty ⟨.ref s.heap.objs.size,_,I.laid (a:=s.heap.objs.size) (o:=.dK []) (t':=s.toks) (λ_ _ q=>IX _ q) (Jc _) (Cz s.heap I.big),rfl,h _ (I.hok.fresh (Jc _))⟩
end
end L2
set_option maxHeartbeats 4000000
namespace L2
open PySem PySem.Spec PyProof.Rows
theorem Fh{env:Env}(names:List (Str×NameKind))(hf:∀x∈names,x.2=.free->∃c,env.cells.lookup x.1=some c):∀acc:List (Str×Addr),
  ∃cl:List (Str×Addr),(forIn names acc (λ(x:Str×NameKind) cs=>if (x.2==.free)=true then do let a ←cellOf env x.1;pure (ForInStep.yield ((x.1,a)::cs)) else pure (ForInStep.yield cs)):Sem (List (Str×Addr)))=pure cl /\
   (∀p∈cl,p∈acc\/env.cells.lookup p.1=some p.2)/\(∀p∈acc,p∈cl)/\∀x,(x,NameKind.free)∈names->∃c,(x,c)∈cl:=by
 induction names with
 |nil=>intro acc;exact⟨acc,rfl,λp hp=>.inl hp,λ_ hp=>hp,λx hx=>by simp at hx⟩
 |cons n r ih=>
  intro acc;obtain⟨n,k⟩:=n;have hr:∀x∈r,x.2=.free->∃c,env.cells.lookup x.1=some c:=λx hx=>hf x (IY _ hx);by_cases hk:k=.free
  ·subst hk;obtain⟨c,hc⟩:=hf (n,.free) IZ rfl;obtain⟨cl,e,h1,h2,h3⟩:=ih hr ((n,c)::acc);refine⟨cl,?_,λp hp=>?_,λp hp=>h2 p (IY _ hp),λx hx=>?_⟩
   ·rw[K5,←e]
    have q:cellOf env n=pure c:=by unfold cellOf;rw[hc]
    simp[q]
   ·rcases h1 p hp with z|z
    ·rcases Jb.mp z with rfl|z
     ·exact .inr hc
     ·exact .inl z
    ·exact .inr z
   ·rcases Jb.mp hx with z|z
    ·cases z;exact⟨c,h2 _ IZ⟩
    ·exact h3 x z
  ·obtain⟨cl,e,h1,h2,h3⟩:=ih hr acc;refine⟨cl,?_,h1,h2,λx hx=>?_⟩
   ·rw[K5,←e]
    have q:(k==NameKind.free)=false:=by simpa using hk
    simp[q]
   ·rcases Jb.mp hx with z|z
    ·cases z;exact absurd rfl hk
    ·exact h3 x z
theorem FW{cl:List (Str×Addr)}{cells:List (Str×Addr)}(h:∀p∈cl,cells.lookup p.1=some p.2):∀x c,cl.lookup x=some c->cells.lookup x=some c:=λx c e=>h (x,c) (J9 e)
theorem DM{cl:List (Str×Addr)}{x:Str}{c:Addr}:(x,c)∈cl->∃c',cl.lookup x=some c':=by
 induction cl with
 |nil=>intro h;simp at h
 |cons p r ih=>
  intro h;rw[JF]
  cases e:x==p.1 with
  |true=>exact⟨_,rfl⟩
  |false=>
   rcases Jb.mp h with z|z
   ·subst z;simp at e
   ·exact ih z
theorem xj{scope:Scope}{env:Env}(hf:∀x∈scope.names,x.2=.free->∃c,env.cells.lookup x.1=some c) :
  ∃cl,closureFor scope env=pure cl/\(∀x c,cl.lookup x=some c->env.cells.lookup x=some c)/\∀x,(x,NameKind.free)∈scope.names->∃c,cl.lookup x=some c:=by
 obtain⟨cl,e,h1,_,h3⟩:=Fh (env:=env) scope.names hf [];refine⟨cl,?_,FW λp hp=>(h1 p hp).elim (λz=>by simp at z) id,λx hx=>?_⟩
 ·unfold closureFor;simp only;rw[←e];simp
 ·obtain⟨c,hc⟩:=h3 x hx;exact DM hc
theorem oB{env:Env}:∀{names:List (Str×NameKind)}{x:Str}{k:NameKind},
  (names.map λ(n,k)=>if (k==NameKind.free&&env.scope.kind==.function&&env.kindOf n==some .cell) then (n,NameKind.cell) else (n,k)).lookup x=some k->(k=.cell\/k=.free)->(x,NameKind.free)∈names\/(x,NameKind.cell)∈names
 | [],_,_,h,_=>by simp at h
 |(n,k)::r,x,kk,h,hk=>by
  have ih:=@oB env r x kk;have h:List.lookup x ((if (k==NameKind.free&&env.scope.kind==.function&&env.kindOf n==some .cell)=true then (n,NameKind.cell) else (n,k))::_)=_:=h;by_cases hb:(k==NameKind.free&&env.scope.kind==.function&&env.kindOf n==some .cell)=true
  ·rw[Ja hb]at h
   have kf:k=.free:=by simp only[JR,Ld]at hb;exact hb.1.1
   rw[JF]at h
   cases e:x==n with
   |true=>
    have:x=n:=by simpa using e
    subst this;subst kf;exact .inl IZ
   |false=>
    simp only[e]at h;exact (ih h hk).imp (IY _) (IY _)
  ·rw[I0 hb]at h;rw[JF]at h
   cases e:x==n with
   |true=>
    have kk':k=kk:=by simpa [e] using h
    have:x=n:=by simpa using e
    subst this;subst kk';rcases hk with rfl|rfl
    ·exact .inr IZ
    ·exact .inl IZ
   |false=>
    simp only[e]at h;exact (ih h hk).imp (IY _) (IY _)
noncomputable def cb(X:Cx)(scope:Scope)(N':List Str)(cl:List (Str×Addr))(C:Addr)(s0:Shared)(H0:Hp)(fp:List Addr):Cx where
 prog:=X.prog
 w:=X.w
 K:=X.K
 mg:=X.mg
 base:=X.base
 A:=X.A
 N:=N'
 s₀:=s0
 H₀:=H0
 env:=compEnvC scope cl C X.env
 outer:=X.stack
 stack:=X.stack
 ex:=fp
 fn:=λx=>scope.names.lookup x==some .cell
 calm:=X.calm
 pn:=[]
 xe:=λ_ _=>False
noncomputable def eZ(cap:List (Option Nat))(σ:St):St:=cap.map λo=>o.bind λi=>(σ[i]?).join
structure CompScope(N:List Str)(sc scope:Scope)(N':List Str)(cap:List (Option Nat)):Prop where
 kind:scope.kind=.function
 cel:∀x∈scope.names,x.2=.cell->scope.names.lookup x.1=some .cell
 names:∀x∈scope.names,x.2=.local->scope.names.lookup x.1=some .local
 free:∀x∈scope.names,x.2=.free->sc.names.lookup x.1=some .cell
 fst:∀x∈scope.names,x.2=.free->scope.names.lookup x.1=some .free
 nd:N'.Nodup
 len:cap.length=N'.length
 at_:∀p∈cap.zip N',∀i,p.1=some i->N[i]?=some p.2/\(p.2,NameKind.free)∈scope.names
noncomputable def jB(X:Cx)(ifs:List Expr)(t:TT):Prop:=
 ∀(pins:List (Addr×Obj))(s:Shared)(σ:St)(H:Hp)(Q:Bool->Hp->Prop),Inv X pins σ H s->t σ H Q->
  wpAny (model X.prog X.w) X.A (forIn ifs true λc r=>if r=true then do let ok ←isTrue c X.env (eval c X.env);pure (ForInStep.yield ok) else pure (ForInStep.yield r)) (TP X pins σ Q) X.xe s
noncomputable def Bn:TT:=λ_ H Q=>Q true H
theorem Es{X:Cx}:jB X [] Bn:=λ_ _ _ H _ I h=>wpAny_tests_nil ⟨H,I,h⟩
theorem DP{X:Cx}{c:Expr}{t:TT}(h:PT X c t):jB X [c] t:=λpins s σ H Q I hw=>wpAny_tests_one (h pins s σ H Q I hw)
noncomputable def gK(wi:TI)(cap:List (Option Nat))(g:TG)(tc:TT)(te:TE):TE:=λσ H Q=>wi σ H λJ H1=>∀D,H1 D=none->∃W:Nat->Nat->St->Hp->Prop,(∃m,W 0 m (eZ cap σ) (ak H1 D (.lst []))) /\
 ∀i m σ' H',W i m σ' H'->(J.stop i H'/\Q (.ref D) H')\/(J.go i H'/\∃N:St->Hp->Prop,(∀σ2 H2,N σ2 H2->∃m',m'<m/\W (i+1) m' σ2 H2) /\
  ∀x H2,J.yld i H' x H2->g x σ' H2 λσ3 H3=>tc σ3 H3 λb H4=>if b=true then te σ3 H4 λy H5=>∃ys,H5 D=some (.lst ys)/\ys.length<sizeLine/\N σ3 (ak H5 D (.lst (ys++[y]))) else N σ3 H4)
theorem CW{prog:Program}{w:World}{A:Around}{R:Result->Shared->Prop}{s:Shared}{elt target iter:Expr}{ifs:List Expr}{scope:Scope}{pos:Pos}{it acc:Value}{env:Env}(I:Nat->Shared->Prop)
  (turn:∀n s,I n s->wpAny (model prog w) A (pyNext it) (λr s₁=>match r with
   |none=>R (.ok .next) s₁
   |some v=>wpAny (model prog w) A (letOwnedTupleGo target it v) (λ_ s₁'=>wpAny (model prog w) A (assign target env v) (λ_ s₂=>
     wpAny (model prog w) A (forIn ifs true λc r=>if r=true then do let ok ←isTrue c env (eval c env);pure (ForInStep.yield ok) else pure (ForInStep.yield r)) (λok s₃=>
      if ok=true then wpAny (model prog w) A (eval elt env) (λx s₄=>
       wpAny (model prog w) A (call (.builtin "list.append") [acc,x]) (λ_ s₅=>∃m,m<n/\I m s₅) (λ_ _=>False) s₄) (λ_ _=>False) s₃
      else ∃m,m<n/\I m s₃) (λ_ _=>False) s₂) (λ_ _=>False) s₁') (λ_ _=>False) s₁) (λ_ _=>False) s)
  (n:Nat) (h:I n s):codeAny (model prog w) A (.compLoop (.ListComp elt [⟨target,iter,ifs,0⟩] scope pos) 0 it acc env) R s:=by
 refine codeAny_loop rfl I (λn s hI=>?_) n h;show wpAny _ A ((compTurn (.ListComp elt [⟨target,iter,ifs,0⟩] scope pos) 0 it acc env).onRaise (λx=>do noteFrame x env;theTreesLotGoes x)) _ _ s;refine wpAny_noted ?_;rw[compTurn_list];refine IV (Mn (IV (KD (turn n s hI) (λr s₁ h₁=>?_) λ_ _ h'=>h'.elim)))
 cases r with
 |none=>exact Jf h₁
 |some v=>
  refine IV (KD h₁ (λ_ s₁' h₁'=>?_) λ_ _ h'=>h'.elim);refine IV (KD h₁' (λ_ s₂ h₂=>IV (KD h₂ (λok s₃ h₃=>?_) λ_ _ h'=>h'.elim)) λ_ _ h'=>h'.elim)
  cases ok with
  |false=>exact Jf ⟨rfl,h₃⟩
  |true=>
   exact IV (IV (KD h₃ (λx s₄ h₄=>IV (KD h₄ (λ_ s₅ h₅=>Jf (Jf ⟨rfl,h₅⟩)) λ_ _ h'=>h'.elim)) λ_ _ h'=>h'.elim))
section
variable{X:Cx}{elt tg iter:Expr}{ifs:List Expr}{scope:Scope}{pos:Pos}{N':List Str}{cap:List (Option Nat)}{wi:TI}{g:TG}{tc:TT}{te:TE}
theorem kB:∀(names:List (Str×NameKind))(n:Nat)(acc:List (Str×Addr)),cellsFrom n names acc=cellsFrom n names []++acc
 | [],_,_=>rfl
 |(x,k)::r,n,acc=>by
  unfold cellsFrom;split
  ·rw[kB r (n+1) ((x,n)::acc),kB r (n+1) [(x,n)],Jk];rfl
  ·exact kB r n acc
theorem rB:∀(names:List (Str×NameKind))(n:Nat){x:Str}{c:Addr},(x,c)∈cellsFrom n names []->(x,NameKind.cell)∈names
 | [],_,_,_,h=>by simp[cellsFrom]at h
 |(y,k)::r,n,x,c,h=>by
  unfold cellsFrom at h;split at h
  ·rename_i hk;rw[kB]at h;rcases Jv.mp h with h|h
   ·exact IY _ (rB r _ h)
   ·have e:=Ji.mp h;cases e
    have:k=.cell:=by simpa using hk
    subst this;exact IZ
  ·exact IY _ (rB r _ h)
theorem G1{M:Model}{A:Around}{E:Value->Shared->Prop}{s:Shared}{globals:Addr}{cl:List (Str×Addr)}{qual:Str}{outer:Env}{Q:Env->Shared->Prop}
  (hQ:∀h',h'.Ns s.heap.objs.size (λ_=>none)->(∀b o,s.heap.get? b=some o->h'.get? b=some o)->CellsOk h' (s.heap.objs.size+1) (cellsFrom (s.heap.objs.size+1) scope.names [])->
   Q { scope:=scope,locals:=s.heap.objs.size,globals:=globals,cells:=cellsFrom (s.heap.objs.size+1) scope.names []++cl,qual:=qual,func:=none,code:=outer.code,frame:=outer.frame,builtins:=outer.builtins } { s with heap:=h' }) :
  wpAny M A (newFunctionEnv scope globals cl [] qual none .none (some outer)) Q E s:=by
 simp only[newFunctionEnv,Option.isSome_some,La];refine IV (wpAny_alloc ?_);refine IV (wpAny_layCells _ (λname kind cells=>by cases hkc:kind==NameKind.cell<;>simp[hkc]) _ _ _ _ ?_);have ok:=cellsFrom_ok scope.names (s.heap.push { cls:=.type "dict",data:=.dict #[] }) (s.heap.objs.size+1) [] ⟨λ_ _ hm=>(nomatch hm),List.Pairwise.nil⟩ (by rw[Jx];exact Jc _);rw[Jx]at ok;rw[show ({ s with heap:=s.heap.push { cls:=.type "dict",data:=.dict #[] } }:Shared).heap.objs.size=s.heap.objs.size+1 from Jx ..,kB];refine IV ?_;rw[Lw];exact Jf (Jf (hQ _ ((Heap.Ns.new s.heap (.type "dict")).keeps (pushCells_keeps _ _)) (λb o e=>pushCells_keeps _ _ b o (IX _ e)) ok))
theorem BZ{pins:List (Addr×Obj)}{σ:St}{H:Hp}{s s4:Shared}{cl nw:List (Str×Addr)}{C:Addr}{fp:List Addr}{m:Str->Option Value}(S:CompScope X.N X.env.scope scope N' cap)(I:Inv X pins σ H s)
  (Ql:∀x c,cl.lookup x=some c->X.env.cells.lookup x=some c) (Qw:∀x,(x,NameKind.free)∈scope.names->∃c,cl.lookup x=some c) (hC:s.heap.objs.size<=C) (P6:s4.os=s.os) (hg:s4.gens=s.gens)
  (hk:∀b o,s.heap.get? b=some o->s4.heap.get? b=some o) (hn:s4.heap.Ns C m) (Sb:∀b∈fp,cZ X pins H b) (hfz:∀b∈fp,b<s.heap.objs.size) (hw:CellsOk s4.heap (C+1) nw) (hwm:∀x c,(x,c)∈nw->(x,NameKind.cell)∈scope.names) (QR:∀x,(x,NameKind.cell)∈scope.names->∃c,nw.lookup x=some c) :
  Inv (cb X scope N' (nw++cl) C s H fp) [] (eZ cap σ) H s4:=by
 have QT:∀x c,(nw++cl).lookup x=some c->((x,c)∈nw/\C<c)\/(nw.lookup x=none/\X.env.cells.lookup x=some c):=λx c h=>by
  rw[Mf]at h
  cases e:nw.lookup x with
  |none=>rw[e]at h;exact .inr ⟨rfl,Ql x c (by simpa using h)⟩
  |some c'=>
   rw[e]at h
   have:c'=c:=by simpa using h
   subst this;exact .inl ⟨J9 e,(hw.empty _ _ (J9 e)).2⟩
 have hold:∀x c,X.env.cells.lookup x=some c->c<s.heap.objs.size:=λx c h=>by obtain⟨v,q⟩:=I.cell x c h;exact q.lt
 have Ro:∀x,(x,NameKind.free)∈scope.names->∃c,(nw++cl).lookup x=some c/\X.env.cells.lookup x=some c:=λx hx=>by
  obtain⟨c,hc⟩:=Qw x hx;refine⟨c,?_,Ql x c hc⟩;rw[Mf]
  cases e:nw.lookup x with
  |none=>simpa using hc
  |some c'=>
   have a1:=S.cel _ (hwm x c' (J9 e)) rfl;have a2:=S.fst _ hx rfl;have a1:scope.names.lookup x=some .cell:=a1;have a2:scope.names.lookup x=some .free:=a2;rw[a1]at a2;cases a2
 refine⟨⟨I.ok.mod,S.kind,I.ok.glob,I.ok.blt,hC,λx y c h1 h2=>?_,λx hx=>?_,λx c hx h=>?_,I.ok.hd,I.ok.frames,.inl rfl,
   λb hb=>⟨JM (Jw (hfz b hb) hC),λx c e=>?_⟩,I.bs,JE I.ok.bsz I.sz,λb o e hb=>?_,λb hb hf=>?_,I.stack,I.stkFree⟩,
  P6,by rw[hg];exact I.bare,Un.kept hk,⟨m,hn,λi x v h1 h2 h3=>?_⟩,λx c e=>?_,I.hok.fresh hC,λx c e=>?_,λp hp=>absurd (show p∈([]:List (Addr×Obj))from hp) (by simp),I.hok.kept hk,?_⟩
 ·rcases QT x c h1 with⟨a1,a2⟩|⟨_,a2⟩<;>rcases QT y c h2 with⟨b1,b2⟩|⟨_,b2⟩
  ·exact name_of_addr hw.apart a1 b1
  ·exact absurd (hold y c b2) (Nat.not_lt.mpr (JE hC (KL a2)))
  ·exact absurd (hold x c a2) (Nat.not_lt.mpr (JE hC (KL b2)))
  ·exact I.ok.inj x y c a2 b2
 ·have q:(x,NameKind.free)∈scope.names\/(x,NameKind.cell)∈scope.names:=by
   rcases hx with hx|hx
   ·exact oB hx (.inl rfl)
   ·exact oB hx (.inr rfl)
  rcases q with q|q
  ·obtain⟨c,h,_⟩:=Ro x q;exact⟨c,h⟩
  ·obtain⟨c,h⟩:=QR x q;exact⟨c,by show (nw++cl).lookup x=_;rw[Mf,h];rfl⟩
 ·have hx:(scope.names.lookup x==some .cell)=true:=hx
  have hx:scope.names.lookup x=some .cell:=by simpa using hx
  obtain⟨c',h'⟩:=QR x (J9 hx);rcases QT x c h with⟨_,a2⟩|⟨a1,_⟩
  ·exact JE hC (KL a2)
  ·rw[h']at a1;cases a1
 ·rcases QT x c e with⟨_,a2⟩|⟨_,a2⟩
  ·exact λz=>absurd (hfz b hb) (Nat.not_lt.mpr (JE hC (by rw[←z];exact KL a2)))
  ·exact (Sb b hb).2.2.2.2.1 x c a2
 ·rcases (Sb b hb).2.2.2.1 with z|z
  ·exact I.ok.noex b o e z
  ·exact absurd (Jw (Jm e) (JE I.ok.bsz z)) (KC _)
 ·rcases Jb.mp (I.stkSub b hf)with z|z
  ·exact (Sb b hb).2.1 z
  ·exact (Sb b hb).2.2.1 z
 ·have h2:(cap.map λo=>o.bind λi=>(σ[i]?).join)[i]?=some (some v):=h2;rw[Jd]at h2
  cases ec:cap[i]? with
  |none=>rw[ec]at h2;cases h2
  |some o=>
   rw[ec]at h2
   have h2:(o.bind λi=>(σ[i]?).join)=some v:=by simpa using h2
   cases o with
   |none=>cases h2
   |some j=>
    have h2:(σ[j]?).join=some v:=h2
    have hj:σ[j]?=some (some v):=by
     cases ej:σ[j]? with
     |none=>rw[ej]at h2;cases h2
     |some y=>rw[ej]at h2;exact Kl some h2
    have hz:(cap.zip N')[i]?=some (some j,x):=by rw[List.getElem?_zip_eq_some];exact⟨ec,h1⟩
    obtain⟨q1,q2⟩:=S.at_ _ (Jn hz) j rfl;obtain⟨mx,hnx,hl⟩:=I.loc;have kc:=S.free _ q2 rfl;obtain⟨u,r,lk⟩:=hl j x v q1 hj (.inr (.inl kc));refine⟨u,r,?_⟩;rcases lk with⟨k1,_⟩|⟨_,c,e,z⟩
    ·have:X.env.scope.names.lookup x=some .local:=k1;rw[kc]at this;cases this
    ·obtain⟨c',Rg,Qh⟩:=Ro x q2;rw[e]at Qh;cases Qh
     have kx:(compEnvC scope (nw++cl) C X.env).kindOf x=some .cell\/(compEnvC scope (nw++cl) C X.env).kindOf x=some .free\/(compEnvC scope (nw++cl) C X.env).kindOf x=some .local:=by
      rcases h3 with z|z|z
      ·exact .inr (.inr z)
      ·exact .inl z
      ·exact .inr (.inl z)
     rcases kx with kx|kx|kx
     ·exact .inr ⟨.inl kx,c,Rg,let ⟨o,ho,hd⟩:=z;⟨o,hk c o ho,hd⟩⟩
     ·exact .inr ⟨.inr kx,c,Rg,let ⟨o,ho,hd⟩:=z;⟨o,hk c o ho,hd⟩⟩
     ·exfalso;have kl:(relabel scope X.env).names.lookup x=some .local:=kx;have ml:=J9 kl;obtain⟨⟨n,k⟩,hm,e2⟩:=Jr.mp ml;have e2:(if (k==NameKind.free&&X.env.scope.kind==.function&&X.env.kindOf n==some .cell)=true then (n,NameKind.cell) else (n,k))=(x,NameKind.local):=e2;split at e2
      ·cases e2
      ·cases e2;have a1:=S.names _ hm rfl;have a3:scope.names.lookup x=some .free:=S.fst _ q2 rfl;have a1:scope.names.lookup x=some .local:=a1;rw[a3]at a1;cases a1
 ·rcases QT x c e with⟨a1,_⟩|⟨_,a2⟩
  ·exact⟨none,(hw.empty x c a1).1⟩
  ·obtain⟨v,o,ho,hd⟩:=I.cell x c a2;exact⟨v,o,hk c o ho,hd⟩
 ·rcases QT x c e with⟨_,a2⟩|⟨_,a2⟩
  ·exact I.hok.fresh (JE hC (KL a2))
  ·exact I.freeC x c a2
 ·show (eZ cap σ).length=N'.length;unfold eZ;rw[mn,S.len]
theorem rQ{pins:List (Addr×Obj)}{σ:St}{H2:Hp}{s2:Shared}{it:Addr}{fp:List Addr}{tn:Nat->Heap->Prop}{J:It}{cl:List (Str×Addr)}{RR:Value->Addr->Result->Shared->Prop}{E:Value->Shared->Prop}(ND:X.calm=true)(S:CompScope X.N X.env.scope scope N' cap)
  (hg:∀(cl:List (Str×Addr))(C:Addr)(s0:Shared)(H0:Hp),PG (cb X scope N' cl C s0 H0 fp) tg g) (ht:∀(cl:List (Str×Addr))(C:Addr)(s0:Shared)(H0:Hp),jB (cb X scope N' cl C s0 H0 fp) ifs tc) (he:∀(cl:List (Str×Addr))(C:Addr)(s0:Shared)(H0:Hp),PE (cb X scope N' cl C s0 H0 fp) elt te)
  (I2:Inv X pins σ H2 s2) (T:Turn X.prog X.w X.K tg J fp it tn) (Qk:tn 0 s2.heap) (f2:∀b∈fp,cZ X pins H2 b)
  (Ql:∀x c,cl.lookup x=some c->X.env.cells.lookup x=some c) (Qw:∀x,(x,NameKind.free)∈scope.names->∃c,cl.lookup x=some c)
  {P:V->Hp->Prop}
  (w:∀D,H2 D=none->∃W:Nat->Nat->St->Hp->Prop,(∃m,W 0 m (eZ cap σ) (ak H2 D (.lst []))) /\
   ∀i m σ' H',W i m σ' H'->(J.stop i H'/\P (.ref D) H')\/(J.go i H'/\∃N:St->Hp->Prop,(∀σ2 H2,N σ2 H2->∃m',m'<m/\W (i+1) m' σ2 H2) /\
    ∀x H2,J.yld i H' x H2->g x σ' H2 λσ3 H3=>tc σ3 H3 λb H4=>if b=true then te σ3 H4 λy H5=>∃ys,H5 D=some (.lst ys)/\ys.length<sizeLine/\N σ3 (ak H5 D (.lst (ys++[y]))) else N σ3 H4))
  (hRR:∀D C H' s' m',X.env.locals≠C->X.s₀.heap.objs.size<=C->(∀x c,X.env.cells.lookup x=some c->c≠C)->(∀p∈X.pn++pins,p.1≠C)->H' C=none->s'.heap.Ns C m'->Inv X pins σ H' s'->P (.ref D) H'->RR (.ref D) C (.ok .next) s') :
  wpAny (model X.prog X.w) X.A (newList []) (λacc s₃=>wpAny (model X.prog X.w) X.A (newFunctionEnv scope X.env.globals cl [] X.env.qual none .none (some X.env)) (λRq s₄=>
   codeAny (model X.prog X.w) X.A (.compStart (.ListComp elt [⟨tg,iter,ifs,0⟩] scope pos) 0 (.ref it) acc { Rq with scope:=relabel scope X.env }) (RR acc Rq.locals) s₄) E s₃) E s2:=by
 refine KR ?_ (by show 0<=sizeLine;decide);have I3:Inv X pins σ (ak H2 s2.heap.objs.size (.lst [])) { s2 with heap:=s2.heap.push { cls:=.type "list",data:=.seq ([]:List Value).toArray } }:=I2.lnew (t':=s2.toks) .nil (by show 0<=sizeLine;decide);have k3:∀b o,s2.heap.get? b=some o->(s2.heap.push { cls:=.type "list",data:=.seq ([]:List Value).toArray }).get? b=some o:=λb o e=>IX _ e;have z3:(s2.heap.push { cls:=.type "list",data:=.seq ([]:List Value).toArray }).objs.size=s2.heap.objs.size+1:=Jx ..;have hD0:H2 s2.heap.objs.size=none:=I2.fresh;generalize hs3:({ s2 with heap:=s2.heap.push { cls:=.type "list",data:=.seq ([]:List Value).toArray } }:Shared)=s3 at I3 ⊢
 have eh3:s3.heap=s2.heap.push { cls:=.type "list",data:=.seq ([]:List Value).toArray }:=by rw[←hs3]
 have eo3:s3.os=s2.os:=by rw[←hs3]
 generalize hDD:s2.heap.objs.size=D at I3 hD0 z3 ⊢;rw[←eh3]at k3 z3;have live:∀b∈fp,∃o,s2.heap.get? b=some o/\∀v,o.data≠.cell v:=λb hb=>T.obj 0 _ Qk b hb
 have Ta:∀b∈fp,b<D:=λb hb=>by obtain⟨o,e,_⟩:=live b hb;rw[←hDD];exact Jm e
 have f3:∀b∈fp,cZ X pins (ak H2 D (.lst [])) b:=λb hb=>⟨by rw[ba (JM (Ta b hb))];exact (f2 b hb).1,(f2 b hb).2⟩;refine G1 λh4 hn4 k4 ok4=>?_;generalize hnw:cellsFrom (s3.heap.objs.size+1) scope.names []=nw at ok4 ⊢;have st4:tn 0 h4:=T.keep 0 _ _ Qk λb _ o e=>k4 b o (k3 b o e)
 have I4:Inv (cb X scope N' (nw++cl) s3.heap.objs.size s3 (ak H2 D (.lst [])) fp) [] (eZ cap σ) (ak H2 D (.lst [])) { s3 with heap:=h4 }:=
  BZ S I3 Ql Qw (Jc _) rfl rfl k4 hn4 f3 (λb hb=>by rw[z3];exact K9 (Ta b hb)) ok4 (λx c h=>rB _ _ (hnw▸h)) λx h=>hnw▸pV (S.cel _ h rfl)
 obtain⟨W,⟨m0,w0⟩,turn⟩:=w D hD0
 have Tb:∀{H':Hp},(∀b∈fp,H' b=none)->∀b∈fp,cZ (cb X scope N' (nw++cl) s3.heap.objs.size s3 (ak H2 D (.lst [])) fp) [] H' b:=λhn b hb=>
  ⟨hn b hb,JM (by show b<s3.heap.objs.size;rw[z3];exact K9 (Ta b hb)),λhf=>I4.ok.exfs b hb hf,.inl hb,λx c e=>(I4.ok.exf b hb).2 x c e,λp hp=>absurd (show p∈([]:List (Addr×Obj))from hp) (by simp)⟩
 have loop:∀s₃:Shared,s₃={ s3 with heap:=h4 }->
   codeAny (model X.prog X.w) X.A (.compLoop (.ListComp elt [⟨tg,iter,ifs,0⟩] scope pos) 0 (.ref it) (.ref D) (compEnvC scope (nw++cl) s3.heap.objs.size X.env)) (RR (.ref D) s3.heap.objs.size) s₃:=by
  rintro s₃ rfl
  refine CW (λn s'=>∃i σ' H',Inv (cb X scope N' (nw++cl) s3.heap.objs.size s3 (ak H2 D (.lst [])) fp) [] σ' H' s'/\tn i s'.heap/\(∀b∈fp,H' b=none)/\W i n σ' H') ?_ m0
   ⟨0,eZ cap σ,ak H2 D (.lst []),I4,st4,λb hb=>(f3 b hb).1,w0⟩
  rintro n s5 ⟨i,σ5,H5,I5,QO,R4,w5⟩;rcases turn i n σ5 H5 w5 with⟨stop,qn⟩|⟨go,N,hN,step⟩
  ·refine aw (T.done (cb X scope N' (nw++cl) s3.heap.objs.size s3 (ak H2 D (.lst [])) fp) rfl rfl rfl ND i [] s5 σ5 H5 _ I5 (Tb R4) QO stop) λr s6 Nb=>?_;obtain⟨hr,I6⟩:=Nb;subst hr;obtain⟨m6,hn6,_⟩:=I6.loc;have un:Un (fh X.stack) fp (ak H2 D (.lst [])) H5 s3.heap s6.heap:=I6.base;refine hRR D s3.heap.objs.size H5 s6 m6 (JM I3.lt) I3.sz (λx c e=>?_) (λp hp=>?_) I6.free hn6 ?_ qn
   ·obtain⟨v,q⟩:=I3.cell x c e;exact JM q.lt
   ·exact JM (Jm (I3.pin p hp).1)
   ·exact I3.call' I6.os un I6.hok I6.bare λb hb=>⟨(f3 b hb).2.2.2.1,(f3 b hb).2.1,(f3 b hb).2.2.2.2.1,(f3 b hb).2.2.2.2.2⟩
  ·refine aw (T.item (cb X scope N' (nw++cl) s3.heap.objs.size s3 (ak H2 D (.lst [])) fp) rfl rfl rfl ND i [] s5 σ5 H5 (λ_ _=>False) I5 (Tb R4) QO go) λr s6 NN=>?_;obtain⟨u,hr,h6⟩:=NN;subst hr;refine aw h6 λ_ s7 Of=>?_;obtain⟨x,H7,I7,r7,y7,Tc,fr7⟩:=Of;have I7':=I7.pinned (Tb fr7) (T.obj _ _ Tc);refine aw (hg _ _ _ _ _ s7 σ5 H7 x u _ I7' r7 (step x H7 y7)) λ_ s8 O8=>?_;obtain⟨σ8,H8,I8,q8⟩:=O8;refine aw (ht _ _ _ _ _ s8 σ8 H8 _ I8 q8) λb s9 SR=>?_;obtain⟨H9,I9,q9⟩:=SR
   have again:∀{σ9:St}{H9:Hp}{s9:Shared},Inv (cb X scope N' (nw++cl) s3.heap.objs.size s3 (ak H2 D (.lst [])) fp) ([]++jY fp s7.heap) σ9 H9 s9->N σ9 H9->∃m,m<n/\∃i σ' H',Inv (cb X scope N' (nw++cl) s3.heap.objs.size s3 (ak H2 D (.lst [])) fp) [] σ' H' s9/\tn i s9.heap/\(∀b∈fp,H' b=none)/\W i m σ' H':=λ{σ9 H9 s9} I9 n9=>by obtain⟨m',hm,w9⟩:=hN σ9 H9 n9;refine⟨m',hm,i+1,σ9,H9,I9.unpinned,T.keep _ _ _ Tc λb hb o e=>(I9.pin (b,o) (JO _ (JO _ (mP hb e)))).1,λb hb=>?_,w9⟩;obtain⟨o,e,d⟩:=T.obj _ _ Tc b hb;exact (I9.pin (b,o) (JO _ (JO _ (mP hb e)))).2.1
   cases b with
   |false=>
    rw[I0 (by decide)]at q9 ⊢;exact again I9 q9
   |true=>
    rw[Ja rfl]at q9 ⊢;refine aw (he _ _ _ _ _ s9 σ8 H9 _ I9 q9) λyv Qx SU=>?_;obtain⟨y,Td,I10,r10,ys,Te,Tf,q10⟩:=SU;refine aw (mM _ Qx σ8 Td (.ref D) [y] (.ref D) [yv] (λ_ H'=>N σ8 H') I10 rfl (.cons r10 .nil) ⟨D,ys,y,rfl,rfl,Te,Tf,q10⟩) λ_ s11 hq6=>?_;obtain⟨_,H11,I11,_,q11⟩:=hq6;exact again I11 q11
 exact codeAny_compStart_list (loop _ rfl) (T.self _ 0 _ _ _ st4 (loop _ rfl))
theorem E7(ND:X.calm=true)(S:CompScope X.N X.env.scope scope N' cap)(hi:PI X tg iter wi)
  (hg:∀(cl:List (Str×Addr))(fp:List Addr)(C:Addr)(s0:Shared)(H0:Hp),PG (cb X scope N' cl C s0 H0 fp) tg g) (ht:∀(cl:List (Str×Addr))(fp:List Addr)(C:Addr)(s0:Shared)(H0:Hp),jB (cb X scope N' cl C s0 H0 fp) ifs tc)
  (he:∀(cl:List (Str×Addr))(fp:List Addr)(C:Addr)(s0:Shared)(H0:Hp),PE (cb X scope N' cl C s0 H0 fp) elt te) (hs:∀x,foldedSetIterable iter X.env x=pure x:=by intro _;rfl) :
  PE X (.ListComp elt [⟨tg,iter,ifs,0⟩] scope pos) (gK wi cap g tc te):=by
 intro pins s σ H Q I h;obtain⟨cl,Tg,Ql,Qw⟩:=xj (scope:=scope) (env:=X.env) λx hx hf=>I.ok.has x.1 (.inl (S.free x hx hf));rw[eval_ListComp];refine wpAny_comprehension_free (use:=none) rfl hs Tg S.kind S.names (aw (hi pins s σ H _ I h) λv s1 h1=>aw h1 λR1 s2 h2=>?_);obtain⟨it,fp,tn,J,H2,e,I2,T,Qk,f2,w⟩:=h2;subst e;refine rQ (RR:=λacc C=>compPost (model X.prog X.w) X.A X.xe none (EP X pins σ Q) acc C) ND S (λcl=>hg cl fp) (λcl=>ht cl fp) (λcl=>he cl fp) I2 T Qk f2 Ql Qw (P:=Q) w ?_;intro D C H' s' m' hL hz Qq Th hC hn I' q;refine⟨m',hn,λh' Rr=>⟨.ref D,H',I'.turned (t':=s'.toks) (λb o hb e=>(Rr.2 b hb).trans e) hC (J7 hL) (.inr hz) Qq Th,rfl,q⟩⟩
theorem oC{i:Nat}{y:Str}{py Nl:Pos}(ND:X.calm=true)(hN:X.N.Nodup)(hy:X.N[i]?=some y)(hx:di X.env.scope y)(S:CompScope X.N X.env.scope scope N' cap)(hi:PI X tg iter wi)
  (hg:∀(cl:List (Str×Addr))(fp:List Addr)(C:Addr)(s0:Shared)(H0:Hp),PG (cb X scope N' cl C s0 H0 fp) tg g) (ht:∀(cl:List (Str×Addr))(fp:List Addr)(C:Addr)(s0:Shared)(H0:Hp),jB (cb X scope N' cl C s0 H0 fp) ifs tc)
  (he:∀(cl:List (Str×Addr))(fp:List Addr)(C:Addr)(s0:Shared)(H0:Hp),PE (cb X scope N' cl C s0 H0 fp) elt te) (Qy:swapsWith (.ListComp elt [⟨tg,iter,ifs,0⟩] scope pos) (some (.Name y py)) Nl.line X.env=pure true:=by rfl)
  (hs:∀x,foldedSetIterable iter X.env x=pure x:=by intro _;rfl) (hf:X.fn y=true\/X.env.scope.names.lookup y=some .local:=by nofun) :
  PS X (.Assign [.Name y py] (.ListComp elt [⟨tg,iter,ifs,0⟩] scope pos) Nl) (iP (gK wi cap g tc te) (gQ i)):=by
 intro pins s σ H D I h;obtain⟨cl,Tg,Ql,Qw⟩:=xj (scope:=scope) (env:=X.env) λx hx hf=>I.ok.has x.1 (.inl (S.free x hx hf));rw[exec_Assign_Name_used _ _ _ _ Qy];refine IV (Mn (IV ?_));show wpAny _ X.A (do let _ ←comprehension (.ListComp elt [⟨tg,iter,ifs,0⟩] scope pos) scope X.env _ (newList []) false (eval iter X.env) (some (assign (.Name y py) X.env))) _ _ s
 refine IV (KD (wpAny_comprehension_free (use:=some (assign (.Name y py) X.env)) (Q:=λ_ s'=>SP X pins D .next s') rfl hs Tg S.kind S.names
  (aw (hi pins s σ H _ I h) λv s1 h1=>aw h1 λR1 s2 h2=>?_)) (λ_ s' hq=>Jf (Jf hq)) λ_ _ e=>e)
 obtain⟨it,fp,tn,J,H2,e,I2,T,Qk,f2,w⟩:=h2;subst e;refine rQ (RR:=λacc C=>compPost (model X.prog X.w) X.A X.xe (some (assign (.Name y py) X.env)) (λ_ s'=>SP X pins D .next s') acc C) ND S (λcl=>hg cl fp) (λcl=>ht cl fp) (λcl=>he cl fp) I2 T Qk f2 Ql Qw (P:=λv H'=>D.nx (σ.set i (some v)) H') w ?_;intro Dd C H' s' m' hL hz Qq Th hC hn I' q;show wpAny _ X.A (assign (.Name y py) X.env (.ref Dd)) _ _ s';refine wpAny_assign_Name (wg (v:=.ref Dd) I' hN hy hx rfl (λRi I'' hsb=>?_) hf);obtain⟨a,sb,ha⟩:=hsb
 have hCa:C≠a:=by
  rcases ha with z|z
  ·rw[z];exact J7 hL
  ·exact J7 (Qq y a z)
 refine⟨m',hn.sameBut sb hCa,λh' Rr=>?_⟩;exact⟨_,H',I''.turned (t':=Ri.toks) (λb o hb e=>(Rr.2 b hb).trans e) hC (J7 hL) (.inr hz) Qq Th,q⟩
end
open AutoSeq1 (wpAny_loadPart')
theorem Inv.turnedL{X:Cx}{pins:List (Addr×Obj)}{σ:St}{H:Hp}{s:Shared}{h':Heap}{ch:List Addr}{t':Nat}(I:Inv X pins σ H s)(k:∀b o,b∉ch->s.heap.get? b=some o->h'.get? b=some o)(hf:∀b∈ch,cZ X pins H b) :
  Inv X pins σ H { s with heap:=h',toks:=t' }:=by
 have Rf:∀b u,H b=some u->b∉ch:=λb u e z=>by rw[(hf b z).1]at e;cases e
 refine I.step (g':=s.gens) (d':=s.drawn) (ch:=ch) (λb hb=>⟨(hf b hb).2.2.2.1,(hf b hb).2.1,(hf b hb).2.2.2.2.1,(hf b hb).2.2.2.2.2⟩) (λb o _ _ hc e _=>k b o hc e) (λb o _ _ hc e _=>⟨o.slots,k b o hc e⟩) (λ_ _ _ _ n=>n)
  (λb o hc e=>⟨o,k b o hc e⟩) (λ_ _ e=>e) (λ_ _ _ e=>e) (λb ps e=>e) (λm hm=>?_) (λb u e=>?_) I.bare
 ·obtain⟨o,es,ep,ho,r⟩:=hm;exact⟨o,es,ep,k _ o (λz=>(hf _ z).2.1 rfl) ho,r⟩
 ·refine (I.hok b u e).stay (λc v hc q=>k c v ?_ q) (λ_ q=>q) (λ_ _ q=>q) λ_ _ _ q=>q;rcases hc with z|z
  ·rw[z];exact Rf b u e
  ·exact Rf c _ z
noncomputable def SqI(b:Bool)(h:Heap)(it a:Addr)(i:Nat):Prop:=match b with|true=>h.IsListIter it a i|false=>h.IsTupleIter it a i
noncomputable def SqO(b:Bool)(h:Heap)(a:Addr)(Nc:Array Value):Prop:=match b with|true=>h.IsList a Nc|false=>h.IsTuple a Nc
noncomputable def SqB(K:Frag)(b:Bool)(H:Hp)(a:Addr)(xs:List V):Prop:=match b with|true=>SqL K H a xs|false=>SqT K H a xs
noncomputable def bh(b:Bool)(a:Addr):Obj:=match b with
 |true=>{ cls:=.type "list_iterator",data:=.fields #[.ref a,.int 0 0] }
 |false=>{ cls:=.type "tuple_iterator",data:=.fields #[.ref a,.int 0 0] }
theorem SqI.at{b:Bool}{h h':Heap}{it a:Addr}{i:Nat}(x:SqI b h it a i)(k:∀o,h.get? it=some o->h'.get? it=some o):SqI b h' it a i:=by cases b<;>(obtain⟨o,e,r⟩:=x;exact⟨o,k o e,r⟩)
theorem SqO.at{b:Bool}{h h':Heap}{a:Addr}{Nc:Array Value}(x:SqO b h a Nc)(k:∀o,h.get? a=some o->h'.get? a=some o):SqO b h' a Nc:=by cases b<;>(obtain⟨o,e,r⟩:=x;exact⟨o,k o e,r⟩)
theorem SqI.obj{b:Bool}{h:Heap}{it a:Addr}{i:Nat}(x:SqI b h it a i):∃o,h.get? it=some o/\∀v,o.data≠.cell v:=by cases b<;>(obtain⟨o,e,_,d⟩:=x;exact⟨o,e,λv z=>by rw[d]at z;cases z⟩)
theorem SqI.lt{b:Bool}{h:Heap}{it a:Addr}{i:Nat}(x:SqI b h it a i):it<h.objs.size:=by obtain⟨o,e,_⟩:=x.obj;exact Jm e
theorem SqO.lt{b:Bool}{h:Heap}{a:Addr}{Nc:Array Value}(x:SqO b h a Nc):a<h.objs.size:=by cases b<;>(obtain⟨o,e,_⟩:=x;exact Jm e)
theorem Inv.sqb{X:Cx}{pins:List (Addr×Obj)}{σ:St}{H:Hp}{s:Shared}{b:Bool}{a:Addr}{xs:List V}(I:Inv X pins σ H s)(h:SqB X.K b H a xs):∃Nc:List Value,Vals xs Nc/\SqO b s.heap a Nc.toArray/\xs.length<=sizeLine:=by
 cases b with
 |true=>obtain⟨Nc,rv,p,hz⟩:=I.list h;exact⟨Nc,rv,p.isList,hz⟩
 |false=>obtain⟨Nc,rv,p,hz⟩:=I.tuple h;exact⟨Nc,rv,p,hz⟩
theorem Inv.sqb_inj{X:Cx}{pins:List (Addr×Obj)}{σ:St}{H:Hp}{s:Shared}{b:Bool}{a:Addr}{xs ys:List V}(I:Inv X pins σ H s)(h:SqB X.K b H a xs)(h':SqB X.K b H a ys):xs=ys:=by
 cases b with
 |true=>exact I.list_inj h h'
 |false=>exact I.tuple_inj h h'
theorem SqB.same{K:Frag}{b:Bool}{H H':Hp}{a:Addr}{xs:List V}(e:Same H H')(h:SqB K b H a xs):SqB K b H' a xs:=by
 cases b with
 |true=>exact e.seq h
 |false=>
  rcases h with (h|⟨o,h⟩)|h
  ·exact .inl (.inl (e _ _ h))
  ·exact .inl (.inr ⟨o,e _ _ h⟩)
  ·exact .inr h
section
variable{prog:Program}{w:World}{A:Around}{E:Value->Shared->Prop}{s:Shared}
theorem i5{b:Bool}{a:Addr}{Nc:Array Value}{Q:Value->Shared->Prop}(h:SqO b s.heap a Nc)(q:Q (.ref s.heap.objs.size) { s with heap:=s.heap.push (bh b a) }):wpAny (model prog w) A (pyIter (.ref a)) Q E s:=by
 cases b with
 |true=>exact Mp h q
 |false=>exact KY h q
theorem gX{b:Bool}{h:Heap}{it a:Addr}(e:h.get? it=some (bh b a)):SqI b h it a 0:=by cases b<;>exact⟨_,e,rfl,rfl⟩
theorem gF{b:Bool}{it a:Addr}{i:Nat}{Nc:Array Value}{x:Value}{Q:Value->Shared->Prop}(hit:SqI b s.heap it a i)(hl:SqO b s.heap a Nc)(hx:Nc[i]?=some x)
  (hQ:∀h',SqI b h' it a (i+1)->Heap.SameBut it s.heap h'->Q x { s with heap:=h' }):wpAny (model prog w) A (Builtin.SmallTypes.nextOf (.ref it)) Q E s:=by
 cases b with
 |true=>exact wpAny_nextOf_list_item hit hl hx hQ
 |false=>
  have hit:s.heap.IsTupleIter it a i:=hit;obtain⟨o,ho,hc,hd⟩:=id hit;obtain⟨ol,Ti,_,nl,Tj⟩:=hl;unfold Builtin.SmallTypes.nextOf;refine IV (Ka (name:=Str.ofString "__next__") hit.typeIs K1 (Ks K1 hit.typeIs Mg ?_ (Mc _)));show wpAny _ _ (field (.ref it) 0 >>= _) _ _ s;refine IV (JS ho hd (x:=.ref a) rfl ?_);show wpAny _ _ (if (Value.ref a==Value.none)=true then _ else _) _ _ s;rw[I0 (show ¬ ((Value.ref a==Value.none)=true)from JJ)];show wpAny _ _ (field (.ref it) 1 >>= _) _ _ s;refine IV (JS ho hd (x:=.int i 0) rfl ?_);show wpAny _ _ (seqItems? (.ref a) >>= _) _ _ s;refine IV (J4 Ti Tj ?_);simp only[Kb,hx];refine IV (wpAny_setField ho hd (by simp) (Jf ⟨x,rfl,Jf (hQ _ ?_ (L9 ..))⟩));exact⟨_,LR _ ho (Obj.isFreed_of_fields (Obj.data_mapFields hd _)),(Obj.cls_mapFields ..).trans hc,by rw[Obj.data_mapFields hd];simp[rawInt]⟩
theorem iH{b:Bool}{it a:Addr}{i:Nat}{Nc:Array Value}{Q:Value->Shared->Prop}(hh:A.handled=none)(hit:SqI b s.heap it a i)(hl:SqO b s.heap a Nc)(hx:Nc[i]?=none)
  (hE:∀h' e,Heap.ExtBut it s.heap h'->(∃o,h'.get? e=some o/\o.cls=.type "StopIteration")->E (.ref e) { s with heap:=h' }):wpAny (model prog w) A (Builtin.SmallTypes.nextOf (.ref it)) Q E s:=by
 cases b with
 |true=>exact wpAny_nextOf_list_end hh hit hl hx hE
 |false=>
  have hit:s.heap.IsTupleIter it a i:=hit;obtain⟨o,ho,hc,hd⟩:=id hit;obtain⟨ol,Ti,_,nl,Tj⟩:=hl;unfold Builtin.SmallTypes.nextOf;refine IV (Ka (name:=Str.ofString "__next__") hit.typeIs K1 (Ks K1 hit.typeIs Mg ?_ (Mc _)));show wpAny _ _ (field (.ref it) 0 >>= _) _ _ s;refine IV (JS ho hd (x:=.ref a) rfl ?_);show wpAny _ _ (if (Value.ref a==Value.none)=true then _ else _) _ _ s;rw[I0 (show ¬ ((Value.ref a==Value.none)=true)from JJ)];show wpAny _ _ (field (.ref it) 1 >>= _) _ _ s;refine IV (JS ho hd (x:=.int i 0) rfl ?_);show wpAny _ _ (seqItems? (.ref a) >>= _) _ _ s;refine IV (J4 Ti Tj ?_);simp only[Kb,hx];refine IV (L0 (IV (wpAny_setField ho hd (by simp) ?_)));show wpAny _ _ (newExc (.type "StopIteration") [] >>= _) _ _ _;refine IV ?_;simp only[newExc,newTuple];refine IV (KR ?_ (by size_fits));refine IV (m:=firstArgMember _ _) (wpAny_of_eq (a:=Value.none) (by first|rfl|(simp only[firstArgMember];rfl)) ?_);refine KR ?_ (by size_fits);simp only[raiseNew];refine IV (wpAny_handled ?_)
  first|rw[show A.in1.handled=none from hh]|rw[hh]
  refine IV (Jf (wpAny_throw ?_));exact hE _ _ (((L9 ..).extBut.push _).push _) ⟨_,Jh _ rfl,rfl⟩
theorem E8(hh:A.handled=none)(b:Bool)(it a:Addr)(N4:a≠it)(Nc:Array Value):Draws prog w A it [it,a] Nc.size (λi v=>Nc[i]?=some v) (λi h=>SqI b h it a i/\SqO b h a Nc) where
 live:=λ_ _ st=>let ⟨o,e,_⟩:=st.1.obj;⟨o,e⟩
 frame:=λ_ _ _ st k=>⟨st.1.at λo e=>k it (by simp) o e,st.2.at λo e=>k a (by simp) o e⟩
 item:=λi s Q E hi st hQ=>gF st.1 st.2 (x:=Nc[i]) (by simp[hi]) λh' q sb=>hQ _ h' s.toks (by simp[hi]) ⟨q,st.2.at λo e=>(sb.2 a N4).trans e⟩ sb
 done:=λs Q E st hE=>iH hh st.1 st.2 (by simp) hE
theorem ED(l:Addr)(items:Array Value)(n:Nat)(dct:Option Addr)(sl:Array (Option Value)) :
  Meets (Builtin.«enumerate.__new__» ⟨[.type "enumerate",.ref l],[]⟩) (λ_ R s=>s.heap.get? l=some { cls:=.type "tuple",dict:=dct,data:=.seq items n,slots:=sl } /\
   R (.ok (.ret (.ref (s.heap.push (bh false l)).objs.size)))
    { s with heap:=(s.heap.push (bh false l)).push { cls:=.type "enumerate",data:=.fields #[.none,.bool false,.ref s.heap.objs.size,rawInt 0,.none,.none] } }):=
 .of_wp λprog w A R s h=>by
  obtain⟨hp,g,d,tk,os⟩:=s;obtain⟨hl,h⟩:=h;have Rt:=sub_enumerate;have hL:Heap.IsTuple (Shared.heap ⟨hp,g,d,tk,os⟩) l items:=⟨_,hl,rfl,n,rfl⟩
  wp_walk using JX hl
  refine wpAny_stack_any λst=>Jf ?_;split
  ·rename_i c _ _ _ _ _;cases (c==Value.type "enumerate")
   ·(wp_walk using JX hl,KY hL);exact⟨_,rfl,h⟩
   ·(wp_walk using JX hl,KY hL);exact⟨_,rfl,h⟩
  ·(wp_walk using JX hl,KY hL);exact⟨_,rfl,h⟩
theorem Ii{b:Bool}{l:Addr}{items:Array Value}{Q:Value->Shared->Prop}(hL:SqO b s.heap l items)
  (h:∀h',IsEnum h' (s.heap.objs.size+1) s.heap.objs.size 0 .none->SqI b h' s.heap.objs.size l 0->h'.objs.size=s.heap.objs.size+2->(∀b o,s.heap.get? b=some o->h'.get? b=some o)->Q (.ref (s.heap.objs.size+1)) { s with heap:=h' }) :
  wpAny (model prog w) A (call (.type "enumerate") [.ref l]) Q E s:=by
 cases b with
 |true=>exact call_enumerate_list hL h
 |false=>
  obtain⟨⟨c,dct,dt,sl⟩,hl,hc,n,hd⟩:=hL;replace hc:c=.type "tuple":=hc;replace hd:dt=.seq items n:=hd;subst hc hd;refine callType_new F.called_enumerate (by decide) (F.typeCall_enumerate_1 _) (F.newCall_enumerate_1 _) (λobj=>F.args_object_init_2 obj _) F.entry_enumerate_new (ED l items n dct sl) ⟨hl,?_⟩;have hz:(s.heap.push (bh false l)).objs.size=s.heap.objs.size+1:=Jx ..;show _/\_;rw[hz];have he:=Jh (s.heap.push (bh false l)) (o:={ cls:=.type "enumerate",data:=.fields #[.none,.bool false,.ref s.heap.objs.size,rawInt 0,.none,.none] }) rfl;rw[hz]at he;have hi:(s.heap.push (bh false l)).get? s.heap.objs.size=some (bh false l):=Jh _ rfl;exact⟨⟨_,he,rfl⟩,h _ he (gX (IX _ hi)) (by rw[Jx,hz]) λb o x=>IX _ (IX _ x)⟩
theorem AF{b:Bool}{e it a:Addr}{i:Nat}{j:Int}{Nc:Array Value}{old:Value}{Q:Option Value->Shared->Prop}(hh:A.handled=none)(he:IsEnum s.heap e it j old)(hit:SqI b s.heap it a i)(hl:SqO b s.heap a Nc)(hx:Nc[i]?=none)
  (hQ:∀h',Heap.ExtBut it s.heap h'->Q none { s with heap:=h' }):wpAny (model prog w) A (pyNext (.ref e)) Q E s:=by
 have hT:s.TypeIs (.ref e) "enumerate":=⟨_,he,rfl⟩;unfold pyNext;refine IV (LK (Ka (name:=Str.ofString "__next__") hT F.slot_enumerate_next (Ks F.slot_enumerate_next hT F.entry_enumerate_next ?_ (F.args_enumerate_next_1 _))));show wpAny _ _ (field (.ref e) 2 >>= _) _ _ _;refine IV (JS he rfl (x:=.ref it) rfl (IV (iH hh hit hl hx λh' x he' Ru=>?_)));obtain⟨o,ho,hc⟩:=Ru;exact IV (MA (T:="StopIteration") (b:=true) ⟨o,ho,hc⟩ isSubtype_stop (Jf (hQ _ he')))
end
noncomputable def mH(K:Frag)(b:Bool)(a:Addr):It:=
 ⟨λi H=>∃xs x,SqB K b H a xs/\xs[i]?=some x,λi H x H'=>∃t y,H t=none/\x=.ref t/\H'=ak H t (.tup [.int i,y])/\∀xs,SqB K b H a xs->xs[i]?=some y,λi H=>∃xs,SqB K b H a xs/\xs.length<=i⟩
theorem A0{P:Program}{w:World}{K:Frag}{es:List Expr}{k:Nat}{pos:Pos}(b:Bool)(a e it:Addr)(Tn:e≠it):Turn P w K (.Tuple es k pos) (mH K b a) [e,it] e (λi h=>(∃old,IsEnum h e it i old)/\SqI b h it a i) where
 mem:=by simp
 obj:=λi h st c hc=>by
  obtain⟨⟨old,he⟩,hs⟩:=st;rcases Jb.mp hc with rfl|hc
  ·exact⟨_,he,λv z=>by have z':Data.fields _=Data.cell v:=z;cases z'⟩
  ·rw[Ji.mp hc];exact hs.obj
 keep:=λi h h' st k=>by obtain⟨⟨old,he⟩,hs⟩:=st;exact⟨⟨old,k e (by simp) _ he⟩,hs.at λo q=>k it (by simp) o q⟩
 item:=by
  intro X hP hw hK hc i pins s σ H E I hf st hg;subst hP hw hK;obtain⟨xs,x,hq,hx⟩:=hg;obtain⟨⟨old,he⟩,hs⟩:=st;obtain⟨Nc,rv,p,hz⟩:=I.sqb hq;obtain⟨u,hu,ru⟩:=rv.get hx
  have N4:a≠it:=λz=>by
   subst z
   have h1:=p;have h2:=hs
   cases b<;>(obtain⟨o1,e1,c1,_⟩:=h1;obtain⟨o2,e2,c2,_⟩:=h2;rw[e1]at e2;cases e2;rw[c1]at c2;exact absurd c2 (by simp))
  have Qz:a≠e:=λz=>by
   subst z;have h1:=p;cases b<;>(obtain⟨o1,e1,c1,_⟩:=h1;rw[he]at e1;cases e1;exact absurd c1 (by simp))
  have hil:i<Nc.toArray.size:=by have:i<Nc.length:=(JN.mp hu).1;simpa using this
  have hh:X.A.in1.handled=none:=I.ok.hd hc;refine wpAny_pyNext_enum_itemD (E8 hh b it a N4 Nc.toArray) he ⟨hs,p⟩ hil Tn (by simp[Tn,J7 Qz]) λy h' tk hP' ho N5 hT hsz hk=>?_
  have hy:y=u:=by
   have:Nc.toArray[i]?=some u:=by simpa using hu
   rw[this]at hP';exact (JV hP').symm
  subst hy;refine⟨.ref s.heap.objs.size,rfl,wpAny_letOwnedTupleGo_enum ho λh2 QU NL=>?_⟩;have zn:H s.heap.objs.size=none:=I.fresh
  have I1:Inv X pins σ (ak H s.heap.objs.size (.tup [.int i,x])) { s with heap:=s.heap.push { cls:=.type "tuple",data:=.seq #[.int i tk,y] },toks:=tk }:=
   I.laid (λc o q=>IX _ q) (Jc _) ⟨by show 2<=sizeLine;decide,[.int i tk,y],.cons ⟨tk,rfl⟩ (.cons ru .nil),_,Jh _ rfl,⟨rfl,rfl⟩,0,rfl⟩
  have Rv:∀c∈[e,it],c<s.heap.objs.size:=λc hc=>by
   rcases Jb.mp hc with rfl|hc
   ·exact Jm he
   ·rw[Ji.mp hc];exact hs.lt
  have f1:∀c∈[e,it],cZ X pins (ak H s.heap.objs.size (.tup [.int i,x])) c:=λc hc=>⟨by rw[ba (JM (Rv c hc))];exact (hf c hc).1,(hf c hc).2⟩;have I2:=I1.turnedL (h':=h2) (ch:=[e,it]) (t':=tk+1) (λc o hc q=>?_) f1
  ·refine⟨.ref s.heap.objs.size,_,I2,rfl,⟨s.heap.objs.size,x,zn,rfl,rfl,λys hy=>by rw[I.sqb_inj hy hq];exact hx⟩,⟨⟨_,by simpa using QU⟩,N5.1.at λo q=>(NL.2 it (J7 Tn)).trans q⟩,λc hc=>(f1 c hc).1⟩
  ·have OU:c≠e:=λz=>hc (by simp[z]);have hci:c≠it:=λz=>hc (by simp[z]);refine (NL.2 c OU).trans ?_;rcases L1 q with⟨z,z'⟩|q'
   ·subst z;subst z';exact hT
   ·exact hk c o OU hci q'
 done:=by
  intro X hP hw hK hc i pins s σ H E I hf st hg;subst hP hw hK;obtain⟨xs,hq,hx⟩:=hg;obtain⟨⟨old,he⟩,hs⟩:=st;obtain⟨Nc,rv,p,hz⟩:=I.sqb hq;have hl:=rv.length;refine AF (I.ok.hd hc) he hs p (by simp;omega) λh' eb=>⟨rfl,?_⟩;exact I.turnedL (ch:=[e,it]) (t':=s.toks) (λc o hc q=>eb c o (λz=>hc (by simp[z])) q) hf
 self:=λ_ _ _ _ _ st h=>by obtain⟨⟨old,he⟩,_⟩:=st;exact wpAny_pyIter_enum he h
end L2
namespace L2
open PySem PySem.Spec PyProof.Rows
open AutoSeq1 (wpAny_loadPart')
structure ZAp(z TI TO i1 i2:Addr):Prop where
 a1:TI≠z
 a2:TO≠z
 a3:i1≠z
 a4:i2≠z
 a5:TI≠TO
 a6:TI≠i1
 a7:TI≠i2
 a8:TO≠i1
 a9:TO≠i2
 a0:i1≠i2
theorem SqI.but{b:Bool}{h h':Heap}{it a c:Addr}{i:Nat}(x:SqI b h it a i)(s:Heap.SameBut c h h')(n:it≠c):SqI b h' it a i:=x.at λo e=>(s.2 it n).trans e
theorem SqO.but{b:Bool}{h h':Heap}{a c:Addr}{Nc:Array Value}(x:SqO b h a Nc)(s:Heap.SameBut c h h')(n:a≠c):SqO b h' a Nc:=x.at λo e=>(s.2 a n).trans e
theorem SqO.ne{b:Bool}{h:Heap}{a c:Addr}{Nc:Array Value}{o:Obj}(x:SqO b h a Nc)(e:h.get? c=some o)(n1:o.cls≠.type "list")(n2:o.cls≠.type "tuple"):a≠c:=λz=>by
 subst z;cases b<;>(obtain⟨o',e',c',_⟩:=x;rw[e]at e';cases e')
 ·exact n2 c'
 ·exact n1 c'
theorem SqO.ne_it{b b':Bool}{h:Heap}{a it l:Addr}{Nc:Array Value}{i:Nat}(x:SqO b h a Nc)(y:SqI b' h it l i):a≠it:=by cases b'<;>(obtain⟨o,e,c,_⟩:=y;exact x.ne e (by rw[c];simp) (by rw[c];simp))
section
variable{prog:Program}{w:World}{A:Around}{E:Value->Shared->Prop}{s:Shared}
theorem Hl{b1 b2:Bool}{z TI TO i1 i2 l1 l2:Addr}{k1 k2:Nat}{xs ys:Array Value}{x y a b:Value}{Q:Value->Shared->Prop}(D:ZAp z TI TO i1 i2)
  (hz:IsZip s.heap z TI TO .none) (OZ:IsPair s.heap TI (.ref i1) (.ref i2)) (O0:IsPair s.heap TO a b) (n1:l1≠TO) (n2:l2≠TO)
  (h1:SqI b1 s.heap i1 l1 k1) (h2:SqI b2 s.heap i2 l2 k2) (NU:SqO b1 s.heap l1 xs) (NS:SqO b2 s.heap l2 ys) (hx:xs[k1]?=some x) (hy:ys[k2]?=some y)
  (hQ:∀h',IsZip h' z TI TO (rawInt s.heap.objs.size)->IsPair h' TO x y->SqI b1 h' i1 l1 (k1+1)->SqI b2 h' i2 l2 (k2+1)->IsPair h' s.heap.objs.size x y->h'.objs.size=s.heap.objs.size+1->
   (∀c o,c∉[z,TO,i1,i2]->s.heap.get? c=some o->h'.get? c=some o)->Q (.ref s.heap.objs.size) { s with heap:=h' }) :
  wpAny (model prog w) A (Builtin.«zip.__next__» ⟨[.ref z],[]⟩) (λfin s'=>∃v,fin=.done (.ret v)/\Q v s') E s:=by
 have l1z:l1≠z:=NU.ne hz (by simp) (by simp);have l2z:l2≠z:=NS.ne hz (by simp) (by simp);have l2i1:l2≠i1:=NS.ne_it h1;show wpAny _ _ (field (.ref z) 2 >>= _) _ _ _;refine IV (JS hz rfl (x:=.bool false) rfl ?_);show wpAny _ _ (field (.ref z) 3 >>= _) _ _ _;refine IV (JS hz rfl (x:=.ref TI) rfl (IV (J4 OZ rfl ?_)));show wpAny _ _ (Builtin.SmallTypes.ownedTupleIsFree (.ref z) >>= _) _ _ _;refine IV ?_;unfold Builtin.SmallTypes.ownedTupleIsFree;refine IV (JS hz rfl (x:=.none) rfl (Jf ?_));simp only[La];refine IV (L0 (IV (JS hz rfl (x:=.ref TO) rfl (IV (J0 hz (by simp) λg1 z1 s1=>?_)))));replace z1:IsZip g1 z TI TO .ellipsis:=z1;refine IV ?_;simp only[LL,L3,K5,Lw];refine IV (IV (KH ?_));show wpAny _ _ (Builtin.SmallTypes.nextOf (.ref i1) >>= _) _ _ _;refine IV (gF (h1.but s1 D.a3) (NU.but s1 l1z) hx λg2 p2 s2=>Jf ?_);have t2:IsPair g2 TO a b:=s2.extBut _ _ D.a8 (s1.extBut _ _ D.a2 O0);refine IV (J4 t2 rfl (IV (L4 t2 λg3 t3 s3=>IV (K7 (Jf ?_)))));replace t3:IsPair g3 TO x b:=t3;refine IV (IV (KH ?_));show wpAny _ _ (Builtin.SmallTypes.nextOf (.ref i2) >>= _) _ _ _;refine IV (gF (((h2.but s1 D.a4).but s2 D.a0.symm).but s3 D.a9.symm) (((NS.but s1 l2z).but s2 l2i1).but s3 n2) hy λg4 p4 s4=>Jf ?_);have t4:IsPair g4 TO x b:=s4.extBut _ _ D.a9 t3;refine IV (J4 t4 rfl (IV (L4 t4 λg5 t5 s5=>IV (K7 (Jf (Jf ?_))))));replace t5:IsPair g5 TO x y:=t5;refine IV (J4 t5 rfl (IV (wpAny_newTuple ?_)))
 have sz:g5.objs.size=s.heap.objs.size:=by rw[s5.1,s4.1,s3.1,s2.1,s1.1]
 have z5:IsZip g5 z TI TO .ellipsis:=s5.extBut _ _ D.a2.symm (s4.extBut _ _ D.a4.symm (s3.extBut _ _ D.a2.symm (s2.extBut _ _ D.a3.symm z1)))
 have k5:∀c o,c∉[z,TO,i1,i2]->s.heap.get? c=some o->g5.get? c=some o:=λc o hc e=>by
  have c1:c≠z:=λq=>hc (by simp[q]);have c2:c≠TO:=λq=>hc (by simp[q]);have c3:c≠i1:=λq=>hc (by simp[q]);have c4:c≠i2:=λq=>hc (by simp[q]);exact s5.extBut _ _ c2 (s4.extBut _ _ c4 (s3.extBut _ _ c2 (s2.extBut _ _ c3 (s1.extBut _ _ c1 e))))
 have q1:SqI b1 g5 i1 l1 (k1+1):=((p2.but s3 D.a8.symm).but s4 D.a0).but s5 D.a8.symm;have q2:SqI b2 g5 i2 l2 (k2+1):=p4.but s5 D.a9.symm;show wpAny _ _ (Builtin.SmallTypes.ownedTupleHandOut (.ref z) (.ref g5.objs.size) >>= _) _ _ _;refine IV ?_;unfold Builtin.SmallTypes.ownedTupleHandOut;have z6:IsZip (g5.push { cls:=.type "tuple",data:=.seq #[x,y] }) z TI TO .ellipsis:=IX _ z5;refine IV (J0 z6 (by simp) λg7 z7 s7=>?_);replace z7:IsZip g7 z TI TO (rawInt g5.objs.size):=z7;refine J0 z7 (by simp) λg8 z8 s8=>?_;replace z8:IsZip g8 z TI TO (rawInt g5.objs.size):=z8;have up:∀c o,c≠z->g5.get? c=some o->g8.get? c=some o:=λc o c1 e=>s8.extBut _ _ c1 (s7.extBut _ _ c1 (IX _ e));have zl:g5.objs.size≠z:=Mu (Jm z5);have t8:IsPair g8 g5.objs.size x y:=s8.extBut _ _ zl (s7.extBut _ _ zl (Jh _ rfl))
 have e8:g8.objs.size=g5.objs.size+1:=by rw[s8.1,s7.1,Jx]
 rw[sz]at z8 t8 e8;refine Jf ⟨_,rfl,?_⟩;show Q (.ref g5.objs.size) _;rw[sz];exact hQ g8 z8 (up _ _ D.a2 t5) (q1.at λo e=>up _ o D.a3 e) (q2.at λo e=>up _ o D.a4 e) t8 e8 λc o hc e=>up c o (λq=>hc (by simp[q])) (k5 c o hc e)
theorem Iu{b1 b2:Bool}{z TI TO i1 i2 l1 l2:Addr}{k1 k2:Nat}{xs ys:Array Value}{a b:Value}{Q:Fin->Shared->Prop}(hh:A.handled=none)(D:ZAp z TI TO i1 i2)
  (hz:IsZip s.heap z TI TO .none) (OZ:IsPair s.heap TI (.ref i1) (.ref i2)) (O0:IsPair s.heap TO a b) (n1:l1≠TO) (n2:l2≠TO)
  (h1:SqI b1 s.heap i1 l1 k1) (h2:SqI b2 s.heap i2 l2 k2) (NU:SqO b1 s.heap l1 xs) (NS:SqO b2 s.heap l2 ys) (NW:xs[k1]?=none\/ys[k2]?=none)
  (hE:∀h' e,(∀c o,c∉[z,TO,i1,i2]->s.heap.get? c=some o->h'.get? c=some o)->(∃o,h'.get? e=some o/\o.cls=.type "StopIteration")->E (.ref e) { s with heap:=h' }) :
  wpAny (model prog w) A (Builtin.«zip.__next__» ⟨[.ref z],[]⟩) Q E s:=by
 have l1z:l1≠z:=NU.ne hz (by simp) (by simp);have l2z:l2≠z:=NS.ne hz (by simp) (by simp);have l2i1:l2≠i1:=NS.ne_it h1;show wpAny _ _ (field (.ref z) 2 >>= _) _ _ _;refine IV (JS hz rfl (x:=.bool false) rfl ?_);show wpAny _ _ (field (.ref z) 3 >>= _) _ _ _;refine IV (JS hz rfl (x:=.ref TI) rfl (IV (J4 OZ rfl ?_)));show wpAny _ _ (Builtin.SmallTypes.ownedTupleIsFree (.ref z) >>= _) _ _ _;refine IV ?_;unfold Builtin.SmallTypes.ownedTupleIsFree;refine IV (JS hz rfl (x:=.none) rfl (Jf ?_));simp only[La];refine IV (L0 (IV (JS hz rfl (x:=.ref TO) rfl (IV (J0 hz (by simp) λg1 z1 s1=>?_)))));replace z1:IsZip g1 z TI TO .ellipsis:=z1;refine IV ?_;simp only[LL,L3,K5,Lw];refine IV (IV (KH ?_));show wpAny _ _ (Builtin.SmallTypes.nextOf (.ref i1) >>= _) _ _ _
 cases hx:xs[k1]? with
 |none=>
  refine IV (iH hh (h1.but s1 D.a3) (NU.but s1 l1z) hx λg2 e s2 he=>?_);obtain⟨oe,OE,OU⟩:=he;have z2:IsZip g2 z TI TO .ellipsis:=s2 _ _ D.a3.symm z1
  have ez:e≠z:=λq=>by subst q;rw[z2]at OE;cases OE;simp at OU
  refine J0 z2 (by simp) λg3 _ s3=>hE g3 e (λc o hc q=>?_) ⟨oe,s3.extBut _ _ ez OE,OU⟩;have c1:c≠z:=λq=>hc (by simp[q]);exact s3.extBut _ _ c1 (s2 _ _ (λq=>hc (by simp[q])) (s1.extBut _ _ c1 q))
 |some x=>
  have hy:ys[k2]?=none:=by
   rcases NW with h|h
   ·rw[hx]at h;cases h
   ·exact h
  refine IV (gF (h1.but s1 D.a3) (NU.but s1 l1z) hx λg2 p2 s2=>Jf ?_);have t2:IsPair g2 TO a b:=s2.extBut _ _ D.a8 (s1.extBut _ _ D.a2 O0);refine IV (J4 t2 rfl (IV (L4 t2 λg3 t3 s3=>IV (K7 (Jf ?_)))));refine IV (IV (KH ?_));show wpAny _ _ (Builtin.SmallTypes.nextOf (.ref i2) >>= _) _ _ _;refine IV (iH hh (((h2.but s1 D.a4).but s2 D.a0.symm).but s3 D.a9.symm) (((NS.but s1 l2z).but s2 l2i1).but s3 n2) hy λg4 e s4 he=>?_);obtain⟨oe,OE,OU⟩:=he;have z4:IsZip g4 z TI TO .ellipsis:=s4 _ _ D.a4.symm (s3.extBut _ _ D.a2.symm (s2.extBut _ _ D.a3.symm z1))
  have ez:e≠z:=λq=>by subst q;rw[z4]at OE;cases OE;simp at OU
  refine J0 z4 (by simp) λg5 _ s5=>hE g5 e (λc o hc q=>?_) ⟨oe,s5.extBut _ _ ez OE,OU⟩;have c1:c≠z:=λq=>hc (by simp[q]);exact s5.extBut _ _ c1 (s4 _ _ (λq=>hc (by simp[q])) (s3.extBut _ _ (λq=>hc (by simp[q])) (s2.extBut _ _ (λq=>hc (by simp[q])) (s1.extBut _ _ c1 q))))
theorem HC(b1 b2:Bool)(l1 l2:Addr)(xs ys:Array Value) :
  Meets (Builtin.«zip.__new__» ⟨[.type "zip",.ref l1,.ref l2],[]⟩) (λ_ R s=>SqO b1 s.heap l1 xs/\SqO b2 s.heap l2 ys /\
   R (.ok (.ret (.ref (s.heap.objs.size+4)))) { s with heap:=((((s.heap.push (bh b1 l1)).push (bh b2 l2)).push { cls:=.type "tuple",data:=.seq #[.ref s.heap.objs.size,.ref (s.heap.objs.size+1)] }).push { cls:=.type "tuple",data:=.seq #[.none,.none] }).push { cls:=.type "zip",data:=.fields #[.none,.bool false,.bool false,.ref (s.heap.objs.size+2),.ref (s.heap.objs.size+3)] } }):=
 .of_wp λprog w A R s h=>by
  obtain⟨hp,g,d,tk,os⟩:=s;obtain⟨NU,NS,h⟩:=h;have Rt:=sub_zip;have To:SqO b1 (Shared.heap ⟨hp,g,d,tk,os⟩) l1 xs:=NU;have Tp:SqO b2 (Shared.heap ⟨hp.push (bh b1 l1),g,d,tk,os⟩) l2 ys:=SqO.at NS λo e=>IX _ e
  wp_walk using i5 To,i5 Tp
  have e1:(hp.push (bh b1 l1)).objs.size=hp.objs.size+1:=Jx ..
  have e2:((hp.push (bh b1 l1)).push (bh b2 l2)).objs.size=hp.objs.size+2:=by rw[Jx,e1]
  refine⟨_,rfl,?_⟩;simp only[Jx];exact h
theorem FZ{b1 b2:Bool}{l1 l2:Addr}{xs ys:Array Value}{Q:Value->Shared->Prop}(NU:SqO b1 s.heap l1 xs)(NS:SqO b2 s.heap l2 ys)
  (h:∀h',IsZip h' (s.heap.objs.size+4) (s.heap.objs.size+2) (s.heap.objs.size+3) .none->IsPair h' (s.heap.objs.size+2) (.ref s.heap.objs.size) (.ref (s.heap.objs.size+1))->IsPair h' (s.heap.objs.size+3) .none .none->
   SqI b1 h' s.heap.objs.size l1 0->SqI b2 h' (s.heap.objs.size+1) l2 0->(∀c o,s.heap.get? c=some o->h'.get? c=some o)->Q (.ref (s.heap.objs.size+4)) { s with heap:=h' }) :
  wpAny (model prog w) A (call (.type "zip") [.ref l1,.ref l2]) Q E s:=by
 refine callType_new F.called_zip (by decide) (F.typeCall_zip_2 _ _) (F.newCall_zip_2 _ _) (λobj=>F.args_object_init_3 obj _ _) F.entry_zip_new (HC b1 b2 l1 l2 xs ys) ⟨NU,NS,?_⟩
 have f1:(bh b1 l1).isFreed=false:=by cases b1<;>rfl
 have f2:(bh b2 l2).isFreed=false:=by cases b2<;>rfl
 have z1:(s.heap.push (bh b1 l1)).objs.size=s.heap.objs.size+1:=Jx ..
 have z2:((s.heap.push (bh b1 l1)).push (bh b2 l2)).objs.size=s.heap.objs.size+2:=by rw[Jx,z1]
 generalize Qm:(s.heap.push (bh b1 l1)).push (bh b2 l2)=g2 at z2 ⊢
 have e0:g2.get? s.heap.objs.size=some (bh b1 l1):=by rw[←Qm];exact IX _ (Jh _ f1)
 have e1:g2.get? (s.heap.objs.size+1)=some (bh b2 l2):=by rw[←Qm,←z1];exact Jh _ f2
 have k2:∀c o,s.heap.get? c=some o->g2.get? c=some o:=λc o q=>by rw[←Qm];exact IX _ (IX _ q)
 generalize QA:g2.push { cls:=.type "tuple",data:=.seq #[.ref s.heap.objs.size,.ref (s.heap.objs.size+1)] }=g3
 have z3:g3.objs.size=s.heap.objs.size+3:=by rw[←QA,Jx,z2]
 have e2:IsPair g3 (s.heap.objs.size+2) (.ref s.heap.objs.size) (.ref (s.heap.objs.size+1)):=by rw[←QA,←z2];exact Jh _ rfl
 have k3:∀c o,g2.get? c=some o->g3.get? c=some o:=λc o q=>by rw[←QA];exact IX _ q
 generalize QB:g3.push { cls:=.type "tuple",data:=.seq #[.none,.none] }=g4
 have z4:g4.objs.size=s.heap.objs.size+4:=by rw[←QB,Jx,z3]
 have e3:IsPair g4 (s.heap.objs.size+3) .none .none:=by rw[←QB,←z3];exact Jh _ rfl
 have k4:∀c o,g3.get? c=some o->g4.get? c=some o:=λc o q=>by rw[←QB];exact IX _ q
 generalize Ry:g4.push { cls:=.type "zip",data:=.fields #[.none,.bool false,.bool false,.ref (s.heap.objs.size+2),.ref (s.heap.objs.size+3)] }=g5
 have e4:IsZip g5 (s.heap.objs.size+4) (s.heap.objs.size+2) (s.heap.objs.size+3) .none:=by rw[←Ry,←z4];exact Jh _ rfl
 have k5:∀c o,g4.get? c=some o->g5.get? c=some o:=λc o q=>by rw[←Ry];exact IX _ q
 show _/\_;exact⟨⟨_,e4,rfl⟩,h _ e4 (k5 _ _ (k4 _ _ e2)) (k5 _ _ e3) (gX (k5 _ _ (k4 _ _ (k3 _ _ e0)))) (gX (k5 _ _ (k4 _ _ (k3 _ _ e1)))) λc o q=>k5 _ _ (k4 _ _ (k3 _ _ (k2 _ _ q)))⟩
theorem Ax{b1 b2:Bool}{z TI TO i1 i2 l1 l2:Addr}{k1 k2:Nat}{xs ys:Array Value}{x y a b:Value}{Q:Option Value->Shared->Prop}(D:ZAp z TI TO i1 i2)
  (hz:IsZip s.heap z TI TO .none) (OZ:IsPair s.heap TI (.ref i1) (.ref i2)) (O0:IsPair s.heap TO a b) (n1:l1≠TO) (n2:l2≠TO)
  (h1:SqI b1 s.heap i1 l1 k1) (h2:SqI b2 s.heap i2 l2 k2) (NU:SqO b1 s.heap l1 xs) (NS:SqO b2 s.heap l2 ys) (hx:xs[k1]?=some x) (hy:ys[k2]?=some y)
  (hQ:∀h',IsZip h' z TI TO (rawInt s.heap.objs.size)->IsPair h' TO x y->SqI b1 h' i1 l1 (k1+1)->SqI b2 h' i2 l2 (k2+1)->IsPair h' s.heap.objs.size x y->h'.objs.size=s.heap.objs.size+1->
   (∀c o,c∉[z,TO,i1,i2]->s.heap.get? c=some o->h'.get? c=some o)->Q (some (.ref s.heap.objs.size)) { s with heap:=h' }):wpAny (model prog w) A (pyNext (.ref z)) Q E s:=by
 have hT:s.TypeIs (.ref z) "zip":=⟨_,hz,rfl⟩;unfold pyNext
 exact IV (LK (Ka (name:=Str.ofString "__next__") hT KP (Ks KP hT LM
  (Hl D hz OZ O0 n1 n2 h1 h2 NU NS hx hy λh' c1 c2 c3 c4 c5 c6 c7=>Jf (hQ h' c1 c2 c3 c4 c5 c6 c7)) (LC _))))
theorem FK{b1 b2:Bool}{z TI TO i1 i2 l1 l2:Addr}{k1 k2:Nat}{xs ys:Array Value}{a b:Value}{Q:Option Value->Shared->Prop}(hh:A.handled=none)(D:ZAp z TI TO i1 i2)
  (hz:IsZip s.heap z TI TO .none) (OZ:IsPair s.heap TI (.ref i1) (.ref i2)) (O0:IsPair s.heap TO a b) (n1:l1≠TO) (n2:l2≠TO)
  (h1:SqI b1 s.heap i1 l1 k1) (h2:SqI b2 s.heap i2 l2 k2) (NU:SqO b1 s.heap l1 xs) (NS:SqO b2 s.heap l2 ys) (NW:xs[k1]?=none\/ys[k2]?=none)
  (hQ:∀h',(∀c o,c∉[z,TO,i1,i2]->s.heap.get? c=some o->h'.get? c=some o)->Q none { s with heap:=h' }):wpAny (model prog w) A (pyNext (.ref z)) Q E s:=by
 have hT:s.TypeIs (.ref z) "zip":=⟨_,hz,rfl⟩;unfold pyNext;refine IV (LK (Ka (name:=Str.ofString "__next__") hT KP (Ks KP hT LM (Iu hh D hz OZ O0 n1 n2 h1 h2 NU NS NW λh' e hk he=>?_) (LC _))));obtain⟨o,ho,hc⟩:=he;exact IV (MA (T:="StopIteration") (b:=true) ⟨o,ho,hc⟩ isSubtype_stop (Jf (hQ _ hk)))
end
theorem Inv.sqb_ne{X:Cx}{pins:List (Addr×Obj)}{σ:St}{H:Hp}{s:Shared}{b:Bool}{a c:Addr}{xs:List V}(I:Inv X pins σ H s)(h:SqB X.K b H a xs)(f:cZ X pins H c):a≠c:=λz=>by
 subst z
 have nk:∀o,X.K.lookup a=some o->False:=λo e=>by
  have e':=I.mod.kin a o e;rcases f.2.2.2.1 with q|q
  ·exact I.ok.noex a o e' q
  ·exact absurd (Jw (Jm e') (JE I.ok.bsz q)) (KC _)
 cases b with
 |true=>
  rcases h with (h|⟨o,h⟩)|⟨o,_,_,h,_⟩
  ·rw[f.1]at h;cases h
  ·rw[f.1]at h;cases h
  ·exact nk o h
 |false=>
  rcases h with (h|⟨o,h⟩)|⟨o,_,_,h,_⟩
  ·rw[f.1]at h;cases h
  ·rw[f.1]at h;cases h
  ·exact nk o h
noncomputable def px(K:Frag)(b1:Bool)(a1:Addr)(b2:Bool)(a2:Addr):It:=
 ⟨λi H=> ∃xs ys x y, SqB K b1 H a1 xs /\ SqB K b2 H a2 ys /\ xs[i]? = some x /\ ys[i]? = some y,
  λi H v H'=> ∃t x y, H t = none /\ v = .ref t /\ H' = ak H t (.tup [x, y]) /\ (∀xs, SqB K b1 H a1 xs-> xs[i]? = some x) /\ ∀ys, SqB K b2 H a2 ys-> ys[i]? = some y,
  λi H=> ∃xs ys, SqB K b1 H a1 xs /\ SqB K b2 H a2 ys /\ (xs.length <= i \/ ys.length <= i)⟩
theorem zP{P:Program}{w:World}{K:Frag}{es:List Expr}{k:Nat}{pos:Pos}(b1 b2:Bool)(a1 a2 z TI TO i1 i2:Addr)(D:ZAp z TI TO i1 i2) :
  Turn P w K (.Tuple es k pos) (px K b1 a1 b2 a2) [z,TI,TO,i1,i2] z (λi h=>IsZip h z TI TO .none/\IsPair h TI (.ref i1) (.ref i2)/\(∃a b,IsPair h TO a b)/\SqI b1 h i1 a1 i/\SqI b2 h i2 a2 i) where
 mem:=by simp
 obj:=λi h st c hc=>by
  obtain⟨h1,h2,⟨a,b,h3⟩,h4,h5⟩:=st;simp only[Jb,Jp,J5]at hc;rcases hc with rfl|rfl|rfl|rfl|rfl
  ·exact⟨_,h1,λv q=>by have q':Data.fields _=Data.cell v:=q;cases q'⟩
  ·exact⟨_,h2,λv q=>by have q':Data.seq _ _=Data.cell v:=q;cases q'⟩
  ·exact⟨_,h3,λv q=>by have q':Data.seq _ _=Data.cell v:=q;cases q'⟩
  ·exact h4.obj
  ·exact h5.obj
 keep:=λi h h' st k=>by obtain⟨h1,h2,⟨a,b,h3⟩,h4,h5⟩:=st;exact⟨k z (by simp) _ h1,k TI (by simp) _ h2,⟨a,b,k TO (by simp) _ h3⟩,h4.at λo q=>k i1 (by simp) o q,h5.at λo q=>k i2 (by simp) o q⟩
 item:=by
  intro X hP hw hK hc i pins s σ H E I hf st hg;subst hP hw hK;obtain⟨xs,ys,x,y,NN,Of,hx,hy⟩:=hg;obtain⟨h1,h2,⟨a,b,h3⟩,h4,h5⟩:=st;obtain⟨O1,Qa,p1,_⟩:=I.sqb NN;obtain⟨NO,Qb,p2,_⟩:=I.sqb Of;obtain⟨u,hu,ru⟩:=Qa.get hx;obtain⟨v,hv,rv⟩:=Qb.get hy;refine Ax D h1 h2 h3 (I.sqb_ne NN (hf TO (by simp))) (I.sqb_ne Of (hf TO (by simp))) h4 h5 p1 p2 (x:=u) (y:=v) (by simpa using hu) (by simpa using hv) λh' z1 z2 z3 z4 z5 z6 hk=>?_;refine⟨.ref s.heap.objs.size,rfl,wpAny_letOwnedTupleGo_zip z1 λg2 zz NL=>?_⟩;have zn:H s.heap.objs.size=none:=I.fresh
  have I1:Inv X pins σ (ak H s.heap.objs.size (.tup [x,y])) { s with heap:=s.heap.push { cls:=.type "tuple",data:=.seq #[u,v] },toks:=s.toks }:=
   I.laid (λc o q=>IX _ q) (Jc _) ⟨by show 2<=sizeLine;decide,[u,v],.cons ru (.cons rv .nil),_,Jh _ rfl,⟨rfl,rfl⟩,0,rfl⟩
  have Rv:∀c∈[z,TI,TO,i1,i2],c<s.heap.objs.size:=λc hc=>by
   simp only[Jb,Jp,J5]at hc;rcases hc with rfl|rfl|rfl|rfl|rfl
   ·exact Jm h1
   ·exact Jm h2
   ·exact Jm h3
   ·exact h4.lt
   ·exact h5.lt
  have f1:∀c∈[z,TI,TO,i1,i2],cZ X pins (ak H s.heap.objs.size (.tup [x,y])) c:=λc hc=>⟨by rw[ba (JM (Rv c hc))];exact (hf c hc).1,(hf c hc).2⟩;have I2:=I1.turnedL (h':=g2) (ch:=[z,TI,TO,i1,i2]) (t':=s.toks) (λc o hc q=>?_) f1
  ·refine⟨.ref s.heap.objs.size,_,I2,rfl,⟨s.heap.objs.size,x,y,zn,rfl,rfl,λQC Ph=>by rw[I.sqb_inj Ph NN];exact hx,λys' Ph=>by rw[I.sqb_inj Ph Of];exact hy⟩,
    ⟨zz,NL.extBut _ _ D.a1 (hk TI _ (by simp[D.a1,D.a5,D.a6,D.a7]) h2),⟨_,_,NL.extBut _ _ D.a2 z2⟩,z3.but NL D.a3,z4.but NL D.a4⟩,λc hc=>(f1 c hc).1⟩
  ·have Tq:c≠z:=λe=>hc (by simp[e]);refine (NL.2 c Tq).trans ?_;rcases L1 q with⟨e,e'⟩|q'
   ·subst e;subst e';exact z5
   ·exact hk c o (λe=>hc (by
     simp only[Jb,Jp,J5]at e ⊢;rcases e with e|e|e|e
     ·exact .inl e
     ·exact .inr (.inr (.inl e))
     ·exact .inr (.inr (.inr (.inl e)))
     ·exact .inr (.inr (.inr (.inr e))))) q'
 done:=by
  intro X hP hw hK hc i pins s σ H E I hf st hg;subst hP hw hK;obtain⟨xs,ys,NN,Of,NW⟩:=hg;obtain⟨h1,h2,⟨a,b,h3⟩,h4,h5⟩:=st;obtain⟨O1,Qa,p1,_⟩:=I.sqb NN;obtain⟨NO,Qb,p2,_⟩:=I.sqb Of;have l1:=Qa.length;have l2:=Qb.length
  have he:O1.toArray[i]?=none\/NO.toArray[i]?=none:=by
   rcases NW with q|q
   ·exact .inl (by simp;omega)
   ·exact .inr (by simp;omega)
  refine FK (I.ok.hd hc) D h1 h2 h3 (I.sqb_ne NN (hf TO (by simp))) (I.sqb_ne Of (hf TO (by simp))) h4 h5 p1 p2 he λh' hk=>⟨rfl,?_⟩;refine I.turnedL (ch:=[z,TI,TO,i1,i2]) (t':=s.toks) (λc o hc q=>hk c o (λe=>hc ?_) q) hf;simp only[Jb,Jp,J5]at e ⊢;rcases e with e|e|e|e
  ·exact .inl e
  ·exact .inr (.inr (.inl e))
  ·exact .inr (.inr (.inr (.inl e)))
  ·exact .inr (.inr (.inr (.inr e)))
 self:=λ_ _ _ _ _ st h=>LN st.1 h
theorem EI(n:Nat):ZAp (n+4) (n+2) (n+3) n (n+1):=
 ⟨(by omega:n+2≠n+4),(by omega:n+3≠n+4),(by omega:n≠n+4),(by omega:n+1≠n+4),(by omega:n+2≠n+3),(by omega:n+2≠n),(by omega:n+2≠n+1),(by omega:n+3≠n),(by omega:n+3≠n+1),(by omega:n≠n+1)⟩
end L2
namespace L2
open PySem PySem.Spec PyProof.Rows
section
variable{X:Cx}
theorem yJ:bO X (binaryOp .Mult) (rI IntMulOk λi j=>.int (i*j)):=mF λ_ _ _ _ _ _ _ hc q=>mul_int q hc
noncomputable def CDivB(i j:Int):Prop:=0<j/\j.natAbs.log2<9000
theorem BR:bO X (binaryOp .FloorDiv) (rI CDivB λi j=>.int (i/j)):=mF λi j _ _ _ _ _ hc q=>by have h1:(0:Int)<j:=hc.1;exact floordiv_int (by omega) (by rw[Int.fdiv_eq_ediv_of_nonneg i (by omega)];exact q) (.inl (PyProof.noPylong_of_log2 hc.2))
end
theorem DO{n k:Nat}(hk:0<k)(h:n<2^k):n.log2<k:=by
 rcases Nat.eq_zero_or_pos n with z|z
 ·subst z;simpa using hk
 ·exact (Nat.log2_lt (Mu z)).mpr h
theorem CDivB.of{i j:Int}(h0:0<j)(h:j<2^9000):CDivB i j:=⟨h0,DO (by decide) (by
 have e:(j.natAbs:Int)=j:=Int.natAbs_of_nonneg (Int.le_of_lt h0)
 have:(j.natAbs:Int)<((2^9000:Nat):Int):=by rw[e];exact_mod_cast h
 exact_mod_cast this)⟩
theorem nL{a b:Int}(h1:-(2^64)<a)(h2:a<2^64):IntMulOk a b:=.of_left (intBits_le_64 h1 h2)
theorem oN{a b:Int}(h1:-(2^64)<b)(h2:b<2^64):IntMulOk a b:=.of_right (intBits_le_64 h1 h2)
section
variable{prog:Program}{w:World}{A:Around}{E:Value->Shared->Prop}{s:Shared}
theorem wH{it t:Addr}{items:Array Value}(N4:t≠it):∀(n i:Nat)(s:Shared)(Q:List Value->Shared->Prop),s.heap.IsListIter it t i->s.heap.IsList t items->i+n<=items.size->
  (∀h',h'.IsListIter it t (i+n)->Heap.SameBut it s.heap h'->Q ((items.toList.drop i).take n) { s with heap:=h' })->wpAny (model prog w) A (draw (.ref it) n) Q E s
 |0,i,s,Q,hit,_,_,hQ=>by show wpAny _ _ (pure []) Q E s;exact Jf (by simpa using hQ s.heap hit (Heap.SameBut.refl ..))
 |n+1,i,s,Q,hit,ht,hle,hQ=>by
  have Nu:i<items.size:=by omega
  show wpAny _ _ (pyNext (.ref it) >>= _) Q E s;refine IV (LD hit ht (x:=items[i]) (by simp[Nu]) λg1 QD s1=>?_);refine IV (KG (wH N4 n (i+1) _ _ QD (ht.extBut s1.extBut N4) (by omega) λg2 Tr s2=>Jf ?_))
  have hd:items.toList.drop i=items[i]::items.toList.drop (i+1):=by simp[Mt,Nu]
  have:=hQ g2 (by rw[show i+(n+1)=i+1+n by omega];exact Tr) (s1.trans s2);rw[hd,List.take_succ_cons]at this;exact this
theorem Ds{t:Addr}{items:Array Value}{Q:List Value->Shared->Prop}(hh:A.handled=none)(ht:s.heap.IsList t items)
  (hQ:∀h',Heap.ExtBut s.heap.objs.size s.heap h'->Q items.toList { s with heap:=h' }):wpAny (model prog w) A (unpackItems (.ref t) items.size none) Q E s:=by
 have Nu:t≠s.heap.objs.size:=by obtain⟨o,ho,_⟩:=ht;exact JM (Jm ho)
 unfold unpackItems;refine IV ?_;unfold notIterableAtAll;refine IV (wpAny_specialOf ht.typeIs slot_list_iter.lookup (Jf ?_));simp only[Bool.false_eq_true,M3];refine IV (KG (Mp ht (IV (KG (wH Nu items.size 0 _ _ ⟨_,Jh _ rfl,rfl,rfl⟩ (ht.push _) (by omega) λg1 QD s1=>?_)))))
 have Qt:List.take items.size (List.drop 0 items.toList)=items.toList:=by rw[Lx];exact Ke (by simp)
 rw[Qt,I0 (by simp)];have ht1:g1.IsList t items:=(ht.push _).extBut s1.extBut Nu;refine IV (KG (LQ hh QD ht1 (by simp) λg2 e2=>?_));simp only[Option.isSome_none,Bool.false_eq_true,M3];exact Jf (hQ g2 λb o hb e=>e2 b o hb (s1.extBut b o hb (IX _ e)))
end
section
variable{X:Cx}{pos:Pos}
noncomputable def ox(K:Frag)(n:Nat)(t:dS):TG:=λv σ H Q=>∃a xs,v=.ref a/\SqL K H a xs/\xs.length=n/\t xs σ H Q
theorem ET{es:List Expr}{k:Nat}{t:dS}{n:Nat}(hc:X.calm=true)(h:PGs X es t)
  (hn:(assignEach es X.env).length=n:=by rfl) (N5:(assignEach es X.env).findIdx? (·.1)=none:=by rfl):PG X (.Tuple es k pos) (ox X.K n t):=by
 intro pins s σ H v u Q I r hw;obtain⟨a,xs,e1,hq,hl,hw⟩:=hw;subst e1;cases r;obtain⟨Nc,rv,ht,hz⟩:=I.list hq;rw[assign_Tuple];refine IV (Mn ?_);unfold unpack
 have e0:(assignEach es X.env).length=Nc.toArray.size:=by simp[hn,←hl,rv.length]
 rw[e0,N5];refine IV (KG (Ds (I.ok.hd hc) ht.isList λh' hx=>?_));have I1:Inv X pins σ H { s with heap:=h' }:=I.kept (t':=s.toks) λb o e=>hx b o (JM (Jm e)) e;exact h pins _ σ H xs _ Q I1 (by simpa using rv) hw
end
inductive IsiV(K:Frag)(H:Hp):V->String->Bool->Prop where
 |int_int (i):IsiV K H (.int i) "int" true
 |int_bool (i):IsiV K H (.int i) "bool" false
 |int_tuple (i):IsiV K H (.int i) "tuple" false
 |int_str (i):IsiV K H (.int i) "str" false
 |bl_int (b):IsiV K H (.bl b) "int" true
 |bl_bool (b):IsiV K H (.bl b) "bool" true
 |bl_tuple (b):IsiV K H (.bl b) "tuple" false
 |str_str (x):IsiV K H (.str x) "str" true
 |str_tuple (x):IsiV K H (.str x) "tuple" false
 |tup_tuple {a xs}:SqT K H a xs->IsiV K H (.ref a) "tuple" true
 |tup_int {a xs}:SqT K H a xs->IsiV K H (.ref a) "int" false
 |lst_tuple {a xs}:SqL K H a xs->IsiV K H (.ref a) "tuple" false
 |lst_list {a xs}:SqL K H a xs->IsiV K H (.ref a) "list" true
noncomputable def vv(K:Frag):List V->Hp->VK->Prop:=λvs H Q=>∃x T b,vs=[x,.ty T]/\IsiV K H x T b/\Q (.bl b) H
theorem zp{x y:V}{us:List Value}(r:Vals [x,y] us):∃u v,us=[u,v]/\RelV x u/\RelV y v:=by
 cases r with
 |cons r rr=>
  cases rr with
  |cons r' rr=>cases rr;exact⟨_,_,rfl,r,r'⟩
theorem Ce{X:Cx}:fH X (.builtin "isinstance") (vv X.K):=by
 intro pins s σ H xs us Q I r h;obtain⟨x,T,b,rfl,hi,q⟩:=h;obtain⟨u,v,rfl,ru,rv⟩:=zp r;have rv:v=.type T:=rv;subst rv;have fin:∀(c:Bool)(t:Nat),Q (.bl c) H->EP X pins σ Q (.bool c) { s with toks:=t }:=λc t q=>⟨.bl c,H,I.tok t,rfl,q⟩
 cases hi with
 |int_int i=>obtain⟨t,rfl⟩:=ru;exact IsiPair.int_int (fin _ s.toks q)
 |int_bool i=>obtain⟨t,rfl⟩:=ru;exact IsiPair.int_bool (fin _ _ q)
 |int_tuple i=>obtain⟨t,rfl⟩:=ru;exact IsiPair.int_tuple (fin _ _ q)
 |int_str i=>obtain⟨t,rfl⟩:=ru;exact IsiPair.int_str (fin _ _ q)
 |bl_int b=>cases ru;exact IsiPair.bool_int (fin _ s.toks q)
 |bl_bool b=>cases ru;exact IsiPair.bool_bool (fin _ s.toks q)
 |bl_tuple b=>cases ru;exact IsiPair.bool_tuple (fin _ _ q)
 |str_str x=>obtain⟨t,rfl⟩:=ru;exact IsiPair.str_str (fin _ s.toks q)
 |str_tuple x=>obtain⟨t,rfl⟩:=ru;exact IsiPair.str_tuple (fin _ _ q)
 |tup_tuple h=>
  cases ru;obtain⟨Nc,_,p,_⟩:=I.tuple h;exact L5 (isinstance_true (Tx:="tuple") F.isi_meta_tuple F.sub_tuple_tuple) ⟨p.typeIs,fin _ s.toks q⟩
 |tup_int h=>
  cases ru;obtain⟨Nc,_,⟨o,e,c,_⟩,_⟩:=I.tuple h;exact L5 (isinstance_false_tuple (by lia) F.isi_meta_int F.sub_tuple_int) ⟨⟨o,e,c⟩,fin _ _ q⟩
 |lst_tuple h=>
  cases ru;obtain⟨Nc,_,p,_⟩:=I.list h;obtain⟨o,e,c,_⟩:=p.isList;exact L5 (isinstance_false_list (by lia) F.isi_meta_tuple F.sub_list_tuple) ⟨⟨o,e,c⟩,fin _ _ q⟩
 |lst_list h=>
  cases ru;obtain⟨Nc,_,p,_⟩:=I.list h;exact L5 (isinstance_true (Tx:="list") F.isi_meta_list F.sub_list_list) ⟨p.isList.typeIs,fin _ s.toks q⟩
theorem r8{prog:Program}{w:World}{A:Around}(hh:A.handled=none)(b:Bool)(it a:Addr)(N4:a≠it)(Nc:Array Value):Walks prog w A it [it,a] [it] Nc.size (λi v=>Nc[i]?=some v) (λi h=>SqI b h it a i/\SqO b h a Nc) where
 sub:=λc hc=>by rw[Ji.mp hc];simp
 frame:=λ_ _ _ st k=>⟨st.1.at λo e=>k it (by simp) o e,st.2.at λo e=>k a (by simp) o e⟩
 item:=λi s Q E hi st hQ=>by
  cases b with
  |true=>exact LD st.1 st.2 (x:=Nc[i]) (by simp[hi]) λh' q sb=>hQ _ h' s.toks (by simp[hi]) ⟨q,SqO.at (b:=true) st.2 λo e=>(sb.2 a N4).trans e⟩ λc o hc e=>(sb.2 c λz=>hc (by simp[z])).trans e
  |false=>exact wpAny_pyNext_tuple_item st.1 st.2 (x:=Nc[i]) (by simp[hi]) λh' q sb=>hQ _ h' s.toks (by simp[hi]) ⟨q,SqO.at (b:=false) st.2 λo e=>(sb.2 a N4).trans e⟩ λc o hc e=>(sb.2 c λz=>hc (by simp[z])).trans e
 done:=λs Q E st hQ=>by
  cases b with
  |true=>exact LQ hh st.1 st.2 (by simp) λh' eb=>hQ h' s.toks λc o hc e=>eb c o (λz=>hc (by simp[z])) e
  |false=>exact wpAny_pyNext_tuple_end hh st.1 st.2 (by simp) λh' eb=>hQ h' s.toks λc o hc e=>eb c o (λz=>hc (by simp[z])) e
 self:=λi s Q E st hQ=>by
  cases b with
  |true=>exact wpAny_pyIter_listiter st.1 hQ
  |false=>exact wpAny_pyIter_tupleiter st.1 hQ
theorem wA{x:V}{us:List Value}(r:Vals [x] us):∃u,us=[u]/\RelV x u:=by
 cases r with
 |cons r rr=>cases rr;exact⟨_,rfl,r⟩
theorem sU(val:Nat->Int)(ns:List Int)(h:∀i n,ns[i]?=some n->val i=n):∀k,k<=ns.length->preSum val k=(ns.take k).sum
 |0,_=>by simp[preSum]
 |k+1,hk=>by
  have Nu:k<ns.length:=hk;have e:=h k ns[k] (by simp[Nu]);rw[preSum,sU val ns h k (KL Nu),e,LO Nu,List.sum_append];simp
noncomputable def CU(K:Frag)(b:Bool):List V->Hp->VK->Prop:=λvs H Q=>∃(a:Addr)(ns:List Int),vs=[.ref a]/\SqB K b H a (ns.map V.int)/\Q (.int ns.sum) H
theorem zW(b:Bool){X:Cx}(hc:X.calm=true):fH X (.builtin "sum") (CU X.K b):=by
 intro pins s σ H xs us Q I r h;obtain⟨a,ns,rfl,hq,q⟩:=h;obtain⟨u,rfl,ru⟩:=wA r;cases ru;obtain⟨Nc,rv,p,hz⟩:=I.sqb hq;refine call_sum_walkAnyS (i5 p ?_);have N4:a≠s.heap.objs.size:=JM p.lt;have W:=r8 (prog:=X.prog) (w:=X.w) (A:=X.A.in1) (I.ok.hd hc) b s.heap.objs.size a N4 Nc.toArray
 have hv:∀(i:Nat)(v:Value),Nc.toArray[i]?=some v->∃t,v=.int (ns.getD i 0) t:=λi v e=>by
  have e':Nc[i]?=some v:=by simpa using e
  have hi:i<ns.length:=by
   have:=(JN.mp e').1;have:=rv.length;rw[mn]at this;omega
  obtain⟨v',h1,h2⟩:=rv.get (i:=i) (x:=V.int (ns.getD i 0)) (by simp[hi]);rw[e']at h1;cases h1;exact h2
 have ln:Nc.toArray.size=ns.length:=by have:=rv.length;rw[mn]at this;simp[this]
 refine⟨s.heap.objs.size,[s.heap.objs.size,a],[s.heap.objs.size],_,Nc.toArray.size,_,_,λi=>ns.getD i 0,rfl,W.toS,⟨gX (Jh _ (by cases b<;>rfl)),p.at λo e=>IX _ e⟩,λc Ts=>?_,hv,λs' t' hm=>?_⟩
 ·rw[Jx];rcases Jb.mp Ts with rfl|Ts
  ·exact KW _
  ·rw[Ji.mp Ts];exact K9 p.lt
 ·obtain⟨hh,hg,hd,ho,_⟩:=hm;obtain⟨h',g',d',tk',SX⟩:=s';have e1:g'=s.gens:=hg;have e2:d'=s.drawn:=hd;have e3:SX=s.os:=ho;subst e1 e2 e3;refine⟨.int ns.sum,H,I.kept (h':=h') (t':=tk') λc o e=>hh c o (λz=>?_) (IX _ e),⟨t',?_⟩,q⟩
  ·rw[Ji.mp z]at e;exact absurd (Jm e) (KC _)
  ·rw[ln,sU (λi=>ns.getD i 0) ns (λi n e=>by
    show ns.getD i 0=n
    rw[JD,e];rfl) ns.length (Jc _),Kt]
noncomputable def zk(K:Frag)(b:Bool)(f:List Bool->Bool):List V->Hp->VK->Prop:=λvs H Q=>∃(a:Addr)(bs:List Bool),vs=[.ref a]/\SqB K b H a (bs.map V.bl)/\Q (.bl (f bs)) H
theorem Df{prog:Program}{w:World}{A:Around}{Nc:Array Value}{bs:List Bool}(rv:Vals (bs.map V.bl) Nc.toList):TruthOf prog w A (λi v=>Nc[i]?=some v) (λi=>bs.getD i false):=by
 intro i v s Q E e q
 have e':Nc.toList[i]?=some v:=by simpa using e
 have hi:i<bs.length:=by
  have:=(JN.mp e').1;have:=rv.length;rw[mn]at this;omega
 obtain⟨v',h1,h2⟩:=rv.get (i:=i) (x:=V.bl (bs.getD i false)) (by simp[hi]);rw[e']at h1;cases h1;have h2:v=.bool (bs.getD i false):=h2;subst h2;exact LB q
theorem AB(bs:List Bool):(List.range bs.length).all (λi=>bs.getD i false)=bs.all id:=by
 rw[Kr];simp only[JB,J6,id];constructor
 ·intro h x hx;obtain⟨i,hi,rfl⟩:=List.mem_iff_getElem.mp hx;have:=h i hi;simpa [hi] using this
 ·intro h i hi;have:=h bs[i] (Le hi);simpa [hi] using this
theorem B8(b:Bool){X:Cx}(hc:X.calm=true):fH X (.builtin "all") (zk X.K b λbs=>bs.all id):=by
 intro pins s σ H xs us Q I r h;obtain⟨a,bs,rfl,hq,q⟩:=h;obtain⟨u,rfl,ru⟩:=wA r;cases ru;obtain⟨Nc,rv,p,hz⟩:=I.sqb hq;have N4:a≠s.heap.objs.size:=JM p.lt
 have ln:Nc.toArray.size=bs.length:=by have:=rv.length;rw[mn]at this;simp[this]
 have W:=r8 (prog:=X.prog) (w:=X.w) (A:=X.A.in1) (I.ok.hd hc) b s.heap.objs.size a N4 Nc.toArray;refine call_all_walk (i5 p ⟨s.heap.objs.size,[s.heap.objs.size,a],[s.heap.objs.size],Nc.toArray.size,_,_,λi=>bs.getD i false,rfl,W,⟨gX (Jh _ (by cases b<;>rfl)),p.at λo e=>IX _ e⟩,Df (by simpa using rv),λh' tk hk=>?_⟩);rw[ln,AB];refine⟨.bl (bs.all id),H,I.kept (h':=h') (t':=tk) λc o e=>hk c o (λz=>?_) (IX _ e),rfl,q⟩;rw[Ji.mp z]at e;exact absurd (Jm e) (KC _)
noncomputable def eB(N:List Str)(sc scope:Scope)(N':List Str)(cap:List (Option Nat)):Bool:=
 decide (scope.kind=.function)&&scope.names.all (λx=>decide (x.2=.cell->scope.names.lookup x.1=some .cell))&&scope.names.all (λx=>decide (x.2=.local->scope.names.lookup x.1=some .local)) &&
  scope.names.all (λx=>decide (x.2=.free->sc.names.lookup x.1=some .cell/\scope.names.lookup x.1=some .free))&&decide N'.Nodup&&decide (cap.length=N'.length) &&
  (cap.zip N').all λp=>match p.1 with|none=>true|some i=>decide (N[i]?=some p.2/\(p.2,NameKind.free)∈scope.names)
theorem CompScope.ok{N:List Str}{sc scope:Scope}{N':List Str}{cap:List (Option Nat)}(h:eB N sc scope N' cap=true):CompScope N sc scope N' cap:=by
 unfold eB at h;simp only[JR,JL,JB]at h;obtain⟨⟨⟨⟨⟨⟨h1,h2⟩,h3⟩,h4⟩,h5⟩,h6⟩,h7⟩:=h;refine⟨h1,h2,h3,λx hx hf=>(h4 x hx hf).1,λx hx hf=>(h4 x hx hf).2,h5,h6,λp hp i hi=>?_⟩;have:=h7 p hp;rw[hi]at this;simpa using this
theorem cG{H:Hp}{p:Addr}(h:H p=none)(o:HO):Same H (ak H p o):=λb u q=>by rw[ba (dA q h)];exact q
theorem tH{H H':Hp}{p:Addr}(s:Same H H')(h:H p=none)(o:HO):Same H (ak H' p o):=λb u q=>by rw[ba (dA q h)];exact s b u q
theorem Same.sqt{K:Frag}{H H':Hp}{a:Addr}{xs:List V}(e:Same H H')(h:SqT K H a xs):SqT K H' a xs:=SqB.same (b:=false) e h
theorem small{n:Nat}(h:n<=1000):n<=sizeLine:=KL (cm h)
theorem dP{p:Prop}[Decidable p](h:decide p=true):p:=Ju h
theorem ie{α:Type}{xs:List α}{i:Nat}{x:α}(h:xs[i]?=some x):xs.take (i+1)=xs.take i++[x]:=by obtain⟨hi,e⟩:=JN.mp h;rw[LO hi,e]
theorem aU{α:Type}{xs:List α}{i:Nat}{x:α}(h:xs[i]?=some x):i<xs.length:=(JN.mp h).1
theorem mm{α:Type}{xs:List α}{i:Nat}{x:α}{k:Int}(h:xs[i]?=some x)(e:k=(i:Int)):bJ xs k=some x:=by subst e;exact Bp h
noncomputable def bA(es ns:List Int):Int:=(List.zipWith (·*·) es ns).sum
noncomputable def bN{α:Type}(xs:List α)(lo hi:Option Int):List α:=(xs.drop (HT.sIx xs.length 0 lo)).take (HT.sIx xs.length xs.length hi-HT.sIx xs.length 0 lo)
theorem Vals.get'{xs:List V}{us:List Value}(r:Vals xs us){j:Nat}(h:j<us.length):∃x,xs[j]?=some x/\RelV x us[j]:=by
 have hl:=Vals.length r
 have hj:j<xs.length:=by omega
 obtain⟨u,hu,ru⟩:=Vals.get (i:=j) (x:=xs[j]) r (by simp[hj]);refine⟨xs[j],by simp[hj],?_⟩;rw[Jl h]at hu;cases hu;exact ru
section
variable{prog:Program}{w:World}{A:Around}{E:Value->Shared->Prop}{s:Shared}
theorem Iq{t b:Addr}{vs ws:List Value}{Q:Value->Shared->Prop}(ht:IsTup s.heap t vs.toArray)(hb:IsTup s.heap b ws.toArray)(hv:vs=[])(h:Q (.ref b) s):wpAny (model prog w) A (binaryOp .Add (.ref t) (.ref b)) Q E s:=by obtain⟨⟨cls,dd,data,sl⟩,ho,hc,n,hd⟩:=id ht;obtain⟨⟨S0,R5,data2,R6⟩,OS,P5,n2,hd2⟩:=id hb;simp only at hc hd P5 hd2;subst hc hd P5 hd2;exact concat_meets ⟨_,ho,rfl⟩ ⟨_,OS,rfl⟩ Mw seq_tuple_add LF LA (Lo _ _) (tuple_addW0 t b vs.toArray ws.toArray n n2 dd R5 sl R6 (by simp[hv])) ⟨ho,OS,h⟩
end
noncomputable def tO(K:Frag):V->V->Hp->VK->Prop:=λx y H Q=>∃p xs i j v,x=.ref p/\y=.int i/\SqL K H p xs/\i=((j:Nat):Int)/\xs[j]?=some v/\Q v H
theorem yY{X:Cx}:qm X (tO X.K):=by
 intro pins s σ H o i ov iv Q I ro ri h;obtain⟨p,xs,i,j,v,rfl,rfl,hq,rfl,hv,q⟩:=h;cases ro;obtain⟨t,rfl⟩:=ri;obtain⟨Nc,r,pl,hz⟩:=I.list hq;obtain⟨w,ew,OC⟩:=r.get hv;have hl:=r.length;have hn:=h8;have hj:=aU hv;exact wpAny_getItem_list pl.isList (by omega) (by omega) (by rw[Kb];simpa using ew) ⟨v,H,I,OC,q⟩
theorem B5(xs:List V)(lo hi:Option Int):iy xs lo hi=bN xs lo hi:=rfl
theorem uw{n j:Nat}(h:j<n):eA n (j:Int)=some j:=by unfold eA;rw[Ja (by omega),Ja (by omega),Kb]
theorem cg{a0 a1 a2 a3}{rest:List Expr}{env:Env}:starEach (.BinOp a0 a1 a2 a3::rest) env=(false,eval (.BinOp a0 a1 a2 a3) env)::starEach rest env:=rfl
theorem nG{a0 a1 a2}{rest:List Expr}{env:Env}:starEach (.UnaryOp a0 a1 a2::rest) env=(false,eval (.UnaryOp a0 a1 a2) env)::starEach rest env:=rfl
theorem sh{a0 a1 a2 a3}{rest:List Expr}{env:Env}:starEach (.IfExp a0 a1 a2 a3::rest) env=(false,eval (.IfExp a0 a1 a2 a3) env)::starEach rest env:=rfl
theorem dN{a0 a1 a2 a3}{rest:List Expr}{env:Env}:starEach (.ListComp a0 a1 a2 a3::rest) env=(false,eval (.ListComp a0 a1 a2 a3) env)::starEach rest env:=rfl
theorem iQ{a0 a1 a2 a3}{rest:List Expr}{env:Env}:starEach (.Compare a0 a1 a2 a3::rest) env=(false,eval (.Compare a0 a1 a2 a3) env)::starEach rest env:=rfl
theorem cy{a0 a1 a2 a3}{rest:List Expr}{env:Env}:starEach (.Call a0 a1 a2 a3::rest) env=(false,eval (.Call a0 a1 a2 a3) env)::starEach rest env:=rfl
theorem ah{a0 a1 a2}{rest:List Expr}{env:Env}:starEach (.Constant a0 a1 a2::rest) env=(false,eval (.Constant a0 a1 a2) env)::starEach rest env:=rfl
theorem gZ{a0 a1 a2}{rest:List Expr}{env:Env}:starEach (.Attribute a0 a1 a2::rest) env=(false,eval (.Attribute a0 a1 a2) env)::starEach rest env:=rfl
theorem ay{a0 a1 a2}{rest:List Expr}{env:Env}:starEach (.Subscript a0 a1 a2::rest) env=(false,eval (.Subscript a0 a1 a2) env)::starEach rest env:=rfl
theorem aa{a0 a1}{rest:List Expr}{env:Env}:starEach (.Name a0 a1::rest) env=(false,eval (.Name a0 a1) env)::starEach rest env:=rfl
theorem dX{a0 a1 a2}{rest:List Expr}{env:Env}:starEach (.Tuple a0 a1 a2::rest) env=(false,eval (.Tuple a0 a1 a2) env)::starEach rest env:=rfl
theorem ag{pos:Pos}{env:Env}:(backTo pos (starEach [] env)).any (·.1)=false:=rfl
theorem aN{pos:Pos}{e:Expr}{es:List Expr}{env:Env}(h:starEach (e::es) env=(false,eval e env)::starEach es env)(hr:(backTo pos (starEach es env)).any (·.1)=false):(backTo pos (starEach (e::es) env)).any (·.1)=false:=by rw[h];exact hr
theorem cw{pos : Pos}{e : Expr}{env : Env}(h : starEach [e] env = (false, eval e env) :: starEach [] env) : ((backTo pos (starEach [e] env)).all (λx=> !x.1)&&(backToKw pos (keywordEach [] env)).all (λx=>x.1.isSome)
      && decide ([e].length + ([] : List Keyword).length + (if ([] : List Keyword).isEmpty then 0 else 1) < 30)) = true:= by
 rw[h];rfl
section
variable{X:Cx}{K:Frag}
theorem Ay(h:X.K=K):fH X (.builtin "isinstance") (vv K):=h▸Ce
end
end L2
namespace L2
open PySem PySem.Spec PyProof.Rows
section
variable{X:Cx}
theorem yq:bO X (compareOp .Is) (λx y H Q=>∃a b:Bool,x=.bl a/\y=.bl b/\Q (.bl (a==b)) H):=by intro pins s σ H x y v u Q I rx ry h;obtain⟨a,b,rfl,rfl,q⟩:=h;cases rx;cases ry;exact wpAny_is_plain rfl (nU I q (by cases a<;>cases b<;>rfl))
theorem FY:bO X (compareOp .IsNot) (λx y H Q=>∃a b:Bool,x=.bl a/\y=.bl b/\Q (.bl (!(a==b))) H):=by intro pins s σ H x y v u Q I rx ry h;obtain⟨a,b,rfl,rfl,q⟩:=h;cases rx;cases ry;exact wpAny_isNot_plain rfl (nU I q (by cases a<;>cases b<;>rfl))
end
end L2
namespace PySem
open Sem (wp)
open Builtin
open AutoSeq1 (wpAny_loadPart')
theorem Er:fillsNumberSlot (.type "tuple") "mul"=pure false:=
 fillsNumberSlot_seq (id:="tuple.__mul__") (r:=some (.builtin "tuple.__rmul__")) Lf.lookup (by lia) F.slot_tuple_rmul.lookup (by lia)
theorem Hd:seqRepeat? (.type "tuple")=pure (some (.builtin "tuple.__mul__")):=by unfold seqRepeat?;rw[seqSlot_of (T:="tuple") (name:="__mul__") (id:="tuple.__mul__") Lf.lookup (by lia),seqSlot_of (T:="tuple") (name:="__rmul__") (id:="tuple.__rmul__") F.slot_tuple_rmul.lookup (by lia)];rfl
theorem zF(a:Int)(t:Tok)(l:Addr)(items:Array Value)(n:Nat)(dd:Option Addr)(sl:Array (Option Value)) :
  Meets (Builtin.«int.__rmul__» ⟨[.int a t,.ref l],[]⟩) (λ_ R s=>s.heap.get? l=some { cls:=.type "tuple",dict:=dd,data:=.seq items n,slots:=sl }/\R (.ok (.ret Value.notImplemented)) s):=
 .of_wp λprog w A R s h=>by obtain⟨hp,g,d,tk,os⟩:=s;obtain⟨hl,h⟩:=h;wp_walk;exact⟨_,rfl,h⟩
theorem E9(l:Addr)(items:Array Value)(n:Nat)(dd:Option Addr)(sl:Array (Option Value))(u:Tok) :
  Meets (Builtin.«tuple.__mul__» ⟨[.ref l,.int 1 u],[]⟩) (λ_ R s=>s.heap.get? l=some { cls:=.type "tuple",dict:=dd,data:=.seq items n,slots:=sl }/\R (.ok (.ret (Value.ref l))) s):=
 .of_wp λprog w A R s h=>by obtain⟨hp,g,d,tk,os⟩:=s;obtain⟨hl,h⟩:=h;have f1:=MB;have f2:=Lq;wp_walk using JX hl;exact⟨_,rfl,h⟩
theorem yH(l:Addr)(items:Array Value)(n:Nat)(dd:Option Addr)(sl:Array (Option Value))(k:Int)(u:Tok)(Qn:¬ (decide (k < -(2^63)) ||decide (k≥2^63))=true)(Se:¬ (items.isEmpty ||k==1)=true)(P5:(decide (k<=0) ||items.isEmpty)=true) :
  Meets (Builtin.«tuple.__mul__» ⟨[.ref l,.int k u],[]⟩) (λ_ R s=>s.heap.get? l=some { cls:=.type "tuple",dict:=dd,data:=.seq items n,slots:=sl }/\R (.ok (.ret (Value.ref s.heap.objs.size))) { s with heap:=s.heap.push { cls:=Value.type "tuple",data:=Data.seq #[] },toks:=s.toks }):=
 .of_wp λprog w A R s h=>by obtain⟨hp,g,d,tk,os⟩:=s;obtain⟨hl,h⟩:=h;have f1:=MB;have f2:=Lq;wp_walk using JX hl;refine MK (Jo Qn) ?_;wp_walk using JX hl;exact⟨_,rfl,h⟩
theorem xM(l:Addr)(items:Array Value)(n:Nat)(dd:Option Addr)(sl:Array (Option Value))(k:Int)(u:Tok)(Qn:¬ (decide (k < -(2^63)) ||decide (k≥2^63))=true)(Se:¬ (items.isEmpty ||k==1)=true)(P5:¬ (decide (k<=0) ||items.isEmpty)=true)(hc3:¬ (items.size*k>(2^63-1)/8))(hc4:¬ Builtin.Tuple.tupleTooMany (items.size*k)=true)(hsz:(List.foldl (λx1 x2=>x1++x2) #[] (List.replicate k.toNat items)).size<=sizeLine) :
  Meets (Builtin.«tuple.__mul__» ⟨[.ref l,.int k u],[]⟩) (λ_ R s=>s.heap.get? l=some { cls:=.type "tuple",dict:=dd,data:=.seq items n,slots:=sl }/\R (.ok (.ret (Value.ref s.heap.objs.size))) { s with heap:=s.heap.push { cls:=Value.type "tuple",data:=Data.seq (List.foldl (λx1 x2=>x1++x2) #[] (List.replicate k.toNat items)) },toks:=s.toks }):=
 .of_wp λprog w A R s h=>by obtain⟨hp,g,d,tk,os⟩:=s;obtain⟨hl,h⟩:=h;have f1:=MB;have f2:=Lq;wp_walk using JX hl;refine MK (Jo Qn) ?_;wp_walk using JX hl;refine MK (Jo hc3) ?_;wp_walk using JX hl;exact⟨_,rfl,h⟩
end PySem
namespace L2
open PySem PySem.Spec PyProof.Rows
inductive D where
 |int (i:Int)|bl (b:Bool)|str (x:Str)|non|tup (xs:List D)|lst (xs:List D)|fzl (xs:List D)|obj (nm:Str) (fs:List (Str×D))|map (Ng:List (ax×D))|exc (nm:Str) (ats:List D)
noncomputable def vh(a C:Addr)(dx:Option Addr):Heap->Prop:=λh=>∃o vs,h.get? a=some o/\o.cls=.ref C/\o.dict=dx/\o.data=.fields vs
inductive Rp(K:Frag)(H:Hp):D->V->Prop where
 |int (i:Int):Rp K H (.int i) (.int i)
 |bl (b:Bool):Rp K H (.bl b) (.bl b)
 |str (x:Str):Rp K H (.str x) (.str x)
 |non:Rp K H .non .non
 |tup {a:Addr} {vs:List V} {ds:List D}:H a=some (.tup vs)->vs.length=ds.length->(∀(i:Nat)(v:V)(d:D),vs[i]?=some v->ds[i]?=some d->Rp K H d v)->Rp K H (.tup ds) (.ref a)
 |lst {a:Addr} {vs:List V} {ds:List D}:H a=some (.lst vs)->vs.length=ds.length->(∀(i:Nat)(v:V)(d:D),vs[i]?=some v->ds[i]?=some d->Rp K H d v)->Rp K H (.lst ds) (.ref a)
 |fzl {a:Addr} {vs:List V} {ds:List D}:SqL K H a vs->vs.length=ds.length->(∀(i:Nat)(v:V)(d:D),vs[i]?=some v->ds[i]?=some d->Rp K H d v)->Rp K H (.fzl ds) (.ref a)
 |obj {a C dx:Addr} {nm:Str} {vs:List (Str×V)} {fs:List (Str×D)}:nsIn K mainGlobals nm=some (some (.ref C))->H a=some (.ins C dx vs)->vs.map (·.1)=fs.map (·.1)->(∀(i:Nat)(v:Str×V)(d:Str×D),vs[i]?=some v->fs[i]?=some d->Rp K H d.2 v.2)->Rp K H (.obj nm fs) (.ref a)
 |map {a:Addr} {ws:List (ax×V)} {Ng:List (ax×D)}:H a=some (.dK ws)->ws.map (·.1)=Ng.map (·.1)->(∀(i:Nat)(w:ax×V)(d:ax×D),ws[i]?=some w->Ng[i]?=some d->Rp K H d.2 w.2)->Rp K H (.map Ng) (.ref a)
 |exc0 {a C:Addr} {nm:Str}:nsIn K mainGlobals nm=some (some (.ref C))->H a=some (.ext (vh a C none))->Rp K H (.exc nm []) (.ref a)
 |exc1 {a C p:Addr} {nm:Str} {v:V} {d:D}:nsIn K mainGlobals nm=some (some (.ref C))->H a=some (.ext (vh a C (some p)))->H p=some (.xd [("at",v)])->Rp K H d v->Rp K H (.exc nm [d]) (.ref a)
noncomputable def RpL(K:Frag)(H:Hp)(ds:List D)(vs:List V):Prop:=vs.length=ds.length/\∀(i:Nat)(v:V)(d:D),vs[i]?=some v->ds[i]?=some d->Rp K H d v
section
variable{K:Frag}{H H' Φ Φ' Φ1 H1 Φ2 H2:Hp}{d:D}{v:V}{ds es:List D}{vs ws:List V}
theorem Rp.same(s:Same H H')(h:Rp K H d v):Rp K H' d v:=by
 induction h with
 |int i=>exact .int i
 |bl b=>exact .bl b
 |str x=>exact .str x
 |non=>exact .non
 |tup h1 h2 _ ih=>exact .tup (s _ _ h1) h2 ih
 |lst h1 h2 _ ih=>exact .lst (s _ _ h1) h2 ih
 |fzl h1 h2 _ ih=>exact .fzl (s.seq h1) h2 ih
 |obj h0 h1 h2 _ ih=>exact .obj h0 (s _ _ h1) h2 ih
 |map h1 h2 _ ih=>exact .map (s _ _ h1) h2 ih
 |exc0 h0 h1=>exact .exc0 h0 (s _ _ h1)
 |exc1 h0 h1 h2 _ ih=>exact .exc1 h0 (s _ _ h1) (s _ _ h2) ih
theorem RpL.same(s:Same H H')(h:RpL K H ds vs):RpL K H' ds vs:=⟨h.1,λi v d hv hd=>(h.2 i v d hv hd).same s⟩
theorem RpL.nil:RpL K H [] []:=⟨rfl,λi v d hv _=>by simp at hv⟩
theorem RpL.cons(r:Rp K H d v)(h:RpL K H ds vs):RpL K H (d::ds) (v::vs):=⟨by simp[h.1],λi u e hu he=>by
 cases i with
 |zero=>cases hu;cases he;exact r
 |succ i=>exact h.2 i u e hu he⟩
theorem RpL.append(h:RpL K H ds vs)(h':RpL K H es ws):RpL K H (ds++es) (vs++ws):=by
 refine⟨by rw[IW,IW,h.1,h'.1],λi u e hu he=>?_⟩;rcases JI i vs.length with c|c
 ·rw[wy c]at hu;rw[wy (by rw[←h.1];exact c)]at he;exact h.2 i u e hu he
 ·rw[IU c]at hu;rw[IU (by rw[←h.1];exact c),←h.1]at he;exact h'.2 _ u e hu he
theorem RpL.one(r:Rp K H d v):RpL K H [d] [v]:=.cons r .nil
theorem RpL.take(h:RpL K H ds vs)(k:Nat):RpL K H (ds.take k) (vs.take k):=⟨by rw[JA,JA,h.1],λi u e hu he=>by
 rcases JI i k with c|c
 ·rw[KN c]at hu he;exact h.2 i u e hu he
 ·rw[List.getElem?_take_eq_none c]at hu
  cases hu⟩
theorem RpL.drop(h:RpL K H ds vs)(k:Nat):RpL K H (ds.drop k) (vs.drop k):=⟨by rw[JY,JY,h.1],λi u e hu he=>by
 rw[Lr]at hu he
 exact h.2 _ u e hu he⟩
theorem RpL.set(h:RpL K H ds vs)(r:Rp K H d v)(k:Nat):RpL K H (ds.set k d) (vs.set k v):=⟨by rw[Jg,Jg,h.1],λi u e hu he=>by
 by_cases c:k=i
 ·subst c
  have hk:k<vs.length:=by have:=aU hu;rwa [Jg]at this
  rw[Jt hk]at hu;rw[Jt (by rw[←h.1];exact hk)]at he;cases hu;cases he;exact r
 ·rw[Js c]at hu he
  exact h.2 i u e hu he⟩
theorem RpL.dropLast(h:RpL K H ds vs):RpL K H ds.dropLast vs.dropLast:=by rw[MU,MU,h.1];exact h.take _
theorem RpL.rep(h:RpL K H ds vs):∀k:Nat,RpL K H (List.replicate k ds).flatten (List.replicate k vs).flatten
 |0=>.nil
 |k+1=>by rw[Kh,Kh,JK,JK];exact h.append (RpL.rep h k)
theorem RpL.at(h:RpL K H ds vs){i:Nat}(e:ds[i]?=some d):∃v,vs[i]?=some v/\Rp K H d v:=by
 have hi:i<vs.length:=by rw[h.1];exact aU e
 exact⟨vs[i],by simp[hi],h.2 i _ d (by simp[hi]) e⟩
theorem RpL.cut(h:RpL K H ds vs)(lo hi:Option Int):RpL K H (bN ds lo hi) (iy vs lo hi):=by rw[B5];unfold bN;rw[h.1];exact (h.drop _).take _
theorem RpL.tup{a:Addr}(h:RpL K H ds vs)(s:H a=some (.tup vs)):Rp K H (.tup ds) (.ref a):=.tup s h.1 h.2
theorem RpL.lst{a:Addr}(h:RpL K H ds vs)(s:H a=some (.lst vs)):Rp K H (.lst ds) (.ref a):=.lst s h.1 h.2
theorem RpL.fzl{a:Addr}(h:RpL K H ds vs)(s:SqL K H a vs):Rp K H (.fzl ds) (.ref a):=.fzl s h.1 h.2
theorem RpL.ints(ns:List Int):RpL K H (ns.map D.int) (ns.map V.int):=⟨by simp,λi v d hv hd=>by
 rw[Jd]at hv hd
 cases e:ns[i]? with
 |none=>rw[e]at hv;cases hv
 |some k=>rw[e]at hv hd;cases hv;cases hd;exact .int k⟩
noncomputable def lK:HO->Prop|.lst _=>True|.dK _=>True|.dT _=>True|.ins _ _ _=>True|_=>False
structure Gr(Φ H Φ' H':Hp):Prop where
 f:Same Φ Φ'
 h:Same H H'
 s:Same Φ' H'
 o:∀p (u:HO),H p=some u->Φ p=none->(k:lK u:=by trivial)->Φ' p=none
theorem Gr.refl(s:Same Φ H):Gr Φ H Φ H:=⟨Same.refl _,Same.refl _,s,λ_ _ _ h _=>h⟩
theorem Gr.trans(a:Gr Φ H Φ1 H1)(b:Gr Φ1 H1 Φ2 H2):Gr Φ H Φ2 H2:=⟨a.f.trans b.f,a.h.trans b.h,b.s,λp u hp hn k=>b.o p u (a.h p _ hp) (a.o p u hp hn k) k⟩
theorem Gr.join(a:Gr Φ H Φ1 H1)(b:Gr Φ1 H Φ2 H2):Gr Φ H Φ2 H2:=⟨a.f.trans b.f,b.h,b.s,λp u hp hn k=>b.o p u hp (a.o p u hp hn k) k⟩
theorem xN(s:Same Φ H){p:Addr}(o:HO):Same (ak Φ p o) (ak H p o):=λb u e=>by
 by_cases c:b=p
 ·subst c;rw[bq]at e ⊢;exact e
 ·rw[ba c]at e ⊢;exact s b u e
theorem Gr.new(s:Same Φ H){p:Addr}(hp:H p=none)(o:HO):Gr Φ H (ak Φ p o) (ak H p o):=
 ⟨cG (s.free hp) o,cG hp o,xN s o,λq u hq hn _=>by rw[ba (dA hq hp)];exact hn⟩
theorem Gr.fresh(s:Same Φ H){p:Addr}(hp:H p=none)(o:HO):Gr Φ H Φ (ak H p o):=
 ⟨Same.refl _,cG hp o,λb u e=>cG hp o b u (s b u e),λ_ _ _ h _=>h⟩
theorem Gr.freeze(g:Gr Φ H Φ' H'){p:Addr}{o:HO}(h0:H p=none)(hn:Φ' p=none)(hp:H' p=some o):Gr Φ H (ak Φ' p o) H':=
 ⟨g.f.trans (cG hn o),g.h,λb u e=>by
  by_cases c:b=p
  ·subst c;rw[bq]at e;cases e;exact hp
  ·rw[ba c]at e;exact g.s b u e,λq u hq Tt k=>by rw[ba (dA hq h0)];exact g.o q u hq Tt k⟩
theorem Gr.adoptT{p:Addr}{xs:List V}(s:Same Φ H)(h:Same H H')(ho:H' p=some (.tup xs)):∃Φ',Gr Φ H Φ' H'/\Φ' p=some (.tup xs):=by
 have e1:∀u,Φ p=some u->u=.tup xs:=λu e=>by have:=h _ _ (s _ _ e);rw[ho]at this;cases this;rfl
 refine⟨ak Φ p (.tup xs),⟨λb u e=>?_,h,λb u e=>?_,λb u e n k=>?_⟩,bq⟩
 ·by_cases c:b=p
  ·subst c;rw[bq,e1 u e]
  ·rw[ba c];exact e
 ·by_cases c:b=p
  ·subst c;rw[bq]at e;cases e;exact ho
  ·rw[ba c]at e;exact h _ _ (s _ _ e)
 ·by_cases c:b=p
  ·subst c;have:=h _ _ e;rw[ho]at this;cases this;exact k.elim
  ·rw[ba c];exact n
noncomputable def RpQ(K:Frag)(Φ H:Hp)(d:D)(v:V):Prop:=Rp K Φ d v\/∃a vs ds,d=.lst ds/\v=.ref a/\H a=some (.lst vs)/\RpL K Φ ds vs
theorem RpQ.gr(g:Gr Φ H Φ' H')(h:RpQ K Φ H d v):RpQ K Φ' H' d v:=by
 rcases h with h|⟨a,vs,ds,e,e2,h1,h2⟩
 ·exact .inl (h.same g.f)
 ·exact .inr ⟨a,vs,ds,e,e2,g.h _ _ h1,h2.same g.f⟩
theorem RpQ.lst(s:Same Φ H)(h:RpQ K Φ H (.lst ds) v):∃a vs,v=.ref a/\H a=some (.lst vs)/\RpL K Φ ds vs:=by
 rcases h with h|⟨a,vs,ds,e,e2,h1,h2⟩
 ·cases h with|lst h1 h2 h3=>exact⟨_,_,rfl,s _ _ h1,h2,h3⟩
 ·cases e;exact⟨a,vs,e2,h1,h2⟩
theorem RpQ.fzl(s:Same Φ H)(h:RpQ K Φ H (.fzl ds) v):∃a vs,v=.ref a/\SqL K H a vs/\RpL K Φ ds vs:=by
 rcases h with h|⟨a,vs,ds,e,e2,h1,h2⟩
 ·cases h with|fzl h1 h2 h3=>exact⟨_,_,rfl,s.seq h1,h2,h3⟩
 ·cases e
theorem RpQ.tup(s:Same Φ H)(h:RpQ K Φ H (.tup ds) v):∃a vs,v=.ref a/\SqT K H a vs/\Φ a=some (.tup vs)/\RpL K Φ ds vs:=by
 rcases h with h|⟨a,vs,ds,e,e2,h1,h2⟩
 ·cases h with|tup h1 h2 h3=>exact⟨_,_,rfl,.of (s _ _ h1),h1,h2,h3⟩
 ·cases e
theorem RpQ.int{i:Int}(h:RpQ K Φ H (.int i) v):v=.int i:=by
 rcases h with h|⟨a,vs,ds,e,_⟩
 ·cases h;rfl
 ·cases e
theorem RpQ.bl{i:Bool}(h:RpQ K Φ H (.bl i) v):v=.bl i:=by
 rcases h with h|⟨a,vs,ds,e,_⟩
 ·cases h;rfl
 ·cases e
theorem RpQ.str{i:Str}(h:RpQ K Φ H (.str i) v):v=.str i:=by
 rcases h with h|⟨a,vs,ds,e,_⟩
 ·cases h;rfl
 ·cases e
theorem RpQ.non(h:RpQ K Φ H .non v):v=.non:=by
 rcases h with h|⟨a,vs,ds,e,_⟩
 ·cases h;rfl
 ·cases e
noncomputable def dU:D->Option (List D)
 |.lst ds=>some ds
 |.tup ds=>some ds
 |.fzl ds=>some ds
 |_=>none
theorem RpQ.seq(s:Same Φ H)(h:RpQ K Φ H d v)(e:dU d=some ds):∃a vs,v=.ref a/\(SqL K H a vs\/SqT K H a vs)/\RpL K Φ ds vs:=by
 cases d with
 |lst ds=>cases e;obtain⟨a,vs,e,h1,h2⟩:=h.lst s;exact⟨a,vs,e,.inl (.of h1),h2⟩
 |tup ds=>cases e;obtain⟨a,vs,e,h1,_,h2⟩:=h.tup s;exact⟨a,vs,e,.inr h1,h2⟩
 |fzl ds=>cases e;obtain⟨a,vs,e,h1,h2⟩:=h.fzl s;exact⟨a,vs,e,.inl h1,h2⟩
 |_=>cases e
theorem Rp.seq(h:Rp K Φ d v)(e:dU d=some ds):∃(b:Bool)(a:Addr)(vs:List V),v=.ref a/\SqB K b Φ a vs/\RpL K Φ ds vs:=by
 cases d with
 |lst ds=>cases e;cases h with|lst h1 h2 h3=>exact⟨true,_,_,rfl,SqL.of h1,h2,h3⟩
 |tup ds=>cases e;cases h with|tup h1 h2 h3=>exact⟨false,_,_,rfl,SqT.of h1,h2,h3⟩
 |fzl ds=>cases e;cases h with|fzl h1 h2 h3=>exact⟨true,_,_,rfl,h1,h2,h3⟩
 |_=>cases e
end
inductive Ow where|lst (xs:List D)|dct (ks:List ax)|dcT (ks:List (List ax))
inductive Sl where|v (d:D)|ob (o:Ow)
noncomputable abbrev Sl.own(xs:List D):Sl:=.ob (.lst xs)
noncomputable abbrev Sl.dct(ks:List ax):Sl:=.ob (.dct ks)
noncomputable abbrev Sl.dcT(ks:List (List ax)):Sl:=.ob (.dcT ks)
noncomputable def OwR(K:Frag)(Φ:Hp):Ow->HO->Prop
 |.lst ds,.lst vs=>RpL K Φ ds vs
 |.dct ks,.dK Ng=>Ng.map (·.1)=ks
 |.dcT ks,.dT Ng=>Ng.map (·.1)=ks
 |_,_=>False
theorem OwR.k{K:Frag}{Φ:Hp}{o:Ow}{u:HO}(r:OwR K Φ o u):lK u:=by
 cases o with
 |lst ds=>
  cases u with
  |lst vs=>exact True.intro
  |_=>exact r.elim
 |dct ks=>
  cases u with
  |dK Ng=>exact True.intro
  |_=>exact r.elim
 |dcT ks=>
  cases u with
  |dT Ng=>exact True.intro
  |_=>exact r.elim
theorem OwR.same{K:Frag}{Φ Φ':Hp}{o:Ow}{u:HO}(r:OwR K Φ o u)(s:Same Φ Φ'):OwR K Φ' o u:=by
 cases o with
 |lst ds=>
  cases u with
  |lst vs=>exact (show RpL K Φ ds vs from r).same s
  |_=>exact r.elim
 |dct ks=>
  cases u with
  |dK Ng=>exact r
  |_=>exact r.elim
 |dcT ks=>
  cases u with
  |dT Ng=>exact r
  |_=>exact r.elim
noncomputable abbrev bC:=List (Option Sl)
noncomputable def Gx:FuncBody->Option Pos
 |.stmts b=>(match b.getLast? with
  |some (.Return (some (.Call _ _ kws _)) _)=>kws.findSome? λk=>(match k.value with|.Lambda _ _ _ pos=>some pos|_=>none)
  |_=>none)
 |_=>none
noncomputable def yS(K:Frag)(x:Str):Option (Addr×Array Value):=match nsIn K mainGlobals x with
 |some (some (.ref f))=>(match K.lookup f with
  |some ⟨_,_,.func fd,_⟩=>(match fd.code with
   |.ref c=>(match K.lookup c with
    |some ⟨_,_,.fields vs,_⟩=>(match (vs[11]?:Option Value),Gx fd.body with
     |some (.ref P),some pos=>some (P,#[rawInt pos.line,rawInt pos.col,.str (fd.qualname++".<locals>."++"<lambda>") 0])
     |_,_=>none)
    |_=>none)
   |_=>none)
  |_=>none)
 |_=>none
noncomputable def rV(K:Frag):List (Addr×Array Value):=(["least_grown","greatest_first"]:List Str).filterMap (yS K)
noncomputable def TabF(K:Frag)(Φ:Hp):Prop:=∀t∈rV K,Φ t.1=some (.tbl t.2)
theorem TabF.same{K:Frag}{Φ Φ':Hp}(h:TabF K Φ)(s:Same Φ Φ'):TabF K Φ':=λt ht=>s _ _ (h t ht)
structure EnvD(K:Frag)(H0 Φ H:Hp)(σ:St)(ρ:bC):Prop where
 fz:Same Φ H
 len:σ.length=ρ.length
 sl:∀(i:Nat)(d:D),ρ[i]?=some (some (.v d))->∃v,σ[i]?=some (some v)/\Rp K Φ d v
 ow:∀(i:Nat)(o:Ow),ρ[i]?=some (some (.ob o))->∃p u,σ[i]?=some (some (.ref p))/\H0 p=none/\Φ p=none/\H p=some u/\OwR K Φ o u
 ne:∀(i j:Nat)(o w:Ow)(p:Addr),ρ[i]?=some (some (.ob o))->ρ[j]?=some (some (.ob w))->σ[i]?=some (some (.ref p))->σ[j]?=some (some (.ref p))->i=j
 tb:TabF K Φ
section
variable{K:Frag}{H0 H H' Φ Φ':Hp}{σ:St}{ρ:bC}{d:D}{v:V}{ds es:List D}{vs ws:List V}
theorem EnvD.owl(E:EnvD K H0 Φ H σ ρ)(i:Nat)(ds:List D)(h:ρ[i]?=some (some (.own ds))):∃p vs,σ[i]?=some (some (.ref p))/\H0 p=none/\Φ p=none/\H p=some (.lst vs)/\RpL K Φ ds vs:=by
 obtain⟨p,u,e,h0,hn,hp,r⟩:=E.ow i _ h
 cases u with
 |lst vs=>exact⟨p,vs,e,h0,hn,hp,r⟩
 |_=>exact (show False from r).elim
theorem EnvD.owd(E:EnvD K H0 Φ H σ ρ)(i:Nat)(ks:List ax)(h:ρ[i]?=some (some (.dct ks))):∃p Ng,σ[i]?=some (some (.ref p))/\H0 p=none/\Φ p=none/\H p=some (.dK Ng)/\Ng.map (·.1)=ks:=by
 obtain⟨p,u,e,h0,hn,hp,r⟩:=E.ow i _ h
 cases u with
 |dK Ng=>exact⟨p,Ng,e,h0,hn,hp,r⟩
 |_=>exact (show False from r).elim
theorem EnvD.gr(E:EnvD K H0 Φ H σ ρ)(g:Gr Φ H Φ' H'):EnvD K H0 Φ' H' σ ρ:=
 ⟨g.s,E.len,λi d h=>let ⟨v,e,r⟩:=E.sl i d h;⟨v,e,r.same g.f⟩,
  λi ds h=>let ⟨p,vs,e,h0,hn,hp,r⟩:=E.ow i ds h;⟨p,vs,e,h0,g.o p _ hp hn r.k,g.h _ _ hp,r.same g.f⟩,E.ne,E.tb.same g.f⟩
theorem cW{α:Type}{l:List α}{i j:Nat}{x y:α}(h:(l.set i x)[j]?=some y):(j=i/\i<l.length/\y=x)\/(j≠i/\l[j]?=some y):=by
 by_cases c:i=j
 ·subst c
  have hi:i<l.length:=by have:=aU h;rwa [Jg]at this
  rw[Jt hi]at h;cases h;exact .inl ⟨rfl,hi,rfl⟩
 ·rw[Js c]at h;exact .inr ⟨λe=>c e.symm,h⟩
theorem EnvD.set(E:EnvD K H0 Φ H σ ρ)(r:Rp K Φ d v)(i:Nat):EnvD K H0 Φ H (σ.set i (some v)) (ρ.set i (some (.v d))):=by
 have nn:∀{j:Nat}{x:Option V},j≠i->σ[j]?=some x->(σ.set i (some v))[j]?=some x:=λc h=>by rw[Js (J7 c)];exact h
 refine⟨E.fz,by rw[Jg,Jg,E.len],λj e h=>?_,λj ds h=>?_,λj k ds es p hj hk sj sk=>?_,E.tb⟩
 ·rcases cW h with⟨rfl,hi,e1⟩|⟨c,h⟩
  ·cases e1;exact⟨v,by rw[Jt (by rw[E.len];exact hi)],r⟩
  ·obtain⟨u,hu,ru⟩:=E.sl j e h;exact⟨u,nn c hu,ru⟩
 ·rcases cW h with⟨rfl,hi,e1⟩|⟨c,h⟩
  ·cases e1
  ·obtain⟨p,vs,e,q⟩:=E.ow j ds h;exact⟨p,vs,nn c e,q⟩
 ·rcases cW hj with⟨rfl,_,e1⟩|⟨cj,hj⟩
  ·cases e1
  rcases cW hk with⟨rfl,_,e1⟩|⟨ck,hk⟩
  ·cases e1
  rw[Js (J7 cj)]at sj;rw[Js (J7 ck)]at sk;exact E.ne j k ds es p hj hk sj sk
theorem EnvD.setOb(E:EnvD K H0 Φ H σ ρ){p:Addr}{o:Ow}{u:HO}(r:OwR K Φ o u)(h0:H0 p=none)(hn:Φ p=none)(hp:H p=some u)(OD:∀(j:Nat)(w:Ow),ρ[j]?=some (some (.ob w))->σ[j]?≠some (some (.ref p)))(i:Nat):EnvD K H0 Φ H (σ.set i (some (.ref p))) (ρ.set i (some (.ob o))):=by
 have nn:∀{j:Nat}{x:Option V},j≠i->σ[j]?=some x->(σ.set i (some (.ref p)))[j]?=some x:=λc h=>by rw[Js (J7 c)];exact h
 refine⟨E.fz,by rw[Jg,Jg,E.len],λj e h=>?_,λj ds h=>?_,λj k ds es q hj hk sj sk=>?_,E.tb⟩
 ·rcases cW h with⟨rfl,hi,e1⟩|⟨c,h⟩
  ·cases e1
  ·obtain⟨u,hu,ru⟩:=E.sl j e h;exact⟨u,nn c hu,ru⟩
 ·rcases cW h with⟨rfl,hi,e1⟩|⟨c,h⟩
  ·cases e1;exact⟨p,u,by rw[Jt (by rw[E.len];exact hi)],h0,hn,hp,r⟩
  ·obtain⟨p,vs,e,q⟩:=E.ow j ds h;exact⟨p,vs,nn c e,q⟩
 ·rcases cW hj with⟨e1,hl,_⟩|⟨cj,hj'⟩
  ·rcases cW hk with⟨e2,_,_⟩|⟨ck,QV⟩
   ·rw[e1,e2]
   ·rw[e1,Jt (by rw[E.len];exact hl)]at sj;cases sj;rw[Js (J7 ck)]at sk;exact absurd sk (OD k _ QV)
  ·rw[Js (J7 cj)]at sj;rcases cW hk with⟨e2,hl,_⟩|⟨ck,QV⟩
   ·rw[e2,Jt (by rw[E.len];exact hl)]at sk;cases sk;exact absurd sj (OD j _ hj')
   ·rw[Js (J7 ck)]at sk;exact E.ne j k _ _ q hj' QV sj sk
theorem EnvD.putOb(E:EnvD K H0 Φ H σ ρ){i:Nat}{p:Addr}{o o':Ow}{u:HO}(ho:ρ[i]?=some (some (.ob o)))(hs:σ[i]?=some (some (.ref p)))(r:OwR K Φ o' u):EnvD K H0 Φ (ak H p u) σ (ρ.set i (some (.ob o'))):=by
 obtain⟨p',vs,e,h0,hn,hp,_⟩:=E.ow i _ ho;rw[hs]at e;cases e;have hi:=aU ho;refine⟨λb u e=>?_,by rw[Jg,E.len],λj e h=>?_,λj fs h=>?_,λj k fs gs q hj hk sj sk=>?_,E.tb⟩
 ·rw[ba (dA e hn)];exact E.fz b u e
 ·rcases cW h with⟨rfl,_,e1⟩|⟨c,h⟩
  ·cases e1
  ·exact E.sl j e h
 ·rcases cW h with⟨rfl,_,e1⟩|⟨c,h⟩
  ·cases e1;exact⟨p,u,hs,h0,hn,bq,r⟩
  ·obtain⟨q,us,e,q0,qn,qp,qr⟩:=E.ow j fs h;refine⟨q,us,e,q0,qn,?_,qr⟩;rw[ba λz=>c (E.ne j i fs o p h ho (by rw[e,z]) hs)];exact qp
 ·have old:∀{j:Nat}{fs:Ow},(ρ.set i (some (.ob o')))[j]?=some (some (.ob fs))->∃gs,ρ[j]?=some (some (.ob gs)):=λ{j fs} h=>by
   rcases cW h with⟨rfl,_,_⟩|⟨_,h⟩
   ·exact⟨o,ho⟩
   ·exact⟨fs,h⟩
  obtain⟨Po,hj⟩:=old hj;obtain⟨gs',hk⟩:=old hk;exact E.ne j k Po gs' q hj hk sj sk
theorem EnvD.setOwn(E:EnvD K H0 Φ H σ ρ){p:Addr}(r:RpL K Φ ds vs)(h0:H0 p=none)(hn:Φ p=none)(hp:H p=some (.lst vs))(OD:∀(j:Nat)(w:Ow),ρ[j]?=some (some (.ob w))->σ[j]?≠some (some (.ref p)))(i:Nat):EnvD K H0 Φ H (σ.set i (some (.ref p))) (ρ.set i (some (.own ds))):=E.setOb (o:=.lst ds) (u:=.lst vs) r h0 hn hp OD i
theorem EnvD.put(E:EnvD K H0 Φ H σ ρ){i:Nat}{p:Addr}(ho:ρ[i]?=some (some (.own ds)))(hs:σ[i]?=some (some (.ref p)))(r:RpL K Φ es ws):EnvD K H0 Φ (ak H p (.lst ws)) σ (ρ.set i (some (.own es))):=E.putOb (o':=.lst es) (u:=.lst ws) ho hs r
theorem EnvD.weak{ρ':bC}(E:EnvD K H0 Φ H σ ρ)(hl:ρ'.length=ρ.length)(hw:∀(i:Nat) x,ρ'[i]?=some (some x)->ρ[i]?=some (some x)):EnvD K H0 Φ H σ ρ':=
 ⟨E.fz,by rw[E.len,hl],λi d h=>E.sl i d (hw i _ h),λi ds h=>E.ow i ds (hw i _ h),λi j ds es p hi hj=>E.ne i j ds es p (hw i _ hi) (hw j _ hj),E.tb⟩
end
noncomputable def NF{α:Type}(x:α)(R:α->Prop):Prop:=∃y,x=y/\R y
theorem NF.get{α:Type}{x:α}{R:α->Prop}(h:NF x R):R x:=by obtain⟨_,rfl,h⟩:=h;exact h
noncomputable abbrev TD:=bC->(D->Prop)->Prop
noncomputable abbrev aM:=bC->(List D->Prop)->Prop
noncomputable abbrev bR:=bC->(Bool->Prop)->Prop
noncomputable def lE(K:Frag)(t:TD):TE:=λσ H Q=>∃H0 Φ ρ R,EnvD K H0 Φ H σ ρ/\t ρ R/\∀d Φ' H' v,R d->Gr Φ H Φ' H'->Rp K Φ' d v->Q v H'
noncomputable def lQ(K:Frag)(t:TD):TE:=λσ H Q=>∃H0 Φ ρ R,EnvD K H0 Φ H σ ρ/\t ρ R/\∀d Φ' H' v,R d->Gr Φ H Φ' H'->RpQ K Φ' H' d v->Q v H'
noncomputable def lF(K:Frag)(t:aM):TE:=λσ H Q=>∃H0 Φ ρ R,EnvD K H0 Φ H σ ρ/\t ρ R/\∀ds Φ' H' p vs,R ds->Gr Φ H Φ' H'->H p=none->Φ' p=none->H' p=some (.lst vs)->RpL K Φ' ds vs->Q (.ref p) H'
noncomputable def lA(K:Frag)(n:Nat)(t:aM):TA:=λσ H Q=>∃H0 Φ ρ R,EnvD K H0 Φ H σ ρ/\t ρ R/\∀ds Φ' H' vs,R ds->Gr Φ H Φ' H'->RpL K Φ' ds vs->ds.length=n->Q vs H'
noncomputable def lT(K:Frag)(t:bR):TT:=λσ H Q=>∃H0 Φ ρ R,EnvD K H0 Φ H σ ρ/\t ρ R/\∀b Φ' H',R b->Gr Φ H Φ' H'->Q b H'
structure PD(K:Frag)(X:Cx)(e:Expr)(t:TD):Prop where pe:X.K=K->PE X e (lE K t)
structure PQ(K:Frag)(X:Cx)(e:Expr)(t:TD):Prop where pe:X.K=K->PE X e (lQ K t)
structure PF(K:Frag)(X:Cx)(e:Expr)(t:aM):Prop where pe:X.K=K->PE X e (lF K t)
structure PAD(K:Frag)(X:Cx)(es:List Expr)(t:aM):Prop where pa:X.K=K->PA X es (lA K es.length t)
structure PTD(K:Frag)(X:Cx)(e:Expr)(t:bR):Prop where pt:X.K=K->PT X e (lT K t)
structure PWD(K:Frag)(X:Cx)(e:Expr)(t:bR):Prop where pw:X.K=K->PW X e (lT K t)
theorem PE.imp{X:Cx}{e:Expr}{t t':TE}(h:PE X e t)(k:∀σ H Q,t' σ H Q->t σ H Q):PE X e t':=λpins s σ H Q I hw=>h pins s σ H Q I (k σ H Q hw)
theorem PT.imp{X:Cx}{e:Expr}{t t':TT}(h:PT X e t)(k:∀σ H Q,t' σ H Q->t σ H Q):PT X e t':=λpins s σ H Q I hw=>h pins s σ H Q I (k σ H Q hw)
theorem PW.imp{X:Cx}{e:Expr}{t t':TT}(h:PW X e t)(k:∀σ H Q,t' σ H Q->t σ H Q):PW X e t':=λwh pins s σ H Q I hw=>h wh pins s σ H Q I (k σ H Q hw)
theorem PA.imp{X:Cx}{e:List Expr}{t t':TA}(h:PA X e t)(k:∀σ H Q,t' σ H Q->t σ H Q):PA X e t':=λpos pins s σ H Q I hw=>h pos pins s σ H Q I (k σ H Q hw)
theorem PS.imp{X:Cx}{e:Stmt}{t t':TS}(h:PS X e t)(k:∀D σ H,t' D σ H->t D σ H):PS X e t':=λpins s σ H D I hw=>h pins s σ H D I (k D σ H hw)
theorem PSs.imp{X:Cx}{e:List Stmt}{t t':TS}(h:PSs X e t)(k:∀D σ H,t' D σ H->t D σ H):PSs X e t':=λpins s σ H D I hw=>h pins s σ H D I (k D σ H hw)
section
variable{K:Frag}{X:Cx}{e a b c:Expr}{es:List Expr}{pos:Pos}{t ta tb:TD}{tf:aM}{tl:aM}{tt tu:bR}
theorem PD.q(h:PD K X e t):PQ K X e t:=⟨λhK=>(h.pe hK).imp λσ H Q Nb=>by obtain⟨H0,Φ,ρ,R,E,t,k⟩:=Nb;exact⟨H0,Φ,ρ,R,E,t,λd Φ' H' v r g rr=>k d Φ' H' v r g (.inl rr)⟩⟩
noncomputable def kq(t:aM):TD:=λρ R=>t ρ λds=>R (.lst ds)
theorem PF.d(h:PF K X e tf):PD K X e (kq tf):=⟨λhK=>(h.pe hK).imp λσ H Q Nb=>by obtain⟨H0,Φ,ρ,R,E,t,k⟩:=Nb;exact⟨H0,Φ,ρ,_,E,t,λds Φ' H' p vs r g h0 hn hp rr=>
 k (.lst ds) _ H' _ r (g.freeze h0 hn hp) ((rr.same (cG hn _)).lst bq)⟩⟩
noncomputable def su(i:Nat):TD:=λρ R=>match ρ[i]? with|some (some (.v d))=>R d|_=>False
noncomputable def mW(i:Nat):TD:=λρ R=>match ρ[i]? with|some (some (.v d))=>R d|some (some (.ob (.lst ds)))=>R (.lst ds)|_=>False
theorem dv(i:Nat){x:Str}(hN:X.N[i]?=some x:=by rfl)(hv:cF X.env.scope x:=by nofun)(hd:(x==("__debug__":Str))=false:=by decide)
  (Np:(x==("__classdict__":Str))=false:=by decide):PD K X (.Name x pos) (su i):=⟨λ_=>(pv i hN hv hd Np).imp λσ H Q Nb=>by
 obtain⟨H0,Φ,ρ,R,E,t,k⟩:=Nb;unfold su at t;split at t
 ·next d h=>
  obtain⟨v,e,r⟩:=E.sl i d h;exact⟨v,e,k d Φ H v t (.refl E.fz) r⟩
 ·exact t.elim⟩
theorem ae(i:Nat){x:Str}(hN:X.N[i]?=some x:=by rfl)(hv:cF X.env.scope x:=by nofun)(hd:(x==("__debug__":Str))=false:=by decide)
  (Np:(x==("__classdict__":Str))=false:=by decide):PQ K X (.Name x pos) (mW i):=⟨λ_=>(pv i hN hv hd Np).imp λσ H Q Nb=>by
 obtain⟨H0,Φ,ρ,R,E,t,k⟩:=Nb;unfold mW at t;split at t
 ·next d h=>
  obtain⟨v,e,r⟩:=E.sl i d h;exact⟨v,e,k d Φ H v t (.refl E.fz) (.inl r)⟩
 ·next ds h=>
  obtain⟨p,vs,e,_,_,hp,r⟩:=E.owl i ds h;exact⟨_,e,k _ Φ H _ t (.refl E.fz) (.inr ⟨p,vs,ds,rfl,rfl,hp,r⟩)⟩
 ·exact t.elim⟩
noncomputable def dC(d:D):TD:=λ_ R=>R d
theorem nc{v:V}{d:D}(h:PE X e (tC v))(r:∀Φ,Rp K Φ d v):PD K X e (dC d):=⟨λ_=>h.imp λσ H Q Nb=>by obtain⟨H0,Φ,ρ,R,E,t,k⟩:=Nb;exact k d Φ H v t (.refl E.fz) (r Φ)⟩
theorem ao{i j}:PD K X (.Constant (.int i) j pos) (dC (.int i)):=nc Cc λ_=>.int i
theorem mO{i j}:PD K X (.Constant (.bool i) j pos) (dC (.bl i)):=nc G0 λ_=>.bl i
theorem aC{i j}:PD K X (.Constant (.str i) j pos) (dC (.str i)):=nc wq λ_=>.str i
theorem bS{j}:PD K X (.Constant .none j pos) (dC .non):=nc HL λ_=>.non
noncomputable abbrev cv:=D->D->(D->Prop)->Prop
noncomputable def jA(K:Frag)(r:cv):R2:=λx y H Q=>∃Φ dx dy R,Same Φ H/\RpQ K Φ H dx x/\RpQ K Φ H dy y/\r dx dy R/\∀d Φ' H' v,R d->Gr Φ H Φ' H'->Rp K Φ' d v->Q v H'
structure OpD(K:Frag)(X:Cx)(f:Value->Value->Sem Value)(r:cv):Prop where o:X.K=K->bO X f (jA K r)
noncomputable def gU(r:cv)(ta tb:TD):TD:=λρ R=>ta ρ λx=>tb ρ λy=>r x y R
theorem lL{r:cv}{σ:St}{H:Hp}{Q:VK}(h:lE K (gU r ta tb) σ H Q):iq (jA K r) (lQ K ta) (lQ K tb) σ H Q:=by obtain⟨H0,Φ,ρ,R,E,t,k⟩:=h;exact⟨H0,Φ,ρ,_,E,t,λdx Φ1 H1 x t1 g1 rx=>⟨H0,Φ1,ρ,_,E.gr g1,t1,λdy Φ2 H2 y t2 g2 ry=>⟨Φ2,dx,dy,R,g2.s,rx.gr g2,ry,t2,λd Φ' H' v r g rr=>k d Φ' H' v r ((g1.trans g2).trans g) rr⟩⟩⟩
theorem aS{op:Operator}{r:cv}(ho:OpD K X (binaryOp op) r)(ha:PQ K X a ta)(hb:PQ K X b tb):PD K X (.BinOp a op b pos) (gU r ta tb):=
 ⟨λhK=>(ql (ho.o hK) (ha.pe hK) (hb.pe hK)).imp λ_ _ _=>lL⟩
theorem nr{op:CmpOp}{r:cv}(ho:OpD K X (compareOp op) r)(ha:PQ K X a ta)(hb:PQ K X b tb)(hm:behindInMarks op b=false):PD K X (.Compare a [op] [b] pos) (gU r ta tb):=
 ⟨λhK=>(tT (ho.o hK) (ha.pe hK) (hb.pe hK) hm).imp λ_ _ _=>lL⟩
noncomputable def rC(t:TD):bR:=λρ R=>t ρ λd=>match d with|.bl b=>R b|_=>False
theorem Ib{r:cv}{σ:St}{H:Hp}{Q:Bool->Hp->Prop}(h:lT K (rC (gU r ta tb)) σ H Q):qD (iq (jA K r) (lQ K ta) (lQ K tb)) σ H Q:=by
 obtain⟨H0,Φ,ρ,R,E,t,k⟩:=h;refine lL ⟨H0,Φ,ρ,_,E,t,λd Φ' H' v r g rr=>?_⟩
 cases d with
 |bl b=>cases rr;exact⟨b,rfl,k b Φ' H' r g⟩
 |_=>exact r.elim
theorem aI{op:CmpOp}{r:cv}(ho:OpD K X (compareOp op) r)(ha:PQ K X a ta)(hb:PQ K X b tb)(hm:behindInMarks op b=false):PTD K X (.Compare a [op] [b] pos) (rC (gU r ta tb)):=
 ⟨λhK=>(vj (ho.o hK) (ha.pe hK) (hb.pe hK) hm).imp λ_ _ _=>Ib⟩
noncomputable abbrev tY:=D->(D->Prop)->Prop
noncomputable def Fv(r:tY)(ta:TD):TD:=λρ R=>ta ρ λx=>r x R
noncomputable def Bu:tY:=λx R=>match x with|.int i=>R (.int (-i))|_=>False
theorem ei(ha:PQ K X a ta):PD K X (.UnaryOp .USub a pos) (Fv Bu ta):=⟨λhK=>(yM Bw (ha.pe hK)).imp λσ H Q Nb=>by obtain⟨H0,Φ,ρ,R,E,t,k⟩:=Nb;exact⟨H0,Φ,ρ,_,E,t,λdx Φ1 H1 x t1 g1 rx=>by
 cases dx with
 |int i=>exact⟨i,rx.int,k _ Φ1 H1 _ t1 g1 (.int _)⟩
 |_=>exact t1.elim⟩⟩
noncomputable def uL:D->(Bool->Prop)->Prop:=λd R=>match d with
 |.int i=>R (i != 0)|.bl b=>R b|.non=>R false|.str x=>x.length<=sizeLine/\R ((x.length:Int) != 0)|.lst ds=>R (!ds.isEmpty)|.tup ds=>R (!ds.isEmpty)|.fzl ds=>R (!ds.isEmpty)|.obj _ _=>False|.map _=>False|.exc _ _=>False
theorem pf{Φ:Hp}{ds:List D}{vs:List V}(h:RpL K Φ ds vs):(!ds.isEmpty)=!vs.isEmpty:=by have:=h.1;cases ds<;>cases vs<;>simp_all
theorem zY{Φ H:Hp}{d:D}{v:V}{R:Bool->Prop}(s:Same Φ H)(h:RpQ K Φ H d v)(t:uL d R):∃k,qY K v H k/\R k:=by
 cases d with
 |int i=>rw[h.int];exact⟨_,rfl,t⟩
 |bl i=>rw[h.bl];exact⟨_,rfl,t⟩
 |non=>rw[h.non];exact⟨_,rfl,t⟩
 |str i=>rw[h.str];exact⟨_,⟨t.1,rfl⟩,t.2⟩
 |lst ds=>obtain⟨a,vs,rfl,h1,h2⟩:=h.lst s;exact⟨_,.inl ⟨vs,.of h1,rfl⟩,by rw[←pf h2];exact t⟩
 |tup ds=>obtain⟨a,vs,rfl,h1,_,h2⟩:=h.tup s;exact⟨_,.inr (.inl ⟨vs,h1,rfl⟩),by rw[←pf h2];exact t⟩
 |fzl ds=>obtain⟨a,vs,rfl,h1,h2⟩:=h.fzl s;exact⟨_,.inl ⟨vs,h1,rfl⟩,by rw[←pf h2];exact t⟩
 |obj C fs=>exact t.elim
 |map Ng=>exact t.elim
 |exc _ _=>exact t.elim
noncomputable def BK(t:TD):bR:=λρ R=>t ρ λd=>uL d R
theorem iZ(ha:PQ K X a ta)(he:∀whole,isTrue a X.env whole=(do let v ←whole;standAt a.pos;holding [v] (truthy v))):PTD K X a (BK ta):=
 ⟨λhK=>(zN (ha.pe hK) he).imp λσ H Q Nb=>by obtain⟨H0,Φ,ρ,R,E,t,k⟩:=Nb;exact⟨H0,Φ,ρ,_,E,t,λd Φ1 H1 v t1 g1 rv=>by
  obtain⟨b,h1,h2⟩:=zY g1.s rv t1;rw[hK]
  exact⟨b,h1,k b Φ1 H1 h2 g1⟩⟩⟩
noncomputable def EE(t u:bR):bR:=λρ R=>t ρ λc=>(c=true->u ρ R)/\(c=false->R false)
noncomputable def yN(t u:bR):bR:=λρ R=>t ρ λc=>(c=true->R true)/\(c=false->u ρ R)
noncomputable def FJ(t:bR):bR:=λρ R=>t ρ λc=>R (!c)
theorem PWD.td(h:PWD K X e tt):PTD K X e tt:=⟨λhK=>(h.pw hK).pt⟩
theorem jX(ha:PTD K X a tt):PWD K X (.BoolOp .And [a] pos) tt:=⟨λhK=>DW (ha.pt hK)⟩
theorem fP(ha:PTD K X a tt):PWD K X (.BoolOp .Or [a] pos) tt:=⟨λhK=>sR (ha.pt hK)⟩
theorem kQ(ha:PTD K X a tt)(hb:PWD K X (.BoolOp .And (b::es) pos) tu):PWD K X (.BoolOp .And (a::b::es) pos) (EE tt tu):=
 ⟨λhK=>(Ex (ha.pt hK) (hb.pw hK)).imp λσ H Q Nb=>by obtain⟨H0,Φ,ρ,R,E,t,k⟩:=Nb;exact⟨H0,Φ,ρ,_,E,t,λc Φ1 H1 r g=>by
  cases c with
  |true=>rw[Ja rfl];exact⟨H0,Φ1,ρ,R,E.gr g,r.1 rfl,λb Φ' H' rb g'=>k b Φ' H' rb (g.trans g')⟩
  |false=>rw[I0 (by decide)];exact k _ Φ1 H1 (r.2 rfl) g⟩⟩
theorem eW(ha:PTD K X a tt)(hb:PWD K X (.BoolOp .Or (b::es) pos) tu):PWD K X (.BoolOp .Or (a::b::es) pos) (yN tt tu):=
 ⟨λhK=>(sT (ha.pt hK) (hb.pw hK)).imp λσ H Q Nb=>by obtain⟨H0,Φ,ρ,R,E,t,k⟩:=Nb;exact⟨H0,Φ,ρ,_,E,t,λc Φ1 H1 r g=>by
  cases c with
  |true=>rw[Ja rfl];exact k _ Φ1 H1 (r.1 rfl) g
  |false=>rw[I0 (by decide)];exact⟨H0,Φ1,ρ,R,E.gr g,r.2 rfl,λb Φ' H' rb g'=>k b Φ' H' rb (g.trans g')⟩⟩⟩
theorem ka(ha:PTD K X a tt):PTD K X (.UnaryOp .Not a pos) (FJ tt):=
 ⟨λhK=>(Im (ha.pt hK)).imp λσ H Q Nb=>by obtain⟨H0,Φ,ρ,R,E,t,k⟩:=Nb;exact⟨H0,Φ,ρ,_,E,t,λc Φ1 H1 r g=>k _ Φ1 H1 r g⟩⟩
noncomputable def HG(t:bR)(u v:TD):TD:=λρ R=>t ρ λc=>(c=true->u ρ R)/\(c=false->v ρ R)
theorem jm(hc:PTD K X c tt)(ha:PD K X a ta)(hb:PD K X b tb):PD K X (.IfExp c a b pos) (HG tt ta tb):=
 ⟨λhK=>(Cq (hc.pt hK) (ha.pe hK) (hb.pe hK)).imp λσ H Q Nb=>by obtain⟨H0,Φ,ρ,R,E,t,k⟩:=Nb;exact⟨H0,Φ,ρ,_,E,t,λc Φ1 H1 r g=>by
  cases c with
  |true=>rw[Ja rfl];exact⟨H0,Φ1,ρ,R,E.gr g,r.1 rfl,λb Φ' H' v rb g' rr=>k b Φ' H' v rb (g.trans g') rr⟩
  |false=>rw[I0 (by decide)];exact⟨H0,Φ1,ρ,R,E.gr g,r.2 rfl,λb Φ' H' v rb g' rr=>k b Φ' H' v rb (g.trans g') rr⟩⟩⟩
noncomputable def pB:aM:=λ_ R=>R []
noncomputable def pI(t:TD)(u:aM):aM:=λρ R=>t ρ λd=>u ρ λds=>R (d::ds)
theorem aq:PAD K X [] pB:=⟨λ_=>pa_nil.imp λσ H Q Nb=>by obtain⟨H0,Φ,ρ,R,E,t,k⟩:=Nb;exact k [] Φ H [] t (.refl E.fz) .nil rfl⟩
theorem af(ha:PD K X e t)(hr:PAD K X es tl)(hs:starEach (e::es) X.env=(false,eval e X.env)::starEach es X.env):PAD K X (e::es) (pI t tl):=
 ⟨λhK=>(dZ (ha.pe hK) (hr.pa hK) hs).imp λσ H Q Nb=>by obtain⟨H0,Φ,ρ,R,E,t,k⟩:=Nb;exact⟨H0,Φ,ρ,_,E,t,λd Φ1 H1 v r g rv=>⟨H0,Φ1,ρ,_,E.gr g,r,λds Φ2 H2 vs r2 g2 rl hl=>
  k _ Φ2 H2 _ r2 (g.trans g2) (.cons (rv.same g2.f) rl) (by rw[Je,Je,hl])⟩⟩⟩
noncomputable def yp(t:aM):TD:=λρ R=>t ρ λds=>R (.tup ds)
noncomputable def uX(t:aM):aM:=t
theorem pJ{n:Nat}(h:Nat.ble n 1000=true):n<=sizeLine:=JE (MV h) (by decide)
theorem bg{x1}(h:PAD K X es tl)(OR:Nat.ble es.length 1000=true:=by rfl):PD K X (.Tuple es x1 pos) (yp tl):=
 ⟨λhK=>(nZ (h.pa hK)).imp λσ H Q Nb=>by obtain⟨H0,Φ,ρ,R,E,t,k⟩:=Nb;exact⟨H0,Φ,ρ,_,E,t,λds Φ1 H1 vs r g rl hl=>⟨by rw[rl.1,hl];exact pJ OR,λp hp=>
  k _ _ _ _ r (g.trans (.new g.s hp _)) ((rl.same (cG (g.s.free hp) _)).tup bq)⟩⟩⟩
theorem eK(h:PAD K X es tl)(OR:Nat.ble es.length 1000=true:=by rfl):PF K X (.List es pos) (uX tl):=
 ⟨λhK=>(D8 (h.pa hK)).imp λσ H Q Nb=>by obtain⟨H0,Φ,ρ,R,E,t,k⟩:=Nb;exact⟨H0,Φ,ρ,_,E,t,λds Φ1 H1 vs r g rl hl=>⟨by rw[rl.1,hl];exact pJ OR,λp hp=>
  k _ _ _ p vs r (g.trans (.fresh g.s hp _)) (g.h.free hp) (g.s.free hp) bq rl⟩⟩⟩
end
end L2
namespace L2
open PySem PySem.Spec PyProof.Rows PySem.Builtin PySem.Builtin.Str
section
variable{X:Cx}
noncomputable def fJ(z:Str)(lo hi:Option Int):Str:=⟨(bN z.cps.toList lo hi).toArray⟩
theorem vb(z:Str)(lo hi:Option Int):Txt.slice z lo hi=fJ z lo hi:=by
 have key:strSliceIndices lo hi 1 z.length=(List.range (HT.sIx z.length z.length hi-HT.sIx z.length 0 lo)).map λk=>HT.sIx z.length 0 lo+k:=by
  have h1:∀(i:Int)(d:Nat),max 0 (min (if i<0 then i+(z.length:Int) else i) (z.length:Int))=(HT.sIx z.length d (some i):Int):=λi d=>by show max 0 (min (if i<0 then i+(z.length:Int) else i) (z.length:Int))=((if i<0 then (i+(z.length:Int)).toNat else min i.toNat z.length:Nat):Int);split<;>omega
  have e0:strSliceIndices lo hi 1 z.length=sliceRange (HT.sIx z.length 0 lo:Int) (HT.sIx z.length z.length hi:Int) 1:=by cases lo<;>cases hi<;>simp only[strSliceIndices,show (1:Int)>0 by decide,La,h1 _ 0,h1 _ z.length]<;>rfl
  rw[e0];unfold sliceRange;simp only[show (1:Int)>0 by decide,La]
  have ec:(if (HT.sIx z.length 0 lo:Int)<(HT.sIx z.length z.length hi:Int) then ((HT.sIx z.length z.length hi:Int)-(HT.sIx z.length 0 lo:Int)+1-1)/1 else 0).toNat=HT.sIx z.length z.length hi-HT.sIx z.length 0 lo:=by
   split
   ·rw[Int.ediv_one];omega
   ·omega
  rw[ec];refine K2 λk _=>?_;omega
 have hb:HT.sIx z.length z.length hi<=z.length:=by
  cases hi with
  |none=>exact Jc _
  |some i=>
   show (if i<0 then (i+(z.length:Int)).toNat else min i.toNat z.length)<=z.length;split<;>omega
 have Sf:HT.sIx z.length 0 lo<=z.length:=by
  cases lo with
  |none=>exact KJ _
  |some i=>
   show (if i<0 then (i+(z.length:Int)).toNat else min i.toNat z.length)<=z.length;split<;>omega
 have pick:(strSliceIndices lo hi 1 z.length).filterMap (z.cps[·]?)=bN z.cps.toList lo hi:=by
  rw[key];unfold bN
  have el:z.cps.toList.length=z.length:=by rw[J3];rfl
  rw[el];generalize HT.sIx z.length 0 lo=a;generalize hbb:HT.sIx z.length z.length hi=b at hb;refine Kc λj=>?_;rw[Me]
  have:∀m,m<=b-a->((List.range m).filterMap ((λx=>z.cps[x]?) ∘ λk=>a+k))=(z.cps.toList.drop a).take m:=by
   intro m
   induction m with
   |zero=>intro _;simp
   |succ m ih=>
    intro hm;rw[L6,List.filterMap_append,ih (by omega)]
    have Nu:a+m<z.cps.size:=by unfold Str.length at hb;omega
    have e1:z.cps.toList.drop a=z.cps.toList.drop a:=rfl
    have hl:m<(z.cps.toList.drop a).length:=by rw[JY,el];unfold Str.length;omega
    rw[List.take_add_one,Lr];congr 1;simp[Nu]
  rw[this _ (Jc _)]
 unfold Txt.slice fJ;split
 ·next h=>
  have hl:(strSliceIndices lo hi 1 z.length).length=z.length:=by simpa using h
  have el:z.cps.toList.length=z.length:=by rw[J3];rfl
  have:bN z.cps.toList lo hi=z.cps.toList:=by
   rw[key,mn,JQ]at hl;unfold bN;rw[el]
   have:HT.sIx z.length 0 lo=0:=by omega
   rw[this,Lx,Ke (by rw[el];omega)]
  rw[this]
 ·rw[pick]
theorem zV(z:Str)(lo hi:Option Int):(fJ z lo hi).length<=z.length:=by rw[←vb];exact Txt.slice_le z lo hi
noncomputable def xi:V->Option Int->Option Int->Hp->VK->Prop:=λx lo hi H Q=>∃z,x=.str z/\z.length<=sizeLine/\Q (.str (fJ z lo hi)) H
theorem wx{v:Value}{o:Option Int}(h:IsPart v o):∃p:Option (Int×Tok),v=partValue p/\p.map (·.1)=o:=by
 cases h with
 |none=>exact⟨none,rfl,rfl⟩
 |int i t=>exact⟨some (i,t),rfl,rfl⟩
theorem EJ:SlR X xi:=by
 intro pins s σ H x v vl vu lo hi sl Q I rx hs pl pu h;obtain⟨z,rfl,hz,q⟩:=h;obtain⟨t,rfl⟩:=rx;obtain⟨p1,rfl,rfl⟩:=wx pl;obtain⟨p2,rfl,rfl⟩:=wx pu;refine⟨"str",_,F.slot_str_getitem.lookup,LY _ _ _,?_⟩
 have Rr:s.heap.IsSlice sl p1 p2 none:=by obtain⟨o,ho,h1,h2⟩:=hs;exact⟨o,ho,h1,h2⟩
 refine wpAny_getItem_str_slice (l:=p1) (u:=p2) (st:=none) Rr rfl (post_val_or_str ⟨?_,λt' k=>?_⟩)
 ·exact JE (Txt.slice_le z _ _) hz
 ·refine⟨.str (fJ z (p1.map (·.1)) (p2.map (·.1))),H,?_,⟨t',?_⟩,q⟩
  ·exact I.tok _
  ·rw[←vb];rfl
noncomputable def e6(z:Str)(n:Nat):Str:=⟨((List.replicate n z.cps.toList).flatten).toArray⟩
theorem A3(z:Str):e6 z 1=z:=by unfold e6;simp
theorem ud:∀(n:Nat)(x acc:Array Nat),(List.replicate n x).foldl (·++·) acc=acc++((List.replicate n x.toList).flatten).toArray
 |0,x,acc=>by simp
 |n+1,x,acc=>by rw[Kh,List.foldl_cons,ud n x (acc++x),Kh,JK];apply Array.ext';simp
theorem Dq(z:Str)(n:Nat):(e6 z n).length=z.length*n:=by unfold e6 Str.length;simp[Mz]
noncomputable def Dz:R2:=λx y H Q=>∃z k,x=.str z/\y=.int k/\-(2^62)<=k/\k<2^62/\z.length*k.toNat<=sizeLine/\z.length<=sizeLine/\Q (.str (e6 z k.toNat)) H
theorem Bf:bO X (binaryOp .Mult) Dz:=by
 intro pins s σ H x y v u Q I rx ry h;obtain⟨z,k,rfl,rfl,h1,h2,h3,h4,q⟩:=h;obtain⟨t,rfl⟩:=rx;obtain⟨t',rfl⟩:=ry;refine P.mul_str (by rw[Jo (by omega),Jo (by omega)];rfl) (λc1 c2=>?_) (λc1 c2=>?_) ?_
 ·intro hc
  have hk:0<k:=by omega
  have h5:((z.length:Int))*k<=2^24:=by have:((z.length*k.toNat:Nat):Int)<=(sizeLine:Int):=Int.ofNat_le.mpr h3;rw[Int.natCast_mul,Int.toNat_of_nonneg (by omega)]at this;exact this
  have h6:(z.length:Int)<=(2^63-1)/k:=(Int.le_ediv_iff_mul_le hk).mpr (Int.le_trans h5 (by decide));omega
 ·unfold tooLong;exact Jo (by omega)
 ·by_cases c:k<1
  ·rw[Ja c]
   have e:k.toNat=0:=by omega
   rw[e]at q;exact⟨by decide,.str Str.empty,H,I.tok _,⟨_,rfl⟩,q⟩
  ·rw[I0 c];by_cases c2:(k==1 ||z.length==0)=true
   ·rw[Ja c2]
    have e:e6 z k.toNat=z:=by
     rw[K6]at c2;rcases c2 with c2|c2
     ·have:=eq_of_beq c2;subst this;exact A3 z
     ·have hz:z.cps.toList=[]:=by have:=eq_of_beq c2;unfold Str.length at this;exact Ko.mp (by rw[J3];exact this)
      unfold e6;rw[hz]
      have Tu:z.cps=#[]:=by apply Array.ext';rw[hz]
      apply Str.ext';rw[Tu];simp
    rw[e]at q;exact⟨.str z,H,I,⟨t,rfl⟩,q⟩
   ·rw[I0 c2]
    have e:(⟨(List.replicate k.toNat z.cps).foldl (·++·) #[]⟩:Str)=e6 z k.toNat:=by rw[ud];unfold e6;simp
    rw[e];refine⟨by rw[Dq];exact h3,.str (e6 z k.toNat),H,I.tok _,⟨_,rfl⟩,q⟩
end
noncomputable def Gj:R2:=λx y H Q=>∃a b xs ys,x=.ref a/\y=.ref b/\H a=some (.tup xs)/\H b=some (.tup ys)/\xs.length+ys.length<=sizeLine/\∀p H',Same H H'->H' p=some (.tup (xs++ys))->Q (.ref p) H'
theorem DQ{X:Cx}:bO X (binaryOp .Add) Gj:=by
 intro pins s σ H x y v u Q I rx ry h;obtain⟨a,b,xs,ys,rfl,rfl,ha,hb,hz,q⟩:=h;by_cases hx:xs=[]
 ·subst hx;cases rx;cases ry;obtain⟨Nc,r1,p1,_⟩:=I.tuple (SqT.of ha);obtain⟨NO,r2,p2,_⟩:=I.tuple (SqT.of hb);exact Iq p1 p2 (r1.nil_iff.mpr rfl) ⟨.ref b,H,I,rfl,q b H (Same.refl H) hb⟩
 ·refine Ht pins s σ H _ _ v u Q I rx ry ⟨a,b,xs,ys,rfl,rfl,SqT.of ha,SqT.of hb,hx,hz,λe=>?_,λ_ p hp=>q p _ (cG hp _) bq⟩;subst e;exact q a H (Same.refl H) (by rw[JW];exact ha)
noncomputable def yu:R2:=λx y H Q=>∃(a:Addr)(k:Int)(xs:List V),x=.ref a/\y=.int k/\H a=some (.tup xs)/\xs≠[]/\0<=k/\k<=1000/\k.toNat*xs.length<=1000/\∀p H',Same H H'->H' p=some (.tup (List.replicate k.toNat xs).flatten)->Q (.ref p) H'
theorem BO{X:Cx}:bO X (binaryOp .Mult) yu:=by
 intro pins s σ H x y v u Q I rx ry h;obtain⟨a,k,xs,rfl,rfl,ha,hx,h0,h1,hz,q⟩:=h;cases rx;obtain⟨t,rfl⟩:=ry;obtain⟨Nc,r,p1,_⟩:=I.tuple (SqT.of ha);have N4:Nc≠[]:=λz=>hx (r.nil_iff.mp z);have hl:=r.length
 have hits:Nc.toArray.isEmpty=false:=by cases Nc with|nil=>exact absurd rfl N4|cons _ _=>rfl
 obtain⟨⟨cls,dd,data,sl⟩,ho,hc,n,hd⟩:=id p1;simp only at hc hd;subst hc hd
 refine wpAny_binaryOp_repeat_ref (T:="tuple") (U:="int") (by decide) ⟨_,ho,rfl⟩ (λs'=>Ms s' k t) Er F.fills_int_mul LZ Hd F.slot_int_index.lookup
  (Ku LZ (Ms s k t) F.entry_int_rmul (F.args_int_rmul_2 _ _) (zF k t a Nc.toArray n dd sl)
   ⟨ho,rfl,⟨_,ho,rfl⟩,?_⟩)
 have OD:List.foldl (λx1 x2=>x1++x2) #[] (List.replicate k.toNat Nc.toArray)=(List.replicate k.toNat Nc).flatten.toArray:=by have:=qh Nc k.toNat [];rw[Lm]at this;exact this
 have Qn:¬ (decide (k < -(2^63)) ||decide (k≥2^63))=true:=by rw[Jo (by omega),Jo (by omega)];exact JJ
 by_cases c1:k=1
 ·subst c1;refine Ku Lf ⟨_,ho,rfl⟩ Mq (Mh _ _) (E9 a Nc.toArray n dd sl t) ⟨ho,?_⟩;refine⟨.ref a,H,I,rfl,q a H (Same.refl H) ?_⟩;show H a=some (.tup (List.replicate 1 xs).flatten);rw[List.replicate_one,JK,List.flatten_nil,JW];exact ha
 ·have Se:¬ (Nc.toArray.isEmpty ||k==1)=true:=by rw[hits,KU.mpr c1];exact JJ
  have lay:∀ys:List V,∀us:List Value,ys.length<=sizeLine->Vals ys us->EP X pins σ Q (.ref s.heap.objs.size) { s with heap:=s.heap.push { cls:=Value.type "tuple",data:=Data.seq us.toArray },toks:=s.toks }\/¬ (∀p H',Same H H'->H' p=some (.tup ys)->Q (.ref p) H'):=λys us hzz rr=>by
   by_cases qq:∀p H',Same H H'->H' p=some (.tup ys)->Q (.ref p) H'
   ·refine .inl ⟨.ref s.heap.objs.size,_,I.laid (t':=s.toks) (o:=.tup ys) (λb ob z=>IX _ z) (Jc _) ?_,rfl,qq _ _ (cG (I.hok.fresh (Jc _)) _) bq⟩;exact⟨hzz,_,rr,IsTupD.new _ _⟩
   ·exact .inr qq
  by_cases c0:k=0
  ·subst c0;refine Ku Lf ⟨_,ho,rfl⟩ Mq (Mh _ _) (yH a Nc.toArray n dd sl 0 t Qn Se rfl) ⟨ho,?_⟩;rcases lay [] [] (KJ _) .nil with z|z
   ·exact z
   ·exact absurd q z
  ·have P5:¬ (decide (k<=0) ||Nc.toArray.isEmpty)=true:=by rw[hits,Jo (by omega)];exact JJ
   have hlen:Nc.length*k.toNat<=1000:=by rw[←hl,Mz];exact hz
   have hlenI:(Nc.toArray.size:Int)*k<=1000:=by
    rw[Jj]
    have e:k=((k.toNat:Nat):Int):=by omega
    rw[e]
    exact_mod_cast hlen
   have hs:(1000:Int)<=((sizeLine:Nat):Int):=by exact_mod_cast small (Jc 1000)
   have Rz:(List.replicate k.toNat Nc).flatten.length<=1000:=by rw[pN,Mz];exact hlen
   refine Ku Lf ⟨_,ho,rfl⟩ Mq (Mh _ _) (xM a Nc.toArray n dd sl k t Qn Se P5 (by omega) (by unfold Builtin.Tuple.tupleTooMany;rw[Jo (by omega)];exact JJ) (by rw[OD,Jj];exact small Rz)) ⟨ho,?_⟩;rw[OD];rcases lay (List.replicate k.toNat xs).flatten (List.replicate k.toNat Nc).flatten (by rw[pN];exact small hz) (r.rep k.toNat)with z|z
   ·exact z
   ·exact absurd q z
end L2
namespace L2
open PySem PySem.Spec PyProof.Rows
section
variable{K:Frag}{X:Cx}{e a b:Expr}
noncomputable def Ab:cv:=λx y R=>match x,y with
 |.int i,.int j=>R (.int (i+j))
 |.str i,.str j=>i.length+j.length<=sizeLine/\R (.str (i++j))
 |.lst xs,.lst ys=>xs.length+ys.length<=sizeLine/\NF (xs++ys) λzs=>R (.lst zs)
 |.tup xs,.tup ys=>xs.length+ys.length<=sizeLine/\NF (xs++ys) λzs=>R (.tup zs)
 |_,_=>False
theorem bB:OpD K X (binaryOp .Add) Ab:=⟨λhK pins s σ H x y v u Q I rx ry Nb=>by
 obtain⟨Φ,dx,dy,R,sm,hx,hy,h,k⟩:=Nb
 cases dx with
 |int i=>
  cases dy with
  |int j=>cases hx.int;cases hy.int;exact D7 pins s σ H _ _ v u Q I rx ry ⟨i,j,rfl,rfl,k _ Φ H _ h (.refl sm) (.int _)⟩
  |_=>exact h.elim
 |str i=>
  cases dy with
  |str j=>cases hx.str;cases hy.str;exact xY pins s σ H _ _ v u Q I rx ry ⟨i,j,rfl,rfl,h.1,k _ Φ H _ h.2 (.refl sm) (.str _)⟩
  |_=>exact h.elim
 |lst xs=>
  cases dy with
  |lst ys=>
   obtain⟨a,vs,rfl,h1,h2⟩:=hx.lst sm;obtain⟨b,ws,rfl,h3,h4⟩:=hy.lst sm;exact Ez pins s σ H _ _ v u Q I rx ry ⟨a,b,vs,ws,rfl,rfl,h1,h3,by rw[h2.1,h4.1];exact h.1,λp hp=>k _ _ _ _ h.2.get (.new sm hp _) (((h2.append h4).same (cG (sm.free hp) _)).lst bq)⟩
  |_=>exact h.elim
 |tup xs=>
  cases dy with
  |tup ys=>
   obtain⟨a,vs,rfl,h1,Pa,h2⟩:=hx.tup sm;obtain⟨b,ws,rfl,h3,QE,h4⟩:=hy.tup sm
   exact DQ pins s σ H _ _ v u Q I rx ry ⟨a,b,vs,ws,rfl,rfl,sm _ _ Pa,sm _ _ QE,by rw[h2.1,h4.1];exact h.1,λp H' s' q=>by
    obtain⟨Φ',g,q'⟩:=Gr.adoptT sm s' q
    exact k _ Φ' H' _ h.2.get g (((h2.append h4).same g.f).tup q')⟩
  |_=>exact h.elim
 |_=>exact h.elim⟩
noncomputable def zI(C:Int->Int->Prop)(g:Int->Int->D):cv:=λx y R=>match x,y with|.int i,.int j=>C i j/\R (g i j)|_,_=>False
noncomputable def jI(g:Int->Int->D):cv:=λx y R=>match x,y with|.int i,.int j=>R (g i j)|_,_=>False
theorem qR{f:Value->Value->Sem Value}{C:Int->Int->Prop}{g:Int->Int->Int}(h:bO X f (rI C λi j=>.int (g i j))):OpD K X f (zI C λi j=>.int (g i j)):=
 ⟨λhK pins s σ H x y v u Q I rx ry Nb=>by
  obtain⟨Φ,dx,dy,R,sm,hx,hy,q,k⟩:=Nb
  cases dx with
  |int i=>
   cases dy with
   |int j=>cases hx.int;cases hy.int;exact h pins s σ H _ _ v u Q I rx ry ⟨i,j,rfl,rfl,q.1,k _ Φ H _ q.2 (.refl sm) (.int _)⟩
   |_=>exact q.elim
  |_=>exact q.elim⟩
theorem GX{f:Value->Value->Sem Value}{g:Int->Int->Int}(h:bO X f (gq λi j=>.int (g i j))):OpD K X f (jI λi j=>.int (g i j)):=
 ⟨λhK pins s σ H x y v u Q I rx ry Nb=>by
  obtain⟨Φ,dx,dy,R,sm,hx,hy,q,k⟩:=Nb
  cases dx with
  |int i=>
   cases dy with
   |int j=>cases hx.int;cases hy.int;exact h pins s σ H _ _ v u Q I rx ry ⟨i,j,rfl,rfl,k _ Φ H _ q (.refl sm) (.int _)⟩
   |_=>exact q.elim
  |_=>exact q.elim⟩
theorem oS{f:Value->Value->Sem Value}{g:Int->Int->Bool}(h:bO X f (gq λi j=>.bl (g i j))):OpD K X f (jI λi j=>.bl (g i j)):=
 ⟨λhK pins s σ H x y v u Q I rx ry Nb=>by
  obtain⟨Φ,dx,dy,R,sm,hx,hy,q,k⟩:=Nb
  cases dx with
  |int i=>
   cases dy with
   |int j=>cases hx.int;cases hy.int;exact h pins s σ H _ _ v u Q I rx ry ⟨i,j,rfl,rfl,k _ Φ H _ q (.refl sm) (.bl _)⟩
   |_=>exact q.elim
  |_=>exact q.elim⟩
theorem fR:OpD K X (binaryOp .Sub) (jI λi j=>.int (i-j)):=GX A2
theorem xG:OpD K X (binaryOp .FloorDiv) (zI CDivB λi j=>.int (i/j)):=qR BR
theorem ir:OpD K X (binaryOp .Mod) (zI (λ_ j=>0<j) λi j=>.int (i % j)):=qR Cv
theorem EK:OpD K X (binaryOp .Pow) (zI vJ λi j=>.int (i^j.toNat)):=qR zJ
theorem iX:OpD K X (compareOp .Lt) (jI λi j=>.bl (decide (i<j))):=oS zR
theorem gY:OpD K X (compareOp .Gt) (jI λi j=>.bl (decide (j<i))):=oS HS
theorem nV:OpD K X (compareOp .GtE) (jI λi j=>.bl (decide (j<=i))):=oS zc
noncomputable def Gc:cv:=λx y R=>match x,y with
 |.int i,.int j=>IntMulOk i j/\R (.int (i*j))
 |.lst xs,.int k=>(-(2^63)<=k/\k<2^63/\xs.length*k.toNat<=sizeLine)/\NF (List.replicate k.toNat xs).flatten λzs=>R (.lst zs)
 |.tup xs,.int k=>(xs≠[]/\0<=k/\k<=1000/\k.toNat*xs.length<=1000)/\NF (List.replicate k.toNat xs).flatten λzs=>R (.tup zs)
 |.str z,.int k=>(-(2^62)<=k/\k<2^62/\z.length*k.toNat<=sizeLine/\z.length<=sizeLine)/\NF (e6 z k.toNat) λy=>R (.str y)
 |_,_=>False
theorem gh:OpD K X (binaryOp .Mult) Gc:=⟨λhK pins s σ H x y v u Q I rx ry Nb=>by
 obtain⟨Φ,dx,dy,R,sm,hx,hy,h,k⟩:=Nb
 cases dx with
 |int i=>
  cases dy with
  |int j=>cases hx.int;cases hy.int;exact yJ pins s σ H _ _ v u Q I rx ry ⟨i,j,rfl,rfl,h.1,k _ Φ H _ h.2 (.refl sm) (.int _)⟩
  |_=>exact h.elim
 |lst xs=>
  cases dy with
  |int j=>
   obtain⟨a,vs,rfl,h1,h2⟩:=hx.lst sm;cases hy.int;exact wD pins s σ H _ _ v u Q I rx ry ⟨a,j,vs,rfl,rfl,h1,h.1.1,h.1.2.1,by rw[h2.1];exact h.1.2.2,λp hp=>k _ _ _ _ h.2.get (.new sm hp _) (((h2.rep _).same (cG (sm.free hp) _)).lst bq)⟩
  |_=>exact h.elim
 |tup xs=>
  cases dy with
  |int j=>
   obtain⟨a,vs,rfl,h1,Pa,h2⟩:=hx.tup sm;cases hy.int;have N4:vs≠[]:=λe=>h.1.1 (Ko.mp (by rw[←h2.1,e];rfl))
   exact BO pins s σ H _ _ v u Q I rx ry ⟨a,j,vs,rfl,rfl,sm _ _ Pa,N4,h.1.2.1,h.1.2.2.1,by rw[h2.1];exact h.1.2.2.2,λp H' s' q=>by
    obtain⟨Φ',g,q'⟩:=Gr.adoptT sm s' q
    exact k _ Φ' H' _ h.2.get g (((h2.rep _).same g.f).tup q')⟩
  |_=>exact h.elim
 |str z=>
  cases dy with
  |int j=>
   cases hx.str;cases hy.int;exact Bf pins s σ H _ _ v u Q I rx ry ⟨z,j,rfl,rfl,h.1.1,h.1.2.1,h.1.2.2.1,h.1.2.2.2,k _ Φ H _ h.2.get (.refl sm) (.str _)⟩
  |_=>exact h.elim
 |_=>exact h.elim⟩
end
noncomputable def e7(f:D->D->Option Bool):List D->List D->Option Bool
 | [],[]=>some true
 |x::xs,y::ys=>(f x y).bind λb=>(e7 f xs ys).map (b&&·)
 |_,_=>some false
noncomputable def cD:Nat->D->D->Option Bool
 |_,.int i,.int j=>some (i==j)
 |_,.bl i,.bl j=>some (i==j)
 |_,.str i,.str j=>some (i==j)
 |_,.non,.non=>some true
 |n+1,.tup xs,.tup ys=>e7 (cD n) xs ys
 |n+1,.lst xs,.lst ys=>if xs.length=ys.length then e7 (cD n) xs ys else some false
 |_,_,_=>none
theorem jK{f:D->D->Option Bool}:∀{xs ys:List D}{b:Bool},e7 f xs ys=some b->∃g:Nat->Bool,(∀(j:Nat)(x y:D),xs[j]?=some x->ys[j]?=some y->f x y=some (g j))/\b=((List.range (min xs.length ys.length)).all g&&xs.length==ys.length)
 | [],[],b,h=>by cases h;exact⟨λ_=>true,λj x y hx=>by simp at hx,by simp⟩
 | [],_::_,b,h=>by cases h;exact⟨λ_=>true,λj x y hx=>by simp at hx,by simp⟩
 |_::_,[],b,h=>by cases h;exact⟨λ_=>true,λj x y _ hy=>by simp at hy,by simp⟩
 |x::xs,y::ys,b,h=>by
  unfold e7 at h
  cases e:f x y with
  |none=>rw[e]at h;cases h
  |some c=>
   cases e2:e7 f xs ys with
   |none=>rw[e,e2]at h;cases h
   |some c2=>
    rw[e,e2]at h;cases h;obtain⟨g,h1,h2⟩:=jK e2;refine⟨λj=>match j with|0=>c|j+1=>g j,λj u v hu hv=>?_,?_⟩
    ·cases j with
     |zero=>cases hu;cases hv;exact e
     |succ j=>exact h1 j u v hu hv
    ·have em:min (x::xs).length (y::ys).length=min xs.length ys.length+1:=by simp only[Je];omega
     have el:((x::xs).length==(y::ys).length)=(xs.length==ys.length):=by simp
     rw[em,el,List.range_succ_eq_map,Mo,M9,h2,Bool.and_assoc];rfl
section
variable{K:Frag}{X:Cx}{pins:List (Addr×Obj)}{σ:St}{Φ H:Hp}{s:Shared}
theorem Iy{n:Nat}{g:Nat->Bool}(h:∀j,j<n->g j=true):(List.range n).all g=true:=by rw[JB];intro j hj;exact h j (J6.mp hj)
theorem bf{α:Type}{xs:List α}{j:Nat}(h:j<xs.length):xs[j]?=some xs[j]:=by simp[h]
inductive CmV:Nat->D->D->Bool->Prop
 |int {n:Nat} (i j:Int):CmV n (.int i) (.int j) (i==j)
 |bl {n:Nat} (i j:Bool):CmV n (.bl i) (.bl j) (i==j)
 |str {n:Nat} (i j:Str):CmV n (.str i) (.str j) (i==j)
 |non {n:Nat}:CmV n .non .non true
 |tup {n:Nat} {xs ys:List D} {b:Bool} (h:e7 (cD n) xs ys=some b):CmV (n+1) (.tup xs) (.tup ys) b
 |lst {n:Nat} {xs ys:List D} {b:Bool} (h:(if xs.length=ys.length then e7 (cD n) xs ys else some false)=some b):CmV (n+1) (.lst xs) (.lst ys) b
theorem gy{n:Nat}{d e:D}{b:Bool}(h:cD n d e=some b):CmV n d e b:=by
 unfold cD at h;split at h
 ·cases h;exact .int _ _
 ·cases h;exact .bl _ _
 ·cases h;exact .str _ _
 ·cases h;exact .non
 ·exact .tup h
 ·exact .lst h
 ·cases h
theorem uh(hK:X.K=K)(I:Inv X pins σ H s)(sm:Same Φ H):∀(n:Nat){d e:D}{b:Bool}{v:V},cD n d e=some b->Rp K Φ d v->Rp K Φ e v->b=true:=by
 intro n
 induction n using Nat.strongRecOn with
 |ind n ih=>
  intro d e b v h r1 r2
  have all:∀{m:Nat}{xs ys:List D}{vs:List V}{b:Bool},m<n->e7 (cD m) xs ys=some b->RpL K Φ xs vs->RpL K Φ ys vs->b=true:=λ{m xs ys vs b} hm h h2 k2=>by
   obtain⟨g,hg,hb⟩:=jK h;have l1:=h2.1;have l2:=k2.1;rw[hb,Iy λj hj=>?_]
   ·simp;omega
   ·have j0:j<vs.length:=by omega
    have j1:j<xs.length:=by omega
    have j2:j<ys.length:=by omega
    exact ih m hm (hg j _ _ (bf j1) (bf j2)) (h2.2 j _ _ (bf j0) (bf j1)) (k2.2 j _ _ (bf j0) (bf j2))
  cases gy h with
  |int i j=>cases r1;cases r2;exact JT i
  |bl i j=>cases r1;cases r2;exact JT i
  |str i j=>cases r1;cases r2;exact JT i
  |non=>rfl
  |tup h=>
   cases r1 with| @tup a vs xs h1 h2 h3=>cases r2 with| @tup _ ws ys k1 k2 k3=>
   have QF:vs=ws:=I.tuple_inj (.of (sm _ _ h1)) (.of (sm _ _ k1));subst QF;exact all (KW _) h ⟨h2,h3⟩ ⟨k2,k3⟩
  |lst h=>
   cases r1 with| @lst a vs xs h1 h2 h3=>cases r2 with| @lst _ ws ys k1 k2 k3=>
   have QF:vs=ws:=by rw[h1]at k1;cases k1;rfl
   subst QF;rw[Ja (h2.symm.trans k2)]at h;exact all (KW _) h ⟨h2,h3⟩ ⟨k2,k3⟩
open PySem.SeqAt in
theorem rD(hK:X.K=K)(I:Inv X pins σ H s)(sm:Same Φ H):∀(n:Nat){d e:D}{b:Bool}{x y:V},cD n d e=some b->Rp K Φ d x->Rp K Φ e y->
  ∀(A:Around)(u v:Value),A.units+n<cLine->RelV x u->RelV y v->EqAt A s u v b/\RcAt A s u v b/\RcNeAt A s u v (!b):=by
 intro n
 induction n using Nat.strongRecOn with
 |ind n ih=>
  intro d e b x y h rx ry A u v hu ru rv
  have each:∀{m:Nat}{xs ys:List D}{vs ws:List V}{Nc Nr:List Value}{g:Nat->Bool},m+1=n->(∀(j:Nat)(x y:D),xs[j]?=some x->ys[j]?=some y->cD m x y=some (g j))->RpL K Φ xs vs->RpL K Φ ys ws->Vals vs Nc->Vals ws Nr->∀j (j1:j<Nc.toArray.size) (j2:j<Nr.toArray.size),EqAt A.in1 s Nc.toArray[j] Nr.toArray[j] (g j):=λ{m xs ys vs ws Nc Nr g} hm hg h2 k2 r1 r2 j j1 j2=>by
   have l1:=Vals.length r1;have l2:=Vals.length r2;have m1:=h2.1;have m2:=k2.1;simp only[Jj]at j1 j2;obtain⟨x,hx,rx⟩:=Vals.get' r1 j1;obtain⟨y,hy,ry⟩:=Vals.get' r2 j2
   have i1:j<xs.length:=by omega
   have i2:j<ys.length:=by omega
   exact (ih m (by omega) (hg j _ _ (bf i1) (bf i2)) (h2.2 j x _ hx (bf i1)) (k2.2 j y _ hy (bf i2)) A.in1 _ _ (by show A.units+1+m<cLine;omega) rx ry).1
  have Qc:A.units<cLine:=by omega
  cases gy h with
  |int i j=>cases rx;cases ry;obtain⟨t,rfl⟩:=ru;obtain⟨t',rfl⟩:=rv;exact⟨EqAt.int_int i t j t',RcAt.int_int i t j t',RcNeAt.int_int i t j t'⟩
  |bl i j=>cases rx;cases ry;cases ru;cases rv;exact⟨EqAt.bool_bool i j,RcAt.bool_bool i j,RcNeAt.bool_bool i j⟩
  |str i j=>cases rx;cases ry;obtain⟨t,rfl⟩:=ru;obtain⟨t',rfl⟩:=rv;exact⟨EqAt.str_str i t j t',RcAt.str_str i t j t',RcNeAt.str_str i t j t'⟩
  |non=>cases rx;cases ry;cases ru;cases rv;exact⟨EqAt.same _,RcAt.none_none,RcNeAt.none_none⟩
  | @tup n xs ys b q=>
   have Tv:=rx;have Tw:=ry
   cases rx with| @tup a vs _ h1 h2 h3=>cases ry with| @tup c ws _ k1 k2 k3=>
   cases ru;cases rv;obtain⟨g,hg,hb⟩:=jK q;obtain⟨Nc,r1,p1,_⟩:=I.sqb (b:=false) (show SqT X.K H a vs from .of (sm _ _ h1));obtain⟨Nr,r2,p2,_⟩:=I.sqb (b:=false) (show SqT X.K H c ws from .of (sm _ _ k1));have l1:=Vals.length r1;have l2:=Vals.length r2;have he:=each rfl hg ⟨h2,h3⟩ ⟨k2,k3⟩ r1 r2;have R:=RcAt.tuples (e:=g) p1 p2 Qc he;have R':=RcNeAt.tuples (e:=g) p1 p2 Qc he
   have et:((List.range (min Nc.toArray.size Nr.toArray.size)).all g&&Nc.toArray.size==Nr.toArray.size)=b:=by rw[hb];simp only[Jj];rw[←l1,←l2,h2,k2]
   rw[et]at R R';refine⟨?_,R,R'⟩;by_cases RA:a=c
   ·subst RA;rw[uh hK I sm (n+1) h Tv Tw];exact EqAt.same _
   ·exact EqAt.of_refs RA R
  | @lst n xs ys b q=>
   have Tv:=rx;have Tw:=ry
   cases rx with| @lst a vs _ h1 h2 h3=>cases ry with| @lst c ws _ k1 k2 k3=>
   cases ru;cases rv;obtain⟨Nc,r1,p1,_⟩:=I.sqb (b:=true) (show SqL X.K H a vs from SqL.of (sm _ _ h1));obtain⟨Nr,r2,p2,_⟩:=I.sqb (b:=true) (show SqL X.K H c ws from SqL.of (sm _ _ k1));have l1:=Vals.length r1;have l2:=Vals.length r2
   have fin:RcAt A s (.ref a) (.ref c) b/\RcNeAt A s (.ref a) (.ref c) (!b):=by
    by_cases hl:xs.length=ys.length
    ·rw[Ja hl]at q;obtain⟨g,hg,hb⟩:=jK q;have he:=each rfl hg ⟨h2,h3⟩ ⟨k2,k3⟩ r1 r2
     have hsz:Nc.toArray.size=Nr.toArray.size:=by simp;omega
     have R:=RcAt.lists (e:=g) p1 p2 hsz Qc he;have R':=RcNeAt.lists (e:=g) p1 p2 hsz Qc he
     have et:(List.range Nc.toArray.size).all g=b:=by
      have e1:min xs.length ys.length=Nc.length:=by omega
      have e2:(xs.length==ys.length)=true:=by simp[hl]
      rw[hb,e1,e2,Bool.and_true,Jj]
     rw[et]at R R';exact⟨R,R'⟩
    ·rw[I0 hl]at q;cases q
     have hsz:(Nc.toArray.size != Nr.toArray.size)=true:=by simp;omega
     exact⟨RcAt.lists_lengths p1 p2 hsz Qc,RcNeAt.lists_lengths p1 p2 hsz Qc⟩
   refine⟨?_,fin.1,fin.2⟩;by_cases RA:a=c
   ·subst RA;rw[uh hK I sm (n+1) h Tv Tw];exact EqAt.same _
   ·exact EqAt.of_refs RA fin.1
end
noncomputable def mX:cv:=λx y R=>match cD 40 x y with|some b=>R (.bl b)|none=>False
noncomputable def r9:cv:=λx y R=>match cD 40 x y with|some b=>R (.bl (!b))|none=>False
section
variable{K:Frag}{X:Cx}
theorem RpQ.any{Φ H:Hp}{d:D}{v:V}(h:RpQ K Φ H d v)(s:Same Φ H):Rp K H d v:=by
 rcases h with h|⟨a,vs,ds,e,e2,h1,h2⟩
 ·exact h.same s
 ·subst e e2;exact (h2.same s).lst h1
theorem bM(hu:X.A.units+64<cLine):OpD K X (compareOp .Eq) mX:=⟨λhK pins s σ H x y u v Q I rx ry Nb=>by
 obtain⟨Φ,dx,dy,R,sm,hx,hy,h,k⟩:=Nb;unfold mX at h;split at h
 ·next b hb=>exact (rD hK I (Same.refl H) 40 hb (hx.any sm) (hy.any sm) X.A u v (by omega) rx ry).2.1 X.prog X.w _ _ ⟨.bl b,H,I,rfl,k _ Φ H _ h (.refl sm) (.bl b)⟩
 ·exact h.elim⟩
theorem fU(hu:X.A.units+64<cLine):OpD K X (compareOp .NotEq) r9:=⟨λhK pins s σ H x y u v Q I rx ry Nb=>by
 obtain⟨Φ,dx,dy,R,sm,hx,hy,h,k⟩:=Nb;unfold r9 at h;split at h
 ·next b hb=>exact (rD hK I (Same.refl H) 40 hb (hx.any sm) (hy.any sm) X.A u v (by omega) rx ry).2.2 X.prog X.w _ _ ⟨.bl (!b),H,I,rfl,k _ Φ H _ h (.refl sm) (.bl _)⟩
 ·exact h.elim⟩
noncomputable def nE:D->Bool
 |.non=>true
 |_=>false
noncomputable def tF(neg:Bool):cv:=λx y R=>match y with|.non=>R (.bl (nE x != neg))|.bl b=>(match x with|.bl a=>R (.bl ((a==b) != neg))|_=>False)|_=>False
theorem vK{Φ H:Hp}{d:D}{v:V}(h:RpQ K Φ H d v):decide (v=V.non)=nE d:=by
 cases d with
 |int i=>rw[h.int];rfl
 |bl i=>rw[h.bl];rfl
 |str i=>rw[h.str];rfl
 |non=>rw[h.non];rfl
 |tup ds=>rcases h with h|⟨a, vs, ds, e, _⟩
          · cases h; rfl
          · cases e
 |lst ds=>rcases h with h|⟨a, vs, ds, e, e2, _⟩
          · cases h; rfl
          · rw [e2]; rfl
 |fzl ds=>rcases h with h|⟨a, vs, ds, e, _⟩
          · cases h; rfl
          · cases e
 |obj C fs=>rcases h with h|⟨a, vs, ds, e, _⟩
            · cases h; rfl
            · cases e
 |map Ng=>rcases h with h|⟨a, vs, ds, e, _⟩
          · cases h; rfl
          · cases e
 |exc _ _=>rcases h with h|⟨a, vs, ds, e, _⟩
           · cases h<;>rfl
           · cases e
theorem gA:OpD K X (compareOp .Is) (tF false):=⟨λhK pins s σ H x y u v Q I rx ry Nb=>by
 obtain⟨Φ,dx,dy,R,sm,hx,hy,h,k⟩:=Nb
 cases dy with
 |non=>
  cases hy.non;refine ye pins s σ H _ _ u v Q I rx ry ⟨rfl,?_⟩;rw[vK hx];have h':R (.bl (nE dx != false)):=h;rw[Bool.bne_false]at h';exact k _ Φ H _ h' (.refl sm) (.bl _)
 |bl b=>
  cases hy.bl
  cases dx with
  |bl a=>
   cases hx.bl;have h':R (.bl ((a==b) != false)):=h;rw[Bool.bne_false]at h';exact yq pins s σ H _ _ u v Q I rx ry ⟨a,b,rfl,rfl,k _ Φ H _ h' (.refl sm) (.bl _)⟩
  |_=>exact h.elim
 |_=>exact h.elim⟩
theorem oY:OpD K X (compareOp .IsNot) (tF true):=⟨λhK pins s σ H x y u v Q I rx ry Nb=>by
 obtain⟨Φ,dx,dy,R,sm,hx,hy,h,k⟩:=Nb
 cases dy with
 |non=>
  cases hy.non;refine F0 pins s σ H _ _ u v Q I rx ry ⟨rfl,?_⟩;rw[vK hx];have h':R (.bl (nE dx != true)):=h;rw[Bool.bne_true]at h';exact k _ Φ H _ h' (.refl sm) (.bl _)
 |bl b=>
  cases hy.bl
  cases dx with
  |bl a=>
   cases hx.bl;have h':R (.bl ((a==b) != true)):=h;rw[Bool.bne_true]at h';exact FY pins s σ H _ _ u v Q I rx ry ⟨a,b,rfl,rfl,k _ Φ H _ h' (.refl sm) (.bl _)⟩
  |_=>exact h.elim
 |_=>exact h.elim⟩
end
end L2
namespace HT
open PySem PySem.Spec PyProof.Rows
theorem getItem_tuple_all{prog:Program}{w:World}{A:Around}{E:Value->Shared->Prop}{s:Shared}{t sl:Addr}{items:Array Value}{vl vu:Value}{lo hi:Option Int}{Q:Value->Shared->Prop}(ht:IsTup s.heap t items)(hs:s.heap.IsSliceOf sl vl vu .none)(pl:IsPart vl lo)(pu:IsPart vu hi)
  (hw:sIx items.size 0 lo=0/\sIx items.size items.size hi=items.size) (h:Q (.ref t) s):wpAny (model prog w) A (getItem (.ref t) (.ref sl)) Q E s:=by
 obtain⟨os,P6,R7,Rl⟩:=id hs;have S4:s.TypeIs (.ref sl) "slice":=⟨os,P6,R7⟩;unfold getItem
 try with_reducible refine KG ?_
 first|refine IV (Jf ?_)|skip
 refine IV (wpAny_sequenceKey ht.typeIs (by decide) ?_)
 refine IV (Ka (name:=Str.ofString "__getitem__") ht.typeIs Kj
  (Ks Kj ht.typeIs entry_tuple_getitem ?_ (args_tuple_getitem _ _)))
 show wpAny _ _ (Builtin.Tuple.tupleItemsOf (.ref t) >>= _) _ _ s;refine IV (tupleItemsOf_ ht ?_);refine IV (wpAny_typeOf S4 ?_);rw[Ja (by decide)];refine IV (tV hs pl pu ?_)
 have Tz:(((sIx items.size 0 lo:Nat):Int)==0&&(1:Int)==1&&(sIx items.size items.size hi-sIx items.size 0 lo)==items.size)=true:=by rw[hw.1,hw.2];simp
 show wpAny _ _ (if (((sIx items.size 0 lo:Nat):Int)==0&&(1:Int)==1&&(sIx items.size items.size hi-sIx items.size 0 lo)==items.size)=true then _ else _) _ _ s;rw[Ja Tz];refine IV (show wpAny _ _ (typeOf (.ref t) >>= λc=>pure (c==.type "tuple")) _ _ s from IV (wpAny_typeOf ht.typeIs (Jf ?_)));rw[Ja (by decide)];exact IV (L0 (Jf ⟨_,rfl,Jf h⟩))
end HT
namespace L2
open PySem PySem.Spec PyProof.Rows
section
variable{K:Frag}{X:Cx}{e a b c:Expr}{es:List Expr}{pos p2:Pos}{t ta tb:TD}{tl:aM}
noncomputable def mI:cv:=λx y R=>match y with
 |.int i=>(match x with
  |.lst ds=>∃d,bJ ds i=some d/\R d
  |.tup ds=>∃d,bJ ds i=some d/\R d
  |.fzl ds=>∃d,bJ ds i=some d/\R d
  |.str z=>z.length<=sizeLine/\∃c,bJ z.cps.toList i=some c/\R (.str ⟨#[c]⟩)
  |_=>False)
 |_=>False
theorem pA{Φ:Hp}{ds:List D}{vs:List V}{d:D}{i:Int}(h:RpL K Φ ds vs)(e:bJ ds i=some d):∃v,bJ vs i=some v/\Rp K Φ d v:=by
 unfold bJ at e ⊢;rw[h.1]
 cases hj:eA ds.length i with
 |none=>rw[hj]at e;cases e
 |some j=>
  rw[hj,Option.bind_some]at e;rw[Option.bind_some];exact h.at e
theorem xm(hK:X.K=K):ku X (jA K mI):=by
 intro value slice pins s σ H x y v u Q I rx ry ⟨Φ,dx,dy,R,sm,hx,hy,h,k⟩ hs
 cases dy with
 |int i=>
  cases hy.int
  cases dx with
  |lst ds=>
   obtain⟨d,h1,h2⟩:=h;obtain⟨a,vs,rfl,q1,q2⟩:=hx.lst sm;obtain⟨w,hw,OC⟩:=pA q2 h1;exact wj value slice pins s σ H _ _ v u Q I rx ry ⟨a,vs,i,w,rfl,rfl,.of q1,hw,k _ Φ H _ h2 (.refl sm) OC⟩ hs
  |tup ds=>
   obtain⟨d,h1,h2⟩:=h;obtain⟨a,vs,rfl,q1,_,q2⟩:=hx.tup sm;obtain⟨w,hw,OC⟩:=pA q2 h1;exact Cj value slice pins s σ H _ _ v u Q I rx ry ⟨a,vs,i,w,rfl,rfl,hK▸q1,hw,k _ Φ H _ h2 (.refl sm) OC⟩ hs
  |fzl ds=>
   obtain⟨d,h1,h2⟩:=h;obtain⟨a,vs,rfl,q1,q2⟩:=hx.fzl sm;obtain⟨w,hw,OC⟩:=pA q2 h1;exact wj value slice pins s σ H _ _ v u Q I rx ry ⟨a,vs,i,w,rfl,rfl,hK▸q1,hw,k _ Φ H _ h2 (.refl sm) OC⟩ hs
  |str z=>
   obtain⟨h0,c,h1,h2⟩:=h;cases hx.str;exact Gw value slice pins s σ H _ _ v u Q I rx ry ⟨z,i,c,rfl,rfl,h0,h1,k _ Φ H _ h2 (.refl sm) (.str _)⟩ hs
  |_=>exact h.elim
 |_=>exact h.elim
theorem cY(ha:PQ K X a ta)(hb:PQ K X b tb)(hs:pd b):PD K X (.Subscript a b pos) (gU mI ta tb):=
 ⟨λhK=>(vL (xm hK) (ha.pe hK) (hb.pe hK) hs).imp λ_ _ _=>lL⟩
noncomputable abbrev ja:=bC->(Option Int->Prop)->Prop
theorem av{i:Int}{j:Tok}{p:Pos}(ha:PQ K X a ta):PD K X (.Subscript a (.Constant (.int i) j p) pos) (gU mI ta (dC (.int i))):=cY ha (PD.q ao) λ_ _=>rfl
noncomputable def lO(K:Frag)(t:ja):TO:=λσ H Q=>∃H0 Φ ρ R,EnvD K H0 Φ H σ ρ/\t ρ R/\∀o Φ' H',R o->Gr Φ H Φ' H'->Q o H'
structure POD(K:Frag)(X:Cx)(e:Option Expr)(t:ja):Prop where po:X.K=K->PO X e (lO K t)
noncomputable def Ia:ja:=λ_ R=>R none
noncomputable def zL(t:TD):ja:=λρ R=>t ρ λd=>match d with|.int i=>R (some i)|_=>False
theorem PO.imp{o:Option Expr}{t t':TO}(h:PO X o t)(k:∀σ H Q,t' σ H Q->t σ H Q):PO X o t':=λpins s σ H Q I hw=>h pins s σ H Q I (k σ H Q hw)
theorem km:POD K X none Ia:=⟨λ_=>po_none.imp λσ H Q Nb=>by obtain⟨H0,Φ,ρ,R,E,t,k⟩:=Nb;exact k none Φ H t (.refl E.fz)⟩
theorem iY(h:PQ K X e t):POD K X (some e) (zL t):=⟨λhK=>(Gs (h.pe hK)).imp λσ H Q Nb=>by obtain⟨H0,Φ,ρ,R,E,t,k⟩:=Nb;exact⟨H0,Φ,ρ,_,E,t,λd Φ1 H1 v r g rv=>by
 cases d with
 |int i=>exact⟨i,rv.int,k _ Φ1 H1 r g⟩
 |_=>exact r.elim⟩⟩
variable{lo hi:Option Expr}{to tp:ja}
noncomputable def ur(K:Frag):V->Option Int->Option Int->Hp->VK->Prop:=λx lo hi H Q=>∃a xs,x=.ref a/\SqT K H a xs/\(HT.sIx xs.length 0 lo=0/\HT.sIx xs.length xs.length hi=xs.length)/\Q (.ref a) H
theorem sl_all:SlR X (ur X.K):=by
 intro pins s σ H x v vl vu lo hi sl Q I rx hs pl pu h;obtain⟨a,xs,rfl,hx,hw,q⟩:=h;cases rx;obtain⟨Nc,r,ht,hz⟩:=I.tuple hx
 have hlen:Nc.toArray.size=xs.length:=by rw[Jj];exact r.length.symm
 refine⟨"tuple",_,Kj.lookup,ht.typeIs,?_⟩;exact HT.getItem_tuple_all ht hs pl pu (by rw[hlen];exact hw) ⟨.ref a,H,I,rfl,q⟩
theorem zS{α:Type}{xs:List α}{l h:Option Int}(hw:HT.sIx xs.length 0 l=0/\HT.sIx xs.length xs.length h=xs.length):bN xs l h=xs:=by unfold bN;rw[hw.1,hw.2,Lx,Nat.sub_zero,Kt]
noncomputable def FL(x:D)(l h:Option Int)(R:D->Prop):Prop:=match x with
 |.lst ds=>NF (bN ds l h) λzs=>R (.lst zs)
 |.fzl ds=>NF (bN ds l h) λzs=>R (.lst zs)
 |.tup ds=>NF (bN ds l h) λzs=>R (.tup zs)
 |.str z=>z.length<=sizeLine/\NF (fJ z l h) λy=>R (.str y)
 |_=>False
noncomputable def B7(t:TD)(to tp:ja):TD:=λρ R=>t ρ λx=>to ρ λl=>tp ρ λh=>FL x l h R
theorem jv(ha:PQ K X a ta)(hl:POD K X lo to)(hh:POD K X hi tp):PD K X (.Subscript a (.Slice lo hi none p2) pos) (B7 ta to tp):=
 ⟨λhK=>(zg (hK▸sl_list.or (sl_tup.or (sl_all.or EJ)):SlR X (λx lo hi H Q=>sV K x lo hi H Q\/w8 K x lo hi H Q\/ur K x lo hi H Q\/xi x lo hi H Q)) (ha.pe hK) (hl.po hK) (hh.po hK)).imp λσ H Q Nb=>by obtain⟨H0,Φ,ρ,R,E,t,k⟩:=Nb;exact
  ⟨H0,Φ,ρ,_,E,t,λdx Φ1 H1 x t1 g1 rx=>⟨H0,Φ1,ρ,_,E.gr g1,t1,λl Φ2 H2 t2 g2=>⟨H0,Φ2,ρ,_,(E.gr g1).gr g2,t2,λh Φ3 H3 t3 g3=>by
   have g:=(g1.trans g2).trans g3;have Sg:=rx.gr (g2.trans g3)
   cases dx with
   |lst ds=>
    obtain⟨a,vs,rfl,q1,q2⟩:=Sg.lst g.s;exact .inl ⟨a,vs,rfl,.of q1,λp hp=>k _ _ _ _ t3.get (g.trans (.new g.s hp _)) (((q2.cut l h).same (cG (g.s.free hp) _)).lst bq)⟩
   |fzl ds=>
    obtain⟨a,vs,rfl,q1,q2⟩:=Sg.fzl g.s;exact .inl ⟨a,vs,rfl,q1,λp hp=>k _ _ _ _ t3.get (g.trans (.new g.s hp _)) (((q2.cut l h).same (cG (g.s.free hp) _)).lst bq)⟩
   |tup ds=>
    obtain⟨a,vs,rfl,q1,q0,q2⟩:=Sg.tup g.s;by_cases hw:HT.sIx vs.length 0 l=0/\HT.sIx vs.length vs.length h=vs.length
    ·refine .inr (.inr (.inl ⟨a,vs,rfl,q1,hw,?_⟩));have e:bN ds l h=ds:=zS (by rw[←q2.1];exact hw);have t4:=t3.get;rw[e]at t4;exact k _ _ _ _ t4 g (q2.tup q0)
    ·exact .inr (.inl ⟨a,vs,rfl,q1,hw,λp hp=>k _ _ _ _ t3.get (g.trans (.new g.s hp _)) (((q2.cut l h).same (cG (g.s.free hp) _)).tup bq)⟩)
   |str z=>
    cases Sg.str;exact .inr (.inr (.inr ⟨z,rfl,t3.1,k _ _ _ _ t3.2.get g (.str _)⟩))
   |_=>exact t3.elim⟩⟩⟩⟩
noncomputable def B1(ta tb:TD):aM:=λρ R=>ta ρ λx=>tb ρ λy=>match x,y with|.lst xs,.int k=>(-(2^63)<=k/\k<2^63/\xs.length*k.toNat<=sizeLine)/\NF (List.replicate k.toNat xs).flatten R|_,_=>False
theorem Dn(ha:PQ K X a ta)(hb:PQ K X b tb):PF K X (.BinOp a .Mult b pos) (B1 ta tb):=
 ⟨λhK=>(ql wD (ha.pe hK) (hb.pe hK)).imp λσ H Q Nb=>by obtain⟨H0,Φ,ρ,R,E,t,k⟩:=Nb;exact⟨H0,Φ,ρ,_,E,t,λdx Φ1 H1 x t1 g1 rx=>⟨H0,Φ1,ρ,_,E.gr g1,t1,λdy Φ2 H2 y t2 g2 ry=>by
  have g:=g1.trans g2;have rx2:=rx.gr g2
  cases dx with
  |lst xs=>cases dy with
   |int j=>
    obtain⟨a,vs,rfl,h1,h2⟩:=rx2.lst g.s;cases ry.int;exact⟨a,j,vs,rfl,rfl,h1,t2.1.1,t2.1.2.1,by rw[h2.1];exact t2.1.2.2,λp hp=>k _ _ _ p _ t2.2.get (g.trans (.fresh g.s hp _)) (g.h.free hp) (g.s.free hp) bq (h2.rep _)⟩
   |_=>exact t2.elim
  |_=>exact t2.elim⟩⟩⟩
noncomputable abbrev bc:=List D->(D->Prop)->Prop
noncomputable def bP(K:Frag)(sp:bc):Sp:=λvs H Q _=>∃Φ ds R,Same Φ H/\TabF K Φ/\RpL K Φ ds vs/\sp ds R/\∀d Φ' H' v,R d->Gr Φ H Φ' H'->Rp K Φ' d v->Q v H'
noncomputable def lg(sp:bc)(t:aM):TD:=λρ R=>t ρ λds=>sp ds R
variable{CX:dc}{k:Nat}{f:Addr}{fd:FuncData}{ps:List Str}{sp:bc}{x:Str}{p:Pos}{E:XK}
theorem xP(F:FnOk X.prog X.w X.K X.mg X.base CX k f fd ps (bP K sp))(hr:Room k X.A)(hg:Gl X x)(hm:X.mg x=some (.ref f))(hk:keepIn X.K (.ref f)=true)(hb:Binds X.K fd ps [])(hx:iB CX X E)
  (ha:PAD K X (e::es) tl) (he:starEach (e::es) X.env=(false,eval e X.env)::starEach es X.env) (Ot:(backTo pos (starEach es X.env)).any (·.1)=false) (OA:(x==("__debug__":Str))=false:=by decide) :
  PD K X (.Call (.Name x p) (e::es) [] pos) (lg sp tl):=
 ⟨λhK=>(vg F hr hg hm hk hb .nil hx (ha.pa hK) OA he Ot).imp λσ H Q Nb=>by obtain⟨H0,Φ,ρ,R,E,t,k⟩:=Nb;exact⟨H0,Φ,ρ,_,E,t,λds Φ1 H1 vs r g rl _=>⟨Φ1,ds,R,g.s,E.tb.same g.f,by rw[JW];exact rl,r,λd Φ' H' v rd g' rv=>k d Φ' H' v rd (g.trans g') rv⟩⟩⟩
noncomputable def mV(K:Frag)(Φ H:Hp)(ds:List D)(vs:List V):Prop:=vs.length=ds.length/\∀(i:Nat)(v:V)(d:D),vs[i]?=some v->ds[i]?=some d->RpQ K Φ H d v
noncomputable def BM(K:Frag)(t:aM):TA:=λσ H Q=>∃H0 Φ ρ R,EnvD K H0 Φ H σ ρ/\t ρ R/\∀ds Φ' H' vs,R ds->Gr Φ H Φ' H'->mV K Φ' H' ds vs->Q vs H'
structure PAQ(K:Frag)(X:Cx)(es:List Expr)(t:aM):Prop where pa:X.K=K->PA X es (BM K t)
theorem bt:PAQ K X [] pB:=⟨λ_=>pa_nil.imp λσ H Q Nb=>by obtain⟨H0,Φ,ρ,R,E,t,k⟩:=Nb;exact k [] Φ H [] t (.refl E.fz) ⟨rfl,λi v d hv _=>by simp at hv⟩⟩
theorem br(ha:PQ K X e t)(hr:PAQ K X es tl)(hs:starEach (e::es) X.env=(false,eval e X.env)::starEach es X.env):PAQ K X (e::es) (pI t tl):=
 ⟨λhK=>(dZ (ha.pe hK) (hr.pa hK) hs).imp λσ H Q Nb=>by obtain⟨H0,Φ,ρ,R,E,t,k⟩:=Nb;exact⟨H0,Φ,ρ,_,E,t,λd Φ1 H1 v r g rv=>⟨H0,Φ1,ρ,_,E.gr g,r,λds Φ2 H2 vs r2 g2 rl=>
  k _ Φ2 H2 _ r2 (g.trans g2) ⟨by simp[rl.1],λi u d hu hd=>by
   cases i with
   |zero=>cases hu;cases hd;exact rv.gr g2
   |succ i=>exact rl.2 i u d hu hd⟩⟩⟩⟩
noncomputable def lC(K:Frag)(r:bc):List V->Hp->VK->Prop:=λvs H Q=>∃Φ ds R,Same Φ H/\mV K Φ H ds vs/\r ds R/\∀d Φ' H' v,R d->Gr Φ H Φ' H'->Rp K Φ' d v->Q v H'
structure CallD(K:Frag)(X:Cx)(f:Value)(r:bc):Prop where c:X.K=K->fH X f (lC K r)
theorem bZ{id:String}{r:bc}(hc:CallD K X (.builtin id) r)(hg:Gl X x)(hm:X.mg x=none)(hv:bootBuiltins x=some (.builtin id))(ha:PAQ K X (e::es) tl)
  (he:starEach (e::es) X.env=(false,eval e X.env)::starEach es X.env) (Ot:(backTo pos (starEach es X.env)).any (·.1)=false) (hn:x≠"__name__":=by decide) (OA:(x==("__debug__":Str))=false:=by decide):PD K X (.Call (.Name x p) (e::es) [] pos) (lg r tl):=
 ⟨λhK=>(sG (hc.c hK) hg hm hv (ha.pa hK) hn OA he Ot).imp λσ H Q Nb=>by obtain⟨H0,Φ,ρ,R,E,t,k⟩:=Nb;exact⟨H0,Φ,ρ,_,E,t,λds Φ1 H1 vs r g rl=>⟨Φ1,ds,R,g.s,rl,r,λd Φ' H' v rd g' rv=>k d Φ' H' v rd (g.trans g') rv⟩⟩⟩
theorem eu{T:String}{r:bc}(hc:CallD K X (.type T) r)(hg:Gl X x)(hm:X.mg x=none)(hv:bootBuiltins x=some (.type T))(ha:PAQ K X (e::es) tl)
  (he:starEach (e::es) X.env=(false,eval e X.env)::starEach es X.env) (Ot:(backTo pos (starEach es X.env)).any (·.1)=false) (hn:x≠"__name__":=by decide) (OA:(x==("__debug__":Str))=false:=by decide):PD K X (.Call (.Name x p) (e::es) [] pos) (lg r tl):=
 ⟨λhK=>(sN (hc.c hK) hg hm hv (ha.pa hK) hn OA he Ot).imp λσ H Q Nb=>by obtain⟨H0,Φ,ρ,R,E,t,k⟩:=Nb;exact⟨H0,Φ,ρ,_,E,t,λds Φ1 H1 vs r g rl=>⟨Φ1,ds,R,g.s,rl,r,λd Φ' H' v rd g' rv=>k d Φ' H' v rd (g.trans g') rv⟩⟩⟩
theorem eT{Φ H:Hp}{d:D}{vs:List V}(h:mV K Φ H [d] vs):∃v,vs=[v]/\RpQ K Φ H d v:=by
 obtain⟨h1,h2⟩:=h
 match vs,h1,h2 with
 | [v],_,h2=>exact⟨v,rfl,h2 0 v d rfl rfl⟩
noncomputable def Cn:bc:=λds R=>match ds with| [.lst xs]=>R (.int xs.length)| [.tup xs]=>R (.int xs.length)| [.fzl xs]=>R (.int xs.length)| [.str z]=>z.length<=sizeLine/\R (.int z.length)|_=>False
theorem cu:CallD K X (.builtin "len") Cn:=⟨λhK pins s σ H xs us Q I rr Nb=>by
 obtain⟨Φ,ds,R,sm,hl,h,k⟩:=Nb
 match ds,h with
 | [.lst xs],h=>
  obtain⟨v,rfl,r⟩:=eT hl;obtain⟨a,vs,rfl,q1,q2⟩:=r.lst sm;exact qa pins s σ H _ us Q I rr ⟨a,vs,rfl,.inl (.of q1),by rw[q2.1];exact k _ Φ H _ h (.refl sm) (.int _)⟩
 | [.tup xs],h=>
  obtain⟨v,rfl,r⟩:=eT hl;obtain⟨a,vs,rfl,q1,_,q2⟩:=r.tup sm;exact qa pins s σ H _ us Q I rr ⟨a,vs,rfl,.inr (hK▸q1),by rw[q2.1];exact k _ Φ H _ h (.refl sm) (.int _)⟩
 | [.fzl xs],h=>
  obtain⟨v,rfl,r⟩:=eT hl;obtain⟨a,vs,rfl,q1,q2⟩:=r.fzl sm;exact qa pins s σ H _ us Q I rr ⟨a,vs,rfl,.inl (hK▸q1),by rw[q2.1];exact k _ Φ H _ h (.refl sm) (.int _)⟩
 | [.str z],h=>
  obtain⟨v,rfl,r⟩:=eT hl;cases r.str
  exact HE pins s σ H _ us Q I rr ⟨z,rfl,h.1,k _ Φ H _ h.2 (.refl sm) (.int _)⟩⟩
theorem C5{Φ:Hp}{ns:List Int}{vs:List V}(h:RpL K Φ (ns.map D.int) vs):vs=ns.map V.int:=by
 refine Kc λi=>?_;rw[Jd]
 cases e:ns[i]? with
 |none=>
  have:=Km.mp e;rw[J2 (by rw[h.1,mn];exact this)];rfl
 |some n=>
  obtain⟨v,hv,r⟩:=h.at (i:=i) (d:=.int n) (by rw[Jd,e];rfl);cases r;rw[hv];rfl
theorem CM{Φ:Hp}{bs:List Bool}{vs:List V}(h:RpL K Φ (bs.map D.bl) vs):vs=bs.map V.bl:=by
 refine Kc λi=>?_;rw[Jd]
 cases e:bs[i]? with
 |none=>
  have:=Km.mp e;rw[J2 (by rw[h.1,mn];exact this)];rfl
 |some n=>
  obtain⟨v,hv,r⟩:=h.at (i:=i) (d:=.bl n) (by rw[Jd,e];rfl);cases r;rw[hv];rfl
theorem RpQ.sqb{Φ H:Hp}{d:D}{v:V}{ds:List D}(s:Same Φ H)(h:RpQ K Φ H d v)(e:dU d=some ds):∃(q:Bool)(a:Addr)(vs:List V),v=.ref a/\SqB K q H a vs/\RpL K Φ ds vs:=by
 obtain⟨a,vs,e1,h1,h2⟩:=h.seq s e;rcases h1 with h1|h1
 ·exact⟨true,a,vs,e1,h1,h2⟩
 ·exact⟨false,a,vs,e1,h1,h2⟩
noncomputable def A9:bc:=λds R=>match ds with| [d]=>∃ns:List Int,dU d=some (ns.map D.int)/\R (.int ns.sum)|_=>False
theorem xf(hc:X.calm=true):CallD K X (.builtin "sum") A9:=⟨λhK pins s σ H xs us Q I rr Nb=>by
 obtain⟨Φ,ds,R,sm,hl,h,k⟩:=Nb
 match ds,h with
 | [d],⟨ns,e,h⟩=>
  obtain⟨v,rfl,r⟩:=eT hl;obtain⟨q,a,vs,rfl,q1,q2⟩:=r.sqb sm e;rw[C5 q2]at q1
  exact zW q hc pins s σ H _ us Q I rr ⟨a,ns,rfl,hK▸q1,k _ Φ H _ h (.refl sm) (.int _)⟩⟩
noncomputable def A8(f:List Bool->Bool):bc:=λds R=>match ds with| [d]=>∃bs:List Bool,dU d=some (bs.map D.bl)/\R (.bl (f bs))|_=>False
theorem vT(hc:X.calm=true):CallD K X (.builtin "all") (A8 λbs=>bs.all id):=⟨λhK pins s σ H xs us Q I rr Nb=>by
 obtain⟨Φ,ds,R,sm,hl,h,k⟩:=Nb
 match ds,h with
 | [d],⟨ns,e,h⟩=>
  obtain⟨v,rfl,r⟩:=eT hl;obtain⟨q,a,vs,rfl,q1,q2⟩:=r.sqb sm e;rw[CM q2]at q1
  exact B8 q hc pins s σ H _ us Q I rr ⟨a,ns,rfl,hK▸q1,k _ Φ H _ h (.refl sm) (.bl _)⟩⟩
noncomputable def BP:bc:=λds R=>match ds with| [.lst xs]=>R (.tup xs)| [.tup xs]=>R (.tup xs)| [.fzl xs]=>R (.tup xs)|_=>False
theorem jc:CallD K X (.type "tuple") BP:=⟨λhK pins s σ H xs us Q I rr Nb=>by
 obtain⟨Φ,ds,R,sm,hl,h,k⟩:=Nb
 match ds,h with
 | [.lst xs],h=>
  obtain⟨v,rfl,r⟩:=eT hl;obtain⟨a,vs,rfl,q1,q2⟩:=r.lst sm;exact oP pins s σ H _ us Q I rr ⟨a,vs,rfl,.inl ⟨.of q1,λp hp=>k _ _ _ _ h (.new sm hp _) ((q2.same (cG (sm.free hp) _)).tup bq)⟩⟩
 | [.fzl xs],h=>
  obtain⟨v,rfl,r⟩:=eT hl;obtain⟨a,vs,rfl,q1,q2⟩:=r.fzl sm;exact oP pins s σ H _ us Q I rr ⟨a,vs,rfl,.inl ⟨hK▸q1,λp hp=>k _ _ _ _ h (.new sm hp _) ((q2.same (cG (sm.free hp) _)).tup bq)⟩⟩
 | [.tup xs],h=>
  obtain⟨v,rfl,r⟩:=eT hl;obtain⟨a,vs,rfl,q1,q3,q2⟩:=r.tup sm
  exact oP pins s σ H _ us Q I rr ⟨a,vs,rfl,.inr ⟨hK▸q1,k _ Φ H _ h (.refl sm) (q2.tup q3)⟩⟩⟩
noncomputable def xw:bc:=λds R=>match ds with| [.int i]=>R (.int i)| [.bl b]=>R (.int (if b then 1 else 0))|_=>False
theorem rH:CallD K X (.type "int") xw:=⟨λhK pins s σ H xs us Q I rr Nb=>by
 obtain⟨Φ,ds,R,sm,hl,h,k⟩:=Nb
 match ds,h with
 | [.int i],h=>
  obtain⟨v,rfl,r⟩:=eT hl;cases r.int;exact vS pins s σ H _ us Q I rr (.inl ⟨i,rfl,k _ Φ H _ h (.refl sm) (.int _)⟩)
 | [.bl b],h=>
  obtain⟨v,rfl,r⟩:=eT hl;cases r.bl
  exact vS pins s σ H _ us Q I rr (.inr ⟨b,rfl,k _ Φ H _ h (.refl sm) (.int _)⟩)⟩
noncomputable def wF(d:D)(T:String):Option Bool:=match d with
 |.int _=>if T="int" then some true else if T="bool" then some false else if T="tuple" then some false else if T="str" then some false else none
 |.bl _=>if T="int" then some true else if T="bool" then some true else if T="tuple" then some false else none
 |.str _=>if T="str" then some true else if T="tuple" then some false else none
 |.tup _=>if T="tuple" then some true else if T="int" then some false else none
 |.lst _=>if T="tuple" then some false else if T="list" then some true else none
 |_=>none
end
structure SteadyD(K:Frag)(J:It)(Φ:Hp)(ds:List D):Prop where
 go:∀i H,Same Φ H->i<ds.length->J.go i H
 yl:∀i Φ2 H x H2 d,Same Φ Φ2->Same Φ2 H->ds[i]?=some d->J.yld i H x H2->∃Φ3,Gr Φ2 H Φ3 H2/\Rp K Φ3 d x
 stop:∀H,Same Φ H->J.stop ds.length H
section
variable{K:Frag}{Φ:Hp}{ds es:List D}{vs ws:List V}{a:Addr}
theorem HB(h:SqL K Φ a vs)(r:RpL K Φ ds vs):SteadyD K (qi K a) Φ ds:=
 ⟨λi H s hi=>⟨vs,vs[i]'(by rw[r.1];exact hi),s.seq h,bf _⟩,λi Φ2 H x H2 d s2 s hd y=>by
  obtain⟨e,y⟩:=y;subst e
  exact⟨Φ2,.refl s,(r.2 i x d (y vs ((s2.trans s).seq h)) hd).same s2⟩,λH s=>⟨vs,s.seq h,by rw[r.1];exact Jc _⟩⟩
theorem tj(h:SqT K Φ a vs)(r:RpL K Φ ds vs):SteadyD K (nv K a) Φ ds:=
 ⟨λi H s hi=>⟨vs,vs[i]'(by rw[r.1];exact hi),s.sqt h,bf _⟩,λi Φ2 H x H2 d s2 s hd y=>by
  obtain⟨e,y⟩:=y;subst e
  exact⟨Φ2,.refl s,(r.2 i x d (y vs ((s2.trans s).sqt h)) hd).same s2⟩,λH s=>⟨vs,s.sqt h,by rw[r.1];exact Jc _⟩⟩
noncomputable def i9(lo:Int)(n:Nat):List D:=(List.range n).map λi=>D.int (lo+(i:Nat))
theorem jG(lo:Int)(n:Nat):(i9 lo n).length=n:=by unfold i9;simp
theorem mf{lo:Int}{n i:Nat}{d:D}(h:(i9 lo n)[i]?=some d):i<n/\d=.int (lo+(i:Nat)):=by
 have hi:i<n:=by have:=aU h;rwa [jG]at this
 unfold i9 at h;rw[Jd,Ma hi]at h;cases h;exact⟨hi,rfl⟩
theorem u1{lo:Int}{n:Nat}:SteadyD K (k8 lo n) Φ (i9 lo n):=
 ⟨λi H s hi=>by rw[jG]at hi;exact hi,λi Φ2 H x H2 d s2 s hd y=>by
  obtain⟨e,y⟩:=y;subst e y;rw[(mf hd).2]
  exact⟨Φ2,.refl s,.int _⟩,λH s=>by rw[jG];exact Jc n⟩
noncomputable def gw(ds:List D):List D:=ds.zipIdx.map λp=>.tup [.int (p.2:Nat),p.1]
theorem qv(ds:List D):(gw ds).length=ds.length:=by unfold gw;simp
theorem vd{i:Nat}{d:D}(h:(gw ds)[i]?=some d):∃e,ds[i]?=some e/\d=.tup [.int (i:Nat),e]:=by
 unfold gw at h;rw[Jd,List.getElem?_zipIdx]at h
 cases e:ds[i]? with
 |none=>rw[e]at h;cases h
 |some x=>rw[e]at h;cases h;exact⟨x,rfl,by simp⟩
theorem Rp.pair{H:Hp}{t:Addr}{d e:D}{x y:V}(h:H t=some (.tup [x,y]))(r1:Rp K H d x)(r2:Rp K H e y):Rp K H (.tup [d,e]) (.ref t):=(RpL.cons r1 (.one r2)).tup h
theorem D5{b:Bool}(h:SqB K b Φ a vs)(r:RpL K Φ ds vs):SteadyD K (mH K b a) Φ (gw ds):=
 ⟨λi H s hi=>by rw[qv]at hi;exact⟨vs,vs[i]'(by rw[r.1];exact hi),SqB.same s h,bf _⟩,λi Φ2 H x H2 d s2 s hd y=>by
  obtain⟨t,v,hn,e,e',y⟩:=y;subst e e';obtain⟨e,he,rfl⟩:=vd hd;have rv:=(r.2 i v e (y vs (SqB.same (s2.trans s) h)) he).same (s2.trans (cG (s.free hn) (.tup [.int i,v])))
  exact⟨_,.new s hn _,.pair bq (.int _) rv⟩,λH s=>by rw[qv];exact⟨vs,SqB.same s h,by rw[r.1];exact Jc _⟩⟩
noncomputable def eQ(ds es:List D):List D:=List.zipWith (λx y=>.tup [x,y]) ds es
theorem oQ(ds es:List D):(eQ ds es).length=min ds.length es.length:=by unfold eQ;simp
theorem wW{i:Nat}{d:D}(h:(eQ ds es)[i]?=some d):∃x y,ds[i]?=some x/\es[i]?=some y/\d=.tup [x,y]:=by
 unfold eQ at h;rw[KI]at h
 cases e:ds[i]? with
 |none=>rw[e]at h;cases h
 |some x=>
  cases e2:es[i]? with
  |none=>rw[e,e2]at h;cases h
  |some y=>rw[e,e2]at h;cases h;exact⟨x,y,rfl,rfl,rfl⟩
theorem EM{b1 b2:Bool}{a1 a2:Addr}(h1:SqB K b1 Φ a1 vs)(h2:SqB K b2 Φ a2 ws)(r1:RpL K Φ ds vs)(r2:RpL K Φ es ws):SteadyD K (px K b1 a1 b2 a2) Φ (eQ ds es):=
 ⟨λi H s hi=>by
  rw[oQ]at hi
  have i1:i<vs.length:=by rw[r1.1];omega
  have i2:i<ws.length:=by rw[r2.1];omega
  exact⟨vs,ws,vs[i],ws[i],SqB.same s h1,SqB.same s h2,bf i1,bf i2⟩,λi Φ2 H x H2 d s2 s hd y=>by
  obtain⟨t,u,v,hn,e,e',y1,y2⟩:=y;subst e e';obtain⟨p,q,hp,hq,rfl⟩:=wW hd;have sn:=s2.trans (cG (s.free hn) (.tup [u,v]))
  exact⟨_,.new s hn _,.pair bq ((r1.2 i u p (y1 vs (SqB.same (s2.trans s) h1)) hp).same sn) ((r2.2 i v q (y2 ws (SqB.same (s2.trans s) h2)) hq).same sn)⟩,λH s=>by
  rw[oQ]
  exact⟨vs,ws,SqB.same s h1,SqB.same s h2,by rw[r1.1,r2.1];omega⟩⟩
end
noncomputable def lI(K:Frag)(t:aM):TI:=λσ H R'=>∃H0 Φ ρ R,EnvD K H0 Φ H σ ρ/\t ρ R/\∀ds Φ' H' J,R ds->Gr Φ H Φ' H'->SteadyD K J Φ' ds->R' J H'
structure PID(K:Frag)(X:Cx)(tg e:Expr)(t:aM):Prop where pi:X.K=K->PI X tg e (lI K t)
theorem PI.imp{X:Cx}{tg e:Expr}{t t':TI}(h:PI X tg e t)(k:∀σ H R,t' σ H R->t σ H R):PI X tg e t':=λpins s σ H R I hw=>h pins s σ H R I (k σ H R hw)
section
variable{K:Frag}{X:Cx}{tg e a:Expr}{es:List Expr}{pos p:Pos}{t:TD}{tl:aM}
theorem DS{l:Expr}{tl:TE}(h:X.K=K)(hl:PE X l tl):PI X tg l (pF K tl):=h▸FB hl
theorem r6{es:List Expr}{k:Nat}{t:dS}{n:Nat}(hK:X.K=K)(hc:X.calm=true)(h:PGs X es t)(hn:(assignEach es X.env).length=n)(N5:(assignEach es X.env).findIdx? (·.1)=none):PG X (.Tuple es k pos) (rg K n t):=hK▸qB hc h hn N5
theorem uE{es:List Expr}{k:Nat}{t:dS}{n:Nat}(hK:X.K=K)(hc:X.calm=true)(h:PGs X es t)(hn:(assignEach es X.env).length=n)(N5:(assignEach es X.env).findIdx? (·.1)=none):PG X (.Tuple es k pos) (ox K n t):=hK▸ET hc h hn N5
noncomputable def CJ(t:aM):aM:=λρ R=>t ρ λds=>match ds with| [.int j]=>(-(2^62)<=j/\j<2^62)/\R (i9 0 j.toNat)|_=>False
theorem RpL.one_inv{Φ:Hp}{d:D}{vs:List V}(h:RpL K Φ [d] vs):∃v,vs=[v]/\Rp K Φ d v:=by
 obtain⟨h1,h2⟩:=h
 match vs,h1,h2 with
 | [v],_,h2=>exact⟨v,rfl,h2 0 v d rfl rfl⟩
theorem RpL.two_inv{Φ:Hp}{d e:D}{vs:List V}(h:RpL K Φ [d,e] vs):∃v w,vs=[v,w]/\Rp K Φ d v/\Rp K Φ e w:=by
 obtain⟨h1,h2⟩:=h
 match vs,h1,h2 with
 | [v,w],_,h2=>exact⟨v,w,rfl,h2 0 v d rfl rfl,h2 1 w e rfl rfl⟩
theorem vi(hg:Gl X "range")(hm:X.mg "range"=none)(ha:PAD K X [a] tl)(hs:starEach [a] X.env=[(false,eval a X.env)]:=by rfl):PID K X tg (.Call (.Name "range" p) [a] [] pos) (CJ tl):=
 ⟨λhK=>(wG hg hm (ha.pa hK) hs).imp λσ H R' Nb=>by obtain⟨H0,Φ,ρ,R,E,t,k⟩:=Nb;exact⟨H0,Φ,ρ,_,E,t,λds Φ1 H1 vs r g rv _=>by
  match ds,r with
  | [.int j],r=>
   obtain⟨v,rfl,r1⟩:=rv.one_inv;cases r1
   exact⟨j,rfl,r.1.1,r.1.2,k _ Φ1 H1 _ r.2 g u1⟩⟩⟩
end
noncomputable abbrev cK:=D->bC->(bC->Prop)->Prop
noncomputable abbrev eV:=List D->bC->(bC->Prop)->Prop
noncomputable def lG(K:Frag)(g:cK):TG:=λv σ H Q=>∃H0 Φ ρ d R,EnvD K H0 Φ H σ ρ/\Rp K Φ d v/\g d ρ R/\∀ρ' σ',R ρ'->EnvD K H0 Φ H σ' ρ'->Q σ' H
noncomputable def EX(K:Frag)(g:eV):dS:=λvs σ H Q=>∃H0 Φ ρ ds R,EnvD K H0 Φ H σ ρ/\RpL K Φ ds vs/\g ds ρ R/\∀ρ' σ',R ρ'->EnvD K H0 Φ H σ' ρ'->Q σ' H
structure PGD(K:Frag)(X:Cx)(e:Expr)(g:cK):Prop where pg:X.K=K->PG X e (lG K g)
structure PGDs(K:Frag)(X:Cx)(es:List Expr)(g:eV):Prop where pg:X.K=K->PGs X es (EX K g)
theorem PG.imp{X:Cx}{e:Expr}{t t':TG}(h:PG X e t)(k:∀v σ H Q,t' v σ H Q->t v σ H Q):PG X e t':=λpins s σ H v u Q I r hw=>h pins s σ H v u Q I r (k v σ H Q hw)
theorem PGs.imp{X:Cx}{e:List Expr}{t t':dS}(h:PGs X e t)(k:∀v σ H Q,t' v σ H Q->t v σ H Q):PGs X e t':=λpins s σ H v u Q I r hw=>h pins s σ H v u Q I r (k v σ H Q hw)
section
variable{K:Frag}{X:Cx}{e:Expr}{es:List Expr}{pos:Pos}{g:cK}{gs:eV}
noncomputable def qI(i:Nat):cK:=λd ρ R=>R (ρ.set i (some (.v d)))
theorem bY{i:Nat}{x:Str}(hN:X.N.Nodup)(hi:X.N[i]?=some x)(hx:di X.env.scope x)(hf:X.fn x=true\/X.env.scope.names.lookup x=some .local:=by nofun):PGD K X (.Name x pos) (qI i):=
 ⟨λ_=>(iU hN hi hx hf).imp λv σ H Q Nb=>by obtain⟨H0,Φ,ρ,d,R,E,r,g,k⟩:=Nb;exact k _ _ g (E.set r i)⟩
noncomputable def pR:eV:=λds ρ R=>match ds with| []=>R ρ|_=>False
noncomputable def mw(t:cK)(u:eV):eV:=λds ρ R=>match ds with|d::r=>t d ρ λρ'=>u r ρ' R| []=>False
theorem hV:PGDs K X [] pR:=⟨λ_=>pgs_nil.imp λv σ H Q Nb=>by
 obtain⟨H0,Φ,ρ,ds,R,E,r,g,k⟩:=Nb
 cases ds with
 |nil=>exact⟨Ko.mp r.1,k _ _ g E⟩
 |cons=>exact g.elim⟩
theorem dr(h1:PGD K X e g)(h2:PGDs K X es gs)(hs:(assignEach (e::es) X.env).map (·.2)=assign e X.env::(assignEach es X.env).map (·.2):=by rfl):PGDs K X (e::es) (mw g gs):=
 ⟨λhK=>(iK (h1.pg hK) (h2.pg hK) hs).imp λvs σ H Q Nb=>by
  obtain⟨H0,Φ,ρ,ds,R,E,r,g,k⟩:=Nb
  cases ds with
  |nil=>exact g.elim
  |cons d ds=>
   cases vs with
   |nil=>exact absurd r.1 (by simp)
   |cons v vs=>
    refine⟨v,vs,rfl,H0,Φ,ρ,d,_,E,r.2 0 v d rfl rfl,g,λρ' σ' g' E'=>⟨H0,Φ,ρ',ds,R,E',⟨by have:=r.1;simpa using this,λi u f hu hf=>r.2 (i+1) u f hu hf⟩,g',k⟩⟩⟩
end
noncomputable def eL(cap:List (Option Nat))(ρ:bC):bC:=cap.map λo=>o.bind λi=>(ρ[i]?).join
theorem y9{α:Type}{o:Option (Option α)}{x:α}(h:o.join=some x):o=some (some x):=by
 cases o with
 |none=>cases h
 |some o=>cases o with
  |none=>cases h
  |some y=>cases h;rfl
theorem ju{α:Type}{cap:List (Option Nat)}{l:List (Option α)}{i:Nat}{x:α}(h:(cap.map λo=>o.bind λi=>(l[i]?).join)[i]?=some (some x)):∃j,cap[i]?=some (some j)/\l[j]?=some (some x):=by
 rw[Jd]at h
 cases e:cap[i]? with
 |none=>rw[e]at h;cases h
 |some o=>
  rw[e]at h
  cases o with
  |none=>cases h
  |some j=>exact⟨j,rfl,y9 (by simpa using h)⟩
theorem EnvD.cap{K:Frag}{H0 Φ H:Hp}{σ:St}{ρ:bC}{cap:List (Option Nat)}(E:EnvD K H0 Φ H σ ρ)(inj:∀i j k:Nat,cap[i]?=some (some k)->cap[j]?=some (some k)->i=j):EnvD K H0 Φ H (eZ cap σ) (eL cap ρ):=by
 have st:∀{i j:Nat}{v:V},cap[i]?=some (some j)->σ[j]?=some (some v)->(eZ cap σ)[i]?=some (some v):=λhc hs=>by unfold eZ;rw[Jd,hc];simp[hs]
 have ts:∀{i j:Nat}{v:V},cap[i]?=some (some j)->(eZ cap σ)[i]?=some (some v)->σ[j]?=some (some v):=λhc hs=>by obtain⟨j',h1,h2⟩:=ju hs;rw[hc]at h1;cases h1;exact h2
 refine⟨E.fz,by unfold eZ eL;simp,λi d h=>?_,λi ds h=>?_,λi j ds es p hi hj si sj=>?_,E.tb⟩
 ·obtain⟨j,h1,h2⟩:=ju h;obtain⟨v,e,r⟩:=E.sl j d h2;exact⟨v,st h1 e,r⟩
 ·obtain⟨j,h1,h2⟩:=ju h;obtain⟨p,vs,e,q⟩:=E.ow j ds h2;exact⟨p,vs,st h1 e,q⟩
 ·obtain⟨i',h1,h2⟩:=ju hi;obtain⟨j',h3,h4⟩:=ju hj;have:=E.ne i' j' ds es p h2 h4 (ts h1 si) (ts h3 sj);subst this;exact inj i j i' h1 h3
structure GK(k:Nat)(g:cK):Prop where p:∀d ρ R,g d ρ R->g d ρ λρ1=>ρ1.length=ρ.length/\ρ1.drop k=ρ.drop k/\R ρ1
structure GKs(k:Nat)(g:eV):Prop where p:∀ds ρ R,g ds ρ R->g ds ρ λρ1=>ρ1.length=ρ.length/\ρ1.drop k=ρ.drop k/\R ρ1
theorem Hw{k i:Nat}(h:i<k):GK k (qI i):=⟨λd ρ R r=>⟨by simp,by rw[List.drop_set_of_lt h],r⟩⟩
theorem Gg{k:Nat}:GKs k pR:=⟨λds ρ R r=>by
 cases ds with
 |nil=>exact⟨rfl,rfl,r⟩
 |cons=>exact r⟩
theorem G8{t:cK}{u:eV}(ht:∀d ρ R R',(∀x,R x->R' x)->t d ρ R->t d ρ R')(hu:∀d ρ R R',(∀x,R x->R' x)->u d ρ R->u d ρ R'):∀d ρ R R',(∀x,R x->R' x)->mw t u d ρ R->mw t u d ρ R':=by
 intro ds ρ R R' h r
 cases ds with
 |nil=>exact r
 |cons d ds=>exact ht d ρ _ _ (λx hx=>hu ds x _ _ h hx) r
structure GM(k:Nat)(g:cK):Prop where
 k:GK k g
 m:∀d ρ R R',(∀x,R x->R' x)->g d ρ R->g d ρ R'
structure GMs(k:Nat)(g:eV):Prop where
 k:GKs k g
 m:∀d ρ R R',(∀x,R x->R' x)->g d ρ R->g d ρ R'
theorem dM{k i:Nat}(h:i<k):GM k (qI i):=⟨Hw h,λd ρ R R' h r=>h _ r⟩
theorem nJ{k:Nat}:GMs k pR:=⟨Gg,λds ρ R R' h r=>by
 cases ds with
 |nil=>exact h _ r
 |cons=>exact r⟩
theorem gT{k:Nat}{t:cK}{u:eV}(h1:GM k t)(h2:GMs k u):GMs k (mw t u):=⟨⟨λds ρ R r=>by
 cases ds with
 |nil=>exact r
 |cons d ds=>
  have r1:t d ρ λρ'=>u ds ρ' R:=r;refine h1.m _ _ _ _ (λρ1 q=>?_) (h1.k.p d ρ _ r1)
  exact h2.m _ _ _ _ (λρ2 q2=>⟨q2.1.trans q.1,q2.2.1.trans q.2.1,q2.2.2⟩) (h2.k.p ds ρ1 R q.2.2)⟩,G8 h1.m h2.m⟩
noncomputable def oW:bR:=λ_ R=>R true
structure PIfD(K:Frag)(X:Cx)(ifs:List Expr)(t:bR):Prop where p:X.K=K->jB X ifs (lT K t)
theorem p7{K:Frag}{X:Cx}:PIfD K X [] oW:=⟨λ_ pins s σ H Q I Nb=>by obtain⟨H0,Φ,ρ,R,E,t,k⟩:=Nb;exact Es pins s σ H Q I (k true Φ H t (.refl E.fz))⟩
theorem Ao{K:Frag}{X:Cx}{c:Expr}{t:bR}(h:PTD K X c t):PIfD K X [c] t:=⟨λhK=>DP (h.pt hK)⟩
theorem EnvD.side{K:Frag}{H0 Φ H:Hp}{σ:St}{ρ:bC}{p:Addr}{o u:HO}(E:EnvD K H0 Φ H σ ρ)(h0:H0 p=some u)(hn:Φ p=none):EnvD K H0 Φ (ak H p o) σ ρ:=
 ⟨λb w e=>by rw[ba (dA e hn)];exact E.fz b w e,E.len,E.sl,λi ds h=>by
  obtain⟨q,vs,e,q0,qn,qp,qr⟩:=E.ow i ds h
  exact⟨q,vs,e,q0,qn,by rw[ba λz=>by rw[z,h0]at q0;cases q0];exact qp,qr⟩,E.ne,E.tb⟩
theorem EnvD.base{K:Frag}{H0 Φ H:Hp}{σ:St}{ρ:bC}{p:Addr}{u:HO}(E:EnvD K H0 Φ H σ ρ)(hp:H p=none):EnvD K (ak H0 p u) Φ H σ ρ:=
 ⟨E.fz,E.len,E.sl,λi ds h=>by
  obtain⟨q,vs,e,q0,qn,qp,qr⟩:=E.ow i ds h
  exact⟨q,vs,e,by rw[ba (dA qp hp)];exact q0,qn,qp,qr⟩,E.ne,E.tb⟩
noncomputable def ue(ti:aM)(cap:List (Option Nat))(g:cK)(tc:bR)(te:TD):aM:=λρ R=>ti ρ λds=>ds.length<sizeLine/\∃P:Nat->Option D->Prop,
 (∀i d,ds[i]?=some d->g d (eL cap ρ) λρ1=>tc ρ1 λb=>(b=true->te ρ1 λy=>P i (some y))/\(b=false->P i none))/\∀ys:List (Option D),ys.length=ds.length->(∀i y,ys[i]?=some y->P i y)->R (ys.filterMap id)
theorem Du(ys:List (Option D))(y:D):(ys++[some y]).filterMap id=ys.filterMap id++[y]:=by simp
theorem Fy(ys:List (Option D)):(ys++[none]).filterMap id=ys.filterMap id:=by simp
theorem Fx(ys:List (Option D)):(ys.filterMap id).length<=ys.length:=List.length_filterMap_le _ _
theorem gN{α:Type}{ys:List α}{y:α}{P:Nat->α->Prop}{n:Nat}(hl:ys.length=n)(h:∀i z,ys[i]?=some z->P i z)(hy:P n y):∀i z,(ys++[y])[i]?=some z->P i z:=by
 intro i z hz;rcases JI i ys.length with c|c
 ·rw[wy c]at hz;exact h i z hz
 ·rw[IU c]at hz
  have h0:i-ys.length=0:=by
   rcases Nat.eq_zero_or_pos (i-ys.length)with e|e
   ·exact e
   ·rw[J2 (by simp only[Je,J8];omega)]at hz;cases hz
  rw[h0]at hz;cases hz
  have:i=n:=by omega
  subst this;exact hy
noncomputable def fL(k:Nat)(cap:List (Option Nat)):Bool:=(cap.take k).all (·.isNone)&&decide ((cap.filterMap id).Nodup)
theorem CI{k:Nat}{cap:List (Option Nat)}(h:fL k cap=true){i:Nat}(hi:i<k){o:Option Nat}(e:cap[i]?=some o):o=none:=by
 unfold fL at h;rw[JR]at h;have:=JB.mp h.1 o (Jn (i:=i) (by rw[KN hi];exact e))
 cases o with
 |none=>rfl
 |some _=>cases this
theorem Eh{k:Nat}{cap:List (Option Nat)}(h:fL k cap=true):∀i j n:Nat,cap[i]?=some (some n)->cap[j]?=some (some n)->i=j:=by
 unfold fL at h;rw[JR]at h;have nd:=Ju h.2;clear h
 induction cap with
 |nil=>intro i j n hi;simp at hi
 |cons o cap ih=>
  intro i j n hi hj
  have QW:(cap.filterMap id).Nodup:=by
   cases o with
   |none=>simpa using nd
   |some m=>have e : (some m :: cap).filterMap id = m :: cap.filterMap id:= rfl
            rw [e]at nd; exact (Jy.mp nd).2
  have one:∀{i:Nat},o=some n->cap[i]?=some (some n)->False:=λ{i} ho QX=>by
   subst ho;have e:(some n::cap).filterMap id=n::cap.filterMap id:=rfl;rw[e]at nd;exact (Jy.mp nd).1 (Md.mpr ⟨some n,Jn QX,rfl⟩)
  cases i with
  |zero=>cases j with
   |zero=>rfl
   |succ j=>exact (one (by simpa using hi) (by simpa using hj)).elim
  |succ i=>cases j with
   |zero=>exact (one (by simpa using hj) (by simpa using hi)).elim
   |succ j=>exact Kl Nat.succ (ih QW i j n (by simpa using hi) (by simpa using hj))
section
variable{K:Frag}{X:Cx}{tg iter elt:Expr}{scope:Scope}{pos:Pos}{N':List Str}{cap:List (Option Nat)}{ti:aM}{g:cK}{tc:bR}{te:TD}
theorem v7{k:Nat}(NT:fL k cap=true)(hk:GM k g){σ:St}{H:Hp}{Q:VK}{H0 Φ:Hp}{ρ:bC}{R W:List D->Prop}(E:EnvD K H0 Φ H σ ρ)(t:ti ρ W)
  (conv:∀ds,W ds->ds.length<sizeLine/\∃P:Nat->Option D->Prop,(∀i d,ds[i]?=some d->g d (eL cap ρ) λρ1=>tc ρ1 λb=>(b=true->te ρ1 λy=>P i (some y))/\(b=false->P i none))/\∀ys:List (Option D),ys.length=ds.length->(∀i y,ys[i]?=some y->P i y)->R (ys.filterMap id))
  (kk:∀ds Φ' H' p vs,R ds->Gr Φ H Φ' H'->H p=none->Φ' p=none->H' p=some (.lst vs)->RpL K Φ' ds vs->Q (.ref p) H'):gK (lI K ti) cap (lG K g) (lT K tc) (lE K te) σ H Q:=by
 refine⟨H0,Φ,ρ,W,E,t,λds Φ1 H1 J hW g1 S Dd hD=>?_⟩
 obtain⟨hlen,P,hp,hr⟩:=conv ds hW
 have E1:=E.gr g1;have hDΦ:Φ1 Dd=none:=g1.s.free hD;have C0:EnvD K (ak H0 Dd (.lst [])) Φ1 (ak H1 Dd (.lst [])) (eZ cap σ) (eL cap ρ):=((E1.base (u:=.lst []) hD).side (o:=.lst []) bq hDΦ).cap (Eh NT);refine⟨λi m σ' H'=>m=ds.length-i/\i<=ds.length/\∃(Φ':Hp)(vs:List V)(ys:List (Option D)),EnvD K (ak H0 Dd (.lst [])) Φ' H' σ' (eL cap ρ)/\Gr Φ1 H1 Φ' H'/\Φ' Dd=none/\H' Dd=some (.lst vs)/\RpL K Φ' (ys.filterMap id) vs/\ys.length=i/\∀j y,ys[j]?=some y->P j y,⟨ds.length,by simp,KJ _,Φ1,[],[],C0,.fresh g1.s hD _,hDΦ,bq,.nil,rfl,λj y hj=>by simp at hj⟩,?_⟩;rintro i m σ' H' ⟨rfl,hi,Φ',vs,ys,Ei,gi,hDi,Sh,Pb,PU,hy⟩;by_cases Nu:i<ds.length
 ·refine .inr ⟨S.go i H' (gi.f.trans gi.s) Nu,λσ2 H2=>∃(Φ':Hp)(vs:List V)(ys:List (Option D)),EnvD K (ak H0 Dd (.lst [])) Φ' H2 σ2 (eL cap ρ)/\Gr Φ1 H1 Φ' H2/\Φ' Dd=none/\H2 Dd=some (.lst vs)/\RpL K Φ' (ys.filterMap id) vs/\ys.length=i+1/\∀j y,ys[j]?=some y->P j y,λσ2 H2 h2=>⟨ds.length-(i+1),by omega,rfl,Nu,h2⟩,λx H2 y=>?_⟩;obtain⟨Φ3,g3,rx⟩:=S.yl i Φ' H' x H2 _ gi.f gi.s (bf Nu) y;have E3:=Ei.gr g3;refine⟨_,Φ3,eL cap ρ,_,_,E3,rx,hk.k.p _ _ _ (hp i _ (bf Nu)),λρ1 σ3 Nb E4=>?_⟩;obtain⟨NU,hd1,t1⟩:=Nb
  have wk:∀(j:Nat) x,(eL cap ρ)[j]?=some (some x)->ρ1[j]?=some (some x):=λj x hj=>by
   rcases JI j k with c|c
   ·obtain⟨n,h1,_⟩:=ju hj;cases CI NT c h1
   ·have e1:(eL cap ρ)[j]?=((eL cap ρ).drop k)[j-k]?:=by rw[Lr];congr 1;omega
    have e2:ρ1[j]?=(ρ1.drop k)[j-k]?:=by rw[Lr];congr 1;omega
    rw[e2,hd1,←e1];exact hj
  have hD3:Φ3 Dd=none:=g3.o _ _ Sh hDi;refine⟨_,Φ3,ρ1,_,E4,t1,λb Φ4 H4 rb g4=>?_⟩;have E5:=(E4.gr g4);have QG:=g4.h _ _ (g3.h _ _ Sh);have hD4:Φ4 Dd=none:=g4.o _ _ (g3.h _ _ Sh) hD3
  cases b with
  |false=>
   refine rF ?_;refine⟨Φ4,vs,ys++[none],E5.weak NU.symm wk,(gi.trans g3).trans g4,hD4,QG,?_,by rw[IW,PU];rfl,gN PU hy (rb.2 rfl)⟩;rw[Fy];exact (Pb.same g3.f).same g4.f
  |true=>
   refine oG ?_;refine⟨_,Φ4,ρ1,_,E5,rb.1 rfl,λd Φ5 H5 v rd g5 rv=>?_⟩;have E6:=E5.gr g5;have TB:=g5.h _ _ QG;have TC:Φ5 Dd=none:=g5.o _ _ QG hD4;have gg:=((gi.trans g3).trans g4).trans g5;refine⟨vs,TB,?_,Φ5,vs++[v],ys++[some d],(E6.weak NU.symm wk).side bq TC,?_,TC,bq,?_,by rw[IW,PU];rfl,gN PU hy rd⟩
   ·have:=Fx ys;rw[Pb.1];omega
   ·exact⟨gg.f,tH gg.h hD _,λb u e=>by rw[ba (dA e TC)];exact gg.s b u e,λp u hp hn k=>gg.o p u hp hn k⟩
   ·rw[Du];exact (((Pb.same g3.f).same g4.f).same g5.f).append (.one rv)
 ·have e:i=ds.length:=by omega
  subst e;exact .inl ⟨S.stop H' (gi.f.trans gi.s),kk _ Φ' H' Dd vs (hr ys PU hy) (g1.trans gi) (g1.h.free hD) hDi Sh Pb⟩
theorem yG{k:Nat}(NT:fL k cap=true)(hk:GM k g){σ:St}{H:Hp}{Q:VK}(h:lF K (ue ti cap g tc te) σ H Q):gK (lI K ti) cap (lG K g) (lT K tc) (lE K te) σ H Q:=by obtain⟨H0,Φ,ρ,R,E,t,kk⟩:=h;exact v7 NT hk E t (λds h=>h) kk
noncomputable def mh(ti:aM)(cap:List (Option Nat))(g:cK)(te:TD):aM:=λρ R=>ti ρ λds=>ds.length<sizeLine/\∃P:Nat->D->Prop,
 (∀i d,ds[i]?=some d->g d (eL cap ρ) λρ1=>te ρ1 (P i))/\∀ys:List D,ys.length=ds.length->(∀i y,ys[i]?=some y->P i y)->R ys
noncomputable def zH(P:Nat->D->Prop):Nat->Option D->Prop:=λi o=>match o with|some y=>P i y|none=>False
theorem tD{P:Nat->D->Prop}:∀(ys:List (Option D)),(∀(i:Nat) y,ys[i]?=some y->∃z,y=some z)->∃zs:List D,ys=zs.map some
 | [],_=>⟨[],rfl⟩
 |y::ys,h=>by obtain⟨z,rfl⟩:=h 0 y rfl;obtain⟨zs,rfl⟩:=tD (P:=P) ys λi y hy=>h (i+1) y hy;exact⟨z::zs,rfl⟩
theorem zZ{ds:List D}{ρ:bC}{R:List D->Prop}(h:ds.length<sizeLine/\∃P:Nat->D->Prop,(∀i d,ds[i]?=some d->g d (eL cap ρ) λρ1=>te ρ1 (P i))/\∀ys:List D,ys.length=ds.length->(∀i y,ys[i]?=some y->P i y)->R ys){k:Nat}(hk:GM k g) :
  ds.length<sizeLine/\∃P:Nat->Option D->Prop,(∀i d,ds[i]?=some d->g d (eL cap ρ) λρ1=>oW ρ1 λb=>(b=true->te ρ1 λy=>P i (some y))/\(b=false->P i none))/\∀ys:List (Option D),ys.length=ds.length->(∀i y,ys[i]?=some y->P i y)->R (ys.filterMap id):=by
 obtain⟨h0,P,h1,h2⟩:=h;refine⟨h0,zH P,λi d hd=>hk.m _ _ _ _ (λρ1 q=>⟨λ_=>q,λe=>by cases e⟩) (h1 i d hd),λys hl hy=>?_⟩
 obtain⟨zs,rfl⟩:=tD (P:=P) ys λi y e=>by
  have:=hy i y e
  cases y with
  |none=>exact this.elim
  |some z=>exact⟨z,rfl⟩
 rw[Me]
 have e:zs.filterMap (id ∘ some)=zs:=by simp
 rw[e];refine h2 zs (by simpa using hl) λi y e=>?_;exact hy i (some y) (by rw[Jd,e];rfl)
theorem qU{k:Nat}(NT:fL k cap=true)(hk:GM k g){σ:St}{H:Hp}{Q:VK}(h:lF K (mh ti cap g te) σ H Q):gK (lI K ti) cap (lG K g) (lT K oW) (lE K te) σ H Q:=by obtain⟨H0,Φ,ρ,R,E,t,kk⟩:=h;exact v7 NT hk E t (λds h=>zZ h hk) kk
theorem fV{k:Nat}(ND:X.calm=true)(S:CompScope X.N X.env.scope scope N' cap)(NT:fL k cap=true)(hk:GM k g)(hi:PID K X tg iter ti)
  (hg:∀(cl:List (Str×Addr))(fp:List Addr)(C:Addr)(s0:Shared)(H0:Hp),PGD K (cb X scope N' cl C s0 H0 fp) tg g)
  (he:∀(cl:List (Str×Addr))(fp:List Addr)(C:Addr)(s0:Shared)(H0:Hp),PD K (cb X scope N' cl C s0 H0 fp) elt te) (hs:∀x,foldedSetIterable iter X.env x=pure x:=by intro _;rfl):PF K X (.ListComp elt [⟨tg,iter,[],0⟩] scope pos) (mh ti cap g te):=
 ⟨λhK=>(E7 ND S (hi.pi hK) (λcl fp C s0 H0=>(hg cl fp C s0 H0).pg hK) (λcl fp C s0 H0=>(p7 (K:=K)).p hK) (λcl fp C s0 H0=>(he cl fp C s0 H0).pe hK) hs).imp λ_ _ _=>qU NT hk⟩
end
structure EndsD where
 nx:bC->Prop
 rt:D->Prop
 bk:bC->Prop:=λ_=>False
 ct:bC->Prop:=λ_=>False
noncomputable abbrev cM:=EndsD->bC->Prop
noncomputable def pz(K:Frag)(Φ0 H0:Hp)(P:bC->Prop)(Q:St->Hp->Prop):Prop:=∀ρ' Φ' H' σ',P ρ'->Gr Φ0 H0 Φ' H'->EnvD K H0 Φ' H' σ' ρ'->Q σ' H'
structure EndOk(K:Frag)(Φ0 H0:Hp)(De:EndsD)(E:Ends):Prop where
 nx:pz K Φ0 H0 De.nx E.nx
 rt:∀d Φ' H' v,De.rt d->Gr Φ0 H0 Φ' H'->Rp K Φ' d v->E.rt v H'
 bk:pz K Φ0 H0 De.bk E.bk
 ct:pz K Φ0 H0 De.ct E.ct
noncomputable def lS(K:Frag)(t:cM):TS:=λE σ H=>∃Φ0 H0 Φ ρ De,Gr Φ0 H0 Φ H/\EnvD K H0 Φ H σ ρ/\t De ρ/\EndOk K Φ0 H0 De E
structure PSD(K:Frag)(X:Cx)(st:Stmt)(t:cM):Prop where ps:X.K=K->PS X st (lS K t)
structure PSsD(K:Frag)(X:Cx)(st:List Stmt)(t:cM):Prop where ps:X.K=K->PSs X st (lS K t)
section
variable{K:Frag}{X:Cx}{st:Stmt}{rest:List Stmt}{t u:cM}{e a:Expr}{te:TD}{tf:aM}{pos:Pos}{tt:bR}
noncomputable def A1:cM:=λDe ρ=>De.nx ρ
noncomputable def Ag(t u:cM):cM:=λDe ρ=>t { De with nx:=u De } ρ
noncomputable def Al(t u:cM):cM:=λDe ρ=>∃I:bC->Prop,t { De with nx:=I } ρ/\∀ρ',I ρ'->u De ρ'
theorem bH:PSsD K X [] A1:=⟨λ_=>pss_nil.imp λE σ H Nb=>by obtain⟨Φ0,H0,Φ,ρ,De,g,V,t,k⟩:=Nb;exact k.nx ρ Φ H σ t g V⟩
theorem bD(h1:PSD K X st t)(h2:PSsD K X rest u):PSsD K X (st::rest) (Ag t u):=⟨λhK=>(lV (h1.ps hK) (h2.ps hK)).imp λE σ H Nb=>by obtain⟨Φ0,H0,Φ,ρ,De,g,V,t,k⟩:=Nb;exact
 ⟨Φ0,H0,Φ,ρ,_,g,V,t,⟨λρ' Φ' H' σ' t' g' V'=>⟨Φ0,H0,Φ',ρ',De,g',V',t',k⟩,k.rt,k.bk,k.ct⟩⟩⟩
theorem bL(h1:PSD K X st t)(h2:PSsD K X rest u):PSsD K X (st::rest) (Al t u):=⟨λhK=>(lV (h1.ps hK) (h2.ps hK)).imp λE σ H Nb=>by obtain⟨Φ0,H0,Φ,ρ,De,g,V,⟨I,t,c⟩,k⟩:=Nb;exact
 ⟨Φ0,H0,Φ,ρ,_,g,V,t,⟨λρ' Φ' H' σ' t' g' V'=>⟨Φ0,H0,Φ',ρ',De,g',V',c ρ' t',k⟩,k.rt,k.bk,k.ct⟩⟩⟩
theorem aP(h1:PSD K X st t):PSsD K X [st] t:=⟨λhK=>uD (h1.ps hK)⟩
noncomputable def Bs:cM:=λ_ _=>False
theorem ji:PSD K X st Bs:=⟨λ_=>ps_never.imp λE σ H Nb=>by obtain⟨Φ0,H0,Φ,ρ,De,g,V,t,k⟩:=Nb;exact t⟩
noncomputable def jS(i:Nat)(te:TD):cM:=λDe ρ=>te ρ λd=>De.nx (ρ.set i (some (.v d)))
theorem Hc{i:Nat}{E:Ends}{σ:St}{H:Hp}(h:lS K (jS i te) E σ H):iP (lE K te) (gQ i) E σ H:=by obtain⟨Φ0,H0,Φ,ρ,De,g,V,t,k⟩:=h;exact⟨H0,Φ,ρ,_,V,t,λd Φ1 H1 v r g1 rv=>k.nx _ Φ1 H1 _ r (g.trans g1) ((V.gr g1).set rv i)⟩
theorem b8{i:Nat}{x:Str}{pos':Pos}(hN:X.N.Nodup)(hi:X.N[i]?=some x)(hx:di X.env.scope x)(he:PD K X e te)(hs:swapsWith e (some (.Name x pos')) pos.line X.env=pure false:=by rfl)(hf:X.fn x=true\/X.env.scope.names.lookup x=some .local:=by nofun) :
  PSD K X (.Assign [.Name x pos'] e pos) (jS i te):=⟨λhK=>(lJ hN hi hx (he.pe hK) hs hf).imp λ_ _ _=>Hc⟩
noncomputable def so(i:Nat)(tf:aM):cM:=λDe ρ=>tf ρ λds=>De.nx (ρ.set i (some (.own ds)))
theorem Eo{i:Nat}{E:Ends}{σ:St}{H:Hp}(h:lS K (so i tf) E σ H):lF K tf σ H λv H'=>gQ i v σ H' E.nx:=by obtain⟨Φ0,H0,Φ,ρ,De,g,V,t,k⟩:=h;refine⟨H0,Φ,ρ,_,V,t,λds Φ1 H1 p vs r g1 hp hn hl rl=>k.nx _ Φ1 H1 _ r (g.trans g1) ((V.gr g1).setOwn rl (g.h.free hp) hn hl (λj es hj z=>?_) i)⟩;obtain⟨q,ws,e,_,_,hq,_⟩:=V.ow j _ hj;rw[e]at z;cases z;rw[hp]at hq;cases hq
theorem tM{i:Nat}{x:Str}{pos':Pos}(hN:X.N.Nodup)(hi:X.N[i]?=some x)(hx:di X.env.scope x)(he:PF K X e tf)(hs:swapsWith e (some (.Name x pos')) pos.line X.env=pure false:=by rfl)(hf:X.fn x=true\/X.env.scope.names.lookup x=some .local:=by nofun) :
  PSD K X (.Assign [.Name x pos'] e pos) (so i tf):=⟨λhK=>(lJ hN hi hx (he.pe hK) hs hf).imp λ_ _ _ h=>Eo h⟩
noncomputable def Ff(te:TD):cM:=λDe ρ=>te ρ De.rt
theorem aY(he:PD K X e te):PSD K X (.Return (some e) pos) (Ff te):=
 ⟨λhK=>(tQ (he.pe hK)).imp λE σ H Nb=>by obtain⟨Φ0,H0,Φ,ρ,De,g,V,t,k⟩:=Nb;exact⟨H0,Φ,ρ,_,V,t,λd Φ1 H1 v r g1 rv=>k.rt d Φ1 H1 v r (g.trans g1) rv⟩⟩
noncomputable def vV(c:bR)(t u:cM):cM:=λDe ρ=>c ρ λb=>(b=true->t De ρ)/\(b=false->u De ρ)
theorem bF{c:Expr}{a b:List Stmt}(hc:PTD K X c tt)(ha:PSsD K X a t)(hb:PSsD K X b u):PSD K X (.If c a b pos) (vV tt t u):=
 ⟨λhK=>(wQ (hc.pt hK) (ha.ps hK) (hb.ps hK)).imp λE σ H Nb=>by obtain⟨Φ0,H0,Φ,ρ,De,g,V,t,k⟩:=Nb;exact⟨H0,Φ,ρ,_,V,t,λc Φ1 H1 r g1=>by
  cases c with
  |true=>refine oG ?_;exact⟨Φ0,H0,Φ1,ρ,De,g.trans g1,V.gr g1,r.1 rfl,k⟩
  |false=>refine rF ?_;exact⟨Φ0,H0,Φ1,ρ,De,g.trans g1,V.gr g1,r.2 rfl,k⟩⟩⟩
noncomputable def Gz(ti:aM)(gd:cK)(tb:cM):cM:=λDe ρ=>ti ρ λds=>∃I:Nat->bC->Prop,I 0 ρ/\(∀i d ρ',ds[i]?=some d->I i ρ'->gd d ρ' λρ2=>tb { De with nx:=I (i+1),ct:=I (i+1),bk:=De.nx } ρ2)/\∀ρ',I ds.length ρ'->De.nx ρ'
theorem jj{tg iter:Expr}{body:List Stmt}{ti:aM}{gd:cK}{tb:cM}(hp:PassesOwn (model X.prog X.w) X.A X.env X.xe)(hc:X.calm=true)(hi:PID K X tg iter ti)(hg:PGD K X tg gd)(hb:PSsD K X body tb)
  (hs:∀x,foldedSetIterable iter X.env x=pure x:=by intro _;rfl):PSD K X (.For tg iter body [] pos) (Gz ti gd tb):=
 ⟨λhK=>(uQ hp hc (hi.pi hK) (hg.pg hK) (hb.ps hK) hs).imp λE σ H Nb=>by
  obtain⟨Φ0,H0,Φ,ρ,De,g,V,t,k⟩:=Nb;refine⟨H0,Φ,ρ,_,V,t,λds Φ1 H1 J NN g1 S=>?_⟩;obtain⟨I,h0,N5,NW⟩:=NN;refine⟨λi m σ H'=>m=ds.length-i/\i<=ds.length/\∃Φ' ρ',Gr Φ0 H0 Φ' H'/\Same Φ1 Φ'/\EnvD K H0 Φ' H' σ ρ'/\I i ρ',⟨ds.length,by simp,KJ _,Φ1,ρ,g.trans g1,Same.refl _,V.gr g1,h0⟩,?_⟩;rintro i m σ' H' ⟨rfl,hi,Φ',ρ',g',s',V',hI⟩;by_cases Nu:i<ds.length
  ·refine .inr ⟨S.go i H' (s'.trans V'.fz) Nu,λσ2 H2=>∃Φ' ρ',Gr Φ0 H0 Φ' H2/\Same Φ1 Φ'/\EnvD K H0 Φ' H2 σ2 ρ'/\I (i+1) ρ',λσ2 H2 h2=>⟨ds.length-(i+1),by omega,rfl,Nu,h2⟩,λx H2 y=>?_⟩;obtain⟨Φ3,g3,rx⟩:=S.yl i Φ' H' x H2 _ s' V'.fz (bf Nu) y;refine⟨H0,Φ3,ρ',_,_,V'.gr g3,rx,N5 i _ ρ' (bf Nu) hI,λρ2 σ3 t2 V3=>?_⟩;refine⟨Φ3,H0,Φ3,ρ2,_,?_,V3,t2,⟨?_,?_,?_,?_⟩⟩
   ·exact⟨Same.refl _,(g'.trans g3).h,g3.s,λp u hp hn _=>hn⟩
   ·intro ρ4 Φ4 H4 σ4 t4 g4 V4;exact⟨Φ4,ρ4,(g'.trans g3).join g4,(s'.trans g3.f).trans g4.f,V4,t4⟩
   ·intro d Φ4 H4 v r g4 rv;exact k.rt d Φ4 H4 v r ((g'.trans g3).join g4) rv
   ·intro ρ4 Φ4 H4 σ4 t4 g4 V4;exact k.nx ρ4 Φ4 H4 σ4 t4 ((g'.trans g3).join g4) V4
   ·intro ρ4 Φ4 H4 σ4 t4 g4 V4;exact⟨Φ4,ρ4,(g'.trans g3).join g4,(s'.trans g3.f).trans g4.f,V4,t4⟩
  ·have e:i=ds.length:=by omega
   subst e
   exact .inl ⟨S.stop H' (s'.trans V'.fz),k.nx ρ' Φ' H' σ' (NW ρ' hI) g' V'⟩⟩
end
section
variable{K:Frag}{X:Cx}{tg iter elt e:Expr}{ifs:List Expr}{scope:Scope}{pos py Nl:Pos}{N':List Str}{cap:List (Option Nat)}{ti:aM}{g:cK}{tc:bR}{te:TD}{i:Nat}{y:Str}
theorem sQ{tf:aM}{E:Ends}{σ:St}{H:Hp}(lift:∀{σ:St}{H:Hp}{Q:VK},lF K tf σ H Q->gK (lI K ti) cap (lG K g) (lT K tc) (lE K te) σ H Q)(h:lS K (jS i (kq tf)) E σ H):iP (gK (lI K ti) cap (lG K g) (lT K tc) (lE K te)) (gQ i) E σ H:=by obtain⟨Φ0,H0,Φ,ρ,De,gg,V,t,kk⟩:=h;exact lift ⟨H0,Φ,ρ,_,V,t,λds Φ' H' p vs r g1 h0 hn hp rr=>kk.nx _ _ H' _ r (gg.trans (g1.freeze h0 hn hp)) ((V.gr (g1.freeze h0 hn hp)).set ((rr.same (cG hn _)).lst bq) i)⟩
theorem zf{k:Nat}(ND:X.calm=true)(hN:X.N.Nodup)(hy:X.N[i]?=some y)(hx:di X.env.scope y)(S:CompScope X.N X.env.scope scope N' cap)(NT:fL k cap=true)(hk:GM k g)(hi:PID K X tg iter ti)
  (hg:∀(cl:List (Str×Addr))(fp:List Addr)(C:Addr)(s0:Shared)(H0:Hp),PGD K (cb X scope N' cl C s0 H0 fp) tg g)
  (he:∀(cl:List (Str×Addr))(fp:List Addr)(C:Addr)(s0:Shared)(H0:Hp),PD K (cb X scope N' cl C s0 H0 fp) elt te) (Qy:swapsWith (.ListComp elt [⟨tg,iter,[],0⟩] scope pos) (some (.Name y py)) Nl.line X.env=pure true:=by rfl)
  (hs:∀x,foldedSetIterable iter X.env x=pure x:=by intro _;rfl) (hf:X.fn y=true\/X.env.scope.names.lookup y=some .local:=by nofun) :
  PSD K X (.Assign [.Name y py] (.ListComp elt [⟨tg,iter,[],0⟩] scope pos) Nl) (jS i (kq (mh ti cap g te))):=
 ⟨λhK=>(oC ND hN hy hx S (hi.pi hK) (λcl fp C s0 H0=>(hg cl fp C s0 H0).pg hK) (λcl fp C s0 H0=>(p7 (K:=K)).p hK) (λcl fp C s0 H0=>(he cl fp C s0 H0).pe hK) Qy hs hf).imp λ_ _ _ h=>sQ (λq=>qU NT hk q) h⟩
theorem yQ{k:Nat}(ND:X.calm=true)(hN:X.N.Nodup)(hy:X.N[i]?=some y)(hx:di X.env.scope y)(S:CompScope X.N X.env.scope scope N' cap)(NT:fL k cap=true)(hk:GM k g)(hi:PID K X tg iter ti)
  (hg:∀(cl:List (Str×Addr))(fp:List Addr)(C:Addr)(s0:Shared)(H0:Hp),PGD K (cb X scope N' cl C s0 H0 fp) tg g) (ht:∀(cl:List (Str×Addr))(fp:List Addr)(C:Addr)(s0:Shared)(H0:Hp),PIfD K (cb X scope N' cl C s0 H0 fp) ifs tc)
  (he:∀(cl:List (Str×Addr))(fp:List Addr)(C:Addr)(s0:Shared)(H0:Hp),PD K (cb X scope N' cl C s0 H0 fp) elt te) (Qy:swapsWith (.ListComp elt [⟨tg,iter,ifs,0⟩] scope pos) (some (.Name y py)) Nl.line X.env=pure true:=by rfl)
  (hs:∀x,foldedSetIterable iter X.env x=pure x:=by intro _;rfl) (hf:X.fn y=true\/X.env.scope.names.lookup y=some .local:=by nofun) :
  PSD K X (.Assign [.Name y py] (.ListComp elt [⟨tg,iter,ifs,0⟩] scope pos) Nl) (jS i (kq (ue ti cap g tc te))):=
 ⟨λhK=>(oC ND hN hy hx S (hi.pi hK) (λcl fp C s0 H0=>(hg cl fp C s0 H0).pg hK) (λcl fp C s0 H0=>(ht cl fp C s0 H0).p hK) (λcl fp C s0 H0=>(he cl fp C s0 H0).pe hK) Qy hs hf).imp λ_ _ _ h=>sQ (λq=>yG NT hk q) h⟩
theorem oO{Φ0 H0 Φ H:Hp}{p:Addr}{o:HO}(g:Gr Φ0 H0 Φ H)(h0:H0 p=none)(hn:Φ p=none):Gr Φ0 H0 Φ (ak H p o):=
 ⟨g.f,tH g.h h0 _,λb u e=>by rw[ba (dA e hn)];exact g.s b u e,λp u hp hn k=>g.o p u hp hn k⟩
noncomputable def vN(i:Nat)(te:TD):cM:=λDe ρ=>match ρ[i]? with|some (some (.ob (.lst ds)))=>te ρ λd=>ds.length<sizeLine/\NF (ds++[d]) λes=>De.nx (ρ.set i (some (.own es)))|_=>False
theorem Dj{apos Ni Nh:Pos}{x:Str}(i:Nat)(he:PD K X e te)(NI:((backTo Ni (starEach [e] X.env)).all (λx=>!x.1)&&(backToKw Ni (keywordEach [] X.env)).all (λx=>x.1.isSome)&&decide (([e]:List Expr).length+([]:List Keyword).length+(if ([]:List Keyword).isEmpty then 0 else 1)<30))=true)
  (NV:starEach [e] X.env=(false,eval e X.env)::starEach [] X.env) (hN:X.N[i]?=some x:=by rfl) (hv:cF X.env.scope x:=by nofun) (hd:(x==("__debug__":Str))=false:=by decide) (Np:(x==("__classdict__":Str))=false:=by decide)
  (Nm:attributeBase (.Name x Nh) "append" X.env (eval (.Name x Nh) X.env)=eval (.Name x Nh) X.env:=by rfl) (Nn:(apos.endLine==Ni.line)=true:=by rfl) (hs:swapsWith (.Call (.Attribute (.Name x Nh) "append" apos) [e] [] Ni) none pos.line X.env=pure false:=by rfl) :
  PSD K X (.Expr (.Call (.Attribute (.Name x Nh) "append" apos) [e] [] Ni) pos) (vN i te):=
 ⟨λhK=>(jk (gv Kz Ls Lu mM (pv i hN hv hd Np) (dZ (he.pe hK) pa_nil NV) Nm NI Nn NV ag) hs).imp λE σ H Nb=>by
  obtain⟨Φ0,H0,Φ,ρ,De,g,V,t,k⟩:=Nb;unfold vN at t;split at t
  ·next ds ho=>
   obtain⟨p,vs,e1,h0,hn,hp,rl⟩:=V.owl i ds ho;refine⟨_,e1,.inl ⟨rfl,vs,SqL.of hp⟩,H0,Φ,ρ,_,V,t,λd Φ1 H1 v r g1 rv=>?_⟩;have NZ:=g1.h _ _ hp;have hn1:=g1.o _ _ hp hn;refine⟨p,vs,v,rfl,rfl,NZ,by rw[rl.1];exact r.1,k.nx _ Φ1 _ σ r.2.get (oO (g.trans g1) h0 hn1) ((V.gr g1).put ho e1 ((rl.same g1.f).append (.one rv)))⟩
  ·exact t.elim⟩
noncomputable def FH(i:Nat)(te tk:TD):cM:=λDe ρ=>te ρ λd=>match ρ[i]? with|some (some (.ob (.lst ds)))=>tk ρ λkk=>(match kk with|.int n=>∃j,eA ds.length n=some j/\NF (ds.set j d) λes=>De.nx (ρ.set i (some (.own es)))|_=>False)|_=>False
theorem Ak{b:Expr}{tk:TD}{Nh Nl:Pos}{x:Str}(i:Nat)(he:PD K X e te)(hk:PQ K X b tk)(hN:X.N[i]?=some x:=by rfl)(hv:cF X.env.scope x:=by nofun)(hd:(x==("__debug__":Str))=false:=by decide)(Np:(x==("__classdict__":Str))=false:=by decide)
  (ha:∀v,assign (.Subscript (.Name x Nh) b Nl) X.env v=(do
   let ov ←holding [v] (eval (.Name x Nh) X.env)
   let iv ←holding [v,ov] (eval b X.env)
   standAt Nl
   holding [v,ov,iv] (setItem ov iv v)
   release [v,ov,iv] []):=by intro _;rfl)
  (hs:swapsWithSole [.Subscript (.Name x Nh) b Nl] e pos.line X.env=pure false:=by rfl) (hw:swappedStores [.Subscript (.Name x Nh) b Nl] e X.env=pure none:=by rfl)
  (h1:(assignEach [.Subscript (.Name x Nh) b Nl] X.env).map (·.2)=[assign (.Subscript (.Name x Nh) b Nl) X.env]:=by rfl) :
  PSD K X (.Assign [.Subscript (.Name x Nh) b Nl] e pos) (FH i te tk):=
 ⟨λhK=>(kA (he.pe hK) (tq (pv i hN hv hd Np) (hk.pe hK) oa ha) hs hw h1).imp λE σ H Nb=>by obtain⟨Φ0,H0,Φ,ρ,De,g,V,t,k⟩:=Nb;exact⟨H0,Φ,ρ,_,V,t,λd Φ1 H1 v r g1 rv=>by
  have V1:=V.gr g1;split at r
  ·next ds ho=>
   obtain⟨p,vs,e1,h0,hn,hp,rl⟩:=V1.owl i ds ho;refine⟨_,e1,H0,Φ1,ρ,_,V1,r,λkk Φ2 H2 w r2 g2 rw2=>?_⟩
   cases kk with
   |int n=>
    obtain⟨j,hj,r2⟩:=r2;exact⟨p,vs,n,j,rfl,rw2.int,g2.h _ _ hp,by rw[rl.1];exact hj,k.nx _ Φ2 _ σ r2.get (oO ((g.trans g1).trans g2) h0 (g2.o _ _ hp hn)) ((V1.gr g2).put ho e1 ((rl.same g2.f).set (rv.same g2.f) j))⟩
   |_=>exact r2.elim
  ·exact r.elim⟩⟩
end
noncomputable def jf(N:List Str)(ds:List D):bC:=ds.map (λd=>some (.v d))++List.replicate (N.length-ds.length) none
theorem xE{K:Frag}{Φ H:Hp}{N:List Str}{ds:List D}{vs:List V}(sm:Same Φ H)(tb:TabF K Φ)(r:RpL K Φ ds vs):EnvD K H Φ H (start N vs) (jf N ds):=by
 have own:∀{i:Nat}{x:Sl},(jf N ds)[i]?=some (some x)->∃d,ds[i]?=some d/\x=.v d:=λ{i x} h=>by
  unfold jf at h;rcases JI i (ds.map λd=>some (Sl.v d)).length with c|c
  ·rw[wy c,Jd]at h
   cases e:ds[i]? with
   |none=>rw[e]at h;cases h
   |some d=>rw[e]at h;cases h;exact⟨d,rfl,rfl⟩
  ·rw[IU c,Kw]at h;split at h
   ·cases h
   ·cases h
 refine⟨sm,by unfold start jf;simp[r.1],λi d h=>?_,λi es h=>?_,λi j es fs p h=>?_,tb⟩
 ·obtain⟨d',h1,h2⟩:=own h;cases h2;obtain⟨v,hv,rv⟩:=r.at h1;refine⟨v,?_,rv⟩;unfold start;rw[wy (by rw[mn];exact aU hv),Jd,hv];rfl
 ·obtain⟨d',h1,h2⟩:=own h;cases h2
 ·obtain⟨d',h1,h2⟩:=own h;cases h2
section
variable{P:Program}{w:World}{K:Frag}{mg:Str->Option Value}{base:Heap}
theorem Fun.okD{x qual:Str}{st:Stmt}{f:Addr}{fd:FuncData}{N ps:List Str}{k:Nat}{sp:bc}(F:Fun K x qual st f fd)(S:FnScope N ps (aE st))(len:∀ds R,sp ds R->ds.length=ps.length)
  (N0:∀(Nk:Value)(A:Around)(outer:List Env)(s:Shared)(H:Hp)(E:XK)(ds:List D)(R:D->Prop),Room k (A.deeper (envOfC qual (aE st) s.heap.objs.size f Nk))->sp ds R->
   ∃t,PSsD K (gI aT P w K mg base N qual (aE st) f Nk A outer s H E).nox (eg st) t/\t { nx:=λ_=>R .non,rt:=R } (jf N ds)):FnOk P w K mg base aT (k+1) f fd ps (bP K sp):=by
 refine F.ok S (λvs H Q E ⟨Φ,ds,R,sm,tb,rl,h,_⟩=>by rw[rl.1];exact len ds R h) (λNk A outer s H vs Q E hr ⟨Φ,ds,R,sm,tb,rl,h,kk⟩=>?_);obtain⟨t,ht,hq⟩:=N0 Nk A outer s H E ds R hr h;exact⟨lS K t,ht.ps rfl,Φ,H,Φ,jf N ds,_,.refl sm,xE sm tb rl,hq,⟨λρ' Φ' H' σ' r g V=>kk .non Φ' H' .non r g .non,kk,λ_ _ _ _ h=>h.elim,λ_ _ _ _ h=>h.elim⟩⟩
end
noncomputable def uo(K:Frag)(b:Bool)(a:Addr):It:=match b with|true=>qi K a|false=>nv K a
section
variable{K:Frag}{X:Cx}{tg e a b:Expr}{es:List Expr}{pos p tp:Pos}{t ta:TD}{tl:aM}
theorem Bl{l:Expr}{tl:TE}(hK:X.K=K)(hl:PE X l tl):PI X tg l (λσ H R=>tl σ H λx H1=>∃q a,x=.ref a/\(∃xs,SqB K q H1 a xs)/\R (uo K q a) H1):=by
 subst hK;intro pins s σ H R I h;refine aw (hl pins s σ H _ I h) λv s1 Nb=>?_;obtain⟨x,H1,I1,r1,q1⟩:=Nb;obtain⟨bb,a,e,⟨xs,hq⟩,q⟩:=q1;subst e;cases r1
 have fp:∀b∈[s1.heap.objs.size],cZ X pins H1 b:=λb hb=>by
  have e:b=s1.heap.objs.size:=by simpa using hb
  subst e;exact I1.fpOk (Jc _) (I1.hok.fresh (Jc _))
 cases bb with
 |true=>
  obtain⟨Nc,rv,p,hz⟩:=I1.list hq;refine Mp p.isList ?_;exact⟨s1.heap.objs.size,[s1.heap.objs.size],_,_,H1,rfl,I1.kept (t':=s1.toks) λb o e=>IX _ e,GV a _,⟨_,Jh _ rfl,rfl,rfl⟩,fp,q⟩
 |false=>
  obtain⟨Nc,rv,p,hz⟩:=I1.tuple hq;refine KY (show s1.heap.IsTuple a Nc.toArray from p) ?_;exact⟨s1.heap.objs.size,[s1.heap.objs.size],_,_,H1,rfl,I1.kept (t':=s1.toks) λb o e=>IX _ e,vt a _,⟨_,Jh _ rfl,rfl,rfl⟩,fp,q⟩
theorem Ic{Φ:Hp}{ds:List D}{vs:List V}{a:Addr}{q:Bool}(h:SqB K q Φ a vs)(r:RpL K Φ ds vs):SteadyD K (uo K q a) Φ ds:=by
 cases q with
 |true=>exact HB h r
 |false=>exact tj h r
noncomputable def ER(t:TD):aM:=λρ R=>t ρ λd=>match d with|.lst ds=>R ds|.tup ds=>R ds|.fzl ds=>R ds|_=>False
theorem Ek{d:D}{R:List D->Prop}(h:match d with|.lst ds=>R ds|.tup ds=>R ds|.fzl ds=>R ds|_=>False):∃ds,dU d=some ds/\R ds:=by
 cases d with
 |lst ds=>exact⟨ds,rfl,h⟩
 |tup ds=>exact⟨ds,rfl,h⟩
 |fzl ds=>exact⟨ds,rfl,h⟩
 |_=>exact h.elim
theorem fw(h:PD K X e t):PID K X tg e (ER t):=⟨λhK=>(Bl hK (h.pe hK)).imp λσ H R' Nb=>by obtain⟨H0,Φ,ρ,R,E,t,k⟩:=Nb;exact⟨H0,Φ,ρ,_,E,t,λd Φ1 H1 v r g rv=>by
 obtain⟨ds,e1,r⟩:=Ek r;obtain⟨q,a,vs,rfl,h1,h2⟩:=rv.seq e1
 exact⟨q,a,rfl,⟨vs,SqB.same g.s h1⟩,k _ Φ1 H1 _ r g (Ic h1 h2)⟩⟩⟩
theorem G2{a:Expr}{ta:TA}{es:List Expr}{k:Nat}(hK:X.K=K)(hg:Gl X "enumerate")(hm:X.mg "enumerate"=none)(ha:PA X [a] ta)(hs:starEach [a] X.env=[(false,eval a X.env)]) :
  PI X (.Tuple es k tp) (.Call (.Name "enumerate" p) [a] [] pos) (λσ H R=>ta σ H λvs H1=>∃b a xs,vs=[.ref a]/\SqB K b H1 a xs/\R (mH K b a) H1):=by
 subst hK;intro pins s σ H R I h;refine Call_ (hX I hg hm boot_enumerate (Kn (aw (ha pos pins s σ H _ I h) λus s1 Nb=>?_) hs rfl));obtain⟨vs,H1,I1,r1,q1⟩:=Nb;obtain⟨b,l,xs,e,hq,q⟩:=q1;subst e
 cases r1 with
 |cons r rr=>
  cases rr;cases r;obtain⟨Nc,rv,p,hz⟩:=I1.sqb hq;refine Ii p λh' he hi hsz hk=>wpAny_pyIter_enum he ?_;have I2:Inv X pins σ H1 { s1 with heap:=h' }:=I1.kept (t':=s1.toks) hk;have fr:∀c,s1.heap.objs.size<=c->cZ X pins H1 c:=λc hc=>I1.fpOk hc (I1.hok.fresh hc)
  exact⟨s1.heap.objs.size+1,[s1.heap.objs.size+1,s1.heap.objs.size],_,_,H1,rfl,I2,A0 b l _ _ (Nat.succ_ne_self _),⟨⟨_,he⟩,hi⟩,λc hc=>by
   rcases Jb.mp hc with rfl|hc
   ·exact fr _ (Nat.le_succ _)
   ·rw[Ji.mp hc];exact fr _ (Jc _),q⟩
theorem Di{a b:Expr}{ta:TA}{es:List Expr}{k:Nat}(hK:X.K=K)(hg:Gl X "zip")(hm:X.mg "zip"=none)(ha:PA X [a,b] ta)(hs:starEach [a,b] X.env=[(false,eval a X.env),(false,eval b X.env)])(NL:starEach [b] X.env=[(false,eval b X.env)]) :
  PI X (.Tuple es k tp) (.Call (.Name "zip" p) [a,b] [] pos) (λσ H R=>ta σ H λvs H1=>∃b1 b2 a1 a2 xs ys,vs=[.ref a1,.ref a2]/\SqB K b1 H1 a1 xs/\SqB K b2 H1 a2 ys/\R (px K b1 a1 b2 a2) H1):=by
 subst hK;intro pins s σ H R I h;refine Call_ (hX I hg hm boot_zip (Kn (aw (ha pos pins s σ H _ I h) λus s1 ⟨vs,H1,I1,r1,q1⟩=>?_) (by rw[hs,NL]) (by rw[NL];rfl)));obtain⟨b1,b2,l1,l2,xs,ys,e,NN,Of,q⟩:=q1;subst e
 cases r1 with
 |cons r rr=>
  cases rr with
  |cons r' rr=>
   cases rr;cases r;cases r';obtain⟨O1,Qa,p1,_⟩:=I1.sqb NN;obtain⟨NO,Qb,p2,_⟩:=I1.sqb Of;refine FZ p1 p2 λh' z1 z2 z3 z4 z5 hk=>LN z1 ?_;have I2:Inv X pins σ H1 { s1 with heap:=h' }:=I1.kept (t':=s1.toks) hk;have fr:∀c,s1.heap.objs.size<=c->cZ X pins H1 c:=λc hc=>I1.fpOk hc (I1.hok.fresh hc);generalize s1.heap.objs.size=n at *;refine⟨n+4,[n+4,n+2,n+3,n,n+1],_,_,H1,rfl,I2,zP b1 b2 l1 l2 (n+4) (n+2) (n+3) n (n+1) (EI n),⟨z1,z2,⟨_,_,z3⟩,z4,z5⟩,λc hc=>fr c ?_,q⟩;simp only[Jb,Jp,J5]at hc;rcases hc with rfl|rfl|rfl|rfl|rfl
   ·exact Lg _ _
   ·exact Lg _ _
   ·exact Lg _ _
   ·exact Jc _
   ·exact Lg _ _
noncomputable def D9(t:aM):aM:=λρ R=>t ρ λds=>match ds with| [.lst xs]=>R (gw xs)| [.tup xs]=>R (gw xs)| [.fzl xs]=>R (gw xs)|_=>False
theorem DE{TF:List Expr}{ek:Nat}(hg:Gl X "enumerate")(hm:X.mg "enumerate"=none)(ha:PAD K X [a] tl)(hs:starEach [a] X.env=[(false,eval a X.env)]:=by rfl):PID K X (.Tuple TF ek tp) (.Call (.Name "enumerate" p) [a] [] pos) (D9 tl):=
 ⟨λhK=>(G2 hK hg hm (ha.pa hK) hs).imp λσ H R' Nb=>by obtain⟨H0,Φ,ρ,R,E,t,k⟩:=Nb;exact⟨H0,Φ,ρ,_,E,t,λds Φ1 H1 vs r g rv _=>by
  have fin:∀{d:D}{xs:List D},RpL K Φ1 [d] vs->dU d=some xs->R (gw xs)->∃b a xs,vs=[.ref a]/\SqB K b H1 a xs/\R' (mH K b a) H1:=λ{d xs} rv hx r=>by obtain⟨v,rfl,r1⟩:=rv.one_inv;obtain⟨q,a,ws,rfl,h1,h2⟩:=r1.seq hx;exact⟨q,a,ws,rfl,SqB.same g.s h1,k _ Φ1 H1 _ r g (D5 h1 h2)⟩
  match ds,r with
  | [.lst xs],r=>exact fin rv rfl r
  | [.tup xs],r=>exact fin rv rfl r
  | [.fzl xs],r=>exact fin rv rfl r⟩⟩
noncomputable def yU(t:aM):aM:=λρ R=>t ρ λds=>match ds with| [d,e]=>∃xs ys,dU d=some xs/\dU e=some ys/\R (eQ xs ys)|_=>False
theorem lZ{TF:List Expr}{ek:Nat}(hg:Gl X "zip")(hm:X.mg "zip"=none)(ha:PAD K X [a,b] tl)(hs:starEach [a,b] X.env=[(false,eval a X.env),(false,eval b X.env)]:=by rfl)(NL:starEach [b] X.env=[(false,eval b X.env)]:=by rfl):PID K X (.Tuple TF ek tp) (.Call (.Name "zip" p) [a,b] [] pos) (yU tl):=
 ⟨λhK=>(Di hK hg hm (ha.pa hK) hs NL).imp λσ H R' Nb=>by obtain⟨H0,Φ,ρ,R,E,t,k⟩:=Nb;exact⟨H0,Φ,ρ,_,E,t,λds Φ1 H1 vs r g rv _=>by
  match ds,r with
  | [d,e],⟨xs,ys,hx,hy,r⟩=>
   obtain⟨v,w,rfl,r1,r2⟩:=rv.two_inv;obtain⟨q1,a1,ws,rfl,h1,h2⟩:=r1.seq hx;obtain⟨q2,a2,us,rfl,h3,h4⟩:=r2.seq hy
   exact⟨q1,q2,a1,a2,ws,us,rfl,SqB.same g.s h1,SqB.same g.s h3,k _ Φ1 H1 _ r g (EM h1 h3 h2 h4)⟩⟩⟩
variable{gs:eV}
noncomputable def vO(n:Nat)(t:eV):cK:=λd ρ R=>match d with|.tup ds=>ds.length=n/\t ds ρ R|.lst ds=>ds.length=n/\t ds ρ R|_=>False
theorem PG.or{tg:Expr}{t t':TG}(h:PG X tg t)(h':PG X tg t'):PG X tg (λv σ H Q=>t v σ H Q\/t' v σ H Q):=by
 intro pins s σ H v u Q I r hw;rcases hw with hw|hw
 ·exact h pins s σ H v u Q I r hw
 ·exact h' pins s σ H v u Q I r hw
theorem hR{k n:Nat}(hc:X.calm=true)(h:PGDs K X es gs)(hn:(assignEach es X.env).length=n:=by rfl)(N5:(assignEach es X.env).findIdx? (·.1)=none:=by rfl):PGD K X (.Tuple es k pos) (vO n gs):=
 ⟨λhK=>((r6 hK hc (h.pg hK) hn N5).or (uE hK hc (h.pg hK) hn N5)).imp λv σ H Q Nb=>by
  obtain⟨H0,Φ,ρ,d,R,E,r,g,k⟩:=Nb
  cases d with
  |tup ds=>cases r with|tup h1 h2 h3=>exact .inl ⟨_,_,rfl,.of (E.fz _ _ h1),by rw[h2];exact g.1,H0,Φ,ρ,ds,R,E,⟨h2,h3⟩,g.2,k⟩
  |lst ds=>cases r with|lst h1 h2 h3=>exact .inr ⟨_,_,rfl,.of (E.fz _ _ h1),by rw[h2];exact g.1,H0,Φ,ρ,ds,R,E,⟨h2,h3⟩,g.2,k⟩
  |_=>exact g.elim⟩
theorem l7{k n:Nat}{t:eV}(h:GMs k t):GM k (vO n t):=⟨⟨λd ρ R r=>by
 cases d with
 |tup ds=>exact⟨r.1,h.k.p ds ρ R r.2⟩
 |lst ds=>exact⟨r.1,h.k.p ds ρ R r.2⟩
 |_=>exact r⟩,λd ρ R R' hr r=>by
 cases d with
 |tup ds=>exact⟨r.1,h.m ds ρ R R' hr r.2⟩
 |lst ds=>exact⟨r.1,h.m ds ρ R R' hr r.2⟩
 |_=>exact r⟩
theorem AS{Φ H:Hp}{d:D}{v:V}{T:String}{r:Bool}(s:Same Φ H)(h:RpQ K Φ H d v)(e:wF d T=some r):IsiV K H v T r:=by
 have sp:∀{c:Prop}[Decidable c]{x:Bool}{y:Option Bool},(if c then some x else y)=some r->(c/\x=r)\/y=some r:=λ{c _ x y} h=>by
  by_cases hc:c
  ·rw[Ja hc]at h;cases h;exact .inl ⟨hc,rfl⟩
  ·rw[I0 hc]at h;exact .inr h
 cases d with
 |int i=>
  cases h.int;rcases sp e with⟨rfl,rfl⟩|e
  ·exact .int_int _
  rcases sp e with⟨rfl,rfl⟩|e
  ·exact .int_bool _
  rcases sp e with⟨rfl,rfl⟩|e
  ·exact .int_tuple _
  rcases sp e with⟨rfl,rfl⟩|e
  ·exact .int_str _
  cases e
 |bl i=>
  cases h.bl;rcases sp e with⟨rfl,rfl⟩|e
  ·exact .bl_int _
  rcases sp e with⟨rfl,rfl⟩|e
  ·exact .bl_bool _
  rcases sp e with⟨rfl,rfl⟩|e
  ·exact .bl_tuple _
  cases e
 |str i=>
  cases h.str;rcases sp e with⟨rfl,rfl⟩|e
  ·exact .str_str _
  rcases sp e with⟨rfl,rfl⟩|e
  ·exact .str_tuple _
  cases e
 |non=>cases e
 |tup ds=>
  obtain⟨a,vs,rfl,h1,_,h2⟩:=h.tup s;rcases sp e with⟨rfl,rfl⟩|e
  ·exact .tup_tuple h1
  rcases sp e with⟨rfl,rfl⟩|e
  ·exact .tup_int h1
  cases e
 |lst ds=>
  obtain⟨a,vs,rfl,h1,h2⟩:=h.lst s;rcases sp e with⟨rfl,rfl⟩|e
  ·exact .lst_tuple (.of h1)
  rcases sp e with⟨rfl,rfl⟩|e
  ·exact .lst_list (.of h1)
  cases e
 |fzl ds=>cases e
 |obj C fs=>cases e
 |map Ng=>cases e
 |exc _ _=>cases e
noncomputable def zX(T:String)(t:TD):TD:=λρ R=>t ρ λd=>∃r,wF d T=some r/\R (.bl r)
theorem FO{T:String}{tx:Str}{p2:Pos}(hg:Gl X "isinstance")(hm:X.mg "isinstance"=none)(ha:PQ K X a t)(hT:PE X (.Name tx p2) (tC (.ty T)))
  (he:starEach [a,.Name tx p2] X.env=(false,eval a X.env)::starEach [.Name tx p2] X.env) (QU:starEach [.Name tx p2] X.env=(false,eval (.Name tx p2) X.env)::starEach [] X.env):PD K X (.Call (.Name "isinstance" p) [a,.Name tx p2] [] pos) (zX T t):=
 ⟨λhK=>(sG (Ay hK) hg hm boot_isinstance (dZ (ha.pe hK) (dZ hT pa_nil QU) he) (by decide) (by decide) he (aN QU ag)).imp λσ H Q Nb=>by obtain⟨H0,Φ,ρ,R,E,t,k⟩:=Nb;exact⟨H0,Φ,ρ,_,E,t,λd Φ1 H1 v r g rv=>by
  obtain⟨rr,hr,r⟩:=r
  exact⟨v,T,rr,rfl,AS g.s rv hr,k _ Φ1 H1 _ r g (.bl _)⟩⟩⟩
end
theorem eI{α:Type}{f:α->D}{ns:List α}{i:Nat}{x:D}(h:(ns.map f)[i]?=some x):∃k,x=f k/\ns[i]?=some k:=by
 rw[Jd]at h
 cases e:ns[i]? with
 |none=>rw[e]at h;cases h
 |some k=>rw[e]at h;cases h;exact⟨k,rfl,rfl⟩
theorem jo{α:Type}{f:α->D}{ns:List α}{i:Nat}{n:α}{k:Int}(h:ns[i]?=some n)(e:k=(i:Int)):bJ (ns.map f) k=some (f n):=mm (by rw[Jd,h];rfl) e
theorem wU{ns:List Int}{k:Int}(h0:0<=k)(h:k<(ns.length:Int)):∃v:Int,bJ (ns.map D.int) k=some (.int v):=by
 have hk:k.toNat<ns.length:=by omega
 exact⟨_,jo (bf hk) (by omega)⟩
noncomputable def sC:bc:=λds R=>∃ns:List Int,ds=[.fzl (ns.map D.int)]/\ns.length<=63/\R (.bl true)
noncomputable def sX(K:Frag):Sp:=λvs H Q _=>∃(a:Addr)(ns:List Int),vs=[.ref a]/\SqL K H a (ns.map V.int)/\ns.length<=63/\TabF K H/\∀H',Q (.bl true) H'
theorem DB{K:Frag}:∀vs H Q E,sX K vs H Q E->bP K sC vs H Q E:=by rintro vs H Q E ⟨a,ns,rfl,hS,hl,tb,q⟩;refine⟨H,[.fzl (ns.map D.int)],λd=>d=.bl true,Same.refl _,tb,.one ((RpL.ints ns).fzl hS),⟨ns,rfl,hl,rfl⟩,λd Φ' H' v r g rv=>?_⟩;subst r;cases rv;exact q _
theorem qu{α β:Type}(f:α->β)(xs:List α)(lo hi:Option Int):bN (xs.map f) lo hi=(bN xs lo hi).map f:=by unfold bN;rw[mn,M6,List.map_drop]
theorem xU(k:Nat)(z:Int):(List.replicate k [D.int z]).flatten=(List.replicate k z).map D.int:=by
 induction k with
 |zero=>rfl
 |succ k ih=>rw[Kh,JK,ih];rfl
section
variable{g:cK}{te:TD}{ρ:bC}{R:List D->Prop}
theorem Fb{ds:List D}(ws:List D)(hw:ws.length=ds.length)(hlen:ds.length<sizeLine)(Q:Nat->D->Prop)(hQ:∀i y,Q i y->ws[i]?=some y)(hb:∀i d,ds[i]?=some d->g d ρ λρ1=>te ρ1 (Q i))(k:R ws) :
  ds.length<sizeLine/\∃P:Nat->D->Prop,(∀i d,ds[i]?=some d->g d ρ λρ1=>te ρ1 (P i))/\∀ys:List D,ys.length=ds.length->(∀i y,ys[i]?=some y->P i y)->R ys:=by
 refine⟨hlen,Q,hb,λys hl hy=>?_⟩
 have:ys=ws:=by
  refine Kc λi=>?_;rcases JI i ys.length with c|c
  ·rw[bf c,hQ i _ (hy i _ (bf c))]
  ·rw[J2 c,J2 (by omega)]
 rw[this];exact k
theorem iu{α:Type}{f:α->D}{xs:List α}(h:α->D)(hlen:xs.length<sizeLine)(hb:∀x∈xs,g (f x) ρ λρ1=>te ρ1 λy=>y=h x)(k:R (xs.map h)) :
  (xs.map f).length<sizeLine/\∃P:Nat->D->Prop,(∀i d,(xs.map f)[i]?=some d->g d ρ λρ1=>te ρ1 (P i))/\∀ys:List D,ys.length=(xs.map f).length->(∀i y,ys[i]?=some y->P i y)->R ys:=by
 refine Fb (xs.map h) (by simp) (by rw[mn];exact hlen) (λi=>match xs[i]? with|some x=>λy=>y=h x|none=>λ_=>False) (λi y q=>?_) (λi d hd=>?_) k
 ·rw[Jd]
  cases e:xs[i]? with
  |none=>rw[e]at q;exact q.elim
  |some x=>rw[e]at q;rw[q];rfl
 ·obtain⟨x,rfl,hx⟩:=eI hd
  have e:(match xs[i]? with|some x=>λy=>y=h x|none=>λ_=>False:D->Prop)=λy=>y=h x:=by rw[hx]
  rw[e];exact hb x (Jn hx)
theorem vI{α β:Type}(f:α->D)(h:β->D)(xs:List α)(ys:List β):eQ (xs.map f) (ys.map h)=(List.zip xs ys).map λp=>.tup [f p.1,h p.2]:=by unfold eQ;rw[List.zipWith_map,MG];rfl
theorem rn{α β:Type}{f:α->D}{h:β->D}{xs:List α}{ys:List β}(w:α->β->D)(hlen:xs.length<sizeLine)(hb:∀x∈xs,∀y∈ys,g (.tup [f x,h y]) ρ λρ1=>te ρ1 λz=>z=w x y)(k:R (List.zipWith w xs ys)) :
  (eQ (xs.map f) (ys.map h)).length<sizeLine/\∃P:Nat->D->Prop,(∀i d,(eQ (xs.map f) (ys.map h))[i]?=some d->g d ρ λρ1=>te ρ1 (P i))/\∀zs:List D,zs.length=(eQ (xs.map f) (ys.map h)).length->(∀i y,zs[i]?=some y->P i y)->R zs:=by
 rw[vI];refine iu (λp:α×β=>w p.1 p.2) ?_ (λp hp=>hb p.1 (K0 hp).1 p.2 (K0 hp).2) ?_
 ·rw[ML];omega
 ·rw[MG];exact k
end
end L2
namespace L2
theorem ff{p:Prop}(h:false=true):p:=by cases h
theorem tf{p:Prop}(h:true=false):p:=by cases h
end L2
namespace L2
end L2
namespace L2
theorem jZ{α:Type}(f:α->D)(es:List α)(d:α):es.map f++[f d]=(es++[d]).map f:=by simp
end L2
namespace L2
open PySem PySem.Spec PyProof.Rows
section
variable{g:cK}{te:TD}{ρ:bC}{R:List D->Prop}
theorem pE{α:Type}{f:α->D}{xs:List α}(h:α->Int)(hlen:xs.length<sizeLine)(hb:∀x∈xs,g (f x) ρ λρ1=>te ρ1 λy=>y=.int (h x))(k:R ((xs.map h).map D.int)) :
  (xs.map f).length<sizeLine/\∃P:Nat->D->Prop,(∀i d,(xs.map f)[i]?=some d->g d ρ λρ1=>te ρ1 (P i))/\∀ys:List D,ys.length=(xs.map f).length->(∀i y,ys[i]?=some y->P i y)->R ys:=
 iu (λx=>D.int (h x)) hlen hb (by rw[Kg]at k;exact k)
end
theorem He{n:Nat}{g g':Nat->Bool}(h:∀j,j<n->g j=g' j):(List.range n).all g=(List.range n).all g':=by rw[Kr,JB,JB];exact⟨λq j hj=>(h j (J6.mp hj))▸q j hj,λq j hj=>(h j (J6.mp hj)).symm▸q j hj⟩
section
variable{K:Frag}{X:Cx}{pins:List (Addr×Obj)}{σ:St}{Φ H:Hp}{s:Shared}
theorem Gp(hK:X.K=K)(I:Inv X pins σ H s)(sm:Same Φ H):∀(n:Nat){d d' e:D}{b b':Bool}{v:V},Rp K Φ d v->Rp K Φ d' v->cD n d e=some b->cD n d' e=some b'->b=b':=by
 intro n
 induction n using Nat.strongRecOn with
 |ind n ih=>
  intro d d' e b b' v r1 r2 h1 h2
  have zip:∀{m:Nat}{xs QC ys:List D}{vs:List V}{b b':Bool},m<n->RpL K Φ xs vs->RpL K Φ QC vs->e7 (cD m) xs ys=some b->e7 (cD m) QC ys=some b'->b=b':=λ{m xs QC ys vs b b'} hm p1 p2 h1 h2=>by
   obtain⟨g,hg,hb⟩:=jK h1;obtain⟨g',hg',hb'⟩:=jK h2;have l1:=p1.1;have l2:=p2.1
   have e1:xs.length=QC.length:=by omega
   rw[hb,hb',e1];congr 1;refine He λj j0=>?_
   have i0:j<vs.length:=by omega
   have i1:j<xs.length:=by omega
   have i2:j<QC.length:=by omega
   have i3:j<ys.length:=by omega
   exact ih m hm (p1.2 j _ _ (bf i0) (bf i1)) (p2.2 j _ _ (bf i0) (bf i2)) (hg j _ _ (bf i1) (bf i3)) (hg' j _ _ (bf i2) (bf i3))
  cases gy h1 with
  |int i j=>cases r1;cases r2;cases gy h2;rfl
  |bl i j=>cases r1;cases r2;cases gy h2;rfl
  |str i j=>cases r1;cases r2;cases gy h2;rfl
  |non=>cases r1;cases r2;cases gy h2;rfl
  |tup q1=>cases gy h2 with|tup q2=>
   cases r1 with| @tup a vs xs a1 a2 a3=>cases r2 with| @tup _ ws ys b1 b2 b3=>
   have QF:vs=ws:=I.tuple_inj (.of (sm _ _ a1)) (.of (sm _ _ b1));subst QF;exact zip (KW _) ⟨a2,a3⟩ ⟨b2,b3⟩ q1 q2
  | @lst _ xs es b q1=>cases gy h2 with| @lst _ ys es b' q2=>
   cases r1 with| @lst a vs _ a1 a2 a3=>cases r2 with| @lst _ ws _ b1 b2 b3=>
   have QF:vs=ws:=by rw[a1]at b1;cases b1;rfl
   subst QF;by_cases c:xs.length=es.length
   ·rw[Ja c]at q1;rw[Ja (by omega)]at q2;exact zip (KW _) ⟨a2,a3⟩ ⟨b2,b3⟩ q1 q2
   ·rw[I0 c]at q1;rw[I0 (by omega)]at q2;rw[q1]at q2;cases q2;rfl
end
section
variable{K:Frag}{X:Cx}
theorem vD(h:X.K=K):qm X (tO K):=h▸yY
end
section
variable{K:Frag}{X:Cx}{Φ H:Hp}{a e:Expr}{ta:TD}{C:Addr}{fl:Str}{pos:Pos}
theorem xp{g:Str}{d:D}:∀{vs:List (Str×V)}{fs:List (Str×D)},vs.map (·.1)=fs.map (·.1)->(∀(i:Nat)(v:Str×V)(e:Str×D),vs[i]?=some v->fs[i]?=some e->Rp K Φ e.2 v.2)->fs.lookup g=some d->∃v,vs.lookup g=some v/\Rp K Φ d v
 | [],[],_,_,h=>by cases h
 | [],_::_,h,_,_=>by cases h
 |_::_,[],h,_,_=>by cases h
 |(x,v)::vs,(y,f)::fs,h,hr,hl=>by
  rw[Jq,Jq]at h;obtain⟨h1,h2⟩:=M7 h;have h1:x=y:=h1;subst h1;rw[JF]at hl ⊢
  cases c:g==x with
  |true=>
   rw[c]at hl;cases hl;exact⟨v,rfl,hr 0 _ _ rfl rfl⟩
  |false=>
   rw[c]at hl;exact xp h2 (λi u e hu he=>hr (i+1) u e hu he) hl
noncomputable def za(nm:Str)(f:Str)(t:TD):TD:=λρ R=>t ρ λx=>match x with|.obj nm' fs=>nm'=nm/\∃d,fs.lookup f=some d/\R d|_=>False
theorem rA{te:TE}(hK:X.K=K)(he:PE X a te)(hb:attributeBase a fl X.env (eval a X.env)=eval a X.env):PE X (.Attribute a fl pos) (vA K te fl):=hK▸zh he hb
theorem hG{nm:Str}(c:Cls K C)(nA:NoAttr K C fl)(hC:nsIn K mainGlobals nm=some (some (.ref C)))(ha:PQ K X a ta)(hb:attributeBase a fl X.env (eval a X.env)=eval a X.env:=by rfl):PD K X (.Attribute a fl pos) (za nm fl ta):=
 ⟨λhK=>(rA hK (ha.pe hK) hb).imp λσ H Q Nb=>by obtain⟨H0,Φ,ρ,R,E,t,k⟩:=Nb;exact⟨H0,Φ,ρ,_,E,t,λd Φ1 H1 v r g rv=>by
  cases d with
  |obj C' fs=>
   obtain⟨rfl,d,hl,r⟩:=r;rcases rv with rv|⟨_,_,_,e,_⟩
   ·cases rv with
    |obj h0 h1 h2 h3=>
     rw[hC]at h0;cases h0;obtain⟨v,hv,rd⟩:=xp h2 h3 hl;exact⟨_,_,_,_,v,rfl,g.s _ _ h1,c,nA,hv,k d Φ1 H1 v r g rd⟩
   ·cases e
  |_=>exact r.elim⟩⟩
end
section
variable{P:Program}{w:World}{K:Frag}{mg:Str->Option Value}{base:Heap}
theorem Fun.okL{x qual:Str}{st:Stmt}{f:Addr}{fd:FuncData}{N ps:List Str}{k:Nat}{sp:Sp}(F:Fun K x qual st f fd)(S:FnScope N ps (aE st))(len:∀vs H Q E,sp vs H Q E->vs.length=ps.length)
  (N0:∀(Nk:Value)(A:Around)(outer:List Env)(s:Shared)(H:Hp)(vs:List V)(Q:VK)(E:XK),fd.code=Nk->Room k (A.deeper (envOfC qual (aE st) s.heap.objs.size f Nk))->sp vs H Q E->
   ∃t,PSs (gI aT P w K mg base N qual (aE st) f Nk A outer s H E).nox (eg st) t/\t { nx:=λ_ H'=>Q .non H',rt:=Q } (start N vs) H):FnOk P w K mg base aT (k+1) f fd ps sp:=by
 obtain⟨oc,od,kV,doc,pm,an,Nk,ct,P4,rfl,lk,Np⟩:=F.ex;refine vM lk Np S len λA outer s H vs Q E hr PR=>?_;obtain⟨t,h,q⟩:=N0 Nk A outer s H vs Q E rfl hr PR;exact⟨t,h.nox,q⟩
end
end L2
namespace L2
open PySem PySem.W PyProof.Rows
section
variable{key:Nat->Int}{N:Nat}
variable(hk:∀i j,i<N->j<N->key i=key j->i=j)
include hk
end
end L2
namespace L2
open PySem PySem.Spec PySem.W PyProof.Rows PySem.Calls
end L2
namespace L2
open PySem PySem.Spec PySem.W PyProof.Rows PySem.Calls
end L2
namespace L2
open PySem PySem.Spec PyProof.Rows
noncomputable def Af:V->List V->Hp->VK->Prop:=λx vs H Q=>∃l xs i k y,x=.ref l/\vs=[.int i,y]/\i=((k:Nat):Int)/\H l=some (.lst xs)/\k<=xs.length/\xs.length<sizeLine/\Q .non (ak H l (.lst (xs.take k++y::xs.drop k)))
section
variable{X:Cx}
theorem Bz:lh X "list.insert" Af:=by
 intro pins s σ H x vs v us Q I rx rv h;obtain⟨l,xs,kk,k,y,rfl,rfl,ek,hH,hk,hz,q⟩:=h;cases rx
 obtain⟨w1,w2,rfl,r1,r2⟩:∃w1 w2,us=[w1,w2]/\RelV (.int kk) w1/\RelV y w2:=by
  cases rv with
  |cons r1 rv=>
  cases rv with
  |cons r2 rv=>
  cases rv;exact⟨_,_,rfl,r1,r2⟩
 obtain⟨t,rfl⟩:=r1;obtain⟨z,Nc,n,r,hl,e⟩:=I.lstM hH;have hs:sizeLine=16777216:=Kd
 have h63:(k:Int)<2^63:=by
  have:k<=16777216:=by omega
  have:(2:Int)^63=9223372036854775808:=by decide
  omega
 have h64:-(2^63)<=(k:Int):=by
  have:(2:Int)^63=9223372036854775808:=by decide
  omega
 have P7:¬(!Builtin.List.listFitsIndex (k:Int))=true:=by rw[fitsIndex_both h64 h63];decide
 have Tu:Nc.toArray.size<=sizeLine:=by rw[Jj];omega
 rw[←ek]at P7;have M:=PySem.AutoListH.list_insert_list_int_val_1 l Nc.toArray n kk t w2 P7 Tu;refine Ku F.slot_list_insert ⟨_,e,rfl⟩ F.entry_list_insert (F.args_list_insert_3 _ _ _) M ⟨e,?_⟩;refine⟨.non,_,I.lset (Nr:=Nc.take k++_::Nc.drop k) hH e ?_ ((r.take k).append (.cons r2 (r.drop k))) ?_,rfl,q⟩
 ·have e1:(if kk<0 then (kk+((Nc.toArray.size:Nat):Int)).toNat else min kk.toNat Nc.toArray.size)=k:=by rw[ek,I0 (by omega),Jj,Kb];omega
  show (Nc.toArray.extract 0 (if kk<0 then (kk+((Nc.toArray.size:Nat):Int)).toNat else min kk.toNat Nc.toArray.size)).push _++Nc.toArray.extract (if kk<0 then (kk+((Nc.toArray.size:Nat):Int)).toNat else min kk.toNat Nc.toArray.size)=_;rw[e1];apply Array.toList_inj.mp;simp;exact Ke (LX JY)
 ·rw[IW,Je,JA,JY];omega
end
theorem ES{pos : Pos}{e e2 : Expr}{env : Env}(h : starEach [e, e2] env = (false, eval e env) :: starEach [e2] env)(h2 : starEach [e2] env = (false, eval e2 env) :: starEach [] env) : ((backTo pos (starEach [e, e2] env)).all (λx=> !x.1)&&(backToKw pos (keywordEach [] env)).all (λx=>x.1.isSome)
      && decide ([e, e2].length + ([] : List Keyword).length + (if ([] : List Keyword).isEmpty then 0 else 1) < 30)) = true:= by
 rw[h,h2];rfl
noncomputable def gk:ax->D
 |.inl i=>.int i
 |.inr s=>.str s
theorem pT{K:Frag}{Φ:Hp}{k:ax}{v:V}(r:Rp K Φ (gk k) v):v=kV k:=by
 cases k with
 |inl i=>cases r;rfl
 |inr s=>cases r;rfl
theorem vF{K:Frag}{Φ H:Hp}{k:ax}{v:V}(r:RpQ K Φ H (gk k) v):v=kV k:=by
 cases k with
 |inl i=>exact RpQ.int r
 |inr s=>exact RpQ.str r
theorem sW{K:Frag}{Φ:Hp}{ks:List ax}{vs:List V}(r:RpL K Φ (ks.map gk) vs):vs=ks.map kV:=by
 refine Kc λi=>?_;rw[Jd]
 cases h:ks[i]? with
 |none=>
  have h1:=Km.mp h;exact J2 (by rw[r.1,mn];exact h1)
 |some k=>
  obtain⟨v,hv,rv⟩:=r.at (i:=i) (d:=gk k) (by rw[Jd,h];rfl);rw[hv,pT rv];rfl
noncomputable def cR(k:ax)(ks:List ax):Bool:=ks.any λj=>decide (j=k)
theorem qO(k:ax)(ks:List ax):cR k ks=true↔k∈ks:=by unfold cR;rw[List.any_eq_true];exact⟨λ⟨j,h1,h2⟩=>Ju h2▸h1,λh=>⟨k,h,JP rfl⟩⟩
theorem nF(k:ax):gj (kV k)=true:=by cases k<;>rfl
theorem Ee(j k:ax):gJ (kV j) (kV k)=decide (j=k):=by
 cases j with
 |inl a=>
  cases k with
  |inl b=>show (a==b)=_;by_cases h:a=b<;>simp[h]
  |inr b=>show false=_;simp
 |inr a=>
  cases k with
  |inl b=>show false=_;simp
  |inr b=>show (a==b)=_;by_cases h:a=b<;>simp[h]
theorem xc(k:ax)(ks:List ax):fC (kV k) (ks.map kV)=cR k ks:=by unfold fC cR;rw[Na];exact List.any_congr rfl λj=>Ee j k
noncomputable def tw(neg:Bool):cv:=λdx dy R=>∃(k:ax)(ks:List ax),dx=gk k/\dU dy=some (ks.map gk)/\R (.bl (neg != cR k ks))
section
variable{K:Frag}{X:Cx}
theorem ou:OpD K X (compareOp .In) (tw false):=⟨λhK pins s σ H x y u v Q I rx ry Nb=>by
 obtain⟨Φ,dx,dy,R,sm,hx,hy,⟨k,ks,rfl,e,h⟩,kk⟩:=Nb;cases vF hx;obtain⟨a,vs,rfl,q,rl⟩:=hy.seq sm e;cases sW rl;refine tE pins s σ H _ _ u v Q I rx ry ⟨a,_,rfl,by rw[hK];exact q,nF k,?_,?_⟩
 ·rw[JB];intro z hz;obtain⟨j,_,rfl⟩:=Jr.mp hz;exact nF j
 ·have e2:(if false=true then !fC (kV k) (ks.map kV) else fC (kV k) (ks.map kV))=(false != cR k ks):=by rw[xc];simp
  rw[e2]
  exact kk _ Φ H _ h (.refl sm) (.bl _)⟩
theorem mS:OpD K X (compareOp .NotIn) (tw true):=⟨λhK pins s σ H x y u v Q I rx ry Nb=>by
 obtain⟨Φ,dx,dy,R,sm,hx,hy,⟨k,ks,rfl,e,h⟩,kk⟩:=Nb;cases vF hx;obtain⟨a,vs,rfl,q,rl⟩:=hy.seq sm e;cases sW rl;refine Gf pins s σ H _ _ u v Q I rx ry ⟨a,_,rfl,by rw[hK];exact q,nF k,?_,?_⟩
 ·rw[JB];intro z hz;obtain⟨j,_,rfl⟩:=Jr.mp hz;exact nF j
 ·have e2:(if true=true then !fC (kV k) (ks.map kV) else fC (kV k) (ks.map kV))=(true != cR k ks):=by rw[xc];simp
  rw[e2]
  exact kk _ Φ H _ h (.refl sm) (.bl _)⟩
end
section
variable{K:Frag}{X:Cx}{e ev:Expr}{te tv:TD}{pos:Pos}
noncomputable def CC(i:Nat):cM:=λDe ρ=>De.nx (ρ.set i (some (.dct [])))
theorem Hr{i:Nat}{x:Str}{pos' RC:Pos}(hN:X.N.Nodup)(hi:X.N[i]?=some x)(hx:di X.env.scope x)(hs:swapsWith (.Dict [] [] RC) (some (.Name x pos')) pos.line X.env=pure false:=by rfl)(hf:X.fn x=true\/X.env.scope.names.lookup x=some .local:=by nofun) :
  PSD K X (.Assign [.Name x pos'] (.Dict [] [] RC) pos) (CC i):=⟨λhK=>(lJ hN hi hx AZ hs hf).imp λE σ H Nb=>by
 obtain⟨Φ0,H0,Φ,ρ,De,g,V,t,k⟩:=Nb;intro p hp;have g1:Gr Φ H Φ (ak H p (.dK [])):=Gr.fresh V.fz hp _;refine k.nx _ Φ _ _ t (g.trans g1) ((V.gr g1).setOb (o:=.dct []) (u:=.dK []) rfl (g.h.free hp) (V.fz.free hp) bq (λj w hj z=>?_) i);obtain⟨q,ws,e,_,_,hq,_⟩:=V.ow j _ hj;rw[e]at z;cases z;rw[hp]at hq
 cases hq⟩
theorem xu(k:ax)(Ng:List (ax×V)):(fA Ng k).isSome=cR k (Ng.map (·.1)):=by rw[←mv];unfold cR;rw[Na];rfl
noncomputable def wL(neg:Bool)(i:Nat)(te:TD):bR:=λρ R=>match ρ[i]? with
 |some (some (.ob (.dct ks)))=>te ρ λd=>∃k,d=gk k/\R (neg != cR k ks)
 |_=>False
theorem GS{Nh:Pos}{x:Str}(i:Nat)(hu:X.A.units+64<cLine)(he:PD K X e te)(hN:X.N[i]?=some x:=by rfl)(hv:cF X.env.scope x:=by nofun)(hd:(x==("__debug__":Str))=false:=by decide)(Np:(x==("__classdict__":Str))=false:=by decide)
  (hm:behindInMarks .In (.Name x Nh)=false:=by rfl):PTD K X (.Compare e [.In] [.Name x Nh] pos) (wL false i te):=
 ⟨λhK=>(BH (Ew (by omega) (he.pe hK) (pv i hN hv hd Np)) hm).imp λσ H Q Nb=>by
  obtain⟨H0,Φ,ρ,R,E,t,k⟩:=Nb;unfold wL at t;split at t
  ·next ks ho=>
   refine⟨H0,Φ,ρ,_,E,t,λd Φ1 H1 v r g1 rv=>?_⟩;obtain⟨kk,rfl,r⟩:=r;cases pT rv;obtain⟨p,Ng,e1,h0,hn,hp,rl⟩:=(E.gr g1).owd i ks ho;refine⟨_,e1,p,_,rfl,.k hp,_,rfl,?_⟩;rw[xu,rl]
   have e2:cR kk ks=(false != cR kk ks):=by simp
   rw[e2];exact k _ Φ1 H1 r g1
  ·exact t.elim⟩
theorem BF(k:ax)(v:V)(Ng:List (ax×V)):(eP Ng k v).map (·.1)=if cR k (Ng.map (·.1))=true then Ng.map (·.1) else Ng.map (·.1)++[k]:=by
 unfold eP;have h:=xu k Ng;rw[←mv]at h;rw[h];by_cases c:cR k (Ng.map (·.1))=true
 ·rw[Ja c,Ja c,Kg];refine K2 λp _=>?_;show (if p.1=k then (p.1,v) else p).1=p.1;split<;>rfl
 ·rw[I0 c,I0 c,Jz];rfl
noncomputable def wI(i:Nat)(te tv:TD):cM:=λDe ρ=>match ρ[i]? with
 |some (some (.ob (.dct ks)))=>tv ρ λ_=>te ρ λd=>∃k,d=gk k/\ks.length<sizeLine/\NF (if cR k ks=true then ks else ks++[k]) λls=>De.nx (ρ.set i (some (.dct ls)))
 |_=>False
theorem Fo{Nh Nl:Pos}{x:Str}(i:Nat)(hu:X.A.units+64<cLine)(he:PD K X e te)(hw:PD K X ev tv)(hN:X.N[i]?=some x:=by rfl)(hv:cF X.env.scope x:=by nofun)(hd:(x==("__debug__":Str))=false:=by decide)(Np:(x==("__classdict__":Str))=false:=by decide)
  (hs:swapsWith ev (some (.Subscript (.Name x Nh) e Nl)) pos.line X.env=pure false:=by rfl):PSD K X (.Assign [.Subscript (.Name x Nh) e Nl] ev pos) (wI i te tv):=
 ⟨λhK=>(BJ (by omega) (pv i hN hv hd Np) (he.pe hK) (hw.pe hK) hs).imp λE σ H Nb=>by
  obtain⟨Φ0,H0,Φ,ρ,De,g,V,t,k⟩:=Nb;unfold wI at t;split at t
  ·next ks ho=>
   refine⟨H0,Φ,ρ,_,V,t,λd0 Φ1 H1 v0 r0 g1 rv0=>?_⟩;have V1:=V.gr g1;obtain⟨p,Ng,e1,h0,hn,hp,rl⟩:=V1.owd i ks ho;refine⟨_,e1,H0,Φ1,ρ,_,V1,r0,λd Φ2 H2 v r g2 rv=>?_⟩;obtain⟨kk,rfl,hl,r⟩:=r;cases pT rv;have Oz:=g2.h _ _ hp;have QP:=g2.o _ _ hp hn;refine⟨p,_,rfl,.k Oz (by rw[←mn (f:=(·.1)),rl];exact hl),k.nx _ Φ2 _ σ r.get (oO ((g.trans g1).trans g2) h0 QP) ((V1.gr g2).putOb (o':=.dct _) ho e1 ?_)⟩;show (eP Ng kk v0).map (·.1)=_;rw[BF,rl]
  ·exact t.elim⟩
end
theorem sO:∀{zs:List Str}{us:List Value},Vals (zs.map V.str) us->∃l:List (Str×Tok),us=strValues l/\l.map (·.1)=zs
 | [],_,h=>by rw[M8]at h;cases h;exact⟨[],rfl,rfl⟩
 |z::zs,_,h=>by
  rw[Jq]at h
  cases h with
  |cons r t=>
   obtain⟨tk,rfl⟩:=r;obtain⟨l,rfl,e⟩:=sO t;exact⟨(z,tk)::l,rfl,by rw[Jq,e]⟩
section
variable{K:Frag}{X:Cx}
theorem FU{Φ:Hp}{zs:List Str}{vs:List V}(r:RpL K Φ (zs.map D.str) vs):vs=zs.map V.str:=by
 refine Kc λi=>?_;rw[Jd]
 cases h:zs[i]? with
 |none=>
  have h1:=Km.mp h;exact J2 (by rw[r.1,mn];exact h1)
 |some z=>
  obtain⟨v,hv,rv⟩:=r.at (i:=i) (d:=.str z) (by rw[Jd,h];rfl);rw[hv];cases rv;rfl
noncomputable def sA(d:D):TD:=λ_ R=>R d
theorem mz{x:Str}{i:Int}{tk:Tok}{pos:Pos}(hg:Gl X x)(hm:X.mg x=some (.int i tk))(hd:(x==("__debug__":Str))=false:=by decide):PD K X (.Name x pos) (sA (.int i)):=
 ⟨λhK=>(sZ (v:=.int i) hg hm ⟨tk,rfl⟩ hd).imp λσ H Q Nb=>by
  obtain⟨H0,Φ,ρ,R,E,t,k⟩:=Nb
  exact k _ Φ H _ t (.refl E.fz) (.int i)⟩
end
end L2
namespace L2
open PySem PySem.Spec PySem.W PyProof.Rows PySem.Calls
end L2
namespace L2
open PySem PySem.Spec PyProof.Rows
structure Cl(P:Program)(w:World)(K:Frag)(mg:Str->Option Value)(base:Heap)(n:Nat)(x:Str)(ps:List Str)(z:bc):Prop where
 ex:∃(f:Addr)(fd:FuncData),FnOk P w K mg base aT n f fd ps (bP K z)/\Binds K fd ps []/\keepIn K (.ref f)=true/\mg x=some (.ref f)
section
variable{P:Program}{w:World}{K:Frag}{mg:Str->Option Value}{base:Heap}{n m:Nat}{x:Str}{ps:List Str}{z:bc}{X:Cx}{e:Expr}{es:List Expr}{pos p:Pos}{tl:aM}{st:Stmt}{f:Addr}{fd:FuncData}{h:Heap}
theorem Cl.mono(C:Cl P w K mg base n x ps z)(k:n<=m:=by decide):Cl P w K mg base m x ps z:=by obtain⟨f,fd,F,r⟩:=C.ex;exact⟨f,fd,F.mono k,r⟩
theorem Cl.of(F:Fun K x x st f fd)(b:Binds K fd ps [])(m:mg x=some (.ref f))(H:FnOk P w K mg base aT n f fd ps (bP K z)):Cl P w K mg base n x ps z:=⟨f,fd,H,b,F.kp,m⟩
theorem bz(C:Cl X.prog X.w K X.mg X.base n x ps z)(hr:Room n X.A)(hg:Gl X x)
  (ha:PAD K X (e::es) tl) (he:starEach (e::es) X.env=(false,eval e X.env)::starEach es X.env) (Ot:(backTo pos (starEach es X.env)).any (·.1)=false) (OA:(x==("__debug__":Str))=false:=by decide) :
  PD K X (.Call (.Name x p) (e::es) [] pos) (lg z tl):=⟨λhK=>by
 subst hK;obtain⟨f,fd,F,b,k,m⟩:=C.ex
 exact (xP F hr hg m k b j5 ha he Ot OA).pe rfl⟩
noncomputable def dE(P:Params)(x:Str)(n:Nat)(v:Value):DictEntry:=⟨PyData.keyHash P x,.str x n,v⟩
noncomputable def cO(n:Str)(a:Nat)(q:Str)(b c:Nat)(l m:Int)(k:Int)(r:Nat)(g:Int)(t:Nat)(x y:Value)(z:Nat)(i:Int)(d:Nat):Obj:=⟨.type "code",none,.fields #[.str n a,.str q b,.str "/claim/cut.py" c,.int l 0,.int m 0,.int 0 0,.int 0 0,.int k 0,.ref r,.bool true,.int g 0,.ref t,.none,x,y,.ref z,.int i 0,.int l 0,.str "/claim/cut.py" d],#[]⟩
noncomputable def fO(s:Stmt)(n q m:Str)(i c:Nat):Obj:=⟨.type "function",none,.func (fnOf n q (fi s) (eg s) (aE s) .none .none .none (.str m i) none (.ref c) .none),#[]⟩
noncomputable def Has(K:Frag)(s:Stmt)(x:Str):Prop:=∃f m i c,nsIn K mainGlobals x=some (some (.ref f))/\K.lookup f=some (fO s x x m i c)/\codeIn K (.ref c) x=true
theorem Has.of{s:Stmt}{m:Str}{i c:Nat}(a:nsIn K mainGlobals x=some (some (.ref f)))(l:K.lookup f=some (fO s x x m i c))(k:codeIn K (.ref c) x=true):Has K s x:=⟨f,m,i,c,a,l,k⟩
theorem Has.fn(a:Has K st x)(X:K.In h)(G:h.Ns mainGlobals mg):∃f fd,Fun K x x st f fd/\mg x=some (.ref f)/\∃m i c,fd=fnOf x x (fi st) (eg st) (aE st) .none .none .none (.str m i) none (.ref c) .none:=by obtain⟨f,m,i,c,a,l,k⟩:=a;exact⟨f,_,kI l k (by unfold keepIn;simp only[l];rfl),mg_of X G a,m,i,c,rfl⟩
theorem Fun.cl(F:Fun K x x st f fd)(m:mg x=some (.ref f))(H:FnOk P w K mg base aT n f fd ps (bP K z))
  (b:∀(kV doc pm:Value)(an:Option Addr)(Nk ct:Value)(us:List Value),us.length=ps.length->bindArgs (fnOf x x (fi st) (eg st) (aE st) .none kV doc pm an Nk ct) ⟨us,[]⟩=pure (ps.zip us)):Cl P w K mg base n x ps z:=.of F (F.binds b) m H
end
end L2
namespace L2
open PySem PySem.Spec PySem.W PyProof.Rows PySem.Calls
end L2
namespace L2
open PySem PySem.Spec PyProof.Rows
inductive Fl where|v (d:D)|l (xs:List D)|al (p:Addr)
inductive Om where|lst (xs:List D)|map (Ng:List (ax×D))|mpT (Ng:List (List ax×D))|obj (nm:Str) (fs:List (Str×Fl))|ptr|tl (ps:List (Addr×Option (List D)))|pr (xs:List D) (d:D)
noncomputable def Om.solid:Om->Bool
 |.ptr=>false
 |.tl _=>false
 |.pr _ _=>false
 |_=>true
inductive Sm where|v (d:D)|ob (a:Option Addr) (o:Om)
noncomputable abbrev Sm.own(xs:List D):Sm:=.ob none (.lst xs)
noncomputable abbrev ar:=List (Option Sm)
noncomputable def jg{κ:Type}(K:Frag)(Φ:Hp)(a:κ×D)(b:κ×V):Prop:=a.1=b.1/\Rp K Φ a.2 b.2
inductive FlsR(K:Frag)(Φ H:Hp):List (Str×Fl)->List (Str×V)->List Addr->Prop where
 |nil:FlsR K Φ H [] [] []
 |v {f:Str} {d:D} {v:V} {fs:List (Str×Fl)} {vs:List (Str×V)} {qs:List Addr}:Rp K Φ d v->FlsR K Φ H fs vs qs->FlsR K Φ H ((f,.v d)::fs) ((f,v)::vs) qs
 |l {f:Str} {ds:List D} {ws:List V} {q:Addr} {fs:List (Str×Fl)} {vs:List (Str×V)} {qs:List Addr}:H q=some (.lst ws)->RpL K Φ ds ws->FlsR K Φ H fs vs qs->FlsR K Φ H ((f,.l ds)::fs) ((f,.ref q)::vs) (q::qs)
 |al {f:Str} {p:Addr} {fs:List (Str×Fl)} {vs:List (Str×V)} {qs:List Addr}:FlsR K Φ H fs vs qs->FlsR K Φ H ((f,.al p)::fs) ((f,.ref p)::vs) qs
inductive TlS(K:Frag)(Φ H:Hp):List (Addr×Option (List D))->List Addr->Prop where
 |nil:TlS K Φ H [] []
 |ptr {q:Addr} {ps:List (Addr×Option (List D))} {F:List Addr}:TlS K Φ H ps F->TlS K Φ H ((q,none)::ps) F
 |own {q:Addr} {ds:List D} {ws:List V} {ps:List (Addr×Option (List D))} {F:List Addr}:H q=some (.lst ws)->RpL K Φ ds ws->TlS K Φ H ps F->TlS K Φ H ((q,some ds)::ps) (q::F)
inductive OmS(K:Frag)(Φ H:Hp):Om->Addr->List Addr->Prop where
 |lst {ds:List D} {vs:List V} {p:Addr}:H p=some (.lst vs)->RpL K Φ ds vs->OmS K Φ H (.lst ds) p [p]
 |map {Ng:List (ax×D)} {ws:List (ax×V)} {p:Addr}:H p=some (.dK ws)->Paired (jg K Φ) Ng ws->OmS K Φ H (.map Ng) p [p]
 |mpT {Ng:List (List ax×D)} {ws:List (List ax×V)} {p:Addr}:H p=some (.dT ws)->Paired (jg K Φ) Ng ws->OmS K Φ H (.mpT Ng) p [p]
 |obj {nm:Str} {fs:List (Str×Fl)} {C dx:Addr} {vs:List (Str×V)} {p:Addr} {qs:List Addr}:nsIn K mainGlobals nm=some (some (.ref C))->H p=some (.ins C dx vs)->FlsR K Φ H fs vs qs->(p::qs).Nodup->OmS K Φ H (.obj nm fs) p (p::qs)
 |ptr {p:Addr}:OmS K Φ H .ptr p []
 |tl {ps:List (Addr×Option (List D))} {p:Addr} {F:List Addr}:Φ p=some (.tup (ps.map λq=>V.ref q.1))->TlS K Φ H ps F->F.Nodup->OmS K Φ H (.tl ps) p F
 |pr {ds:List D} {d:D} {p q:Addr} {v:V} {ws:List V}:Φ p=some (.tup [.ref q,v])->H q=some (.lst ws)->RpL K Φ ds ws->Rp K Φ d v->OmS K Φ H (.pr ds d) p [q]
section
variable{K:Frag}{H H' Φ Φ':Hp}{fs:List (Str×Fl)}{vs:List (Str×V)}{qs F F':List Addr}{o:Om}{p:Addr}
theorem nz{α β:Type}{F G:α->β->Prop}(h:∀x y,F x y->G x y):∀{l:List α}{m:List β},Paired F l m->Paired G l m
 |_,_,.nil=>.nil
 |_,_,.cons r t=>.cons (h _ _ r) (nz h t)
theorem FlsR.keep(s:Same Φ Φ')(h:FlsR K Φ H fs vs qs)(k:∀b∈qs,∀u,H b=some u->H' b=some u):FlsR K Φ' H' fs vs qs:=by
 induction h with
 |nil=>exact .nil
 |v r _ ih=>exact .v (r.same s) (ih k)
 |l h1 h2 _ ih=>exact .l (k _ IZ _ h1) (h2.same s) (ih λb hb=>k b (IY _ hb))
 |al _ ih=>exact .al (ih k)
theorem FlsR.at(h:FlsR K Φ H fs vs qs):∀b∈qs,∃ws,H b=some (.lst ws):=by
 induction h with
 |nil=>intro b hb;cases hb
 |v r _ ih=>exact ih
 |l h1 h2 _ ih=>
  intro b hb;rcases Jb.mp hb with rfl|hb
  ·exact⟨_,h1⟩
  ·exact ih b hb
 |al _ ih=>exact ih
theorem FlsR.names(h:FlsR K Φ H fs vs qs):vs.map (·.1)=fs.map (·.1):=by
 induction h with
 |nil=>rfl
 |v r _ ih=>rw[Jq,Jq,ih]
 |l h1 h2 _ ih=>rw[Jq,Jq,ih]
 |al _ ih=>rw[Jq,Jq,ih]
theorem TlS.keep{ps:List (Addr×Option (List D))}(s:Same Φ Φ')(h:TlS K Φ H ps F)(k:∀b∈F,∀u,H b=some u->H' b=some u):TlS K Φ' H' ps F:=by
 induction h with
 |nil=>exact .nil
 |ptr _ ih=>exact .ptr (ih k)
 |own h1 h2 _ ih=>exact .own (k _ IZ _ h1) (h2.same s) (ih λb hb=>k b (IY _ hb))
theorem TlS.at{ps:List (Addr×Option (List D))}(h:TlS K Φ H ps F):∀b∈F,∃ws,H b=some (.lst ws):=by
 induction h with
 |nil=>intro b hb;cases hb
 |ptr _ ih=>exact ih
 |own h1 h2 _ ih=>
  intro b hb;rcases Jb.mp hb with rfl|hb
  ·exact⟨_,h1⟩
  ·exact ih b hb
theorem TlS.out{q:Addr}{ds:List D}:∀{ps:List (Addr×Option (List D))}{F:List Addr}{k:Nat},TlS K Φ H ps F->ps[k]?=some (q,some ds)->∃ws F',H q=some (.lst ws)/\RpL K Φ ds ws/\TlS K Φ H (ps.set k (q,none)) F'/\F.Perm (q::F')
 |_,_,k,.nil,h=>by simp at h
 |_,_,0,.ptr _,h=>by simp at h
 |_,_,k+1,.ptr t,h=>by obtain⟨ws,F',h1,h2,h3,h4⟩:=TlS.out t h;exact⟨ws,F',h1,h2,.ptr h3,h4⟩
 |_,_,0,.own h1 h2 t,h=>by cases h;exact⟨_,_,h1,h2,.ptr t,.refl _⟩
 |_,_,k+1,.own (q:=q') h1 h2 t,h=>by obtain⟨ws,F',k1,k2,k3,k4⟩:=TlS.out t h;exact⟨ws,q'::F',k1,k2,.own h1 h2 k3,(k4.cons q').trans (List.Perm.swap q q' F')⟩
theorem OmS.keep(s:Same Φ Φ')(h:OmS K Φ H o p F)(k:∀b∈F,∀u,H b=some u->H' b=some u):OmS K Φ' H' o p F:=by
 cases h with
 |lst h1 h2=>exact .lst (k _ IZ _ h1) (h2.same s)
 |map h1 h2=>exact .map (k _ IZ _ h1) (nz (λ_ _ r=>⟨r.1,r.2.same s⟩) h2)
 |mpT h1 h2=>exact .mpT (k _ IZ _ h1) (nz (λ_ _ r=>⟨r.1,r.2.same s⟩) h2)
 |obj h0 h1 h2 h3=>exact .obj h0 (k _ IZ _ h1) (h2.keep s λb hb=>k b (IY _ hb)) h3
 |ptr=>exact .ptr
 |tl h1 h2 h3=>exact .tl (s _ _ h1) (h2.keep s k) h3
 |pr h1 h2 h3 h4=>exact .pr (s _ _ h1) (k _ IZ _ h2) (h3.same s) (h4.same s)
theorem OmS.mem(h:OmS K Φ H o p F)(hs:o.solid=true:=by rfl):p∈F:=by cases h<;>first|exact IZ|cases hs
theorem OmS.at(h:OmS K Φ H o p F):∀b∈F,∃u,H b=some u/\lK u:=by
 intro b hb
 cases h with
 |lst h1 h2=>rw[Ji.mp hb];exact⟨_,h1,trivial⟩
 |map h1 h2=>rw[Ji.mp hb];exact⟨_,h1,trivial⟩
 |mpT h1 h2=>rw[Ji.mp hb];exact⟨_,h1,trivial⟩
 |obj h0 h1 h2 h3=>
  rcases Jb.mp hb with rfl|hb
  ·exact⟨_,h1,trivial⟩
  ·obtain⟨ws,hw⟩:=h2.at b hb;exact⟨_,hw,trivial⟩
 |ptr=>cases hb
 |tl h1 h2 h3=>
  obtain⟨ws,hw⟩:=h2.at b hb;exact⟨_,hw,trivial⟩
 |pr h1 h2 h3 h4=>rw[Ji.mp hb];exact⟨_,h2,trivial⟩
theorem OmS.tl_inv{ps:List (Addr×Option (List D))}(h:OmS K Φ H (.tl ps) p F):Φ p=some (.tup (ps.map λq=>V.ref q.1))/\TlS K Φ H ps F/\F.Nodup:=by
 cases h with
 |tl h1 h2 h3=>exact⟨h1,h2,h3⟩
theorem OmS.lst_inv{ds:List D}(h:OmS K Φ H (.lst ds) p F):F=[p]/\∃vs,H p=some (.lst vs)/\RpL K Φ ds vs:=by
 cases h with
 |lst h1 h2=>exact⟨rfl,_,h1,h2⟩
theorem OmS.map_inv{Ng:List (ax×D)}(h:OmS K Φ H (.map Ng) p F):F=[p]/\∃ws,H p=some (.dK ws)/\Paired (jg K Φ) Ng ws:=by
 cases h with
 |map h1 h2=>exact⟨rfl,_,h1,h2⟩
theorem OmS.mpT_inv{Ng:List (List ax×D)}(h:OmS K Φ H (.mpT Ng) p F):F=[p]/\∃ws,H p=some (.dT ws)/\Paired (jg K Φ) Ng ws:=by
 cases h with
 |mpT h1 h2=>exact⟨rfl,_,h1,h2⟩
theorem OmS.obj_inv{nm:Str}(h:OmS K Φ H (.obj nm fs) p F):∃C dx vs qs,F=p::qs/\nsIn K mainGlobals nm=some (some (.ref C))/\H p=some (.ins C dx vs)/\FlsR K Φ H fs vs qs/\(p::qs).Nodup:=by
 cases h with
 |obj h0 h1 h2 h3=>exact⟨_,_,_,_,rfl,h0,h1,h2,h3⟩
theorem OmS.gr(g:Gr Φ H Φ' H')(h:OmS K Φ H o p F):OmS K Φ' H' o p F:=h.keep g.f λb _ u e=>g.h b u e
end
structure EnvM'(K:Frag)(H0 Φ H:Hp)(σ:St)(ρ:ar)(fp:Nat->List Addr):Prop where
 fz:Same Φ H
 len:σ.length=ρ.length
 sl:∀(i:Nat)(d:D),ρ[i]?=some (some (.v d))->∃v,σ[i]?=some (some v)/\Rp K Φ d v
 ow:∀(i:Nat)(a:Option Addr)(o:Om),ρ[i]?=some (some (.ob a o))->∃p,σ[i]?=some (some (.ref p))/\(∀q,a=some q->q=p)/\OmS K Φ H o p (fp i)
 no:∀(i:Nat)(a:Option Addr)(o:Om),ρ[i]?=some (some (.ob a o))->∀b∈fp i,H0 b=none/\Φ b=none
 dj:∀(i j:Nat)(a a':Option Addr)(o o':Om),ρ[i]?=some (some (.ob a o))->ρ[j]?=some (some (.ob a' o'))->i≠j->∀b∈fp i,b∉fp j
 tb:TabF K Φ
noncomputable def EnvM(K:Frag)(H0 Φ H:Hp)(σ:St)(ρ:ar):Prop:=∃fp,EnvM' K H0 Φ H σ ρ fp
section
variable{K:Frag}{H0 H H' Φ Φ' Φ0:Hp}{σ σ2:St}{ρ ρ2:ar}{fp:Nat->List Addr}{F F':List Addr}{o o':Om}{p:Addr}{d:D}{v:V}{i:Nat}{a:Option Addr}
theorem EnvM.fz(E:EnvM K H0 Φ H σ ρ):Same Φ H:=let ⟨_,E⟩:=E;E.fz
theorem EnvM.tb(E:EnvM K H0 Φ H σ ρ):TabF K Φ:=let ⟨_,E⟩:=E;E.tb
theorem EnvM.len(E:EnvM K H0 Φ H σ ρ):σ.length=ρ.length:=let ⟨_,E⟩:=E;E.len
theorem EnvM.sl(E:EnvM K H0 Φ H σ ρ)(h:ρ[i]?=some (some (.v d))):∃v,σ[i]?=some (some v)/\Rp K Φ d v:=let ⟨_,E⟩:=E;E.sl i d h
theorem EnvM'.gr(E:EnvM' K H0 Φ H σ ρ fp)(g:Gr Φ H Φ' H'):EnvM' K H0 Φ' H' σ ρ fp:=
 ⟨g.s,E.len,λi d h=>let ⟨v,e,r⟩:=E.sl i d h;⟨v,e,r.same g.f⟩,λi a o h=>let ⟨p,e,ha,r⟩:=E.ow i a o h;⟨p,e,ha,r.gr g⟩,
  λi a o h b hb=>by
   obtain⟨p,_,_,r⟩:=E.ow i a o h;obtain⟨u,hu,k⟩:=r.at b hb
   exact⟨(E.no i a o h b hb).1,g.o b u hu (E.no i a o h b hb).2 k⟩,E.dj,E.tb.same g.f⟩
theorem EnvM.gr(E:EnvM K H0 Φ H σ ρ)(g:Gr Φ H Φ' H'):EnvM K H0 Φ' H' σ ρ:=let ⟨fp,E⟩:=E;⟨fp,E.gr g⟩
theorem EnvM.re(m:Nat->Nat)(E:EnvM K H0 Φ H σ ρ)(hl:σ2.length=ρ2.length)(h:∀(i:Nat)(x:Sm),ρ2[i]?=some (some x)->ρ[m i]?=some (some x)/\σ2[i]?=σ[m i]?)
  (inj:∀(i j:Nat)(a a':Option Addr)(o o':Om),ρ2[i]?=some (some (.ob a o))->ρ2[j]?=some (some (.ob a' o'))->m i=m j->i=j):EnvM K H0 Φ H σ2 ρ2:=by
 obtain⟨fp,E⟩:=E;refine⟨λi=>fp (m i),E.fz,hl,λi d hd=>?_,λi a o ho=>?_,λi a o ho=>E.no _ a o (h i _ ho).1,λi j a a' o o' hi hj c=>E.dj _ _ a a' o o' (h i _ hi).1 (h j _ hj).1 λe=>c (inj i j a a' o o' hi hj e),E.tb⟩
 ·obtain⟨v,e,r⟩:=E.sl _ d (h i _ hd).1;exact⟨v,by rw[(h i _ hd).2];exact e,r⟩
 ·obtain⟨p,e,r⟩:=E.ow _ a o (h i _ ho).1;exact⟨p,by rw[(h i _ ho).2];exact e,r⟩
theorem EnvM.take{τ:St}{κ:ar}(E:EnvM K H0 Φ H (σ++τ) (ρ++κ))(hl:ρ.length=σ.length):EnvM K H0 Φ H σ ρ:=
 E.re id hl.symm (λi x hx=>by
  have hi:=aU hx
  exact⟨by rw[id,wy hi];exact hx,by rw[id,wy (by omega)]⟩) λi j _ _ _ _ _ _ e=>e
theorem EnvM'.take{τ:St}{κ:ar}(E:EnvM' K H0 Φ H (σ++τ) (ρ++κ) fp)(hl:ρ.length=σ.length):EnvM' K H0 Φ H σ ρ fp:=by
 have up:∀{i:Nat}{x:Sm},ρ[i]?=some (some x)->(ρ++κ)[i]?=some (some x):=λh=>by rw[wy (aU h)];exact h
 have dn:∀{i:Nat}{x:Sm}{y:Option V},ρ[i]?=some (some x)->(σ++τ)[i]?=some y->σ[i]?=some y:=λh e=>by rwa [wy (by rw[←hl];exact aU h)]at e
 exact⟨E.fz,hl.symm,λi d h=>let ⟨v,e,r⟩:=E.sl i d (up h);⟨v,dn h e,r⟩,λi a o h=>let ⟨p,e,r⟩:=E.ow i a o (up h);⟨p,dn h e,r⟩,λi a o h=>E.no i a o (up h),λi j a a' o o' hi hj=>E.dj i j a a' o o' (up hi) (up hj),E.tb⟩
theorem EnvM.store{v:V}{x:Sm}(E:EnvM K H0 Φ H (σ++[some v]) (ρ++[some x]))(i:Nat):EnvM K H0 Φ H (σ.set i (some v)) (ρ.set i (some x)):=by
 have hl:σ.length=ρ.length:=by have:=E.len;simpa using this
 refine E.re (λj=>if j=i then ρ.length else j) (by rw[Jg,Jg,hl]) (λj y hj=>?_) λj k a a' o o' hj hk e=>?_
 ·by_cases c:j=i
  ·subst c
   have Nu:j<ρ.length:=by have:=aU hj;rwa [Jg]at this
   rw[Jt Nu]at hj;cases hj;rw[Ja rfl,Jt (by omega),IU (Jc _),IU (by omega),JG,hl,JG];exact⟨rfl,rfl⟩
  ·rw[Js (J7 c)]at hj;have Nu:=aU hj;rw[I0 c,Js (J7 c),wy Nu,wy (by omega)];exact⟨hj,rfl⟩
 ·have Si:j<ρ.length:=by have:=aU hj;rwa [Jg]at this
  have hk1:k<ρ.length:=by have:=aU hk;rwa [Jg]at this
  have e:(if j=i then ρ.length else j)=(if k=i then ρ.length else k):=e;split at e<;>split at e<;>omega
theorem EnvM.snocV(E:EnvM K H0 Φ H σ ρ)(r:Rp K Φ d v):EnvM K H0 Φ H (σ++[some v]) (ρ++[some (.v d)]):=by
 obtain⟨fp,E⟩:=E
 have old:∀{i:Nat}{a:Option Addr}{o:Om},(ρ++[some (Sm.v d)])[i]?=some (some (.ob a o))->ρ[i]?=some (some (.ob a o)):=λ{i a o} h=>by
  rcases JI i ρ.length with c|c
  ·rwa [wy c]at h
  ·rw[IU c]at h
   cases e:i-ρ.length with
   |zero=>rw[e]at h;cases h
   |succ n=>rw[e]at h;cases h
 refine⟨fp,E.fz,by rw[IW,IW,E.len];rfl,λi d' h=>?_,λi a o h=>?_,λi a o h=>E.no i a o (old h),λi j a a' o o' hi hj=>E.dj i j a a' o o' (old hi) (old hj),E.tb⟩
 ·rcases JI i ρ.length with c|c
  ·rw[wy c]at h;obtain⟨u,e,r⟩:=E.sl i d' h;exact⟨u,by rw[wy (by rw[E.len];exact c)];exact e,r⟩
  ·rw[IU c]at h
   cases e:i-ρ.length with
   |zero=>
    rw[e]at h;cases h;exact⟨v,by rw[IU (by rw[E.len];exact c),E.len,e];rfl,r⟩
   |succ n=>rw[e]at h;cases h
 ·obtain⟨p,e,r⟩:=E.ow i a o (old h);have hi:=aU (old h);exact⟨p,by rw[wy (by rw[E.len];exact hi)];exact e,r⟩
theorem EnvM.snocO(E:EnvM K H0 Φ H σ ρ)(s0:Same H0 H)(g:Gr Φ H Φ' H')(ho:OmS K Φ' H' o p F)(hf:∀b∈F,H b=none/\Φ' b=none):EnvM K H0 Φ' H' (σ++[some (.ref p)]) (ρ++[some (.ob none o)]):=by
 obtain⟨fp,E⟩:=E
 have old:∀b∈F,∀(i:Nat)(a:Option Addr)(o:Om),ρ[i]?=some (some (.ob a o))->b∉fp i:=λb hb i a o h z=>by obtain⟨q,_,_,r⟩:=E.ow i a o h;obtain⟨u,hu,_⟩:=r.at b z;rw[(hf b hb).1]at hu;cases hu
 have E2:=E.gr g
 have cs:∀{i:Nat}{x:Sm},(ρ++[some (Sm.ob none o)])[i]?=some (some x)->(i<ρ.length/\ρ[i]?=some (some x))\/(i=ρ.length/\x=.ob none o):=λ{i x} h=>by
  rcases JI i ρ.length with c|c
  ·rw[wy c]at h;exact .inl ⟨c,h⟩
  ·rw[IU c]at h
   cases e:i-ρ.length with
   |zero=>rw[e]at h;cases h;exact .inr ⟨by omega,rfl⟩
   |succ n=>rw[e]at h;cases h
 refine⟨λi=>if i=ρ.length then F else fp i,E2.fz,by rw[IW,IW,E.len];rfl,λi d h=>?_,λi a o' h=>?_,λi a o' h b hb=>?_,λi j a a' o1 o2 hi hj c b hb Nv=>?_,E2.tb⟩
 ·rcases cs h with⟨c,h⟩|⟨_,h⟩
  ·obtain⟨v,e,r⟩:=E2.sl i d h;exact⟨v,by rw[wy (by rw[E.len];exact c)];exact e,r⟩
  ·cases h
 ·rcases cs h with⟨c,h⟩|⟨c,h⟩
  ·obtain⟨q,e,r⟩:=E2.ow i a o' h;exact⟨q,by rw[wy (by rw[E.len];exact c)];exact e,by rw[I0 (by omega)];exact r⟩
  ·cases h;subst c;refine⟨p,by rw[IU (by rw[E.len];exact Jc _),E.len,JG];rfl,(λq e=>by cases e),by rw[Ja rfl];exact ho⟩
 ·rcases cs h with⟨c,h⟩|⟨c,h⟩
  ·rw[I0 (by omega)]at hb;exact E2.no i a o' h b hb
  ·rw[Ja c]at hb;exact⟨s0.free (hf b hb).1,(hf b hb).2⟩
 ·rcases cs hi with⟨ci,hi⟩|⟨ci,hi⟩
  ·rw[I0 (by omega)]at hb;rcases cs hj with⟨cj,hj⟩|⟨cj,hj⟩
   ·rw[I0 (by omega)]at Nv;exact E.dj i j a a' o1 o2 hi hj c b hb Nv
   ·rw[Ja cj]at Nv;exact old b Nv i a o1 hi hb
  ·rw[Ja ci]at hb;rcases cs hj with⟨cj,hj⟩|⟨cj,hj⟩
   ·rw[I0 (by omega)]at Nv;exact old b hb j a' o2 hj Nv
   ·omega
theorem EnvM'.put(E:EnvM' K H0 Φ H σ ρ fp)(hi:ρ[i]?=some (some (.ob a o)))(si:σ[i]?=some (some (.ref p)))(hH:∀b u,H b=some u->b∉fp i->H' b=some u)(hO:OmS K Φ H' o' p F')(hF:∀b∈F',b∈fp i\/(H b=none/\H0 b=none/\Φ b=none)) :
  EnvM' K H0 Φ H' σ (ρ.set i (some (.ob a o'))) (λj=>if j=i then F' else fp j):=by
 have Nu:=aU hi
 have cs:∀{j:Nat}{x:Sm},(ρ.set i (some (Sm.ob a o')))[j]?=some (some x)->(j=i/\x=.ob a o')\/(j≠i/\ρ[j]?=some (some x)):=λ{j x} h=>by
  rcases cW h with⟨e,_,e1⟩|⟨e,h⟩
  ·cases e1;exact .inl ⟨e,rfl⟩
  ·exact .inr ⟨e,h⟩
 have nf:∀b∈F',∀(j:Nat)(a':Option Addr)(o2:Om),ρ[j]?=some (some (.ob a' o2))->j≠i->b∉fp j:=λb hb j a' o2 hj c z=>by
  rcases hF b hb with h|⟨h,_⟩
  ·exact E.dj j i a' a o2 o hj hi c b z h
  ·obtain⟨q,_,_,r⟩:=E.ow j a' o2 hj;obtain⟨u,hu,_⟩:=r.at b z;rw[h]at hu;cases hu
 refine⟨λb u e=>hH b u (E.fz b u e) λz=>?_,by rw[Jg,E.len],λj d h=>?_,λj a' o2 h=>?_,λj a' o2 h b hb=>?_,λj k a1 a2 o1 o2 hj hk c b hb Nv=>?_,E.tb⟩
 ·rw[(E.no i a o hi b z).2]at e;cases e
 ·rcases cs h with⟨_,h⟩|⟨_,h⟩
  ·cases h
  ·exact E.sl j d h
 ·rcases cs h with⟨c,h⟩|⟨c,h⟩
  ·cases h;subst c;obtain⟨q,e,ha,_⟩:=E.ow j a o hi;rw[si]at e;cases e;exact⟨p,si,ha,by rw[Ja rfl];exact hO⟩
  ·obtain⟨q,e,ha,r⟩:=E.ow j a' o2 h;refine⟨q,e,ha,?_⟩;rw[I0 c];exact r.keep (Same.refl _) λb hb u hu=>hH b u hu λz=>E.dj j i a' a o2 o h hi c b hb z
 ·rcases cs h with⟨c,h⟩|⟨c,h⟩
  ·rw[Ja c]at hb;rcases hF b hb with z|⟨_,z⟩
   ·exact E.no i a o hi b z
   ·exact z
  ·rw[I0 c]at hb;exact E.no j a' o2 h b hb
 ·rcases cs hj with⟨cj,hj⟩|⟨cj,hj⟩
  ·rw[Ja cj]at hb;rcases cs hk with⟨ck,hk⟩|⟨ck,hk⟩
   ·omega
   ·rw[I0 ck]at Nv;exact nf b hb k a2 o2 hk ck Nv
  ·rw[I0 cj]at hb;rcases cs hk with⟨ck,hk⟩|⟨ck,hk⟩
   ·rw[Ja ck]at Nv;exact nf b Nv j a1 o1 hj cj hb
   ·rw[I0 ck]at Nv;exact E.dj j k a1 a2 o1 o2 hj hk c b hb Nv
theorem EnvM'.grput(E:EnvM' K H0 Φ H σ ρ fp)(g:Gr Φ0 H0 Φ H)(hi:ρ[i]?=some (some (.ob a o)))(hH:∀b u,H b=some u->b∉fp i->H' b=some u):Gr Φ0 H0 Φ H':=
 ⟨g.f,λb u e=>hH b u (g.h b u e) (λz=>by rw[(E.no i a o hi b z).1]at e;cases e),λb u e=>hH b u (g.s b u e) (λz=>by rw[(E.no i a o hi b z).2]at e;cases e),λp u h1 h2 k=>g.o p u h1 h2 k⟩
theorem EnvM.list{ds:List D}(E:EnvM K H0 Φ H σ ρ)(g:Gr Φ0 H0 Φ H)(hi:ρ[i]?=some (some (.ob a (.lst ds)))):∃q vs,σ[i]?=some (some (.ref q))/\H q=some (.lst vs)/\H0 q=none/\Φ q=none/\RpL K Φ ds vs /\
  ∀(es:List D)(ws:List V),RpL K Φ es ws->EnvM K H0 Φ (ak H q (.lst ws)) σ (ρ.set i (some (.ob a (.lst es))))/\Gr Φ0 H0 Φ (ak H q (.lst ws)):=by
 obtain⟨fp,E⟩:=E;obtain⟨q,e,_,r⟩:=E.ow i a _ hi;have hq:=r.mem;have h0:=E.no i a _ hi q hq;obtain⟨_,vs,h1,h2⟩:=r.lst_inv;refine⟨q,vs,e,h1,h0.1,h0.2,h2,λes ws OC=>?_⟩
 have hH:∀b u,H b=some u->b∉fp i->ak H q (.lst ws) b=some u:=λb u e hn=>by
  rw[ba λz=>hn (by rw[z];exact hq)];exact e
 exact⟨⟨_,E.put hi e hH (F':=[q]) (.lst bq OC) λb hb=>.inl (by rw[Ji.mp hb];exact hq)⟩,E.grput g hi hH⟩
end
noncomputable def pO:Option Sm->Option Sl
 |some (.v d)=>some (.v d)
 |some (.ob _ (.lst xs))=>some (.own xs)
 |some (.ob _ (.map Ng))=>some (.dct (Ng.map (·.1)))
 |some (.ob _ (.mpT Ng))=>some (.dcT (Ng.map (·.1)))
 |_=>none
noncomputable abbrev fv(ρ:ar):bC:=ρ.map pO
theorem kH{κ:Type}{K:Frag}{Φ:Hp}:∀{a:List (κ×D)}{b:List (κ×V)},Paired (jg K Φ) a b->b.map (·.1)=a.map (·.1)
 |_,_,.nil=>rfl
 |_,_,.cons r t=>by rw[Jq,Jq,kH t,r.1]
theorem EnvM.toD{K:Frag}{H0 Φ H:Hp}{σ:St}{ρ:ar}(E:EnvM K H0 Φ H σ ρ):EnvD K H0 Φ H σ (fv ρ):=by
 obtain⟨fp,E⟩:=E
 have at_:∀{i:Nat}{x:Sl},(fv ρ)[i]?=some (some x)->∃y,ρ[i]?=some (some y)/\pO (some y)=some x:=λ{i x} h=>by
  rw[Jd]at h
  cases e:ρ[i]? with
  |none=>rw[e]at h;cases h
  |some y=>
   rw[e]at h
   cases y with
   |none=>cases h
   |some y=>exact⟨y,rfl,JV h⟩
 have ow:∀{i:Nat}{o:Ow},(fv ρ)[i]?=some (some (.ob o))->∃a om p u,ρ[i]?=some (some (.ob a om))/\σ[i]?=some (some (.ref p))/\p∈fp i/\H p=some u/\OwR K Φ o u:=λ{i o} h=>by
  obtain⟨y,hy,e⟩:=at_ h
  cases y with
  |v d=>cases e
  |ob a om=>
   obtain⟨p,e1,_,r⟩:=E.ow i a om hy;refine⟨a,om,p,?_⟩
   cases om with
   |lst ds=>obtain⟨_,vs,h1,h2⟩:=r.lst_inv;cases e;exact⟨_,hy,e1,r.mem,h1,h2⟩
   |map Ng=>obtain⟨_,vs,h1,h2⟩:=r.map_inv;cases e;exact⟨_,hy,e1,r.mem,h1,kH h2⟩
   |mpT Ng=>obtain⟨_,vs,h1,h2⟩:=r.mpT_inv;cases e;exact⟨_,hy,e1,r.mem,h1,kH h2⟩
   |obj nm fs=>cases e
   |ptr=>cases e
   |tl ps=>cases e
   |pr ds d=>cases e
 refine⟨E.fz,by rw[mn,E.len],λi d h=>?_,λi o h=>?_,λi j o w p hi hj si sj=>?_,E.tb⟩
 ·obtain⟨y,hy,e⟩:=at_ h
  cases y with
  |v d'=>cases e;exact E.sl i d hy
  |ob a om=>cases om<;>cases e
 ·obtain⟨a,om,p,u,h1,h2,h3,h4,h5⟩:=ow h;exact⟨p,u,h2,(E.no i a om h1 p h3).1,(E.no i a om h1 p h3).2,h4,h5⟩
 ·obtain⟨a,om,p1,u,h1,h2,h3,_,_⟩:=ow hi;obtain⟨a',Ov,p2,u',k1,k2,k3,_,_⟩:=ow hj;rw[si]at h2;cases h2;rw[sj]at k2;cases k2;rcases Lb (i=j)with c|c
  ·exact c
  ·exact absurd k3 (E.dj i j a a' om Ov h1 k1 c p h3)
noncomputable def yI(h:Heap)(e:Addr)(vs:Array Value)(T:Option Addr)(fl:Value):Prop:=match T with
 |none=>vs[1]?=some .none
 |some T=>vs[1]?=some (.ref T)/\T≠e/\∃oT ts,h.get? T=some oT/\oT.data=.fields ts/\ts[3]?=some fl
structure Fly(h:Heap)(e:Addr)(T:Option Addr)(fl cls:Value)(dx:Option Addr):Prop where
 ex:∃oe vs,h.get? e=some oe/\oe.data=.fields vs/\oe.cls=cls/\oe.dict=dx/\yI h e vs T fl
structure XD where
 nm:Str
 at_:Option D
noncomputable def AX(K:Frag)(H:Hp)(at_:Option D)(dx:Option Addr):Prop:=match at_ with
 |none=>dx=none
 |some d=>∃p v,dx=some p/\H p=some (.xd [("at",v)])/\Rp K (λ_=>none) d v
structure XSt(X:Cx)(pins:List (Addr×Obj))(σ:St)(H:Hp)(xd:XD)(e:Value)(s:Shared):Prop where
 inv:Inv X pins σ H s
 ex:∃(ea C:Addr)(T dx:Option Addr),e=.ref ea/\Fly s.heap ea T .none (.ref C) dx/\X.mg xd.nm=some (.ref C)/\AX X.K H xd.at_ dx/\(X.s₀.heap.get? ea=none/\H ea=none/\∀p∈X.pn++pins,p.1≠ea)/\∀T',T=some T'->X.s₀.heap.get? T'=none/\H T'=none/\∀p∈X.pn++pins,p.1≠T'
noncomputable def XeOk(K:Frag)(X:Cx)(Φ0 H0:Hp)(Rx:XD->ar->Prop):Prop:=∀xd ρ' Φ' H' σ' e s' pins,Rx xd ρ'->Gr Φ0 H0 Φ' H'->EnvM K H0 Φ' H' σ' ρ'->XSt X pins σ' H' xd e s'->X.xe e s'
structure StM(K:Frag)(X:Cx)(Φ0 H0 Φ H:Hp)(σ τ:St)(ρ κ:ar)(Rx:XD->ar->Prop):Prop where
 g:Gr Φ0 H0 Φ H
 l:ρ.length=σ.length
 E:EnvM K H0 Φ H (σ++τ) (ρ++κ)
 x:XeOk K X Φ0 H0 Rx
inductive Ar where|t (s:Sm)|s (i:Nat)
noncomputable abbrev TX:=ar->(Sm->ar->Prop)->(XD->ar->Prop)->Prop
noncomputable abbrev fc:=ar->(Bool->ar->Prop)->(XD->ar->Prop)->Prop
noncomputable abbrev cn:=ar->(List Ar->ar->Prop)->(XD->ar->Prop)->Prop
noncomputable def cX(as:List Ar):ar:=as.filterMap λa=>match a with|.t s=>some (some s)|.s _=>none
inductive ArV(σ:St):List Ar->List V->St->Prop where
 |nil:ArV σ [] [] []
 |t {s:Sm} {v:V} {as:List Ar} {vs:List V} {ts:St}:ArV σ as vs ts->ArV σ (.t s::as) (v::vs) (some v::ts)
 |s {i:Nat} {v:V} {as:List Ar} {vs:List V} {ts:St}:σ[i]?=some (some v)->ArV σ as vs ts->ArV σ (.s i::as) (v::vs) ts
noncomputable def iF(K:Frag)(X:Cx)(t:TX):TE:=λσ H Q=>∃Φ0 H0 Φ τ ρ κ R Rx,StM K X Φ0 H0 Φ H σ τ ρ κ Rx/\t ρ R Rx/\∀sm ρ' Φ' H' v,R sm ρ'->StM K X Φ0 H0 Φ' H' σ (τ++[some v]) ρ' (κ++[some sm]) Rx->Same Φ Φ'->Q v H'
noncomputable def pH(K:Frag)(X:Cx)(t:fc):TT:=λσ H Q=>∃Φ0 H0 Φ τ ρ κ R Rx,StM K X Φ0 H0 Φ H σ τ ρ κ Rx/\t ρ R Rx/\∀b ρ' Φ' H',R b ρ'->StM K X Φ0 H0 Φ' H' σ τ ρ' κ Rx->Same Φ Φ'->Q b H'
noncomputable def yZ(K:Frag)(X:Cx)(n:Nat)(t:cn):TA:=λσ H Q=>∃Φ0 H0 Φ τ ρ κ R Rx,StM K X Φ0 H0 Φ H σ τ ρ κ Rx/\t ρ R Rx/\∀as ρ' Φ' H' vs ts,R as ρ'->as.length=n->ArV σ as vs ts->StM K X Φ0 H0 Φ' H' σ (τ++ts) ρ' (κ++cX as) Rx->Same Φ Φ'->Q vs H'
structure PX(K:Frag)(X:Cx)(e:Expr)(t:TX):Prop where pe:X.K=K->PE X e (iF K X t)
structure PXB(K:Frag)(X:Cx)(e:Expr)(t:fc):Prop where pt:X.K=K->PT X e (pH K X t)
structure PXW(K:Frag)(X:Cx)(e:Expr)(t:fc):Prop where pw:X.K=K->PW X e (pH K X t)
structure PXA(K:Frag)(X:Cx)(es:List Expr)(t:cn):Prop where pa:X.K=K->PA X es (yZ K X es.length t)
section
variable{K:Frag}{X:Cx}{Φ0 H0 Φ Φ' H H':Hp}{σ τ ts:St}{ρ κ ks:ar}{Rx:XD->ar->Prop}{d:D}{v:V}
theorem StM.gr(S:StM K X Φ0 H0 Φ H σ τ ρ κ Rx)(g:Gr Φ H Φ' H'):StM K X Φ0 H0 Φ' H' σ τ ρ κ Rx:=⟨S.g.trans g,S.l,S.E.gr g,S.x⟩
theorem StM.env(S:StM K X Φ0 H0 Φ H σ τ ρ κ Rx):EnvM K H0 Φ H σ ρ:=S.E.take S.l
theorem StM.lk(S:StM K X Φ0 H0 Φ H σ τ ρ κ Rx):κ.length=τ.length:=by have:=S.E.len;rw[IW,IW]at this;have:=S.l;omega
theorem StM.pop(S:StM K X Φ0 H0 Φ H σ (τ++ts) ρ (κ++ks) Rx)(hl:κ.length=τ.length):StM K X Φ0 H0 Φ H σ τ ρ κ Rx:=⟨S.g,S.l,by
 have E:=S.E;rw[←Jk,←Jk]at E
 exact E.take (by rw[IW,IW,S.l,hl]),S.x⟩
theorem StM.pushV(S:StM K X Φ0 H0 Φ H σ τ ρ κ Rx)(r:Rp K Φ d v):StM K X Φ0 H0 Φ H σ (τ++[some v]) ρ (κ++[some (.v d)]) Rx:=⟨S.g,S.l,by
 rw[←Jk,←Jk]
 exact S.E.snocV r,S.x⟩
theorem StM.pushO{o:Om}{p:Addr}{F:List Addr}(S:StM K X Φ0 H0 Φ H σ τ ρ κ Rx)(g:Gr Φ H Φ' H')(ho:OmS K Φ' H' o p F)(hf:∀b∈F,H b=none/\Φ' b=none):StM K X Φ0 H0 Φ' H' σ (τ++[some (.ref p)]) ρ (κ++[some (.ob none o)]) Rx:=⟨S.g.trans g,S.l,by
 rw[←Jk,←Jk]
 exact S.E.snocO S.g.h g ho hf,S.x⟩
theorem StM.at(S:StM K X Φ0 H0 Φ H σ τ ρ κ Rx){i:Nat}(h:κ[i]?=some (some (.v d))):∃v,τ[i]?=some (some v)/\Rp K Φ d v:=by have hi:=aU h;obtain⟨v,e,r⟩:=S.E.sl (i:=ρ.length+i) (d:=d) (by rw[IU (by omega),JU];exact h);rw[S.l,IU (by omega),JU]at e;exact⟨v,e,r⟩
theorem StM.last(S:StM K X Φ0 H0 Φ H σ (τ++[some v]) ρ (κ++[some (.v d)]) Rx):Rp K Φ d v:=by
 have hl:=S.lk;rw[IW,IW]at hl
 have hl:κ.length=τ.length:=by simpa using hl
 obtain⟨u,e,r⟩:=S.at (i:=κ.length) (d:=d) (by rw[IU (Jc _),JG];rfl);rw[hl,IU (Jc _),JG]at e;cases e;exact r
theorem StM.last2{e:D}{w:V}(S:StM K X Φ0 H0 Φ H σ ((τ++[some v])++[some w]) ρ ((κ++[some (.v d)])++[some (.v e)]) Rx):Rp K Φ d v/\Rp K Φ e w:=by
 refine⟨?_,S.last⟩;have hl:=S.lk;simp only[IW,Je,J8]at hl
 have hl:κ.length=τ.length:=by omega
 exact (S.pop (by simp only[IW,Je,J8];omega)).last
end
section
variable{K:Frag}{X:Cx}{e a b c:Expr}{es:List Expr}{pos p:Pos}{t ta tb:TX}{tA:cn}{tt tu:fc}
noncomputable def xD(t:TD):TX:=λρ R _=>t (fv ρ) λd=>R (.v d) ρ
theorem au{t:TD}(h:PD K X e t):PX K X e (xD t):=⟨λhK=>(h.pe hK).imp λσ H Q Nb=>by
 obtain⟨Φ0,H0,Φ,τ,ρ,κ,R,Rx,S,t,k⟩:=Nb
 exact⟨H0,Φ,fv ρ,_,S.env.toD,t,λd Φ' H' v r g rv=>k _ ρ Φ' H' v r ((S.gr g).pushV rv) g.f⟩⟩
noncomputable def xF(t:aM):TX:=λρ R _=>t (fv ρ) λds=>R (.own ds) ρ
theorem fT{t:aM}(h:PF K X e t):PX K X e (xF t):=⟨λhK=>(h.pe hK).imp λσ H Q Nb=>by
 obtain⟨Φ0,H0,Φ,τ,ρ,κ,R,Rx,S,t,k⟩:=Nb
 exact⟨H0,Φ,fv ρ,_,S.env.toD,t,λds Φ' H' p vs r g h0 hn hp rr=>k _ ρ Φ' H' _ r (S.pushO g (.lst hp rr) λb hb=>by rw[Ji.mp hb];exact⟨h0,hn⟩) g.f⟩⟩
noncomputable def xB(t:bR):fc:=λρ R _=>t (fv ρ) λb=>R b ρ
theorem c9{t:bR}(h:PTD K X e t):PXB K X e (xB t):=⟨λhK=>(h.pt hK).imp λσ H Q Nb=>by
 obtain⟨Φ0,H0,Φ,τ,ρ,κ,R,Rx,S,t,k⟩:=Nb
 exact⟨H0,Φ,fv ρ,_,S.env.toD,t,λb Φ' H' r g=>k b ρ Φ' H' r (S.gr g) g.f⟩⟩
noncomputable def xV(k:D->ar->Prop):Sm->ar->Prop:=λs ρ=>match s with|.v d=>k d ρ|_=>False
theorem xV.get{k:D->ar->Prop}{s:Sm}{ρ:ar}(h:xV k s ρ):∃d,s=.v d/\k d ρ:=by
 cases s with
 |v d=>exact⟨d,rfl,h⟩
 |ob _ _=>exact h.elim
noncomputable def jq(r:cv)(ta tb:TX):TX:=λρ R Rx=>ta ρ (xV λx ρ1=>tb ρ1 (xV λy ρ2=>r x y λd=>R (.v d) ρ2) Rx) Rx
theorem mq{r:cv}{σ:St}{H:Hp}{Q:VK}(h:iF K X (jq r ta tb) σ H Q):iq (jA K r) (iF K X ta) (iF K X tb) σ H Q:=by obtain⟨Φ0,H0,Φ,τ,ρ,κ,R,Rx,S,t,k⟩:=h;refine⟨Φ0,H0,Φ,τ,ρ,κ,_,Rx,S,t,λs1 ρ1 Φ1 H1 v r1 S1 f1=>?_⟩;obtain⟨x,rfl,r1⟩:=r1.get;refine⟨Φ0,H0,Φ1,_,ρ1,_,_,Rx,S1,r1,λs2 ρ2 Φ2 H2 w r2 S2 f2=>?_⟩;obtain⟨y,rfl,r2⟩:=r2.get;obtain⟨rx,ry⟩:=S2.last2;refine⟨Φ2,x,y,_,S2.g.s,.inl rx,.inl ry,r2,λd Φ' H' u rd g ru=>?_⟩;rw[Jk,Jk]at S2;exact k _ ρ2 Φ' H' u rd (((S2.pop S.lk).gr g).pushV ru) ((f1.trans f2).trans g.f)
theorem gG{op:Operator}{r:cv}(ho:OpD K X (binaryOp op) r)(ha:PX K X a ta)(hb:PX K X b tb):PX K X (.BinOp a op b pos) (jq r ta tb):=
 ⟨λhK=>(ql (ho.o hK) (ha.pe hK) (hb.pe hK)).imp λ_ _ _=>mq⟩
theorem lH{op:CmpOp}{r:cv}(ho:OpD K X (compareOp op) r)(ha:PX K X a ta)(hb:PX K X b tb)(hm:behindInMarks op b=false):PX K X (.Compare a [op] [b] pos) (jq r ta tb):=
 ⟨λhK=>(tT (ho.o hK) (ha.pe hK) (hb.pe hK) hm).imp λ_ _ _=>mq⟩
noncomputable def uN(t:TX):fc:=λρ R Rx=>t ρ (xV λd ρ1=>match d with|.bl b=>R b ρ1|_=>False) Rx
theorem Ip{r:cv}{σ:St}{H:Hp}{Q:Bool->Hp->Prop}(h:pH K X (uN (jq r ta tb)) σ H Q):qD (iq (jA K r) (iF K X ta) (iF K X tb)) σ H Q:=by
 obtain⟨Φ0,H0,Φ,τ,ρ,κ,R,Rx,S,t,k⟩:=h;refine mq ⟨Φ0,H0,Φ,τ,ρ,κ,_,Rx,S,t,λs1 ρ1 Φ1 H1 v r1 S1 f1=>?_⟩;obtain⟨x,rfl,r1⟩:=r1.get;have rx:=S1.last
 cases x with
 |bl b=>cases rx;exact⟨b,rfl,k b ρ1 Φ1 H1 r1 (S1.pop S.lk) f1⟩
 |_=>exact r1.elim
theorem qz{op:CmpOp}{r:cv}(ho:OpD K X (compareOp op) r)(ha:PX K X a ta)(hb:PX K X b tb)(hm:behindInMarks op b=false):PXB K X (.Compare a [op] [b] pos) (uN (jq r ta tb)):=
 ⟨λhK=>(vj (ho.o hK) (ha.pe hK) (hb.pe hK) hm).imp λ_ _ _=>Ip⟩
noncomputable def yj(t u:fc):fc:=λρ R Rx=>t ρ (λc ρ1=>(c=true->R true ρ1)/\(c=false->u ρ1 R Rx)) Rx
theorem PXW.toB(h:PXW K X e tt):PXB K X e tt:=⟨λhK=>(h.pw hK).pt⟩
theorem HA(ha:PXB K X a tt):PXW K X (.BoolOp .Or [a] pos) tt:=⟨λhK=>sR (ha.pt hK)⟩
theorem DA(ha:PXB K X a tt)(hb:PXW K X (.BoolOp .Or (b::es) pos) tu):PXW K X (.BoolOp .Or (a::b::es) pos) (yj tt tu):=
 ⟨λhK=>(sT (ha.pt hK) (hb.pw hK)).imp λσ H Q Nb=>by
  obtain⟨Φ0,H0,Φ,τ,ρ,κ,R,Rx,S,t,k⟩:=Nb;refine⟨Φ0,H0,Φ,τ,ρ,κ,_,Rx,S,t,λc ρ1 Φ1 H1 r1 S1 f1=>?_⟩
  cases c with
  |true=>rw[Ja rfl];exact k _ ρ1 Φ1 H1 (r1.1 rfl) S1 f1
  |false=>rw[I0 (by decide)];exact⟨Φ0,H0,Φ1,τ,ρ1,κ,R,Rx,S1,r1.2 rfl,λb ρ' Φ' H' rb S' f'=>k b ρ' Φ' H' rb S' (f1.trans f')⟩⟩
noncomputable def oE:cn:=λρ R _=>R [] ρ
noncomputable def AC(t:TX)(u:cn):cn:=λρ R Rx=>t ρ (λs ρ1=>u ρ1 (λas ρ2=>R (.t s::as) ρ2) Rx) Rx
noncomputable def G7(i:Nat)(u:cn):cn:=λρ R Rx=>u ρ (λas ρ2=>R (.s i::as) ρ2) Rx
theorem bp:PXA K X [] oE:=⟨λ_=>pa_nil.imp λσ H Q Nb=>by
 obtain⟨Φ0,H0,Φ,τ,ρ,κ,R,Rx,S,t,k⟩:=Nb
 exact k [] ρ Φ H [] [] t rfl .nil (by rw[JW,show cX []=[]from rfl,JW];exact S) (Same.refl _)⟩
theorem aZ(ha:PX K X e t)(hr:PXA K X es tA)(hs:starEach (e::es) X.env=(false,eval e X.env)::starEach es X.env):PXA K X (e::es) (AC t tA):=
 ⟨λhK=>(dZ (ha.pe hK) (hr.pa hK) hs).imp λσ H Q Nb=>by
  obtain⟨Φ0,H0,Φ,τ,ρ,κ,R,Rx,S,t,k⟩:=Nb;refine⟨Φ0,H0,Φ,τ,ρ,κ,_,Rx,S,t,λs1 ρ1 Φ1 H1 v r1 S1 f1=>?_⟩;refine⟨Φ0,H0,Φ1,_,ρ1,_,_,Rx,S1,r1,λas ρ2 Φ2 H2 vs ts r2 hl hv S2 f2=>?_⟩;refine k _ ρ2 Φ2 H2 (v::vs) (some v::ts) r2 (by rw[Je,Je,hl]) (.t hv) ?_ (f1.trans f2);rw[Jk,Jk]at S2
  exact S2⟩
theorem bV(i:Nat){x:Str}(hr:PXA K X es tA)(hs:starEach (.Name x pos::es) X.env=(false,eval (.Name x pos) X.env)::starEach es X.env)(hN:X.N[i]?=some x:=by rfl)(hv:cF X.env.scope x:=by nofun)(hd:(x==("__debug__":Str))=false:=by decide)
  (Np:(x==("__classdict__":Str))=false:=by decide):PXA K X (.Name x pos::es) (λρ R Rx=>(∃a o,ρ[i]?=some (some (.ob a o)))/\G7 i tA ρ R Rx):=
 ⟨λhK=>(dZ (pv i hN hv hd Np) (hr.pa hK) hs).imp λσ H Q Nb=>by
  obtain⟨Φ0,H0,Φ,τ,ρ,κ,R,Rx,S,⟨⟨a,o,ho⟩,t⟩,k⟩:=Nb;obtain⟨fp,E⟩:=S.env;obtain⟨q,e,_⟩:=E.ow i a o ho;refine⟨_,e,Φ0,H0,Φ,τ,ρ,κ,_,Rx,S,t,λas ρ2 Φ2 H2 vs ts r2 hl hv S2 f2=>?_⟩
  exact k _ ρ2 Φ2 H2 (.ref q::vs) ts r2 (by rw[Je,Je,hl]) (.s e hv) S2 f2⟩
noncomputable def fX:List Ar->Option (List D)
 | []=>some []
 |.t (.v d)::as=>(fX as).map (d::·)
 |_=>none
noncomputable def xaD(k:List D->ar->Prop):List Ar->ar->Prop:=λas ρ=>match fX as with|some ds=>k ds ρ|none=>False
theorem xaD.get{k:List D->ar->Prop}{as:List Ar}{ρ:ar}(h:xaD k as ρ):∃ds,fX as=some ds/\k ds ρ:=by
 unfold xaD at h;split at h
 ·next ds e=>exact⟨ds,e,h⟩
 ·exact h.elim
theorem qo:∀{as:List Ar}{ds:List D},fX as=some ds->cX as=ds.map (λd=>some (.v d))/\as.length=ds.length
 | [],ds,h=>by cases h;exact⟨rfl,rfl⟩
 |.t (.v d)::as,ds,h=>by
  have h':(fX as).map (d::·)=some ds:=h
  cases e:fX as with
  |none=>rw[e]at h';cases h'
  |some es=>
   rw[e]at h';cases h';obtain⟨h1,h2⟩:=qo e;exact⟨by show some (Sm.v d)::cX as=_;rw[h1];rfl,by rw[Je,Je,h2]⟩
 |.t (.ob _ _)::_,_,h=>by cases h
 |.s _::_,_,h=>by cases h
theorem Fe{σ:St}:∀{as:List Ar}{ds:List D}{vs:List V}{ts:St},fX as=some ds->ArV σ as vs ts->ts=vs.map some:=by
 intro as ds vs ts h hv
 induction hv generalizing ds with
 |nil=>rfl
 | @t s0 v as vs ts hv ih=>
  cases s0 with
  |v d=>
   have h':(fX as).map (d::·)=some ds:=h
   cases e:fX as with
   |none=>rw[e]at h';cases h'
   |some es=>rw[ih e];rfl
  |ob a o=>cases h
 |s=>cases h
theorem StM.vals{Φ0 H0 Φ H:Hp}{σ τ ts:St}{ρ κ:ar}{Rx:XD->ar->Prop}{as:List Ar}{ds:List D}{vs:List V}(S:StM K X Φ0 H0 Φ H σ (τ++ts) ρ (κ++cX as) Rx)(hl:κ.length=τ.length)(hd:fX as=some ds)(hv:ArV σ as vs ts):RpL K Φ ds vs:=by
 have e1:=Fe hd hv;obtain⟨e2,e3⟩:=qo hd
 have hlen:vs.length=ds.length:=by have:=S.lk;rw[IW,IW,e1,e2,mn,mn]at this;omega
 refine⟨hlen,λi v d SW Qh=>?_⟩;obtain⟨w,hw,r⟩:=S.at (i:=κ.length+i) (d:=d) (by rw[IU (by omega),JU,e2,Jd,Qh];rfl);rw[hl,IU (by omega),JU,e1,Jd,SW]at hw;cases hw;exact r
noncomputable def AD(t:cn):TX:=λρ R Rx=>t ρ (xaD λds ρ1=>R (.v (.tup ds)) ρ1) Rx
theorem qA{x1}(h:PXA K X es tA)(OR:Nat.ble es.length 1000=true:=by rfl):PX K X (.Tuple es x1 pos) (AD tA):=
 ⟨λhK=>(nZ (h.pa hK)).imp λσ H Q Nb=>by
  obtain⟨Φ0,H0,Φ,τ,ρ,κ,R,Rx,S,t,k⟩:=Nb;refine⟨Φ0,H0,Φ,τ,ρ,κ,_,Rx,S,t,λas ρ1 Φ1 H1 vs ts r1 hl hv S1 f1=>?_⟩;obtain⟨ds,hd,r1⟩:=r1.get;have rl:=S1.vals S.lk hd hv;refine⟨by rw[rl.1,←(qo hd).2,hl];exact pJ OR,λp hp=>?_⟩;have g:=Gr.new S1.g.s hp (.tup vs)
  exact k _ ρ1 _ _ _ r1 (((S1.pop S.lk).gr g).pushV ((rl.same (cG (S1.g.s.free hp) _)).tup bq)) (f1.trans g.f)⟩
noncomputable def Aq(t:TX):TX:=λρ R Rx=>t ρ (λs ρ1=>match s with|.ob none (.lst ds)=>R (.v (.lst ds)) ρ1|_=>False) Rx
theorem StM.fzl{Φ0 H0 Φ H:Hp}{σ τ:St}{ρ κ:ar}{Rx:XD->ar->Prop}{v:V}{ds:List D}(S:StM K X Φ0 H0 Φ H σ (τ++[some v]) ρ (κ++[some (.ob none (.lst ds))]) Rx):∃Φ',StM K X Φ0 H0 Φ' H σ (τ++[some v]) ρ (κ++[some (.v (.lst ds))]) Rx/\Same Φ Φ':=by
 have hk:κ.length=τ.length:=by have:=S.lk;rw[IW,IW]at this;simpa using this
 obtain⟨fp,E⟩:=S.E
 have NX:(ρ++(κ++[some (Sm.ob none (.lst ds))]))[ρ.length+κ.length]?=some (some (.ob none (.lst ds))):=by rw[←Jk,IU (by rw[IW];omega),IW,JG];rfl
 obtain⟨p,e,_,r⟩:=E.ow _ _ _ NX;have hp:=r.mem;have no:=E.no _ _ _ NX
 have ev:v=.ref p:=by
  rw[←Jk,IU (by rw[IW,S.l];omega),IW,S.l,hk,JG]at e;cases e;rfl
 subst ev;obtain⟨_,vs,h1,h2⟩:=r.lst_inv
 next=>
  have hn:=(no p hp).2;have h0:=(no p hp).1;have s1:=cG hn (.lst vs);refine⟨ak Φ p (.lst vs),⟨S.g.freeze h0 hn h1,S.l,?_,S.x⟩,s1⟩
  have E0:EnvM K H0 (ak Φ p (.lst vs)) H (σ++τ) (ρ++κ):=by
   refine⟨fp,λb u eb=>?_,by rw[IW,IW,S.l,hk],λj d hd=>?_,λj a o ho=>?_,λj a o ho b hb=>?_,λj k a a' o o' hj QV c=>?_,E.tb.same s1⟩
   ·by_cases c:b=p
    ·subst c;rw[bq]at eb;cases eb;exact h1
    ·rw[ba c]at eb;exact E.fz b u eb
   ·have hj:=aU hd;obtain⟨w,hw,OC⟩:=E.sl j d (by rw[←Jk,wy hj];exact hd);rw[←Jk,wy (by rw[IW]at hj ⊢;have:=S.l;omega)]at hw;exact⟨w,hw,OC.same s1⟩
   ·have hj:=aU ho;obtain⟨w,hw,ha,OC⟩:=E.ow j a o (by rw[←Jk,wy hj];exact ho);rw[←Jk,wy (by rw[IW]at hj ⊢;have:=S.l;omega)]at hw;exact⟨w,hw,ha,OC.keep s1 λ_ _ _ h=>h⟩
   ·have hj:=aU ho
    have Pg:(ρ++(κ++[some (Sm.ob none (.lst ds))]))[j]?=some (some (.ob a o)):=by rw[←Jk,wy hj];exact ho
    have c:b≠p:=λz=>E.dj j _ a _ o _ Pg NX (by rw[IW]at hj;omega) b hb (by rw[z];exact hp);rw[ba c];exact E.no j a o Pg b hb
   ·have Si:=aU hj;have hk1:=aU QV;exact E.dj j k a a' o o' (by rw[←Jk,wy Si];exact hj) (by rw[←Jk,wy hk1];exact QV) c
  rw[←Jk,←Jk];exact E0.snocV ((h2.same s1).lst bq)
theorem pK(h:PX K X e t):PX K X e (Aq t):=⟨λhK=>(h.pe hK).imp λσ H Q Nb=>by
 obtain⟨Φ0,H0,Φ,τ,ρ,κ,R,Rx,S,t,k⟩:=Nb;refine⟨Φ0,H0,Φ,τ,ρ,κ,_,Rx,S,t,λs1 ρ1 Φ1 H1 v r1 S1 f1=>?_⟩;split at r1
 ·next ds=>
  obtain⟨Φ2,S2,f2⟩:=S1.fzl;exact k _ ρ1 Φ2 H1 v r1 S2 (f1.trans f2)
 ·exact r1.elim⟩
noncomputable def Ci(r:bc)(t:cn):TX:=λρ R Rx=>t ρ (xaD λds ρ1=>r ds λd=>R (.v d) ρ1) Rx
theorem RpL.lq{Φ H:Hp}{ds:List D}{vs:List V}(h:RpL K Φ ds vs):mV K Φ H ds vs:=⟨h.1,λi v d hv hd=>.inl (h.2 i v d hv hd)⟩
theorem rp{T:String}{r:bc}{x:Str}(hc:CallD K X (.type T) r)(hg:Gl X x)(hm:X.mg x=none)(hv:bootBuiltins x=some (.type T))(ha:PXA K X (e::es) tA)
  (he:starEach (e::es) X.env=(false,eval e X.env)::starEach es X.env) (Ot:(backTo pos (starEach es X.env)).any (·.1)=false) (hn:x≠"__name__":=by decide) (OA:(x==("__debug__":Str))=false:=by decide):PX K X (.Call (.Name x p) (e::es) [] pos) (Ci r tA):=
 ⟨λhK=>(sN (hc.c hK) hg hm hv (ha.pa hK) hn OA he Ot).imp λσ H Q Nb=>by
  obtain⟨Φ0,H0,Φ,τ,ρ,κ,R,Rx,S,t,k⟩:=Nb;refine⟨Φ0,H0,Φ,τ,ρ,κ,_,Rx,S,t,λas ρ1 Φ1 H1 vs ts r1 hl hv S1 f1=>?_⟩;obtain⟨ds,hd,r1⟩:=r1.get;have rl:=S1.vals S.lk hd hv
  exact⟨Φ1,ds,_,S1.g.s,rl.lq,r1,λd Φ' H' v rd g rv=>k _ ρ1 Φ' H' v rd (((S1.pop S.lk).gr g).pushV rv) (f1.trans g.f)⟩⟩
end
noncomputable def cU(H:Hp)(B:List Addr):Hp:=λb=>if b∈B then none else H b
theorem Ik{H:Hp}{B:List Addr}{b:Addr}(h:b∈B):cU H B b=none:=Ja h
theorem gL{H:Hp}{B:List Addr}{b:Addr}(h:b∉B):cU H B b=H b:=I0 h
theorem AU{H:Hp}{B:List Addr}{b:Addr}{u:HO}(h:cU H B b=some u):b∉B/\H b=some u:=by
 unfold cU at h;split at h
 ·cases h
 ·next c=>exact⟨c,h⟩
theorem BI{H:Hp}{B:List Addr}:Same (cU H B) H:=λb u e=>(AU e).2
noncomputable abbrev b9:=List Sm->(Sm->List Om->Prop)->(XD->List Om->Prop)->Prop
inductive ArgM(K:Frag)(Φ H:Hp):List Sm->List V->List (List Addr)->Prop where
 |nil:ArgM K Φ H [] [] []
 |v {d:D} {v:V} {as:List Sm} {vs:List V} {Fs:List (List Addr)}:Rp K Φ d v->ArgM K Φ H as vs Fs->ArgM K Φ H (.v d::as) (v::vs) ([]::Fs)
 |o {a:Option Addr} {o:Om} {p:Addr} {F:List Addr} {as:List Sm} {vs:List V} {Fs:List (List Addr)}:OmS K Φ H o p F->ArgM K Φ H as vs Fs->ArgM K Φ H (.ob a o::as) (.ref p::vs) (F::Fs)
inductive OutM(K:Frag)(Φ H:Hp):List Sm->List V->List Om->List (List Addr)->Prop where
 |nil:OutM K Φ H [] [] [] []
 |v {d:D} {v:V} {as:List Sm} {vs:List V} {os:List Om} {Fs:List (List Addr)}:OutM K Φ H as vs os Fs->OutM K Φ H (.v d::as) (v::vs) os ([]::Fs)
 |o {a:Option Addr} {o o':Om} {p:Addr} {F:List Addr} {as:List Sm} {vs:List V} {os:List Om} {Fs:List (List Addr)}:OmS K Φ H o' p F->OutM K Φ H as vs os Fs->OutM K Φ H (.ob a o::as) (.ref p::vs) (o'::os) (F::Fs)
inductive ResM(K:Frag)(Φ H:Hp):Sm->V->List Addr->Prop where
 |v {d:D} {v:V}:Rp K Φ d v->ResM K Φ H (.v d) v []
 |o {a:Option Addr} {o:Om} {p:Addr} {F:List Addr}:(∀q,a=some q->q=p)->OmS K Φ H o p F->ResM K Φ H (.ob a o) (.ref p) F
noncomputable def cH(K:Frag)(sp:b9):Sp:=λvs H Q _=>∃Φ as Fs R Rx,Same Φ H/\TabF K Φ/\ArgM K Φ H as vs Fs/\Fs.flatten.Nodup/\(∀b∈Fs.flatten,Φ b=none)/\sp as R Rx /\
 ∀sm os Φ' H' v F NM,R sm os->Gr Φ (cU H Fs.flatten) Φ' H'->ResM K Φ' H' sm v F->OutM K Φ' H' as vs os NM->(F++NM.flatten).Nodup->(∀b∈F++NM.flatten,cU H Fs.flatten b=none/\Φ' b=none)->Q v H'
theorem OmS.nodup{K:Frag}{Φ H:Hp}{o:Om}{p:Addr}{F:List Addr}(h:OmS K Φ H o p F):F.Nodup:=by
 cases h with
 |lst _ _=>simp
 |map _ _=>simp
 |mpT _ _=>simp
 |obj _ _ _ h=>exact h
 |ptr=>exact .nil
 |tl _ _ h=>exact h
 |pr _ _ _ _=>simp
theorem ArgM.len{K:Frag}{Φ H:Hp}{as:List Sm}{vs:List V}{Fs:List (List Addr)}(h:ArgM K Φ H as vs Fs):vs.length=as.length/\Fs.length=as.length:=by
 induction h with
 |nil=>exact⟨rfl,rfl⟩
 |v _ _ ih=>exact⟨by simp[ih.1],by simp[ih.2]⟩
 |o _ _ ih=>exact⟨by simp[ih.1],by simp[ih.2]⟩
section
variable{K:Frag}{H0 H H' Φ Φ' Φ0:Hp}{σ:St}{ρ ρ2:ar}{fp:Nat->List Addr}{F F' B:List Addr}{o o':Om}{p:Addr}{d:D}{v:V}{i:Nat}{a:Option Addr}
noncomputable def ij(new:Nat->Option (Om×List Addr))(fp:Nat->List Addr):Nat->List Addr:=λi=>match new i with|some q=>q.2|none=>fp i
theorem EnvM'.lend{new:Nat->Option (Om×List Addr)}(E:EnvM' K H0 Φ H σ ρ fp)(s0:Same H0 H)(hB:∀b,b∈B->∃i a o q,new i=some q/\ρ[i]?=some (some (.ob a o))/\b∈fp i)(hB2:∀i q,new i=some q->∀b∈fp i,b∈B)(g:Gr Φ (cU H B) Φ' H')
  (hl:ρ2.length=ρ.length) (hv:∀(i:Nat)(d:D),ρ2[i]?=some (some (.v d))->ρ[i]?=some (some (.v d)))
  (ho:∀(i:Nat)(a:Option Addr)(o:Om),ρ2[i]?=some (some (.ob a o))->(new i=none/\ρ[i]?=some (some (.ob a o)))\/∃o0 F',new i=some (o,F')/\ρ[i]?=some (some (.ob a o0)))
  (hn:∀(i:Nat)(q:Om×List Addr),new i=some q->∃p,σ[i]?=some (some (.ref p))/\OmS K Φ' H' q.1 p q.2) (hF:∀(i:Nat)(q:Om×List Addr),new i=some q->∀b∈q.2,cU H B b=none/\Φ' b=none)
  (hd:∀(i j:Nat)(q r:Om×List Addr),new i=some q->new j=some r->i≠j->∀b∈q.2,b∉r.2):EnvM' K H0 Φ' H' σ ρ2 (ij new fp):=by
 have B0:∀b∈B,H0 b=none:=λb hb=>let ⟨i,a,o,_,_,h,hm⟩:=hB b hb;(E.no i a o h b hm).1
 have out:∀{i:Nat}{a:Option Addr}{o:Om},new i=none->ρ[i]?=some (some (.ob a o))->∀b∈fp i,b∉B:=λ{i a o} hi h b hb z=>by
  obtain⟨j,a',o2,q,hj,h2,hm⟩:=hB b z
  have c:i≠j:=λe=>by rw[e,hj]at hi;cases hi
  exact E.dj i j a a' o o2 h h2 c b hb hm
 have RD:∀{i:Nat},new i=none->ij new fp i=fp i:=λh=>by unfold ij;rw[h]
 have RE:∀{i:Nat}{q:Om×List Addr},new i=some q->ij new fp i=q.2:=λh=>by unfold ij;rw[h]
 refine⟨g.s,by rw[hl];exact E.len,λi d h=>?_,λi a o h=>?_,λi a o h b hb=>?_,λi j a a' o o' hi hj c b hb Nv=>?_,E.tb.same g.f⟩
 ·obtain⟨v,e,r⟩:=E.sl i d (hv i d h);exact⟨v,e,r.same g.f⟩
 ·rcases ho i a o h with⟨h1,h2⟩|⟨o0,F',h1,h2⟩
  ·obtain⟨p,e,ha,r⟩:=E.ow i a o h2;refine⟨p,e,ha,?_⟩;rw[RD h1];exact r.keep g.f λb hb u hu=>g.h b u (by rw[gL (out h1 h2 b hb)];exact hu)
  ·obtain⟨p,e,ha,_⟩:=E.ow i a o0 h2;obtain⟨p',e',r⟩:=hn i _ h1;rw[e]at e';cases e';exact⟨p,e,ha,by rw[RE h1];exact r⟩
 ·rcases ho i a o h with⟨h1,h2⟩|⟨o0,F',h1,h2⟩
  ·rw[RD h1]at hb;obtain⟨p,_,_,r⟩:=E.ow i a o h2;obtain⟨u,hu,k⟩:=r.at b hb;exact⟨(E.no i a o h2 b hb).1,g.o b u (by rw[gL (out h1 h2 b hb)];exact hu) (E.no i a o h2 b hb).2 k⟩
  ·rw[RE h1]at hb;obtain⟨z1,z2⟩:=hF i _ h1 b hb;refine⟨?_,z2⟩;rcases Lb (b∈B)with c|c
   ·exact B0 b c
   ·rw[gL c]at z1
    cases e:H0 b with
    |none=>rfl
    |some u=>rw[s0 b u e]at z1;cases z1
 ·have no:∀{i j:Nat}{q:Om×List Addr}{a:Option Addr}{o:Om},new i=some q->new j=none->ρ[j]?=some (some (.ob a o))->b∈q.2->b∈fp j->False:=λ{i j q a o} h1 h2 h3 h4 h5=>by
   obtain⟨p,_,_,r⟩:=E.ow j a o h3;obtain⟨u,hu,_⟩:=r.at b h5;have:=(hF i q h1 b h4).1;rw[gL (out h2 h3 b h5),hu]at this;cases this
  rcases ho i a o hi with⟨h1,h2⟩|⟨o0,F',h1,h2⟩
  ·rw[RD h1]at hb;rcases ho j a' o' hj with⟨k1,k2⟩|⟨o1,F1,k1,k2⟩
   ·rw[RD k1]at Nv;exact E.dj i j a a' o o' h2 k2 c b hb Nv
   ·rw[RE k1]at Nv;exact no k1 h1 h2 Nv hb
  ·rw[RE h1]at hb;rcases ho j a' o' hj with⟨k1,k2⟩|⟨o1,F1,k1,k2⟩
   ·rw[RD k1]at Nv;exact no h1 k1 k2 hb Nv
   ·rw[RE k1]at Nv;exact hd i j _ _ h1 k1 c b hb Nv
theorem Gr.lend(g0:Gr Φ0 H0 Φ H)(g:Gr Φ (cU H B) Φ' H')(B0:∀b∈B,H0 b=none):Gr Φ0 H0 Φ' H':=by
 have up:∀{b:Addr}{u:HO},H0 b=some u->cU H B b=some u:=λ{b u} e=>by
  rw[gL λz=>by rw[B0 b z]at e;cases e];exact g0.h b u e
 exact⟨g0.f.trans g.f,λb u e=>g.h b u (up e),g.s,λb u h1 h2 k=>g.o b u (up h1) (g0.o b u h1 h2 k) k⟩
theorem EnvM'.snocG(E:EnvM' K H0 Φ H σ ρ fp){sm:Sm}(hr:ResM K Φ H sm v F)(hf:∀b∈F,H0 b=none/\Φ b=none)(hd:∀b∈F,∀(i:Nat)(a:Option Addr)(o:Om),ρ[i]?=some (some (.ob a o))->b∉fp i):EnvM K H0 Φ H (σ++[some v]) (ρ++[some sm]):=by
 cases hr with
 |v r=>exact EnvM.snocV ⟨fp,E⟩ r
 | @o a0 o p F ha0 ho=>
  have cs:∀{i:Nat}{x:Sm},(ρ++[some (Sm.ob a0 o)])[i]?=some (some x)->(i<ρ.length/\ρ[i]?=some (some x))\/(i=ρ.length/\x=.ob a0 o):=λ{i x} h=>by
   rcases JI i ρ.length with c|c
   ·rw[wy c]at h;exact .inl ⟨c,h⟩
   ·rw[IU c]at h
    cases e:i-ρ.length with
    |zero=>rw[e]at h;cases h;exact .inr ⟨by omega,rfl⟩
    |succ n=>rw[e]at h;cases h
  refine⟨λi=>if i=ρ.length then F else fp i,E.fz,by rw[IW,IW,E.len];rfl,λi d h=>?_,λi a o' h=>?_,λi a o' h b hb=>?_,λi j a a' o1 o2 hi hj c b hb Nv=>?_,E.tb⟩
  ·rcases cs h with⟨c,h⟩|⟨_,h⟩
   ·obtain⟨v,e,r⟩:=E.sl i d h;exact⟨v,by rw[wy (by rw[E.len];exact c)];exact e,r⟩
   ·cases h
  ·rcases cs h with⟨c,h⟩|⟨c,h⟩
   ·obtain⟨q,e,r⟩:=E.ow i a o' h;exact⟨q,by rw[wy (by rw[E.len];exact c)];exact e,by rw[I0 (by omega)];exact r⟩
   ·cases h;subst c;refine⟨p,by rw[IU (by rw[E.len];exact Jc _),E.len,JG];rfl,ha0,by rw[Ja rfl];exact ho⟩
  ·rcases cs h with⟨c,h⟩|⟨c,h⟩
   ·rw[I0 (by omega)]at hb;exact E.no i a o' h b hb
   ·rw[Ja c]at hb;exact hf b hb
  ·rcases cs hi with⟨ci,hi⟩|⟨ci,hi⟩
   ·rw[I0 (by omega)]at hb;rcases cs hj with⟨cj,hj⟩|⟨cj,hj⟩
    ·rw[I0 (by omega)]at Nv;exact E.dj i j a a' o1 o2 hi hj c b hb Nv
    ·rw[Ja cj]at Nv;exact hd b Nv i a o1 hi hb
   ·rw[Ja ci]at hb;rcases cs hj with⟨cj,hj⟩|⟨cj,hj⟩
    ·rw[I0 (by omega)]at Nv;exact hd b hb j a' o2 hj Nv
    ·omega
end
noncomputable def bE(ρ:ar):List Ar->Option (List Sm)
 | []=>some []
 |.t s::as=>(bE ρ as).map (s::·)
 |.s i::as=>match ρ[i]? with
  |some (some (.ob _ o))=>(bE ρ as).map (.ob none o::·)
  |_=>none
noncomputable def aR(o:Om):Option Sm->Option Sm
 |some (.ob a _)=>some (.ob a o)
 |x=>x
noncomputable def aJ:ar->Nat->Om->ar
 | [],_,_=>[]
 |x::ρ,0,o=>aR o x::ρ
 |x::ρ,i+1,o=>x::aJ ρ i o
theorem kP:∀(ρ:ar)(i:Nat)(o:Om),aJ ρ i o=(match ρ[i]? with
  |some (some (.ob a _))=>ρ.set i (some (.ob a o))
  |_=>ρ)
 | [],_,_=>rfl
 |some (.ob _ _)::_,0,_=>rfl
 |some (.v _)::_,0,_=>rfl
 |none::_,0,_=>rfl
 |x::ρ,i+1,o=>by
  show x::aJ ρ i o=_;rw[kP ρ i o,MH]
  match ρ[i]? with
  |some (some (.ob _ _))=>rfl
  |some (some (.v _))=>rfl
  |some none=>rfl
  |none=>rfl
noncomputable def az(ρ:ar):List Ar->List Om->ar
 | [],_=>ρ
 |.t (.v _)::as,os=>az ρ as os
 |.t (.ob _ _)::as,_::os=>az ρ as os
 |.t (.ob _ _)::as,[]=>az ρ as []
 |.s i::as,o::os=>az (aJ ρ i o) as os
 |.s _::as,[]=>az ρ as []
noncomputable def dQ:List Ar->List Nat
 | []=>[]
 |.t _::as=>dQ as
 |.s i::as=>i::dQ as
noncomputable def qe(as:List Ar):Bool:=decide (dQ as).Nodup
noncomputable def cL:Nat->List Ar->List Om->List (List Addr)->Nat->Option (Om×List Addr)
 |n,.t (.v _)::as,os,_::Fs,i=>cL (n+1) as os Fs i
 |n,.t (.ob _ _)::as,o::os,F::Fs,i=>if i=n then some (o,F) else cL (n+1) as os Fs i
 |n,.s j::as,o::os,F::Fs,i=>if i=j then some (o,F) else cL n as os Fs i
 |_,_,_,_,_=>none
section
variable{K:Frag}{H0 H Φ:Hp}{σ:St}{ρ:ar}{fp:Nat->List Addr}
noncomputable def dh(fp:Nat->List Addr):Nat->List Ar->List (List Addr)
 |_,[]=>[]
 |n,.t (.v _)::as=>[]::dh fp (n+1) as
 |n,.t (.ob _ _)::as=>fp n::dh fp (n+1) as
 |n,.s j::as=>fp j::dh fp n as
noncomputable def de:Nat->List Ar->List Nat
 |_,[]=>[]
 |n,.t (.v _)::as=>de (n+1) as
 |n,.t (.ob _ _)::as=>n::de (n+1) as
 |n,.s j::as=>j::de n as
theorem fpA_mem:∀{n:Nat}{as:List Ar}{b:Addr},b∈(dh fp n as).flatten↔∃i∈de n as,b∈fp i
 |n,[],b=>by simp[dh,de]
 |n,.t (.v _)::as,b=>by simp only[dh,de,JK,Lm];exact fpA_mem
 |n,.t (.ob _ _)::as,b=>by simp only[dh,de,JK,Jv,Jb,fpA_mem (n:=n+1) (as:=as),exists_eq_or_imp]
 |n,.s j::as,b=>by simp only[dh,de,JK,Jv,Jb,fpA_mem (n:=n) (as:=as),exists_eq_or_imp]
theorem jF:∀{n:Nat}{as:List Ar}{i:Nat},i∈de n as->i∈dQ as\/(n<=i/\i<n+(cX as).length)
 |n,[],i,h=>by cases h
 |n,.t (.v d)::as,i,h=>by
  have h:i∈de (n+1) as:=h;rcases jF h with z|z
  ·exact .inl z
  ·refine .inr ⟨by omega,?_⟩;show i<n+((cX as).length+1);omega
 |n,.t (.ob a o)::as,i,h=>by
  rcases Jb.mp h with rfl|h
  ·refine .inr ⟨Jc _,?_⟩;show i<i+((cX as).length+1);omega
  ·rcases jF h with z|z
   ·exact .inl z
   ·refine .inr ⟨by omega,?_⟩;show i<n+((cX as).length+1);omega
 |n,.s j::as,i,h=>by
  rcases Jb.mp h with rfl|h
  ·exact .inl IZ
  ·rcases jF h with z|z
   ·exact .inl (IY _ z)
   ·exact .inr z
theorem nu:∀{n:Nat}{as:List Ar},(dQ as).Nodup->(∀i∈dQ as,i<n)->(de n as).Nodup
 |n,[],_,_=>by simp[de]
 |n,.t (.v d)::as,h,hl=>nu (n:=n+1) h λi hi=>K9 (hl i hi)
 |n,.t (.ob a o)::as,h,hl=>by
  refine Jy.mpr ⟨λz=>?_,nu (n:=n+1) h λi hi=>K9 (hl i hi)⟩;rcases jF z with z|z
  ·exact KC _ (hl n z)
  ·omega
 |n,.s j::as,h,hl=>by
  obtain⟨h1,h2⟩:=Jy.mp h;refine Jy.mpr ⟨λz=>?_,nu h2 λi hi=>hl i (IY _ hi)⟩;rcases jF z with z|z
  ·exact h1 z
  ·have:=hl j IZ;omega
theorem GI{σx:St}{ρx:ar}(E:EnvM' K H0 Φ H σx ρx fp)(hs:∀(i:Nat)(x:Sm),ρ[i]?=some (some x)->ρx[i]?=some (some x))(NL:∀(i:Nat)(v:V),σ[i]?=some (some v)->σx[i]?=some (some v)) :
  ∀{n:Nat}{as:List Ar}{Ny:List Sm}{vs:List V}{ts:St},(∀(j:Nat) x,(cX as)[j]?=some x->ρx[n+j]?=some x)->(∀(j:Nat) x,ts[j]?=some x->σx[n+j]?=some x)->bE ρ as=some Ny->ArV σ as vs ts->ArgM K Φ H Ny vs (dh fp n as):=by
 intro n as Ny vs ts h1 h2 hr hv
 induction hv generalizing n Ny with
 |nil=>cases hr;exact .nil
 | @t s0 v as vs ts hv ih=>
  cases s0 with
  |v d=>
   have Nq:(bE ρ as).map (Sm.v d::·)=some Ny:=hr
   cases e:bE ρ as with
   |none=>rw[e]at Nq;cases Nq
   |some N8=>
    rw[e]at Nq;cases Nq;obtain⟨w,hw,r⟩:=E.sl n d (h1 0 _ rfl);have:=h2 0 _ rfl;rw[show n+0=n from rfl,hw]at this;cases this;exact .v r (ih (n:=n+1) (λj x hx=>by rw[show n+1+j=n+(j+1)by omega];exact h1 (j+1) x hx) (λj x hx=>by rw[show n+1+j=n+(j+1)by omega];exact h2 (j+1) x hx) e)
  |ob a o=>
   have Nq:(bE ρ as).map (Sm.ob a o::·)=some Ny:=hr
   cases e:bE ρ as with
   |none=>rw[e]at Nq;cases Nq
   |some N8=>
    rw[e]at Nq;cases Nq;obtain⟨w,hw,_,r⟩:=E.ow n a o (h1 0 _ rfl);have:=h2 0 _ rfl;rw[show n+0=n from rfl,hw]at this;cases this;exact .o r (ih (n:=n+1) (λj x hx=>by rw[show n+1+j=n+(j+1)by omega];exact h1 (j+1) x hx) (λj x hx=>by rw[show n+1+j=n+(j+1)by omega];exact h2 (j+1) x hx) e)
 | @s i v as vs ts hi hv ih=>
  unfold bE at hr;split at hr
  ·next a o ho=>
   cases e:bE ρ as with
   |none=>rw[e]at hr;cases hr
   |some N8=>
    rw[e]at hr;cases hr;obtain⟨w,hw,_,r⟩:=E.ow i a o (hs i _ ho);rw[NL i _ hi]at hw;cases hw;exact .o r (ih h1 h2 e)
  ·cases hr
theorem ly{σx:St}{ρx:ar}(hs:∀(i:Nat)(x:Sm),ρ[i]?=some (some x)->ρx[i]?=some (some x)) :
  ∀{n:Nat}{as:List Ar}{Ny:List Sm},(∀(j:Nat) x,(cX as)[j]?=some x->ρx[n+j]?=some x)->bE ρ as=some Ny->∀i∈de n as,∃a o,ρx[i]?=some (some (.ob a o))
 |n,[],Ny,_,hr,i,h=>by cases h
 |n,.t (.v d)::as,Ny,h1,hr,i,h=>by
  have Nq:(bE ρ as).map (Sm.v d::·)=some Ny:=hr
  cases e:bE ρ as with
  |none=>rw[e]at Nq;cases Nq
  |some N8=>exact ly (σx:=σx) hs (n:=n+1) (λj x hx=>by rw[show n+1+j=n+(j+1)by omega];exact h1 (j+1) x hx) e i h
 |n,.t (.ob a o)::as,Ny,h1,hr,i,h=>by
  have Nq:(bE ρ as).map (Sm.ob a o::·)=some Ny:=hr
  cases e:bE ρ as with
  |none=>rw[e]at Nq;cases Nq
  |some N8=>
   rcases Jb.mp h with rfl|h
   ·exact⟨a,o,h1 0 _ rfl⟩
   ·exact ly (σx:=σx) hs (n:=n+1) (λj x hx=>by rw[show n+1+j=n+(j+1)by omega];exact h1 (j+1) x hx) e i h
 |n,.s j::as,Ny,h1,hr,i,h=>by
  unfold bE at hr;split at hr
  ·next a o ho=>
   cases e:bE ρ as with
   |none=>rw[e]at hr;cases hr
   |some N8=>
    rcases Jb.mp h with rfl|h
    ·exact⟨a,o,hs _ _ ho⟩
    ·exact ly (σx:=σx) hs (n:=n) (as:=as) h1 e i h
  ·cases hr
theorem oh{σx:St}{ρx:ar}(E:EnvM' K H0 Φ H σx ρx fp):∀{n:Nat}{as:List Ar},(de n as).Nodup->(∀i∈de n as,∃a o,ρx[i]?=some (some (.ob a o)))->(dh fp n as).flatten.Nodup
 |n,[],_,_=>by simp[dh]
 |n,.t (.v d)::as,h,ho=>by show ([]++(dh fp (n+1) as).flatten).Nodup;rw[Lm];exact oh E (n:=n+1) h ho
 |n,.t (.ob a o)::as,h,ho=>by show (fp n++(dh fp (n+1) as).flatten).Nodup;obtain⟨h1,h2⟩:=Jy.mp h;obtain⟨a',o',hn⟩:=ho n IZ;obtain⟨_,_,_,r⟩:=E.ow n a' o' hn;refine Kq.mpr ⟨r.nodup,oh E (n:=n+1) h2 λi hi=>ho i (IY _ hi),λb hb c hc e=>?_⟩;subst e;obtain⟨i,hi,OY⟩:=fpA_mem.mp hc;obtain⟨a2,o2,TH⟩:=ho i (IY _ hi);exact E.dj n i a' a2 o' o2 hn TH (λe=>h1 (e▸hi)) b hb OY
 |n,.s j::as,h,ho=>by show (fp j++(dh fp n as).flatten).Nodup;obtain⟨h1,h2⟩:=Jy.mp h;obtain⟨a',o',hn⟩:=ho j IZ;obtain⟨_,_,_,r⟩:=E.ow j a' o' hn;refine Kq.mpr ⟨r.nodup,oh E h2 λi hi=>ho i (IY _ hi),λb hb c hc e=>?_⟩;subst e;obtain⟨i,hi,OY⟩:=fpA_mem.mp hc;obtain⟨a2,o2,TH⟩:=ho i (IY _ hi);exact E.dj j i a' a2 o' o2 hn TH (λe=>h1 (e▸hi)) b hb OY
theorem kz:∀{n:Nat}{as:List Ar}{os:List Om}{Fs:List (List Addr)}{i:Nat}{q:Om×List Addr},cL n as os Fs i=some q->i∈de n as
 |n,[],_,_,_,_,h=>by cases h
 |n,.t (.v d)::as,os,[],i,q,h=>by cases h
 |n,.t (.v d)::as,os,F::Fs,i,q,h=>kz (n:=n+1) h
 |n,.t (.ob a o)::as,[],Fs,i,q,h=>by cases Fs<;>cases h
 |n,.t (.ob a o)::as,_::_,[],i,q,h=>by cases h
 |n,.t (.ob a o)::as,o'::os,F::Fs,i,q,h=>by
  have h:(if i=n then some (o',F) else cL (n+1) as os Fs i)=some q:=h;split at h
  ·next c=>rw[c];exact IZ
  ·exact IY _ (kz h)
 |n,.s j::as,[],Fs,i,q,h=>by cases Fs<;>cases h
 |n,.s j::as,_::_,[],i,q,h=>by cases h
 |n,.s j::as,o'::os,F::Fs,i,q,h=>by
  have h:(if i=j then some (o',F) else cL n as os Fs i)=some q:=h;split at h
  ·next c=>rw[c];exact IZ
  ·exact IY _ (kz h)
theorem AG{σx:St}(NL:∀(i:Nat)(v:V),σ[i]?=some (some v)->σx[i]?=some (some v)) :
  ∀{n:Nat}{as:List Ar}{Ny:List Sm}{vs:List V}{ts:St}{os:List Om}{Fs:List (List Addr)},(∀(j:Nat) x,ts[j]?=some x->σx[n+j]?=some x)->bE ρ as=some Ny->ArV σ as vs ts->OutM K Φ H Ny vs os Fs->(de n as).Nodup->Fs.flatten.Nodup->
   (∀i∈de n as,∃q,cL n as os Fs i=some q)/\∀(i:Nat)(q:Om×List Addr),cL n as os Fs i=some q->(∃p,σx[i]?=some (some (.ref p))/\OmS K Φ H q.1 p q.2)/\(∀b∈q.2,b∈Fs.flatten)/\∀(j:Nat)(r:Om×List Addr),cL n as os Fs j=some r->i≠j->∀b∈q.2,b∉r.2:=by
 intro n as Ny vs ts os Fs h2 hr hv
 induction hv generalizing n Ny os Fs with
 |nil=>
  intro ho _ _;refine⟨λi hi=>(by cases hi),λi q h=>(by cases h)⟩
 | @t s0 v as vs ts hv ih=>
  intro ho np nf
  cases s0 with
  |v d=>
   have Nq:(bE ρ as).map (Sm.v d::·)=some Ny:=hr
   cases e:bE ρ as with
   |none=>rw[e]at Nq;cases Nq
   |some N8=>
    rw[e]at Nq;cases Nq
    cases ho with
    |v ho=>
     have ih:=ih (n:=n+1) (λj x hx=>by rw[show n+1+j=n+(j+1)by omega];exact h2 (j+1) x hx) e ho np (by simpa using nf);exact⟨ih.1,λi q h=>by obtain⟨z1,z2,z3⟩:=ih.2 i q h;exact⟨z1,λb hb=>by simpa using z2 b hb,z3⟩⟩
  |ob a o=>
   have Nq:(bE ρ as).map (Sm.ob a o::·)=some Ny:=hr
   cases e:bE ρ as with
   |none=>rw[e]at Nq;cases Nq
   |some N8=>
    rw[e]at Nq;cases Nq
    cases ho with
    | @o _ _ o' p F _ _ os Fs h1 ho=>
     obtain⟨np1,TJ⟩:=Jy.mp np;obtain⟨nf1,TK,RF⟩:=Kq.mp (show (F++Fs.flatten).Nodup from nf);have ih:=ih (n:=n+1) (λj x hx=>by rw[show n+1+j=n+(j+1)by omega];exact h2 (j+1) x hx) e ho TJ TK
     have u:∀i,cL n (.t (.ob a o)::as) (o'::os) (F::Fs) i=if i=n then some (o',F) else cL (n+1) as os Fs i:=λi=>rfl
     refine⟨λi hi=>?_,λi q h=>?_⟩
     ·rw[u];split
      ·exact⟨_,rfl⟩
      ·next c=>exact ih.1 i ((Jb.mp hi).resolve_left c)
     ·rw[u]at h;split at h
      ·next c=>
       subst c;cases h;refine⟨⟨p,h2 0 _ rfl,h1⟩,λb hb=>Jv.mpr (.inl hb),λj r hj c b hb Nv=>?_⟩;rw[u,I0 (J7 c)]at hj;exact RF b hb b ((ih.2 j r hj).2.1 b Nv) rfl
      ·next c=>
       obtain⟨z1,z2,z3⟩:=ih.2 i q h;refine⟨z1,λb hb=>Jv.mpr (.inr (z2 b hb)),λj r hj c2 b hb Nv=>?_⟩;rw[u]at hj;split at hj
       ·next c3=>
        cases hj;exact RF b Nv b (z2 b hb) rfl
       ·exact z3 j r hj c2 b hb Nv
 | @s j0 v as vs ts hi hv ih=>
  intro ho np nf;unfold bE at hr;split at hr
  ·next a o ho0=>
   cases e:bE ρ as with
   |none=>rw[e]at hr;cases hr
   |some N8=>
    rw[e]at hr;cases hr
    cases ho with
    | @o _ _ o' p F _ _ os Fs h1 ho=>
     obtain⟨np1,TJ⟩:=Jy.mp np;obtain⟨nf1,TK,RF⟩:=Kq.mp (show (F++Fs.flatten).Nodup from nf);have ih:=ih h2 e ho TJ TK
     have u:∀i,cL n (.s j0::as) (o'::os) (F::Fs) i=if i=j0 then some (o',F) else cL n as os Fs i:=λi=>rfl
     refine⟨λi hi=>?_,λi q h=>?_⟩
     ·rw[u];split
      ·exact⟨_,rfl⟩
      ·next c=>exact ih.1 i ((Jb.mp hi).resolve_left c)
     ·rw[u]at h;split at h
      ·next c=>
       subst c;cases h;refine⟨⟨p,NL _ _ hi,h1⟩,λb hb=>Jv.mpr (.inl hb),λj r hj c b hb Nv=>?_⟩;rw[u,I0 (J7 c)]at hj;exact RF b hb b ((ih.2 j r hj).2.1 b Nv) rfl
      ·next c=>
       obtain⟨z1,z2,z3⟩:=ih.2 i q h;refine⟨z1,λb hb=>Jv.mpr (.inr (z2 b hb)),λj r hj c2 b hb Nv=>?_⟩;rw[u]at hj;split at hj
       ·next c3=>
        cases hj;exact RF b Nv b (z2 b hb) rfl
       ·exact z3 j r hj c2 b hb Nv
  ·cases hr
theorem y8{ρ:ar}{i j:Nat}{o:Om}{x:Option Sm}(h:(aJ ρ i o)[j]?=some x)(c:j≠i):ρ[j]?=some x:=by
 rw[kP]at h;split at h
 ·rwa [Js (J7 c)]at h
 ·exact h
theorem En{ρ:ar}{i:Nat}{o:Om}:(aJ ρ i o).length=ρ.length:=by
 rw[kP];split
 ·rw[Jg]
 ·rfl
theorem bW:∀{as:List Ar}{ρ:ar}{os:List Om},(az ρ as os).length=ρ.length
 | [],_,_=>rfl
 |.t (.v _)::as,ρ,os=>bW (as:=as)
 |.t (.ob _ _)::as,ρ,_::os=>bW (as:=as)
 |.t (.ob _ _)::as,ρ,[]=>bW (as:=as)
 |.s i::as,ρ,o::os=>by show (az (aJ ρ i o) as os).length=_;rw[bW,En]
 |.s _::as,ρ,[]=>bW (as:=as)
theorem gM:∀{as:List Ar}{ρ:ar}{os:List Om}{i:Nat}{x:Option Sm},i∉dQ as->(az ρ as os)[i]?=some x->ρ[i]?=some x
 | [],_,_,_,_,_,h=>h
 |.t (.v _)::as,ρ,os,i,x,hn,h=>gM (as:=as) (os:=os) hn h
 |.t (.ob _ _)::as,ρ,_::os,i,x,hn,h=>gM (as:=as) (os:=os) hn h
 |.t (.ob _ _)::as,ρ,[],i,x,hn,h=>gM (as:=as) (os:=[]) hn h
 |.s j::as,ρ,o::os,i,x,hn,h=>by have h':=gM (as:=as) (λz=>hn (IY _ z)) (show (az (aJ ρ j o) as os)[i]?=some x from h);exact y8 h' λe=>hn (by rw[e];exact IZ)
 |.s j::as,ρ,[],i,x,hn,h=>gM (as:=as) (os:=[]) (λz=>hn (IY _ z)) h
theorem vf{ρ:ar}{i j:Nat}{o:Om}(c:j≠i):(aJ ρ i o)[j]?=ρ[j]?:=by
 rw[kP];split
 ·rw[Js (J7 c)]
 ·rfl
theorem pX{ρ0:ar}:∀{as:List Ar}{ρ:ar}{Ny:List Sm}{vs:List V}{ts:St}{os:List Om}{Fs:List (List Addr)}{n i:Nat}{x:Sm},bE ρ0 as=some Ny->ArV σ as vs ts->OutM K Φ H Ny vs os Fs->i∈dQ as->i<n->(dQ as).Nodup->(az ρ as os)[i]?=some (some x)->(∀j∈dQ as,∃a o,ρ[j]?=some (some (.ob a o)))->
  ∃a o0 q,x=.ob a q.1/\cL n as os Fs i=some q/\ρ[i]?=some (some (.ob a o0)):=by
 intro as ρ Ny vs ts os Fs n i x hr hv
 induction hv generalizing ρ Ny os Fs n i x with
 |nil=>intro _ h;cases h
 | @t s0 v as vs ts hv ih=>
  intro ho h hi nd hp hs
  cases s0 with
  |v d=>
   have Nq:(bE ρ0 as).map (Sm.v d::·)=some Ny:=hr
   cases e:bE ρ0 as with
   |none=>rw[e]at Nq;cases Nq
   |some N8=>
    rw[e]at Nq;cases Nq
    cases ho with
    |v ho=>exact ih (n:=n+1) e ho h (by omega) nd hp hs
  |ob a1 o1=>
   have Nq:(bE ρ0 as).map (Sm.ob a1 o1::·)=some Ny:=hr
   cases e:bE ρ0 as with
   |none=>rw[e]at Nq;cases Nq
   |some N8=>
    rw[e]at Nq;cases Nq
    cases ho with
    | @o _ _ o' p F _ _ os Fs h1 ho=>
     obtain⟨a,o0,q,e1,e2,e3⟩:=ih (n:=n+1) (ρ:=ρ) e ho h (by omega) nd hp hs;refine⟨a,o0,q,e1,?_,e3⟩;show (if i=n then some (o',F) else cL (n+1) as os Fs i)=some q;rw[I0 (by omega)];exact e2
 | @s j v as vs ts _ hv ih=>
  intro ho h hi nd hp hs;unfold bE at hr;split at hr
  ·next a2 o2 ho0=>
   cases e:bE ρ0 as with
   |none=>rw[e]at hr;cases hr
   |some N8=>
    rw[e]at hr;cases hr
    cases ho with
    | @o _ _ o' p F _ _ os Fs h1 ho=>
     obtain⟨TL,Pt⟩:=Jy.mp nd;have RG:(az (aJ ρ j o') as os)[i]?=some (some x):=hp
     have u:cL n (.s j::as) (o'::os) (F::Fs) i=if i=j then some (o',F) else cL n as os Fs i:=rfl
     by_cases c:i=j
     ·subst c;obtain⟨a,o0,hj⟩:=hs i IZ;have:=gM TL RG;rw[kP]at this;rw[hj]at this;simp only at this;rw[Jt (aU hj)]at this;cases this;exact⟨a,o0,(o',F),rfl,by rw[u,Ja rfl],hj⟩
     ·have QX:=(Jb.mp h).resolve_left c
      obtain⟨a,o0,q,e1,e2,e3⟩:=ih (ρ:=aJ ρ j o') (n:=n) e ho QX hi Pt RG λk hk=>by
       rw[vf λz=>TL (by rw[←z];exact hk)];exact hs k (IY _ hk)
      exact⟨a,o0,q,e1,by rw[u,I0 c];exact e2,by rw[vf c]at e3;exact e3⟩
  ·cases hr
theorem oH:∀{as:List Ar}{Ny:List Sm},bE ρ as=some Ny->∀j∈dQ as,∃a o,ρ[j]?=some (some (.ob a o))
 | [],_,_,j,h=>by cases h
 |.t s::as,Ny,hr,j,h=>by
  have Nq:(bE ρ as).map (s::·)=some Ny:=hr
  cases e:bE ρ as with
  |none=>rw[e]at Nq;cases Nq
  |some N8=>exact oH e j h
 |.s i::as,Ny,hr,j,h=>by
  unfold bE at hr;split at hr
  ·next a o ho=>
   cases e:bE ρ as with
   |none=>rw[e]at hr;cases hr
   |some N8=>
    rcases Jb.mp h with rfl|h
    ·exact⟨a,o,ho⟩
    ·exact oH e j h
  ·cases hr
end
section
variable{K:Frag}{X:Cx}{e:Expr}{es:List Expr}{pos p:Pos}{tA:cn}
noncomputable def yr(sp:b9)(tA:cn):TX:=λρ R Rx=>tA ρ (λas ρ1=>∃Ny,bE ρ1 as=some Ny/\qe as=true/\sp Ny (λsm os=>R sm (az ρ1 as os)) (λxd os=>Rx xd (az ρ1 as os))) Rx
theorem StM.lend{Φ0 H0 Φ H:Hp}{σ τ ts:St}{ρ κ:ar}{Rx:XD->ar->Prop}{as:List Ar}{Ny:List Sm}{vs:List V}(S:StM K X Φ0 H0 Φ H σ (τ++ts) ρ (κ++cX as) Rx)(hl:κ.length=τ.length)(hr:bE ρ as=some Ny)(hv:ArV σ as vs ts)(hs:qe as=true) :
  ∃Fs,ArgM K Φ H Ny vs Fs/\Fs.flatten.Nodup/\(∀b∈Fs.flatten,Φ b=none)/\∀sm os Φ' H' v F NM,Gr Φ (cU H Fs.flatten) Φ' H'->ResM K Φ' H' sm v F->OutM K Φ' H' Ny vs os NM->(F++NM.flatten).Nodup->(∀b∈F++NM.flatten,cU H Fs.flatten b=none/\Φ' b=none)->
   StM K X Φ0 H0 Φ' H' σ (τ++[some v]) (az ρ as os) (κ++[some sm]) Rx:=by
 have nd:(dQ as).Nodup:=Ju hs;obtain⟨fp,E⟩:=S.E;have lS:=S.l
 have Nu:(cX as).length=ts.length:=by have:=S.lk;rw[IW,IW]at this;omega
 have a1:∀(i:Nat)(x:Sm),ρ[i]?=some (some x)->(ρ++(κ++cX as))[i]?=some (some x):=λi x h=>by rw[wy (aU h)];exact h
 have a2:∀(i:Nat)(v:V),σ[i]?=some (some v)->(σ++(τ++ts))[i]?=some (some v):=λi x h=>by rw[wy (aU h)];exact h
 have a3:∀(j:Nat) x,(cX as)[j]?=some x->(ρ++(κ++cX as))[ρ.length+κ.length+j]?=some x:=λj x h=>by rw[IU (by omega),IU (by omega),show ρ.length+κ.length+j-ρ.length-κ.length=j by omega];exact h
 have a4:∀(j:Nat) x,ts[j]?=some x->(σ++(τ++ts))[ρ.length+κ.length+j]?=some x:=λj x h=>by rw[IU (by omega),IU (by omega),show ρ.length+κ.length+j-σ.length-τ.length=j by omega];exact h
 have sl:=oH hr
 have slt:∀i∈dQ as,i<ρ.length:=λi hi=>let ⟨_,_,h⟩:=sl i hi;aU h
 have pn:(de (ρ.length+κ.length) as).Nodup:=nu nd λi hi=>by have:=slt i hi;omega
 have po:=ly (σx:=σ) a1 a3 hr;refine⟨dh fp (ρ.length+κ.length) as,GI E a1 a2 a3 a4 hr hv,oh E pn po,λb hb=>?_,λsm os Φ' H' v F NM g O2 Qe hnd N6=>?_⟩
 ·obtain⟨i,hi,OY⟩:=fpA_mem.mp hb;obtain⟨a,o,ho⟩:=po i hi;exact (E.no i a o ho b OY).2
 obtain⟨TL,Pt,nd3⟩:=Kq.mp hnd;obtain⟨n1,n2⟩:=AG (n:=ρ.length+κ.length) a2 a4 hr hv Qe pn Pt
 have B0:∀b∈(dh fp (ρ.length+κ.length) as).flatten,H0 b=none:=λb hb=>by obtain⟨i,hi,OY⟩:=fpA_mem.mp hb;obtain⟨a,o,ho⟩:=po i hi;exact (E.no i a o ho b OY).1
 have pl:∀{i:Nat},i<ρ.length+κ.length->i∉dQ as->cL (ρ.length+κ.length) as os NM i=none:=λ{i} hi hn=>by
  cases e:cL (ρ.length+κ.length) as os NM i with
  |none=>rfl
  |some q=>
   rcases jF (kz e)with z|z
   ·exact absurd z hn
   ·omega
 have E2:EnvM' K H0 Φ' H' (σ++(τ++ts)) (az ρ as os++(κ++List.replicate ts.length none)) (ij (cL (ρ.length+κ.length) as os NM) fp):=by
  have cs:∀{i:Nat}{x:Sm},(az ρ as os++(κ++List.replicate ts.length none))[i]?=some (some x)->(i<ρ.length/\(az ρ as os)[i]?=some (some x))\/(ρ.length<=i/\i<ρ.length+κ.length/\κ[i-ρ.length]?=some (some x)):=λ{i x} h=>by
   rcases JI i ρ.length with c|c
   ·rw[wy (by rw[bW];exact c)]at h;exact .inl ⟨c,h⟩
   ·rw[IU (by rw[bW];exact c),bW]at h;rcases JI (i-ρ.length) κ.length with c2|c2
    ·rw[wy c2]at h;exact .inr ⟨c,by omega,h⟩
    ·rw[IU c2,Kw]at h;split at h
     ·cases h
     ·cases h
  have kx:∀{i:Nat}{x:Sm},ρ.length<=i->i<ρ.length+κ.length->κ[i-ρ.length]?=some (some x)->(ρ++(κ++cX as))[i]?=some (some x):=λ{i x} c1 c2 h=>by rw[IU c1,wy (by omega)];exact h
  refine E.lend S.g.h (B:=(dh fp (ρ.length+κ.length) as).flatten) (new:=cL (ρ.length+κ.length) as os NM) (λb hb=>?_) (λi q hq b hb=>fpA_mem.mpr ⟨i,kz hq,hb⟩) g (by rw[IW,IW,IW,IW,JH,bW,Nu]) (λi d h=>?_) (λi a o h=>?_) (λi q hq=>(n2 i q hq).1) (λi q hq b hb=>N6 b (Jv.mpr (.inr ((n2 i q hq).2.1 b hb)))) λi j q r hq Nq c b hb=>(n2 i q hq).2.2 j r Nq c b hb
  ·obtain⟨i,hi,OY⟩:=fpA_mem.mp hb;obtain⟨a,o,ho⟩:=po i hi;obtain⟨q,hq⟩:=n1 i hi;exact⟨i,a,o,q,hq,ho,OY⟩
  ·rcases cs h with⟨c,h⟩|⟨c1,c2,h⟩
   ·rcases Lb (i∈dQ as)with z|z
    ·obtain⟨a,o0,q,e1,_⟩:=pX (n:=ρ.length+κ.length) hr hv Qe z (by omega) nd h sl;cases e1
    ·exact a1 _ _ (gM z h)
   ·exact kx c1 c2 h
  ·rcases cs h with⟨c,h⟩|⟨c1,c2,h⟩
   ·rcases Lb (i∈dQ as)with z|z
    ·obtain⟨a',o0,q,e1,e2,e3⟩:=pX (n:=ρ.length+κ.length) hr hv Qe z (by omega) nd h sl;cases e1;exact .inr ⟨o0,q.2,e2,a1 _ _ e3⟩
    ·exact .inl ⟨pl (by omega) z,a1 _ _ (gM z h)⟩
   ·exact .inl ⟨pl c2 λz=>by have:=slt i z;omega,kx c1 c2 h⟩
 have g0:=S.g.lend g B0
 have E3:=E2.snocG O2 (λb hb=>by
   obtain⟨z1,z2⟩:=N6 b (Jv.mpr (.inl hb));refine⟨?_,z2⟩;rcases Lb (b∈(dh fp (ρ.length+κ.length) as).flatten)with c|c
   ·exact B0 b c
   ·rw[gL c]at z1
    exact S.g.h.free z1) λb hb i a o hi OY=>by
  unfold ij at OY
  cases e:cL (ρ.length+κ.length) as os NM i with
  |some q=>
   rw[e]at OY;exact nd3 b hb b ((n2 i q e).2.1 b OY) rfl
  |none=>
   rw[e]at OY;obtain⟨p,_,_,r⟩:=E2.ow i a o hi;unfold ij at r;rw[e]at r;obtain⟨z1,z2⟩:=N6 b (Jv.mpr (.inl hb))
   have own:∃o',(ρ++(κ++cX as))[i]?=some (some (.ob a o')):=by
    rcases JI i ρ.length with c|c
    ·rw[wy (by rw[bW];exact c)]at hi;rcases Lb (i∈dQ as)with z|z
     ·obtain⟨a',o0,q,_,e2,_⟩:=pX (n:=ρ.length+κ.length) hr hv Qe z (by omega) nd hi sl;rw[e]at e2;cases e2
     ·exact⟨o,a1 _ _ (gM z hi)⟩
    ·rw[IU (by rw[bW];exact c),bW]at hi;rcases JI (i-ρ.length) κ.length with c2|c2
     ·rw[wy c2]at hi;exact⟨o,by rw[IU c,wy c2];exact hi⟩
     ·rw[IU c2,Kw]at hi;split at hi
      ·cases hi
      ·cases hi
   obtain⟨o',Pg⟩:=own;obtain⟨p',_,_,r'⟩:=E.ow i a o' Pg;obtain⟨u,hu,_⟩:=r'.at b OY
   have c:b∉(dh fp (ρ.length+κ.length) as).flatten:=λz=>by
    obtain⟨j,hj,hbj⟩:=fpA_mem.mp z;obtain⟨q,hq⟩:=n1 j hj
    have cj:i≠j:=λz=>by rw[z,hq]at e;cases e
    obtain⟨a2',o2,hj2⟩:=po j hj;exact E.dj i j a a2' o' o2 Pg hj2 cj b OY hbj
   rw[gL c,hu]at z1;cases z1
 refine⟨g0,by rw[bW];exact lS,?_,S.x⟩;refine E3.re (λi=>if i<ρ.length+κ.length then i else ρ.length+κ.length+ts.length) (by simp only[IW,Je,J8,bW];omega) (λi x hx=>?_) λi j a a' o o' hi hj e=>?_
 ·rcases JI i (ρ.length+κ.length)with c|c
  ·rw[Ja c];constructor
   ·rcases JI i ρ.length with c1|c1
    ·rw[wy (by rw[bW];exact c1)]at hx;rw[wy (by simp only[IW,bW];omega),wy (by rw[bW];exact c1)];exact hx
    ·rw[IU (by rw[bW];exact c1),bW,wy (by omega)]at hx;rw[wy (by simp only[IW,bW];omega),IU (by rw[bW];exact c1),bW,wy (by omega)];exact hx
   ·rcases JI i σ.length with c1|c1
    ·rw[wy c1,wy (by simp only[IW];omega),wy c1]
    ·rw[IU c1,wy (by omega),wy (by simp only[IW];omega),IU c1,wy (by omega)]
  ·have hi:i=ρ.length+κ.length:=by have:=aU hx;simp only[IW,Je,J8,bW]at this;omega
   subst hi;rw[I0 (by omega)];rw[IU (by rw[bW];omega),IU (by rw[bW];omega),bW,show ρ.length+κ.length-ρ.length-κ.length=0 by omega]at hx;cases hx;constructor
   ·rw[IU (by simp only[IW,JH,bW];omega)];simp only[IW,JH,bW];rw[show ρ.length+κ.length+ts.length-(ρ.length+(κ.length+ts.length))=0 by omega];rfl
   ·rw[IU (by omega),IU (by omega),IU (by simp only[IW];omega)];simp only[IW];rw[show ρ.length+κ.length-σ.length-τ.length=0 by omega,show ρ.length+κ.length+ts.length-(σ.length+(τ.length+ts.length))=0 by omega]
 ·have hi1:=aU hi;have Si:=aU hj;simp only[IW,Je,J8,bW]at hi1 Si;have e:(if i<ρ.length+κ.length then i else ρ.length+κ.length+ts.length)=(if j<ρ.length+κ.length then j else ρ.length+κ.length+ts.length):=e;split at e<;>split at e<;>omega
structure ClM(P:Program)(w:World)(K:Frag)(mg:Str->Option Value)(base:Heap)(n:Nat)(x:Str)(ps:List Str)(z:b9):Prop where
 ex:∃(f:Addr)(fd:FuncData),FnOk P w K mg base aT n f fd ps (cH K z)/\Binds K fd ps []/\keepIn K (.ref f)=true/\mg x=some (.ref f)
theorem bU{n:Nat}{x:Str}{ps:List Str}{z:b9}(C:ClM X.prog X.w K X.mg X.base n x ps z)(hr:Room n X.A)(hg:Gl X x)
  (ha:PXA K X (e::es) tA) (he:starEach (e::es) X.env=(false,eval e X.env)::starEach es X.env) (Ot:(backTo pos (starEach es X.env)).any (·.1)=false) (OA:(x==("__debug__":Str))=false:=by decide) :
  PX K X (.Call (.Name x p) (e::es) [] pos) (yr z tA):=⟨λhK=>by
 obtain⟨f,fd,F,b,k,m⟩:=C.ex;refine (vg (dvs:=[]) (ds:=[]) (E:=E0) (hK▸F:FnOk X.prog X.w X.K X.mg X.base aT n f fd ps (cH K z)) hr hg m (hK▸k) (hK▸b) .nil j5 (ha.pa hK) OA he Ot).imp λσ H Q Nb=>?_;obtain⟨Φ0,H0,Φ,τ,ρ,κ,R,Rx,S,t,k⟩:=Nb;refine⟨Φ0,H0,Φ,τ,ρ,κ,_,Rx,S,t,λas ρ1 Φ1 H1 vs ts r1 hl hv S1 f1=>?_⟩;obtain⟨Ny,O2,OF,r1⟩:=r1;obtain⟨Fs,g1,g2,g3,g4⟩:=S1.lend S.lk O2 hv OF;rw[JW]
 exact⟨Φ1,Ny,Fs,_,_,S1.g.s,S1.E.tb,g1,g2,g3,r1,λsm os Φ' H' v F NM r gr Nq ho hn N6=>k sm _ Φ' H' v r (g4 sm os Φ' H' v F NM gr Nq ho hn N6) (f1.trans gr.f)⟩⟩
end
structure EndsM where
 nx:ar->Prop
 rt:Sm->ar->Prop
 bk:ar->Prop:=λ_=>False
 ct:ar->Prop:=λ_=>False
 ex:XD->ar->Prop:=λ_ _=>False
noncomputable abbrev bG:=EndsM->ar->Prop
noncomputable def oR(K:Frag)(Φ0 H0:Hp)(P:ar->Prop)(Q:St->Hp->Prop):Prop:=∀ρ' Φ' H' σ',P ρ'->Gr Φ0 H0 Φ' H'->EnvM K H0 Φ' H' σ' ρ'->Q σ' H'
structure EndOkM(K:Frag)(X:Cx)(Φ0 H0:Hp)(De:EndsM)(E:Ends):Prop where
 nx:oR K Φ0 H0 De.nx E.nx
 rt:∀sm ρ' Φ' H' v σ',De.rt sm ρ'->Gr Φ0 H0 Φ' H'->EnvM K H0 Φ' H' (σ'++[some v]) (ρ'++[some sm])->E.rt v H'
 bk:oR K Φ0 H0 De.bk E.bk
 ct:oR K Φ0 H0 De.ct E.ct
 ex:XeOk K X Φ0 H0 De.ex
noncomputable def lM(K:Frag)(X:Cx)(t:bG):TS:=λE σ H=>∃Φ0 H0 Φ ρ De,Gr Φ0 H0 Φ H/\EnvM K H0 Φ H σ ρ/\t De ρ/\EndOkM K X Φ0 H0 De E
structure PSM(K:Frag)(X:Cx)(st:Stmt)(t:bG):Prop where ps:X.K=K->PS X st (lM K X t)
structure PSsM(K:Frag)(X:Cx)(st:List Stmt)(t:bG):Prop where ps:X.K=K->PSs X st (lM K X t)
section
variable{K:Frag}{X:Cx}{Φ0 H0 Φ H:Hp}{σ:St}{ρ:ar}{Rx:XD->ar->Prop}{v:V}{sm:Sm}
theorem dJ(g:Gr Φ0 H0 Φ H)(V:EnvM K H0 Φ H σ ρ)(x:XeOk K X Φ0 H0 Rx):StM K X Φ0 H0 Φ H σ [] ρ [] Rx:=⟨g,V.len.symm,by rw[JW,JW];exact V,x⟩
theorem StM.env1(S:StM K X Φ0 H0 Φ H σ ([]++[some v]) ρ ([]++[some sm]) Rx):EnvM K H0 Φ H (σ++[some v]) (ρ++[some sm]):=S.E
end
section
variable{K:Frag}{X:Cx}{st:Stmt}{rest:List Stmt}{t u:bG}{e a:Expr}{te:TX}{pos:Pos}{tt:fc}
noncomputable def Bm:bG:=λDe ρ=>De.nx ρ
noncomputable def um(t u:bG):bG:=λDe ρ=>t { De with nx:=u De } ρ
noncomputable def Ct(t u:bG):bG:=λDe ρ=>∃I:ar->Prop,t { De with nx:=I } ρ/\∀ρ',I ρ'->u De ρ'
theorem cN:PSsM K X [] Bm:=⟨λ_=>pss_nil.imp λE σ H Nb=>by obtain⟨Φ0,H0,Φ,ρ,De,g,V,t,k⟩:=Nb;exact k.nx ρ Φ H σ t g V⟩
theorem aW(h1:PSM K X st t)(h2:PSsM K X rest u):PSsM K X (st::rest) (um t u):=⟨λhK=>(lV (h1.ps hK) (h2.ps hK)).imp λE σ H Nb=>by obtain⟨Φ0,H0,Φ,ρ,De,g,V,t,k⟩:=Nb;exact
 ⟨Φ0,H0,Φ,ρ,_,g,V,t,⟨λρ' Φ' H' σ' t' g' V'=>⟨Φ0,H0,Φ',ρ',De,g',V',t',k⟩,k.rt,k.bk,k.ct,k.ex⟩⟩⟩
theorem dO(h1:PSM K X st t)(h2:PSsM K X rest u):PSsM K X (st::rest) (Ct t u):=⟨λhK=>(lV (h1.ps hK) (h2.ps hK)).imp λE σ H Nb=>by obtain⟨Φ0,H0,Φ,ρ,De,g,V,⟨I,t,c⟩,k⟩:=Nb;exact
 ⟨Φ0,H0,Φ,ρ,_,g,V,t,⟨λρ' Φ' H' σ' t' g' V'=>⟨Φ0,H0,Φ',ρ',De,g',V',c ρ' t',k⟩,k.rt,k.bk,k.ct,k.ex⟩⟩⟩
theorem bw(h1:PSM K X st t):PSsM K X [st] t:=⟨λhK=>uD (h1.ps hK)⟩
noncomputable def Fg:bG:=λ_ _=>False
theorem mZ:PSM K X st Fg:=⟨λ_=>ps_never.imp λE σ H Nb=>by obtain⟨Φ0,H0,Φ,ρ,De,g,V,t,k⟩:=Nb;exact t⟩
noncomputable def lr(i:Nat)(te:TX):bG:=λDe ρ=>te ρ (λs ρ1=>De.nx (ρ1.set i (some s))) De.ex
theorem DJ{i:Nat}{E:Ends}{σ:St}{H:Hp}(h:lM K X (lr i te) E σ H):iP (iF K X te) (gQ i) E σ H:=by obtain⟨Φ0,H0,Φ,ρ,De,g,V,t,k⟩:=h;exact⟨Φ0,H0,Φ,[],ρ,[],_,De.ex,dJ g V k.ex,t,λs ρ1 Φ1 H1 v r S1 _=>k.nx _ Φ1 H1 _ r S1.g (S1.env1.store i)⟩
theorem bI{i:Nat}{x:Str}{pos':Pos}(hN:X.N.Nodup)(hi:X.N[i]?=some x)(hx:di X.env.scope x)(he:PX K X e te)(hs:swapsWith e (some (.Name x pos')) pos.line X.env=pure false:=by rfl)(hf:X.fn x=true\/X.env.scope.names.lookup x=some .local:=by nofun) :
  PSM K X (.Assign [.Name x pos'] e pos) (lr i te):=⟨λhK=>(lJ hN hi hx (he.pe hK) hs hf).imp λ_ _ _=>DJ⟩
noncomputable def yW(te:TX):bG:=λDe ρ=>te ρ (λ_ ρ1=>De.nx ρ1) De.ex
theorem sx(he:PX K X e te)(hs:swapsWith e none pos.line X.env=pure false:=by rfl):PSM K X (.Expr e pos) (yW te):=
 ⟨λhK=>(jk (he.pe hK) hs).imp λE σ H Nb=>by
  obtain⟨Φ0,H0,Φ,ρ,De,g,V,t,k⟩:=Nb
  exact⟨Φ0,H0,Φ,[],ρ,[],_,De.ex,dJ g V k.ex,t,λs ρ1 Φ1 H1 v r S1 _=>k.nx _ Φ1 H1 σ r S1.g S1.env⟩⟩
noncomputable def yg(te:TX):bG:=λDe ρ=>te ρ De.rt De.ex
theorem dW(he:PX K X e te):PSM K X (.Return (some e) pos) (yg te):=
 ⟨λhK=>(tQ (he.pe hK)).imp λE σ H Nb=>by
  obtain⟨Φ0,H0,Φ,ρ,De,g,V,t,k⟩:=Nb
  exact⟨Φ0,H0,Φ,[],ρ,[],_,De.ex,dJ g V k.ex,t,λs ρ1 Φ1 H1 v r S1 _=>k.rt s ρ1 Φ1 H1 v σ r S1.g S1.env1⟩⟩
noncomputable def tL(i:Nat):TX:=λρ R _=>match ρ[i]? with|some (some (.ob none o))=>R (.ob none o) (ρ.set i none)|_=>False
theorem jh(i:Nat){x:Str}(hN:X.N[i]?=some x:=by rfl)(hv:cF X.env.scope x:=by nofun)(hd:(x==("__debug__":Str))=false:=by decide)
  (Np:(x==("__classdict__":Str))=false:=by decide):PX K X (.Name x pos) (tL i):=⟨λ_=>(pv i hN hv hd Np).imp λσ H Q Nb=>by
 obtain⟨Φ0,H0,Φ,τ,ρ,κ,R,Rx,S,t,k⟩:=Nb;unfold tL at t;split at t
 ·next o h=>
  have hi:=aU h;have hl:=S.l;obtain⟨fp,E⟩:=S.env;obtain⟨q,e,_⟩:=E.ow i none o h;refine⟨_,e,k _ _ Φ H _ t ⟨S.g,by rw[Jg];exact hl,?_,S.x⟩ (Same.refl _)⟩;have hk:=S.lk;refine S.E.re (λj=>if j=ρ.length+κ.length then i else j) (by simp only[IW,Jg,Je,J8];omega) (λj x hx=>?_) λj1 j2 a a' o1 o2 h1 h2 Sj=>?_
  ·have hj:=aU hx;simp only[IW,Jg,Je,J8]at hj;rcases JI j ρ.length with c|c
   ·rw[wy (by rw[Jg];exact c)]at hx;rw[I0 (by omega),wy c,wy (by omega),wy (by omega)];rcases cW hx with⟨_,_,z⟩|⟨_,z⟩
    ·cases z
    ·exact⟨z,rfl⟩
   ·rw[IU (by rw[Jg];exact c),Jg]at hx;rcases JI j (ρ.length+κ.length)with c2|c2
    ·rw[wy (by omega)]at hx;rw[I0 (by omega)];constructor
     ·rw[IU c];exact hx
     ·rw[IU (by omega),wy (by omega),IU (by omega)]
    ·have ej:j=ρ.length+κ.length:=by omega
     subst ej;rw[IU (by omega),show ρ.length+κ.length-ρ.length-κ.length=0 by omega]at hx;cases hx;rw[Ja rfl,wy hi,IU (by omega),IU (by omega),show ρ.length+κ.length-σ.length-τ.length=0 by omega,wy (by omega),e];exact⟨h,rfl⟩
  ·have no:∀{j:Nat}{a:Option Addr}{o:Om},(ρ.set i none++(κ++[some (Sm.ob none o)]))[j]?=some (some (.ob a o))->True:=λ_=>trivial
   have ni:∀{j:Nat}{x:Sm},(ρ.set i none++(κ++[some (Sm.ob none o)]))[j]?=some (some x)->j≠i:=λ{j x} hx ej=>by subst ej;rw[wy (by rw[Jg];exact hi),Jt hi]at hx;cases hx
   have n1:=ni h1;have n2:=ni h2;have Sj:(if j1=ρ.length+κ.length then i else j1)=(if j2=ρ.length+κ.length then i else j2):=Sj;split at Sj<;>split at Sj<;>omega
 ·exact t.elim⟩
noncomputable def Bc(c:fc)(t u:bG):bG:=λDe ρ=>c ρ (λb ρ1=>(b=true->t De ρ1)/\(b=false->u De ρ1)) De.ex
theorem cJ{c:Expr}{a b:List Stmt}(hc:PXB K X c tt)(ha:PSsM K X a t)(hb:PSsM K X b u):PSM K X (.If c a b pos) (Bc tt t u):=
 ⟨λhK=>(wQ (hc.pt hK) (ha.ps hK) (hb.ps hK)).imp λE σ H Nb=>by
  obtain⟨Φ0,H0,Φ,ρ,De,g,V,t,k⟩:=Nb;refine⟨Φ0,H0,Φ,[],ρ,[],_,De.ex,dJ g V k.ex,t,λc ρ1 Φ1 H1 r S1 _=>?_⟩
  cases c with
  |true=>refine oG ?_;exact⟨Φ0,H0,Φ1,ρ1,De,S1.g,S1.env,r.1 rfl,k⟩
  |false=>refine rF ?_;exact⟨Φ0,H0,Φ1,ρ1,De,S1.g,S1.env,r.2 rfl,k⟩⟩
noncomputable abbrev fG:=D->ar->(ar->Prop)->Prop
noncomputable abbrev iJ:=List D->ar->(ar->Prop)->Prop
noncomputable def C6(K:Frag)(g:fG):TG:=λv σ H Q=>∃H0 Φ ρ d R,EnvM K H0 Φ H σ ρ/\Rp K Φ d v/\g d ρ R/\∀ρ' σ',R ρ'->EnvM K H0 Φ H σ' ρ'->Q σ' H
noncomputable def sL(K:Frag)(g:iJ):dS:=λvs σ H Q=>∃H0 Φ ρ ds R,EnvM K H0 Φ H σ ρ/\RpL K Φ ds vs/\g ds ρ R/\∀ρ' σ',R ρ'->EnvM K H0 Φ H σ' ρ'->Q σ' H
structure PGM(K:Frag)(X:Cx)(e:Expr)(g:fG):Prop where pg:X.K=K->PG X e (C6 K g)
structure PGMs(K:Frag)(X:Cx)(es:List Expr)(g:iJ):Prop where pg:X.K=K->PGs X es (sL K g)
end
section
variable{K:Frag}{X:Cx}{e:Expr}{es:List Expr}{pos:Pos}{g:fG}{gs:iJ}
noncomputable def qQ(i:Nat):fG:=λd ρ R=>R (ρ.set i (some (.v d)))
theorem gE{i:Nat}{x:Str}(hN:X.N.Nodup)(hi:X.N[i]?=some x)(hx:di X.env.scope x)(hf:X.fn x=true\/X.env.scope.names.lookup x=some .local:=by nofun):PGM K X (.Name x pos) (qQ i):=
 ⟨λ_=>(iU hN hi hx hf).imp λv σ H Q Nb=>by obtain⟨H0,Φ,ρ,d,R,E,r,g,k⟩:=Nb;exact k _ _ g ((E.snocV r).store i)⟩
noncomputable def Gi:iJ:=λds ρ R=>match ds with| []=>R ρ|_=>False
noncomputable def GJ(t:fG)(u:iJ):iJ:=λds ρ R=>match ds with|d::r=>t d ρ λρ'=>u r ρ' R| []=>False
theorem As:PGMs K X [] Gi:=⟨λ_=>pgs_nil.imp λv σ H Q Nb=>by
 obtain⟨H0,Φ,ρ,ds,R,E,r,g,k⟩:=Nb
 cases ds with
 |nil=>exact⟨Ko.mp r.1,k _ _ g E⟩
 |cons=>exact g.elim⟩
theorem wC(h1:PGM K X e g)(h2:PGMs K X es gs)(hs:(assignEach (e::es) X.env).map (·.2)=assign e X.env::(assignEach es X.env).map (·.2):=by rfl):PGMs K X (e::es) (GJ g gs):=
 ⟨λhK=>(iK (h1.pg hK) (h2.pg hK) hs).imp λvs σ H Q Nb=>by
  obtain⟨H0,Φ,ρ,ds,R,E,r,g,k⟩:=Nb
  cases ds with
  |nil=>exact g.elim
  |cons d ds=>
   cases vs with
   |nil=>exact absurd r.1 (by simp)
   |cons v vs=>
    refine⟨v,vs,rfl,H0,Φ,ρ,d,_,E,r.2 0 v d rfl rfl,g,λρ' σ' g' E'=>⟨H0,Φ,ρ',ds,R,E',⟨by have:=r.1;simpa using this,λi u f hu hf=>r.2 (i+1) u f hu hf⟩,g',k⟩⟩⟩
noncomputable def FV(n:Nat)(t:iJ):fG:=λd ρ R=>match d with|.tup ds=>ds.length=n/\t ds ρ R|.lst ds=>ds.length=n/\t ds ρ R|_=>False
noncomputable def uB(K:Frag)(n:Nat)(t:dS):TG:=λv σ H Q=>rg K n t v σ H Q\/ox K n t v σ H Q
theorem yA{k n:Nat}{t:dS}(hK:X.K=K)(hc:X.calm=true)(h:PGs X es t)(hn:(assignEach es X.env).length=n)(N5:(assignEach es X.env).findIdx? (·.1)=none):PG X (.Tuple es k pos) (uB K n t):=λpins s σ H v u Q I r hw=>by
 rcases hw with hw|hw
 ·exact r6 hK hc h hn N5 pins s σ H v u Q I r hw
 ·exact uE hK hc h hn N5 pins s σ H v u Q I r hw
theorem Iv{k n:Nat}(hc:X.calm=true)(h:PGMs K X es gs)(hn:(assignEach es X.env).length=n:=by rfl)(N5:(assignEach es X.env).findIdx? (·.1)=none:=by rfl):PGM K X (.Tuple es k pos) (FV n gs):=
 ⟨λhK=>(yA hK hc (h.pg hK) hn N5:PG X (.Tuple es k pos) (uB K n (sL K gs))).imp λv σ H Q Nb=>by
  obtain⟨H0,Φ,ρ,d,R,E,r,g,k⟩:=Nb
  cases d with
  |tup ds=>cases r with|tup h1 h2 h3=>exact .inl ⟨_,_,rfl,.of (E.fz _ _ h1),by rw[h2];exact g.1,H0,Φ,ρ,ds,R,E,⟨h2,h3⟩,g.2,k⟩
  |lst ds=>cases r with|lst h1 h2 h3=>exact .inr ⟨_,_,rfl,.of (E.fz _ _ h1),by rw[h2];exact g.1,H0,Φ,ρ,ds,R,E,⟨h2,h3⟩,g.2,k⟩
  |_=>exact g.elim⟩
end
section
variable{K:Frag}{X:Cx}{t u:bG}{e a:Expr}{te:TX}{pos:Pos}
noncomputable def Ae(te:TX)(g:fG):bG:=λDe ρ=>te ρ (xV λd ρ1=>g d ρ1 De.nx) De.ex
theorem Ho{tg:Expr}{gd:fG}(he:PX K X e te)(hg:PGM K X tg gd)(hs:swapsWithSole [tg] e pos.line X.env=pure false:=by rfl)(hw:swappedStores [tg] e X.env=pure none:=by rfl)
  (h1:(assignEach [tg] X.env).map (·.2)=[assign tg X.env]:=by rfl):PSM K X (.Assign [tg] e pos) (Ae te gd):=
 ⟨λhK=>(kA (he.pe hK) (hg.pg hK) hs hw h1).imp λE σ H Nb=>by
  obtain⟨Φ0,H0,Φ,ρ,De,g,V,t,k⟩:=Nb;refine⟨Φ0,H0,Φ,[],ρ,[],_,De.ex,dJ g V k.ex,t,λs ρ1 Φ1 H1 v r S1 _=>?_⟩;obtain⟨d,rfl,r⟩:=r.get
  exact⟨H0,Φ1,ρ1,d,_,S1.env,S1.last,r,λρ' σ' r' V'=>k.nx ρ' Φ1 H1 σ' r' S1.g V'⟩⟩
noncomputable abbrev gW:=ar->(List D->ar->Prop)->(XD->ar->Prop)->Prop
noncomputable def xI(K:Frag)(X:Cx)(t:gW):TI:=λσ H R'=>∃Φ0 H0 Φ τ ρ κ R Rx,StM K X Φ0 H0 Φ H σ τ ρ κ Rx/\t ρ R Rx/\∀ds ρ' Φ' H' J,R ds ρ'->StM K X Φ0 H0 Φ' H' σ τ ρ' κ Rx->Same Φ Φ'->SteadyD K J Φ' ds->R' J H'
structure PIM(K:Frag)(X:Cx)(tg e:Expr)(t:gW):Prop where pi:X.K=K->PI X tg e (xI K X t)
noncomputable def iD(t:aM):gW:=λρ R _=>t (fv ρ) λds=>R ds ρ
theorem jQ{tg:Expr}{t:aM}(h:PID K X tg e t):PIM K X tg e (iD t):=⟨λhK=>(h.pi hK).imp λσ H R' Nb=>by
 obtain⟨Φ0,H0,Φ,τ,ρ,κ,R,Rx,S,t,k⟩:=Nb
 exact⟨H0,Φ,fv ρ,_,S.env.toD,t,λds Φ' H' J r g Sd=>k ds ρ Φ' H' J r (S.gr g) g.f Sd⟩⟩
noncomputable def Ed(t:cn):gW:=λρ R Rx=>t ρ (xaD λds ρ1=>match ds with| [.int j]=>(-(2^62)<=j/\j<2^62)/\R (i9 0 j.toNat) ρ1|_=>False) Rx
theorem HU{tg:Expr}{tA:cn}{p:Pos}(hg:Gl X "range")(hm:X.mg "range"=none)(ha:PXA K X [a] tA)(hs:starEach [a] X.env=[(false,eval a X.env)]:=by rfl):PIM K X tg (.Call (.Name "range" p) [a] [] pos) (Ed tA):=
 ⟨λhK=>(wG hg hm (ha.pa hK) hs).imp λσ H R' Nb=>by
  obtain⟨Φ0,H0,Φ,τ,ρ,κ,R,Rx,S,t,k⟩:=Nb;refine⟨Φ0,H0,Φ,τ,ρ,κ,_,Rx,S,t,λas ρ1 Φ1 H1 vs ts r1 hl hv S1 f1=>?_⟩;obtain⟨ds,hd,r1⟩:=r1.get;have rl:=S1.vals S.lk hd hv
  match ds,r1,rl with
  | [.int j],r,rl=>
   obtain⟨v,rfl,r1⟩:=rl.one_inv;cases r1
   exact⟨j,rfl,r.1.1,r.1.2,k _ ρ1 Φ1 H1 _ r.2 (S1.pop S.lk) f1 u1⟩⟩
theorem XeOk.join{Φ0 H0 H Φ3:Hp}{Rx:XD->ar->Prop}(x:XeOk K X Φ0 H0 Rx)(g:Gr Φ0 H0 Φ3 H):XeOk K X Φ3 H0 Rx:=λxd ρ' Φ' H' σ' e s' pins r g' V h=>x xd ρ' Φ' H' σ' e s' pins r (g.join g') V h
noncomputable def EN(ti:gW)(gd:fG)(tb:bG):bG:=λDe ρ=>ti ρ (λds ρ0=>∃I:Nat->ar->Prop,I 0 ρ0/\(∀i d ρ',ds[i]?=some d->I i ρ'->gd d ρ' λρ2=>tb { De with nx:=I (i+1),ct:=I (i+1),bk:=De.nx } ρ2)/\∀ρ',I ds.length ρ'->De.nx ρ') De.ex
theorem iV{tg iter:Expr}{body:List Stmt}{ti:gW}{gd:fG}{tb:bG}(hp:PassesOwn (model X.prog X.w) X.A X.env X.xe)(hc:X.calm=true)(hi:PIM K X tg iter ti)(hg:PGM K X tg gd)(hb:PSsM K X body tb)
  (hs:∀x,foldedSetIterable iter X.env x=pure x:=by intro _;rfl):PSM K X (.For tg iter body [] pos) (EN ti gd tb):=
 ⟨λhK=>(uQ hp hc (hi.pi hK) (hg.pg hK) (hb.ps hK) hs).imp λE σ H Nb=>by
  obtain⟨Φ0,H0,Φ,ρ,De,g,V,t,k⟩:=Nb;refine⟨Φ0,H0,Φ,[],ρ,[],_,De.ex,dJ g V k.ex,t,λds ρ0 Φ1 H1 J NN S1 _ Sd=>?_⟩;obtain⟨I,h0,N5,NW⟩:=NN;refine⟨λi m σ H'=>m=ds.length-i/\i<=ds.length/\∃Φ' ρ',Gr Φ0 H0 Φ' H'/\Same Φ1 Φ'/\EnvM K H0 Φ' H' σ ρ'/\I i ρ',⟨ds.length,by simp,KJ _,Φ1,ρ0,S1.g,Same.refl _,S1.env,h0⟩,?_⟩;rintro i m σ' H' ⟨rfl,hi,Φ',ρ',g',s',V',hI⟩;by_cases Nu:i<ds.length
  ·refine .inr ⟨Sd.go i H' (s'.trans V'.fz) Nu,λσ2 H2=>∃Φ' ρ',Gr Φ0 H0 Φ' H2/\Same Φ1 Φ'/\EnvM K H0 Φ' H2 σ2 ρ'/\I (i+1) ρ',λσ2 H2 h2=>⟨ds.length-(i+1),by omega,rfl,Nu,h2⟩,λx H2 y=>?_⟩;obtain⟨Φ3,g3,rx⟩:=Sd.yl i Φ' H' x H2 _ s' V'.fz (bf Nu) y;refine⟨H0,Φ3,ρ',_,_,V'.gr g3,rx,N5 i _ ρ' (bf Nu) hI,λρ2 σ3 t2 V3=>?_⟩;refine⟨Φ3,H0,Φ3,ρ2,_,?_,V3,t2,⟨?_,?_,?_,?_,k.ex.join (g'.trans g3)⟩⟩
   ·exact⟨Same.refl _,(g'.trans g3).h,g3.s,λp u hp hn _=>hn⟩
   ·intro ρ4 Φ4 H4 σ4 t4 g4 V4;exact⟨Φ4,ρ4,(g'.trans g3).join g4,(s'.trans g3.f).trans g4.f,V4,t4⟩
   ·intro sm ρ4 Φ4 H4 v σ4 r g4 V4;exact k.rt sm ρ4 Φ4 H4 v σ4 r ((g'.trans g3).join g4) V4
   ·intro ρ4 Φ4 H4 σ4 t4 g4 V4;exact k.nx ρ4 Φ4 H4 σ4 t4 ((g'.trans g3).join g4) V4
   ·intro ρ4 Φ4 H4 σ4 t4 g4 V4;exact⟨Φ4,ρ4,(g'.trans g3).join g4,(s'.trans g3.f).trans g4.f,V4,t4⟩
  ·have e:i=ds.length:=by omega
   subst e
   exact .inl ⟨Sd.stop H' (s'.trans V'.fz),k.nx ρ' Φ' H' σ' (NW ρ' hI) g' V'⟩⟩
end
noncomputable def aF:List Sm->List Addr->ar
 | [],_=>[]
 |.v d::as,ps=>some (.v d)::aF as ps
 |.ob _ o::as,p::ps=>some (.ob (some p) o)::aF as ps
 |.ob _ _::as,[]=>none::aF as []
noncomputable def fY(N:List Str)(as:List Sm)(ps:List Addr):ar:=aF as ps++List.replicate (N.length-as.length) none
noncomputable def aO:List Str->List Sm->List Addr->ar
 | [],as,ps=>aF as ps
 |_::N,[],ps=>none::aO N [] ps
 |_::N,.v d::as,ps=>some (.v d)::aO N as ps
 |_::N,.ob _ o::as,p::ps=>some (.ob (some p) o)::aO N as ps
 |_::N,.ob _ _::as,[]=>none::aO N as []
theorem j6:∀(N:List Str)(as:List Sm)(ps:List Addr),fY N as ps=aO N as ps
 | [],as,ps=>by unfold fY;rw[J8,Nat.zero_sub,List.replicate_zero,JW];rfl
 |n::N,[],ps=>by
  have:=j6 N [] ps;unfold fY at this ⊢;show List.replicate (N.length+1-0) none=none::aO N [] ps;rw[←this];rfl
 |n::N,.v d::as,ps=>by have:=j6 N as ps;unfold fY at this ⊢;rw[Je,Je,LU];exact Kl (some (Sm.v d)::·) this
 |n::N,.ob a o::as,p::ps=>by have:=j6 N as ps;unfold fY at this ⊢;rw[Je,Je,LU];exact Kl (some (Sm.ob (some p) o)::·) this
 |n::N,.ob _ _::as,[]=>by have:=j6 N as [];unfold fY at this ⊢;rw[Je,Je,LU];exact Kl (none::·) this
noncomputable def il(k:List Om->Prop):List Sm->List Addr->Nat->ar->Prop
 | [],_,_,_=>k []
 |.v _::as,ps,i,ρ=>il k as ps (i+1) ρ
 |.ob _ _::as,p::ps,i,ρ=>∃o,ρ[i]?=some (some (.ob (some p) o))/\il (λos=>k (o::os)) as ps (i+1) ρ
 |.ob _ _::_,[],_,_=>False
noncomputable def nY:List Sm->Nat
 | []=>0
 |.v _::as=>nY as
 |.ob _ _::as=>nY as+1
noncomputable def fq:List Sm->List V->List Addr
 |.v _::as,_::vs=>fq as vs
 |.ob _ _::as,.ref p::vs=>p::fq as vs
 |_,_=>[]
section
variable{K:Frag}{Φ H Φ' H' H0:Hp}
theorem FM:∀{as:List Sm}{vs:List V}{Fs:List (List Addr)},ArgM K Φ H as vs Fs->(fq as vs).length=nY as:=by
 intro as vs Fs h
 induction h with
 |nil=>rfl
 |v _ _ ih=>exact ih
 |o _ _ ih=>exact Kl (·+1) ih
theorem nO:∀{as:List Sm}{ps:List Addr},(aF as ps).length=as.length
 | [],_=>rfl
 |.v d::as,ps=>by show (aF as ps).length+1=_;rw[nO];rfl
 |.ob _ o::as,p::ps=>by show (aF as ps).length+1=_;rw[nO];rfl
 |.ob _ _::as,[]=>by show (aF as []).length+1=_;rw[nO];rfl
theorem kO:∀{as:List Sm}{vs:List V}{Fs:List (List Addr)},ArgM K Φ H as vs Fs->∀{i:Nat}{x:Sm},(aF as (fq as vs))[i]?=some (some x)->
  (∃d v,x=.v d/\vs[i]?=some v/\Rp K Φ d v)\/∃o p F,x=.ob (some p) o/\vs[i]?=some (.ref p)/\Fs[i]?=some F/\OmS K Φ H o p F:=by
 intro as vs Fs h
 induction h with
 |nil=>intro i x h;simp[aF]at h
 | @v d _ _ _ _ r t ih=>
  intro i x h
  cases i with
  |zero=>cases h;exact .inl ⟨d,_,rfl,rfl,r⟩
  |succ i=>exact ih (i:=i) h
 | @o _ o p F _ _ _ r t ih=>
  intro i x h
  cases i with
  |zero=>cases h;exact .inr ⟨o,p,F,rfl,rfl,rfl,r⟩
  |succ i=>exact ih (i:=i) h
theorem uO:∀{Fs:List (List Addr)},Fs.flatten.Nodup->∀{i j:Nat}{F G:List Addr},Fs[i]?=some F->Fs[j]?=some G->i≠j->∀b∈F,b∉G
 | [],_,i,j,F,G,h,_,_,_,_=>by simp at h
 |L::Fs,nd,i,j,F,G,hi,hj,c,b,hb=>by
  obtain⟨n1,n2,n3⟩:=Kq.mp (show (L++Fs.flatten).Nodup from nd);intro Nv
  cases i with
  |zero=>
   cases hi
   cases j with
   |zero=>exact c rfl
   |succ j=>exact n3 b hb b (MC.mpr ⟨G,Jn (i:=j) (by simpa using hj),Nv⟩) rfl
  |succ i=>
   cases j with
   |zero=>
    cases hj;exact n3 b Nv b (MC.mpr ⟨F,Jn (i:=i) (by simpa using hi),hb⟩) rfl
   |succ j=>exact uO n2 (by simpa using hi) (by simpa using hj) (λe=>c (by rw[e])) b hb Nv
theorem Hu{N:List Str}{as:List Sm}{vs:List V}{Fs:List (List Addr)}(sm:Same Φ H)(tb:TabF K Φ)(ha:ArgM K Φ H as vs Fs)(nd:Fs.flatten.Nodup)(hn:∀b∈Fs.flatten,Φ b=none):EnvM K (cU H Fs.flatten) Φ H (start N vs) (fY N as (fq as vs)):=by
 have cs:∀{i:Nat}{x:Sm},(fY N as (fq as vs))[i]?=some (some x)->(aF as (fq as vs))[i]?=some (some x):=λ{i x} h=>by
  unfold fY at h;rcases JI i (aF as (fq as vs)).length with c|c
  ·rwa [wy c]at h
  ·rw[IU c,Kw]at h;split at h<;>cases h
 have sv:∀{i:Nat}{v:V},vs[i]?=some v->(start N vs)[i]?=some (some v):=λ{i v} h=>by unfold start;rw[wy (by rw[mn];exact aU h),Jd,h];rfl
 obtain⟨l1,l2⟩:=ha.len;refine⟨λi=>Fs.getD i [],sm,by unfold start fY;rw[IW,IW,mn,JH,JH,nO,l1],λi d h=>?_,λi a o h=>?_,λi a o h b hb=>?_,λi j a a' o o' hi hj c b hb=>?_,tb⟩
 ·rcases kO ha (cs h)with⟨d',v,e,hv,r⟩|⟨o,p,F,e,_⟩
  ·cases e;exact⟨v,sv hv,r⟩
  ·cases e
 ·rcases kO ha (cs h)with⟨d',v,e,hv,r⟩|⟨o',p,F,e,hv,hF,r⟩
  ·cases e
  ·cases e;refine⟨p,sv hv,(λq e=>by cases e;rfl),?_⟩;rw[JD,hF];exact r
 ·rcases kO ha (cs h)with⟨d',v,e,_⟩|⟨o',p,F,e,hv,hF,r⟩
  ·cases e
  ·rw[JD,hF]at hb;have hm:b∈Fs.flatten:=MC.mpr ⟨F,Jn hF,hb⟩;exact⟨Ik hm,hn b hm⟩
 ·rcases kO ha (cs hi)with⟨d',v,e,_⟩|⟨o1,p1,F1,e,_,hF1,_⟩
  ·cases e
  ·rcases kO ha (cs hj)with⟨d',v,e,_⟩|⟨o2,p2,F2,e,_,hF2,_⟩
   ·cases e
   ·rw[JD,hF1]at hb;rw[JD,hF2];exact uO nd hF1 hF2 c b hb
theorem Ap{fp:Nat->List Addr}{σ:St}{ρ:ar}{k:List Om->Prop}(E:EnvM' K H0 Φ' H' σ ρ fp):∀{as:List Sm}{vs:List V}{Fs:List (List Addr)}{i:Nat}{k:List Om->Prop},ArgM K Φ H as vs Fs->il k as (fq as vs) i ρ->
  ∃os NM,OutM K Φ' H' as vs os NM/\k os/\NM.flatten.Nodup/\(∀b∈NM.flatten,H0 b=none/\Φ' b=none)/\∀b∈NM.flatten,∃j a o,i<=j/\j<i+as.length/\ρ[j]?=some (some (.ob a o))/\b∈fp j:=by
 intro as vs Fs i k h
 induction h generalizing i k with
 |nil=>exact λh=>⟨[],[],.nil,h,by simp,λb hb=>(by cases hb),λb hb=>(by cases hb)⟩
 |v r t ih=>
  intro h;obtain⟨os,NM,h1,h2,h3,h4,h5⟩:=ih (k:=k) (i:=i+1) h;refine⟨os,[]::NM,.v h1,h2,by simpa using h3,λb hb=>h4 b (by simpa using hb),λb hb=>?_⟩;obtain⟨j,a,o,j1,j2,j3⟩:=h5 b (by simpa using hb);exact⟨j,a,o,by omega,by rw[Je];omega,j3⟩
 | @o _ o0 p F as vs Fs r t ih=>
  intro h;obtain⟨o',ho,h⟩:=(show ∃o,ρ[i]?=some (some (.ob (some p) o))/\il (λos=>k (o::os)) as (fq as vs) (i+1) ρ from h);obtain⟨os,NM,h1,h2,h3,h4,h5⟩:=ih (k:=λos=>k (o'::os)) (i:=i+1) h;obtain⟨q,e,ha,rr⟩:=E.ow i _ o' ho;cases ha p rfl;refine⟨o'::os,fp i::NM,.o rr h1,h2,?_,λb hb=>?_,λb hb=>?_⟩
  ·refine Kq.mpr ⟨rr.nodup,h3,λb hb c hc e=>?_⟩;subst e;obtain⟨j,a,o,j1,j2,j3,j4⟩:=h5 b hc;exact E.dj i j _ a o' o ho j3 (by omega) b hb j4
  ·rcases Jv.mp (show b∈fp i++NM.flatten from hb)with z|z
   ·exact E.no i _ o' ho b z
   ·exact h4 b z
  ·rcases Jv.mp (show b∈fp i++NM.flatten from hb)with z|z
   ·exact⟨i,_,o',Jc _,by rw[Je];omega,ho,z⟩
   ·obtain⟨j,a,o,j1,j2,j3⟩:=h5 b z;exact⟨j,a,o,by omega,by rw[Je];omega,j3⟩
end
section
variable{P:Program}{w:World}{K:Frag}{mg:Str->Option Value}{base:Heap}
theorem Fun.okM{x qual:Str}{st:Stmt}{f:Addr}{fd:FuncData}{N ps:List Str}{k:Nat}{sp:b9}(F:Fun K x qual st f fd)(S:FnScope N ps (aE st))(len:∀as R Rx,sp as R Rx->as.length=ps.length)
  (N0:∀(Nk:Value)(A:Around)(outer:List Env)(s:Shared)(H:Hp)(E:XK)(as:List Sm)(R:Sm->List Om->Prop)(Rx:XD->List Om->Prop)(qs:List Addr),fd.code=Nk->Room k (A.deeper (envOfC qual (aE st) s.heap.objs.size f Nk))->sp as R Rx->qs.length=nY as->
   ∃t,PSsM K (gI aT P w K mg base N qual (aE st) f Nk A outer s H E).nox (eg st) t/\t { nx:=λρ=>il (R (.v .non)) as qs 0 ρ,rt:=λsm ρ=>il (R sm) as qs 0 ρ } (aO N as qs)):FnOk P w K mg base aT (k+1) f fd ps (cH K sp):=by
 refine F.okL S (λvs H Q E ⟨Φ,as,Fs,R,Rx,sm,tb,ha,nd,hn,h,_⟩=>by rw[ha.len.1];exact len as R Rx h) (λNk A outer s H vs Q E Np hr ⟨Φ,as,Fs,R,Rx,sm,tb,ha,nd,hn,h,kk⟩=>?_);obtain⟨t,ht,hq⟩:=N0 Nk A outer s H E as R Rx (fq as vs) Np hr h (FM ha);rw[←j6]at hq;have al:=len as R Rx h
 have nl:ps.length<=N.length:=by have:=Kl List.length S.pre;rw[JA]at this;omega
 have fin:∀sm ρ' Φ' H' v σ',il (R sm) as (fq as vs) 0 ρ'->Gr Φ (cU H Fs.flatten) Φ' H'->EnvM K (cU H Fs.flatten) Φ' H' (σ'++[some v]) (ρ'++[some sm])->Q v H':=λQY ρ' Φ' H' v σ' hk g V=>by
  obtain⟨fp,E'⟩:=V
  have hl:σ'.length=ρ'.length:=by have:=E'.len;simpa using this
  obtain⟨os,NM,h1,h2,h3,h4,h5⟩:=Ap (k:=R QY) (E'.take hl.symm) ha hk
  have NX:(ρ'++[some QY])[ρ'.length]?=some (some QY):=by rw[IU (Jc _),JG];rfl
  cases QY with
  |v d=>
   obtain⟨u,hu,r⟩:=E'.sl _ d NX;rw[←hl,IU (Jc _),JG]at hu;cases hu;exact kk (.v d) os Φ' H' v [] NM h2 g (.v r) h1 (by simpa using h3) (λb hb=>h4 b (by simpa using hb))
  |ob a o=>
   obtain⟨u,hu,hau,r⟩:=E'.ow _ a o NX;rw[←hl,IU (Jc _),JG]at hu;cases hu;refine kk (.ob a o) os Φ' H' _ (fp ρ'.length) NM h2 g (.o hau r) h1 ?_ λb hb=>?_
   ·refine Kq.mpr ⟨r.nodup,h3,λb hb c hc e=>?_⟩;subst e;obtain⟨j,a2,o2,_,_,j3,j4⟩:=h5 b hc;have hj:=aU j3;exact E'.dj _ j a a2 o o2 NX (by rw[wy hj];exact j3) (by omega) b hb j4
   ·rcases Jv.mp hb with z|z
    ·exact E'.no _ a o NX b z
    ·exact h4 b z
 have g0:Gr Φ (cU H Fs.flatten) Φ H:=⟨Same.refl _,BI,sm,λ_ _ _ h _=>h⟩;refine⟨lM K _ t,ht.ps rfl,Φ,cU H Fs.flatten,Φ,_,_,g0,Hu sm tb ha nd hn,hq,⟨λρ' Φ' H' σ' r g V=>?_,λQY ρ' Φ' H' v σ' r g V=>fin QY ρ' Φ' H' v σ' r g V,λ_ _ _ _ h=>h.elim,λ_ _ _ _ h=>h.elim,λ_ _ _ _ _ _ _ _ h=>h.elim⟩⟩;exact fin (.v .non) ρ' Φ' H' .non σ' r g (V.snocV .non)
theorem Fun.clM{x:Str}{st:Stmt}{f:Addr}{fd:FuncData}{ps:List Str}{n:Nat}{z:b9}(F:Fun K x x st f fd)(m:mg x=some (.ref f))(H:FnOk P w K mg base aT n f fd ps (cH K z))
  (b:∀(kV doc pm:Value)(an:Option Addr)(Nk ct:Value)(us:List Value),us.length=ps.length->bindArgs (fnOf x x (fi st) (eg st) (aE st) .none kV doc pm an Nk ct) ⟨us,[]⟩=pure (ps.zip us)):ClM P w K mg base n x ps z:=⟨f,fd,H,F.binds b,F.kp,m⟩
theorem ClM.mono{n m:Nat}{x:Str}{ps:List Str}{z:b9}(C:ClM P w K mg base n x ps z)(k:n<=m:=by decide):ClM P w K mg base m x ps z:=by obtain⟨f,fd,F,r⟩:=C.ex;exact⟨f,fd,F.mono k,r⟩
end
section
variable{K:Frag}{X:Cx}{e a b:Expr}{te tk:TX}{pos apos Ni Nh Nl:Pos}{x:Str}{i:Nat}
noncomputable def ownL(ρ:ar)(i:Nat)(k:Option Addr->List D->Prop):Prop:=match ρ[i]? with|some (some (.ob a (.lst ds)))=>k a ds|_=>False
theorem ownL.get{ρ:ar}{i:Nat}{k:Option Addr->List D->Prop}(h:ownL ρ i k):∃a ds,ρ[i]?=some (some (.ob a (.lst ds)))/\k a ds:=by
 unfold ownL at h;split at h
 ·next a ds e=>exact⟨a,ds,e,h⟩
 ·exact h.elim
theorem StM.list{Φ0 H0 Φ H:Hp}{σ τ:St}{ρ κ:ar}{Rx:XD->ar->Prop}{a:Option Addr}{ds:List D}(S:StM K X Φ0 H0 Φ H σ τ ρ κ Rx)(hi:ρ[i]?=some (some (.ob a (.lst ds)))):∃q vs,σ[i]?=some (some (.ref q))/\H q=some (.lst vs)/\RpL K Φ ds vs /\
  ∀(es:List D)(ws:List V),RpL K Φ es ws->StM K X Φ0 H0 Φ (ak H q (.lst ws)) σ τ (ρ.set i (some (.ob a (.lst es)))) κ Rx:=by
 have Nu:=aU hi;obtain⟨q,vs,e,h1,h2,h3,h4,h5⟩:=S.E.list (i:=i) (a:=a) (ds:=ds) S.g (by rw[wy Nu];exact hi);rw[wy (by rw[←S.l];exact Nu)]at e;refine⟨q,vs,e,h1,h4,λes ws r=>?_⟩;obtain⟨z1,z2⟩:=h5 es ws r;refine⟨z2,by rw[Jg];exact S.l,?_,S.x⟩;rw[KQ _ _ Nu]at z1;exact z1
noncomputable def GN(i:Nat)(te:TX):bG:=λDe ρ=>ownL ρ i λ_ _=>te ρ (xV λd ρ1=>ownL ρ1 i λa ds=>ds.length<sizeLine/\NF (ds++[d]) λes=>De.nx (ρ1.set i (some (.ob a (.lst es))))) De.ex
theorem eS(i:Nat)(he:PX K X e te)(NI:((backTo Ni (starEach [e] X.env)).all (λx=>!x.1)&&(backToKw Ni (keywordEach [] X.env)).all (λx=>x.1.isSome)&&decide (([e]:List Expr).length+([]:List Keyword).length+(if ([]:List Keyword).isEmpty then 0 else 1)<30))=true)
  (NV:starEach [e] X.env=(false,eval e X.env)::starEach [] X.env) (hN:X.N[i]?=some x:=by rfl) (hv:cF X.env.scope x:=by nofun) (hd:(x==("__debug__":Str))=false:=by decide) (Np:(x==("__classdict__":Str))=false:=by decide)
  (Nm:attributeBase (.Name x Nh) "append" X.env (eval (.Name x Nh) X.env)=eval (.Name x Nh) X.env:=by rfl) (Nn:(apos.endLine==Ni.line)=true:=by rfl) (hs:swapsWith (.Call (.Attribute (.Name x Nh) "append" apos) [e] [] Ni) none pos.line X.env=pure false:=by rfl) :
  PSM K X (.Expr (.Call (.Attribute (.Name x Nh) "append" apos) [e] [] Ni) pos) (GN i te):=
 ⟨λhK=>(jk (gv Kz Ls Lu mM (pv i hN hv hd Np) (dZ (he.pe hK) pa_nil NV) Nm NI Nn NV ag) hs).imp λE σ H Nb=>by
  obtain⟨Φ0,H0,Φ,ρ,De,g,V,t,k⟩:=Nb;obtain⟨a,ds,ho,t⟩:=ownL.get t;have S:=dJ g V k.ex;obtain⟨q,vs,e1,hp,rl,_⟩:=S.list ho;refine⟨_,e1,.inl ⟨rfl,vs,SqL.of hp⟩,Φ0,H0,Φ,[],ρ,[],_,De.ex,S,t,λs ρ1 Φ1 H1 v r S1 _=>?_⟩;obtain⟨d,rfl,r⟩:=r.get;obtain⟨a1,Sk,Pu,hl,r⟩:=ownL.get r;obtain⟨q1,QH,e2,NZ,Qf,k1⟩:=S1.list Pu;rw[e1]at e2;cases e2;have S2:=k1 _ _ (Qf.append (.one S1.last))
  exact⟨q,QH,v,rfl,rfl,NZ,by rw[Qf.1];exact hl,k.nx _ Φ1 _ σ r.get S2.g S2.env⟩⟩
noncomputable def FT(i:Nat)(te tk:TX):bG:=λDe ρ=>te ρ (xV λd ρ1=>ownL ρ1 i λ_ _=>tk ρ1 (xV λkk ρ2=>match kk with|.int n=>ownL ρ2 i λa ds=>∃j,eA ds.length n=some j/\NF (ds.set j d) λes=>De.nx (ρ2.set i (some (.ob a (.lst es))))|_=>False) De.ex) De.ex
theorem wB(i:Nat)(he:PX K X e te)(hk:PX K X b tk)(hN:X.N[i]?=some x:=by rfl)(hv:cF X.env.scope x:=by nofun)(hd:(x==("__debug__":Str))=false:=by decide)(Np:(x==("__classdict__":Str))=false:=by decide)
  (ha:∀v,assign (.Subscript (.Name x Nh) b Nl) X.env v=(do
   let ov ←holding [v] (eval (.Name x Nh) X.env)
   let iv ←holding [v,ov] (eval b X.env)
   standAt Nl
   holding [v,ov,iv] (setItem ov iv v)
   release [v,ov,iv] []):=by intro _;rfl)
  (hs:swapsWithSole [.Subscript (.Name x Nh) b Nl] e pos.line X.env=pure false:=by rfl) (hw:swappedStores [.Subscript (.Name x Nh) b Nl] e X.env=pure none:=by rfl)
  (h1:(assignEach [.Subscript (.Name x Nh) b Nl] X.env).map (·.2)=[assign (.Subscript (.Name x Nh) b Nl) X.env]:=by rfl) :
  PSM K X (.Assign [.Subscript (.Name x Nh) b Nl] e pos) (FT i te tk):=
 ⟨λhK=>(kA (he.pe hK) (tq (pv i hN hv hd Np) (hk.pe hK) oa ha) hs hw h1).imp λE σ H Nb=>by
  obtain⟨Φ0,H0,Φ,ρ,De,g,V,t,k⟩:=Nb;refine⟨Φ0,H0,Φ,[],ρ,[],_,De.ex,dJ g V k.ex,t,λs ρ1 Φ1 H1 v r S1 _=>?_⟩;obtain⟨d,rfl,r⟩:=r.get;obtain⟨a1,Sk,Pu,r⟩:=ownL.get r;obtain⟨q,vs,e1,_⟩:=S1.list Pu;refine⟨_,e1,Φ0,H0,Φ1,_,ρ1,_,_,De.ex,S1,r,λs2 ρ2 Φ2 H2 w r2 S2 _=>?_⟩;obtain⟨kk,rfl,r2⟩:=r2.get;obtain⟨rd,rk⟩:=S2.last2
  cases kk with
  |int n=>
   cases rk;obtain⟨a2,Qg,OS,j,hj,r2⟩:=ownL.get r2;obtain⟨q2,QI,e2,Oz,Pj,k2⟩:=S2.list OS;rw[e1]at e2;cases e2;have S3:=k2 _ _ (Pj.set rd j);exact⟨q,QI,n,j,rfl,rfl,Oz,by rw[Pj.1];exact hj,k.nx _ Φ2 _ σ r2.get S3.g S3.env⟩
  |_=>exact r2.elim⟩
noncomputable def EZ(i:Nat)(f:Int->Int->Int)(tk te:TX):bG:=λDe ρ=>(ownL ρ i λ_ _=>True)/\tk ρ (xV λkk ρ1=>match kk with|.int n=>ownL ρ1 i λa ds=>∃(j:Nat)(v:Int),n=(j:Int)/\ds[j]?=some (.int v)/\te ρ1 (xV λd ρ2=>match d with|.int m=>ownL ρ2 i λa2 Qg=>j<Qg.length/\NF (Qg.set j (.int (f v m))) λes=>De.nx (ρ2.set i (some (.ob a2 (.lst es))))|_=>False) De.ex|_=>False) De.ex
theorem Ej{op:Operator}{f:Int->Int->Int}(i:Nat)(hop:pZ X op (ve f))(hk:PX K X b tk)(he:PX K X e te)(hN:X.N[i]?=some x:=by rfl)(hv:cF X.env.scope x:=by nofun)(hd:(x==("__debug__":Str))=false:=by decide)(Np:(x==("__classdict__":Str))=false:=by decide)
  (ha:∀ov iv new,augStore b ov iv new=(do holding [new,ov,iv] (setItem ov iv new);release [new,ov,iv] [];pure .next):=by intros;rfl) :
  PSM K X (.AugAssign (.Subscript (.Name x Nh) b Nl) op e pos) (EZ i f tk te):=
 ⟨λhK=>(sM (pv i hN hv hd Np) (hk.pe hK) (vD hK) (he.pe hK) hop oa ha).imp λE σ H Nb=>by
  obtain⟨Φ0,H0,Φ,ρ,De,g,V,⟨ho,t⟩,k⟩:=Nb;obtain⟨a,ds,ho,_⟩:=ownL.get ho;have S:=dJ g V k.ex;obtain⟨q,vs,e1,hp,rl,_⟩:=S.list ho;refine⟨_,e1,Φ0,H0,Φ,[],ρ,[],_,De.ex,S,t,λs1 ρ1 Φ1 H1 w r1 S1 _=>?_⟩;obtain⟨kk,rfl,r1⟩:=r1.get;have rk:=S1.last
  cases kk with
  |int n=>
   cases rk;obtain⟨a1,Sk,Pu,j,v,rfl,hj,r1⟩:=ownL.get r1;obtain⟨q1,QH,e2,NZ,Qf,_⟩:=S1.list Pu;rw[e1]at e2;cases e2;obtain⟨u,hu,ru⟩:=Qf.at hj;cases ru;refine⟨q,QH,_,j,_,rfl,rfl,.of NZ,rfl,hu,Φ0,H0,Φ1,_,ρ1,_,_,De.ex,S1,r1,λs2 ρ2 Φ2 H2 z r2 S2 _=>?_⟩;obtain⟨d,rfl,r2⟩:=r2.get;have rd:=S2.last
   cases d with
   |int m=>
    cases rd;obtain⟨a2,Qg,OS,Sn,r2⟩:=ownL.get r2;obtain⟨q2,QI,e3,Oz,Pj,k2⟩:=S2.list OS;rw[e1]at e3;cases e3;have S3:=k2 _ _ (Pj.set (.int (f v m)) j);exact⟨v,m,rfl,rfl,q,QI,_,j,rfl,rfl,Oz,uw (by rw[Pj.1];exact Sn),k.nx _ Φ2 _ σ r2.get S3.g S3.env⟩
   |_=>exact r2.elim
  |_=>exact r1.elim⟩
noncomputable def GD(i:Nat)(te:TX):bG:=λDe ρ=>ownL ρ i λ_ _=>te ρ (λs ρ1=>match s with|.ob _ (.lst zs)=>ownL ρ1 i λa ds=>ds.length+zs.length<=sizeLine/\NF (ds++zs) λes=>De.nx (ρ1.set i (some (.ob a (.lst es))))|.v (.lst zs)=>ownL ρ1 i λa ds=>ds.length+zs.length<=sizeLine/\NF (ds++zs) λes=>De.nx (ρ1.set i (some (.ob a (.lst es))))|_=>False) De.ex
theorem G6(i:Nat)(he:PX K X e te)(NI:((backTo Ni (starEach [e] X.env)).all (λx=>!x.1)&&(backToKw Ni (keywordEach [] X.env)).all (λx=>x.1.isSome)&&decide (([e]:List Expr).length+([]:List Keyword).length+(if ([]:List Keyword).isEmpty then 0 else 1)<30))=true)
  (NV:starEach [e] X.env=(false,eval e X.env)::starEach [] X.env) (hN:X.N[i]?=some x:=by rfl) (hv:cF X.env.scope x:=by nofun) (hd:(x==("__debug__":Str))=false:=by decide) (Np:(x==("__classdict__":Str))=false:=by decide)
  (Nm:attributeBase (.Name x Nh) "extend" X.env (eval (.Name x Nh) X.env)=eval (.Name x Nh) X.env:=by rfl) (Nn:(apos.endLine==Ni.line)=true:=by rfl) (hs:swapsWith (.Call (.Attribute (.Name x Nh) "extend" apos) [e] [] Ni) none pos.line X.env=pure false:=by rfl) :
  PSM K X (.Expr (.Call (.Attribute (.Name x Nh) "extend" apos) [e] [] Ni) pos) (GD i te):=
 ⟨λhK=>(jk (gv Kz PySem.F.slot_list_extend PySem.F.type_list_extend xS (pv i hN hv hd Np) (dZ (he.pe hK) pa_nil NV) Nm NI Nn NV ag) hs).imp λE σ H Nb=>by
  obtain⟨Φ0,H0,Φ,ρ,De,g,V,t,k⟩:=Nb;obtain⟨a,ds,ho,t⟩:=ownL.get t;have S:=dJ g V k.ex;obtain⟨q,vs,e1,hp,rl,_⟩:=S.list ho;refine⟨_,e1,.inl ⟨rfl,vs,SqL.of hp⟩,Φ0,H0,Φ,[],ρ,[],_,De.ex,S,t,λs ρ1 Φ1 H1 v r S1 _=>?_⟩
  have fin:∀{zs:List D}{ws:List L2.V}{p:Addr},v=.ref p->H1 p=some (.lst ws)->RpL K Φ1 zs ws->(ownL ρ1 i λa ds=>ds.length+zs.length<=sizeLine/\NF (ds++zs) λes=>De.nx (ρ1.set i (some (.ob a (.lst es)))))->tR (.ref q) [v] H1 λx H'=>E.nx σ H':=λ{zs ws p} ev hpz rz r=>by
   obtain⟨a1,Sk,Pu,hl,r⟩:=ownL.get r;obtain⟨q1,QH,e2,NZ,Qf,k1⟩:=S1.list Pu;rw[e1]at e2;cases e2;have S2:=k1 _ _ (Qf.append rz);exact⟨q,p,QH,ws,rfl,by rw[ev],NZ,hpz,by rw[Qf.1,rz.1];exact hl,k.nx _ Φ1 _ σ r.get S2.g S2.env⟩
  cases s with
  |v d=>
   have rd:=S1.last
   cases d with
   |lst zs=>cases rd with|lst h1 h2 h3=>exact fin rfl (S1.g.s _ _ h1) ⟨h2,h3⟩ r
   |_=>exact r.elim
  |ob a0 o=>
   cases o with
   |lst zs=>
    obtain⟨fp,E1⟩:=S1.E;obtain⟨p,RG,_,rr⟩:=E1.ow ρ1.length a0 (.lst zs) (by rw[IU (Jc _),JG];rfl);rw[S1.l,IU (Jc _),JG]at RG;cases RG;obtain⟨_,ws,h1,h2⟩:=rr.lst_inv;exact fin rfl h1 h2 r
   |_=>exact r.elim⟩
noncomputable def aQ:Option Sm->Option Sm
 |some (.ob none (.lst ds))=>some (.v (.lst ds))
 |some (.ob none (.map Ng))=>some (.v (.map Ng))
 |x=>x
noncomputable def aK:Nat->ar->ar
 |_,[]=>[]
 |0,x::ρ=>aQ x::ρ
 |i+1,x::ρ=>x::aK i ρ
theorem uF:∀(i:Nat)(ρ:ar),aK i ρ=(match ρ[i]? with
  |some (some (.ob none (.lst ds)))=>ρ.set i (some (.v (.lst ds)))
  |some (some (.ob none (.map Ng)))=>ρ.set i (some (.v (.map Ng)))
  |_=>ρ)
 |0,[]=>rfl
 |_+1,[]=>rfl
 |0,some (.ob none (.lst _))::_=>rfl
 |0,some (.ob none (.map _))::_=>rfl
 |0,some (.ob none (.mpT _))::_=>rfl
 |0,some (.ob none (.obj _ _))::_=>rfl
 |0,some (.ob none .ptr)::_=>rfl
 |0,some (.ob none (.tl _))::_=>rfl
 |0,some (.ob none (.pr _ _))::_=>rfl
 |0,some (.ob (some _) _)::_=>rfl
 |0,some (.v _)::_=>rfl
 |0,none::_=>rfl
 |i+1,x::ρ=>by
  show x::aK i ρ=_;rw[uF i ρ,MH]
  match ρ[i]? with
  |some (some (.ob none (.lst _)))=>rfl
  |some (some (.ob none (.map _)))=>rfl
  |some (some (.ob none (.mpT _)))=>rfl
  |some (some (.ob none (.obj _ _)))=>rfl
  |some (some (.ob none .ptr))=>rfl
  |some (some (.ob none (.tl _)))=>rfl
  |some (some (.ob none (.pr _ _)))=>rfl
  |some (some (.ob (some _) _))=>rfl
  |some (some (.v _))=>rfl
  |some none=>rfl
  |none=>rfl
theorem Rp.map_of{Φ:Hp}{Ng:List (ax×D)}{ws:List (ax×V)}{p:Addr}(h:Φ p=some (.dK ws))(r:Paired (jg K Φ) Ng ws):Rp K Φ (.map Ng) (.ref p):=by
 refine .map h ?_ ?_
 ·clear h
  induction r with
  |nil=>rfl
  |cons q _ ih=>rw[Jq,Jq,ih,q.1]
 ·clear h
  induction r with
  |nil=>intro i w d hw;simp at hw
  |cons q _ ih=>
   intro i w d hw hd
   cases i with
   |zero=>cases hw;cases hd;exact q.2
   |succ i=>exact ih i w d hw hd
theorem EnvM.frz1f{Φ0 H0 Φ H:Hp}{σ:St}{ρ:ar}{o:Om}{d0:D}(E:EnvM K H0 Φ H σ ρ)(g:Gr Φ0 H0 Φ H){i:Nat}(ho:ρ[i]?=some (some (.ob none o)))
  (hr:∀p F,OmS K Φ H o p F->∃u,H p=some u/\∀Φ',Same Φ Φ'->Φ' p=some u->Rp K Φ' d0 (.ref p)) (hs:o.solid=true:=by rfl):∃Φ',Gr Φ0 H0 Φ' H/\EnvM K H0 Φ' H σ (ρ.set i (some (.v d0)))/\Same Φ Φ':=by
 obtain⟨fp,E⟩:=E;obtain⟨p,e,_,r⟩:=E.ow i none _ ho;have hp:=r.mem hs;have no:=E.no i none _ ho p hp;obtain⟨u,h1,h2⟩:=hr p _ r;have s1:=cG no.2 u
 have cs:∀{j:Nat}{x:Sm},(ρ.set i (some (Sm.v d0)))[j]?=some (some x)->(j=i/\x=.v d0)\/(j≠i/\ρ[j]?=some (some x)):=λ{j x} h=>by
  rcases cW h with⟨e,_,e1⟩|⟨e,h⟩
  ·cases e1;exact .inl ⟨e,rfl⟩
  ·exact .inr ⟨e,h⟩
 refine⟨ak Φ p u,g.freeze no.1 no.2 h1,⟨fp,λb u' eb=>?_,by rw[Jg,E.len],λj d h=>?_,λj a o h=>?_,λj a o h b hb=>?_,λj k a a' o o' hj hk c=>?_,E.tb.same s1⟩,s1⟩
 ·by_cases c:b=p
  ·subst c;rw[bq]at eb;cases eb;exact h1
  ·rw[ba c]at eb;exact E.fz b u' eb
 ·rcases cs h with⟨c,h⟩|⟨_,h⟩
  ·cases h;subst c;exact⟨_,e,h2 _ s1 bq⟩
  ·obtain⟨v,hv,rv⟩:=E.sl j d h;exact⟨v,hv,rv.same s1⟩
 ·rcases cs h with⟨_,h⟩|⟨_,h⟩
  ·cases h
  ·obtain⟨q,hq,ha,rq⟩:=E.ow j a o h;exact⟨q,hq,ha,rq.keep s1 λ_ _ _ h=>h⟩
 ·rcases cs h with⟨_,h⟩|⟨c,h⟩
  ·cases h
  ·have:b≠p:=λz=>E.dj j i a none o _ h ho c b hb (by rw[z];exact hp);rw[ba this];exact E.no j a o h b hb
 ·rcases cs hj with⟨_,hj⟩|⟨_,hj⟩
  ·cases hj
  rcases cs hk with⟨_,hk⟩|⟨_,hk⟩
  ·cases hk
  exact E.dj j k a a' o o' hj hk c
theorem EnvM.frz1{Φ0 H0 Φ H:Hp}{σ:St}{ρ:ar}{o:Om}{d0:D}(E:EnvM K H0 Φ H σ ρ)(g:Gr Φ0 H0 Φ H){i:Nat}(ho:ρ[i]?=some (some (.ob none o)))
  (hr:∀p F,OmS K Φ H o p F->∃u,H p=some u/\∀Φ',Same Φ Φ'->Φ' p=some u->Rp K Φ' d0 (.ref p)) (hs:o.solid=true:=by rfl):∃Φ',Gr Φ0 H0 Φ' H/\EnvM K H0 Φ' H σ (ρ.set i (some (.v d0))):=
 let ⟨Φ',g',E',_⟩:=E.frz1f g ho hr hs
 ⟨Φ',g',E'⟩
theorem EnvM.frz{Φ0 H0 Φ H:Hp}{σ:St}{ρ:ar}(E:EnvM K H0 Φ H σ ρ)(g:Gr Φ0 H0 Φ H)(i:Nat):∃Φ',Gr Φ0 H0 Φ' H/\EnvM K H0 Φ' H σ (aK i ρ):=by
 rw[uF];split
 ·next ds ho=>
  refine E.frz1 g ho λp F r=>?_;obtain⟨_,vs,h1,h2⟩:=r.lst_inv;exact⟨_,h1,λΦ' s h=>(h2.same s).lst h⟩
 ·next Ng ho=>
  refine E.frz1 g ho λp F r=>?_;obtain⟨_,ws,h1,h2⟩:=r.map_inv;exact⟨_,h1,λΦ' s h=>Rp.map_of h (nz (λ_ _ r=>⟨r.1,r.2.same s⟩) h2)⟩
 ·exact⟨Φ,g,E⟩
noncomputable def mR(i:Nat)(t:bG):bG:=λDe ρ=>t De (aK i ρ)
theorem ft{rest:List Stmt}{t:bG}(i:Nat)(h:PSsM K X rest t):PSsM K X rest (mR i t):=⟨λhK=>(h.ps hK).imp λE σ H Nb=>by
 obtain⟨Φ0,H0,Φ,ρ,De,g,V,t,k⟩:=Nb;obtain⟨Φ',g',V'⟩:=V.frz g i
 exact⟨Φ0,H0,Φ',aK i ρ,De,g',V',t,k⟩⟩
end
section
variable{K:Frag}{X:Cx}{tg iter elt:Expr}{scope:Scope}{pos py Nl:Pos}{N':List Str}{cap:List (Option Nat)}{ti:aM}{g:cK}{tc:bR}{te:TD}{i:Nat}{y:Str}
theorem CT{tf:aM}{E:Ends}{σ:St}{H:Hp}(lift:∀{σ:St}{H:Hp}{Q:VK},lF K tf σ H Q->gK (lI K ti) cap (lG K g) (lT K tc) (lE K te) σ H Q)(h:lM K X (lr i (xF tf)) E σ H):iP (gK (lI K ti) cap (lG K g) (lT K tc) (lE K te)) (gQ i) E σ H:=by obtain⟨Φ0,H0,Φ,ρ,De,gg,V,t,kk⟩:=h;exact lift ⟨H0,Φ,fv ρ,_,V.toD,t,λds Φ' H' p vs r g1 h0 hn hp rr=>kk.nx _ _ H' _ r (gg.trans g1) ((V.snocO gg.h g1 (.lst hp rr) λb hb=>by rw[Ji.mp hb];exact⟨h0,hn⟩).store i)⟩
theorem Ef{k:Nat}(ND:X.calm=true)(hN:X.N.Nodup)(hy:X.N[i]?=some y)(hx:di X.env.scope y)(S:CompScope X.N X.env.scope scope N' cap)(NT:fL k cap=true)(hk:GM k g)(hi:PID K X tg iter ti)
  (hg:∀(cl:List (Str×Addr))(fp:List Addr)(C:Addr)(s0:Shared)(H0:Hp),PGD K (cb X scope N' cl C s0 H0 fp) tg g)
  (he:∀(cl:List (Str×Addr))(fp:List Addr)(C:Addr)(s0:Shared)(H0:Hp),PD K (cb X scope N' cl C s0 H0 fp) elt te) (Qy:swapsWith (.ListComp elt [⟨tg,iter,[],0⟩] scope pos) (some (.Name y py)) Nl.line X.env=pure true:=by rfl)
  (hs:∀x,foldedSetIterable iter X.env x=pure x:=by intro _;rfl) (hf:X.fn y=true\/X.env.scope.names.lookup y=some .local:=by nofun) :
  PSM K X (.Assign [.Name y py] (.ListComp elt [⟨tg,iter,[],0⟩] scope pos) Nl) (lr i (xF (mh ti cap g te))):=
 ⟨λhK=>(oC ND hN hy hx S (hi.pi hK) (λcl fp C s0 H0=>(hg cl fp C s0 H0).pg hK) (λcl fp C s0 H0=>(p7 (K:=K)).p hK) (λcl fp C s0 H0=>(he cl fp C s0 H0).pe hK) Qy hs hf).imp λ_ _ _ h=>CT (λq=>qU NT hk q) h⟩
end
noncomputable def zM(z:bc):b9:=λas R _=>∃ds,as=ds.map Sm.v/\z ds λd=>R (.v d) []
theorem xQ{H:Hp}:cU H []=H:=funext λb=>I0 (by simp)
theorem uY{K:Frag}{Φ H:Hp}:∀{ds:List D}{vs:List V},RpL K Φ ds vs->ArgM K Φ H (ds.map Sm.v) vs (ds.map λ_=>[])
 | [],[],_=>.nil
 | [],_::_,h=>by cases h.1
 |_::_,[],h=>by cases h.1
 |d::ds,v::vs,h=>.v (h.2 0 v d rfl rfl) (uY ⟨by have:=h.1;simpa using this,λi u e hu he=>h.2 (i+1) u e hu he⟩)
theorem p9{α:Type}:∀(ds:List α),(ds.map λ_=>([]:List Addr)).flatten=[]
 | []=>rfl
 |_::ds=>by simp
theorem xv{K:Frag}{z:bc}:∀vs H Q E,bP K z vs H Q E->cH K (zM z) vs H Q E:=λvs H Q E h=>by
 obtain⟨Φ,ds,R,sm,tb,rl,hz,k⟩:=h;refine⟨Φ,ds.map Sm.v,ds.map λ_=>[],λs os=>∃d,s=.v d/\R d,λ_ _=>False,sm,tb,uY rl,by rw[p9];exact MW,λb hb=>(by rw[p9]at hb;cases hb),⟨ds,rfl,?_⟩,λs os Φ' H' v F NM r g hr ho hn N6=>?_⟩
 ·have e:R=λd=>∃d',(Sm.v d:Sm)=.v d'/\R d':=funext λd=>propext ⟨λh=>⟨d,rfl,h⟩,λ⟨d',e,h⟩=>by cases e;exact h⟩;rw[←e];exact hz
 ·obtain⟨d,rfl,r⟩:=r
  cases hr with
  |v rv=>
   rw[p9,xQ]at g;exact k d Φ' H' v r g rv
theorem qM{qs:List Addr}(h:qs.length=0):qs=[]:=Ko.mp h
theorem fW{qs:List Addr}(h:qs.length=1):∃a,qs=[a]:=by
 match qs,h with
 | [a],_=>exact⟨a,rfl⟩
section
variable{K:Frag}{X:Cx}{a b:Expr}{pos:Pos}{ta tb:TX}
theorem ic(ha:PX K X a ta)(hb:PX K X b tb)(hs:pd b):PX K X (.Subscript a b pos) (jq mI ta tb):=
 ⟨λhK=>(vL (xm hK) (ha.pe hK) (hb.pe hK) hs).imp λ_ _ _=>mq⟩
end
end L2
namespace PySem.SeqAt
open AutoSeq1 (wpAny_loadPart')
open MeetsSeq MeetsSeq2 MeetsSeq3 SeqRoads2
theorem yC{M:Model}{A:Around}{E:Value->Shared->Prop}{s:Shared}{β:Type}(r:Std.Legacy.Range)(b:β)(f:Nat->β->Sem (ForInStep β))(Q:β->Shared->Prop)(h:wpAny M A (forIn (List.range' r.start r.size r.step) b f) Q E s):wpAny M A (forIn r b f) Q E s:=by rw[Std.Legacy.Range.forIn_eq_forIn_range'];exact h
theorem tuple_indexAtX(l:Addr)(items:Array Value)(n:Nat)(dd:Option Addr)(sl:Array (Option Value))(x:Value)(e:Value->Bool)(j:Nat)(hj:j<items.size)
  (hit:e items[j]=true) (N6:∀m (hm:m<items.size),m<j->e items[m]=false) :
  Meets (Builtin.«tuple.index» ⟨[.ref l,x],[]⟩)
   (λA R s=>s.heap.get? l=some { cls:=.type "tuple",dict:=dd,data:=.seq items n,slots:=sl }/\(∀y,y∈items->EqAt A.in1 s y x (e y))/\R (.ok (.ret (.int j s.toks))) { s with toks:=s.toks+1 }):=
 .of_wp λprog w A R s h=>by
  obtain⟨hp,g,d,tk,os⟩:=s;obtain⟨hl,he,h⟩:=h
  wp_walk using JX hl,yC,wpAny_forIn_list _ (λrest b s'=>b.1=none/\s'=⟨hp,g,d,tk,os⟩/\∃i,i<=j/\rest=List.range' i (items.size-i) 1) _
  case turn=>
   rintro m rest b s' ⟨hb,rfl,i,hi,Pc⟩
   have Nu:i<items.size:=by omega
   rw[show items.size-i=(items.size-i-1)+1 by omega,List.range'_succ]at Pc;injection Pc with h1 h2;subst h1
   have hm:items[m]?=some items[m]:=by simp[Nu]
   rw[hm];refine IV (he _ (Array.getElem_mem Nu) prog w _ _ ?_);rcases JI m j with c|c
   ·rw[N6 m Nu c]
    wp_walk
    exact⟨rfl,rfl,m+1,c,by rw[h2];congr 1⟩
   ·have:m=j:=by omega
    subst this;rw[hit]
    wp_walk
    exact⟨_,rfl,h⟩
  case fin=>
   rintro⟨b1,b2⟩ s' ⟨hb,rfl,i,hi,Pc⟩;exfalso;have:=Kl List.length Pc;rw[List.length_range']at this
   have:items.size-i=0:=by simpa using this.symm
   omega
  case h=>
   exact⟨rfl,rfl,0,KJ _,by simp[Std.Legacy.Range.size]⟩
end PySem.SeqAt
namespace L2
open PySem PySem.Spec PyProof.Rows
@[irreducible] noncomputable def jJ (x:D)(y:D)(R:D->Prop):Prop:=match x with
 |.tup ds=>ds.length<=1000/\∃(bs:List Bool)(j:Nat),bs.length=ds.length/\(∀(i:Nat) d b,ds[i]?=some d->bs[i]?=some b->cD 39 d y=some b)/\bs[j]?=some true/\(∀i,i<j->bs[i]?=some false)/\R (.int (j:Int))
 |_=>False
section
variable{K:Frag}{X:Cx}{a b:Expr}{ta tb:TD}{apos Ni:Pos}
open Classical in
theorem FE(hK:X.K=K)(hu:X.A.units+64<cLine):jz X "tuple.index" (λx xs H Q=>∃Φ dx dy R y,Same Φ H/\xs=[y]/\RpQ K Φ H dx x/\RpQ K Φ H dy y/\jJ dx dy R/\∀d Φ' H' v,R d->Gr Φ H Φ' H'->Rp K Φ' d v->Q v H'):=by
 intro pins s σ H x xs v us Q I rx rs ⟨Φ,dx,dy,R,y,sm,e,hx,hy,h,k⟩;subst e;obtain⟨u,rfl,ru⟩:=jr rs;unfold jJ at h
 cases dx with
 |tup ds=>
  obtain⟨hl,bs,j,Pd,hb,hj,N6,r⟩:=h;obtain⟨a,vs,rfl,h1,_,h2⟩:=hx.tup sm;cases rx;obtain⟨Nc,rv,⟨⟨oc,od,odt,os⟩,ho,RY,n,hz⟩,_⟩:=I.tuple (hK▸h1);cases RY;cases hz;have l1:=Vals.length rv;have Sn:j<bs.length:=aU hj
  let e:Value->Bool:=λz=>decide (∃m:Nat,Nc[m]?=some z/\bs[m]?=some true)
  have at_:∀(m:Nat) z,Nc[m]?=some z->∃(w:V)(d:D)(b:Bool),RelV w z/\Rp K H d w/\ds[m]?=some d/\bs[m]?=some b/\cD 39 d dy=some b:=λm z hm=>by
   have i0:m<Nc.length:=aU hm
   have i1:m<vs.length:=by omega
   have i2:m<ds.length:=by rw[←h2.1];exact i1
   have i3:m<bs.length:=by omega
   obtain⟨u',Qc,r'⟩:=Vals.get (i:=m) (x:=vs[m]) rv (bf i1);rw[hm]at Qc;cases Qc;exact⟨vs[m],ds[m],bs[m],r',(h2.2 m _ _ (bf i1) (bf i2)).same sm,bf i2,bf i3,hb m _ _ (bf i2) (bf i3)⟩
  have det:∀(m m':Nat) z b b',Nc[m]?=some z->Nc[m']?=some z->bs[m]?=some b->bs[m']?=some b'->b=b':=λm m' z b b' hm RH q q'=>by
   obtain⟨w,d,c,r1,p1,_,q1,c1⟩:=at_ m z hm;obtain⟨w',d',c',r1',p1',_,TM,c1'⟩:=at_ m' z RH;rw[q]at q1;rw[q']at TM;cases q1;cases TM;have:=r1.inj r1';subst this;exact Gp hK I (Same.refl H) 39 p1 p1' c1 c1'
  have O3:∀(m:Nat) z b,Nc[m]?=some z->bs[m]?=some b->e z=b:=λm z b hm q=>by
   show decide (∃m:Nat,Nc[m]?=some z/\bs[m]?=some true)=b
   cases b with
   |true=>exact JP ⟨m,hm,q⟩
   |false=>exact Jo λ⟨m',h1,h2⟩=>by cases det m m' z _ _ hm h1 q h2
  have hj0:j<Nc.length:=by have:=h2.1;omega
  refine Ku MD ⟨_,ho,rfl⟩ PySem.F.entry_tuple_index (PySem.F.args_tuple_index_2 _ _)
   (PySem.SeqAt.tuple_indexAtX a Nc.toArray n od os u e j (by simpa using hj0) ?_ ?_) ⟨ho,λz hz=>?_,?_⟩
  ·simp only[List.getElem_toArray];exact O3 j _ true (bf hj0) hj
  ·intro m hm Nu;simp only[Jj]at hm;simp only[List.getElem_toArray];exact O3 m _ false (bf hm) (N6 m Nu)
  ·have hz':z∈Nc:=by simpa using hz
   obtain⟨m,hm⟩:=Kv hz';obtain⟨w,d,b,r1,p1,q1,q2,q3⟩:=at_ m z hm;rw[O3 m z b hm q2];exact (rD hK I (Same.refl H) 39 q3 p1 (hy.any sm) X.A.in1 z u (by show X.A.units+1+39<cLine;omega) r1 ru).1
  ·exact⟨.int j,H,I.tok _,⟨_,rfl⟩,k _ Φ H _ r (.refl sm) (.int _)⟩
 |_=>exact h.elim
noncomputable def xR(ta tb:TD):TD:=λρ R=>ta ρ λx=>(match x with|.tup _=>True|_=>False)/\tb ρ λy=>jJ x y R
theorem BA(hu:X.A.units+64<cLine)(ha:PQ K X a ta)(hb:PD K X b tb)(Nm:attributeBase a "index" X.env (eval a X.env)=eval a X.env:=by rfl)(NI:((backTo Ni (starEach [b] X.env)).all (λx=>!x.1)&&(backToKw Ni (keywordEach [] X.env)).all (λx=>x.1.isSome)&&decide (([b]:List Expr).length+([]:List Keyword).length+(if ([]:List Keyword).isEmpty then 0 else 1)<30))=true)
  (NV:starEach [b] X.env=(false,eval b X.env)::starEach [] X.env) (Nn:(apos.endLine==Ni.line)=true:=by rfl):PD K X (.Call (.Attribute a "index" apos) [b] [] Ni) (xR ta tb):=
 ⟨λhK=>(gv PySem.F.plainAttrs_tuple MD PySem.F.type_tuple_index (FE hK hu) (ha.pe hK) (dZ (hb.pe hK) pa_nil NV) Nm NI Nn NV ag).imp λσ H Q Nb=>by obtain⟨H0,Φ,ρ,R,E,t,k⟩:=Nb;exact⟨H0,Φ,ρ,_,E,t,λdx Φ1 H1 x t1 g1 rx=>by
  cases dx with
  |tup ds=>
   obtain⟨a,vs,rfl,_,q1,q2⟩:=rx.tup g1.s;refine⟨.inr (.inl ⟨rfl,.inl ⟨vs,g1.s _ _ q1⟩⟩),H0,Φ1,ρ,_,E.gr g1,t1.2,λdy Φ2 H2 y t2 g2 ry=>⟨Φ2,.tup ds,dy,R,y,g2.s,rfl,rx.gr g2,.inl ry,t2,λd Φ' H' v r g rr=>k d Φ' H' v r ((g1.trans g2).trans g) rr⟩⟩
  |_=>exact t1.1.elim⟩⟩
end
end L2
namespace L2
open PySem PySem.Spec PyProof.Rows
section
variable{K:Frag}{X:Cx}{e e2:Expr}{te RB:TX}{pos apos Ni Nh:Pos}{x:Str}{i:Nat}
noncomputable def Ig(i:Nat)(te RB:TX):bG:=λDe ρ=>ownL ρ i λ_ _=>te ρ (xV λd ρ1=>match d with|.int n=>RB ρ1 (xV λd2 ρ2=>ownL ρ2 i λa ds=>∃k:Nat,n=(k:Int)/\k<=ds.length/\ds.length<sizeLine/\NF (ds.take k++d2::ds.drop k) λes=>De.nx (ρ2.set i (some (.ob a (.lst es))))) De.ex|_=>False) De.ex
theorem Dp(i:Nat)(he:PX K X e te)(QU:PX K X e2 RB)
  (NI:((backTo Ni (starEach [e,e2] X.env)).all (λx=>!x.1)&&(backToKw Ni (keywordEach [] X.env)).all (λx=>x.1.isSome)&&decide (([e,e2]:List Expr).length+([]:List Keyword).length+(if ([]:List Keyword).isEmpty then 0 else 1)<30))=true)
  (NV:starEach [e,e2] X.env=(false,eval e X.env)::starEach [e2] X.env) (TN:starEach [e2] X.env=(false,eval e2 X.env)::starEach [] X.env) (Ot:(backTo Ni (starEach [e2] X.env)).any (·.1)=false)
  (hN:X.N[i]?=some x:=by rfl) (hv:cF X.env.scope x:=by nofun) (hd:(x==("__debug__":Str))=false:=by decide) (Np:(x==("__classdict__":Str))=false:=by decide)
  (Nm:attributeBase (.Name x Nh) "insert" X.env (eval (.Name x Nh) X.env)=eval (.Name x Nh) X.env:=by rfl) (Nn:(apos.endLine==Ni.line)=true:=by rfl) (hs:swapsWith (.Call (.Attribute (.Name x Nh) "insert" apos) [e,e2] [] Ni) none pos.line X.env=pure false:=by rfl) :
  PSM K X (.Expr (.Call (.Attribute (.Name x Nh) "insert" apos) [e,e2] [] Ni) pos) (Ig i te RB):=
 ⟨λhK=>(jk (gv Kz PySem.F.slot_list_insert PySem.F.type_list_insert Bz (pv i hN hv hd Np) (dZ (he.pe hK) (dZ (QU.pe hK) pa_nil TN) NV) Nm NI Nn NV Ot) hs).imp λE σ H Nb=>by
  obtain⟨Φ0,H0,Φ,ρ,De,g,V,t,k⟩:=Nb;obtain⟨a,ds,ho,t⟩:=ownL.get t;have S:=dJ g V k.ex;obtain⟨q,vs,e1,hp,rl,_⟩:=S.list ho;refine⟨_,e1,.inl ⟨rfl,vs,SqL.of hp⟩,Φ0,H0,Φ,[],ρ,[],_,De.ex,S,t,λs ρ1 Φ1 H1 v r S1 _=>?_⟩;obtain⟨d,rfl,r⟩:=r.get
  cases d with
  |int n=>
   refine⟨Φ0,H0,Φ1,_,ρ1,_,_,De.ex,S1,r,λs2 ρ2 Φ2 H2 w r2 S2 _=>?_⟩;obtain⟨d2,rfl,r2⟩:=r2.get;obtain⟨rd,rk⟩:=S2.last2;cases rd;obtain⟨a2,Qg,OS,j,rfl,hj,hl,r2⟩:=ownL.get r2;obtain⟨q2,QI,e2',Oz,Pj,k2⟩:=S2.list OS;rw[e1]at e2';cases e2';have S3:=k2 _ _ ((Pj.take j).append (.cons rk (Pj.drop j)));exact⟨q,QI,_,j,w,rfl,rfl,rfl,Oz,by rw[Pj.1];exact hj,by rw[Pj.1];exact hl,k.nx _ Φ2 _ σ r2.get S3.g S3.env⟩
  |_=>exact r.elim⟩
end
open Builtin Builtin.ObjectAttr
end L2
namespace L2
open PySem PySem.Spec PyProof.Rows
end L2
namespace L2
open PySem PySem.Spec PyProof.Rows
section
variable{K:Frag}{H0 H Φ:Hp}{σ:St}{ρ:ar}{fp:Nat->List Addr}{o o' oi oj:Om}{p q:Addr}{i j:Nat}{a a' b b':Option Addr}
theorem EnvM'.two(E:EnvM' K H0 Φ H σ ρ fp)(So:i≠j)(hi:ρ[i]?=some (some (.ob a o)))(hj:ρ[j]?=some (some (.ob a' o'))){pi pj:Addr}{Fi Fj:List Addr}(si:σ[i]?=some (some (.ref pi)))(sj:σ[j]?=some (some (.ref pj)))
  (ai:∀q,b=some q->q=pi) (aj:∀q,b'=some q->q=pj) (Oi:OmS K Φ H oi pi Fi) (Oj:OmS K Φ H oj pj Fj) (sub:∀x,x∈Fi\/x∈Fj->x∈fp i\/x∈fp j) (dis:∀x∈Fi,x∉Fj) :
  EnvM K H0 Φ H σ ((ρ.set i (some (.ob b oi))).set j (some (.ob b' oj))):=by
 have cs:∀{m:Nat}{x:Sm},((ρ.set i (some (Sm.ob b oi))).set j (some (Sm.ob b' oj)))[m]?=some (some x)->(m=j/\x=.ob b' oj)\/(m≠j/\m=i/\x=.ob b oi)\/(m≠j/\m≠i/\ρ[m]?=some (some x)):=λ{m x} h=>by
  rcases cW h with⟨e,_,e1⟩|⟨e,h⟩
  ·cases e1;exact .inl ⟨e,rfl⟩
  ·rcases cW h with⟨e',_,e1⟩|⟨e',h⟩
   ·cases e1;exact .inr (.inl ⟨e,e',rfl⟩)
   ·exact .inr (.inr ⟨e,e',h⟩)
 have nf:∀x,x∈Fi\/x∈Fj->∀(m:Nat)(c:Option Addr)(om:Om),ρ[m]?=some (some (.ob c om))->m≠i->m≠j->x∉fp m:=λx hx m c om hm c1 c2 z=>by
  rcases sub x hx with h|h
  ·exact E.dj m i c a om o hm hi c1 x z h
  ·exact E.dj m j c a' om o' hm hj c2 x z h
 have no:∀x,x∈Fi\/x∈Fj->H0 x=none/\Φ x=none:=λx hx=>by
  rcases sub x hx with h|h
  ·exact E.no i a o hi x h
  ·exact E.no j a' o' hj x h
 refine⟨λm=>if m=j then Fj else if m=i then Fi else fp m,E.fz,by rw[Jg,Jg,E.len],λm d h=>?_,λm c om h=>?_,λm c om h x hx=>?_,λm k c c' om Ov hm hk cc x hx TQ=>?_,E.tb⟩
 ·rcases cs h with⟨_,h9⟩|⟨_,_,h9⟩|⟨_,_,h9⟩
  ·cases h9
  ·cases h9
  ·exact E.sl m d h9
 ·rcases cs h with⟨c1,h9⟩|⟨c1,c2,h9⟩|⟨c1,c2,h9⟩
  ·cases h9;exact⟨pj,by rw[c1];exact sj,aj,by rw[Ja c1];exact Oj⟩
  ·cases h9;exact⟨pi,by rw[c2];exact si,ai,by rw[I0 c1,Ja c2];exact Oi⟩
  ·obtain⟨p,e,ha,r⟩:=E.ow m c om h9;exact⟨p,e,ha,by rw[I0 c1,I0 c2];exact r⟩
 ·rcases cs h with⟨c1,h9⟩|⟨c1,c2,h9⟩|⟨c1,c2,h9⟩
  ·rw[Ja c1]at hx;exact no x (.inr hx)
  ·rw[I0 c1,Ja c2]at hx;exact no x (.inl hx)
  ·rw[I0 c1,I0 c2]at hx;exact E.no m c om h9 x hx
 ·have y1:x∈(if m=j then Fj else if m=i then Fi else fp m):=hx;have y2:x∈(if k=j then Fj else if k=i then Fi else fp k):=TQ;rcases cs hm with⟨c1,Qo⟩|⟨c1,c2,Qo⟩|⟨c1,c2,Qo⟩
  ·rw[Ja c1]at y1;rcases cs hk with⟨d1,Pe⟩|⟨d1,d2,Pe⟩|⟨d1,d2,Pe⟩
   ·exact cc (c1.trans d1.symm)
   ·rw[I0 d1,Ja d2]at y2;exact dis x y2 y1
   ·rw[I0 d1,I0 d2]at y2;exact nf x (.inr y1) k c' Ov Pe d2 d1 y2
  ·rw[I0 c1,Ja c2]at y1;rcases cs hk with⟨d1,Pe⟩|⟨d1,d2,Pe⟩|⟨d1,d2,Pe⟩
   ·rw[Ja d1]at y2;exact dis x y1 y2
   ·exact cc (c2.trans d2.symm)
   ·rw[I0 d1,I0 d2]at y2;exact nf x (.inl y1) k c' Ov Pe d2 d1 y2
  ·rw[I0 c1,I0 c2]at y1;rcases cs hk with⟨d1,Pe⟩|⟨d1,d2,Pe⟩|⟨d1,d2,Pe⟩
   ·rw[Ja d1]at y2;exact nf x (.inr y2) m c om Qo c2 c1 y1
   ·rw[I0 d1,Ja d2]at y2;exact nf x (.inl y2) m c om Qo c2 c1 y1
   ·rw[I0 d1,I0 d2]at y2;exact E.dj m k c c' om Ov Qo Pe cc x y1 y2
theorem yX{ps:List (Addr×Option (List D))}{k:Nat}{x y:Option (List D)}(h:ps[k]?=some (q,x)):((ps.set k (q,y)).map λq=>V.ref q.1)=ps.map λq=>V.ref q.1:=by
 refine Kc λm=>?_;rw[Jd,Jd];by_cases c:k=m
 ·subst c;rw[Jt (aU h),h];rfl
 ·rw[Js c]
theorem EnvM.opn{ps:List (Addr×Option (List D))}{k:Nat}{ds:List D}(E:EnvM K H0 Φ H σ ρ)(So:i≠j)(hi:ρ[i]?=some (some (.ob (some q) .ptr)))(hj:ρ[j]?=some (some (.ob a' (.tl ps))))(hk:ps[k]?=some (q,some ds)) :
  EnvM K H0 Φ H σ ((ρ.set i (some (.ob (some q) (.lst ds)))).set j (some (.ob a' (.tl (ps.set k (q,none)))))):=by
 obtain⟨fp,E⟩:=E;obtain⟨p,si,ha,ri⟩:=E.ow i _ _ hi;have ep:=ha q rfl;subst ep;obtain⟨t,sj,ha',rj⟩:=E.ow j _ _ hj;obtain⟨h1,h2,h3⟩:=rj.tl_inv;obtain⟨ws,F',k1,k2,k3,k4⟩:=h2.out hk;have nd:=k4.nodup_iff.mp h3;rw[Jy]at nd;refine E.two So hi hj si sj ha ha' (.lst k1 k2) (.tl (by rw[yX hk];exact h1) k3 nd.2) (λx hx=>.inr (k4.mem_iff.mpr ?_)) λx hx=>?_
 ·rcases hx with h|h
  ·rw[Ji.mp h];exact IZ
  ·exact IY _ h
 ·rw[Ji.mp hx];exact nd.1
theorem EnvM.pnt(E:EnvM K H0 Φ H σ ρ)(i:Nat)(p:Addr):EnvM K H0 Φ H (σ.set i (some (.ref p))) (ρ.set i (some (.ob (some p) .ptr))):=by
 obtain⟨fp,E⟩:=E
 have cs:∀{m:Nat}{x:Sm},(ρ.set i (some (Sm.ob (some p) .ptr)))[m]?=some (some x)->(m=i/\i<ρ.length/\x=.ob (some p) .ptr)\/(m≠i/\ρ[m]?=some (some x)):=λ{m x} h=>by
  rcases cW h with⟨e,hl,e1⟩|⟨e,h⟩
  ·cases e1;exact .inl ⟨e,hl,rfl⟩
  ·exact .inr ⟨e,h⟩
 refine⟨λm=>if m=i then [] else fp m,E.fz,by rw[Jg,Jg,E.len],λm d h=>?_,λm c om h=>?_,λm c om h x hx=>?_,λm k c c' om Ov hm hk cc x hx TQ=>?_,E.tb⟩
 ·rcases cs h with⟨_,_,h⟩|⟨c,h⟩
  ·cases h
  ·obtain⟨v,e,r⟩:=E.sl m d h;exact⟨v,by rw[Js (J7 c)];exact e,r⟩
 ·rcases cs h with⟨c1,hl,h9⟩|⟨c',h9⟩
  ·cases h9;exact⟨p,by rw[c1];exact Jt (by rw[E.len];exact hl),λq e=>by cases e;rfl,by rw[Ja c1];exact .ptr⟩
  ·obtain⟨q,e,r⟩:=E.ow m c om h9;exact⟨q,by rw[Js (J7 c')];exact e,by rw[I0 c'];exact r⟩
 ·rcases cs h with⟨c1,_,h9⟩|⟨c',h9⟩
  ·rw[Ja c1]at hx;cases hx
  ·rw[I0 c']at hx;exact E.no m c om h9 x hx
 ·have y1:x∈(if m=i then [] else fp m):=hx;have y2:x∈(if k=i then [] else fp k):=TQ;rcases cs hm with⟨c1,_,Qo⟩|⟨c1,Qo⟩
  ·rw[Ja c1]at y1;cases y1
  rcases cs hk with⟨c2,_,Pe⟩|⟨c2,Pe⟩
  ·rw[Ja c2]at y2;cases y2
  rw[I0 c1]at y1;rw[I0 c2]at y2;exact E.dj m k c c' om Ov Qo Pe cc x y1 y2
end
noncomputable def CY:Fl->Option D
 |.v d=>some d
 |.l xs=>some (.lst xs)
 |.al _=>none
noncomputable def fu:List (Str×Fl)->Option (List (Str×D))
 | []=>some []
 |(f,x)::r=>match CY x,fu r with
  |some d,some ds=>some ((f,d)::ds)
  |_,_=>none
noncomputable def uK:Option Sm->Option Sl
 |some (.ob _ (.obj nm fs))=>(fu fs).map λds=>.v (.obj nm ds)
 |x=>pO x
noncomputable abbrev gz(ρ:ar):bC:=ρ.map uK
noncomputable def xr:HO->Bool
 |.lst _=>true
 |.dK _=>true
 |.dT _=>true
 |.ins _ _ _=>true
 |_=>false
theorem zm{u:HO}(h:lK u):xr u=true:=by cases u<;>first|rfl|exact h.elim
inductive NoL:D->Prop where
 |int (i:Int):NoL (.int i)
 |bl (b:Bool):NoL (.bl b)
 |str (x:Str):NoL (.str x)
 |non:NoL .non
 |tup {ds:List D}:(∀d∈ds,NoL d)->NoL (.tup ds)
noncomputable def eU(Φ H:Hp)(A:List Addr):Hp:=λb=>match Φ b with
 |some u=>some u
 |none=>if b∈A then H b else none
noncomputable def ig(Φ Φ1:Hp):Hp:=λb=>match Φ b with
 |some u=>some u
 |none=>match Φ1 b with
  |some u=>if xr u then none else some u
  |none=>none
section
variable{K:Frag}{H0 H H1 Φ Φ1:Hp}{σ:St}{ρ:ar}{fp:Nat->List Addr}{A:List Addr}{d:D}{v:V}{b:Addr}{u:HO}
theorem BG(h:Φ b=some u):eU Φ H A b=some u:=by unfold eU;rw[h]
theorem Hz(hb:b∈A)(h:H b=some u)(s:Same Φ H):eU Φ H A b=some u:=by
 unfold eU
 cases e:Φ b with
 |some w=>have:=s _ _ e;rw[h]at this;cases this;rfl
 |none=>simp only;rw[Ja hb];exact h
theorem uP(h:eU Φ H A b=some u):Φ b=some u\/(b∈A/\H b=some u):=by
 unfold eU at h
 cases e:Φ b with
 |some w=>rw[e]at h;exact .inl h
 |none=>
  rw[e]at h;simp only at h;split at h
  ·next c=>exact .inr ⟨c,h⟩
  ·cases h
theorem view_same:Same Φ (eU Φ H A):=λ_ _ h=>BG h
theorem GO(s:Same Φ H):Same (eU Φ H A) H:=λb u h=>(uP h).elim (s b u) (·.2)
theorem DK(h:Φ b=some u):ig Φ Φ1 b=some u:=by unfold ig;rw[h]
theorem zv{vs:List V}(s:Same Φ Φ1)(h:Φ1 b=some (.tup vs)):ig Φ Φ1 b=some (.tup vs):=by
 unfold ig
 cases e:Φ b with
 |some w=>have:=s _ _ e;rw[h]at this;cases this;rfl
 |none=>simp only;rw[h];rfl
theorem qt(s:Same Φ H)(g:Gr (eU Φ H A) H Φ1 H1):Gr Φ H (ig Φ Φ1) H1:=by
 refine⟨λb u e=>DK e,g.h,λb u e=>?_,λp u hp hn k=>?_⟩
 ·unfold ig at e
  cases e1:Φ b with
  |some w=>rw[e1]at e;cases e;exact g.h _ _ (s _ _ e1)
  |none=>
   rw[e1]at e;simp only at e
   cases e2:Φ1 b with
   |none=>rw[e2]at e;cases e
   |some w=>
    rw[e2]at e;simp only at e;split at e
    ·cases e
    ·cases e;exact g.s _ _ e2
 ·unfold ig;rw[hn];simp only
  cases e2:Φ1 p with
  |none=>rfl
  |some w=>
   have h1:=g.s _ _ e2;rw[g.h _ _ hp]at h1;cases h1;simp only;rw[Ja (zm k)]
theorem Rp.thawN(s:Same Φ Φ1)(hn:NoL d)(r:Rp K Φ1 d v):Rp K (ig Φ Φ1) d v:=by
 induction hn generalizing v with
 |int i=>cases r;exact .int i
 |bl b=>cases r;exact .bl b
 |str x=>cases r;exact .str x
 |non=>cases r;exact .non
 |tup _ ih=>
  cases r with
  |tup h1 h2 h3=>exact .tup (zv s h1) h2 λi v d hv hd=>ih d (Jn hd) (h3 i v d hv hd)
noncomputable def nR:Option (Option Sm)->Bool
 |some (some (.ob _ (.obj _ _)))=>true
 |_=>false
noncomputable def hU(fp:Nat->List Addr)(ρ:ar):List Addr:=(List.range ρ.length).flatMap λi=>if nR (ρ[i]?) then fp i else []
theorem G9{i:Nat}{a:Option Addr}{nm:Str}{fs:List (Str×Fl)}(h:ρ[i]?=some (some (.ob a (.obj nm fs))))(hb:b∈fp i):b∈hU fp ρ:=by unfold hU;refine List.mem_flatMap.mpr ⟨i,J6.mpr (aU h),?_⟩;rw[h,Ja (show nR (some (some (Sm.ob a (Om.obj nm fs))))=true from rfl)];exact hb
theorem AQ(h:b∈hU fp ρ):∃i a nm fs,ρ[i]?=some (some (.ob a (.obj nm fs)))/\b∈fp i:=by
 unfold hU at h;obtain⟨i,_,h⟩:=List.mem_flatMap.mp h;by_cases c:nR (ρ[i]?)=true
 ·rw[Ja c]at h;unfold nR at c;split at c
  ·next a nm fs e=>exact⟨i,a,nm,fs,e,h⟩
  ·cases c
 ·rw[I0 c]at h;cases h
theorem G5{fs:List (Str×Fl)}{ds:List (Str×D)}{vs:List (Str×V)}{qs:List Addr}(hf:fu fs=some ds)(h:FlsR K Φ H fs vs qs)(hs:Same Φ Φ1)(hq:∀b∈qs,∀u,H b=some u->Φ1 b=some u) :
  vs.map (·.1)=ds.map (·.1)/\∀(i:Nat)(v:Str×V)(d:Str×D),vs[i]?=some v->ds[i]?=some d->Rp K Φ1 d.2 v.2:=by
 induction h generalizing ds with
 |nil=>cases hf;exact⟨rfl,λi v d hv=>by simp at hv⟩
 |v r _ ih=>
  rename_i f d0 v0 OB Pw Px _;have hf:(match some d0,fu OB with|some d,some ds=>some ((f,d)::ds)|_,_=>none)=some ds:=hf
  cases e:fu OB with
  |none=>rw[e]at hf;cases hf
  |some es=>
   rw[e]at hf;cases hf;obtain⟨h1,h2⟩:=ih e hq;refine⟨by rw[Jq,Jq,h1],λi v d hv hd=>?_⟩
   cases i with
   |zero=>cases hv;cases hd;exact r.same hs
   |succ i=>exact h2 i v d hv hd
 |l h1 h2 _ ih=>
  rename_i f d0 w0 q0 OB Pw Px _;have hf:(match some (D.lst d0),fu OB with|some d,some ds=>some ((f,d)::ds)|_,_=>none)=some ds:=hf
  cases e:fu OB with
  |none=>rw[e]at hf;cases hf
  |some es=>
   rw[e]at hf;cases hf;obtain⟨k1,k2⟩:=ih e λb hb=>hq b (IY _ hb);refine⟨by rw[Jq,Jq,k1],λi v d hv hd=>?_⟩
   cases i with
   |zero=>
    cases hv;cases hd;have r:=h2.same hs;exact .lst (hq _ IZ _ h1) r.1 r.2
   |succ i=>exact k2 i v d hv hd
 |al _ ih=>
  rename_i f p0 OB Pw Px _;have hf:(match (none:Option D),fu OB with|some d,some ds=>some ((f,d)::ds)|_,_=>none)=some ds:=hf;cases hf
theorem EnvM'.view(E:EnvM' K H0 Φ H σ ρ fp):EnvD K H0 (eU Φ H (hU fp ρ)) H σ (gz ρ):=by
 have hs:Same Φ (eU Φ H (hU fp ρ)):=view_same
 have at_:∀{i:Nat}{x:Sl},(gz ρ)[i]?=some (some x)->∃y,ρ[i]?=some (some y)/\uK (some y)=some x:=λ{i x} h=>by
  rw[Jd]at h
  cases e:ρ[i]? with
  |none=>rw[e]at h;cases h
  |some y=>
   rw[e]at h
   cases y with
   |none=>cases h
   |some y=>exact⟨y,rfl,JV h⟩
 have ow:∀{i:Nat}{o:Ow},(gz ρ)[i]?=some (some (.ob o))->∃a om p u,ρ[i]?=some (some (.ob a om))/\(∀nm fs,om≠.obj nm fs)/\σ[i]?=some (some (.ref p))/\p∈fp i/\H p=some u/\OwR K Φ o u:=λ{i o} h=>by
  obtain⟨y,hy,e⟩:=at_ h
  cases y with
  |v d=>cases e
  |ob a om=>
   obtain⟨p,e1,_,r⟩:=E.ow i a om hy;refine⟨a,om,p,?_⟩
   cases om with
   |lst ds=>obtain⟨_,vs,h1,h2⟩:=r.lst_inv;cases e;exact⟨_,hy,(λ_ _ z=>by cases z),e1,r.mem,h1,h2⟩
   |map Ng=>obtain⟨_,vs,h1,h2⟩:=r.map_inv;cases e;exact⟨_,hy,(λ_ _ z=>by cases z),e1,r.mem,h1,kH h2⟩
   |mpT Ng=>obtain⟨_,vs,h1,h2⟩:=r.mpT_inv;cases e;exact⟨_,hy,(λ_ _ z=>by cases z),e1,r.mem,h1,kH h2⟩
   |obj nm fs=>
    have e:(fu fs).map (λds=>Sl.v (.obj nm ds))=some (.ob o):=e
    cases e2:fu fs with
    |none=>rw[e2]at e;cases e
    |some ds=>rw[e2]at e;cases e
   |ptr=>cases e
   |tl ps=>cases e
   |pr _ _=>cases e
 refine⟨GO E.fz,by rw[mn,E.len],λi d h=>?_,λi o h=>?_,λi j o w p hi hj si sj=>?_,E.tb.same hs⟩
 ·obtain⟨y,hy,e⟩:=at_ h
  cases y with
  |v d'=>cases e;obtain⟨v,e1,r⟩:=E.sl i d hy;exact⟨v,e1,r.same hs⟩
  |ob a om=>
   cases om with
   |obj nm fs=>
    have e:(fu fs).map (λds=>Sl.v (.obj nm ds))=some (.v d):=e
    cases e2:fu fs with
    |none=>rw[e2]at e;cases e
    |some ds=>
     rw[e2]at e;cases e;obtain⟨p,e1,_,r⟩:=E.ow i a _ hy;obtain⟨C,dx,vs,qs,eF,c1,c2,c3,_⟩:=r.obj_inv;have hin:∀b∈fp i,∀u,H b=some u->eU Φ H (hU fp ρ) b=some u:=λb hb u hu=>Hz (G9 hy hb) hu E.fz;obtain⟨k1,k2⟩:=G5 e2 c3 hs λb hb=>hin b (by rw[eF];exact IY _ hb);exact⟨.ref p,e1,.obj c1 (hin p (by rw[eF];exact IZ) _ c2) k1 k2⟩
   |_=>cases e
 ·obtain⟨a,om,p,u,h1,N6,h2,h3,h4,h5⟩:=ow h;have n1:=E.no i a om h1 p h3;refine⟨p,u,h2,n1.1,?_,h4,?_⟩
  ·cases e:eU Φ H (hU fp ρ) p with
   |none=>rfl
   |some w=>
    rcases uP e with z|⟨z,_⟩
    ·rw[n1.2]at z;cases z
    ·obtain⟨j,a',nm,fs,k1,k2⟩:=AQ z
     have So:i≠j:=λc=>by subst c;rw[h1]at k1;cases k1;exact N6 _ _ rfl
     exact absurd k2 (E.dj i j a a' om _ h1 k1 So p h3)
  ·cases o with
   |lst ds=>cases u with
    |lst vs=>exact RpL.same hs h5
    |_=>exact h5.elim
   |_=>cases u<;>exact h5
 ·obtain⟨a,om,p1,u,h1,_,h2,h3,_,_⟩:=ow hi;obtain⟨a',Ov,p2,u',k1,_,k2,k3,_,_⟩:=ow hj;rw[si]at h2;cases h2;rw[sj]at k2;cases k2;rcases Lb (i=j)with c|c
  ·exact c
  ·exact absurd k3 (E.dj i j a a' om Ov h1 k1 c p h3)
end
section
variable{K:Frag}{X:Cx}{e:Expr}
noncomputable def Gb(t:TD):TX:=λρ R _=>t (gz ρ) λd=>NoL d/\R (.v d) ρ
theorem kY{t:TD}(h:PD K X e t):PX K X e (Gb t):=⟨λhK=>(h.pe hK).imp λσ H Q Nb=>by
 obtain⟨Φ0,H0,Φ,τ,ρ,κ,R,Rx,S,t,k⟩:=Nb;obtain⟨fp,E⟩:=S.env;refine⟨H0,_,gz ρ,_,E.view,t,λd Φ1 H1 v r g rv=>?_⟩;have g':=qt E.fz g
 exact k _ ρ _ H1 v r.2 ((S.gr g').pushV (rv.thawN (view_same.trans g.f) r.1)) g'.f⟩
noncomputable def zu(t:bR):fc:=λρ R _=>t (gz ρ) λb=>R b ρ
theorem HW{t:bR}(h:PTD K X e t):PXB K X e (zu t):=⟨λhK=>(h.pt hK).imp λσ H Q Nb=>by
 obtain⟨Φ0,H0,Φ,τ,ρ,κ,R,Rx,S,t,k⟩:=Nb;obtain⟨fp,E⟩:=S.env;refine⟨H0,_,gz ρ,_,E.view,t,λb Φ1 H1 r g=>?_⟩;have g':=qt E.fz g
 exact k b ρ _ H1 r (S.gr g') g'.f⟩
end
noncomputable def fB(f:Str)(x:Fl):List (Str×Fl)->List (Str×Fl)
 | []=>[(f,x)]
 |(g,y)::r=>if g=f then (g,x)::r else (g,y)::fB f x r
section
variable{K:Frag}{Φ H H':Hp}{fs:List (Str×Fl)}{vs:List (Str×V)}{qs:List Addr}{f:Str}{ds es:List D}{ws:List V}{d:D}{v:V}
theorem FlsR.look(h:FlsR K Φ H fs vs qs)(nd:qs.Nodup)(hf:fs.lookup f=some (.l ds)):∃q ws,vs.lookup f=some (.ref q)/\q∈qs/\H q=some (.lst ws)/\RpL K Φ ds ws /\
  ∀(H':Hp)(es:List D)(Oy:List V),(∀b∈qs,b≠q->∀u,H b=some u->H' b=some u)->H' q=some (.lst Oy)->RpL K Φ es Oy->FlsR K Φ H' (fB f (.l es) fs) vs qs:=by
 induction h with
 |nil=>cases hf
 |v r t ih=>
  rename_i g d0 v0 OB Pw Px;rw[JF]at hf
  cases c:f==g with
  |true=>rw[c]at hf;cases hf
  |false=>
   rw[c]at hf;obtain⟨q,ws,h1,h2,h3,h4,h5⟩:=ih nd hf;refine⟨q,ws,by rw[JF,c];exact h1,h2,h3,h4,λH' es Oy k1 k2 k3=>?_⟩;show FlsR K Φ H' (if g=f then _ else _) _ _;rw[I0 λe=>by rw[e,JT]at c;cases c];exact .v r (h5 H' es Oy k1 k2 k3)
 |l a1 a2 t ih=>
  rename_i g d0 w0 q0 OB Pw Px;rw[Jy]at nd;rw[JF]at hf
  cases c:f==g with
  |true=>
   rw[c]at hf;cases hf;refine⟨q0,w0,by rw[JF,c],IZ,a1,a2,λH' es Oy k1 k2 k3=>?_⟩;show FlsR K Φ H' (if g=f then _ else _) _ _;rw[Ja (eq_of_beq c).symm];exact .l k2 k3 (t.keep (Same.refl _) λb hb u hu=>k1 b (IY _ hb) (λz=>nd.1 (z▸hb)) u hu)
  |false=>
   rw[c]at hf;obtain⟨q,ws,h1,h2,h3,h4,h5⟩:=ih nd.2 hf;refine⟨q,ws,by rw[JF,c];exact h1,IY _ h2,h3,h4,λH' es Oy k1 k2 k3=>?_⟩;show FlsR K Φ H' (if g=f then _ else _) _ _;rw[I0 λe=>by rw[e,JT]at c;cases c];exact .l (k1 q0 IZ (λz=>nd.1 (z▸h2)) _ a1) a2 (h5 H' es Oy (λb hb=>k1 b (IY _ hb)) k2 k3)
 |al t ih=>
  rename_i g p0 OB Pw Px;rw[JF]at hf
  cases c:f==g with
  |true=>rw[c]at hf;cases hf
  |false=>
   rw[c]at hf;obtain⟨q,ws,h1,h2,h3,h4,h5⟩:=ih nd hf;refine⟨q,ws,by rw[JF,c];exact h1,h2,h3,h4,λH' es Oy k1 k2 k3=>?_⟩;show FlsR K Φ H' (if g=f then _ else _) _ _;rw[I0 λe=>by rw[e,JT]at c;cases c];exact .al (h5 H' es Oy k1 k2 k3)
noncomputable def hZ(f:Str)(fs:List (Str×Fl)):Bool:=match fs.lookup f with
 |none=>true
 |some (.v _)=>true
 |_=>false
theorem FlsR.setV(h:FlsR K Φ H fs vs qs)(hc:hZ f fs=true)(r:Rp K Φ d v):FlsR K Φ H (fB f (.v d) fs) (cz f v vs) qs:=by
 induction h with
 |nil=>exact .v r .nil
 |v r0 t ih=>
  rename_i g d0 v0 OB Pw Px;show FlsR K Φ H (if g=f then _ else _) (if g=f then _ else _) _;by_cases c:g=f
  ·rw[Ja c,Ja c];exact .v r t
  ·rw[I0 c,I0 c];refine .v r0 (ih ?_);unfold hZ at hc ⊢;rw[JF,show (f==g)=false from MM λz=>c z.symm]at hc;exact hc
 |l a1 a2 t ih=>
  rename_i g d0 w0 q0 OB Pw Px;show FlsR K Φ H (if g=f then _ else _) (if g=f then _ else _) _;by_cases c:g=f
  ·subst c;unfold hZ at hc;rw[JF,JT]at hc;cases hc
  ·rw[I0 c,I0 c];refine .l a1 a2 (ih ?_);unfold hZ at hc ⊢;rw[JF,show (f==g)=false from MM λz=>c z.symm]at hc;exact hc
 |al t ih=>
  rename_i g p0 OB Pw Px;show FlsR K Φ H (if g=f then _ else _) (if g=f then _ else _) _;by_cases c:g=f
  ·subst c;unfold hZ at hc;rw[JF,JT]at hc;cases hc
  ·rw[I0 c,I0 c];refine .al (ih ?_);unfold hZ at hc ⊢;rw[JF,show (f==g)=false from MM λz=>c z.symm]at hc;exact hc
theorem FlsR.setL{q:Addr}(h:FlsR K Φ H fs vs qs)(hc:fs.lookup f=none)(hq:H q=some (.lst ws))(r:RpL K Φ ds ws):FlsR K Φ H (fB f (.l ds) fs) (cz f (.ref q) vs) (qs++[q]):=by
 have tail:∀{g:Str}{y:Fl}{r:List (Str×Fl)},List.lookup f ((g,y)::r)=none->g≠f/\r.lookup f=none:=λ{g y r} e=>by
  rw[JF]at e
  cases c:f==g with
  |true=>rw[c]at e;cases e
  |false=>rw[c]at e;exact⟨(λz=>by rw[z,JT]at c;cases c),e⟩
 induction h with
 |nil=>exact .l hq r .nil
 |v r0 t ih=>
  rename_i g d0 v0 OB Pw Px;obtain⟨c,hc⟩:=tail hc;show FlsR K Φ H (if g=f then _ else _) (if g=f then _ else _) _;rw[I0 c,I0 c];exact .v r0 (ih hc)
 |l a1 a2 t ih=>
  rename_i g d0 w0 q0 OB Pw Px;obtain⟨c,hc⟩:=tail hc;show FlsR K Φ H (if g=f then _ else _) (if g=f then _ else _) _;rw[I0 c,I0 c];exact .l a1 a2 (ih hc)
 |al t ih=>
  rename_i g p0 OB Pw Px;obtain⟨c,hc⟩:=tail hc;show FlsR K Φ H (if g=f then _ else _) (if g=f then _ else _) _;rw[I0 c,I0 c];exact .al (ih hc)
theorem FlsR.len(h:FlsR K Φ H fs vs qs):vs.length=fs.length:=by have:=Kl List.length h.names;rwa [mn,mn]at this
end
section
variable{K:Frag}{X:Cx}{Φ0 H0 Φ H:Hp}{σ τ:St}{ρ κ:ar}{Rx:XD->ar->Prop}{a:Option Addr}{nm f:Str}{fs:List (Str×Fl)}{ds:List D}{i:Nat}{C:Addr}
theorem EnvM.flist(E:EnvM K H0 Φ H σ ρ)(g:Gr Φ0 H0 Φ H)(hC:nsIn K mainGlobals nm=some (some (.ref C)))(hi:ρ[i]?=some (some (.ob a (.obj nm fs))))(hf:fs.lookup f=some (.l ds)):∃p dx vs q ws,σ[i]?=some (some (.ref p))/\H p=some (.ins C dx vs)/\vs.lookup f=some (.ref q)/\H q=some (.lst ws)/\RpL K Φ ds ws /\
  ∀(es:List D)(Oy:List V),RpL K Φ es Oy->EnvM K H0 Φ (ak H q (.lst Oy)) σ (ρ.set i (some (.ob a (.obj nm (fB f (.l es) fs)))))/\Gr Φ0 H0 Φ (ak H q (.lst Oy)):=by
 obtain⟨fp,E⟩:=E;obtain⟨p,e,_,r⟩:=E.ow i a _ hi;obtain⟨C',dx,vs,qs,eF,c1,c2,c3,nd⟩:=r.obj_inv;rw[hC]at c1;cases c1;rw[Jy]at nd;obtain⟨q,ws,l1,l2,l3,l4,l5⟩:=c3.look nd.2 hf
 have hqF:q∈fp i:=by rw[eF];exact IY _ l2
 have hpq:p≠q:=λz=>nd.1 (z▸l2);refine⟨p,dx,vs,q,ws,e,c2,l1,l3,l4,λes Oy OC=>?_⟩
 have hH:∀b u,H b=some u->b∉fp i->ak H q (.lst Oy) b=some u:=λb u e hn=>by
  rw[ba λz=>hn (by rw[z];exact hqF)];exact e
 refine⟨⟨_,E.put hi e hH (F':=p::qs) (.obj hC ((ba hpq).trans c2) (l5 _ es Oy (λb hb N4 u hu=>by rw[ba N4];exact hu) bq OC) (Jy.mpr nd)) λb hb=>.inl (by rw[eF];exact hb)⟩,E.grput g hi hH⟩
theorem StM.flist(S:StM K X Φ0 H0 Φ H σ τ ρ κ Rx)(hC:nsIn K mainGlobals nm=some (some (.ref C)))(hi:ρ[i]?=some (some (.ob a (.obj nm fs))))(hf:fs.lookup f=some (.l ds)):∃p dx vs q ws,σ[i]?=some (some (.ref p))/\H p=some (.ins C dx vs)/\vs.lookup f=some (.ref q)/\H q=some (.lst ws)/\RpL K Φ ds ws /\
  ∀(es:List D)(Oy:List V),RpL K Φ es Oy->StM K X Φ0 H0 Φ (ak H q (.lst Oy)) σ τ (ρ.set i (some (.ob a (.obj nm (fB f (.l es) fs))))) κ Rx:=by
 have Nu:=aU hi;obtain⟨p,dx,vs,q,ws,e,h1,h2,h3,h4,h5⟩:=S.E.flist (i:=i) S.g hC (by rw[wy Nu];exact hi) hf;rw[wy (by rw[←S.l];exact Nu)]at e;refine⟨p,dx,vs,q,ws,e,h1,h2,h3,h4,λes Oy r=>?_⟩;obtain⟨z1,z2⟩:=h5 es Oy r;refine⟨z2,by rw[Jg];exact S.l,?_,S.x⟩;rw[KQ _ _ Nu]at z1;exact z1
theorem EnvM.fsetV{d:D}{v:V}(E:EnvM K H0 Φ H σ ρ)(g:Gr Φ0 H0 Φ H)(hC:nsIn K mainGlobals nm=some (some (.ref C)))(hi:ρ[i]?=some (some (.ob a (.obj nm fs))))(hc:hZ f fs=true)(r:Rp K Φ d v):∃p dx vs,σ[i]?=some (some (.ref p))/\H p=some (.ins C dx vs)/\vs.length=fs.length /\
  EnvM K H0 Φ (ak H p (.ins C dx (cz f v vs))) σ (ρ.set i (some (.ob a (.obj nm (fB f (.v d) fs)))))/\Gr Φ0 H0 Φ (ak H p (.ins C dx (cz f v vs))):=by
 obtain⟨fp,E⟩:=E;obtain⟨p,e,_,ro⟩:=E.ow i a _ hi;obtain⟨C',dx,vs,qs,eF,c1,c2,c3,nd⟩:=ro.obj_inv;rw[hC]at c1;cases c1
 have TU:p∈fp i:=by rw[eF];exact IZ
 have hH:∀b u,H b=some u->b∉fp i->ak H p (.ins C dx (cz f v vs)) b=some u:=λb u e hn=>by
  rw[ba λz=>hn (by rw[z];exact TU)];exact e
 have QW:=nd;rw[Jy]at QW;refine⟨p,dx,vs,e,c2,c3.len,⟨_,E.put hi e hH (F':=p::qs) (.obj hC bq ((c3.setV hc r).keep (Same.refl _) λb hb u hu=>by rw[ba (show b≠p from λz=>QW.1 (by rw[←z];exact hb))];exact hu) nd) λb hb=>.inl (by rw[eF];exact hb)⟩,E.grput g hi hH⟩
end
noncomputable def vQ(ρ:ar)(i:Nat)(nm f:Str)(k:Option Addr->List (Str×Fl)->List D->Prop):Prop:=∃a fs ds,ρ[i]?=some (some (.ob a (.obj nm fs)))/\fs.lookup f=some (.l ds)/\k a fs ds
section
variable{K:Frag}{X:Cx}{e a:Expr}{te:TX}{t:TD}{pos Nh apos Ni NY:Pos}{x nm f:Str}{C:Addr}
noncomputable def Cu(i:Nat)(nm f:Str)(t:TD):bG:=λDe ρ=>vQ ρ i nm f λa fs ds=>t (gz ρ) λd=>NoL d/\ds.length<sizeLine/\NF (fB f (.l (ds++[d])) fs) λPo=>De.nx (ρ.set i (some (.ob a (.obj nm Po))))
theorem CA(i:Nat)(c:Cls K C)(nA:NoAttr K C f)(hC:nsIn K mainGlobals nm=some (some (.ref C)))(he:PD K X e t)(NI:((backTo Ni (starEach [e] X.env)).all (λx=>!x.1)&&(backToKw Ni (keywordEach [] X.env)).all (λx=>x.1.isSome)&&decide (([e]:List Expr).length+([]:List Keyword).length+(if ([]:List Keyword).isEmpty then 0 else 1)<30))=true)
  (NV:starEach [e] X.env=(false,eval e X.env)::starEach [] X.env) (hN:X.N[i]?=some x:=by rfl) (hv:cF X.env.scope x:=by nofun) (hd:(x==("__debug__":Str))=false:=by decide) (Np:(x==("__classdict__":Str))=false:=by decide)
  (Sf:attributeBase (.Name x Nh) f X.env (eval (.Name x Nh) X.env)=eval (.Name x Nh) X.env:=by rfl)
  (Nm:attributeBase (.Attribute (.Name x Nh) f NY) "append" X.env (eval (.Attribute (.Name x Nh) f NY) X.env)=eval (.Attribute (.Name x Nh) f NY) X.env:=by rfl) (Nn:(apos.endLine==Ni.line)=true:=by rfl) (hs:swapsWith (.Call (.Attribute (.Attribute (.Name x Nh) f NY) "append" apos) [e] [] Ni) none pos.line X.env=pure false:=by rfl) :
  PSM K X (.Expr (.Call (.Attribute (.Attribute (.Name x Nh) f NY) "append" apos) [e] [] Ni) pos) (Cu i nm f t):=
 ⟨λhK=>(jk (gv Kz Ls Lu mM (rA hK (pv i hN hv hd Np) Sf) (dZ (he.pe hK) pa_nil NV) Nm NI Nn NV ag) hs).imp λE σ H Nb=>by
  obtain⟨Φ0,H0,Φ,ρ,De,g,V,⟨a0,OB,ds0,ho,hf,t⟩,k⟩:=Nb;have S:=dJ g V k.ex;obtain⟨p,dx,vs,q,ws,e1,h1,h2,h3,rl,_⟩:=S.flist hC ho hf;obtain⟨fp,E0⟩:=id V;refine⟨_,e1,p,C,dx,vs,.ref q,rfl,h1,c,nA,h2,.inl ⟨rfl,ws,SqL.of h3⟩,H0,_,gz ρ,_,E0.view,t,λd Φ1 H1 v r g1 rv=>?_⟩;have S1:=S.gr (qt E0.fz g1);obtain⟨p',dx',vs',q',Oy,Sq,Pa,Q0,QE,rl',k1⟩:=S1.flist hC ho hf;rw[e1]at Sq;cases Sq;rw[g1.h _ _ h1]at Pa;cases Pa;rw[h2]at Q0;cases Q0;have S2:=k1 _ _ (rl'.append (.one (rv.thawN (view_same.trans g1.f) r.1)))
  exact⟨q,Oy,v,rfl,rfl,QE,by rw[rl'.1];exact r.2.1,k.nx _ _ _ σ r.2.2.get S2.g S2.env⟩⟩
noncomputable def zq(i:Nat)(nm f:Str):TX:=λρ R _=>vQ ρ i nm f λa fs ds=>∃d,ds[ds.length-1]?=some d/\NF (fB f (.l ds.dropLast) fs) λPo=>R (.v d) (ρ.set i (some (.ob a (.obj nm Po))))
theorem FQ(i:Nat)(c:Cls K C)(nA:NoAttr K C f)(hC:nsIn K mainGlobals nm=some (some (.ref C)))(hN:X.N[i]?=some x:=by rfl)(hv:cF X.env.scope x:=by nofun)(hd:(x==("__debug__":Str))=false:=by decide)(Np:(x==("__classdict__":Str))=false:=by decide)
  (Sf:attributeBase (.Name x Nh) f X.env (eval (.Name x Nh) X.env)=eval (.Name x Nh) X.env:=by rfl)
  (Nm:attributeBase (.Attribute (.Name x Nh) f NY) "pop" X.env (eval (.Attribute (.Name x Nh) f NY) X.env)=eval (.Attribute (.Name x Nh) f NY) X.env:=by rfl) (Nn:(apos.endLine==Ni.line)=true:=by rfl):PX K X (.Call (.Attribute (.Attribute (.Name x Nh) f NY) "pop" apos) [] [] Ni) (zq i nm f):=
 ⟨λhK=>(Bk Kz PySem.F.slot_list_pop PySem.F.type_list_pop Ft (rA hK (pv i hN hv hd Np) Sf) Nm Nn).imp λσ H Q Nb=>by
  obtain⟨Φ0,H0,Φ,τ,ρ,κ,R,Rx,S,⟨a0,OB,ds0,ho,hf,d,hdd,t⟩,k⟩:=Nb;obtain⟨p,dx,vs,q,ws,e1,h1,h2,h3,rl,k1⟩:=S.flist hC ho hf;obtain⟨v,hv,rv⟩:=rl.at hdd;rw[←rl.1]at hv;have S2:=k1 _ _ rl.dropLast
  exact⟨_,e1,p,C,dx,vs,.ref q,rfl,h1,c,nA,h2,.inl ⟨rfl,ws,SqL.of h3⟩,q,ws,v,rfl,rfl,h3,hv,k _ _ Φ _ v t.get (S2.pushV rv) (Same.refl _)⟩⟩
noncomputable def BD(i:Nat)(nm f:Str)(te:TX):bG:=λDe ρ=>te ρ (xV λd ρ1=>∃a fs,ρ1[i]?=some (some (.ob a (.obj nm fs)))/\hZ f fs=true/\fs.length<1000/\NF (fB f (.v d) fs) λPo=>De.nx (ρ1.set i (some (.ob a (.obj nm Po))))) De.ex
theorem pb(i:Nat)(c:Cls K C)(nA:NoAttr K C f)(hC:nsIn K mainGlobals nm=some (some (.ref C)))(he:PX K X e te)(hN:X.N[i]?=some x:=by rfl)(hv:cF X.env.scope x:=by nofun)(hd:(x==("__debug__":Str))=false:=by decide)(Np:(x==("__classdict__":Str))=false:=by decide)
  (hs:swapsWith e (some (.Attribute (.Name x Nh) f NY)) pos.line X.env=pure false:=by rfl):PSM K X (.Assign [.Attribute (.Name x Nh) f NY] e pos) (BD i nm f te):=
 ⟨λhK=>(tS (f:=f) (pv i hN hv hd Np) (he.pe hK) hs).imp λE σ H Nb=>by
  obtain⟨Φ0,H0,Φ,ρ,De,g,V,t,k⟩:=Nb;refine⟨Φ0,H0,Φ,[],ρ,[],_,De.ex,dJ g V k.ex,t,λs ρ1 Φ1 H1 v r S1 _=>?_⟩;obtain⟨d,rfl,a0,OB,ho,hc,hl,r⟩:=r.get;obtain⟨p,dx,vs,e1,h1,h2,E',g'⟩:=S1.env.fsetV (f:=f) S1.g hC ho hc S1.last
  exact⟨_,e1,p,C,dx,vs,rfl,h1,hK▸c,hK▸nA,by rw[h2];exact hl,k.nx _ Φ1 _ σ r.get g' E'⟩⟩
end
theorem FlsR.lookN{K:Frag}{Φ H:Hp}{fs:List (Str×Fl)}{vs:List (Str×V)}{qs:List Addr}{f:Str}(h:FlsR K Φ H fs vs qs)(hf:fs.lookup f=none):vs.lookup f=none:=by
 have tail:∀{α:Type}{g:Str}{y:α}{r:List (Str×α)},List.lookup f ((g,y)::r)=none->(f==g)=false/\r.lookup f=none:=λ{α g y r} e=>by
  rw[JF]at e
  cases c:f==g with
  |true=>rw[c]at e;cases e
  |false=>rw[c]at e;exact⟨rfl,e⟩
 induction h with
 |nil=>rfl
 |v r t ih=>obtain⟨c,hf⟩:=tail hf;rw[JF,c];exact ih hf
 |l a1 a2 t ih=>obtain⟨c,hf⟩:=tail hf;rw[JF,c];exact ih hf
 |al t ih=>obtain⟨c,hf⟩:=tail hf;rw[JF,c];exact ih hf
structure MthM(P:Program)(w:World)(K:Frag)(mg:Str->Option Value)(base:Heap)(n:Nat)(C:Addr)(m:Str)(ps:List Str)(z:b9):Prop where
 ex:∃(f:Addr)(fd:FuncData),FnOk P w K mg base aT n f fd ps (cH K z)/\Binds K fd ps []/\Meth K C m f
structure MkM(P:Program)(w:World)(K:Frag)(mg:Str->Option Value)(base:Heap)(n:Nat)(C:Addr)(ps:List Str)(z:b9):Prop where
 ex:∃(f:Addr)(fd:FuncData),FnOk P w K mg base aT n f fd ps (cH K z)/\Binds K fd ps []/\Mk K C f
section
variable{K:Frag}{X:Cx}{e:Expr}{es:List Expr}{pos apos Nh:Pos}{tA:cn}{C:Addr}{nm m x:Str}
noncomputable def rS(i:Nat)(nm m:Str)(z:b9)(tA:cn):TX:=λρ R Rx=>(∃a fs,ρ[i]?=some (some (.ob a (.obj nm fs)))/\fs.lookup m=none)/\tA ρ (λas ρ1=>∃Ny,bE ρ1 (.s i::as)=some Ny/\qe (.s i::as)=true/\z Ny (λsm os=>R sm (az ρ1 (.s i::as) os)) (λxd os=>Rx xd (az ρ1 (.s i::as) os))) Rx
theorem kD(i:Nat){n:Nat}{ps:List Str}{z:b9}{pl:Sem Bool}(M:MthM X.prog X.w K X.mg X.base n C m ps z)(hr:Room n X.A)(c:Cls K C)(hC:nsIn K mainGlobals nm=some (some (.ref C)))
  (ha:PXA K X (e::es) tA) (he:starEach (e::es) X.env=(false,eval e X.env)::starEach es X.env) (Ot:(backTo pos (starEach es X.env)).any (·.1)=false)
  (ht:eval (.Call (.Attribute (.Name x Nh) m apos) (e::es) [] pos) X.env=(do
   let ov ←eval (.Name x Nh) X.env
   standAt apos.atName
   let (f,first) ←holding [ov] (getMethod ov m pl)
   callWith pos f first (backTo pos (starEach (e::es) X.env)) (backToKw pos (keywordEach [] X.env))):=by rfl)
  (hN:X.N[i]?=some x:=by rfl) (hv:cF X.env.scope x:=by nofun) (hd:(x==("__debug__":Str))=false:=by decide) (Np:(x==("__classdict__":Str))=false:=by decide) :
  PX K X (.Call (.Attribute (.Name x Nh) m apos) (e::es) [] pos) (rS i nm m z tA):=⟨λhK=>by
 obtain⟨f,fd,F,b,hm⟩:=M.ex;refine (Ih (dvs:=[]) (ds:=[]) (E:=E0) (pl:=pl) (pv i hN hv hd Np) (hK▸c) (hK▸hm) (hK▸F:FnOk X.prog X.w X.K X.mg X.base aT n f fd ps (cH K z)) hr (hK▸b) .nil j5 (ha.pa hK) he Ot ht).imp λσ H Q Nb=>?_;obtain⟨Φ0,H0,Φ,τ,ρ,κ,R,Rx,S,⟨⟨a,fs,ho,hl⟩,t⟩,k⟩:=Nb;obtain⟨fp,E⟩:=S.env;obtain⟨q,e1,_,ro⟩:=E.ow i a _ ho;obtain⟨C',dx,vs,qs,eF,c1,c2,c3,nd⟩:=ro.obj_inv;rw[hC]at c1;cases c1;refine⟨_,e1,q,dx,vs,rfl,c2,c3.lookN hl,Φ0,H0,Φ,τ,ρ,κ,_,Rx,S,t,λas ρ1 Φ1 H1 us ts r1 hl hv S1 f1=>?_⟩;obtain⟨Ny,O2,OF,r1⟩:=r1;obtain⟨Fs,g1,g2,g3,g4⟩:=S1.lend (as:=.s i::as) S.lk O2 (.s e1 hv) OF;rw[JW]
 exact⟨Φ1,Ny,Fs,_,_,S1.g.s,S1.E.tb,g1,g2,g3,r1,λsm os Φ' H' v F NM r gr Nq ho hn N6=>k sm _ Φ' H' v r (g4 sm os Φ' H' v F NM gr Nq ho hn N6) (f1.trans gr.f)⟩⟩
theorem Fq(i:Nat){n:Nat}{ps:List Str}{z:b9}{pl:Sem Bool}(M:MthM X.prog X.w K X.mg X.base n C m ps z)(hr:Room n X.A)(c:Cls K C)(hC:nsIn K mainGlobals nm=some (some (.ref C)))
  (ht:eval (.Call (.Attribute (.Name x Nh) m apos) [] [] pos) X.env=(do
   let ov ←eval (.Name x Nh) X.env
   standAt apos.atName
   let (f,first) ←holding [ov] (getMethod ov m pl)
   callWith pos f first (backTo pos (starEach [] X.env)) (backToKw pos (keywordEach [] X.env))):=by rfl)
  (hN:X.N[i]?=some x:=by rfl) (hv:cF X.env.scope x:=by nofun) (hd:(x==("__debug__":Str))=false:=by decide) (Np:(x==("__classdict__":Str))=false:=by decide) :
  PX K X (.Call (.Attribute (.Name x Nh) m apos) [] [] pos) (rS i nm m z oE):=⟨λhK=>by
 obtain⟨f,fd,F,b,hm⟩:=M.ex;refine (Ey (dvs:=[]) (ds:=[]) (E:=E0) (pl:=pl) (pv i hN hv hd Np) (hK▸c) (hK▸hm) (hK▸F:FnOk X.prog X.w X.K X.mg X.base aT n f fd ps (cH K z)) hr (hK▸b) .nil j5 ht).imp λσ H Q Nb=>?_;obtain⟨Φ0,H0,Φ,τ,ρ,κ,R,Rx,S,⟨⟨a,fs,ho,hl⟩,t⟩,k⟩:=Nb;obtain⟨fp,E⟩:=S.env;obtain⟨q,e1,_,ro⟩:=E.ow i a _ ho;obtain⟨C',dx,vs,qs,eF,c1,c2,c3,nd⟩:=ro.obj_inv;rw[hC]at c1;cases c1;obtain⟨Ny,O2,OF,r1⟩:=t
 have S1:StM K X Φ0 H0 Φ H σ (τ++[]) ρ (κ++cX [.s i]) Rx:=by rw[JW,show cX [.s i]=[]from rfl,JW];exact S
 obtain⟨Fs,g1,g2,g3,g4⟩:=S1.lend (as:=[.s i]) S.lk O2 (.s e1 .nil) OF;refine⟨_,e1,q,dx,vs,rfl,c2,c3.lookN hl,?_⟩
 exact⟨Φ,Ny,Fs,_,_,S1.g.s,S1.E.tb,g1,g2,g3,r1,λsm os Φ' H' v F NM r gr Nq ho hn N6=>k sm _ Φ' H' v r (g4 sm os Φ' H' v F NM gr Nq ho hn N6) gr.f⟩⟩
noncomputable def Dh(nm:Str)(z:b9)(tA:cn):TX:=λρ R Rx=>tA ρ (xaD λds ρ1=>z (.ob none (.obj nm [])::ds.map Sm.v) (λsm os=>match sm,os with|.v .non,[o]=>R (.ob none o) ρ1|_,_=>False) (λ_ _=>False)) Rx
theorem uc{Φ H:Hp}:∀{ds:List D}{vs:List V},RpL K Φ ds vs->ArgM K Φ H (ds.map Sm.v) vs (ds.map λ_=>[])
 | [],[],_=>.nil
 | [],_::_,h=>by cases h.1
 |_::_,[],h=>by cases h.1
 |d::ds,v::vs,h=>.v (h.2 0 v d rfl rfl) (uc ⟨by have:=h.1;simpa using this,λi v' d' hv hd=>h.2 (i+1) v' d' hv hd⟩)
theorem vH{Φ H:Hp}:∀{ds:List D}{vs:List V}{os:List Om}{Fs:List (List Addr)},OutM K Φ H (ds.map Sm.v) vs os Fs->os=[]/\Fs.flatten=[]
 | [],_,_,_,.nil=>⟨rfl,rfl⟩
 |_::ds,_,_,_,.v h=>by obtain⟨h1,h2⟩:=vH (ds:=ds) h;exact⟨h1,by rw[JK,h2];rfl⟩
theorem nN{α β:Type}:∀(ds:List α),(ds.map λ_=>([]:List β)).flatten=[]
 | []=>rfl
 |_::ds=>by rw[Jq,JK,nN ds];rfl
end
section
variable{K:Frag}{H0 H H' Φ Φ0:Hp}{σ:St}{ρ:ar}{fp:Nat->List Addr}{F':List Addr}{o o':Om}{p:Addr}{d:D}{v:V}{i:Nat}{a:Option Addr}
theorem EnvM'.put2(E:EnvM' K H0 Φ H σ ρ fp)(hi:ρ[i]?=some (some (.ob a o)))(si:σ[i]?=some (some (.ref p)))(hH:∀b u,H b=some u->b∉fp i->H' b=some u)(hO:OmS K Φ H' o' p F')(hF:∀b∈F',b∈fp i\/(H0 b=none/\Φ b=none/\∀(j:Nat)(a':Option Addr)(o2:Om),ρ[j]?=some (some (.ob a' o2))->b∉fp j)) :
  EnvM' K H0 Φ H' σ (ρ.set i (some (.ob a o'))) (λj=>if j=i then F' else fp j):=by
 have Nu:=aU hi
 have cs:∀{j:Nat}{x:Sm},(ρ.set i (some (Sm.ob a o')))[j]?=some (some x)->(j=i/\x=.ob a o')\/(j≠i/\ρ[j]?=some (some x)):=λ{j x} h=>by
  rcases cW h with⟨e,_,e1⟩|⟨e,h⟩
  ·cases e1;exact .inl ⟨e,rfl⟩
  ·exact .inr ⟨e,h⟩
 have nf:∀b∈F',∀(j:Nat)(a':Option Addr)(o2:Om),ρ[j]?=some (some (.ob a' o2))->j≠i->b∉fp j:=λb hb j a' o2 hj c z=>by
  rcases hF b hb with h|⟨_,_,h⟩
  ·exact E.dj j i a' a o2 o hj hi c b z h
  ·exact h j a' o2 hj z
 refine⟨λb u e=>hH b u (E.fz b u e) λz=>?_,by rw[Jg,E.len],λj d h=>?_,λj a' o2 h=>?_,λj a' o2 h b hb=>?_,λj k a1 a2 o1 o2 hj hk c b hb Nv=>?_,E.tb⟩
 ·rw[(E.no i a o hi b z).2]at e;cases e
 ·rcases cs h with⟨_,h⟩|⟨_,h⟩
  ·cases h
  ·exact E.sl j d h
 ·rcases cs h with⟨c,h⟩|⟨c,h⟩
  ·cases h;subst c;obtain⟨q,e,ha,_⟩:=E.ow j a o hi;rw[si]at e;cases e;exact⟨p,si,ha,by rw[Ja rfl];exact hO⟩
  ·obtain⟨q,e,ha,r⟩:=E.ow j a' o2 h;refine⟨q,e,ha,?_⟩;rw[I0 c];exact r.keep (Same.refl _) λb hb u hu=>hH b u hu λz=>E.dj j i a' a o2 o h hi c b hb z
 ·rcases cs h with⟨c,h⟩|⟨c,h⟩
  ·rw[Ja c]at hb;rcases hF b hb with z|⟨z1,z2,_⟩
   ·exact E.no i a o hi b z
   ·exact⟨z1,z2⟩
  ·rw[I0 c]at hb;exact E.no j a' o2 h b hb
 ·rcases cs hj with⟨cj,hj⟩|⟨cj,hj⟩
  ·rw[Ja cj]at hb;rcases cs hk with⟨ck,hk⟩|⟨ck,hk⟩
   ·omega
   ·rw[I0 ck]at Nv;exact nf b hb k a2 o2 hk ck Nv
  ·rw[I0 cj]at hb;rcases cs hk with⟨ck,hk⟩|⟨ck,hk⟩
   ·rw[Ja ck]at Nv;exact nf b Nv j a1 o1 hj cj hb
   ·rw[I0 ck]at Nv;exact E.dj j k a1 a2 o1 o2 hj hk c b hb Nv
theorem EnvM.fsetL{nm f:Str}{fs:List (Str×Fl)}{ds:List D}{C:Addr}{a':Option Addr}(E:EnvM K H0 Φ H (σ++[some v]) (ρ++[some (.ob a' (.lst ds))]))(hl:ρ.length=σ.length)(g:Gr Φ0 H0 Φ H)(hC:nsIn K mainGlobals nm=some (some (.ref C)))(hi:ρ[i]?=some (some (.ob a (.obj nm fs))))(hc:fs.lookup f=none):∃p dx vs,σ[i]?=some (some (.ref p))/\H p=some (.ins C dx vs)/\vs.length=fs.length /\
  EnvM K H0 Φ (ak H p (.ins C dx (cz f v vs))) σ (ρ.set i (some (.ob a (.obj nm (fB f (.l ds) fs)))))/\Gr Φ0 H0 Φ (ak H p (.ins C dx (cz f v vs))):=by
 obtain⟨fp,E⟩:=E
 have NX:(ρ++[some (Sm.ob a' (.lst ds))])[ρ.length]?=some (some (.ob a' (.lst ds))):=by rw[IU (Jc _),JG];rfl
 obtain⟨q,eq,_,rq⟩:=E.ow _ _ _ NX
 have ev:v=.ref q:=by rw[hl,IU (Jc _),JG]at eq;cases eq;rfl
 subst ev;obtain⟨eFq,ws,q1,q2⟩:=rq.lst_inv
 have hq:q∈fp ρ.length:=by rw[eFq];exact Ji.mpr rfl
 have noq:=E.no _ _ _ NX q hq
 have up:∀{j:Nat}{x:Sm},ρ[j]?=some (some x)->(ρ++[some (Sm.ob a' (.lst ds))])[j]?=some (some x):=λh=>by rw[wy (aU h)];exact h
 have djq:∀(j:Nat)(a2:Option Addr)(o2:Om),ρ[j]?=some (some (.ob a2 o2))->q∉fp j:=λj a2 o2 hj z=>E.dj j ρ.length a2 a' o2 _ (up hj) NX (by have:=aU hj;omega) q z hq;have E1:EnvM' K H0 Φ H σ ρ fp:=E.take hl;obtain⟨p,e,_,ro⟩:=E1.ow i a _ hi;obtain⟨C',dx,vs,qs,eF,c1,c2,c3,nd⟩:=ro.obj_inv;rw[hC]at c1;cases c1
 have TU:p∈fp i:=by rw[eF];exact IZ
 have hH:∀b u,H b=some u->b∉fp i->ak H p (.ins C dx (cz f (.ref q) vs)) b=some u:=λb u e hn=>by
  rw[ba λz=>hn (by rw[z];exact TU)];exact e
 have QW:=nd;rw[Jy]at QW
 have Tt:q∉p::qs:=by rw[←eF];exact djq i a _ hi
 have Pt:(p::(qs++[q])).Nodup:=by rw[←Lh,Kq];exact⟨nd,by simp,λb hb c hc z=>by rw[Ji.mp hc]at z;exact Tt (z▸hb)⟩
 refine⟨p,dx,vs,e,c2,c3.len,⟨_,E1.put2 hi e hH (F':=p::(qs++[q])) (.obj hC bq ((c3.setL hc q1 q2).keep (Same.refl _) λb hb u hu=>?_) Pt) λb hb=>?_⟩,E1.grput g hi hH⟩
 ·rw[ba (show b≠p from λz=>?_)]
  ·exact hu
  ·rw[Jy]at Pt;exact Pt.1 (by rw[←z];exact hb)
 ·rw[←Lh]at hb;rcases Jv.mp hb with hb|hb
  ·exact .inl (by rw[eF];exact hb)
  ·rw[Ji.mp hb];exact .inr ⟨noq.1,noq.2,djq⟩
end
section
variable{K:Frag}{X:Cx}{e a:Expr}{te:TX}{t:TD}{pos Nh NY:Pos}{x nm f:Str}{C:Addr}
noncomputable def DL(i:Nat)(nm f:Str)(te:TX):bG:=λDe ρ=>te ρ (λs ρ1=>match s with|.ob _ (.lst ds)=>(∃a fs,ρ1[i]?=some (some (.ob a (.obj nm fs)))/\fs.lookup f=none/\fs.length<1000/\NF (fB f (.l ds) fs) λPo=>De.nx (ρ1.set i (some (.ob a (.obj nm Po)))))|_=>False) De.ex
theorem Dy(i:Nat)(c:Cls K C)(nA:NoAttr K C f)(hC:nsIn K mainGlobals nm=some (some (.ref C)))(he:PX K X e te)(hN:X.N[i]?=some x:=by rfl)(hv:cF X.env.scope x:=by nofun)(hd:(x==("__debug__":Str))=false:=by decide)(Np:(x==("__classdict__":Str))=false:=by decide)
  (hs:swapsWith e (some (.Attribute (.Name x Nh) f NY)) pos.line X.env=pure false:=by rfl):PSM K X (.Assign [.Attribute (.Name x Nh) f NY] e pos) (DL i nm f te):=
 ⟨λhK=>(tS (f:=f) (pv i hN hv hd Np) (he.pe hK) hs).imp λE σ H Nb=>by
  obtain⟨Φ0,H0,Φ,ρ,De,g,V,t,k⟩:=Nb;refine⟨Φ0,H0,Φ,[],ρ,[],_,De.ex,dJ g V k.ex,t,λs ρ1 Φ1 H1 v r S1 _=>?_⟩;split at r
  ·next a1 ds=>
   obtain⟨a0,OB,ho,hc,hl,r⟩:=r;obtain⟨p,dx,vs,e1,h1,h2,E',g'⟩:=EnvM.fsetL (f:=f) S1.E S1.l S1.g hC ho hc;exact⟨_,e1,p,C,dx,vs,rfl,h1,hK▸c,hK▸nA,by rw[h2];exact hl,k.nx _ Φ1 _ σ r.get g' E'⟩
  ·exact r.elim⟩
end
section
variable{P:Program}{w:World}{K:Frag}{mg:Str->Option Value}{base:Heap}{n m:Nat}{C:Addr}{x:Str}{ps:List Str}
theorem MthM.mono{z:b9}(M:MthM P w K mg base n C x ps z)(k:n<=m:=by decide):MthM P w K mg base m C x ps z:=by obtain⟨f,fd,F,r⟩:=M.ex;exact⟨f,fd,F.mono k,r⟩
theorem MkM.mono{z:b9}(M:MkM P w K mg base n C ps z)(k:n<=m:=by decide):MkM P w K mg base m C ps z:=by obtain⟨f,fd,F,r⟩:=M.ex;exact⟨f,fd,F.mono k,r⟩
end
section
variable{K:Frag}{H0 H H' Φ Φ':Hp}{σ:St}{ρ:ar}{fp:Nat->List Addr}{p q:Addr}{i k:Nat}
theorem EnvM.noadr{a:Option Addr}{o:Om}(E:EnvM K H0 Φ H σ ρ)(hi:ρ[i]?=some (some (.ob a o))):EnvM K H0 Φ H σ (ρ.set i (some (.ob none o))):=by
 obtain⟨fp,E⟩:=E
 have cs:∀{m:Nat}{x:Sm},(ρ.set i (some (Sm.ob none o)))[m]?=some (some x)->(m=i/\x=.ob none o)\/(m≠i/\ρ[m]?=some (some x)):=λ{m x} h=>by
  rcases cW h with⟨e,_,e1⟩|⟨e,h⟩
  ·cases e1;exact .inl ⟨e,rfl⟩
  ·exact .inr ⟨e,h⟩
 have back:∀{m:Nat}{c:Option Addr}{om:Om},(ρ.set i (some (Sm.ob none o)))[m]?=some (some (.ob c om))->∃c',ρ[m]?=some (some (.ob c' om)):=λ{m c om} h=>by
  rcases cs h with⟨c1,h9⟩|⟨_,h9⟩
  ·cases h9;exact⟨_,by rw[c1];exact hi⟩
  ·exact⟨_,h9⟩
 refine⟨fp,E.fz,by rw[Jg,E.len],λm d h=>?_,λm c om h=>?_,λm c om h=>?_,λm k c c' om Ov hm hk=>?_,E.tb⟩
 ·rcases cs h with⟨_,h⟩|⟨_,h⟩
  ·cases h
  ·exact E.sl m d h
 ·rcases cs h with⟨c1,h9⟩|⟨_,h9⟩
  ·cases h9;obtain⟨p,e,_,r⟩:=E.ow i a o hi;exact⟨p,by rw[c1];exact e,(λq e=>by cases e),by rw[c1];exact r⟩
  ·exact E.ow m c om h9
 ·obtain⟨c',h'⟩:=back h;exact E.no m c' om h'
 ·obtain⟨e1,h1⟩:=back hm;obtain⟨e2,h2⟩:=back hk;exact E.dj m k e1 e2 om Ov h1 h2
theorem EnvM.outT{ps:List (Addr×Option (List D))}{ds:List D}{v:V}(E:EnvM K H0 Φ H (σ++[some v]) (ρ++[some (.ob none (.tl ps))]))(i:Nat)(hi:i<ρ.length)(hk:ps[k]?=some (q,some ds)) :
  EnvM K H0 Φ H (σ.set i (some (.ref q))++[some v]) (ρ.set i (some (.own ds))++[some (.ob none (.tl (ps.set k (q,none))))]):=by
 have hl:σ.length=ρ.length:=by have:=E.len;simpa using this
 have E1:=(E.pnt i q).opn (i:=i) (j:=ρ.length) (k:=k) (a':=none) (ps:=ps) (q:=q) (ds:=ds) (by omega)
  (by rw[Jt (by rw[IW];omega)]) (by rw[Js (by omega),IU (Jc _),JG];rfl) hk
 rw[KQ _ _ (by omega),KQ _ _ hi,KQ _ _ (by rw[Jg];exact hi),MX _ _ (by rw[Jg,Jg];exact Jc _),List.set_set,Jg,JG]at E1;have E2:=E1.noadr (i:=i) (a:=some q) (o:=.lst ds) (by rw[wy (by rw[Jg];exact hi),Jt hi]);rw[KQ _ _ (by rw[Jg];exact hi),List.set_set]at E2;exact E2
theorem EnvM.gath{v1 v2 v3:V}{z1 z2 z3:List D}(E:EnvM K H0 Φ H (σ++[some v1,some v2,some v3]) (ρ++[some (.own z1),some (.own z2),some (.own z3)]))(hl:ρ.length=σ.length)(g:Gr Φ H Φ' H')(hp:Φ' p=some (.tup [v1,v2,v3])) :
  ∃q1 q2 q3,EnvM K H0 Φ' H' (σ++[some (.ref p)]) (ρ++[some (.ob none (.tl [(q1,some z1),(q2,some z2),(q3,some z3)]))]):=by
 obtain⟨fp,E⟩:=E.gr g
 have h1:(ρ++[some (Sm.own z1),some (.own z2),some (.own z3)])[ρ.length]?=some (some (.ob none (.lst z1))):=by rw[IU (Jc _),JG];rfl
 have h2:(ρ++[some (Sm.own z1),some (.own z2),some (.own z3)])[ρ.length+1]?=some (some (.ob none (.lst z2))):=by rw[IU (by omega),JU];rfl
 have h3:(ρ++[some (Sm.own z1),some (.own z2),some (.own z3)])[ρ.length+2]?=some (some (.ob none (.lst z3))):=by rw[IU (by omega),JU];rfl
 obtain⟨q1,e1,_,r1⟩:=E.ow _ _ _ h1;obtain⟨q2,e2,_,r2⟩:=E.ow _ _ _ h2;obtain⟨q3,e3,_,r3⟩:=E.ow _ _ _ h3;rw[hl,IU (Jc _),JG]at e1;rw[hl,IU (by omega),JU]at e2 e3;cases e1;cases e2;cases e3;obtain⟨f1,w1,a1,b1⟩:=r1.lst_inv;obtain⟨f2,w2,a2,b2⟩:=r2.lst_inv;obtain⟨f3,w3,a3,b3⟩:=r3.lst_inv;have n12:q1≠q2:=λe=>E.dj _ _ _ _ _ _ h1 h2 (by omega) q1 (by rw[f1];exact Ji.mpr rfl) (by rw[f2,e];exact Ji.mpr rfl);have n13:q1≠q3:=λe=>E.dj _ _ _ _ _ _ h1 h3 (by omega) q1 (by rw[f1];exact Ji.mpr rfl) (by rw[f3,e];exact Ji.mpr rfl);have n23:q2≠q3:=λe=>E.dj _ _ _ _ _ _ h2 h3 (by omega) q2 (by rw[f2];exact Ji.mpr rfl) (by rw[f3,e];exact Ji.mpr rfl)
 have RI:∀b∈[q1,q2,q3],b∈fp ρ.length\/b∈fp (ρ.length+1)\/b∈fp (ρ.length+2):=λb hb=>by rw[f1,f2,f3];simpa using hb
 have cs:∀{m:Nat}{x:Sm},(ρ++[some (Sm.ob none (.tl [(q1,some z1),(q2,some z2),(q3,some z3)]))])[m]?=some (some x)->(m<ρ.length/\ρ[m]?=some (some x))\/(m=ρ.length/\x=.ob none (.tl [(q1,some z1),(q2,some z2),(q3,some z3)])):=λ{m x} h=>by
  rcases JI m ρ.length with c|c
  ·rw[wy c]at h;exact .inl ⟨c,h⟩
  ·rw[IU c]at h
   cases e:m-ρ.length with
   |zero=>rw[e]at h;cases h;exact .inr ⟨by omega,rfl⟩
   |succ n=>rw[e]at h;cases h
 have up:∀{m:Nat}{x:Sm},ρ[m]?=some (some x)->(ρ++[some (Sm.own z1),some (.own z2),some (.own z3)])[m]?=some (some x):=λ{m x} h=>by rw[wy (aU h)];exact h
 have dn:∀{m:Nat}{y:Option V},m<ρ.length->(σ++[some (V.ref q1),some (.ref q2),some (.ref q3)])[m]?=some y->(σ++[some (V.ref p)])[m]?=some y:=λ{m y} c e=>by rw[wy (by omega)]at e ⊢;exact e
 refine⟨q1,q2,q3,λm=>if m=ρ.length then [q1,q2,q3] else fp m,E.fz,by rw[IW,IW,hl];rfl,λm d h=>?_,λm c om h=>?_,λm c om h b hb=>?_,λm n c c' om Ov hm hn hc b hb Nv=>?_,E.tb⟩
 ·rcases cs h with⟨c,h9⟩|⟨_,h9⟩
  ·obtain⟨v,e,r⟩:=E.sl m d (up h9);exact⟨v,dn c e,r⟩
  ·cases h9
 ·rcases cs h with⟨c1,h9⟩|⟨c1,h9⟩
  ·obtain⟨v,e,ha,r⟩:=E.ow m c om (up h9);exact⟨v,dn c1 e,ha,by rw[I0 (by omega)];exact r⟩
  ·cases h9;refine⟨p,by rw[c1,hl,IU (Jc _),JG];rfl,(λ_ z=>by cases z),?_⟩;rw[Ja c1];exact .tl hp (.own a1 b1 (.own a2 b2 (.own a3 b3 .nil))) (by simp[n12,n13,n23])
 ·rcases cs h with⟨c1,h9⟩|⟨c1,h9⟩
  ·rw[I0 (by omega)]at hb;exact E.no m c om (up h9) b hb
  ·rw[Ja c1]at hb;rcases RI b hb with h|h|h
   ·exact E.no _ _ _ h1 b h
   ·exact E.no _ _ _ h2 b h
   ·exact E.no _ _ _ h3 b h
 ·have y1:b∈(if m=ρ.length then [q1,q2,q3] else fp m):=hb;have y2:b∈(if n=ρ.length then [q1,q2,q3] else fp n):=Nv
  have key:∀(m':Nat)(c:Option Addr)(om:Om),m'<ρ.length->ρ[m']?=some (some (.ob c om))->b∈fp m'->b∈[q1,q2,q3]->False:=λm' c om hl' RH hx hy=>by
   rcases RI b hy with h|h|h
   ·exact E.dj _ _ _ _ _ _ (up RH) h1 (by omega) b hx h
   ·exact E.dj _ _ _ _ _ _ (up RH) h2 (by omega) b hx h
   ·exact E.dj _ _ _ _ _ _ (up RH) h3 (by omega) b hx h
  rcases cs hm with⟨c1,h9⟩|⟨c1,h9⟩
  ·rw[I0 (by omega)]at y1;rcases cs hn with⟨d1,k9⟩|⟨d1,k9⟩
   ·rw[I0 (by omega)]at y2;exact E.dj m n c c' om Ov (up h9) (up k9) hc b y1 y2
   ·rw[Ja d1]at y2;exact key m c om c1 h9 y1 y2
  ·rw[Ja c1]at y1;rcases cs hn with⟨d1,k9⟩|⟨d1,k9⟩
   ·rw[I0 (by omega)]at y2;exact key n c' Ov d1 k9 y2 y1
   ·omega
end
section
variable{K:Frag}{X:Cx}{e:Expr}{es:List Expr}{te:TX}{tA:cn}{pos p1 p2 p3 p4:Pos}
noncomputable def BV(tA:cn):TX:=λρ R Rx=>tA ρ (λas ρ1=>∃z1 z2 z3,as=[.t (.own z1),.t (.own z2),.t (.own z3)]/\∀q1 q2 q3,R (.ob none (.tl [(q1,some z1),(q2,some z2),(q3,some z3)])) ρ1) Rx
theorem G3{k:Nat}(h:PXA K X es tA)(OR:Nat.ble es.length 1000=true:=by rfl):PX K X (.Tuple es k pos) (BV tA):=
 ⟨λhK=>(nZ (h.pa hK)).imp λσ H Q Nb=>by
  obtain⟨Φ0,H0,Φ,τ,ρ,κ,R,Rx,S,t,k⟩:=Nb;refine⟨Φ0,H0,Φ,τ,ρ,κ,_,Rx,S,t,λas ρ1 Φ1 H1 vs ts r1 hl hv S1 f1=>?_⟩;obtain⟨z1,z2,z3,rfl,r⟩:=r1
  cases hv with|t hv=>cases hv with|t hv=>cases hv with|t hv=>
  cases hv;rename_i v1 v2 v3;refine⟨by rw[Kd];show 3<=16777216;decide,λp hp=>?_⟩;have g:=Gr.new S1.g.s hp (.tup [v1,v2,v3]);have lk:κ.length=τ.length:=S.lk;have l2:=S1.l;have E:=S1.E
  have E':EnvM K H0 Φ1 H1 ((σ++τ)++[some v1,some v2,some v3]) ((ρ1++κ)++[some (.own z1),some (.own z2),some (.own z3)]):=by rw[Jk,Jk];exact E
  obtain⟨q1,q2,q3,E2⟩:=E'.gath (p:=p) (by rw[IW,IW];omega) g bq;rw[Jk,Jk]at E2
  exact k _ ρ1 _ _ _ (r q1 q2 q3) ⟨S1.g.trans g,l2,E2,S1.x⟩ (f1.trans g.f)⟩
noncomputable def D1(i1 i2 i3:Nat)(te:TX):bG:=λDe ρ=>te ρ (λs ρ1=>∃q1 q2 q3 z1 z2 z3,s=.ob none (.tl [(q1,some z1),(q2,some z2),(q3,some z3)])/\(i1<ρ1.length/\i2<ρ1.length/\i3<ρ1.length)/\De.nx (((ρ1.set i1 (some (.own z1))).set i2 (some (.own z2))).set i3 (some (.own z3)))) De.ex
theorem Hf{k:Nat}{n1 n2 n3:Str}(i1 i2 i3:Nat)(hc:X.calm=true)(hN:X.N.Nodup)(h1:X.N[i1]?=some n1)(h2:X.N[i2]?=some n2)(h3:X.N[i3]?=some n3)(l1:di X.env.scope n1)(l2:di X.env.scope n2)(l3:di X.env.scope n3)(he:PX K X e te)
  (f1:X.fn n1=true\/X.env.scope.names.lookup n1=some .local:=by nofun) (f2:X.fn n2=true\/X.env.scope.names.lookup n2=some .local:=by nofun) (f3:X.fn n3=true\/X.env.scope.names.lookup n3=some .local:=by nofun)
  (hs:swapsWithSole [.Tuple [.Name n1 p1,.Name n2 p2,.Name n3 p3] k p4] e pos.line X.env=pure false:=by rfl) (hw:swappedStores [.Tuple [.Name n1 p1,.Name n2 p2,.Name n3 p3] k p4] e X.env=pure none:=by rfl)
  (ha:(assignEach [.Tuple [.Name n1 p1,.Name n2 p2,.Name n3 p3] k p4] X.env).map (·.2)=[assign (.Tuple [.Name n1 p1,.Name n2 p2,.Name n3 p3] k p4) X.env]:=by rfl)
  (c1:(assignEach [.Name n1 p1,.Name n2 p2,.Name n3 p3] X.env).map (·.2)=assign (.Name n1 p1) X.env::(assignEach [.Name n2 p2,.Name n3 p3] X.env).map (·.2):=by rfl) (c2:(assignEach [.Name n2 p2,.Name n3 p3] X.env).map (·.2)=assign (.Name n2 p2) X.env::(assignEach [.Name n3 p3] X.env).map (·.2):=by rfl) (c3:(assignEach [.Name n3 p3] X.env).map (·.2)=assign (.Name n3 p3) X.env::(assignEach [] X.env).map (·.2):=by rfl)
  (hn:(assignEach [.Name n1 p1,.Name n2 p2,.Name n3 p3] X.env).length=3:=by rfl) (N5:(assignEach [.Name n1 p1,.Name n2 p2,.Name n3 p3] X.env).findIdx? (·.1)=none:=by rfl) :
  PSM K X (.Assign [.Tuple [.Name n1 p1,.Name n2 p2,.Name n3 p3] k p4] e pos) (D1 i1 i2 i3 te):=
 ⟨λhK=>(kA (he.pe hK) (qB hc (iK (iU hN h1 l1 f1) (iK (iU hN h2 l2 f2) (iK (iU hN h3 l3 f3) pgs_nil c3) c2) c1) hn N5) hs hw ha).imp λE σ H Nb=>by
  obtain⟨Φ0,H0,Φ,ρ,De,g,V,t,k⟩:=Nb;refine⟨Φ0,H0,Φ,[],ρ,[],_,De.ex,dJ g V k.ex,t,λs ρ1 Φ1 H1 v r S1 _=>?_⟩;obtain⟨q1,q2,q3,z1,z2,z3,rfl,⟨y1,y2,y3⟩,r⟩:=r;have E1:EnvM K H0 Φ1 H1 (σ++[some v]) (ρ1++[some (.ob none (.tl [(q1,some z1),(q2,some z2),(q3,some z3)]))]):=S1.E;have hl:=S1.l;obtain⟨fp,E1'⟩:=id E1;obtain⟨tp,s,_,rr⟩:=E1'.ow ρ1.length none _ (by rw[IU (Jc _),JG];rfl);rw[hl,IU (Jc _),JG]at s;cases s;obtain⟨hp,_,_⟩:=rr.tl_inv;have E2:=E1.outT i1 y1 (k:=0) (q:=q1) (ds:=z1) rfl;have E3:=E2.outT i2 (by rw[Jg];exact y2) (k:=1) (q:=q2) (ds:=z2) rfl;have E4:=E3.outT i3 (by rw[Jg,Jg];exact y3) (k:=2) (q:=q3) (ds:=z3) rfl;refine⟨tp,_,rfl,SqT.of (E1'.fz _ _ hp),rfl,_,_,rfl,_,_,rfl,_,_,rfl,rfl,?_⟩
  exact k.nx _ Φ1 H1 _ r S1.g (E4.take (by rw[Jg,Jg,Jg,Jg,Jg,Jg];exact hl))⟩
end
section
variable{K:Frag}{X:Cx}{e:Expr}{pos p:Pos}{C:Addr}{x:Str}
theorem Ga{n:Nat}{ps:List Str}{z:b9}(M:MkM X.prog X.w K X.mg X.base n C ps z)(hr:Room (n+1) X.A)(hg:Gl X x)(hm:X.mg x=some (.ref C))(hC:nsIn K mainGlobals x=some (some (.ref C)))
  (OA:(x==("__debug__":Str))=false:=by decide) :
  PX K X (.Call (.Name x p) [] [] pos) (Dh x z oE):=⟨λhK=>by
 obtain⟨f,fd,F,b,mk⟩:=M.ex;refine (zE (dvs:=[]) (ds:=[]) (E:=E0) (hK▸mk) (hK▸F:FnOk X.prog X.w X.K X.mg X.base aT n f fd ps (cH K z)) hr hg hm (hK▸b) .nil j5 OA).imp λσ H Q Nb=>?_;obtain⟨Φ0,H0,Φ,τ,ρ,κ,R,Rx,S,t,k⟩:=Nb;have r1:z (.ob none (.obj x [])::([]:List D).map Sm.v) (λsm os=>match sm,os with|.v .non,[o]=>R (.ob none o) ρ|_,_=>False) (λ_ _=>False):=t;have rl:RpL K Φ [] []:=.nil;intro y dy hy hdy N4
 have old:∀b u,H b=some u->ak (ak H dy (.own y)) y (.ins C dy []) b=some u:=λb u e=>by rw[ba (dA e hy),ba (dA e hdy)];exact e
 refine⟨Φ,_,_,_,_,λb u e=>old b u (S.g.s b u e),S.E.tb,.o (.obj hC bq .nil (by simp)) (uc rl),?_,λb hb=>?_,r1,λsm os Φ' H' v F NM r gr Nq ho hn N6=>?_⟩
 ·rw[JK,nN];simp
 ·rw[JK,nN,JW,Ji]at hb;rw[hb];exact S.g.s.free hy
 ·split at r
  ·next o=>
   cases Nq with
   |v rv=>
    cases rv
    cases ho with
    |o Pu OS=>
     rename_i F' NM;obtain⟨_,eF⟩:=vH (ds:=[]) OS
     have hfl:(([y]:List Addr)::([]:List D).map λ_=>([]:List Addr)).flatten=[y]:=by rw[JK,nN];rfl
     rw[hfl]at gr N6
     have up:∀b u,H b=some u->cU (ak (ak H dy (.own y)) y (.ins C dy [])) [y] b=some u:=λb u e=>by rw[gL λz=>dA e hy (Ji.mp z)];exact old b u e
     have g':Gr Φ H Φ' H':=⟨gr.f,λb u e=>gr.h b u (up b u e),gr.s,λb u h1 h2 k=>gr.o b u (up b u h1) h2 k⟩;refine⟨rfl,k _ ρ Φ' H' _ r (S.pushO g' Pu λb hb=>?_) gr.f⟩;obtain⟨z1,z2⟩:=N6 b (by rw[Lm,JK];exact Jv.mpr (.inl hb));refine⟨?_,z2⟩;by_cases c:b=y
     ·rw[c];exact hy
     ·rw[gL (by simpa using c),ba c]at z1;by_cases c2:b=dy
      ·rw[c2];exact hdy
      ·rwa [ba c2]at z1
  ·exact r.elim⟩
end
end L2
namespace Tx
open PySem
noncomputable abbrev L(x:Str):List Nat:=x.cps.toList
theorem qN{x y:Str}(h:L x=L y):x=y:=Str.ext' (Array.toList_inj.mp h)
theorem sH(x y:Str):L (x++y)=L x++L y:=by unfold L;rw[Str.cps_append,Array.toList_append]
theorem uS{c:Nat}:∀{x y a b:List Nat},c∉x->c∉y->x++c::a=y++c::b->x=y/\a=b
 | [],[],a,b,_,_,h=>by cases h;exact⟨rfl,rfl⟩
 | [],y::ys,a,b,_,hy,h=>by cases h;exact absurd IZ hy
 |x::xs,[],a,b,hx,_,h=>by cases h;exact absurd IZ hx
 |x::xs,y::ys,a,b,hx,hy,h=>by obtain⟨h1,h2⟩:=M7 h;obtain⟨e1,e2⟩:=uS (λz=>hx (IY _ z)) (λz=>hy (IY _ z)) h2;exact⟨by rw[h1,e1],e2⟩
theorem je(s x y:Str)(r:List Str):L (Str.join s (x::y::r))=L x++(L s++L (Str.join s (y::r))):=by show L (x++s++Str.join s (y::r))=_;rw[sH,sH,Jk]
theorem uZ{c:Nat}:∀{xs ys:List Str},xs≠[]->ys≠[]->(∀x∈xs,c∉L x)->(∀y∈ys,c∉L y)->Str.join ⟨#[c]⟩ xs=Str.join ⟨#[c]⟩ ys->xs=ys
 | [],_,h,_,_,_,_=>absurd rfl h
 |_,[],_,h,_,_,_=>absurd rfl h
 | [x],[y],_,_,_,_,h=>by rw[show x=y from h]
 | [x],y::y2::ys,_,_,hx,_,h=>by have h2:L x=_:=(Kl L h).trans (je _ _ _ _);exact absurd (h2▸JO _ IZ) (hx x IZ)
 |x::x2::xs,[y],_,_,_,hy,h=>by have h2:L y=_:=(Kl L h.symm).trans (je _ _ _ _);exact absurd (h2▸JO _ IZ) (hy y IZ)
 |x::x2::xs,y::y2::ys,_,_,hx,hy,h=>by
  have h2:=Kl L h;rw[je,je]at h2;obtain⟨e1,e2⟩:=uS (hx x IZ) (hy y IZ) h2;have:=uZ (xs:=x2::xs) (ys:=y2::ys) (by simp) (by simp) (λz hz=>hx z (IY _ hz)) (λz hz=>hy z (IY _ hz)) (qN e2);rw[qN e1,this]
theorem oz{c:Nat}{ws:List Str}(h:ws≠[])(hf:∀w∈ws,c∉L w):Txt.split (Str.join ⟨#[c]⟩ ws) ⟨#[c]⟩=ws:=by
 refine uZ ?_ h (StrLaws.split_free _ c) hf (StrLaws.join_split _ _);intro e;have:=LG (Str.join ⟨#[c]⟩ ws) ⟨#[c]⟩;rw[e]at this;cases this
noncomputable def eY(c:Nat):Bool:=97<=c&&c<=122
noncomputable def eM(c:Nat):Bool:=48<=c&&c<=57
noncomputable def bQ(w:Str):Bool:=1<=w.length&&w.length<=12&&(L w).all eY
noncomputable def cV(l:List Nat):Bool:=1<=l.length&&l.length<=4&&l.all eM
noncomputable def gf(l:List Nat):Option Int:=match l with
 |45::r=>if cV r&&r.head? != some 48 then some (-(NumText.digitsVal r:Int)) else none
 |_=>if cV l&&(l.head? != some 48 ||l==[48]) then some (NumText.digitsVal l:Int) else none
noncomputable def bu(w:Str):Option Int:=gf (L w)
noncomputable def nstr(i:Int):Str:=Str.ofString (toString i)
theorem Iw{m:Nat}(h:m<10):(Nat.digitChar m).toNat=48+m:=by
 have:∀m:Nat,m<10->(Nat.digitChar m).toNat=48+m:=by decide
 exact this m h
noncomputable def dg(m:Nat):List Nat:=(Nat.toDigits 10 m).map Char.toNat
theorem iR{m:Nat}(h:m<10):dg m=[48+m]:=by
 unfold dg;rw[Nat.toDigits_of_lt_base h];show [(Nat.digitChar m).toNat]=_;rw[Iw h]
theorem mj{m:Nat}(h:10<=m):dg m=dg (m/10)++[48+m % 10]:=by
 have hm:m % 10<10:=Ly m (by decide);have t:Nat.toDigits 10 (m/10)++Nat.toDigits 10 (m % 10)=Nat.toDigits 10 (10*(m/10)+m % 10):=Nat.toDigits_append_toDigits (by decide) (by omega) hm;rw[Nat.div_add_mod]at t;rw[←iR hm];unfold dg;rw[←t,Jz]
theorem qW:∀m:Nat,(dg m).all eM=true:=by
 intro m
 induction m using Nat.strongRecOn with
 |_ m ih=>
  by_cases h:m<10
  ·rw[iR h];simp[eM];omega
  ·rw[mj (by omega),MN,ih (m/10) (by omega)];simp[eM];omega
theorem jl:∀(k m:Nat),m<10^(k+1)->(dg m).length<=k+1
 |0,m,h=>by rw[iR (by simpa using h)];simp
 |k+1,m,h=>by
  by_cases c:m<10
  ·rw[iR c];simp
  ·rw[mj (by omega),IW];have:=jl k (m/10) (by rw[Nat.pow_succ]at h;omega);simp;omega
theorem xt:∀m:Nat,1<=(dg m).length:=by
 intro m;by_cases h:m<10
 ·rw[iR h];simp
 ·rw[mj (by omega),IW];simp
theorem wJ:∀m:Nat,0<m->(dg m).head?≠some 48:=by
 intro m
 induction m using Nat.strongRecOn with
 |_ m ih=>
  intro h0;by_cases h:m<10
  ·rw[iR h];simp;omega
  ·rw[mj (by omega)];have:=ih (m/10) (by omega) (by omega);have hp:=xt (m/10)
   cases e:dg (m/10)with
   |nil=>rw[e]at hp;cases hp
   |cons a r=>rw[e]at this;simpa using this
theorem vx(m:Nat):NumText.digitsVal (dg m)=m:=PySem.W.KIN.val_back m
theorem lY(m:Nat):L (nstr (m:Int))=dg m:=MY m
theorem lB(m:Nat):L (nstr (-((m+1:Nat):Int)))=45::dg (m+1):=by
 have e:toString (-((m+1:Nat):Int))="-"++toString (m+1):=rfl;unfold nstr L;rw[e,Mi,String.toList_append,Jz];show [45]++_=_;have:=MY (m+1);rw[Mi]at this;have e2:(toString (m+1)).toList.map Char.toNat=dg (m+1):=this;rw[e2];rfl
theorem lN(n:Int):(∃m:Nat,n=(m:Int))\/∃m:Nat,n = -((m+1:Nat):Int):=by
 rcases Int.lt_or_le n 0 with h|h
 ·exact .inr ⟨(-n-1).toNat,by omega⟩
 ·exact .inl ⟨n.toNat,by omega⟩
theorem u0{m:Nat}(h:m<10000):cV (dg m)=true:=by unfold cV;rw[qW,JP (xt m),JP (jl 3 m (by omega))];rfl
theorem Au(m:Nat)(r:List Nat):dg m≠45::r:=λe=>by
 have:=qW m;rw[e,Mo]at this
 revert this
 simp[eM]
theorem iE{n:Int}(h:n.natAbs<10000):bu (nstr n)=some n:=by
 unfold bu;rcases lN n with⟨m,rfl⟩|⟨m,rfl⟩
 ·rw[lY]
  have hm:m<10000:=by omega
  have e:gf (dg m)=if cV (dg m)&&((dg m).head? != some 48 ||dg m==[48]) then some (NumText.digitsVal (dg m):Int) else none:=by
   unfold gf;split
   ·next r h=>exact absurd h (Au m r)
   ·rfl
  rw[e,u0 hm,vx,Ja];by_cases c:m=0
  ·subst c;rw[iR (by decide)];rfl
  ·have:=wJ m (by omega);rw[M4.mpr this];rfl
 ·rw[lB]
  have hm:m+1<10000:=by omega
  show (if cV (dg (m+1))&&(dg (m+1)).head? != some 48 then some (-(NumText.digitsVal (dg (m+1)):Int)) else none)=_;rw[u0 hm,vx,M4.mpr (wJ (m+1) (by omega))];exact Ja rfl
theorem Dr(n:Int):∀c∈L (nstr n),c=45\/(48<=c/\c<=57):=by
 have hd:∀m,∀c∈dg m,48<=c/\c<=57:=λm c hc=>by have:=JB.mp (qW m) c hc;simpa [eM] using this
 intro c hc;rcases lN n with⟨m,rfl⟩|⟨m,rfl⟩
 ·rw[lY]at hc;exact .inr (hd m c hc)
 ·rw[lB]at hc;rcases Jb.mp hc with e|hc
  ·exact .inl e
  ·exact .inr (hd _ c hc)
theorem cT{n:Int}(h:n.natAbs<10000):(nstr n).length<=5:=by
 have e:(nstr n).length=(L (nstr n)).length:=by unfold L;rw[J3];rfl
 rw[e];rcases lN n with⟨m,rfl⟩|⟨m,rfl⟩
 ·rw[lY];have:=jl 3 m (by omega);omega
 ·rw[lB,Je];have:=jl 3 (m+1) (by omega);omega
theorem Et{w:Str}{n:Int}(h:bu w=some n):intText? w=some n/\w.length<=5:=by
 have e:w.length=(L w).length:=by unfold L;rw[J3];rfl
 have fg:∀{l:List Nat},cV l=true->1<=l.length/\l.length<=4/\NumText.AllDigits l:=λ{l} h=>by
  unfold cV at h;simp only[JR,JL]at h;refine⟨h.1.1,h.1.2,λc hc=>?_⟩;have:=JB.mp h.2 c hc;simpa [eM] using this
 unfold bu gf at h;split at h
 ·next r hr=>
  split at h
  ·next c=>
   cases h;obtain⟨h1,h2,h3⟩:=fg (Bool.and_eq_true_iff.mp c).1
   have hl:w.length<=5:=by rw[e,hr,Je];omega
   exact⟨intText_neg hr h3 (by intro z;rw[z]at h1;cases h1) (by omega),hl⟩
  ·cases h
 ·split at h
  ·next c=>
   cases h;obtain⟨h1,h2,h3⟩:=fg (Bool.and_eq_true_iff.mp c).1;exact⟨intText_digits h3 (by intro z;have z:L w=[]:=z;rw[z]at h1;cases h1) (by omega),by omega⟩
  ·cases h
noncomputable abbrev Tm:=Int×Str
noncomputable def dz:List Str->Option (List Tm)
 | [a,b]=>match bu a with
  |some n=>if bQ b then some [(n,b)] else none
  |none=>none
 |a::b::p::rest=>match bu a with
  |some n=>if bQ b then (if p="+" then (dz rest).map ((n,b)::·) else none) else none
  |none=>none
 |_=>none
noncomputable def fb(ws:List Str):Option (List Tm):=if ws=[("0":Str)] then some [] else if ws.length % 3=2 then dz ws else none
noncomputable def aL:List Tm->List Str
 | []=>["0"]
 | [(n,x)]=>[nstr n,x]
 |(n,x)::r=>nstr n::x::"+"::aL r
noncomputable def hJ(t:Tm):Prop:=t.1.natAbs<10000/\bQ t.2=true
theorem qH:∀{ts:List Tm},ts≠[]->(∀t∈ts,hJ t)->dz (aL ts)=some ts/\(aL ts).length % 3=2/\2<=(aL ts).length
 | [],h,_=>absurd rfl h
 | [(n,x)],_,h=>by
  obtain⟨h1,h2⟩:=h _ IZ;refine⟨?_,rfl,Jc _⟩;show (match bu (nstr n)with|some n=>if bQ x then some [(n,x)] else none|none=>none)=_;rw[iE h1];exact Ja h2
 |(n,x)::(m,y)::r,_,h=>by
  obtain⟨h1,h2⟩:=h _ IZ;obtain⟨e1,e2,e3⟩:=qH (ts:=(m,y)::r) (by simp) λt ht=>h t (IY _ ht);refine⟨?_,?_,?_⟩
  ·show (match bu (nstr n)with|some n=>if bQ x then (if ("+":Str)="+" then (dz (aL ((m,y)::r))).map ((n,x)::·) else none) else none|none=>none)=_;rw[iE h1,e1];show (if bQ x=true then _ else _)=_;rw[Ja h2,Ja rfl];rfl
  ·show ((aL ((m,y)::r)).length+1+1+1) % 3=2;omega
  ·show 2<=(aL ((m,y)::r)).length+1+1+1;omega
theorem qc{ts:List Tm}(h:∀t∈ts,hJ t):fb (aL ts)=some ts:=by
 unfold fb
 cases ts with
 |nil=>exact Ja rfl
 |cons t r=>
  obtain⟨e1,e2,e3⟩:=qH (ts:=t::r) (by simp) h;rw[I0 (λe=>by rw[e]at e3;simp at e3),Ja e2,e1]
inductive Frm where
 |unk (x:Str) (l:Int) (m:Option Int)
 |row (ts:List Tm) (b:Int) (t:Bool)
 |worth (ts:List Tm) (s:Int)
noncomputable def aH(ws:List Str)(i:Nat):Str:=ws.getD i ""
noncomputable def iw(ws:List Str):Option Frm:=
 if (ws.length=4\/ws.length=6)/\aH ws 2="from"/\bQ (aH ws 1)=true then
  match bu (aH ws 3)with
  |none=>none
  |some l=>if ws.length=4 then some (.unk (aH ws 1) l none) else
   match bu (aH ws 5)with
   |none=>none
   |some m=>if aH ws 4="to" then some (.unk (aH ws 1) l (some m)) else none
 else none
noncomputable def jx(ws:List Str):Option Frm:=
 if 5<=ws.length/\aH ws (ws.length-3)="at"/\(aH ws (ws.length-2)="least"\/aH ws (ws.length-2)="most") then
  match fb ((ws.drop 1).take (ws.length-4)),bu (aH ws (ws.length-1))with
  |some ts,some b=>some (.row ts b (aH ws (ws.length-2) == "most"))
  |_,_=>none
 else none
noncomputable def iT(ws:List Str):Option Frm:=(fb (ws.drop 1)).map λts=>.worth ts (if aH ws 0="most" then 1 else -1)
noncomputable def qb(ws:List Str):Option Frm:=
 if aH ws 0="unknown" then iw ws else if aH ws 0="row" then jx ws else if aH ws 0="most"\/aH ws 0="least" then iT ws else none
noncomputable def iA(x:Str):Option Frm:=qb (Txt.split x " ")
noncomputable def cI(t:Bool)(b:Int):List Str:=[("at":Str),(if t then ("most":Str) else ("least":Str)),nstr b]
noncomputable def cf:Frm->List Str
 |.unk x l none=>["unknown",x,"from",nstr l]
 |.unk x l (some m)=>["unknown",x,"from",nstr l,"to",nstr m]
 |.row ts b t=>"row"::(aL ts++cI t b)
 |.worth ts s=>(if s=1 then ("most":Str) else ("least":Str))::aL ts
noncomputable def fD:Frm->Prop
 |.unk x l m=>bQ x=true/\l.natAbs<10000/\∀k,m=some k->k.natAbs<10000
 |.row ts b _=>(∀t∈ts,hJ t)/\b.natAbs<10000
 |.worth ts s=>(∀t∈ts,hJ t)/\(s=1\/s = -1)
theorem DI{f:Frm}(h:fD f):qb (cf f)=some f:=by
 cases f with
 |unk x l m=>
  obtain⟨h1,h2,h3⟩:=h
  cases m with
  |none=>
   show iw ["unknown",x,"from",nstr l]=_;unfold iw;rw[Ja ⟨.inl rfl,rfl,h1⟩];show (match bu (nstr l)with|none=>none|some l=>some (Frm.unk x l none))=_;rw[iE h2]
  |some m=>
   show iw ["unknown",x,"from",nstr l,"to",nstr m]=_;unfold iw;rw[Ja ⟨.inr rfl,rfl,h1⟩];show (match bu (nstr l)with|none=>none|some l=>match bu (nstr m)with|none=>none|some m=>some (Frm.unk x l (some m)))=_;rw[iE h2,iE (h3 m rfl)]
 |row ts b t=>
  obtain⟨h1,h2⟩:=h;show jx ("row"::(aL ts++cI t b))=_
  have hp:1<=(aL ts).length:=by
   cases ts with
   |nil=>exact Jc _
   |cons t r=>have:=(qH (ts:=t::r) (by simp) h1).2.2;omega
  have hl:(("row":Str)::(aL ts++cI t b)).length=(aL ts).length+4:=by simp[cI]
  have at_:∀k,k<3->aH ("row"::(aL ts++cI t b)) ((aL ts).length+1+k)=aH (cI t b) k:=λk hk=>by
   unfold aH;rw[show (aL ts).length+1+k=((aL ts).length+k)+1 by omega];show (aL ts++cI t b).getD ((aL ts).length+k) ""=_;rw[JD,IU (by omega),JU];rfl
  unfold jx;rw[hl];have a0:=at_ 0 (by omega);have a1:=at_ 1 (by omega);have a2:=at_ 2 (by omega);rw[show (aL ts).length+4-3=(aL ts).length+1+0 by omega,show (aL ts).length+4-2=(aL ts).length+1+1 by omega,show (aL ts).length+4-1=(aL ts).length+1+2 by omega,show (aL ts).length+4-4=(aL ts).length by omega,a0,a1,a2]
  have hd:((("row":Str)::(aL ts++cI t b)).drop 1).take (aL ts).length=aL ts:=by show (aL ts++_).take (aL ts).length=_;rw[K8 (Jc _),Kt]
  rw[hd,qc h1];show (if 5<=(aL ts).length+4/\("at":Str)="at"/\((if t then ("most":Str) else "least")="least"\/(if t then ("most":Str) else "least")="most") then (match some ts,bu (nstr b)with|some ts,some b=>some (Frm.row ts b ((if t then ("most":Str) else "least") == "most"))|_,_=>none) else none)=_;rw[iE h2]
  cases t with
  |true=>rw[Ja ⟨by omega,rfl,.inr rfl⟩];rfl
  |false=>rw[Ja ⟨by omega,rfl,.inl rfl⟩];rfl
 |worth ts s=>
  obtain⟨h1,h2⟩:=h;rcases h2 with rfl|rfl
  ·show iT ("most"::aL ts)=_;unfold iT;show (fb (aL ts)).map _=_;rw[qc h1];rfl
  ·show iT ("least"::aL ts)=_;unfold iT;show (fb (aL ts)).map _=_;rw[qc h1];rfl
noncomputable def iO(w:Str):Prop:=∀c∈L w,33<=c/\c<=126
theorem i8(n:Int):iO (nstr n):=λc hc=>by have:=Dr n c hc;omega
theorem md{w:Str}(h:bQ w=true):iO w:=λc hc=>by
 unfold bQ at h;simp only[JR]at h;have:=JB.mp h.2 c hc;simp[eY]at this;omega
theorem kX{w:Str}(h:(L w).all (λc=>33<=c&&c<=126)=true):iO w:=λc hc=>by have:=JB.mp h c hc;simpa using this
theorem pP:∀{ts:List Tm},(∀t∈ts,hJ t)->∀w∈aL ts,iO w
 | [],_,w,hw=>by rw[Ji.mp hw];exact kX (by lia)
 | [(n,x)],h,w,hw=>by
  simp only[aL,Jb,Jp,J5]at hw;rcases hw with rfl|rfl
  ·exact i8 n
  ·exact md (h _ IZ).2
 |(n,x)::(m,y)::r,h,w,hw=>by
  rcases Jb.mp (show w∈nstr n::x::("+":Str)::aL ((m,y)::r)from hw)with rfl|hw
  ·exact i8 n
  rcases Jb.mp hw with rfl|hw
  ·exact md (h _ IZ).2
  rcases Jb.mp hw with rfl|hw
  ·exact kX (by lia)
  ·exact pP (λt ht=>h t (IY _ ht)) w hw
theorem qJ{f:Frm}(h:fD f):∀w∈cf f,iO w:=by
 intro w hw
 have k:∀z∈(["unknown","from","to","row","at","most","least"]:List Str),iO z:=λz hz=>by
  have:∀z∈(["unknown","from","to","row","at","most","least"]:List Str),(L z).all (λc=>33<=c&&c<=126)=true:=by lia
  exact kX (this z hz)
 cases f with
 |unk x l m=>
  cases m with
  |none=>
   simp only[cf,Jb,Jp,J5]at hw;rcases hw with rfl|rfl|rfl|rfl
   ·exact k _ (by simp)
   ·exact md h.1
   ·exact k _ (by simp)
   ·exact i8 _
  |some m=>
   simp only[cf,Jb,Jp,J5]at hw;rcases hw with rfl|rfl|rfl|rfl|rfl|rfl
   ·exact k _ (by simp)
   ·exact md h.1
   ·exact k _ (by simp)
   ·exact i8 _
   ·exact k _ (by simp)
   ·exact i8 _
 |row ts b t=>
  rcases Jb.mp (show w∈("row":Str)::(aL ts++cI t b)from hw)with rfl|hw
  ·exact k _ (by simp)
  rcases Jv.mp hw with hw|hw
  ·exact pP h.1 w hw
  ·simp only[cI,Jb,Jp,J5]at hw;rcases hw with rfl|rfl|rfl
   ·exact k _ (by simp)
   ·cases t<;>exact k _ (by simp)
   ·exact i8 _
 |worth ts s=>
  rcases Jb.mp (show w∈(if s=1 then ("most":Str) else ("least":Str))::aL ts from hw)with rfl|hw
  ·split<;>exact k _ (by simp)
  ·exact pP h.1 w hw
noncomputable def aX(f:Frm):Str:=Str.join " " (cf f)
theorem Ep{f:Frm}(h:fD f):iA (aX f)=some f:=by
 unfold iA aX
 have hb:(" ":Str)=⟨#[32]⟩:=by decide
 have N4:cf f≠[]:=by
  cases f with
  |unk x l m=>cases m<;>simp[cf]
  |row ts b t=>simp[cf]
  |worth ts s=>simp[cf]
 rw[hb,oz N4 λw hw hc=>by have:=qJ h w hw 32 hc;omega];exact DI h
theorem qK{c:Nat}{s:Str}:∀{ws:List Str},c∈L (Str.join s ws)->c∈L s\/∃w∈ws,c∈L w
 | [],h=>by cases h
 | [x],h=>.inr ⟨x,IZ,h⟩
 |x::y::r,h=>by
  rw[je]at h;rcases Jv.mp h with h|h
  ·exact .inr ⟨x,IZ,h⟩
  ·rcases Jv.mp h with h|h
   ·exact .inl h
   ·rcases qK h with h|⟨w,hw,h⟩
    ·exact .inl h
    ·exact .inr ⟨w,IY _ hw,h⟩
theorem Gy{f:Frm}(h:fD f):∀c∈L (aX f),32<=c/\c<=126:=λc hc=>by
 rcases qK hc with hc|⟨w,hw,hc⟩
 ·have hb:L (" ":Str)=[32]:=by decide
  rw[hb]at hc;have:=Ji.mp hc;omega
 ·have:=qJ h w hw c hc;omega
end Tx
namespace L2
open PySem PySem.Spec PyProof.Rows
theorem wK:∀l:List (Str×Tok),Vals ((l.map (·.1)).map V.str) (strValues l)
 | []=>.nil
 |(x,t)::l=>.cons ⟨t,rfl⟩ (wK l)
theorem uH(K:Frag)(Φ:Hp):∀zs:List Str,RpL K Φ (zs.map D.str) (zs.map V.str)
 | []=>.nil
 |z::zs=>.cons (.str z) (uH K Φ zs)
noncomputable def Fk:V->List V->Hp->VK->Prop:=λx vs H Q=>∃a b:Str,x=.str a/\vs=[.str b]/\(b.length==0)=false/\a.length+2<=sizeLine/\∀p,H p=none->Q (.ref p) (ak H p (.lst ((Txt.split a b).map V.str)))
section
variable{X:Cx}
theorem D6:jz X "str.split" Fk:=by
 intro pins s σ H x vs v us Q I rx rv h;obtain⟨a,b,rfl,rfl,hy,hsz,q⟩:=h;obtain⟨t,rfl⟩:=rx;obtain⟨u,rfl,ru⟩:=rv.one;obtain⟨tu,rfl⟩:=ru
 have fin:∀(l:List (Str×Tok))(k:Nat),l.map (·.1)=Txt.split a b->EP X pins σ Q (.ref s.heap.objs.size) { s with heap:=s.heap.push { cls:=.type "list",data:=.seq (strValues l).toArray },toks:=k }:=λl k e=>by
  have hf:H s.heap.objs.size=none:=I.hok.fresh (Jc _)
  have hl:((Txt.split a b).map V.str).length<=sizeLine:=by rw[mn];exact JE (split_le a b) hsz
  refine⟨.ref s.heap.objs.size,ak H s.heap.objs.size (.lst ((Txt.split a b).map V.str)),I.laid (t':=k) (λb u e=>IX _ e) (Jc _) ?_,rfl,q _ hf⟩;exact⟨hl,strValues l,0,by rw[←e];exact wK l,Jh _ rfl⟩
 have z1:a.length<=sizeLine:=by omega
 have z2:(Builtin.Str.partsBetween a (Builtin.Str.occurrences a b 0 a.length (a.length+1)) b.length).length<=sizeLine:=by
  rw[length_partsBetween];have:=StrLaws.occ_length_le a b 0 a.length (a.length+1);omega
 cases h1:(decide (a.length<b.length) ||decide (Builtin.Str.strKind a<Builtin.Str.strKind b))
 ·cases hf:(Builtin.Str.occurrences a b 0 a.length (a.length+1)).isEmpty
  ·refine Ku ME (LY _ _ _) Mr (Mj _ _) (meets_str_split_sep a b t tu h1 hy hf z1 z2) ?_;show EP X pins σ Q _ { s with toks:=_,heap:=s.heap.push { cls:=.type "list",data:=.seq (strsFrom s.toks (Builtin.Str.partsBetween a (Builtin.Str.occurrences a b 0 a.length (a.length+1)) b.length)).toArray } };rw[strsFrom_eq];exact fin (numbered s.toks _) _ ((numbered_texts _ _).trans ((I0 (Mb h1)).trans (I0 (Mb hf))).symm)
  ·exact Ku ME (LY _ _ _) Mr (Mj _ _) (meets_str_split_not_found a b t tu h1 hy hf)
    (fin [(a,t)] s.toks ((I0 (Mb h1)).trans (Ja hf)).symm)
 ·exact Ku ME (LY _ _ _) Mr (Mj _ _) (meets_str_split_cannot_occur a b t tu h1)
   (fin [(a,t)] s.toks (Ja h1).symm)
noncomputable def GG:V->List V->Hp->VK->Prop:=λx vs H Q=>∃a b:Str,x=.str a/\vs=[.str b]/\Q (.bl (Txt.startswith a b)) H
theorem GQ:jz X "str.startswith" GG:=by intro pins s σ H x vs v us Q I rx rv h;obtain⟨a,b,rfl,rfl,q⟩:=h;obtain⟨t,rfl⟩:=rx;obtain⟨u,rfl,ru⟩:=rv.one;obtain⟨tu,rfl⟩:=ru;exact SC.startswith ⟨.bl _,H,I,rfl,q⟩
noncomputable def GR(K:Frag):V->List V->Hp->VK->Prop:=λx vs H Q=>∃(sep:Str)(p:Addr)(zs:List Str),x=.str sep/\vs=[.ref p]/\SqL K H p (zs.map V.str)/\JoinOk sep zs=true/\Q (.str (Txt.join sep zs)) H
theorem Bh:jz X "str.join" (GR X.K):=by intro pins s σ H x vs v us Q I rx rv h;obtain⟨sep,p,zs,rfl,rfl,hq,hok,q⟩:=h;obtain⟨t,rfl⟩:=rx;obtain⟨u,rfl,ru⟩:=rv.one;cases ru;obtain⟨Nc,r,pl,hz⟩:=I.list hq;obtain⟨l,rfl,e⟩:=sO r;exact SC.join pl.isList e hok λt' k=>⟨.str _,H,I.tok k,⟨t',rfl⟩,q⟩
end
section
variable{K:Frag}{X:Cx}{a b:Expr}{ta tb:TD}{apos Ni pos:Pos}{tg e:Expr}{t:TD}
noncomputable def BU(ta tb:TD):aM:=λρ R=>ta ρ λx=>∃s,x=.str s/\tb ρ λy=>∃c,y=.str c/\(c.length==0)=false/\s.length+2<=sizeLine/\R ((Txt.split s c).map D.str)
theorem wR(ha:PQ K X a ta)(hb:PD K X b tb)(NI:((backTo Ni (starEach [b] X.env)).all (λx=>!x.1)&&(backToKw Ni (keywordEach [] X.env)).all (λx=>x.1.isSome)&&decide (([b]:List Expr).length+([]:List Keyword).length+(if ([]:List Keyword).isEmpty then 0 else 1)<30))=true)
  (NV:starEach [b] X.env=(false,eval b X.env)::starEach [] X.env) (Nm:attributeBase a "split" X.env (eval a X.env)=eval a X.env:=by rfl) (Nn:(apos.endLine==Ni.line)=true:=by rfl):PF K X (.Call (.Attribute a "split" apos) [b] [] Ni) (BU ta tb):=
 ⟨λhK=>(gv LH PySem.F.slot_str_split PySem.F.type_str_split D6 (ha.pe hK) (dZ (hb.pe hK) pa_nil NV) Nm NI Nn NV ag).imp λσ H Q Nb=>by
  obtain⟨H0,Φ,ρ,R,E,t,k⟩:=Nb;refine⟨H0,Φ,ρ,_,E,t,λdx Φ1 H1 x t1 g1 rx=>?_⟩;obtain⟨s,rfl,t1⟩:=t1;cases rx.str;refine⟨rfl,H0,Φ1,ρ,_,E.gr g1,t1,λdy Φ2 H2 y t2 g2 ry=>?_⟩;obtain⟨c,rfl,hc,hs,q⟩:=t2;cases ry
  exact⟨s,c,rfl,rfl,hc,hs,λp hp=>k _ _ _ p _ q ((g1.trans g2).trans (.fresh g2.s hp _)) ((g1.trans g2).h.free hp) (g2.s.free hp) bq (uH K _ _)⟩⟩
noncomputable def A5(ta tb:TD):TD:=λρ R=>ta ρ λx=>∃s,x=.str s/\tb ρ λy=>∃c,y=.str c/\R (.bl (Txt.startswith s c))
theorem Ca(ha:PQ K X a ta)(hb:PD K X b tb)(NI:((backTo Ni (starEach [b] X.env)).all (λx=>!x.1)&&(backToKw Ni (keywordEach [] X.env)).all (λx=>x.1.isSome)&&decide (([b]:List Expr).length+([]:List Keyword).length+(if ([]:List Keyword).isEmpty then 0 else 1)<30))=true)
  (NV:starEach [b] X.env=(false,eval b X.env)::starEach [] X.env) (Nm:attributeBase a "startswith" X.env (eval a X.env)=eval a X.env:=by rfl) (Nn:(apos.endLine==Ni.line)=true:=by rfl):PD K X (.Call (.Attribute a "startswith" apos) [b] [] Ni) (A5 ta tb):=
 ⟨λhK=>(gv LH PySem.F.slot_str_startswith PySem.F.type_str_startswith GQ (ha.pe hK) (dZ (hb.pe hK) pa_nil NV) Nm NI Nn NV ag).imp λσ H Q Nb=>by
  obtain⟨H0,Φ,ρ,R,E,t,k⟩:=Nb;refine⟨H0,Φ,ρ,_,E,t,λdx Φ1 H1 x t1 g1 rx=>?_⟩;obtain⟨s,rfl,t1⟩:=t1;cases rx.str;refine⟨rfl,H0,Φ1,ρ,_,E.gr g1,t1,λdy Φ2 H2 y t2 g2 ry=>?_⟩;obtain⟨c,rfl,q⟩:=t2;cases ry
  exact⟨s,c,rfl,rfl,k _ _ _ _ q (g1.trans g2) (.bl _)⟩⟩
noncomputable def EV(ta tb:TD):TD:=λρ R=>ta ρ λx=>∃sep,x=.str sep/\tb ρ λy=>∃zs:List Str,y=.lst (zs.map D.str)/\JoinOk sep zs=true/\R (.str (Txt.join sep zs))
theorem kU(ha:PQ K X a ta)(hb:PD K X b tb)(NI:((backTo Ni (starEach [b] X.env)).all (λx=>!x.1)&&(backToKw Ni (keywordEach [] X.env)).all (λx=>x.1.isSome)&&decide (([b]:List Expr).length+([]:List Keyword).length+(if ([]:List Keyword).isEmpty then 0 else 1)<30))=true)
  (NV:starEach [b] X.env=(false,eval b X.env)::starEach [] X.env) (Nm:attributeBase a "join" X.env (eval a X.env)=eval a X.env:=by rfl) (Nn:(apos.endLine==Ni.line)=true:=by rfl):PD K X (.Call (.Attribute a "join" apos) [b] [] Ni) (EV ta tb):=
 ⟨λhK=>(gv LH PySem.F.slot_str_join PySem.F.type_str_join Bh (ha.pe hK) (dZ (hb.pe hK) pa_nil NV) Nm NI Nn NV ag).imp λσ H Q Nb=>by
  obtain⟨H0,Φ,ρ,R,E,t,k⟩:=Nb;refine⟨H0,Φ,ρ,_,E,t,λdx Φ1 H1 x t1 g1 rx=>?_⟩;obtain⟨sep,rfl,t1⟩:=t1;cases rx.str;refine⟨rfl,H0,Φ1,ρ,_,E.gr g1,t1,λdy Φ2 H2 y t2 g2 ry=>?_⟩;obtain⟨zs,rfl,hok,q⟩:=t2;obtain⟨p,vs,rfl,hp,rl⟩:=(RpQ.lst g2.s (.inl ry));cases FU rl
  exact⟨sep,p,zs,rfl,rfl,SqL.of hp,hok,k _ Φ2 H2 _ q (g1.trans g2) (.str _)⟩⟩
noncomputable def Bv(neg:Bool):cv:=λdx dy R=>∃(c:Nat)(y:Str),dx=.str ⟨#[c]⟩/\dy=.str y/\R (.bl (neg != decide (c∈y.cps.toList)))
theorem ux:OpD K X (compareOp .In) (Bv false):=⟨λhK pins s σ H x y u v Q I rx ry Nb=>by
 obtain⟨Φ,dx,dy,R,sm,hx,hy,⟨c,z,rfl,rfl,h⟩,kk⟩:=Nb;cases hx.str;cases hy.str;obtain⟨t1,rfl⟩:=rx;obtain⟨t2,rfl⟩:=ry;refine P.in_str ⟨.bl _,H,I,rfl,?_⟩;rw[StrLaws.found_one]
 exact kk _ Φ H _ (by rw[Lz]at h;exact h) (.refl sm) (.bl _)⟩
noncomputable def qF(x:Str):It:=⟨λi _=>i<x.cps.size,λi H v H'=>H'=H/\∃c,x.cps[i]?=some c/\v=.str ⟨#[c]⟩,λi _=>x.cps.size<=i⟩
theorem DZ{P:Program}{w:World}{K:Frag}{tg:Expr}(x:Str)(t:Tok)(it:Addr):Turn P w K tg (qF x) [it] it (λi h=>h.IsStrIter it "str_ascii_iterator" x t i) where
 mem:=by simp
 obj:=λi h st b hb=>by
  have e:b=it:=by simpa using hb
  subst e;obtain⟨o,e,c,d⟩:=st;exact⟨o,e,λv z=>by rw[d]at z;cases z⟩
 keep:=λi h h' st k=>let ⟨o,ho,r⟩:=st;⟨o,k it (by simp) o ho,r⟩
 item:=by
  intro X hP hw hK hc i pins s σ H E I hf st hg;subst hP hw hK;have hg:i<x.cps.size:=hg;obtain⟨f0,f1,f2,f3,f4,f5⟩:=hf it (by simp)
  have hx:x.cps[i]?=some x.cps[i]:=by simp[hg]
  refine wpAny_pyNext_ascii_item st hx λh' OX sb=>?_;have I1:Inv X pins σ H { s with heap:=h',toks:=s.toks+1 }:=I.turned (λb o hb e=>(sb.2 b hb).trans e) f0 f1 f3 f4 f5;obtain⟨o,e,c,d⟩:=id OX;exact⟨_,rfl,j7 (s:={ s with heap:=h',toks:=s.toks+1 }) e c d (by decide) ⟨.str ⟨#[x.cps[i]]⟩,H,I1,⟨_,rfl⟩,⟨rfl,_,hx,rfl⟩,OX,λb hb=>(hf b hb).1⟩⟩
 done:=by
  intro X hP hw hK hc i pins s σ H E I hf st hg;subst hP hw hK;have hg:x.cps.size<=i:=hg;obtain⟨f0,f1,f2,f3,f4,f5⟩:=hf it (by simp);exact wpAny_pyNext_ascii_end (I.ok.hd hc) st (by simp[hg]) λh' eb=>⟨rfl,I.turned (t':=s.toks) (λb o hb e=>eb b o hb e) f0 f1 f3 f4 f5⟩
 self:=λ_ _ _ _ _ st h=>wpAny_pyIter_striter_ascii st h
noncomputable def C9(tl:TE):TI:=λσ H R=>tl σ H λx H1=>∃z,x=.str z/\z.cps.all (·<128)=true/\R (qF z) H1
theorem xO{l:Expr}{tl:TE}(hl:PE X l tl):PI X tg l (C9 tl):=by
 intro pins s σ H R I h;refine aw (hl pins s σ H _ I h) λv s1 Nb=>?_;obtain⟨x,H1,I1,r1,z,rfl,ha,q⟩:=Nb;obtain⟨t,rfl⟩:=r1;refine wpAny_pyIter_ascii ha ?_;refine⟨s1.heap.objs.size,[s1.heap.objs.size],_,_,H1,rfl,I1.kept (t':=s1.toks) λb o e=>IX _ e,DZ z t _,⟨_,Jh _ rfl,rfl,rfl⟩,λb hb=>?_,q⟩
 have e:b=s1.heap.objs.size:=by simpa using hb
 subst e;exact I1.fpOk (Jc _) (I1.hok.fresh (Jc _))
noncomputable def oJ(c:Nat):Str:=⟨#[c]⟩
noncomputable def jW(x:Str):List D:=x.cps.toList.map λc=>D.str (oJ c)
theorem xC(Φ:Hp)(x:Str):SteadyD K (qF x) Φ (jW x):=by
 have hl:(jW x).length=x.cps.size:=by unfold jW;rw[mn,J3]
 refine⟨λi H s hi=>(by rw[hl]at hi;exact hi),λi Φ2 H v H2 d s2 s hd y=>?_,λH s=>LX hl.symm⟩;obtain⟨rfl,c,hc,rfl⟩:=y;unfold jW at hd;rw[Jd,MT,hc]at hd;cases hd;exact⟨_,.refl s,.str _⟩
noncomputable def Eu(t:TD):aM:=λρ R=>t ρ λd=>∃x,d=.str x/\x.cps.all (·<128)=true/\R (jW x)
theorem tX(h:PD K X e t):PID K X tg e (Eu t):=⟨λhK=>(xO (h.pe hK)).imp λσ H R' Nb=>by
 obtain⟨H0,Φ,ρ,R,E,t,k⟩:=Nb;refine⟨H0,Φ,ρ,_,E,t,λd Φ1 H1 v r g rv=>?_⟩;obtain⟨x,rfl,ha,r⟩:=r;cases rv
 exact⟨x,rfl,ha,k _ Φ1 H1 _ r g (xC Φ1 x)⟩⟩
noncomputable def yE:bc:=λds R=>∃i:Int,ds=[.int i]/\i.natAbs<2^1900/\R (.str (Tx.nstr i))
theorem uM{i:Int}(h:i.natAbs<2^1900):i.natAbs.log2<1920:=by
 by_cases c:i.natAbs=0
 ·rw[c];decide
 ·exact Jw ((Nat.log2_lt c).mpr h) (by decide)
noncomputable def Ac:bc:=λds R=>∃(x:Str)(n:Int),ds=[.str x]/\x.length<=640/\intText? x=some n/\R (.int n)
theorem yD:CallD K X (.type "int") Ac:=⟨λhK pins s σ H xs us Q I rr Nb=>by
 obtain⟨Φ,ds,R,sm,hl,⟨x,n,rfl,hz,hn,h⟩,k⟩:=Nb;obtain⟨v,rfl,r⟩:=eT hl;cases r.str;obtain⟨u,rfl,ru⟩:=rr.one;obtain⟨t,rfl⟩:=ru
 exact PySem.W.KIN.call_text hn hz ⟨.int n,H,I.tok _,⟨_,rfl⟩,k _ Φ H _ h (.refl sm) (.int n)⟩⟩
theorem gS:CallD K X (.type "str") yE:=⟨λhK pins s σ H xs us Q I rr Nb=>by
 obtain⟨Φ,ds,R,sm,hl,⟨i,rfl,hz,h⟩,k⟩:=Nb;obtain⟨v,rfl,r⟩:=eT hl;cases r.int;obtain⟨u,rfl,ru⟩:=rr.one;obtain⟨t,rfl⟩:=ru
 exact P.str_of_int (uM hz) ⟨.str _,H,I.tok _,⟨_,rfl⟩,k _ Φ H _ h (.refl sm) (.str _)⟩⟩
theorem rZ{x y:Str}{tk:Tok}(hg:Gl X x)(hm:X.mg x=some (.str y tk))(hd:(x==("__debug__":Str))=false:=by decide):PD K X (.Name x pos) (sA (.str y)):=
 ⟨λhK=>(sZ (v:=.str y) hg hm ⟨tk,rfl⟩ hd).imp λσ H Q Nb=>by
  obtain⟨H0,Φ,ρ,R,E,t,k⟩:=Nb
  exact k _ Φ H _ t (.refl E.fz) (.str y)⟩
end
noncomputable abbrev fZ:=bC->(Str->Prop)->Prop
structure PJ(K:Frag)(X:Cx)(e:Expr)(t:fZ):Prop where
 pj:X.K=K->∀(pins:List (Addr×Obj))(s:Shared)(σ:St)(H0 Φ H:Hp)(ρ:bC)(R:Str->Prop)(Q:Str->Hp->Prop),Inv X pins σ H s->EnvD K H0 Φ H σ ρ->t ρ R->(∀y Φ' H',R y->Gr Φ H Φ' H'->Q y H')->
  wpAny (model X.prog X.w) X.A (eval e X.env) (λv s1=>∃y tk Φ' H',v=.str y tk/\Inv X pins σ H' s1/\Gr Φ H Φ' H'/\R y/\Q y H') X.xe s
structure PJs(K:Frag)(X:Cx)(es:List Expr)(t:fZ):Prop where
 pj:X.K=K->∀(pins:List (Addr×Obj))(s:Shared)(σ:St)(H0 Φ H:Hp)(ρ:bC)(R:Str->Prop)(Q:VK)(out:Str),Inv X pins σ H s->EnvD K H0 Φ H σ ρ->t ρ R->out.length+1000000*es.length<=sizeLine->(∀y Φ' H',R y->Gr Φ H Φ' H'->Q (.str (out++y)) H')->
  wpAny (model X.prog X.w) X.A (joinParts out (evalEach es X.env)) (EP X pins σ Q) X.xe s
section
variable{K:Frag}{X:Cx}{e e2:Expr}{es:List Expr}{pos:Pos}{t u:fZ}{ta:TD}
noncomputable def jC(x:Str):fZ:=λ_ R=>R x
theorem eX{x:Str}{j}:PJ K X (.Constant (.str x) j pos) (jC x):=⟨λhK pins s σ H0 Φ H ρ R Q I E h k=>by
 refine KD (wq pins s σ H (λv H'=>v=.str x/\H'=H) I ⟨rfl,rfl⟩) (λv s1 hq=>?_) λ_ _ h=>h;obtain⟨v',H1,I1,rv,rfl,rfl⟩:=hq;obtain⟨tk,rfl⟩:=rv
 exact⟨x,tk,Φ,H1,rfl,I1,.refl E.fz,h,k _ Φ H1 h (.refl E.fz)⟩⟩
noncomputable def jV(t:TD):fZ:=λρ R=>t ρ λd=>match d with|.str x=>x.length<=1000000/\R x|.int i=>i.natAbs<2^1900/\R (Tx.nstr i)|_=>False
theorem eJ(h:PD K X e ta):PJ K X (.FormattedValue e (-1) none pos) (jV ta):=⟨λhK pins s σ H0 Φ H ρ R Q I E ht k=>by
 refine FormattedValue_plain (aw (h.pe hK pins s σ H (λv H'=>∃d Φ',Gr Φ H Φ' H'/\Rp K Φ' d v/\(match d with|.str x=>x.length<=1000000/\R x|.int i=>i.natAbs<2^1900/\R (Tx.nstr i)|_=>False)) I ⟨H0,Φ,ρ,_,E,ht,λd Φ' H' v r g rv=>⟨d,Φ',g,rv,r⟩⟩) λv s1 Nb=>?_);obtain⟨v',H1,I1,rv,d,Φ1,g,rd,r⟩:=Nb
 cases d with
 |str x=>
  cases rd;obtain⟨tk,rfl⟩:=rv;exact formatField_str (λt' tk'=>⟨x,t',Φ1,H1,rfl,I1.tok _,g,r.2,k _ Φ1 H1 r.2 g⟩) (by have:=r.1;have:=Kd;omega)
 |int i=>
  cases rd;obtain⟨tk,rfl⟩:=rv;exact formatField_int_small (uM r.1) ⟨Tx.nstr i,_,Φ1,H1,rfl,I1.tok _,g,r.2,k _ Φ1 H1 r.2 g⟩
 |_=>exact r.elim⟩
noncomputable def CZ(t:fZ):fZ:=λρ R=>t ρ λy=>y.length<=1000000/\R y
noncomputable def HN(t u:fZ):fZ:=λρ R=>t ρ λy=>y.length<=1000000/\u ρ λz=>R (y++z)
theorem fN(a b:Str):(a++b).length=a.length+b.length:=by show (a.cps++b.cps).size=a.cps.size+b.cps.size;rw[Array.size_append]
theorem gD(h:PJ K X e t):PJs K X [e] (CZ t):=⟨λhK pins s σ H0 Φ H ρ R Q out I E ht hs k=>by
 refine joinParts_cons (KD (h.pj hK pins s σ H0 Φ H ρ _ (λy H'=>y.length<=1000000/\Q (.str (out++y)) H') I E ht λy Φ' H' r g=>⟨r.1,k y Φ' H' r.2 g⟩) (λv s1 hq=>?_) λ_ _ h=>h);obtain⟨y,tk,Φ',H',rfl,I1,g,r,hy,q⟩:=hq
 have hl:(out++y).length<=sizeLine:=by rw[fN];simp only[Je,J8]at hs;omega
 exact⟨hl,joinParts_nil ⟨.str _,H',I1.tok _,⟨_,rfl⟩,q⟩ hl⟩⟩
theorem dD(h:PJ K X e t)(hr:PJs K X es u):PJs K X (e::es) (HN t u):=⟨λhK pins s σ H0 Φ H ρ R Q out I E ht hs k=>by
 refine joinParts_cons (KD (h.pj hK pins s σ H0 Φ H ρ _ (λ_ _=>True) I E ht λ_ _ _ _ _=>trivial) (λv s1 hq=>?_) λ_ _ h=>h);obtain⟨y,tk,Φ',H',rfl,I1,g,⟨hy,r⟩,_⟩:=hq;rw[Je]at hs
 have hl:(out++y).length<=sizeLine:=by rw[fN];omega
 refine⟨hl,hr.pj hK pins s1 σ H0 Φ' H' ρ _ Q (out++y) I1 (E.gr g) r (by rw[fN];omega) λz Φ2 H2 rz g2=>?_⟩;rw[PySem.Str.append_assoc]
 exact k (y++z) Φ2 H2 rz (g.trans g2)⟩
noncomputable def D2(t:fZ):TD:=λρ R=>t ρ λy=>R (.str y)
theorem gx(h:PJs K X (e::e2::es) t)(hn:Nat.ble es.length 10=true:=by rfl):PD K X (.JoinedStr (e::e2::es) pos) (D2 t):=⟨λhK pins s σ H Q I Nb=>by
 obtain⟨H0,Φ,ρ,R,E,t,k⟩:=Nb;refine JoinedStr_many ?_;refine h.pj hK pins s σ H0 Φ H ρ _ Q Str.empty I E t ?_ λy Φ' H' r g=>?_
 ·have:=MV hn;have:=Kd;simp only[Je];show 0+_<=_;omega
 ·rw[PySem.Str.empty_append]
  exact k _ Φ' H' _ r g (.str y)⟩
end
noncomputable def pk(lo st:Int)(n:Nat):It:=⟨λi _=>i<n,λi H x H'=>H'=H/\x=.int (lo+i*st),λi _=>n<=i⟩
theorem Hi{P:Program}{w:World}{K:Frag}{tg:Expr}(it:Addr)(lo st:Int)(n:Nat):Turn P w K tg (pk lo st n) [it] it (λi h=>IsRangeIter h it (lo+(i:Nat)*st) ((n:Int)-(i:Nat)) st) where
 mem:=by simp
 obj:=λi h st b hb=>by
  have e:b=it:=by simpa using hb
  subst e
  exact⟨_,st,λv z=>by
   have z':Data.fields _=Data.cell v:=z
   cases z'⟩
 keep:=λi h h' st k=>k it (by simp) _ st
 item:=by
  intro X hP hw hK hc i pins s σ H E I hf OX hg;subst hP hw hK;obtain⟨f0,f1,f2,f3,f4,f5⟩:=hf it (by simp);have W:=Walks.range (prog:=X.prog) (w:=X.w) (I.ok.hd hc) it lo st n;refine W.item i s _ _ hg OX λv h' tk hv OX kk=>?_;obtain⟨t,rfl⟩:=hv;have I1:Inv X pins σ H { s with heap:=h',toks:=tk }:=I.turned (λb o hb e=>kk b o (by simpa using hb) e) f0 f1 f3 f4 f5;exact⟨_,rfl,j7 (s:={ s with heap:=h',toks:=tk }) (n:="range_iterator") OX rfl rfl (by decide) ⟨.int (lo+i*st),H,I1,⟨t,rfl⟩,⟨rfl,rfl⟩,OX,λb hb=>(hf b hb).1⟩⟩
 done:=by intro X hP hw hK hc i pins s σ H E I hf st hg;subst hP hw hK;obtain⟨f0,f1,f2,f3,f4,f5⟩:=hf it (by simp);exact wpAny_pyNext_range_end (I.ok.hd hc) st (by have:n<=i:=hg;omega) λh' eb=>⟨rfl,I.turned (t':=s.toks) (λb o hb e=>eb b o hb e) f0 f1 f3 f4 f5⟩
 self:=λ_ _ _ _ _ st h=>wpAny_pyIter_rangeiter st h
noncomputable def fo(lo hi st:Int):Nat:=((hi-lo+st-1)/st).toNat
noncomputable def ib(lo hi st:Int):List D:=(List.range (fo lo hi st)).map λ(i:Nat)=>D.int (lo+(i:Int)*st)
section
variable{K:Frag}{X:Cx}{tg:Expr}
noncomputable def DR(ta:TA):TI:=λσ H R=>ta σ H λvs H1=>∃i j k:Int,vs=[.int i,.int j,.int k]/\(-(2^61)<=i/\i<2^61/\-(2^61)<=j/\j<2^61/\0<k/\k<=1000)/\R (pk i k (fo i j k)) H1
theorem AN{i j k:Int}(hk:0<k):Builtin.Range.rangeSize i j k=(fo i j k:Int):=by
 unfold Builtin.Range.rangeSize fo;rw[Ja hk];by_cases c:i<j
 ·rw[Ja c,show j-i+k-1=(j-i-1)+1*k by omega,Int.add_mul_ediv_right _ _ (by omega)];have:=Int.ediv_nonneg (a:=j-i-1) (b:=k) (by omega) (by omega);omega
 ·rw[I0 c];have:(j-i+k-1)/k<1:=Int.ediv_lt_of_lt_mul hk (by omega);omega
theorem yd{i j k:Int}(h:-(2^61)<=i/\i<2^61/\-(2^61)<=j/\j<2^61/\0<k/\k<=1000):Builtin.Range.small i j k=true:=by
 have h1:=Int.ediv_nonneg (a:=j-i-1) (b:=k);have h2:=Int.ediv_le_self k (a:=j-i-1);unfold Builtin.Range.small Builtin.Range.rangeSize;rw[Ja (show k>0 by omega),Ja (show k>0 by omega)];simp only[Builtin.Range.rangeFitsLong,JR,K6,JL,Ld];split<;>omega
theorem Ba{a b c:Expr}{ta:TA}{p pos:Pos}(hg:Gl X "range")(hm:X.mg "range"=none)(ha:PA X [a,b,c] ta)(hs:starEach [a,b,c] X.env=[(false,eval a X.env),(false,eval b X.env),(false,eval c X.env)]:=by rfl)(NL:starEach [b,c] X.env=[(false,eval b X.env),(false,eval c X.env)]:=by rfl) :
  PI X tg (.Call (.Name "range" p) [a,b,c] [] pos) (DR ta):=by
 intro pins s σ H R I h;refine Call_ (hX I hg hm boot_range (Kn (aw (ha pos pins s σ H _ I h) λus s1 Nb=>?_) (by rw[hs,NL]) (by rw[NL];rfl)));obtain⟨vs,H1,I1,r1,i,j,k,e,hb,q⟩:=Nb;subst e
 cases r1 with
 |cons r rr=>
  cases rr with
  |cons r' rr=>
   cases rr with
   |cons r2 rr=>
    cases rr;obtain⟨t,rfl⟩:=r;obtain⟨t',rfl⟩:=r';obtain⟨t2,rfl⟩:=r2;refine call_range_3 (by omega) ?_ (.inl (PyProof.noPylong_small (by omega)));have I2:Inv X pins σ H1 { s1 with heap:=s1.heap.push { cls:=.type "range",data:=.fields #[.int i t,.int j t',.int k t2] },toks:=s1.toks }:=I1.kept λb o e=>IX _ e;refine wpAny_pyIter_range (IsRange.new ..) (yd hb) ?_;refine⟨_,[_],_,_,H1,rfl,I2.kept (t':=s1.toks) λb o e=>IX _ e,Hi _ i k (fo i j k),?_,λb hb=>?_,q⟩
    ·have e1:i+((0:Nat):Int)*k=i:=by simp
     have e2:((fo i j k:Nat):Int)-((0:Nat):Int)=Builtin.Range.rangeSize i j k:=by rw[AN hb.2.2.2.2.1];omega
     show IsRangeIter _ _ (i+((0:Nat):Int)*k) (((fo i j k:Nat):Int)-((0:Nat):Int)) k;rw[e1,e2];exact Jh _ rfl
    ·have e:=Ji.mp hb;subst e;exact I2.fpOk (Jc _) (I2.hok.fresh (Jc _))
theorem AY{Φ:Hp}{i j k:Int}{vs:List V}(r:RpL K Φ [.int i,.int j,.int k] vs):vs=[.int i,.int j,.int k]:=by
 match vs,r with
 | [a,b,c],r=>
  have h0:=r.2 0 a _ rfl rfl;have h1:=r.2 1 b _ rfl rfl;have h2:=r.2 2 c _ rfl rfl;cases h0;cases h1;cases h2;rfl
 | [],r=>cases r.1
 | [_],r=>cases r.1
 | [_,_],r=>cases r.1
 |_::_::_::_::_,r=>cases r.1
theorem FI(Φ:Hp)(lo hi st:Int):SteadyD K (pk lo st (fo lo hi st)) Φ (ib lo hi st):=by
 have hl:(ib lo hi st).length=fo lo hi st:=by unfold ib;rw[mn,JQ]
 refine⟨λi H s hi=>(by rw[hl]at hi;exact hi),λi Φ2 H v H2 d s2 s hd y=>?_,λH s=>LX hl.symm⟩;obtain⟨rfl,rfl⟩:=y;unfold ib at hd;rw[Jd]at hd
 cases h:(List.range (fo lo hi st))[i]? with
 |none=>rw[h]at hd;cases hd
 |some k=>
  rw[h]at hd;cases hd;obtain⟨Nu,e⟩:=JN.mp h;rw[List.getElem_range]at e;subst e;exact⟨_,.refl s,.int _⟩
noncomputable def zU(t:aM):aM:=λρ R=>t ρ λds=>∃i j k:Int,ds=[.int i,.int j,.int k]/\(-(2^61)<=i/\i<2^61/\-(2^61)<=j/\j<2^61/\0<k/\k<=1000)/\R (ib i j k)
theorem Bd{a b c:Expr}{tl:aM}{p pos:Pos}(hg:Gl X "range")(hm:X.mg "range"=none)(ha:PAD K X [a,b,c] tl)(hs:starEach [a,b,c] X.env=[(false,eval a X.env),(false,eval b X.env),(false,eval c X.env)]:=by rfl)(NL:starEach [b,c] X.env=[(false,eval b X.env),(false,eval c X.env)]:=by rfl) :
  PID K X tg (.Call (.Name "range" p) [a,b,c] [] pos) (zU tl):=⟨λhK=>(Ba hg hm (ha.pa hK) hs NL).imp λσ H R' Nb=>by
 obtain⟨H0,Φ,ρ,R,E,t,k⟩:=Nb;refine⟨H0,Φ,ρ,_,E,t,λds Φ1 H1 vs r g rl hl=>?_⟩;obtain⟨i,j,st,rfl,hb,r⟩:=r;have e:=AY rl;subst e
 exact⟨i,j,st,rfl,hb,k _ Φ1 H1 _ r g (FI Φ1 i j st)⟩⟩
end
end L2
open PySem
namespace L2
section
variable{K:Frag}{H0 H H' Φ Φ':Hp}{σ:St}{ρ:ar}{fp:Nat->List Addr}{p q:Addr}{z:List D}{d:D}
theorem jH{x y:Sm}{m:Nat}(h:(ρ++[some y])[m]?=some (some x)):(m<ρ.length/\ρ[m]?=some (some x))\/(m=ρ.length/\x=y):=by
 rcases JI m ρ.length with c|c
 ·rw[wy c]at h;exact .inl ⟨c,h⟩
 ·rw[IU c]at h
  cases e:m-ρ.length with
  |zero=>rw[e]at h;cases h;exact .inr ⟨by omega,rfl⟩
  |succ n=>rw[e]at h;cases h
theorem kh{α:Type}{l:List α}{y:α}{m:Nat}(h:m=l.length):(l++[y])[m]?=some y:=by rw[h,IU (Jc _),JG];rfl
theorem EnvM.prO{v0:V}(E:EnvM K H0 Φ H (σ++[some v0]) (ρ++[some (.ob none (.pr z d))]))(hl:ρ.length=σ.length) :
  ∃p q v,v0=.ref p/\Φ p=some (.tup [.ref q,v])/\Rp K Φ d v/\EnvM K H0 Φ H (σ++[some (.ref q)]) (ρ++[some (.own z)]):=by
 obtain⟨fp,E⟩:=E;have h0:(ρ++[some (Sm.ob none (.pr z d))])[ρ.length]?=some (some (.ob none (.pr z d))):=kh rfl;obtain⟨p,e,_,r⟩:=E.ow _ _ _ h0;rw[kh hl]at e;cases e;generalize hF:fp ρ.length=F at r
 cases r with
 |pr h1 h2 h3 h4=>
  rename_i q v ws
  have up:∀{m:Nat}{c:Option Addr}{om:Om},(ρ++[some (Sm.own z)])[m]?=some (some (.ob c om))->∃c' Ov,(ρ++[some (Sm.ob none (.pr z d))])[m]?=some (some (.ob c' Ov)):=λ{m c om} h=>by
   rcases jH h with⟨c1,h9⟩|⟨c1,h9⟩
   ·exact⟨c,om,by rw[wy c1];exact h9⟩
   ·exact⟨_,_,kh c1⟩
  refine⟨p,q,v,rfl,h1,h4,fp,E.fz,by have:=E.len;simpa using this,λm d' h=>?_,λm c om h=>?_,λm c om h=>?_,λm n c c' om Ov hm hn=>?_,E.tb⟩
  ·rcases jH h with⟨c1,h9⟩|⟨c1,h9⟩
   ·obtain⟨v',e',r'⟩:=E.sl m d' (by rw[wy c1];exact h9);exact⟨v',by rw[wy (by omega)]at e' ⊢;exact e',r'⟩
   ·cases h9
  ·rcases jH h with⟨c1,h9⟩|⟨c1,h9⟩
   ·obtain⟨v',e',ha,r'⟩:=E.ow m c om (by rw[wy c1];exact h9);exact⟨v',by rw[wy (by omega)]at e' ⊢;exact e',ha,r'⟩
   ·cases h9;refine⟨q,kh (c1.trans hl),(λ_ z=>by cases z),?_⟩;rw[c1,hF];exact .lst h2 h3
  ·obtain⟨c',Ov,h'⟩:=up h;exact E.no m c' Ov h'
  ·obtain⟨c1,o1,g1⟩:=up hm;obtain⟨c2,o2,g2⟩:=up hn;exact E.dj m n c1 c2 o1 o2 g1 g2
theorem EnvM.mkP{v1 v2:V}(E:EnvM K H0 Φ H (σ++[some v1,some v2]) (ρ++[some (.own z),some (.v d)]))(hl:ρ.length=σ.length)(g:Gr Φ H Φ' H')(hp:Φ' p=some (.tup [v1,v2])) :
  EnvM K H0 Φ' H' (σ++[some (.ref p)]) (ρ++[some (.ob none (.pr z d))]):=by
 obtain⟨fp,E⟩:=E.gr g
 have h1:(ρ++[some (Sm.own z),some (.v d)])[ρ.length]?=some (some (.ob none (.lst z))):=by rw[IU (Jc _),JG];rfl
 have h2:(ρ++[some (Sm.own z),some (.v d)])[ρ.length+1]?=some (some (.v d)):=by rw[IU (by omega),JU];rfl
 obtain⟨q,e1,_,r1⟩:=E.ow _ _ _ h1;obtain⟨v,e2,r2⟩:=E.sl _ _ h2;rw[hl,IU (Jc _),JG]at e1;rw[hl,IU (by omega),JU]at e2;cases e1;cases e2;obtain⟨f1,w1,a1,b1⟩:=r1.lst_inv
 have up:∀{m:Nat}{c:Option Addr}{om:Om},(ρ++[some (Sm.ob none (.pr z d))])[m]?=some (some (.ob c om))->∃c' Ov,(ρ++[some (Sm.own z),some (.v d)])[m]?=some (some (.ob c' Ov)):=λ{m c om} h=>by
  rcases jH h with⟨c1,h9⟩|⟨c1,h9⟩
  ·exact⟨c,om,by rw[wy c1];exact h9⟩
  ·exact⟨_,_,by rw[c1];exact h1⟩
 refine⟨fp,E.fz,by rw[IW,IW,hl];rfl,λm d' h=>?_,λm c om h=>?_,λm c om h=>?_,λm n c c' om Ov hm hn=>?_,E.tb⟩
 ·rcases jH h with⟨c1,h9⟩|⟨c1,h9⟩
  ·obtain⟨v',e',r'⟩:=E.sl m d' (by rw[wy c1];exact h9);exact⟨v',by rw[wy (by omega)]at e' ⊢;exact e',r'⟩
  ·cases h9
 ·rcases jH h with⟨c1,h9⟩|⟨c1,h9⟩
  ·obtain⟨v',e',ha,r'⟩:=E.ow m c om (by rw[wy c1];exact h9);exact⟨v',by rw[wy (by omega)]at e' ⊢;exact e',ha,r'⟩
  ·cases h9;refine⟨p,kh (c1.trans hl),(λ_ z=>by cases z),?_⟩;rw[c1,f1];exact .pr hp a1 b1 r2
 ·obtain⟨c',Ov,h'⟩:=up h;exact E.no m c' Ov h'
 ·obtain⟨c1,o1,g1⟩:=up hm;obtain⟨c2,o2,g2⟩:=up hn;exact E.dj m n c1 c2 o1 o2 g1 g2
end
section
variable{K:Frag}{X:Cx}{e:Expr}{es:List Expr}{te:TX}{tA:cn}{pos p1 p2 p4:Pos}
noncomputable def C8(tA:cn):TX:=λρ R Rx=>tA ρ (λas ρ1=>∃z d,as=[.t (.own z),.t (.v d)]/\R (.ob none (.pr z d)) ρ1) Rx
theorem Fu{k:Nat}(h:PXA K X es tA)(OR:Nat.ble es.length 1000=true:=by rfl):PX K X (.Tuple es k pos) (C8 tA):=
 ⟨λhK=>(nZ (h.pa hK)).imp λσ H Q Nb=>by
  obtain⟨Φ0,H0,Φ,τ,ρ,κ,R,Rx,S,t,k⟩:=Nb;refine⟨Φ0,H0,Φ,τ,ρ,κ,_,Rx,S,t,λas ρ1 Φ1 H1 vs ts r1 hl hv S1 f1=>?_⟩;obtain⟨z,d,rfl,r⟩:=r1
  cases hv with|t hv=>cases hv with|t hv=>
  cases hv;rename_i v1 v2;refine⟨by rw[Kd];show 2<=16777216;decide,λp hp=>?_⟩;have g:=Gr.new S1.g.s hp (.tup [v1,v2]);have lk:κ.length=τ.length:=S.lk;have l2:=S1.l;have E:=S1.E
  have E':EnvM K H0 Φ1 H1 ((σ++τ)++[some v1,some v2]) ((ρ1++κ)++[some (.own z),some (.v d)]):=by rw[Jk,Jk];exact E
  have E2:=E'.mkP (p:=p) (by rw[IW,IW];omega) g bq;rw[Jk,Jk]at E2
  exact k _ ρ1 _ _ _ r ⟨S1.g.trans g,l2,E2,S1.x⟩ (f1.trans g.f)⟩
noncomputable def Gq(i1 i2:Nat)(te:TX):bG:=λDe ρ=>te ρ (λs ρ1=>∃z d,s=.ob none (.pr z d)/\De.nx ((ρ1.set i1 (some (.own z))).set i2 (some (.v d)))) De.ex
theorem xk{k:Nat}{n1 n2:Str}(i1 i2:Nat)(hc:X.calm=true)(hN:X.N.Nodup)(h1:X.N[i1]?=some n1)(h2:X.N[i2]?=some n2)(l1:di X.env.scope n1)(l2:di X.env.scope n2)(he:PX K X e te)
  (f1:X.fn n1=true\/X.env.scope.names.lookup n1=some .local:=by nofun) (f2:X.fn n2=true\/X.env.scope.names.lookup n2=some .local:=by nofun)
  (hs:swapsWithSole [.Tuple [.Name n1 p1,.Name n2 p2] k p4] e pos.line X.env=pure false:=by rfl) (hw:swappedStores [.Tuple [.Name n1 p1,.Name n2 p2] k p4] e X.env=pure none:=by rfl)
  (ha:(assignEach [.Tuple [.Name n1 p1,.Name n2 p2] k p4] X.env).map (·.2)=[assign (.Tuple [.Name n1 p1,.Name n2 p2] k p4) X.env]:=by rfl)
  (c1:(assignEach [.Name n1 p1,.Name n2 p2] X.env).map (·.2)=assign (.Name n1 p1) X.env::(assignEach [.Name n2 p2] X.env).map (·.2):=by rfl) (c2:(assignEach [.Name n2 p2] X.env).map (·.2)=assign (.Name n2 p2) X.env::(assignEach [] X.env).map (·.2):=by rfl)
  (hn:(assignEach [.Name n1 p1,.Name n2 p2] X.env).length=2:=by rfl) (N5:(assignEach [.Name n1 p1,.Name n2 p2] X.env).findIdx? (·.1)=none:=by rfl) :
  PSM K X (.Assign [.Tuple [.Name n1 p1,.Name n2 p2] k p4] e pos) (Gq i1 i2 te):=
 ⟨λhK=>(kA (he.pe hK) (qB hc (iK (iU hN h1 l1 f1) (iK (iU hN h2 l2 f2) pgs_nil c2) c1) hn N5) hs hw ha).imp λE σ H Nb=>by
  obtain⟨Φ0,H0,Φ,ρ,De,g,V,t,k⟩:=Nb;refine⟨Φ0,H0,Φ,[],ρ,[],_,De.ex,dJ g V k.ex,t,λs ρ1 Φ1 H1 v r S1 _=>?_⟩;obtain⟨z,d,rfl,r⟩:=r;have E1:EnvM K H0 Φ1 H1 (σ++[some v]) (ρ1++[some (.ob none (.pr z d))]):=S1.E;obtain⟨p,q,w,rfl,hp,hr,E2⟩:=E1.prO S1.l;refine⟨p,_,rfl,SqT.of (E1.fz _ _ hp),rfl,_,_,rfl,_,_,rfl,rfl,?_⟩
  exact k.nx _ Φ1 H1 _ r S1.g (((E2.store i1).snocV hr).store i2)⟩
end
end L2
namespace L2
open PySem PySem.Spec PyProof.Rows
noncomputable abbrev bX(h:Heap)(T:Addr)(a b c:Value):Prop:=h.get? T=some { cls:=.type "tuple",data:=.seq #[a,b,c] }
structure Z3(z TI TO i1 i2 i3:Addr):Prop where
 TIz:TI≠z
 TOz:TO≠z
 n1z:i1≠z
 n2z:i2≠z
 n3z:i3≠z
 TITO:TI≠TO
 TI1:TI≠i1
 TI2:TI≠i2
 TI3:TI≠i3
 TO1:TO≠i1
 TO2:TO≠i2
 TO3:TO≠i3
 n12:i1≠i2
 n13:i1≠i3
 n23:i2≠i3
section
variable{prog:Program}{w:World}{A:Around}{E:Value->Shared->Prop}{s:Shared}
theorem kL{T:Addr}{a b c x:Value}{k:Nat}{Q:Unit->Shared->Prop}(hT:bX s.heap T a b c)
  (h:∀h',h'.get? T=some { cls:=.type "tuple",data:=.seq ((#[a,b,c]:Array Value).setIfInBounds k x) }->Heap.SameBut T s.heap h'->Q () { s with heap:=h' }) :
  wpAny (model prog w) A (updateSeq T (·.setIfInBounds k x)) Q E s:=by
 refine wpAny_updateSeq hT rfl (h _ ?_ (L9 ..));rw[LR _ hT rfl];simp[Obj.mapSeq]
theorem Ec{b1 b2 b3:Bool}{z TI TO i1 i2 i3 l1 l2 l3:Addr}{k:Nat}{xs ys zs:Array Value}{x y v a b c:Value}{Q:Value->Shared->Prop}(D:Z3 z TI TO i1 i2 i3)
  (hz:IsZip s.heap z TI TO .none) (OZ:bX s.heap TI (.ref i1) (.ref i2) (.ref i3)) (O0:bX s.heap TO a b c) (m1:l1≠TO) (m2:l2≠TO) (m3:l3≠TO)
  (h1:SqI b1 s.heap i1 l1 k) (h2:SqI b2 s.heap i2 l2 k) (h3:SqI b3 s.heap i3 l3 k) (NU:SqO b1 s.heap l1 xs) (NS:SqO b2 s.heap l2 ys) (OV:SqO b3 s.heap l3 zs) (hx:xs[k]?=some x) (hy:ys[k]?=some y) (hv:zs[k]?=some v)
  (hQ:∀h',IsZip h' z TI TO (rawInt s.heap.objs.size)->bX h' TO x y v->SqI b1 h' i1 l1 (k+1)->SqI b2 h' i2 l2 (k+1)->SqI b3 h' i3 l3 (k+1)->bX h' s.heap.objs.size x y v->h'.objs.size=s.heap.objs.size+1->
   (∀c o,c∉[z,TO,i1,i2,i3]->s.heap.get? c=some o->h'.get? c=some o)->Q (.ref s.heap.objs.size) { s with heap:=h' }) :
  wpAny (model prog w) A (Builtin.«zip.__next__» ⟨[.ref z],[]⟩) (λfin s'=>∃v,fin=.done (.ret v)/\Q v s') E s:=by
 have l1z:l1≠z:=NU.ne hz (by simp) (by simp);have l2z:l2≠z:=NS.ne hz (by simp) (by simp);have TV:l3≠z:=OV.ne hz (by simp) (by simp);have l2i1:l2≠i1:=NS.ne_it h1;have QJ:l3≠i1:=OV.ne_it h1;have QK:l3≠i2:=OV.ne_it h2;show wpAny _ _ (field (.ref z) 2 >>= _) _ _ _;refine IV (JS hz rfl (x:=.bool false) rfl ?_);show wpAny _ _ (field (.ref z) 3 >>= _) _ _ _;refine IV (JS hz rfl (x:=.ref TI) rfl (IV (J4 OZ rfl ?_)));show wpAny _ _ (Builtin.SmallTypes.ownedTupleIsFree (.ref z) >>= _) _ _ _;refine IV ?_;unfold Builtin.SmallTypes.ownedTupleIsFree;refine IV (JS hz rfl (x:=.none) rfl (Jf ?_));simp only[La];refine IV (L0 (IV (JS hz rfl (x:=.ref TO) rfl (IV (J0 hz (by simp) λg1 z1 s1=>?_)))));replace z1:IsZip g1 z TI TO .ellipsis:=z1;refine IV ?_;simp only[LL,L3,K5,Lw];refine IV (IV (KH ?_));show wpAny _ _ (Builtin.SmallTypes.nextOf (.ref i1) >>= _) _ _ _;refine IV (gF (h1.but s1 D.n1z) (NU.but s1 l1z) hx λg2 p2 s2=>Jf ?_);have t2:bX g2 TO a b c:=s2.extBut _ _ D.TO1 (s1.extBut _ _ D.TOz O0);refine IV (J4 t2 rfl (IV (kL t2 λg3 t3 s3=>IV (K7 (Jf ?_)))));replace t3:bX g3 TO x b c:=t3;refine IV (IV (KH ?_));show wpAny _ _ (Builtin.SmallTypes.nextOf (.ref i2) >>= _) _ _ _;refine IV (gF (((h2.but s1 D.n2z).but s2 D.n12.symm).but s3 D.TO2.symm) (((NS.but s1 l2z).but s2 l2i1).but s3 m2) hy λg4 p4 s4=>Jf ?_);have t4:bX g4 TO x b c:=s4.extBut _ _ D.TO2 t3;refine IV (J4 t4 rfl (IV (kL t4 λg5 t5 s5=>IV (K7 (Jf ?_)))));replace t5:bX g5 TO x y c:=t5;refine IV (IV (KH ?_));show wpAny _ _ (Builtin.SmallTypes.nextOf (.ref i3) >>= _) _ _ _;refine IV (gF (((((h3.but s1 D.n3z).but s2 D.n13.symm).but s3 D.TO3.symm).but s4 D.n23.symm).but s5 D.TO3.symm) (((((OV.but s1 TV).but s2 QJ).but s3 m3).but s4 QK).but s5 m3) hv λg6 p6 s6=>Jf ?_);have t6:bX g6 TO x y c:=s6.extBut _ _ D.TO3 t5;refine IV (J4 t6 rfl (IV (kL t6 λg7 t7 s7=>IV (K7 (Jf (Jf ?_))))));replace t7:bX g7 TO x y v:=t7;refine IV (J4 t7 rfl (IV (wpAny_newTuple ?_)))
 have sz:g7.objs.size=s.heap.objs.size:=by rw[s7.1,s6.1,s5.1,s4.1,s3.1,s2.1,s1.1]
 have z7:IsZip g7 z TI TO .ellipsis:=s7.extBut _ _ D.TOz.symm (s6.extBut _ _ D.n3z.symm (s5.extBut _ _ D.TOz.symm (s4.extBut _ _ D.n2z.symm (s3.extBut _ _ D.TOz.symm (s2.extBut _ _ D.n1z.symm z1)))))
 have k7:∀c o,c∉[z,TO,i1,i2,i3]->s.heap.get? c=some o->g7.get? c=some o:=λc o hc e=>by
  have c1:c≠z:=λq=>hc (by simp[q]);have c2:c≠TO:=λq=>hc (by simp[q]);have c3:c≠i1:=λq=>hc (by simp[q]);have c4:c≠i2:=λq=>hc (by simp[q]);have c5:c≠i3:=λq=>hc (by simp[q]);exact s7.extBut _ _ c2 (s6.extBut _ _ c5 (s5.extBut _ _ c2 (s4.extBut _ _ c4 (s3.extBut _ _ c2 (s2.extBut _ _ c3 (s1.extBut _ _ c1 e))))))
 have q1:SqI b1 g7 i1 l1 (k+1):=((((p2.but s3 D.TO1.symm).but s4 D.n12).but s5 D.TO1.symm).but s6 D.n13).but s7 D.TO1.symm;have q2:SqI b2 g7 i2 l2 (k+1):=((p4.but s5 D.TO2.symm).but s6 D.n23).but s7 D.TO2.symm;have q3:SqI b3 g7 i3 l3 (k+1):=p6.but s7 D.TO3.symm;show wpAny _ _ (Builtin.SmallTypes.ownedTupleHandOut (.ref z) (.ref g7.objs.size) >>= _) _ _ _;refine IV ?_;unfold Builtin.SmallTypes.ownedTupleHandOut;have z8:IsZip (g7.push { cls:=.type "tuple",data:=.seq #[x,y,v] }) z TI TO .ellipsis:=IX _ z7;refine IV (J0 z8 (by simp) λg9 z9 s9=>?_);replace z9:IsZip g9 z TI TO (rawInt g7.objs.size):=z9;refine J0 z9 (by simp) λRJ Sr Qx=>?_;replace Sr:IsZip RJ z TI TO (rawInt g7.objs.size):=Sr;have up:∀c o,c≠z->g7.get? c=some o->RJ.get? c=some o:=λc o c1 e=>Qx.extBut _ _ c1 (s9.extBut _ _ c1 (IX _ e));have zl:g7.objs.size≠z:=Mu (Jm z7);have t10:bX RJ g7.objs.size x y v:=Qx.extBut _ _ zl (s9.extBut _ _ zl (Jh _ rfl))
 have e10:RJ.objs.size=g7.objs.size+1:=by rw[Qx.1,s9.1,Jx]
 rw[sz]at Sr t10 e10;refine Jf ⟨_,rfl,?_⟩;show Q (.ref g7.objs.size) _;rw[sz];exact hQ RJ Sr (up _ _ D.TOz t7) (q1.at λo e=>up _ o D.n1z e) (q2.at λo e=>up _ o D.n2z e) (q3.at λo e=>up _ o D.n3z e) t10 e10 λc o hc e=>up c o (λq=>hc (by simp[q])) (k7 c o hc e)
theorem Cg{b1 b2 b3:Bool}{z TI TO i1 i2 i3 l1 l2 l3:Addr}{k:Nat}{xs ys zs:Array Value}{a b c:Value}{Q:Fin->Shared->Prop}(hh:A.handled=none)(D:Z3 z TI TO i1 i2 i3)
  (hz:IsZip s.heap z TI TO .none) (OZ:bX s.heap TI (.ref i1) (.ref i2) (.ref i3)) (O0:bX s.heap TO a b c) (m1:l1≠TO) (m2:l2≠TO) (m3:l3≠TO)
  (h1:SqI b1 s.heap i1 l1 k) (h2:SqI b2 s.heap i2 l2 k) (h3:SqI b3 s.heap i3 l3 k) (NU:SqO b1 s.heap l1 xs) (NS:SqO b2 s.heap l2 ys) (OV:SqO b3 s.heap l3 zs) (NW:xs[k]?=none\/ys[k]?=none\/zs[k]?=none)
  (hE:∀h' e,(∀c o,c∉[z,TO,i1,i2,i3]->s.heap.get? c=some o->h'.get? c=some o)->(∃o,h'.get? e=some o/\o.cls=.type "StopIteration")->E (.ref e) { s with heap:=h' }) :
  wpAny (model prog w) A (Builtin.«zip.__next__» ⟨[.ref z],[]⟩) Q E s:=by
 have l1z:l1≠z:=NU.ne hz (by simp) (by simp);have l2z:l2≠z:=NS.ne hz (by simp) (by simp);have TV:l3≠z:=OV.ne hz (by simp) (by simp);have l2i1:l2≠i1:=NS.ne_it h1;have QJ:l3≠i1:=OV.ne_it h1;have QK:l3≠i2:=OV.ne_it h2;show wpAny _ _ (field (.ref z) 2 >>= _) _ _ _;refine IV (JS hz rfl (x:=.bool false) rfl ?_);show wpAny _ _ (field (.ref z) 3 >>= _) _ _ _;refine IV (JS hz rfl (x:=.ref TI) rfl (IV (J4 OZ rfl ?_)));show wpAny _ _ (Builtin.SmallTypes.ownedTupleIsFree (.ref z) >>= _) _ _ _;refine IV ?_;unfold Builtin.SmallTypes.ownedTupleIsFree;refine IV (JS hz rfl (x:=.none) rfl (Jf ?_));simp only[La];refine IV (L0 (IV (JS hz rfl (x:=.ref TO) rfl (IV (J0 hz (by simp) λg1 z1 s1=>?_)))));replace z1:IsZip g1 z TI TO .ellipsis:=z1;refine IV ?_;simp only[LL,L3,K5,Lw];refine IV (IV (KH ?_));show wpAny _ _ (Builtin.SmallTypes.nextOf (.ref i1) >>= _) _ _ _
 cases hx:xs[k]? with
 |none=>
  refine IV (iH hh (h1.but s1 D.n1z) (NU.but s1 l1z) hx λg2 e s2 he=>?_);obtain⟨oe,OE,OU⟩:=he;have z2:IsZip g2 z TI TO .ellipsis:=s2 _ _ D.n1z.symm z1
  have ez:e≠z:=λq=>by subst q;rw[z2]at OE;cases OE;simp at OU
  refine J0 z2 (by simp) λg3 _ s3=>hE g3 e (λc o hc q=>?_) ⟨oe,s3.extBut _ _ ez OE,OU⟩;have c1:c≠z:=λq=>hc (by simp[q]);exact s3.extBut _ _ c1 (s2 _ _ (λq=>hc (by simp[q])) (s1.extBut _ _ c1 q))
 |some x=>
  refine IV (gF (h1.but s1 D.n1z) (NU.but s1 l1z) hx λg2 p2 s2=>Jf ?_);have t2:bX g2 TO a b c:=s2.extBut _ _ D.TO1 (s1.extBut _ _ D.TOz O0);refine IV (J4 t2 rfl (IV (kL t2 λg3 t3 s3=>IV (K7 (Jf ?_)))));replace t3:bX g3 TO x b c:=t3;have z3:IsZip g3 z TI TO .ellipsis:=s3.extBut _ _ D.TOz.symm (s2.extBut _ _ D.n1z.symm z1);refine IV (IV (KH ?_));show wpAny _ _ (Builtin.SmallTypes.nextOf (.ref i2) >>= _) _ _ _
  cases hy:ys[k]? with
  |none=>
   refine IV (iH hh (((h2.but s1 D.n2z).but s2 D.n12.symm).but s3 D.TO2.symm) (((NS.but s1 l2z).but s2 l2i1).but s3 m2) hy λg4 e s4 he=>?_);obtain⟨oe,OE,OU⟩:=he;have z4:IsZip g4 z TI TO .ellipsis:=s4 _ _ D.n2z.symm z3
   have ez:e≠z:=λq=>by subst q;rw[z4]at OE;cases OE;simp at OU
   refine J0 z4 (by simp) λg5 _ s5=>hE g5 e (λc o hc q=>?_) ⟨oe,s5.extBut _ _ ez OE,OU⟩;have c1:c≠z:=λq=>hc (by simp[q]);exact s5.extBut _ _ c1 (s4 _ _ (λq=>hc (by simp[q])) (s3.extBut _ _ (λq=>hc (by simp[q])) (s2.extBut _ _ (λq=>hc (by simp[q])) (s1.extBut _ _ c1 q))))
  |some y=>
   have hv:zs[k]?=none:=by
    rcases NW with h|h|h
    ·rw[hx]at h;cases h
    ·rw[hy]at h;cases h
    ·exact h
   refine IV (gF (((h2.but s1 D.n2z).but s2 D.n12.symm).but s3 D.TO2.symm) (((NS.but s1 l2z).but s2 l2i1).but s3 m2) hy λg4 p4 s4=>Jf ?_);have t4:bX g4 TO x b c:=s4.extBut _ _ D.TO2 t3;refine IV (J4 t4 rfl (IV (kL t4 λg5 t5 s5=>IV (K7 (Jf ?_)))));refine IV (IV (KH ?_));show wpAny _ _ (Builtin.SmallTypes.nextOf (.ref i3) >>= _) _ _ _;refine IV (iH hh (((((h3.but s1 D.n3z).but s2 D.n13.symm).but s3 D.TO3.symm).but s4 D.n23.symm).but s5 D.TO3.symm) (((((OV.but s1 TV).but s2 QJ).but s3 m3).but s4 QK).but s5 m3) hv λg6 e s6 he=>?_);obtain⟨oe,OE,OU⟩:=he;have z6:IsZip g6 z TI TO .ellipsis:=s6 _ _ D.n3z.symm (s5.extBut _ _ D.TOz.symm (s4.extBut _ _ D.n2z.symm z3))
   have ez:e≠z:=λq=>by subst q;rw[z6]at OE;cases OE;simp at OU
   refine J0 z6 (by simp) λg7 _ s7=>hE g7 e (λc o hc q=>?_) ⟨oe,s7.extBut _ _ ez OE,OU⟩;have c1:c≠z:=λq=>hc (by simp[q]);have c2:c≠TO:=λq=>hc (by simp[q]);exact s7.extBut _ _ c1 (s6 _ _ (λq=>hc (by simp[q])) (s5.extBut _ _ c2 (s4.extBut _ _ (λq=>hc (by simp[q])) (s3.extBut _ _ c2 (s2.extBut _ _ (λq=>hc (by simp[q])) (s1.extBut _ _ c1 q))))))
theorem EB{b1 b2 b3:Bool}{z TI TO i1 i2 i3 l1 l2 l3:Addr}{k:Nat}{xs ys zs:Array Value}{x y v a b c:Value}{Q:Option Value->Shared->Prop}(D:Z3 z TI TO i1 i2 i3)
  (hz:IsZip s.heap z TI TO .none) (OZ:bX s.heap TI (.ref i1) (.ref i2) (.ref i3)) (O0:bX s.heap TO a b c) (m1:l1≠TO) (m2:l2≠TO) (m3:l3≠TO)
  (h1:SqI b1 s.heap i1 l1 k) (h2:SqI b2 s.heap i2 l2 k) (h3:SqI b3 s.heap i3 l3 k) (NU:SqO b1 s.heap l1 xs) (NS:SqO b2 s.heap l2 ys) (OV:SqO b3 s.heap l3 zs) (hx:xs[k]?=some x) (hy:ys[k]?=some y) (hv:zs[k]?=some v)
  (hQ:∀h',IsZip h' z TI TO (rawInt s.heap.objs.size)->bX h' TO x y v->SqI b1 h' i1 l1 (k+1)->SqI b2 h' i2 l2 (k+1)->SqI b3 h' i3 l3 (k+1)->bX h' s.heap.objs.size x y v->h'.objs.size=s.heap.objs.size+1->
   (∀c o,c∉[z,TO,i1,i2,i3]->s.heap.get? c=some o->h'.get? c=some o)->Q (some (.ref s.heap.objs.size)) { s with heap:=h' }):wpAny (model prog w) A (pyNext (.ref z)) Q E s:=by
 have hT:s.TypeIs (.ref z) "zip":=⟨_,hz,rfl⟩;unfold pyNext
 exact IV (LK (Ka (name:=Str.ofString "__next__") hT KP (Ks KP hT LM
  (Ec D hz OZ O0 m1 m2 m3 h1 h2 h3 NU NS OV hx hy hv λh' c1 c2 c3 c4 c5 c6 c7 c8=>Jf (hQ h' c1 c2 c3 c4 c5 c6 c7 c8)) (LC _))))
theorem yc{b1 b2 b3:Bool}{z TI TO i1 i2 i3 l1 l2 l3:Addr}{k:Nat}{xs ys zs:Array Value}{a b c:Value}{Q:Option Value->Shared->Prop}(hh:A.handled=none)(D:Z3 z TI TO i1 i2 i3)
  (hz:IsZip s.heap z TI TO .none) (OZ:bX s.heap TI (.ref i1) (.ref i2) (.ref i3)) (O0:bX s.heap TO a b c) (m1:l1≠TO) (m2:l2≠TO) (m3:l3≠TO)
  (h1:SqI b1 s.heap i1 l1 k) (h2:SqI b2 s.heap i2 l2 k) (h3:SqI b3 s.heap i3 l3 k) (NU:SqO b1 s.heap l1 xs) (NS:SqO b2 s.heap l2 ys) (OV:SqO b3 s.heap l3 zs) (NW:xs[k]?=none\/ys[k]?=none\/zs[k]?=none)
  (hQ:∀h',(∀c o,c∉[z,TO,i1,i2,i3]->s.heap.get? c=some o->h'.get? c=some o)->Q none { s with heap:=h' }):wpAny (model prog w) A (pyNext (.ref z)) Q E s:=by
 have hT:s.TypeIs (.ref z) "zip":=⟨_,hz,rfl⟩;unfold pyNext;refine IV (LK (Ka (name:=Str.ofString "__next__") hT KP (Ks KP hT LM (Cg hh D hz OZ O0 m1 m2 m3 h1 h2 h3 NU NS OV NW λh' e hk he=>?_) (LC _))));obtain⟨o,ho,hc⟩:=he;exact IV (MA (T:="StopIteration") (b:=true) ⟨o,ho,hc⟩ isSubtype_stop (Jf (hQ _ hk)))
end
theorem G4(a b c:Value):checkTypeCall "zip" ⟨[a,b,c],[]⟩=pure ():=by kernel_rfl
theorem Fn(a b c:Value):checkBuiltinCall "zip.__new__" ⟨[.type "zip",a,b,c],[]⟩=pure ():=by kernel_rfl
theorem zt(a b c d:Value):argsOk "object.__init__" ⟨[a,b,c,d],[]⟩:=by unfold argsOk;rw[signature?_of (id:="object.__init__") (n:=['_','_','t','i','n','i','_','_']) (o:=['t','c','e','j','b','o']) (by kernel_rfl) F.owner_object];kernel_rfl
theorem xW(b1 b2 b3:Bool)(l1 l2 l3:Addr)(xs ys zs:Array Value) :
  Meets (Builtin.«zip.__new__» ⟨[.type "zip",.ref l1,.ref l2,.ref l3],[]⟩) (λ_ R s=>SqO b1 s.heap l1 xs/\SqO b2 s.heap l2 ys/\SqO b3 s.heap l3 zs /\
   R (.ok (.ret (.ref (s.heap.objs.size+5)))) { s with heap:=(((((s.heap.push (bh b1 l1)).push (bh b2 l2)).push (bh b3 l3)).push { cls:=.type "tuple",data:=.seq #[.ref s.heap.objs.size,.ref (s.heap.objs.size+1),.ref (s.heap.objs.size+2)] }).push { cls:=.type "tuple",data:=.seq #[.none,.none,.none] }).push { cls:=.type "zip",data:=.fields #[.none,.bool false,.bool false,.ref (s.heap.objs.size+3),.ref (s.heap.objs.size+4)] } }):=
 .of_wp λprog w A R s h=>by
  obtain⟨hp,g,d,tk,os⟩:=s;obtain⟨NU,NS,OV,h⟩:=h;have Rt:=sub_zip;have To:SqO b1 (Shared.heap ⟨hp,g,d,tk,os⟩) l1 xs:=NU;have Tp:SqO b2 (Shared.heap ⟨hp.push (bh b1 l1),g,d,tk,os⟩) l2 ys:=SqO.at NS λo e=>IX _ e;have hL3:SqO b3 (Shared.heap ⟨(hp.push (bh b1 l1)).push (bh b2 l2),g,d,tk,os⟩) l3 zs:=SqO.at OV λo e=>IX _ (IX _ e)
  wp_walk using i5 To,i5 Tp,i5 hL3
  have e1:(hp.push (bh b1 l1)).objs.size=hp.objs.size+1:=Jx ..
  have e2:((hp.push (bh b1 l1)).push (bh b2 l2)).objs.size=hp.objs.size+2:=by rw[Jx,e1]
  refine⟨_,rfl,?_⟩;simp only[Jx];exact h
section
variable{prog:Program}{w:World}{A:Around}{E:Value->Shared->Prop}{s:Shared}
theorem FX{b1 b2 b3:Bool}{l1 l2 l3:Addr}{xs ys zs:Array Value}{Q:Value->Shared->Prop}(NU:SqO b1 s.heap l1 xs)(NS:SqO b2 s.heap l2 ys)(OV:SqO b3 s.heap l3 zs)
  (h:∀h',IsZip h' (s.heap.objs.size+5) (s.heap.objs.size+3) (s.heap.objs.size+4) .none->bX h' (s.heap.objs.size+3) (.ref s.heap.objs.size) (.ref (s.heap.objs.size+1)) (.ref (s.heap.objs.size+2))->bX h' (s.heap.objs.size+4) .none .none .none->
   SqI b1 h' s.heap.objs.size l1 0->SqI b2 h' (s.heap.objs.size+1) l2 0->SqI b3 h' (s.heap.objs.size+2) l3 0->(∀c o,s.heap.get? c=some o->h'.get? c=some o)->Q (.ref (s.heap.objs.size+5)) { s with heap:=h' }) :
  wpAny (model prog w) A (call (.type "zip") [.ref l1,.ref l2,.ref l3]) Q E s:=by
 refine callType_new F.called_zip (by decide) (G4 _ _ _) (Fn _ _ _) (λobj=>zt obj _ _ _) F.entry_zip_new (xW b1 b2 b3 l1 l2 l3 xs ys zs) ⟨NU,NS,OV,?_⟩
 have f1:(bh b1 l1).isFreed=false:=by cases b1<;>rfl
 have f2:(bh b2 l2).isFreed=false:=by cases b2<;>rfl
 have f3:(bh b3 l3).isFreed=false:=by cases b3<;>rfl
 have z1:(s.heap.push (bh b1 l1)).objs.size=s.heap.objs.size+1:=Jx ..
 have z2:((s.heap.push (bh b1 l1)).push (bh b2 l2)).objs.size=s.heap.objs.size+2:=by rw[Jx,z1]
 have TY:(((s.heap.push (bh b1 l1)).push (bh b2 l2)).push (bh b3 l3)).objs.size=s.heap.objs.size+3:=by rw[Jx,z2]
 generalize Qm:((s.heap.push (bh b1 l1)).push (bh b2 l2)).push (bh b3 l3)=g2 at TY ⊢
 have e0:g2.get? s.heap.objs.size=some (bh b1 l1):=by rw[←Qm];exact IX _ (IX _ (Jh _ f1))
 have e1:g2.get? (s.heap.objs.size+1)=some (bh b2 l2):=by rw[←Qm,←z1];exact IX _ (Jh _ f2)
 have Sq:g2.get? (s.heap.objs.size+2)=some (bh b3 l3):=by rw[←Qm,←z2];exact Jh _ f3
 have k2:∀c o,s.heap.get? c=some o->g2.get? c=some o:=λc o q=>by rw[←Qm];exact IX _ (IX _ (IX _ q))
 generalize QA:g2.push { cls:=.type "tuple",data:=.seq #[.ref s.heap.objs.size,.ref (s.heap.objs.size+1),.ref (s.heap.objs.size+2)] }=g3
 have z3:g3.objs.size=s.heap.objs.size+4:=by rw[←QA,Jx,TY]
 have e2:bX g3 (s.heap.objs.size+3) (.ref s.heap.objs.size) (.ref (s.heap.objs.size+1)) (.ref (s.heap.objs.size+2)):=by rw[←QA,←TY];exact Jh _ rfl
 have k3:∀c o,g2.get? c=some o->g3.get? c=some o:=λc o q=>by rw[←QA];exact IX _ q
 generalize QB:g3.push { cls:=.type "tuple",data:=.seq #[.none,.none,.none] }=g4
 have z4:g4.objs.size=s.heap.objs.size+5:=by rw[←QB,Jx,z3]
 have e3:bX g4 (s.heap.objs.size+4) .none .none .none:=by rw[←QB,←z3];exact Jh _ rfl
 have k4:∀c o,g3.get? c=some o->g4.get? c=some o:=λc o q=>by rw[←QB];exact IX _ q
 generalize Ry:g4.push { cls:=.type "zip",data:=.fields #[.none,.bool false,.bool false,.ref (s.heap.objs.size+3),.ref (s.heap.objs.size+4)] }=g5
 have e4:IsZip g5 (s.heap.objs.size+5) (s.heap.objs.size+3) (s.heap.objs.size+4) .none:=by rw[←Ry,←z4];exact Jh _ rfl
 have k5:∀c o,g4.get? c=some o->g5.get? c=some o:=λc o q=>by rw[←Ry];exact IX _ q
 show _/\_;exact⟨⟨_,e4,rfl⟩,h _ e4 (k5 _ _ (k4 _ _ e2)) (k5 _ _ e3) (gX (k5 _ _ (k4 _ _ (k3 _ _ e0)))) (gX (k5 _ _ (k4 _ _ (k3 _ _ e1)))) (gX (k5 _ _ (k4 _ _ (k3 _ _ Sq)))) λc o q=>k5 _ _ (k4 _ _ (k3 _ _ (k2 _ _ q)))⟩
end
noncomputable def qV(K:Frag)(b1:Bool)(a1:Addr)(b2:Bool)(a2:Addr)(b3:Bool)(a3:Addr):It:=
 ⟨λi H=> ∃xs ys zs x y v, SqB K b1 H a1 xs /\ SqB K b2 H a2 ys /\ SqB K b3 H a3 zs /\ xs[i]? = some x /\ ys[i]? = some y /\ zs[i]? = some v,
  λi H v H'=> ∃t x y u, H t = none /\ v = .ref t /\ H' = ak H t (.tup [x, y, u]) /\ (∀xs, SqB K b1 H a1 xs-> xs[i]? = some x) /\ (∀ys, SqB K b2 H a2 ys-> ys[i]? = some y) /\ ∀zs, SqB K b3 H a3 zs-> zs[i]? = some u,
  λi H=> ∃xs ys zs, SqB K b1 H a1 xs /\ SqB K b2 H a2 ys /\ SqB K b3 H a3 zs /\ (xs.length <= i \/ ys.length <= i \/ zs.length <= i)⟩
theorem A7{P:Program}{w:World}{K:Frag}{es:List Expr}{k:Nat}{pos:Pos}(b1 b2 b3:Bool)(a1 a2 a3 z TI TO i1 i2 i3:Addr)(D:Z3 z TI TO i1 i2 i3) :
  Turn P w K (.Tuple es k pos) (qV K b1 a1 b2 a2 b3 a3) [z,TI,TO,i1,i2,i3] z (λi h=>IsZip h z TI TO .none/\bX h TI (.ref i1) (.ref i2) (.ref i3)/\(∃a b c,bX h TO a b c)/\SqI b1 h i1 a1 i/\SqI b2 h i2 a2 i/\SqI b3 h i3 a3 i) where
 mem:=by simp
 obj:=λi h st c hc=>by
  obtain⟨h1,h2,⟨a,b,c',h3⟩,h4,h5,h6⟩:=st;simp only[Jb,Jp,J5]at hc;rcases hc with rfl|rfl|rfl|rfl|rfl|rfl
  ·exact⟨_,h1,λv q=>by have q':Data.fields _=Data.cell v:=q;cases q'⟩
  ·exact⟨_,h2,λv q=>by have q':Data.seq _ _=Data.cell v:=q;cases q'⟩
  ·exact⟨_,h3,λv q=>by have q':Data.seq _ _=Data.cell v:=q;cases q'⟩
  ·exact h4.obj
  ·exact h5.obj
  ·exact h6.obj
 keep:=λi h h' st k=>by obtain⟨h1,h2,⟨a,b,c,h3⟩,h4,h5,h6⟩:=st;exact⟨k z (by simp) _ h1,k TI (by simp) _ h2,⟨a,b,c,k TO (by simp) _ h3⟩,h4.at λo q=>k i1 (by simp) o q,h5.at λo q=>k i2 (by simp) o q,h6.at λo q=>k i3 (by simp) o q⟩
 item:=by
  intro X hP hw hK hc i pins s σ H E I hf st hg;subst hP hw hK;obtain⟨xs,ys,zs,x,y,p,NN,Of,O8,hx,hy,hp⟩:=hg;obtain⟨h1,h2,⟨a,b,c,h3⟩,h4,h5,h6⟩:=st;obtain⟨O1,Qa,p1,_⟩:=I.sqb NN;obtain⟨NO,Qb,p2,_⟩:=I.sqb Of;obtain⟨QL,Ss,p3,_⟩:=I.sqb O8;obtain⟨u,hu,ru⟩:=Qa.get hx;obtain⟨v,hv,rv⟩:=Qb.get hy;obtain⟨m,hm,rm⟩:=Ss.get hp;refine EB D h1 h2 h3 (I.sqb_ne NN (hf TO (by simp))) (I.sqb_ne Of (hf TO (by simp))) (I.sqb_ne O8 (hf TO (by simp))) h4 h5 h6 p1 p2 p3 (x:=u) (y:=v) (v:=m) (by simpa using hu) (by simpa using hv) (by simpa using hm) λh' z1 z2 z3 z4 z4' z5 z6 hk=>?_;refine⟨.ref s.heap.objs.size,rfl,wpAny_letOwnedTupleGo_zip z1 λg2 zz NL=>?_⟩;have zn:H s.heap.objs.size=none:=I.fresh
  have I1:Inv X pins σ (ak H s.heap.objs.size (.tup [x,y,p])) { s with heap:=s.heap.push { cls:=.type "tuple",data:=.seq #[u,v,m] },toks:=s.toks }:=
   I.laid (λc o q=>IX _ q) (Jc _) ⟨by show 3<=sizeLine;decide,[u,v,m],.cons ru (.cons rv (.cons rm .nil)),_,Jh _ rfl,⟨rfl,rfl⟩,0,rfl⟩
  have Rv:∀c∈[z,TI,TO,i1,i2,i3],c<s.heap.objs.size:=λc hc=>by
   simp only[Jb,Jp,J5]at hc;rcases hc with rfl|rfl|rfl|rfl|rfl|rfl
   ·exact Jm h1
   ·exact Jm h2
   ·exact Jm h3
   ·exact h4.lt
   ·exact h5.lt
   ·exact h6.lt
  have f1:∀c∈[z,TI,TO,i1,i2,i3],cZ X pins (ak H s.heap.objs.size (.tup [x,y,p])) c:=λc hc=>⟨by rw[ba (JM (Rv c hc))];exact (hf c hc).1,(hf c hc).2⟩;have I2:=I1.turnedL (h':=g2) (ch:=[z,TI,TO,i1,i2,i3]) (t':=s.toks) (λc o hc q=>?_) f1
  ·refine⟨.ref s.heap.objs.size,_,I2,rfl,⟨s.heap.objs.size,x,y,p,zn,rfl,rfl,λQC Ph=>by rw[I.sqb_inj Ph NN];exact hx,λys' Ph=>by rw[I.sqb_inj Ph Of];exact hy,λys' Ph=>by rw[I.sqb_inj Ph O8];exact hp⟩,
    ⟨zz,NL.extBut _ _ D.TIz (hk TI _ (by simp[D.TIz,D.TITO,D.TI1,D.TI2,D.TI3]) h2),⟨_,_,_,NL.extBut _ _ D.TOz z2⟩,z3.but NL D.n1z,z4.but NL D.n2z,z4'.but NL D.n3z⟩,λc hc=>(f1 c hc).1⟩
  ·have Tq:c≠z:=λe=>hc (by simp[e]);refine (NL.2 c Tq).trans ?_;rcases L1 q with⟨e,e'⟩|q'
   ·subst e;subst e';exact z5
   ·exact hk c o (λe=>hc (by
     simp only[Jb,Jp,J5]at e ⊢
     rcases e with e|e|e|e|e<;>simp[e])) q'
 done:=by
  intro X hP hw hK hc i pins s σ H E I hf st hg;subst hP hw hK;obtain⟨xs,ys,zs,NN,Of,O8,NW⟩:=hg;obtain⟨h1,h2,⟨a,b,c,h3⟩,h4,h5,h6⟩:=st;obtain⟨O1,Qa,p1,_⟩:=I.sqb NN;obtain⟨NO,Qb,p2,_⟩:=I.sqb Of;obtain⟨QL,Ss,p3,_⟩:=I.sqb O8;have l1:=Qa.length;have l2:=Qb.length;have l3:=Ss.length
  have he:O1.toArray[i]?=none\/NO.toArray[i]?=none\/QL.toArray[i]?=none:=by
   rcases NW with q|q|q
   ·exact .inl (by simp;omega)
   ·exact .inr (.inl (by simp;omega))
   ·exact .inr (.inr (by simp;omega))
  refine yc (I.ok.hd hc) D h1 h2 h3 (I.sqb_ne NN (hf TO (by simp))) (I.sqb_ne Of (hf TO (by simp))) (I.sqb_ne O8 (hf TO (by simp))) h4 h5 h6 p1 p2 p3 he λh' hk=>⟨rfl,?_⟩;refine I.turnedL (ch:=[z,TI,TO,i1,i2,i3]) (t':=s.toks) (λc o hc q=>hk c o (λe=>hc ?_) q) hf;simp only[Jb,Jp,J5]at e ⊢;rcases e with e|e|e|e|e<;>simp[e]
 self:=λ_ _ _ _ _ st h=>LN st.1 h
theorem xJ(n:Nat):Z3 (n+5) (n+3) (n+4) n (n+1) (n+2):=
 ⟨(by omega:n+3≠n+5),(by omega:n+4≠n+5),(by omega:n≠n+5),(by omega:n+1≠n+5),(by omega:n+2≠n+5),(by omega:n+3≠n+4),(by omega:n+3≠n),(by omega:n+3≠n+1),(by omega:n+3≠n+2),(by omega:n+4≠n),(by omega:n+4≠n+1),(by omega:n+4≠n+2),(by omega:n≠n+1),(by omega:n≠n+2),(by omega:n+1≠n+2)⟩
section
variable{K:Frag}{X:Cx}{e a b c:Expr}{es:List Expr}{pos p tp:Pos}{tl:aM}
theorem HH{ta:TA}{k:Nat}(hK:X.K=K)(hg:Gl X "zip")(hm:X.mg "zip"=none)(ha:PA X [a,b,c] ta)(hs:starEach [a,b,c] X.env=(false,eval a X.env)::starEach [b,c] X.env)(NL:starEach [b,c] X.env=[(false,eval b X.env),(false,eval c X.env)]) :
  PI X (.Tuple es k tp) (.Call (.Name "zip" p) [a,b,c] [] pos) (λσ H R=>ta σ H λvs H1=>∃b1 b2 b3 a1 a2 a3 xs ys zs,vs=[.ref a1,.ref a2,.ref a3]/\SqB K b1 H1 a1 xs/\SqB K b2 H1 a2 ys/\SqB K b3 H1 a3 zs/\R (qV K b1 a1 b2 a2 b3 a3) H1):=by
 subst hK;intro pins s σ H R I h;refine Call_ (hX I hg hm boot_zip (Kn (aw (ha pos pins s σ H _ I h) λus s1 ⟨vs,H1,I1,r1,q1⟩=>?_) (by rw[hs,NL]) (by rw[NL];rfl)));obtain⟨b1,b2,b3,l1,l2,l3,xs,ys,zs,e,NN,Of,O8,q⟩:=q1;subst e
 cases r1 with
 |cons r rr=>
  cases rr with
  |cons r' rr=>
   cases rr with
   |cons r'' rr=>
   cases rr;cases r;cases r';cases r'';obtain⟨O1,Qa,p1,_⟩:=I1.sqb NN;obtain⟨NO,Qb,p2,_⟩:=I1.sqb Of;obtain⟨QL,Ss,p3,_⟩:=I1.sqb O8;refine FX p1 p2 p3 λh' z1 z2 z3 z4 z5 z6 hk=>LN z1 ?_;have I2:Inv X pins σ H1 { s1 with heap:=h' }:=I1.kept (t':=s1.toks) hk;have fr:∀c,s1.heap.objs.size<=c->cZ X pins H1 c:=λc hc=>I1.fpOk hc (I1.hok.fresh hc);generalize s1.heap.objs.size=n at *;refine⟨n+5,[n+5,n+3,n+4,n,n+1,n+2],_,_,H1,rfl,I2,A7 b1 b2 b3 l1 l2 l3 (n+5) (n+3) (n+4) n (n+1) (n+2) (xJ n),⟨z1,z2,⟨_,_,_,z3⟩,z4,z5,z6⟩,λc hc=>fr c ?_,q⟩;simp only[Jb,Jp,J5]at hc;rcases hc with rfl|rfl|rfl|rfl|rfl|rfl<;>first|exact Lg _ _|exact Jc _
noncomputable def jM(ds es fs:List D):List D:=List.zipWith (λp z=>match p with|.tup [x,y]=>.tup [x,y,z]|q=>q) (eQ ds es) fs
theorem oq{ds es fs:List D}{i:Nat}{d:D}(h:(jM ds es fs)[i]?=some d):∃x y z,ds[i]?=some x/\es[i]?=some y/\fs[i]?=some z/\d=.tup [x,y,z]:=by
 unfold jM at h;rw[KI]at h
 cases e:(eQ ds es)[i]? with
 |none=>rw[e]at h;cases h
 |some q=>
  obtain⟨x,y,hx,hy,rfl⟩:=wW e
  cases e2:fs[i]? with
  |none=>rw[e,e2]at h;cases h
  |some z=>rw[e,e2]at h;cases h;exact⟨x,y,z,hx,hy,rfl,rfl⟩
theorem mi(ds es fs:List D):(jM ds es fs).length=min (min ds.length es.length) fs.length:=by unfold jM;rw[K3,oQ]
noncomputable def zK(t:aM):aM:=λρ R=>t ρ λds=>match ds with| [d,e,f]=>∃xs ys zs,dU d=some xs/\dU e=some ys/\dU f=some zs/\R (jM xs ys zs)|_=>False
theorem Dm{Φ:Hp}{ds es fs:List D}{us vs ws:List V}{b1 b2 b3:Bool}{a1 a2 a3:Addr}(h1:SqB K b1 Φ a1 us)(h2:SqB K b2 Φ a2 vs)(h3:SqB K b3 Φ a3 ws)(r1:RpL K Φ ds us)(r2:RpL K Φ es vs)(r3:RpL K Φ fs ws):SteadyD K (qV K b1 a1 b2 a2 b3 a3) Φ (jM ds es fs):=
 ⟨λi H s hi=>by
  rw[mi]at hi
  have i1:i<us.length:=by rw[r1.1];omega
  have i2:i<vs.length:=by rw[r2.1];omega
  have i3:i<ws.length:=by rw[r3.1];omega
  exact⟨us,vs,ws,us[i],vs[i],ws[i],SqB.same s h1,SqB.same s h2,SqB.same s h3,bf i1,bf i2,bf i3⟩,λi Φ2 H x H2 d s2 s hd y=>by
  obtain⟨t,u,v,w,hn,e,e',y1,y2,y3⟩:=y;subst e e';obtain⟨p,q,r,hp,hq,hr,rfl⟩:=oq hd;have sn:=s2.trans (cG (s.free hn) (.tup [u,v,w]));refine⟨_,.new s hn _,.tup bq rfl λj a c ha hc=>?_⟩
  match j,ha,hc with
  |0,ha,hc=>cases ha;cases hc;exact (r1.2 i u p (y1 us (SqB.same (s2.trans s) h1)) hp).same sn
  |1,ha,hc=>cases ha;cases hc;exact (r2.2 i v q (y2 vs (SqB.same (s2.trans s) h2)) hq).same sn
  |2,ha,hc=>cases ha;cases hc;exact (r3.2 i w r (y3 ws (SqB.same (s2.trans s) h3)) hr).same sn,λH s=>by
  rw[mi]
  exact⟨us,vs,ws,SqB.same s h1,SqB.same s h2,SqB.same s h3,by rw[r1.1,r2.1,r3.1];omega⟩⟩
theorem RpL.three_inv{Φ:Hp}{d e f:D}{vs:List V}(h:RpL K Φ [d,e,f] vs):∃u v w,vs=[u,v,w]/\Rp K Φ d u/\Rp K Φ e v/\Rp K Φ f w:=by
 obtain⟨h1,h2⟩:=h
 match vs,h1,h2 with
 | [u,v,w],_,h2=>exact⟨u,v,w,rfl,h2 0 u d rfl rfl,h2 1 v e rfl rfl,h2 2 w f rfl rfl⟩
theorem xn{ek:Nat}(hg:Gl X "zip")(hm:X.mg "zip"=none)(ha:PAD K X [a,b,c] tl)(hs:starEach [a,b,c] X.env=(false,eval a X.env)::starEach [b,c] X.env:=by rfl)(NL:starEach [b,c] X.env=[(false,eval b X.env),(false,eval c X.env)]:=by rfl):PID K X (.Tuple es ek tp) (.Call (.Name "zip" p) [a,b,c] [] pos) (zK tl):=
 ⟨λhK=>(HH hK hg hm (ha.pa hK) hs NL).imp λσ H R' Nb=>by obtain⟨H0,Φ,ρ,R,E,t,k⟩:=Nb;exact⟨H0,Φ,ρ,_,E,t,λds Φ1 H1 vs r g rv _=>by
  match ds,r with
  | [d,e,f],⟨xs,ys,zs,hx,hy,hz,r⟩=>
   obtain⟨u,v,w,rfl,r1,r2,r3⟩:=rv.three_inv;obtain⟨q1,a1,ws,rfl,h1,h2⟩:=r1.seq hx;obtain⟨q2,a2,us,rfl,h3,h4⟩:=r2.seq hy;obtain⟨q3,a3,ts,rfl,h5,h6⟩:=r3.seq hz
   exact⟨q1,q2,q3,a1,a2,a3,ws,us,ts,rfl,SqB.same g.s h1,SqB.same g.s h3,SqB.same g.s h5,k _ Φ1 H1 _ r g (Dm h1 h3 h5 h2 h4 h6)⟩⟩⟩
end
section
variable{K:Frag}{X:Cx}{e a b tg:Expr}{te tk:TX}{pos Nh Nl:Pos}{x:Str}
noncomputable def B6(te:TX):gW:=λρ R Rx=>te ρ (xV λd ρ1=>match d with|.tup ds=>R ds ρ1|_=>False) Rx
theorem AR(he:PX K X e te):PIM K X tg e (B6 te):=⟨λhK=>(DS hK (he.pe hK):PI X tg e (pF K (iF K X te))).imp λσ H R' Nb=>by
 obtain⟨Φ0,H0,Φ,τ,ρ,κ,R,Rx,S,t,k⟩:=Nb;refine⟨Φ0,H0,Φ,τ,ρ,κ,_,Rx,S,t,λs ρ1 Φ1 H1 v r S1 f1=>?_⟩;obtain⟨d,rfl,r⟩:=r.get;have rd:=S1.last
 cases d with
 |tup ds=>cases rd with|tup h1 h2 h3=>exact⟨_,rfl,⟨_,.of (S1.E.fz _ _ h1)⟩,k _ ρ1 Φ1 H1 _ r (S1.pop S.lk) f1 (tj (.of h1) ⟨h2,h3⟩)⟩
 |_=>exact r.elim⟩
noncomputable def AK(i:Nat)(tk te:TX):bG:=λDe ρ=>(ownL ρ i λ_ _=>True)/\tk ρ (xV λkk ρ1=>match kk with|.int n=>ownL ρ1 i λa ds=>∃(j:Nat)(v:Str),n=(j:Int)/\ds[j]?=some (.str v)/\te ρ1 (xV λd ρ2=>match d with|.str m=>ownL ρ2 i λa2 Qg=>v.length+m.length<=sizeLine/\j<Qg.length/\NF (Qg.set j (.str (v++m))) λes=>De.nx (ρ2.set i (some (.ob a2 (.lst es))))|_=>False) De.ex|_=>False) De.ex
theorem Ha(i:Nat)(hk:PX K X b tk)(he:PX K X e te)(hN:X.N[i]?=some x:=by rfl)(hv:cF X.env.scope x:=by nofun)(hd:(x==("__debug__":Str))=false:=by decide)(Np:(x==("__classdict__":Str))=false:=by decide)
  (ha:∀ov iv new,augStore b ov iv new=(do holding [new,ov,iv] (setItem ov iv new);release [new,ov,iv] [];pure .next):=by intros;rfl) :
  PSM K X (.AugAssign (.Subscript (.Name x Nh) b Nl) .Add e pos) (AK i tk te):=
 ⟨λhK=>(sM (pv i hN hv hd Np) (hk.pe hK) (vD hK) (he.pe hK) Dg oa ha).imp λE σ H Nb=>by
  obtain⟨Φ0,H0,Φ,ρ,De,g,V,⟨ho,t⟩,k⟩:=Nb;obtain⟨a,ds,ho,_⟩:=ownL.get ho;have S:=dJ g V k.ex;obtain⟨q,vs,e1,hp,rl,_⟩:=S.list ho;refine⟨_,e1,Φ0,H0,Φ,[],ρ,[],_,De.ex,S,t,λs1 ρ1 Φ1 H1 w r1 S1 _=>?_⟩;obtain⟨kk,rfl,r1⟩:=r1.get;have rk:=S1.last
  cases kk with
  |int n=>
   cases rk;obtain⟨a1,Sk,Pu,j,v,rfl,hj,r1⟩:=ownL.get r1;obtain⟨q1,QH,e2,NZ,Qf,_⟩:=S1.list Pu;rw[e1]at e2;cases e2;obtain⟨u,hu,ru⟩:=Qf.at hj;cases ru;refine⟨q,QH,_,j,_,rfl,rfl,.of NZ,rfl,hu,Φ0,H0,Φ1,_,ρ1,_,_,De.ex,S1,r1,λs2 ρ2 Φ2 H2 z r2 S2 _=>?_⟩;obtain⟨d,rfl,r2⟩:=r2.get;have rd:=S2.last
   cases d with
   |str m=>
    cases rd;obtain⟨a2,Qg,OS,hsz,Sn,r2⟩:=ownL.get r2;obtain⟨q2,QI,e3,Oz,Pj,k2⟩:=S2.list OS;rw[e1]at e3;cases e3;have S3:=k2 _ _ (Pj.set (.str (v++m)) j);exact⟨v,m,rfl,rfl,hsz,q,QI,_,j,rfl,rfl,Oz,uw (by rw[Pj.1];exact Sn),k.nx _ Φ2 _ σ r2.get S3.g S3.env⟩
   |_=>exact r2.elim
  |_=>exact r1.elim⟩
noncomputable def kW:Option Int->D
 |none=>.non
 |some i=>.int i
noncomputable def kZ:Option Int->V
 |none=>.non
 |some i=>.int i
theorem GT{Φ:Hp}{xs:List (Option Int)}{vs:List V}(r:RpL K Φ (xs.map kW) vs):vs=xs.map kZ:=by
 refine Kc λi=>?_;rw[Jd]
 cases h:xs[i]? with
 |none=>
  have h1:=Km.mp h;exact J2 (by rw[r.1,mn];exact h1)
 |some o=>
  have hi:=aU h;have hv:vs[i]?=some (vs[i]'(by rw[r.1,mn];exact hi)):=bf _;have q:=r.2 i _ (kW o) hv (by rw[Jd,h];rfl);rw[hv];generalize vs[i]'(by rw[r.1,mn];exact hi)=v at q
  cases o with
  |none=>cases q;rfl
  |some n=>cases q;rfl
noncomputable def EW:cv:=λdx dy R=>∃(xs:List (Option Int)),dx=.non/\dU dy=some (xs.map kW)/\R (.bl (decide (none∈xs)))
theorem Cd:OpD K X (compareOp .In) EW:=⟨λhK pins s σ H x y u v Q I rx ry Nb=>by
 obtain⟨Φ,dx,dy,R,sm,hx,hy,⟨xs,rfl,e,h⟩,kk⟩:=Nb;cases hx.non;obtain⟨a,vs,rfl,q,rl⟩:=hy.seq sm e;cases GT rl;refine tE pins s σ H _ _ u v Q I rx ry ⟨a,_,rfl,by rw[hK];exact q,rfl,?_,?_⟩
 ·rw[JB];intro z hz;obtain⟨j,_,rfl⟩:=Jr.mp hz;cases j<;>rfl
 ·have e2:(if false=true then !fC .non (xs.map kZ) else fC .non (xs.map kZ))=decide (none∈xs):=by
   show fC .non (xs.map kZ)=_;unfold fC;rw[Na,Kr,List.any_eq_true,JL];constructor
   ·rintro⟨o,ho,hc⟩
    cases o with
    |none=>exact ho
    |some n=>cases hc
   ·intro h;exact⟨none,h,rfl⟩
  rw[e2]
  exact kk _ Φ H _ h (.refl sm) (.bl _)⟩
end
end L2
namespace Kx
open PySem L2
section
local macro_rules|`(tactic|rfl')=>`(tactic|dsimp only[aO,aF,az,aJ,aR,aK,aQ,List.set])
variable{P:Program}{w:World}{K:Frag}{mg:Str->Option Value}{base:Heap}{n:Nat}{f:Addr}{fd:FuncData}
noncomputable def top(i:Nat):Stmt:=PySem.Challenge.pw_cutyard_k72_tried.main.body.getD i (.Pass ⟨0,0,0,0⟩)
noncomputable abbrev kJ:Stmt:=top 18
theorem GC:FnScope ["entries","spot"] ["entries","spot"] (aE kJ):=by ac_rfl
noncomputable abbrev mQ:Stmt:=top 19
theorem Bo:FnScope ["row","spot"] ["row","spot"] (aE mQ):=by ac_rfl
noncomputable abbrev jT:Stmt:=top 20
theorem FF:FnScope ["row"] ["row"] (aE jT):=by ac_rfl
noncomputable abbrev mJ:Stmt:=top 45
theorem Dl:FnScope ["plan","spot"] ["plan","spot"] (aE mJ):=by ac_rfl
noncomputable abbrev kg:Stmt:=top 98
theorem Cp:FnScope ["word"] ["word"] (aE kg):=by ac_rfl
noncomputable abbrev j8:Stmt:=top 99
theorem sc_number_form:FnScope ["word","figures"] ["word"] (aE j8):=by ac_rfl
noncomputable abbrev me:Stmt:=top 100
theorem sc_sum_form:FnScope ["words","terms","place","number","name"] ["words"] (aE me):=by ac_rfl
noncomputable abbrev n5:Stmt:=top 101
theorem sc_unknown_form:FnScope ["words","least","most"] ["words"] (aE n5):=by ac_rfl
noncomputable abbrev ng:Stmt:=top 102
theorem sc_row_form:FnScope ["words","terms","number"] ["words"] (aE ng):=by ac_rfl
noncomputable abbrev l0:Stmt:=top 103
theorem sc_worth_form:FnScope ["words","terms"] ["words"] (aE l0):=by ac_rfl
noncomputable abbrev nQ:Stmt:=top 104
theorem sc_line_form:FnScope ["line","words"] ["line"] (aE nQ):=by ac_rfl
noncomputable abbrev nh:Stmt:=top 105
theorem sc_sum_entries:FnScope ["terms","names","at","entries","came","number","name"] ["terms","names","at"] (aE nh):=by ac_rfl
noncomputable abbrev ky:Stmt:=top 106
theorem Hg:FnScope ["entries"] ["entries"] (aE ky):=by ac_rfl
noncomputable abbrev mG:Stmt:=top 107
theorem sc_written_unknown:FnScope ["name","bounds","least","most"] ["name","bounds"] (aE mG):=by ac_rfl
noncomputable abbrev kE:Stmt:=top 108
theorem sc_written_sum:FnScope ["names","entries","terms"] ["names","entries"] (aE kE):=by ac_rfl
noncomputable abbrev mB:Stmt:=top 109
theorem sc_written_row:FnScope ["names","row","total","bound"] ["names","row"] (aE mB):=by ac_rfl
noncomputable abbrev lx:Stmt:=top 110
theorem sc_written_worth:FnScope ["names","goal","sense","total"] ["names","goal","sense"] (aE lx):=by ac_rfl
noncomputable abbrev jL:Stmt:=top 111
theorem sc_write_plan:FnScope ["names","plan","sense","lines"] ["names","plan","sense"] (aE jL):=by ac_rfl
noncomputable abbrev kj:Stmt:=top 113
theorem sc_with_unknown:FnScope ["state","name","bounds","names","plan","rows"] ["state","name","bounds"] (aE kj):=by ac_rfl
noncomputable abbrev mC:Stmt:=top 114
theorem sc_with_row:FnScope ["state","terms","number","at_most","plan","row","rows"] ["state","terms","number","at_most"] (aE mC):=by ac_rfl
noncomputable abbrev nD:Stmt:=top 115
theorem sc_with_worth:FnScope ["state","terms","sense","plan","goal"] ["state","terms","sense"] (aE nD):=by ac_rfl
noncomputable abbrev nX:Stmt:=top 117
theorem BE:FnScope ["state","form"] ["state","form"] (aE nX):=by ac_rfl
noncomputable abbrev mL:Stmt:=top 120
theorem sc_tried:FnScope ["state","spot","plan","name","number","bounds","place","row","total"] ["state","spot"] (aE mL):=by ac_rfl
noncomputable abbrev jU:Stmt:=top 122
theorem sc_numbers_form:FnScope ["words","numbers"] ["words"] (aE jU):=by ac_rfl
noncomputable abbrev nM:Stmt:=top 123
theorem sc_say_form:FnScope ["line","n","words","numbers"] ["line","n"] (aE nM):=by ac_rfl
noncomputable abbrev ma:Stmt:=top 126
theorem sc__law_pool:FnScope ["_law_script","_law_at","_law_rest"] ["_law_script","_law_at"] (aE ma):=by ac_rfl
noncomputable abbrev n0:Stmt:=top 127
theorem sc__law_next:FnScope ["_law_pool_here","_law_size","_law_drawn","_law_cell","_law_stir"] ["_law_pool_here","_law_size"] (aE n0):=by ac_rfl
noncomputable abbrev mD:Stmt:=top 128
theorem sc__law_names:FnScope ["_law_pool_here","_law_count","_law_letters","_law_way","_law_turn","_law_at","_law_names_here","_law_k","_law_some"] ["_law_pool_here","_law_count"] (aE mD):=by ac_rfl
noncomputable abbrev lz:Stmt:=top 129
theorem sc__law_built:FnScope ["_law_pool_here","_law_names_here","_law_spot","_law_lines","_law_bounds","_law_name","_law_number","_law_least","_law_most"] ["_law_pool_here","_law_names_here"] (aE lz):=by ac_rfl
noncomputable abbrev la:Stmt:=top 130
theorem sc__law_small_sum:FnScope ["_law_pool_here","_law_names_here","_law_entries","_law_terms","_law_name"] ["_law_pool_here","_law_names_here"] (aE la):=by ac_rfl
noncomputable abbrev ko:Stmt:=top 131
theorem BN:FnScope ["_law_entries","_law_spot"] ["_law_entries","_law_spot"] (aE ko):=by ac_rfl
noncomputable abbrev kF:Stmt:=top 132
theorem sc__law_near_row:FnScope ["_law_pool_here","_law_names_here","_law_spot","_law_entries","_law_text","_law_slack","_law_bound"] ["_law_pool_here","_law_names_here","_law_spot"] (aE kF):=by ac_rfl
noncomputable abbrev mY:Stmt:=top 133
theorem sc__law_due:FnScope ["_law_names_here","_law_bounds","_law_rows","_law_entries","_law_spot","_law_name","_law_pair","_law_number","_law_k"] ["_law_names_here","_law_bounds","_law_rows","_law_entries","_law_spot"] (aE mY):=by ac_rfl
noncomputable abbrev mE:Stmt:=top 134
theorem sc__law_other:FnScope ["_law_pool_here","_law_spot","_law_other_here","_law_number","_law_way"] ["_law_pool_here","_law_spot"] (aE mE):=by ac_rfl
noncomputable abbrev kd:Stmt:=top 135
theorem sc_law:FnScope ["_law_script","_law_pool_here","_law_names_here","_law_desk","_law_spot","_law_lines","_law_bounds","_law_rows","_law_k","_law_line","_law_row","_law_entries","_law_text","_law_written","_law_numbers","_law_due_here","_law_told"] ["_law_script"] (aE kd):=by ac_rfl
noncomputable abbrev i4:Stmt:=lj (top 124) 0
theorem Hn:FnScope ["self"] ["self"] (aE i4):=by ac_rfl
noncomputable abbrev iN:Stmt:=lj (top 124) 1
theorem sc_Desk__say:FnScope ["self","line","form"] ["self","line"] (aE iN):=by ac_rfl
noncomputable abbrev iI:Stmt:=lj (top 124) 2
theorem BC:FnScope ["self","state"] ["self","state"] (aE iI):=by ac_rfl
noncomputable abbrev jb:Stmt:=lj (top 124) 3
theorem yL:FnScope ["self"] ["self"] (aE jb):=by ac_rfl
structure TxtDesk(K:Frag)(mg:Str->Option Value)(C:Addr):Prop where
 cl:Cls K C
 n_state:NoAttr K C "state"
 n_states:NoAttr K C "states"
 mgC:mg "Desk"=some (.ref C)
 ns:nsIn K mainGlobals "Desk"=some (some (.ref C))
theorem toB{R:D->Prop}{a b:Bool}(q:R (.bl a))(e:b=a):R (.bl b):=e▸q
theorem gm{a b:Int}(h:(a==b)=true):a=b:=eq_of_beq h
theorem uu{a b:Int}(h:(a==b)=false):a≠b:=λe=>by subst e;rw[JT]at h;cases h
open Tx
noncomputable def ef(w:Str):Prop:=w.cps.all (·<128)=true/\w.length<=100000
theorem sF{l:List Nat}{a n:Nat}(e:l=(List.range n).map (a+·))(c:Nat):c∈l↔a<=c/\c<a+n:=by
 rw[e,Jr];constructor
 ·rintro⟨i,hi,rfl⟩;have:=J6.mp hi;omega
 ·exact λh=>⟨c-a,J6.mpr (by omega),by omega⟩
theorem DY(c:Nat):(false != decide (c∈("abcdefghijklmnopqrstuvwxyz":Str).cps.toList))=eY c:=by rw[Lz,Kr,JL,sF (a:=97) (n:=26) (by lia)];unfold eY;rw[JR,JL,JL];omega
theorem B2(c:Nat):(false != decide (c∈("0123456789":Str).cps.toList))=eM c:=by rw[Lz,Kr,JL,sF (a:=48) (n:=10) (by lia)];unfold eM;rw[JR,JL,JL];omega
theorem kK{w:Str}(h:w.length<=100000):w.length<=sizeLine:=by have:=Kd;omega
theorem tJ{n:Nat}(h:n<=100000):n<sizeLine:=by have:=Kd;omega
theorem nH(w:Str):(L w).length=w.length:=by unfold L;rw[J3];rfl
noncomputable def pW:bc:=λds R=>∃(w:Str),ds=[.str w]/\ef w/\R (.bl (bQ w))
theorem BX(F:Fun K "is_name" "is_name" kg f fd)(jO:mg "all"=none)(Nz:∃tk,mg "MOST_LETTERS"=some (.int 12 tk))(aV:mg "len"=none)(N9:∃tk,mg "LETTERS"=some (.str "abcdefghijklmnopqrstuvwxyz" tk)):FnOk P w K mg base aT (n+1) f fd ["word"] (bP K pW):=by
 refine F.okD Cp (λds R h=>?_) (λNk A outer s H E ds R hr h=>?_)
 ·obtain⟨w,rfl,_⟩:=h;rfl
 obtain⟨w,rfl,ha,q⟩:=h
 refine⟨_,(bL (bF (PWD.td (eW (aI iX (PD.q (bZ cu rfl aV JC (br (ae 0) bt aa) aa ag)) (PD.q ao) (aG _)) (fP (aI gY (PD.q (bZ cu rfl aV JC (br (ae 0) bt aa) aa ag)) (PD.q (mz rfl Nz.choose_spec)) (aG _))))) (aP (aY mO)) bH)
   (aP (aY (bZ (vT rfl) rfl jO MZ (br (PD.q (PF.d (fV (k:=1) (N':=["sign"]) (cap:=[none]) rfl (.ok (show eB ["word"] (aE kg) _ ["sign"] [none]=true by lia)) (by lia) (dM (by decide)) (tX (dv 0)) (λ_ _ _ _ _=>(bY (i:=0) (show List.Nodup (["sign"]:List Str)by lia) rfl U2)) (λ_ _ _ _ _=>(nr ux (ae 0) (PD.q (rZ rfl N9.choose_spec)) (by with_unfolding_all rfl)))))) bt dN) dN ag)))),?_⟩
 have sz:=kK ha.2
 have no:¬ (1<=w.length/\w.length<=12)->bQ w=false:=λh=>by
  unfold bQ;rcases Decidable.not_and_iff_or_not.mp h with h|h
  ·rw[Jo h];rfl
  ·rw[Jo h,Bool.and_false];rfl
 refine⟨λρ=>(1<=w.length/\w.length<=12)/\ρ=[some (.v (.str w))],?_,?_⟩
 ·refine⟨sz,λh=>⟨λ_=>?_,λh=>tf h⟩,λh=>⟨sz,λh2=>?_,λh2=>⟨⟨?_,?_⟩,rfl⟩⟩⟩
  ·exact toB q (no (by have:=Ju h;omega)).symm
  ·exact toB q (no (by have:=Ju h2;omega)).symm
  ·have:=J1 h;omega
  ·have:=J1 h2;omega
 rintro ρ ⟨⟨h1,h2⟩,rfl⟩;refine⟨w,rfl,ha.1,?_⟩;refine iu (f:=λc=>D.str (oJ c)) (λc=>D.bl (eY c)) (by rw[J3];exact tJ ha.2) (λc _=>⟨c,_,rfl,rfl,by rw[DY]⟩) ?_;refine⟨(L w).map eY,by rw[Kg];rfl,?_⟩;refine toB q ?_;unfold bQ;rw[JP h1,JP h2];show ((L w).map eY).all id=_;rw[M9];rfl
theorem zy(w:Str):Txt.startswith w "-"=((L w).head?==some 45):=by
 have hb:("-":Str)=⟨#[45]⟩:=by decide
 have h:=PySem.StrLaws.subAt_one w 45 0;rw[hb,Kr,Ld,MQ];refine Iff.trans ?_ h;unfold Txt.startswith;rw[JR,JL]
noncomputable def gP(l:List Nat):List Nat:=match l with|45::r=>r|l=>l
theorem lD{l:List Nat}(h:(l.head?==some 45)=true):∃r,l=45::r/\gP l=r:=by
 cases l with
 |nil=>cases h
 |cons a r=>
  have:a=45:=by simpa using h
  subst this;exact⟨r,rfl,rfl⟩
theorem nK{l:List Nat}(h:(l.head?==some 45)=false):gP l=l/\gf l=if cV l&&(l.head? != some 48 ||l==[48]) then some (NumText.digitsVal l:Int) else none:=by
 unfold gP gf;constructor
 ·split
  ·next r=>simp at h
  ·rfl
 ·split
  ·next r=>simp at h
  ·rfl
theorem sJ{l:List Nat}(h:cV (gP l)=false):gf l=none:=by
 cases c:l.head?==some 45 with
 |true=>
  obtain⟨r,rfl,e⟩:=lD c;rw[e]at h;show (if cV r&&_ then _ else none)=none;rw[h];rfl
 |false=>
  obtain⟨e,e2⟩:=nK c;rw[e]at h;rw[e2,h];rfl
theorem GP{l:List Nat}(h:(gP l).head?=some 48)(hw:l≠[48]):gf l=none:=by
 cases c:l.head?==some 45 with
 |true=>
  obtain⟨r,rfl,e⟩:=lD c;rw[e]at h;show (if cV r&&r.head? != some 48 then _ else none)=none;rw[h];simp
 |false=>
  obtain⟨e,e2⟩:=nK c;rw[e]at h;rw[e2,h];simp[hw]
theorem yk{l:List Nat}(h:cV (gP l)=true)(hw:(gP l).head?≠some 48\/l=[48]):∃n,gf l=some n:=by
 cases c:l.head?==some 45 with
 |true=>
  obtain⟨r,rfl,e⟩:=lD c;rw[e]at h hw;refine⟨-(NumText.digitsVal r:Int),?_⟩;show (if cV r&&r.head? != some 48 then _ else none)=_;rcases hw with hw|hw
  ·rw[h,M4.mpr hw];rfl
  ·cases hw
 |false=>
  obtain⟨e,e2⟩:=nK c;rw[e]at h hw;refine⟨(NumText.digitsVal l:Int),?_⟩;rw[e2,h,Ja];rcases hw with hw|hw
  ·rw[M4.mpr hw];rfl
  ·rw[hw];rfl
theorem GB(l:List Nat):bN l (some 1) none=l.drop 1:=by
 unfold bN;rw[HT.sIx_none,show (some (1:Int))=some ((1:Nat):Int)from rfl,HT.sIx_nat];rw[Ke (by rw[JY];omega)]
 cases l with
 |nil=>rfl
 |cons a r=>simp
noncomputable def b7(w:Str):Str:=if ((L w).head?==some 45)=true then fJ w (some 1) none else w
theorem ke(w:Str):L (b7 w)=gP (L w):=by
 unfold b7
 cases c:(L w).head?==some 45 with
 |true=>
  rw[Ja rfl];obtain⟨r,e,e2⟩:=lD c;rw[e2];show (bN (L w) (some 1) none).toArray.toList=r;rw[GB,e];rfl
 |false=>rw[I0 (by simp)];exact (nK c).1.symm
theorem Bx{w:Str}(h:ef w):ef (b7 w):=by
 have hl:(b7 w).length<=w.length:=by
  unfold b7;split
  ·exact zV _ _ _
  ·exact Jc _
 refine⟨?_,by have:=h.2;omega⟩;rw[←Li,JB];intro c hc;have h1:=h.1;rw[←Li,JB]at h1;refine h1 c ?_;have hc:c∈L (b7 w):=hc;rw[ke]at hc;unfold gP at hc;split at hc
 ·next r e=>
  show c∈L w;rw[e];exact IY _ hc
 ·exact hc
noncomputable def ip:Option Int->D
 |none=>.non
 |some n=>.int n
noncomputable def jR:bc:=λds R=>∃(w:Str),ds=[.str w]/\ef w/\R (ip (bu w))
theorem FP{w:Str}(h:(w == "0")=true):L w=[48]:=by have:=eq_of_beq h;subst this;decide
theorem Hx(F:Fun K "number_form" "number_form" j8 f fd)(fE:mg "int"=none)(NA:∃tk,mg "MOST_FIGURES"=some (.int 4 tk))(jO:mg "all"=none)(aV:mg "len"=none)(Oa:∃tk,mg "FIGURES"=some (.str "0123456789" tk)):FnOk P w K mg base aT (n+1) f fd ["word"] (bP K jR):=by
 refine F.okD sc_number_form (λds R h=>?_) (λNk A outer s H E ds R hr h=>?_)
 ·obtain⟨w,rfl,_⟩:=h;rfl
 obtain⟨w,rfl,ha,q⟩:=h
 refine⟨_,(bL (b8 (i:=1) sc_number_form.nd rfl U2 (jm (iZ (PD.q (Ca (ae 0) aC (cw ah) ah)) (λ_=>rfl)) (jv (ae 0) (iY (PD.q ao)) km) (dv 0)))
   (bL (bF (PWD.td (eW (aI iX (PD.q (bZ cu rfl aV JC (br (ae 1) bt aa) aa ag)) (PD.q ao) (aG _)) (fP (aI gY (PD.q (bZ cu rfl aV JC (br (ae 1) bt aa) aa ag)) (PD.q (mz rfl NA.choose_spec)) (aG _))))) (aP (aY bS)) bH)
   (bL (bF (ka (iZ (PD.q (bZ (vT rfl) rfl jO MZ (br (PD.q (PF.d (fV (k:=1) (N':=["sign"]) (cap:=[none]) rfl (.ok (show eB ["word","figures"] (aE j8) _ ["sign"] [none]=true by lia)) (by lia) (dM (by decide)) (tX (dv 1)) (λ_ _ _ _ _=>(bY (i:=0) (show List.Nodup (["sign"]:List Str)by lia) rfl U2)) (λ_ _ _ _ _=>(nr ux (ae 0) (PD.q (rZ rfl Oa.choose_spec)) (by with_unfolding_all rfl)))))) bt dN) dN ag)) (λ_=>rfl))) (aP (aY bS)) bH)
   (bL (bF (PWD.td (kQ (aI (bM hr.units) (PD.q (av (ae 1))) (PD.q aC) (aG _)) (jX (aI (fU hr.units) (ae 0) (PD.q aC) (aG _))))) (aP (aY bS)) bH)
   (aP (aY (eu yD rfl fE Lc (br (ae 0) bt aa) aa ag))))))),?_⟩
 have sz:=kK ha.2;have hf:=Bx ha;have TZ:=kK hf.2
 have qn:gf (L w)=none->R .non:=λh=>by have:bu w=none:=h;rw[this]at q;exact q
 refine⟨λρ=>ρ=[some (.v (.str w)),some (.v (.str (b7 w)))],?_,?_⟩
 ·refine⟨_,rfl,_,rfl,?_⟩;rw[zy];refine⟨λh=>⟨sz,_,rfl,?_⟩,λh=>?_⟩
  ·unfold b7;rw[Ja h];rfl
  ·unfold b7;rw[h,I0 (by simp)];rfl
 rintro ρ rfl
 have f4:∀f:Str,cV (L f)=true->1<=f.length/\f.length<=4:=λf h=>by unfold cV at h;simp only[JR,JL,nH]at h;exact h.1
 refine⟨λρ=>(1<=(b7 w).length/\(b7 w).length<=4)/\ρ=[some (.v (.str w)),some (.v (.str (b7 w)))],?_,?_⟩
 ·have bad:¬ (1<=(b7 w).length/\(b7 w).length<=4)->R .non:=λh=>qn (sJ (by
   rw[←ke]
   cases e:cV (L (b7 w))with
   |false=>rfl
   |true=>exact absurd (f4 _ e) h))
  refine⟨TZ,λh=>⟨λ_=>bad ?_,λh=>tf h⟩,λh=>⟨TZ,λh2=>bad ?_,λh2=>⟨⟨?_,?_⟩,rfl⟩⟩⟩
  ·have:=Ju h;omega
  ·have:=Ju h2;omega
  ·have:=J1 h;omega
  ·have:=J1 h2;omega
 rintro ρ ⟨⟨l1,l4⟩,rfl⟩;refine⟨λρ=>cV (L (b7 w))=true/\ρ=[some (.v (.str w)),some (.v (.str (b7 w)))],⟨b7 w,rfl,hf.1,?_⟩,?_⟩
 ·refine iu (f:=λc=>D.str (oJ c)) (λc=>D.bl (eM c)) (by rw[J3];exact tJ hf.2) (λc _=>⟨c,_,rfl,rfl,by rw[B2]⟩) ?_;refine⟨(L (b7 w)).map eM,by rw[Kg];rfl,?_⟩
  have e:(((L (b7 w)).map eM).all id)=(L (b7 w)).all eM:=by rw[M9];rfl
  have e2:cV (L (b7 w))=(L (b7 w)).all eM:=by unfold cV;rw[nH,JP l1,JP l4];rfl
  refine⟨λh=>?_,λh=>?_⟩
  ·refine qn (sJ ?_);rw[←ke,e2,←e];simpa using h
  ·refine⟨?_,rfl⟩;rw[e2,←e];simpa using h
 rintro ρ ⟨hfg,rfl⟩
 have hd:∃c,(L (b7 w)).head?=some c:=by
  cases e:L (b7 w)with
  |nil=>have:=nH (b7 w);rw[e]at this;simp at this;omega
  |cons a r=>exact⟨a,rfl⟩
 obtain⟨c,hc⟩:=hd;have NX:bJ (b7 w).cps.toList 0=some c:=mm (i:=0) (by rw[←MQ];exact hc) rfl;refine⟨λρ=>(c≠48\/L w=[48])/\ρ=[some (.v (.str w)),some (.v (.str (b7 w)))],⟨TZ,c,NX,λh=>⟨λh2=>?_,λh2=>⟨.inr ?_,rfl⟩⟩,λh=>⟨λh2=>ff h2,λ_=>⟨.inl λe=>?_,rfl⟩⟩⟩,?_⟩
 ·have e:=eq_of_beq h
  have e0:c=48:=by
   have h9:L (⟨#[c]⟩:Str)=L "0":=Kl L e;have:[c]=[48]:=h9.trans (by decide);exact List.head_eq_of_cons_eq this
  refine qn (GP (by rw[←ke,hc,e0]) λz=>?_);have:w="0":=qN (z.trans (by decide));rw[this]at h2;exact ff h2
 ·exact FP (by simpa using h2)
 ·subst e;exact absurd h (by decide)
 rintro ρ ⟨hw,rfl⟩;rw[ke]at hfg hc;obtain⟨n,hn⟩:=yk hfg (by rw[hc];rcases hw with h|h;exact .inl (λe=>h (JV e));exact .inr h);have hn:bu w=some n:=hn;obtain⟨h1,h2⟩:=Et hn;rw[hn]at q;exact⟨w,n,rfl,by omega,h1,q⟩
noncomputable def cP(t:Tm):D:=.tup [.int t.1,.str t.2]
noncomputable def DH:Option (List Tm)->D
 |none=>.non
 |some ts=>.tup (ts.map cP)
open Tx
noncomputable def pq:bc:=λds R=>∃(ws:List Str),ds=[.lst (ws.map D.str)]/\ws.length<=1000/\(∀w∈ws,ef w)/\R (DH (fb ws))
theorem Gh(ws:List Str):cD 40 (.lst (ws.map D.str)) (.lst [.str "0"])=some (decide (ws=[("0":Str)])):=by
 match ws with
 | []=>rfl
 | [w]=>
  show (if 1=1 then e7 (cD 39) [.str w] [.str "0"] else some false)=_;rw[Ja rfl];show ((cD 39 (.str w) (.str "0")).bind λb=>(e7 (cD 39) [] []).map (b&&·))=_;show some ((w == "0")&&true)=_;rw[Bool.and_true];congr 1;rw[Kr];simp
 |w::w2::r=>
  show (if ((w::w2::r).map D.str).length=1 then _ else some false)=_;rw[I0 (by simp)];simp
theorem Hb{i:Nat}{ρ:bC}{d:D}{R:D->Prop}(h:ρ[i]?=some (some (.v d)))(k:R d):mW i ρ R:=by unfold mW;rw[h];exact k
theorem DX{d e:D}{b:Bool}{R:D->Prop}(h:cD 40 d e=some b)(q:R (.bl b)):mX d e R:=by unfold mX;rw[h];exact q
noncomputable def ia(ws:List Str)(N i:Nat)(ts:List Tm):Prop:=dz ws=if i=N then some ts else (if i=0\/aH ws (3*i-1)="+" then (dz (ws.drop (3*i))).map (ts++·) else none)
theorem mr{ws:List Str}{i:Nat}{w:Str}(h:ws[i]?=some w):aH ws i=w:=by unfold aH;rw[JD,h];rfl
theorem rf{ws:List Str}{i:Nat}{w:Str}(h:ws[i]?=some w):ws.drop i=w::ws.drop (i+1):=by obtain⟨hi,e⟩:=JN.mp h;rw[←e];exact Mt hi
theorem yn{ws:List Str}{N i:Nat}{ts:List Tm}(hN:ws.length+1=3*N)(hi:i<N)(h:ia ws N i ts):∃a b,ws[3*i]?=some a/\ws[3*i+1]?=some b/\(bu a=none->dz ws=none)/\(bQ b=false->dz ws=none)/\(0<i->aH ws (3*i-1)≠"+"->dz ws=none)/\∀n,bu a=some n->bQ b=true->(i=0\/aH ws (3*i-1)="+")->ia ws N (i+1) (ts++[(n,b)]):=by
 have ha:ws[3*i]?=some (ws[3*i]'(by omega)):=Jl (by omega);have hb:ws[3*i+1]?=some (ws[3*i+1]'(by omega)):=Jl (by omega);generalize ws[3*i]'(by omega)=a at ha;generalize ws[3*i+1]'(by omega)=b at hb
 have hd:ws.drop (3*i)=a::b::ws.drop (3*i+2):=by rw[rf ha,rf hb]
 unfold ia at h;rw[I0 (by omega),hd]at h;refine⟨a,b,ha,hb,?_⟩;by_cases c:i+1=N
 ·have e:ws.drop (3*i+2)=[]:=MR (by omega);rw[e]at h
  have hs:dz [a,b]=match bu a with|some n=>if bQ b then some [(n,b)] else none|none=>none:=rfl
  rw[hs]at h;refine⟨λz=>?_,λz=>?_,λz1 z2=>?_,λn z1 z2 z3=>?_⟩
  ·rw[h,z];split<;>rfl
  ·rw[h,z];split
   ·cases bu a<;>rfl
   ·rfl
  ·rw[h,I0 (by intro z;rcases z with z|z;omega;exact z2 z)]
  ·unfold ia;rw[Ja c,h,Ja z3,z1];show (if bQ b=true then some [(n,b)] else none).map _=_;rw[Ja z2];rfl
 ·have hp:ws[3*i+2]?=some (ws[3*i+2]'(by omega)):=Jl (by omega);generalize ws[3*i+2]'(by omega)=p at hp;have e:ws.drop (3*i+2)=p::ws.drop (3*(i+1)):=rf hp;rw[e]at h
  have hs:dz (a::b::p::ws.drop (3*(i+1)))=match bu a with|some n=>if bQ b then (if p="+" then (dz (ws.drop (3*(i+1)))).map ((n,b)::·) else none) else none|none=>none:=by first|(rw[dz];rfl)|rw[dz]
  rw[hs]at h;refine⟨λz=>?_,λz=>?_,λz1 z2=>?_,λn z1 z2 z3=>?_⟩
  ·rw[h,z];split<;>rfl
  ·rw[h,z];split
   ·cases bu a<;>rfl
   ·rfl
  ·rw[h,I0 (by intro z;rcases z with z|z;omega;exact z2 z)]
  ·unfold ia;rw[I0 c,h,Ja z3,z1];show (if bQ b=true then (if p="+" then (dz (ws.drop (3*(i+1)))).map ((n,b)::·) else none) else none).map (ts++·)=_;rw[Ja z2,show 3*(i+1)-1=3*i+2 by omega,mr hp];by_cases cp:p="+"
   ·rw[Ja cp,Ja (.inr cp),Option.map_map];congr 1
    funext x
    simp
   ·rw[I0 cp,I0 (by intro z;rcases z with z|z;omega;exact cp z)];rfl
theorem uJ{n N:Nat}(h:n+1=3*N):fo 0 (n:Int) 3=N:=by unfold fo;omega
theorem Fw(F:Fun K "sum_form" "sum_form" me f fd)(iG:Cl P w K mg base n "number_form" ["word"] jR)(rM:Cl P w K mg base n "is_name" ["word"] pW)(fF:mg "range"=none)(dF:mg "tuple"=none)(aV:mg "len"=none):FnOk P w K mg base aT (n+1) f fd ["words"] (bP K pq):=by
 refine F.okD sc_sum_form (λds R h=>?_) (λNk A outer s H E ds R hr h=>?_)
 ·obtain⟨ws,rfl,_⟩:=h;rfl
 obtain⟨ws,rfl,hl,ha,q⟩:=h
 refine⟨_,(bL (bF (aI (bM hr.units) (ae 0) (PD.q (PF.d (eK (af aC aq ah)))) (aG _)) (aP (aY (bg aq))) bH)
   (bL (bF (aI (fU hr.units) (PD.q (aS ir (PD.q (bZ cu rfl aV JC (br (ae 0) bt aa) aa ag)) (PD.q ao))) (PD.q ao) (aG _)) (aP (aY bS)) bH)
   (bD (tM (i:=1) sc_sum_form.nd rfl U2 (eK aq))
   (bD (jj Kf rfl (Bd rfl fF (af ao (af (bZ cu rfl aV JC (br (ae 0) bt aa) aa ag) (af ao aq ah) cy) ah)) (bY (i:=2) sc_sum_form.nd rfl U2) (bD (b8 (i:=3) sc_sum_form.nd rfl U2 (bz iG hr rfl (af (cY (ae 0) (ae 2) (λ_ _=>rfl)) aq ay) ay ag))
   (bD (b8 (i:=4) sc_sum_form.nd rfl U2 (cY (ae 0) (PD.q (aS bB (ae 2) (PD.q ao))) (λ_ _=>rfl)))
   (bL (bF (PWD.td (eW (aI gA (ae 3) (PD.q bS) (aG _)) (fP (ka (iZ (PD.q (bz rM hr rfl (af (dv 4) aq aa) aa ag)) (λ_=>rfl)))))) (aP (aY bS)) bH)
   (bL (bF (PWD.td (kQ (aI gY (ae 2) (PD.q ao) (aG _)) (jX (aI (fU hr.units) (PD.q (cY (ae 0) (PD.q (aS fR (ae 2) (PD.q ao))) (λ_ _=>rfl))) (PD.q aC) (aG _))))) (aP (aY bS)) bH)
   (aP (Dj 1 (bg (af (dv 3) (af (dv 4) aq aa) aa)) (cw dX) dX)))))))
   (aP (aY (eu jc rfl dF KA (br (ae 1) bt aa) aa ag))))))),?_⟩
 have at_:∀{i:Nat}{w:Str}{k:Int},ws[i]?=some w->k=(i:Int)->bJ (ws.map D.str) k=some (.str w):=λh e=>jo h e;refine⟨λρ=>ws≠[("0":Str)]/\ρ=[some (.v (.lst (ws.map D.str))),none,none,none,none],?_,?_⟩
 ·dsimp only[vV,rC,gU,kq,uX,pI,dC,pB];refine Hb (d:=.lst (ws.map D.str)) rfl ?_;refine DX (Gh ws) ?_;refine⟨λh=>?_,λh=>⟨J1 h,rfl⟩⟩;have h:=Ju h;unfold fb at q;rw[Ja h]at q;exact q
 rintro ρ ⟨N4,rfl⟩
 have hq:fb ws=if ws.length % 3=2 then dz ws else none:=by unfold fb;rw[I0 N4]
 refine⟨λρ=>ws.length % 3=2/\ρ=[some (.v (.lst (ws.map D.str))),none,none,none,none],?_,?_⟩
 ·have e:(((ws.map D.str).length:Nat):Int) % 3=((ws.length % 3:Nat):Int):=by rw[mn];omega
  refine⟨(by decide:(0:Int)<3),λh=>?_,λh=>⟨?_,rfl⟩⟩
  ·have h2:ws.length % 3≠2:=λz=>by rw[e,z]at h;exact ff h
   rw[hq,I0 h2]at q;exact q
  ·by_cases c:ws.length % 3=2
   ·exact c
   ·exfalso;rw[e]at h
    have:(((ws.length % 3:Nat):Int)==2)=true:=by simpa using h
    have:=gm this;omega
 rintro ρ ⟨h3,rfl⟩;rw[hq,Ja h3]at q;obtain⟨N,hN⟩:∃N,ws.length+1=3*N:=⟨(ws.length+1)/3,by omega⟩
 have hL:(((ws.map D.str).length:Nat):Int)=(ws.length:Int):=by rw[mn]
 refine⟨0,_,3,rfl,⟨by decide,by decide,by omega,by omega,by decide,by decide⟩,?_⟩;refine⟨λi ρ=>∃(ts:List Tm)(u2 u3 u4:Option Sl),ρ=[some (.v (.lst (ws.map D.str))),some (.own (ts.map cP)),u2,u3,u4]/\ts.length=i/\ia ws N i ts,⟨[],_,_,_,rfl,rfl,?_⟩,?_,?_⟩
 ·unfold ia;rw[I0 (by omega),Ja (.inl rfl),Nat.mul_zero,Lx];cases dz ws<;>rfl
 ·rintro i d ρ hd ⟨ts,u2,u3,u4,rfl,hi,hs⟩;unfold ib at hd;rw[Jd]at hd;obtain⟨j,hj,rfl⟩:=Option.map_eq_some_iff.mp hd;obtain⟨Nu,ej⟩:=JN.mp hj;rw[List.getElem_range]at ej;subst ej;rw[JQ,hL,uJ hN]at Nu;obtain⟨a,b,hA,hB,n1,n2,n3,go⟩:=yn hN Nu hs
  have qn:dz ws=none->R .non:=λz=>by rw[z]at q;exact q
  have aA:=ha a (Jn hA);have aB:=ha b (Jn hB);refine⟨_,at_ hA (by omega),a,rfl,aA,?_⟩;refine⟨_,at_ hB (by omega),?_⟩;refine⟨λρ=>∃n,bu a=some n/\bQ b=true/\ρ=[some (.v (.lst (ws.map D.str))),some (.own (ts.map cP)),some (.v (.int (0+(i:Int)*3))),some (.v (.int n)),some (.v (.str b))],?_,?_⟩
  ·cases e:bu a with
   |none=>exact⟨λ_=>⟨λ_=>qn (n1 e),λh=>tf h⟩,λh=>tf h⟩
   |some n=>
    refine⟨λh=>ff h,λ_=>⟨b,rfl,aB,?_⟩⟩
    cases e2:bQ b with
    |false=>exact⟨λ_=>qn (n2 e2),λh=>tf h⟩
    |true=>exact⟨λh=>ff h,λ_=>⟨n,rfl,rfl,rfl⟩⟩
  rintro ρ ⟨n,hn,hb,rfl⟩;refine⟨λρ=>(i=0\/aH ws (3*i-1)="+")/\ρ=[some (.v (.lst (ws.map D.str))),some (.own (ts.map cP)),some (.v (.int (0+(i:Int)*3))),some (.v (.int n)),some (.v (.str b))],⟨λh=>?_,λh=>⟨λh=>ff h,λ_=>⟨.inl (by have:=J1 h;omega),rfl⟩⟩⟩,?_⟩
  ·have h:=Ju h;have hp:ws[3*i-1]?=some (ws[3*i-1]'(by omega)):=Jl (by omega);generalize ws[3*i-1]'(by omega)=p at hp;have ep:=mr hp;refine⟨_,at_ hp (by omega),λh2=>qn (n3 (by omega) ?_),λh2=>⟨.inr ?_,rfl⟩⟩
   ·rw[ep];intro z;subst z;exact ff h2
   ·rw[ep];exact eq_of_beq (by simpa using h2)
  rintro ρ ⟨hp,rfl⟩;refine⟨cm (by rw[mn];omega),_,jZ cP ts (n,b),ts++[(n,b)],_,_,_,rfl,by rw[IW,hi];rfl,go n hn hb hp⟩
 ·rintro ρ ⟨ts,u2,u3,u4,rfl,hi,hs⟩
  have e:(ib 0 (((ws.map D.str).length:Nat):Int) 3).length=N:=by unfold ib;rw[mn,JQ,hL,uJ hN]
  rw[e]at hs;unfold ia at hs;rw[Ja rfl]at hs;rw[hs]at q;exact q
open Tx
noncomputable def iS:Frm->D
 |.unk x l m=>.tup [.str "unknown",.str x,.tup [.int l,ip m]]
 |.row ts b t=>.tup [.str "row",.tup (ts.map cP),.int b,.bl t]
 |.worth ts s=>.tup [.str "worth",.tup (ts.map cP),.int s]
noncomputable def jt:Option Frm->D
 |none=>.non
 |some f=>iS f
theorem eO{ws:List Str}{k:Int}(i:Nat)(hi:i<ws.length)(e:k=(i:Int)):bJ (ws.map D.str) k=some (.str (aH ws i)):=jo (by rw[mr (Jl hi)];exact Jl hi) e
theorem my{ws:List Str}{i:Nat}(hi:i<ws.length):aH ws i∈ws:=by rw[mr (Jl hi)];exact Le hi
noncomputable def vZ:bc:=λds R=>∃(ws:List Str),ds=[.lst (ws.map D.str)]/\ws.length<=1000/\(∀w∈ws,ef w)/\R (jt (iw ws))
theorem ph{a b:Str}(h:(!(a==b))=false):a=b:=eq_of_beq (by simpa using h)
theorem pY{a b:Str}(h:(!(a==b))=true):a≠b:=λe=>by subst e;simp at h
theorem CQ{n:Nat}:cR (.inl (n:Int)) [.inl 4,.inl 6]=decide (n=4\/n=6):=by rw[Kr,qO,JL];simp;omega
theorem kN{b:Bool}(h:(true != b)=true):b=false:=by cases b<;>simp_all
theorem kG{b:Bool}(h:(true != b)=false):b=true:=by cases b<;>simp_all
theorem yB(F:Fun K "unknown_form" "unknown_form" n5 f fd)(iG:Cl P w K mg base n "number_form" ["word"] jR)(rM:Cl P w K mg base n "is_name" ["word"] pW)(aV:mg "len"=none):FnOk P w K mg base aT (n+1) f fd ["words"] (bP K vZ):=by
 refine F.okD sc_unknown_form (λds R h=>?_) (λNk A outer s H E ds R hr h=>?_)
 ·obtain⟨ws,rfl,_⟩:=h;rfl
 obtain⟨ws,rfl,hl,ha,q⟩:=h
 refine⟨_,(bL (bF (PWD.td (eW (aI mS (PD.q (bZ cu rfl aV JC (br (ae 0) bt aa) aa ag)) (PD.q (bg (af ao (af ao aq ah) ah))) (by with_unfolding_all rfl)) (eW (aI (fU hr.units) (PD.q (av (ae 0))) (PD.q aC) (aG _)) (fP (ka (iZ (PD.q (bz rM hr rfl (af (av (ae 0)) aq ay) ay ag)) (λ_=>rfl))))))) (aP (aY bS)) bH)
   (bD (b8 (i:=1) sc_unknown_form.nd rfl U2 (bz iG hr rfl (af (av (ae 0)) aq ay) ay ag))
   (bL (bF (aI gA (ae 1) (PD.q bS) (aG _)) (aP (aY bS)) bH)
   (bL (bF (aI (bM hr.units) (PD.q (bZ cu rfl aV JC (br (ae 0) bt aa) aa ag)) (PD.q ao) (aG _)) (aP (aY (bg (af aC (af (av (ae 0)) (af (bg (af (dv 1) (af bS aq ah) aa)) aq dX) ay) ah)))) bH)
   (bD (b8 (i:=2) sc_unknown_form.nd rfl U2 (bz iG hr rfl (af (av (ae 0)) aq ay) ay ag))
   (bL (bF (PWD.td (eW (aI (fU hr.units) (PD.q (av (ae 0))) (PD.q aC) (aG _)) (fP (aI gA (ae 2) (PD.q bS) (aG _))))) (aP (aY bS)) bH)
   (aP (aY (bg (af aC (af (av (ae 0)) (af (bg (af (dv 1) (af (dv 2) aq aa) aa)) aq dX) ay) ah)))))))))),?_⟩
 have hL:(((ws.map D.str).length:Nat):Int)=(ws.length:Int):=by rw[mn]
 have bad:¬ ((ws.length=4\/ws.length=6)/\aH ws 2="from"/\bQ (aH ws 1)=true)->R .non:=λh=>by unfold iw at q;rw[I0 h]at q;exact q
 refine⟨λρ=>((ws.length=4\/ws.length=6)/\aH ws 2="from"/\bQ (aH ws 1)=true)/\ρ=[some (.v (.lst (ws.map D.str))),none,none],?_,?_⟩
 ·refine⟨.inl _,[.inl 4,.inl 6],rfl,rfl,?_⟩;rw[hL,CQ];refine⟨λh=>⟨λ_=>bad λz=>?_,λh=>tf h⟩,λh=>?_⟩
  ·exact J1 (kN h) z.1
  have h46:=Ju (kG h);refine⟨_,eO 2 (by omega) rfl,λh2=>⟨λ_=>bad λz=>pY h2 z.2.1,λh=>tf h⟩,λh2=>?_⟩;refine⟨_,eO 1 (by omega) rfl,_,rfl,ha _ (my (by omega)),?_⟩
  cases e:bQ (aH ws 1)with
  |false=>exact⟨λ_=>bad λz=>(by rw[e]at z;cases z.2.2),λh=>tf h⟩
  |true=>exact⟨λh=>ff h,λ_=>⟨⟨h46,ph h2,rfl⟩,rfl⟩⟩
 rintro ρ ⟨hC,rfl⟩;unfold iw at q;rw[Ja hC]at q;have h46:=hC.1;refine⟨_,eO 3 (by omega) rfl,_,rfl,ha _ (my (by omega)),?_⟩
 cases e:bu (aH ws 3)with
 |none=>
  rw[e]at q;refine⟨λρ=>False,⟨λ_=>q,λh=>tf h⟩,?_⟩;rintro ρ ⟨⟩
 |some l=>
  rw[e]at q;refine⟨λρ=>ρ=[some (.v (.lst (ws.map D.str))),some (.v (.int l)),none],⟨λh=>ff h,λ_=>rfl⟩,?_⟩;rintro ρ rfl;have q:R (jt (if ws.length=4 then some (.unk (aH ws 1) l none) else match bu (aH ws 5)with|none=>none|some m=>if aH ws 4="to" then some (.unk (aH ws 1) l (some m)) else none)):=q;refine⟨λρ=>ws.length=6/\ρ=[some (.v (.lst (ws.map D.str))),some (.v (.int l)),none],⟨λh=>?_,λh=>⟨?_,rfl⟩⟩,?_⟩
  ·have h:=gm h;rw[Ja (by omega)]at q;exact⟨_,eO 1 (by omega) rfl,q⟩
  ·have h:=uu h;omega
  rintro ρ ⟨h6,rfl⟩;rw[I0 (by omega)]at q;refine⟨_,eO 5 (by omega) rfl,_,rfl,ha _ (my (by omega)),?_⟩;refine⟨λρ=>∃m,bu (aH ws 5)=some m/\aH ws 4="to"/\ρ=[some (.v (.lst (ws.map D.str))),some (.v (.int l)),some (.v (.int m))],⟨_,eO 4 (by omega) rfl,λh=>⟨λ_=>?_,λh=>tf h⟩,λh=>?_⟩,?_⟩
  ·have:(match bu (aH ws 5)with|none=>none|some m=>if aH ws 4="to" then some (Frm.unk (aH ws 1) l (some m)) else none)=none:=by
    cases bu (aH ws 5)with
    |none=>rfl
    |some m=>exact I0 (pY h)
   rw[this]at q;exact q
  ·cases e5:bu (aH ws 5)with
   |none=>rw[e5]at q;exact⟨λ_=>q,λh=>tf h⟩
   |some m=>exact⟨λh=>ff h,λ_=>⟨m,rfl,ph h,rfl⟩⟩
  rintro ρ ⟨m,e5,e4,rfl⟩;rw[e5]at q;have q:R (jt (if aH ws 4="to" then some (.unk (aH ws 1) l (some m)) else none)):=q;rw[Ja e4]at q;exact⟨_,eO 1 (by omega) rfl,q⟩
noncomputable def xq:bc:=λds R=>∃(ws:List Str),ds=[.lst (ws.map D.str)]/\ws.length<=1000/\(∀w∈ws,ef w)/\R (jt (jx ws))
theorem lW{ws:List Str}{k:Int}(i:Nat)(h0:0<i)(hi:i<=ws.length)(e:k = -(i:Int)):bJ (ws.map D.str) k=some (.str (aH ws (ws.length-i))):=by have h:=eO (ws:=ws) (k:=((ws.length-i:Nat):Int)) (ws.length-i) (by omega) rfl;rw[←h,e];unfold bJ eA;rw[mn,I0 (by omega),Ja (by omega)];congr 1;rw[Ja (by omega),Ja (by omega)];congr 1;omega
theorem Ge{ws:List Str}(h:5<=ws.length):bN (ws.map D.str) (some 1) (some (-3))=((ws.drop 1).take (ws.length-4)).map D.str:=by
 rw[qu];congr 1;unfold bN;rw[show (some (1:Int))=some ((1:Nat):Int)from rfl,HT.sIx_nat,MO (by omega)]
 have:HT.sIx ws.length ws.length (some (-3))=ws.length-3:=by unfold HT.sIx;simp;omega
 rw[this,show ws.length-3-1=ws.length-4 by omega]
theorem Do{ws:List Str}(h:1<=ws.length):bN (ws.map D.str) (some 1) none=(ws.drop 1).map D.str:=by rw[qu];congr 1;unfold bN;rw[HT.sIx_none,show (some (1:Int))=some ((1:Nat):Int)from rfl,HT.sIx_nat,MO h,Ke (by rw[JY];omega)]
theorem wm{x a b:Str}:cR (.inr x) [.inr a,.inr b]=decide (x=a\/x=b):=by rw[Kr,qO,JL];simp
theorem C2(F:Fun K "row_form" "row_form" ng f fd)(rN:Cl P w K mg base n "sum_form" ["words"] pq)(iG:Cl P w K mg base n "number_form" ["word"] jR)(aV:mg "len"=none):FnOk P w K mg base aT (n+1) f fd ["words"] (bP K xq):=by
 refine F.okD sc_row_form (λds R h=>?_) (λNk A outer s H E ds R hr h=>?_)
 ·obtain⟨ws,rfl,_⟩:=h;rfl
 obtain⟨ws,rfl,hl,ha,q⟩:=h
 refine⟨_,(bL (bF (PWD.td (eW (aI iX (PD.q (bZ cu rfl aV JC (br (ae 0) bt aa) aa ag)) (PD.q ao) (aG _)) (eW (aI (fU hr.units) (PD.q (cY (ae 0) (PD.q (ei (PD.q ao))) (λ_ _=>rfl))) (PD.q aC) (aG _)) (fP (aI mS (PD.q (cY (ae 0) (PD.q (ei (PD.q ao))) (λ_ _=>rfl))) (PD.q (bg (af aC (af aC aq ah) ah))) (by with_unfolding_all rfl)))))) (aP (aY bS)) bH)
   (bD (b8 (i:=1) sc_row_form.nd rfl U2 (bz rN hr rfl (af (jv (ae 0) (iY (PD.q ao)) (iY (PD.q (ei (PD.q ao))))) aq ay) ay ag))
   (bD (b8 (i:=2) sc_row_form.nd rfl U2 (bz iG hr rfl (af (cY (ae 0) (PD.q (ei (PD.q ao))) (λ_ _=>rfl)) aq ay) ay ag))
   (bL (bF (PWD.td (eW (aI gA (ae 1) (PD.q bS) (aG _)) (fP (aI gA (ae 2) (PD.q bS) (aG _))))) (aP (aY bS)) bH)
   (aP (aY (bg (af aC (af (dv 1) (af (dv 2) (af (nr (bM hr.units) (PD.q (cY (ae 0) (PD.q (ei (PD.q ao))) (λ_ _=>rfl))) (PD.q aC) (aG _)) aq iQ) aa) aa) ah)))))))),?_⟩
 have bad:¬ (5<=ws.length/\aH ws (ws.length-3)="at"/\(aH ws (ws.length-2)="least"\/aH ws (ws.length-2)="most"))->R .non:=λh=>by unfold jx at q;rw[I0 h]at q;exact q
 refine⟨λρ=>(5<=ws.length/\aH ws (ws.length-3)="at"/\(aH ws (ws.length-2)="least"\/aH ws (ws.length-2)="most"))/\ρ=[some (.v (.lst (ws.map D.str))),none,none],?_,?_⟩
 ·have hL:(((ws.map D.str).length:Nat):Int)=(ws.length:Int):=by rw[mn]
  refine⟨λh=>⟨λ_=>bad λz=>?_,λh=>tf h⟩,λh=>?_⟩
  ·have:=Ju h;omega
  have h5:5<=ws.length:=by have:=J1 h;omega
  refine⟨_,lW 3 (by decide) (by omega) rfl,λh2=>⟨λ_=>bad λz=>pY h2 z.2.1,λh=>tf h⟩,λh2=>?_⟩;refine⟨_,lW 2 (by decide) (by omega) rfl,.inr _,[.inr "least",.inr "most"],rfl,rfl,?_⟩;rw[wm];refine⟨λh3=>bad λz=>?_,λh3=>⟨⟨h5,ph h2,?_⟩,rfl⟩⟩
  ·exact J1 (kN h3) z.2.2
  ·exact Ju (kG h3)
 rintro ρ ⟨hC,rfl⟩;unfold jx at q;rw[Ja hC]at q;have h5:=hC.1;refine⟨_,Ge h5,_,rfl,?_,λw hw=>ha w (Lj (List.mem_of_mem_take hw)),?_⟩
 ·rw[JA,JY];omega
 refine⟨_,lW 1 (by decide) (by omega) rfl,_,rfl,ha _ (my (by omega)),?_⟩;refine⟨λρ=>∃ts b,fb ((ws.drop 1).take (ws.length-4))=some ts/\bu (aH ws (ws.length-1))=some b/\ρ=[some (.v (.lst (ws.map D.str))),some (.v (.tup (ts.map cP))),some (.v (.int b))],?_,?_⟩
 ·cases e1:fb ((ws.drop 1).take (ws.length-4))with
  |none=>rw[e1]at q;exact⟨λ_=>⟨λ_=>q,λh=>tf h⟩,λh=>tf h⟩
  |some ts=>
   refine⟨λh=>ff h,λ_=>?_⟩
   cases e2:bu (aH ws (ws.length-1))with
   |none=>rw[e1,e2]at q;exact⟨λ_=>q,λh=>tf h⟩
   |some b=>exact⟨λh=>ff h,λ_=>⟨ts,b,rfl,rfl,rfl⟩⟩
 rintro ρ ⟨ts,b,e1,e2,rfl⟩;rw[e1,e2]at q;exact⟨_,lW 2 (by decide) (by omega) rfl,q⟩
noncomputable def tZ:bc:=λds R=>∃(ws:List Str),ds=[.lst (ws.map D.str)]/\1<=ws.length/\ws.length<=1000/\(∀w∈ws,ef w)/\R (jt (iT ws))
theorem By(F:Fun K "worth_form" "worth_form" l0 f fd)(rN:Cl P w K mg base n "sum_form" ["words"] pq):FnOk P w K mg base aT (n+1) f fd ["words"] (bP K tZ):=by
 refine F.okD sc_worth_form (λds R h=>?_) (λNk A outer s H E ds R hr h=>?_)
 ·obtain⟨ws,rfl,_⟩:=h;rfl
 obtain⟨ws,rfl,h1,hl,ha,q⟩:=h
 refine⟨_,(bD (b8 (i:=1) sc_worth_form.nd rfl U2 (bz rN hr rfl (af (jv (ae 0) (iY (PD.q ao)) km) aq ay) ay ag))
   (bL (bF (aI gA (ae 1) (PD.q bS) (aG _)) (aP (aY bS)) bH)
   (aP (aY (bg (af aC (af (dv 1) (af (jm (aI (bM hr.units) (PD.q (av (ae 0))) (PD.q aC) (aG _)) ao (ei (PD.q ao))) aq sh) aa) ah)))))),?_⟩
 unfold iT at q;refine⟨_,Do h1,_,rfl,by rw[JY];omega,λw hw=>ha w (Lj hw),?_⟩
 cases e1:fb (ws.drop 1)with
 |none=>
  rw[e1]at q;refine⟨λρ=>False,⟨λ_=>q,λh=>tf h⟩,?_⟩;rintro ρ ⟨⟩
 |some ts=>
  rw[e1]at q;refine⟨λρ=>ρ=[some (.v (.lst (ws.map D.str))),some (.v (.tup (ts.map cP)))],⟨λh=>ff h,λ_=>rfl⟩,?_⟩;rintro ρ rfl;have q:R (iS (.worth ts (if aH ws 0="most" then 1 else -1))):=q;refine⟨_,eO 0 (by omega) rfl,λh=>?_,λh=>?_⟩
  ·rw[Ja (eq_of_beq h)]at q;exact q
  ·rw[I0 (λz=>by rw[z]at h;simp at h)]at q;exact q
theorem vU{c:Nat}{s w:Str}:∀{ws:List Str},w∈ws->c∈L w->c∈L (Str.join s ws)
 | [x],hw,hc=>by rw[Ji.mp hw]at hc;exact hc
 |x::y::r,hw,hc=>by
  rw[je];rcases Jb.mp hw with rfl|hw
  ·exact LV _ hc
  ·exact JO _ (JO _ (vU hw hc))
theorem tI{x:Str}(h:ef x):∀w∈Txt.split x " ",ef w:=λw hw=>by
 have hl:=PyProof.Rows.part_short hw;refine⟨?_,by have:=h.2;omega⟩;have h1:=h.1;rw[←Li,JB]at h1 ⊢;intro c hc;refine h1 c ?_;have e:=PySem.StrLaws.join_split x " ";have:c∈L (Str.join " " (Txt.split x " ")):=vU hw hc;rw[e]at this;exact this
noncomputable def sY:bc:=λds R=>∃(x:Str),ds=[.str x]/\ef x/\x.length<=900/\R (jt (iA x))
theorem HJ(F:Fun K "line_form" "line_form" nQ f fd)(IJ:Cl P w K mg base n "unknown_form" ["words"] vZ)(IB:Cl P w K mg base n "row_form" ["words"] xq)(IC:Cl P w K mg base n "worth_form" ["words"] tZ):FnOk P w K mg base aT (n+1) f fd ["line"] (bP K sY):=by
 refine F.okD sc_line_form (λds R h=>?_) (λNk A outer s H E ds R hr h=>?_)
 ·obtain⟨x,rfl,_⟩:=h;rfl
 obtain⟨x,rfl,ha,hx,q⟩:=h
 refine⟨_,(bD (b8 (i:=1) sc_line_form.nd rfl U2 (PF.d (wR (ae 0) aC (cw ah) ah)))
   (bL (bF (aI (bM hr.units) (PD.q (av (ae 1))) (PD.q aC) (aG _)) (aP (aY (bz IJ hr rfl (af (dv 1) aq aa) aa ag))) bH)
   (bL (bF (aI (bM hr.units) (PD.q (av (ae 1))) (PD.q aC) (aG _)) (aP (aY (bz IB hr rfl (af (dv 1) aq aa) aa ag))) bH)
   (bL (bF (aI ou (PD.q (av (ae 1))) (PD.q (bg (af aC (af aC aq ah) ah))) (by with_unfolding_all rfl)) (aP (aY (bz IC hr rfl (af (dv 1) aq aa) aa ag))) bH)
   (aP (aY bS)))))),?_⟩
 have hs:=tI ha;have h1:=LG x " ";have h2:=M0 x " ";unfold iA qb at q;obtain⟨ws,RK⟩:∃ws,ws=Txt.split x " ":=⟨_,rfl⟩;rw[←RK]at hs h1 h2 q;refine⟨_,rfl,_,rfl,by decide,by have:=Kd;omega,?_⟩;rw[←RK];refine⟨λρ=>aH ws 0≠"unknown"/\ρ=[some (.v (.str x)),some (.v (.lst (ws.map D.str)))],⟨_,eO 0 (by omega) rfl,λh=>?_,λh=>⟨λz=>(by rw[z]at h;simp at h),rfl⟩⟩,?_⟩
 ·rw[Ja (eq_of_beq h)]at q;exact⟨ws,rfl,by omega,hs,q⟩
 rintro ρ ⟨n1,rfl⟩;rw[I0 n1]at q;refine⟨λρ=>aH ws 0≠"row"/\ρ=[some (.v (.str x)),some (.v (.lst (ws.map D.str)))],⟨_,eO 0 (by omega) rfl,λh=>?_,λh=>⟨λz=>(by rw[z]at h;simp at h),rfl⟩⟩,?_⟩
 ·rw[Ja (eq_of_beq h)]at q;exact⟨ws,rfl,by omega,hs,q⟩
 rintro ρ ⟨n2,rfl⟩;rw[I0 n2]at q;refine⟨λρ=>¬ (aH ws 0="most"\/aH ws 0="least"),⟨_,eO 0 (by omega) rfl,.inr _,[.inr "most",.inr "least"],rfl,rfl,?_⟩,?_⟩
 ·rw[wm,Lz];refine⟨λh=>?_,λh=>J1 h⟩;rw[Ja (Ju h)]at q;exact⟨ws,rfl,by omega,by omega,hs,q⟩
 rintro ρ n3;rw[I0 n3]at q;exact q
open Tx
noncomputable def look(ts:List Tm)(x:Str):Int:=match ts.find? (λt=>decide (t.2=x))with|some t=>t.1|none=>0
noncomputable def bT(ns:List Str)(ts:List Tm):List Int:=ns.map (look ts)
theorem Cf{ts:List Tm}{n:Int}{x y:Str}(h:y≠x):look (ts++[(n,x)]) y=look ts y:=by
 unfold look;rw[List.find?_append]
 cases e:ts.find? (λt=>decide (t.2=y))with
 |some t=>rfl
 |none=>
  have:decide (x=y)=false:=Jo (J7 h);simp[KO,this]
theorem Da{ts:List Tm}{n:Int}{x:Str}(h:x∉ts.map (·.2)):look (ts++[(n,x)]) x=n:=by
 unfold look;rw[List.find?_append]
 have e:ts.find? (λt=>decide (t.2=x))=none:=by rw[Lv];intro t ht hx;exact h (Jr.mpr ⟨t,ht,Ju hx⟩)
 rw[e];simp[KO]
theorem yw{ns:List Str}{ts:List Tm}{n:Int}{x:Str}{j:Nat}(hn:ns.Nodup)(hx:x∉ts.map (·.2))(hj:ns[j]?=some x):bT ns (ts++[(n,x)])=(bT ns ts).set j n:=by
 unfold bT;refine Kc λi=>?_;rw[Jd];by_cases c:j=i
 ·subst c;rw[hj,Jt (by rw[mn];exact aU hj)];show some (look _ x)=_;rw[Da hx]
 ·rw[Js c,Jd]
  cases e:ns[i]? with
  |none=>rfl
  |some y=>
   have:y≠x:=λz=>c ((KS (aU hj) hn).mp (by rw[hj,e,z]));show some (look _ y)=some (look _ y);rw[Cf this]
theorem EY(ns:List Str):(bT ns []).map D.int=List.replicate ns.length (.int 0):=by
 unfold bT;rw[Kg];refine Kc λi=>?_;rw[Jd,Kw];by_cases c:i<ns.length
 ·rw[Jl c,Ja c];rfl
 ·rw[J2 (by omega),I0 c];rfl
theorem B3{xs:List Str}{x:Str}(h:x∈xs)(hl:xs.length<=1000){R:D->Prop}(k:∀j:Nat,j<xs.length->xs[j]?=some x->R (.int (j:Int))):jJ (.tup (xs.map D.str)) (.str x) R:=by
 have hj:xs.findIdx (λs=>s==x)<xs.length:=List.findIdx_lt_length_of_exists ⟨x,h,JT x⟩;unfold jJ;refine⟨by rw[mn];exact hl,xs.map (λs=>s==x),xs.findIdx (λs=>s==x),by simp,λi d b hd hb=>?_,?_,λi hi=>?_,k _ hj ?_⟩
 ·obtain⟨s,rfl,hs⟩:=eI hd;rw[Jd,hs]at hb;cases hb;rfl
 ·rw[Jd,bf hj];exact Kl some (List.findIdx_getElem (p:=λs=>s==x))
 ·have QX:i<xs.length:=by omega
  rw[Jd,bf QX];have:=List.not_of_lt_findIdx hi;show some (xs[i]==x)=some false;simpa using this
 ·have:=List.findIdx_getElem (p:=λs=>s==x) (w:=hj);rw[bf hj];exact Kl some (eq_of_beq this)
noncomputable def nT(ns:List Str)(ts:List Tm):Prop:=(∀t∈ts,t.2∈ns)/\(ts.map (·.2)).Nodup
theorem w4(xs:List Str):xs.map D.str=(xs.map Sum.inr).map gk:=by rw[Kg];rfl
theorem jy{x:Str}{xs:List Str}:cR (.inr x) (xs.map Sum.inr)=decide (x∈xs):=by rw[Kr,qO,JL];simp
noncomputable def rh:bc:=λds R=>∃(ts:List Tm)(ns:List Str)(at_:D),ds=[.tup (ts.map cP),.tup (ns.map D.str),at_]/\ns.Nodup/\ns.length<=8/\ts.length<=900/\nT ns ts/\R (.tup ((bT ns ts).map D.int))
theorem GF{ts:List Tm}{i:Nat}{t:Tm}(hn:(ts.map (·.2)).Nodup)(h:ts[i]?=some t):t.2∉(ts.take i).map (·.2):=λhm=>by
 rw[M6]at hm;obtain⟨k,hk⟩:=Kv hm
 have hki:k<i:=by have:=aU hk;rw[JA]at this;omega
 rw[KN hki]at hk
 have h2:(ts.map (·.2))[i]?=some t.2:=by rw[Jd,h];rfl
 have:=(KS (aU hk) hn).mp (hk.trans h2.symm);omega
theorem yP{n j:Nat}(h:j<n):eA n (j:Int)=some j:=by unfold eA;rw[Ja (by omega),Ja (by omega)];rfl
theorem A6(F:Fun K "sum_entries" "sum_entries" nh f fd)(dF:mg "tuple"=none)(aV:mg "len"=none):FnOk P w K mg base aT (n+1) f fd ["terms","names","at"] (bP K rh):=by
 refine F.okD sc_sum_entries (λds R h=>?_) (λNk A outer s H E ds R hr h=>?_)
 ·obtain⟨ts,ns,at_,rfl,_⟩:=h;rfl
 obtain⟨ts,ns,at_,rfl,hn,hl,htl,ht,q⟩:=h
 refine⟨_,(bD (tM (i:=3) sc_sum_entries.nd rfl U2 (Dn (PD.q (PF.d (eK (af ao aq ah)))) (PD.q (bZ cu rfl aV JC (br (ae 1) bt aa) aa ag))))
   (bD (Hr (i:=4) sc_sum_entries.nd rfl U2)
   (bD (jj Kf rfl (fw (dv 0)) (hR (n:=2) rfl (dr (bY (i:=5) sc_sum_entries.nd rfl U2) (dr (bY (i:=6) sc_sum_entries.nd rfl U2) hV))) (bL (bF (aI mS (ae 6) (ae 1) (by with_unfolding_all rfl)) (aP ji) bH)
   (bL (bF (GS 4 hr.units (dv 6)) (aP ji) bH)
   (bD (Fo 4 hr.units (dv 6) mO)
   (aP (Ak 3 (dv 5) (PD.q (BA hr.units (ae 1) (dv 6) rfl (cw aa) aa))))))))
   (aP (aY (eu jc rfl dF KA (br (ae 3) bt aa) aa ag)))))),?_⟩
 have hL:(((ns.map D.str).length:Nat):Int)=(ns.length:Int):=by rw[mn]
 refine⟨⟨by omega,by omega,small (by show 1*_<=1000;omega)⟩,(bT ns []).map D.int,?_,?_⟩
 ·rw[xU,EY,hL,Kb,List.map_replicate]
 refine⟨λi ρ=>∃(u5 u6:Option Sl),ρ=[some (.v (.tup (ts.map cP))),some (.v (.tup (ns.map D.str))),some (.v at_),some (.own ((bT ns (ts.take i)).map D.int)),some (.dct (((ts.take i).map (·.2)).map Sum.inr)),u5,u6],⟨_,_,rfl⟩,?_,?_⟩
 ·rintro i d ρ hd ⟨u5,u6,rfl⟩;obtain⟨t,rfl,Su⟩:=eI hd;have hm:=ht.1 t (Jn Su);have N6:=GF ht.2 Su;have hi:=aU Su;refine⟨rfl,?_⟩;refine⟨λρ=>ρ=[some (.v (.tup (ts.map cP))),some (.v (.tup (ns.map D.str))),some (.v at_),some (.own ((bT ns (ts.take i)).map D.int)),some (.dct (((ts.take i).map (·.2)).map Sum.inr)),some (.v (.int t.1)),some (.v (.str t.2))],⟨.inr t.2,ns.map Sum.inr,rfl,by rw[←w4];rfl,?_⟩,?_⟩
  ·rw[jy,JP hm];exact⟨λh=>ff h,λ_=>rfl⟩
  rintro ρ rfl;refine⟨λρ=>ρ=[some (.v (.tup (ts.map cP))),some (.v (.tup (ns.map D.str))),some (.v at_),some (.own ((bT ns (ts.take i)).map D.int)),some (.dct (((ts.take i).map (·.2)).map Sum.inr)),some (.v (.int t.1)),some (.v (.str t.2))],⟨.inr t.2,rfl,?_⟩,?_⟩
  ·rw[jy,Jo N6];exact⟨λh=>ff h,λ_=>rfl⟩
  rintro ρ rfl;have e1:=ie Su;refine⟨.inr t.2,rfl,cm (by rw[mn,mn,JA];omega),((ts.take (i+1)).map (·.2)).map Sum.inr,?_,?_⟩
  ·rw[jy,Jo N6,I0 (by simp),e1,Jz,Jz];rfl
  refine⟨trivial,?_⟩;show jJ (.tup (ns.map D.str)) (.str t.2) _;refine B3 hm (by omega) λj hj hjs=>?_;refine⟨j,yP (by rw[mn];unfold bT;rw[mn];exact hj),(bT ns (ts.take (i+1))).map D.int,?_,_,_,rfl⟩;rw[e1,show t=(t.1,t.2)from rfl,yw hn N6 hjs,List.map_set]
 ·rintro ρ ⟨u5,u6,rfl⟩;rw[mn,Kt];exact q
noncomputable abbrev bj:=Int×Option Int
noncomputable abbrev Rw:=List Int×Int
noncomputable def dw(b:bj):D:=.tup [.int b.1,ip b.2]
noncomputable def eR(r:Rw):D:=.tup [.tup (r.1.map D.int),.int r.2]
noncomputable def ix(r:Rw):Rw:=(r.1.map λx=>-x,-r.2)
noncomputable def tP:bc:=λds R=>∃r:Rw,ds=[eR r]/\r.1.length<=1000/\R (eR (ix r))
theorem AM(F:Fun K "turned" "turned" jT f fd)(dF:mg "tuple"=none):FnOk P w K mg base aT (n+1) f fd ["row"] (bP K tP):=by
 refine F.okD FF (λds R h=>?_) (λNk A outer s H E ds R hr h=>?_)
 ·obtain⟨r,rfl,_⟩:=h;rfl
 obtain⟨r,rfl,hl,q⟩:=h;refine⟨_,(aP (aY (bg (af (eu jc rfl dF KA (br (PD.q (PF.d (fV (k:=1) (N':=["entry"]) (cap:=[none]) rfl (.ok (show eB ["row"] (aE jT) _ ["entry"] [none]=true by lia)) (by lia) (dM (by decide)) (fw (av (ae 0))) (λ_ _ _ _ _=>(bY (i:=0) (show List.Nodup (["entry"]:List Str)by lia) rfl U2)) (λ_ _ _ _ _=>(ei (ae 0)))))) bt dN) dN ag) (af (ei (PD.q (av (ae 0)))) aq nG) cy)))),?_⟩;refine⟨_,rfl,?_⟩;refine pE (f:=D.int) (λx=>-x) (cm hl) (λx _=>rfl) ?_;exact⟨_,rfl,q⟩
open Tx
noncomputable def p8:bc:=λds R=>∃es:List Int,ds=[.tup (es.map D.int)]/\es.length<=1000/\R (.tup ((es.map λx=>-x).map D.int))
theorem yo(F:Fun K "turned_numbers" "turned_numbers" ky f fd)(dF:mg "tuple"=none):FnOk P w K mg base aT (n+1) f fd ["entries"] (bP K p8):=by
 refine F.okD Hg (λds R h=>?_) (λNk A outer s H E ds R hr h=>?_)
 ·obtain⟨es,rfl,_⟩:=h;rfl
 obtain⟨es,rfl,hl,q⟩:=h;refine⟨_,(aP (aY (eu jc rfl dF KA (br (PD.q (PF.d (fV (k:=1) (N':=["entry"]) (cap:=[none]) rfl (.ok (show eB ["entries"] (aE ky) _ ["entry"] [none]=true by lia)) (by lia) (dM (by decide)) (fw (dv 0)) (λ_ _ _ _ _=>(bY (i:=0) (show List.Nodup (["entry"]:List Str)by lia) rfl U2)) (λ_ _ _ _ _=>(ei (ae 0)))))) bt dN) dN ag))),?_⟩;refine pE (f:=D.int) (λx=>-x) (cm hl) (λx _=>rfl) ?_;exact q
noncomputable def df(sn:Int)(es:List Int):List Int:=if sn = -1 then es.map λx=>-x else es
theorem Eb{f:Frm}(h:fD f)(hl:(aX f).length<=900):ef (aX f):=by
 refine⟨?_,by omega⟩;rw[←Li,JB];intro c hc;have:=Gy h c hc;exact JP (by omega)
theorem kr{s:Str}:∀{ws:List Str}{B:Nat},(∀w∈ws,w.length<=B)->(Str.join s ws).length<=ws.length*(B+s.length)
 | [],B,_=>by show 0<=_;omega
 | [x],B,h=>by
  have:=h x IZ;show x.length<=1*(B+s.length);omega
 |x::y::r,B,h=>by
  have h1:=h x IZ;have h2:=kr (s:=s) (ws:=y::r) (B:=B) λw hw=>h w (IY _ hw);show (x++s++Str.join s (y::r)).length<=_;rw[fN,fN];simp only[Je]at h2 ⊢;rw[Mx];omega
open Tx
theorem da(s x y:Str)(r:List Str):Str.join s (x::y::r)=x++s++Str.join s (y::r):=rfl
theorem xh:("unknown ":Str)="unknown"++" ":=by decide
theorem uj:(" from ":Str)=" "++("from"++" "):=by decide
theorem Br:(" to ":Str)=" "++("to"++" "):=by decide
theorem AO:(" + ":Str)=" "++("+"++" "):=by decide
theorem vn:("row ":Str)="row"++" ":=by decide
theorem yh:(" at least ":Str)=" "++("at"++(" "++("least"++" "))):=by decide
theorem Bi:(" at most ":Str)=" "++("at"++(" "++("most"++" "))):=by decide
theorem xZ:("most ":Str)="most"++" ":=by decide
theorem yz:("least ":Str)="least"++" ":=by decide
theorem qX(x:Str)(l:Int):"unknown "++(x++(" from "++nstr l))=aX (.unk x l none):=by unfold aX cf;rw[da,da,da,xh,uj];simp only[JZ];rfl
theorem xb(x:Str)(l m:Int):"unknown "++(x++(" from "++(nstr l++(" to "++nstr m))))=aX (.unk x l (some m)):=by unfold aX cf;rw[da,da,da,da,da,xh,uj,Br];simp only[JZ];rfl
theorem iC{s:Str}:∀{xs ys:List Str},xs≠[]->ys≠[]->Str.join s (xs++ys)=Str.join s xs++(s++Str.join s ys)
 | [],_,h,_=>absurd rfl h
 | [x],y::ys,_,_=>by rw[List.singleton_append,da,JZ];rfl
 | [x],[],_,h=>absurd rfl h
 |x::x2::xs,ys,_,h=>by rw[Lh,Lh,da,da,←Lh,iC (xs:=x2::xs) (by simp) h];simp only[JZ]
theorem ki:∀ts:List Tm,aL ts≠[]
 | []=>by simp[aL]
 | [(n,x)]=>by simp[aL]
 |(n,x)::_::_=>by simp[aL]
noncomputable def cQ(t:Tm):Str:=nstr t.1++(" "++t.2)
theorem lR:∀{ts:List Tm},ts≠[]->Str.join " + " (ts.map cQ)=Str.join " " (aL ts)
 | [],h=>absurd rfl h
 | [(n,x)],_=>by show cQ (n,x)=Str.join " " [nstr n,x];rw[da,JZ];rfl
 |(n,x)::(m,y)::r,_=>by
  have ih:=lR (ts:=(m,y)::r) (by simp);show Str.join " + " (cQ (n,x)::cQ (m,y)::r.map cQ)=Str.join " " ([nstr n,x,"+"]++aL ((m,y)::r));rw[da,iC (by simp) (ki _)];have ih:Str.join " + " (cQ (m,y)::r.map cQ)=_:=ih;rw[ih];show (nstr n++(" "++x))++" + "++_=Str.join " " [nstr n,x,"+"]++_;rw[da,da,AO];simp only[JZ];rfl
noncomputable def cx(ts:List Tm):Str:=Str.join " " (aL ts)
theorem vB(ts:List Tm)(b:Int):"row "++(cx ts++(" at least "++nstr b))=aX (.row ts b false):=by
 unfold cx;show _=Str.join " " (("row":Str)::(aL ts++cI false b));have e:("row":Str)::(aL ts++cI false b)=[("row":Str)]++(aL ts++cI false b):=rfl;rw[e,iC (by simp) (by simp[cI]),iC (ki ts) (by simp[cI]),vn,yh];show _="row"++(" "++(Str.join " " (aL ts)++(" "++Str.join " " [("at":Str),"least",nstr b])));rw[da,da];simp only[JZ];rfl
theorem ya(ts:List Tm)(b:Int):"row "++(cx ts++(" at most "++nstr b))=aX (.row ts b true):=by
 unfold cx;show _=Str.join " " (("row":Str)::(aL ts++cI true b));have e:("row":Str)::(aL ts++cI true b)=[("row":Str)]++(aL ts++cI true b):=rfl;rw[e,iC (by simp) (by simp[cI]),iC (ki ts) (by simp[cI]),vn,Bi];show _="row"++(" "++(Str.join " " (aL ts)++(" "++Str.join " " [("at":Str),"most",nstr b])));rw[da,da];simp only[JZ];rfl
theorem mT(ts:List Tm):"most "++cx ts=aX (.worth ts 1)/\"least "++cx ts=aX (.worth ts (-1)):=by
 have e:∀x:Str,x::aL ts=[x]++aL ts:=λ_=>rfl;constructor
 ·unfold cx;show _=Str.join " " (("most":Str)::aL ts);rw[e,iC (by simp) (ki ts),xZ,JZ];rfl
 ·unfold cx;show _=Str.join " " (("least":Str)::aL ts);rw[e,iC (by simp) (ki ts),yz,JZ];rfl
noncomputable def cq(ns:List Str)(es:List Int):List Tm:=(es.zip ns).filter λt=>decide (t.1≠0)
theorem sr{ns:List Str}{es:List Int}{t:Tm}(h:t∈cq ns es):t.1∈es/\t.2∈ns/\t.1≠0:=by obtain⟨h1,h2⟩:=MI.mp h;obtain⟨h3,h4⟩:=K0 (show (t.1,t.2)∈es.zip ns from h1);exact⟨h3,h4,Ju h2⟩
noncomputable abbrev zG:=List Tm×Int×Bool
noncomputable def kT(ns:List Str)(bs:List bj)(rs:List zG)(wts:List Tm)(sn:Int):List Frm:=(List.zipWith (λx b=>Frm.unk x b.1 b.2) ns bs)++(rs.map (λr=>Frm.row r.1 r.2.1 r.2.2)++[Frm.worth wts sn])
open Tx
noncomputable def ee(ns:List Str):Prop:=ns.Nodup/\ns.length<=8/\∀x∈ns,bQ x=true
noncomputable def aD(z:Int):Prop:=z.natAbs<10000
theorem fK{x:Str}(h:bQ x=true):x.length<=12:=by unfold bQ at h;simp only[JR,JL]at h;exact h.1.2
theorem big{z:Int}(h:aD z):z.natAbs<2^1900:=Jw (show z.natAbs<2^20 by unfold aD at h;omega) (Lk (by decide) (by decide))
theorem eG{x:Str}{n:Nat}(h:x.length<=n)(hn:n<=1000000:=by decide):x.length<=1000000:=JE h hn
theorem lP{s:Str}{zs:List Str}(B:Nat)(hB:∀z∈zs,z.length<=B)(hf:zs.length*B+zs.length*s.length<=16777216):JoinOk s zs=true:=by unfold JoinOk;rw[PySem.StrLaws.joinFits (B:=B) hB hf];rfl
theorem FC{α:Type}(c:α->Bool)(h:α->D):∀l:List α,(l.map λx=>if c x then some (h x) else none).filterMap id=(l.filter c).map h:=by
 intro l
 induction l with
 |nil=>rfl
 |cons x l ih=>
  rw[Jq]
  cases e:c x with
  |true=>rw[Ja rfl,List.filterMap_cons_some (f:=id) (a:=some (h x)) (b:=h x) rfl,List.filter_cons_of_pos e,Jq,ih]
  |false=>rw[I0 (by simp),List.filterMap_cons_none (f:=id) rfl,List.filter_cons_of_neg (by rw[e];simp),ih]
theorem CN{α:Type}{f:α->D}{xs:List α}{g:cK}{tc:bR}{te:TD}{ρ:bC}{R:List (Option D)->Prop}(c:α->Bool)(h:α->D)(hlen:xs.length<sizeLine)(hb:∀x∈xs,g (f x) ρ λρ1=>tc ρ1 λb=>(b=true->te ρ1 λy=>c x=true/\y=h x)/\(b=false->c x=false))(k:R (xs.map λx=>if c x then some (h x) else none)) :
  (xs.map f).length<sizeLine/\∃P:Nat->Option D->Prop,(∀i d,(xs.map f)[i]?=some d->g d ρ λρ1=>tc ρ1 λb=>(b=true->te ρ1 λy=>P i (some y))/\(b=false->P i none))/\∀ys:List (Option D),ys.length=(xs.map f).length->(∀i y,ys[i]?=some y->P i y)->R ys:=by
 refine⟨by rw[mn];exact hlen,λi=>match xs[i]? with|some x=>λo=>(match o with|some y=>c x=true/\y=h x|none=>c x=false)|none=>λ_=>False,λi d hd=>?_,λys hl hy=>?_⟩
 ·rw[Jd]at hd
  cases e:xs[i]? with
  |none=>rw[e]at hd;cases hd
  |some x=>
   rw[e]at hd;cases hd;simp only[e];exact hb x (Jn e)
 ·have e:ys=xs.map λx=>if c x then some (h x) else none:=by
   refine Kc λi=>?_;rw[Jd]
   cases ex:xs[i]? with
   |none=>
    have:xs.length<=i:=Km.mp ex;rw[mn]at hl;rw[J2 (by omega)];rfl
   |some x=>
    have hi:=aU ex;rw[mn]at hl;have hyi:ys[i]?=some (ys[i]'(by omega)):=bf (by omega);have q:=hy i _ hyi;rw[hyi];simp only[ex]at q
    cases ey:ys[i]'(by omega)with
    |none=>
     rw[ey]at q;show some none=some (if c x=true then _ else _);rw[I0 (by rw[q];simp)]
    |some y=>
     rw[ey]at q;show some (some y)=some (if c x=true then _ else _);rw[Ja q.1,q.2]
  rw[e];exact k
theorem Dt(es:List Int)(ns:List Str):eQ (es.map D.int) (ns.map D.str)=(es.zip ns).map cP:=by rw[vI];rfl
theorem og(ns:List Str)(es:List Int):(cq ns es).length<=es.length:=JE (List.length_filter_le _ _) (by rw[ML];omega)
theorem vw{ns:List Str}{es:List Int}(hn:ee ns)(he:∀e∈es,aD e):∀t∈cq ns es,(cQ t).length<=18:=λt ht=>by
 obtain⟨h1,h2,_⟩:=sr ht;have a:=cT (he _ h1);have b:=fK (hn.2.2 _ h2)
 have c:(" ":Str).length=1:=by decide
 unfold cQ;rw[fN,fN,c];omega
theorem sP{ns:List Str}{es:List Int}(hn:ee ns)(hl:es.length<=8)(he:∀e∈es,aD e):(cx (cq ns es)).length<=200:=by
 have tl:=og ns es;by_cases c:cq ns es=[]
 ·rw[c];decide
 ·have e:cx (cq ns es)=Str.join " + " ((cq ns es).map cQ):=(lR c).symm;rw[e]
  have:=kr (s:=" + ") (ws:=(cq ns es).map cQ) (B:=18) λz hz=>by obtain⟨t,ht,rfl⟩:=Jr.mp hz;exact vw hn he t ht
  have c3:(" + ":Str).length=3:=by decide
  rw[c3,mn]at this;omega
theorem nq{sn:Int}{es:List Int}(he:∀e∈es,aD e):∀e∈df sn es,aD e:=by
 unfold df;split
 ·intro e h;obtain⟨x,hx,rfl⟩:=Jr.mp h;have:=he x hx;unfold aD at this ⊢;omega
 ·exact he
theorem pU(sn:Int)(es:List Int):(df sn es).length=es.length:=by unfold df;split<;>simp
noncomputable def gR(bs:List bj)(rs:List Rw)(gl:List Int):D:=.tup [.tup (bs.map dw),.tup (rs.map eR),.tup (gl.map D.int)]
structure PlOk(ns:List Str)(bs:List bj)(rs:List Rw)(gl:List Int):Prop where
 nm:ee ns
 bl:bs.length=ns.length
 bo:∀b∈bs,aD b.1/\∀m,b.2=some m->aD m
 rl:rs.length<=12
 ro:∀r∈rs,r.1.length=ns.length/\(∀e∈r.1,aD e)/\aD r.2
 gn:gl.length=ns.length
 go:∀e∈gl,aD e
noncomputable def fe(ns:List Str)(bs:List bj)(rs:List Rw)(gl:List Int)(sn:Int):List Frm:=kT ns bs (rs.map λr=>(cq ns r.1,r.2,false)) (cq ns (df sn gl)) sn
noncomputable def qT:Frm->Prop
 |.unk _ _ _=>True
 |.row ts _ _=>ts.length<=8
 |.worth ts _=>ts.length<=8
theorem nP:∀ts:List Tm,(aL ts).length<=3*ts.length+1
 | []=>by simp[aL]
 | [(n,x)]=>by simp[aL]
 |(n,x)::t::r=>by
  have:=nP (t::r);show (aL (t::r)).length+3<=_;simp only[Je]at this ⊢;omega
theorem nC:∀{ts:List Tm},(∀t∈ts,hJ t)->∀w∈aL ts,w.length<=12
 | [],_,w,hw=>by rw[Ji.mp hw];decide
 | [(n,x)],h,w,hw=>by
  have h1:=h (n,x) IZ;simp only[aL,Jb,Jp,J5]at hw;rcases hw with rfl|rfl
  ·exact JE (cT h1.1) (by decide)
  ·exact fK h1.2
 |(n,x)::t::r,h,w,hw=>by
  have h1:=h (n,x) IZ;have hw:w∈nstr n::x::"+"::aL (t::r):=hw;simp only[Jb]at hw;rcases hw with rfl|rfl|rfl|hw
  ·exact JE (cT h1.1) (by decide)
  ·exact fK h1.2
  ·decide
  ·exact nC (λt ht=>h t (IY _ ht)) w hw
theorem uy{f:Frm}(h:fD f)(ht:qT f):(aX f).length<=900:=by
 have c1:(" ":Str).length=1:=by decide
 have k:∀z∈(["unknown","from","to","row","at","most","least"]:List Str),z.length<=12:=by decide
 have h1:∀w∈cf f,w.length<=12:=by
  intro w hw
  cases f with
  |unk x l m=>
   obtain⟨g1,g2,g3⟩:=h;have l5:=cT g2;have x5:=fK g1
   cases m with
   |none=>
    simp only[cf,Jb,Jp,J5]at hw;rcases hw with rfl|rfl|rfl|rfl
    ·exact k _ (by simp)
    ·exact x5
    ·exact k _ (by simp)
    ·omega
   |some m=>
    have m5:=cT (g3 m rfl);simp only[cf,Jb,Jp,J5]at hw;rcases hw with rfl|rfl|rfl|rfl|rfl|rfl
    ·exact k _ (by simp)
    ·exact x5
    ·exact k _ (by simp)
    ·omega
    ·exact k _ (by simp)
    ·omega
  |row ts b t=>
   obtain⟨g1,g2⟩:=h;have b5:=cT g2;simp only[cf,Jb,Jv,cI,Jp,J5]at hw;rcases hw with rfl|hw|rfl|rfl|rfl
   ·exact k _ (by simp)
   ·exact nC g1 w hw
   ·exact k _ (by simp)
   ·cases t<;>exact k _ (by simp)
   ·omega
  |worth ts s=>
   obtain⟨g1,g2⟩:=h;simp only[cf,Jb]at hw;rcases hw with rfl|hw
   ·split<;>exact k _ (by simp)
   ·exact nC g1 w hw
 have h2:(cf f).length<=29:=by
  cases f with
  |unk x l m=>cases m<;>simp[cf]
  |row ts b t=>
   have:=nP ts;have ht:ts.length<=8:=ht;simp only[cf,Je,IW,cI,J8];omega
  |worth ts s=>
   have:=nP ts;have ht:ts.length<=8:=ht;simp only[cf,Je];omega
 have:=kr (s:=" ") (ws:=cf f) (B:=12) h1;rw[c1]at this;unfold aX;omega
theorem uf{ns:List Str}{es:List Int}(hn:ee ns)(he:∀e∈es,aD e):∀t∈cq ns es,hJ t:=λt ht=>by obtain⟨h1,h2,_⟩:=sr ht;exact⟨he _ h1,hn.2.2 _ h2⟩
theorem ym{ns:List Str}{bs:List bj}{rs:List Rw}{gl:List Int}{sn:Int}(hp:PlOk ns bs rs gl)(hs:sn=1\/sn = -1):∀f∈fe ns bs rs gl sn,fD f/\(aX f).length<=900:=by
 intro f hf
 have key:fD f/\qT f:=by
  unfold fe kT at hf;rcases Jv.mp hf with hf|hf
  ·obtain⟨i,hi⟩:=Kv hf;rw[KI]at hi
   cases hx:ns[i]? with
   |none=>rw[hx]at hi;cases hi
   |some x=>
    cases hb:bs[i]? with
    |none=>rw[hx,hb]at hi;cases hi
    |some b=>
     rw[hx,hb]at hi;cases hi;have h1:=hp.bo b (Jn hb);exact⟨⟨hp.nm.2.2 x (Jn hx),h1.1,h1.2⟩,trivial⟩
  ·rcases Jv.mp hf with hf|hf
   ·rw[Kg]at hf;obtain⟨r,hr,rfl⟩:=Jr.mp hf;obtain⟨h1,h2,h3⟩:=hp.ro r hr;exact⟨⟨uf hp.nm h2,h3⟩,JE (og ns r.1) (by rw[h1];exact hp.nm.2.1)⟩
   ·rw[Ji.mp hf];exact⟨⟨uf hp.nm (nq hp.go),hs⟩,JE (og ns _) (by rw[pU,hp.gn];exact hp.nm.2.1)⟩
 exact⟨key.1,uy key.1 key.2⟩
theorem A4{ns:List Str}{bs:List bj}{rs:List Rw}{gl:List Int}{sn:Int}(hp:PlOk ns bs rs gl):(fe ns bs rs gl sn).length<=40:=by
 have h1:=hp.nm.2.1;have h2:=hp.bl;have h3:=hp.rl;unfold fe kT;simp only[IW,K3,mn,Je,J8];omega
open Tx
noncomputable def tG:bc:=λds R=>∃(x:Str)(b:bj),ds=[.str x,dw b]/\bQ x=true/\aD b.1/\(∀m,b.2=some m->aD m)/\R (.str (aX (.unk x b.1 b.2)))
theorem Hj(F:Fun K "written_unknown" "written_unknown" mG f fd) :FnOk P w K mg base aT (n+1) f fd ["name","bounds"] (bP K tG):=by
 refine F.okD sc_written_unknown (λds R h=>?_) (λNk A outer s H E ds R hr h=>?_)
 ·obtain⟨x,b,rfl,_⟩:=h;rfl
 obtain⟨x,b,rfl,hx,hl,hm,q⟩:=h
 refine⟨_,(bD (b8 (i:=2) sc_written_unknown.nd rfl U2 (av (ae 1)))
   (bD (b8 (i:=3) sc_written_unknown.nd rfl U2 (av (ae 1)))
   (bL (bF (aI gA (ae 3) (PD.q bS) (aG _)) (aP (aY (gx (dD eX (dD (eJ (dv 0)) (dD eX (gD (eJ (dv 2))))))))) bH)
   (aP (aY (gx (dD eX (dD (eJ (dv 0)) (dD eX (dD (eJ (dv 2)) (dD eX (gD (eJ (dv 3)))))))))))))),?_⟩
 obtain⟨l,m⟩:=b;have x6:=eG (fK hx);have l6:=eG (cT hl)
 have c1:("unknown ":Str).length<=1000000:=by decide
 have c2:(" from ":Str).length<=1000000:=by decide
 have c3:(" to ":Str).length<=1000000:=by decide
 refine⟨_,rfl,_,rfl,?_⟩
 cases m with
 |none=>
  refine⟨λρ=>False,⟨λ_=>?_,λh=>tf h⟩,?_⟩
  ·refine⟨c1,x6,x6,c2,big hl,l6,?_⟩;show R (.str ("unknown "++(x++(" from "++nstr l))));rw[qX];exact q
  rintro ρ ⟨⟩
 |some m=>
  have hm:=hm m rfl;have m6:=eG (cT hm);refine⟨λρ=>ρ=[some (.v (.str x)),some (.v (dw (l,some m))),some (.v (.int l)),some (.v (.int m))],⟨λh=>ff h,λ_=>rfl⟩,?_⟩;rintro ρ rfl;refine⟨c1,x6,x6,c2,big hl,l6,c3,big hm,m6,?_⟩;show R (.str ("unknown "++(x++(" from "++(nstr l++(" to "++nstr m))))));rw[xb];exact q
noncomputable def pD:bc:=λds R=>∃(ns:List Str)(es:List Int),ds=[.tup (ns.map D.str),.tup (es.map D.int)]/\ee ns/\es.length<=8/\(∀e∈es,aD e)/\R (.str (cx (cq ns es)))
theorem Gm(F:Fun K "written_sum" "written_sum" kE f fd)(aV:mg "len"=none)(dG:mg "zip"=none):FnOk P w K mg base aT (n+1) f fd ["names","entries"] (bP K pD):=by
 refine F.okD sc_written_sum (λds R h=>?_) (λNk A outer s H E ds R hr h=>?_)
 ·obtain⟨ns,es,rfl,_⟩:=h;rfl
 obtain⟨ns,es,rfl,hn,hl,he,q⟩:=h
 refine⟨_,(bD (yQ (i:=2) (k:=2) (N':=["entry","name"]) (cap:=[none,none]) rfl sc_written_sum.nd rfl U2 (.ok (show eB ["names","entries","terms"] (aE kE) _ ["entry","name"] [none,none]=true by lia)) (by lia) (l7 (n:=2) (gT (dM (by decide)) (gT (dM (by decide)) nJ))) (lZ rfl dG (af (dv 1) (af (dv 0) aq aa) aa)) (λ_ _ _ _ _=>(hR (n:=2) rfl (dr (bY (i:=0) (show List.Nodup (["entry","name"]:List Str)by lia) rfl U2) (dr (bY (i:=1) (show List.Nodup (["entry","name"]:List Str)by lia) rfl U2) hV)))) (λ_ _ _ _ _=>(Ao (aI (fU hr.units) (ae 0) (PD.q ao) (aG _)))) (λ_ _ _ _ _=>(gx (dD (eJ (dv 0)) (dD eX (gD (eJ (dv 1))))))))
   (bL (bF (aI (bM hr.units) (PD.q (bZ cu rfl aV JC (br (ae 2) bt aa) aa ag)) (PD.q ao) (aG _)) (aP (aY aC)) bH)
   (aP (aY (kU (PD.q aC) (dv 2) (cw aa) aa))))),?_⟩
 have n8:=hn.2.1;refine⟨_,_,rfl,rfl,?_⟩;rw[Dt];refine CN (f:=cP) (xs:=es.zip ns) (λt:Tm=>decide (t.1≠0)) (λt=>D.str (cQ t)) (cm (by rw[ML];omega)) (λt ht=>?_) ?_
 ·obtain⟨h1,h2⟩:=K0 (show (t.1,t.2)∈es.zip ns from ht);have a6:=eG (cT (he _ h1));have b6:=eG (fK (hn.2.2 _ h2));refine⟨rfl,λh=>?_,λh=>?_⟩
  ·refine⟨big (he _ h1),a6,by decide,b6,b6,?_,rfl⟩;refine JP λz=>?_;rw[z]at h;exact ff h
  ·refine Jo λz=>?_
   have:(t.1==0)=true:=by simpa using h
   exact z (gm this)
 rw[FC];have Pf:(es.zip ns).filter (λt:Tm=>decide (t.1≠0))=cq ns es:=rfl;rw[Pf];have tl:=og ns es;refine⟨λρ=>cq ns es≠[]/\ρ=[some (.v (.tup (ns.map D.str))),some (.v (.tup (es.map D.int))),some (.v (.lst ((cq ns es).map λt=>D.str (cQ t))))],⟨λh=>?_,λh=>⟨λz=>?_,rfl⟩⟩,?_⟩
 ·have h:=gm h;rw[mn]at h;have e:cq ns es=[]:=Ko.mp (by omega);rw[e]at q;exact q
 ·rw[z]at h;exact tf h
 rintro ρ ⟨N4,rfl⟩;refine⟨_,rfl,(cq ns es).map cQ,by rw[Kg];rfl,lP 18 (λz hz=>?_) ?_,?_⟩
 ·obtain⟨t,ht,rfl⟩:=Jr.mp hz;exact vw hn he t ht
 ·have c:(" + ":Str).length=3:=by decide
  rw[mn,c];omega
 ·have e:Txt.join " + " ((cq ns es).map cQ)=cx (cq ns es):=(KZ _ _).trans (lR N4);rw[e];exact q
noncomputable def uU:bc:=λds R=>∃(ns:List Str)(r:Rw),ds=[.tup (ns.map D.str),eR r]/\ee ns/\r.1.length<=8/\(∀e∈r.1,aD e)/\aD r.2/\R (.str (aX (.row (cq ns r.1) r.2 false)))
theorem CG(F:Fun K "written_row" "written_row" mB f fd)(oo:Cl P w K mg base n "written_sum" ["names","entries"] pD):FnOk P w K mg base aT (n+1) f fd ["names","row"] (bP K uU):=by
 refine F.okD sc_written_row (λds R h=>?_) (λNk A outer s H E ds R hr h=>?_)
 ·obtain⟨ns,r,rfl,_⟩:=h;rfl
 obtain⟨ns,r,rfl,hn,hl,he,hb,q⟩:=h
 refine⟨_,(bD (b8 (i:=2) sc_written_row.nd rfl U2 (bz oo hr rfl (af (dv 0) (af (av (ae 1)) aq ay) aa) aa (aN ay ag)))
   (bD (b8 (i:=3) sc_written_row.nd rfl U2 (av (ae 1)))
   (aP (aY (gx (dD eX (dD (eJ (dv 2)) (dD eX (gD (eJ (dv 3))))))))))),?_⟩
 have s6:=eG (sP hn hl he);have b6:=eG (cT hb);refine⟨_,rfl,ns,r.1,rfl,hn,hl,he,?_⟩;refine⟨_,rfl,?_⟩;refine⟨by decide,s6,s6,by decide,big hb,b6,?_⟩;show R (.str ("row "++(cx (cq ns r.1)++(" at least "++nstr r.2))));rw[vB];exact q
noncomputable def uv:bc:=λds R=>∃(ns:List Str)(es:List Int)(sn:Int),ds=[.tup (ns.map D.str),.tup (es.map D.int),.int sn]/\ee ns/\es.length<=8/\(∀e∈es,aD e)/\(sn=1\/sn = -1)/\R (.str (aX (.worth (cq ns (df sn es)) sn)))
theorem xx(F:Fun K "written_worth" "written_worth" lx f fd)(oo:Cl P w K mg base n "written_sum" ["names","entries"] pD)(rL:Cl P w K mg base n "turned_numbers" ["entries"] p8):FnOk P w K mg base aT (n+1) f fd ["names","goal","sense"] (bP K uv):=by
 refine F.okD sc_written_worth (λds R h=>?_) (λNk A outer s H E ds R hr h=>?_)
 ·obtain⟨ns,es,sn,rfl,_⟩:=h;rfl
 obtain⟨ns,es,sn,rfl,hn,hl,he,hs,q⟩:=h
 refine⟨_,(bL (bF (aI (bM hr.units) (ae 2) (PD.q (ei (PD.q ao))) (aG _)) (bD (b8 (i:=3) sc_written_worth.nd rfl U2 (bz oo hr rfl (af (dv 0) (af (bz rL hr rfl (af (dv 1) aq aa) aa ag) aq cy) aa) aa (aN cy ag)))
   (aP (aY (gx (dD eX (gD (eJ (dv 3)))))))) bH)
   (bD (b8 (i:=3) sc_written_worth.nd rfl U2 (bz oo hr rfl (af (dv 0) (af (dv 1) aq aa) aa) aa (aN aa ag)))
   (aP (aY (gx (dD eX (gD (eJ (dv 3))))))))),?_⟩
 have h1:=nq (sn:=sn) he;have s6:=eG (sP hn (by rw[pU sn];exact hl) h1);rcases hs with rfl|rfl
 ·refine⟨λρ=>ρ=[some (.v (.tup (ns.map D.str))),some (.v (.tup (es.map D.int))),some (.v (.int 1)),none],⟨λh=>ff h,λ_=>rfl⟩,?_⟩;rintro ρ rfl;refine⟨ns,es,rfl,hn,hl,he,?_⟩;refine⟨by decide,s6,s6,?_⟩;show R (.str ("most "++cx (cq ns es)));rw[(mT _).1];exact q
 ·refine⟨λρ=>False,⟨λ_=>?_,λh=>tf h⟩,?_⟩
  ·refine⟨es,rfl,by omega,ns,es.map λx=>-x,rfl,hn,by rw[mn];exact hl,h1,?_⟩;refine⟨by decide,s6,s6,?_⟩;show R (.str ("least "++cx (cq ns (df (-1) es))));rw[(mT _).2];exact q
  rintro ρ ⟨⟩
noncomputable def wz:bc:=λds R=>∃(ns:List Str)(bs:List bj)(rs:List Rw)(gl:List Int)(sn:Int),ds=[.tup (ns.map D.str),gR bs rs gl,.int sn]/\PlOk ns bs rs gl/\(sn=1\/sn = -1)/\R (.str (Str.join "\n" ((fe ns bs rs gl sn).map aX)))
theorem EL(F:Fun K "write_plan" "write_plan" jL f fd)(IL:Cl P w K mg base n "written_unknown" ["name","bounds"] tG)(IF:Cl P w K mg base n "written_worth" ["names","goal","sense"] uv)(IP:Cl P w K mg base n "written_row" ["names","row"] uU)(dG:mg "zip"=none):FnOk P w K mg base aT (n+1) f fd ["names","plan","sense"] (cH K (zM wz)):=by
 refine F.okM sc_write_plan (λas R Rx h=>?_) (λNk A outer s H E as R Rx qs Np hr h Og=>?_)
 ·obtain⟨_,rfl,ns,bs,rs,gl,sn,rfl,_⟩:=h;rfl
 obtain⟨_,rfl,ns,bs,rs,gl,sn,rfl,hp,hs,q⟩:=h;obtain rfl:=qM Og
 refine⟨_,(aW (Ef (i:=3) (k:=2) (N':=["name","bounds"]) (cap:=[none,none]) rfl sc_write_plan.nd rfl U2 (.ok (show eB ["names","plan","sense","lines"] (aE jL) _ ["name","bounds"] [none,none]=true by lia)) (by lia) (l7 (n:=2) (gT (dM (by decide)) (gT (dM (by decide)) nJ))) (lZ rfl dG (af (dv 0) (af (av (ae 1)) aq ay) aa)) (λ_ _ _ _ _=>(hR (n:=2) rfl (dr (bY (i:=0) (show List.Nodup (["name","bounds"]:List Str)by lia) rfl U2) (dr (bY (i:=1) (show List.Nodup (["name","bounds"]:List Str)by lia) rfl U2) hV)))) (λ_ _ _ _ _=>(bz IL hr rfl (af (dv 0) (af (dv 1) aq aa) aa) aa (aN aa ag))))
   (aW (G6 3 (fT (fV (k:=1) (N':=["row","names"]) (cap:=[none,some 0]) rfl (.ok (show eB ["names","plan","sense","lines"] (aE jL) _ ["row","names"] [none,some 0]=true by lia)) (by lia) (dM (by decide)) (fw (av (ae 1))) (λ_ _ _ _ _=>(bY (i:=0) (show List.Nodup (["row","names"]:List Str)by lia) rfl U2)) (λ_ _ _ _ _=>(bz IP hr rfl (af (dv 1) (af (dv 0) aq aa) aa) aa (aN aa ag))))) (cw dN) dN)
   (aW (eS 3 (au (bz IF hr rfl (af (dv 0) (af (av (ae 1)) (af (dv 2) aq aa) ay) aa) aa (aN ay (aN aa ag)))) (cw cy) cy)
   (ft 3 (bw (dW (au (kU (PD.q aC) (dv 3) (cw aa) aa)))))))),?_⟩
 have n8:=hp.nm.2.1;have Pd:=hp.bl;have Pb:=hp.rl;refine⟨_,rfl,_,_,rfl,rfl,?_⟩;refine rn (f:=D.str) (h:=dw) (λx b=>D.str (aX (.unk x b.1 b.2))) (cm (by omega)) (λx hx b hb=>?_) ?_
 ·exact⟨rfl,x,b,rfl,hp.nm.2.2 x hx,(hp.bo b hb).1,(hp.bo b hb).2,rfl⟩
 rfl';refine⟨_,rfl,?_⟩;refine iu (f:=eR) (λr=>D.str (aX (.row (cq ns r.1) r.2 false))) (cm (by omega)) (λr hr=>?_) ?_
 ·obtain⟨h1,h2,h3⟩:=hp.ro r hr;exact⟨ns,r,rfl,hp.nm,by omega,h2,h3,rfl⟩
 rfl'
 have e1:List.zipWith (λ(x:Str)(b:bj)=>D.str (aX (.unk x b.1 b.2))) ns bs=((List.zipWith (λx b=>Frm.unk x b.1 b.2) ns bs).map aX).map D.str:=by rw[LP,LP]
 have zl:(List.zipWith (λx b=>Frm.unk x b.1 b.2) ns bs).length<=8:=by rw[K3];omega
 rw[e1];refine⟨by simp only[mn];rw[Kd];omega,_,rfl,?_⟩;have h1:=nq (sn:=sn) hp.go;refine⟨_,rfl,ns,gl,sn,rfl,hp.nm,by rw[hp.gn];exact n8,hp.go,hs,?_⟩;rfl';refine⟨by simp only[IW,mn];rw[Kd];omega,((fe ns bs rs gl sn).map aX).map D.str,?_,?_⟩
 ·unfold fe kT;simp only[Jz,Jk,Kg];rfl
 rfl';refine⟨_,rfl,?_⟩;have hfl:=A4 (sn:=sn) hp;refine⟨(fe ns bs rs gl sn).map aX,rfl,lP 900 (λz hz=>?_) ?_,?_⟩
 ·obtain⟨f,hf,rfl⟩:=Jr.mp hz;exact (ym hp hs f hf).2
 ·have c:("\n":Str).length=1:=by decide
  rw[mn,c];omega
 ·have e:Txt.join "\n" ((fe ns bs rs gl sn).map aX) = Str.join "\n" ((fe ns bs rs gl sn).map aX):=KZ _ _;rw[e];exact q
open Tx
theorem sD{a b:Int}(ha:aD a):IntMulOk a b:=nL (by unfold aD at ha;omega) (by unfold aD at ha;omega)
noncomputable def ot:bc:=λds R=>∃(xs ys:List Int),ds=[.tup (xs.map D.int),.tup (ys.map D.int)]/\xs.length<=1000/\(∀x∈xs,aD x)/\R (.int (bA xs ys))
theorem yx(F:Fun K "left" "left" kJ f fd)(jP:mg "sum"=none)(dG:mg "zip"=none):FnOk P w K mg base aT (n+1) f fd ["entries","spot"] (bP K ot):=by
 refine F.okD GC (λds R h=>?_) (λNk A outer s H E ds R hr h=>?_)
 ·obtain⟨xs,ys,rfl,_⟩:=h;rfl
 obtain⟨xs,ys,rfl,hl,hx,q⟩:=h;refine⟨_,(aP (aY (bZ (xf rfl) rfl jP M1 (br (PD.q (PF.d (fV (k:=2) (N':=["entry","number"]) (cap:=[none,none]) rfl (.ok (show eB ["entries","spot"] (aE kJ) _ ["entry","number"] [none,none]=true by lia)) (by lia) (l7 (n:=2) (gT (dM (by decide)) (gT (dM (by decide)) nJ))) (lZ rfl dG (af (dv 0) (af (dv 1) aq aa) aa)) (λ_ _ _ _ _=>(hR (n:=2) rfl (dr (bY (i:=0) (show List.Nodup (["entry","number"]:List Str)by lia) rfl U2) (dr (bY (i:=1) (show List.Nodup (["entry","number"]:List Str)by lia) rfl U2) hV)))) (λ_ _ _ _ _=>(aS gh (ae 0) (ae 1)))))) bt dN) dN ag))),?_⟩;refine⟨_,_,rfl,rfl,?_⟩;refine rn (λx y=>D.int (x*y)) (cm hl) (λx Ru y Ph=>⟨rfl,sD (hx x Ru),rfl⟩) ?_;exact⟨List.zipWith (λx y=>x*y) xs ys,by rw[LP];rfl,q⟩
noncomputable def wZ:bc:=λds R=>∃(r:Rw)(sp:List Int),ds=[eR r,.tup (sp.map D.int)]/\r.1.length<=1000/\(∀x∈r.1,aD x)/\R (.bl (decide (r.2<=bA r.1 sp)))
theorem AI(F:Fun K "meets" "meets" mQ f fd)(rP:Cl P w K mg base n "left" ["entries","spot"] ot):FnOk P w K mg base aT (n+1) f fd ["row","spot"] (bP K wZ):=by
 refine F.okD Bo (λds R h=>?_) (λNk A outer s H E ds R hr h=>?_)
 ·obtain⟨r,sp,rfl,_⟩:=h;rfl
 obtain⟨r,sp,rfl,hl,hx,q⟩:=h;refine⟨_,(aP (aY (nr nV (PD.q (bz rP hr rfl (af (av (ae 0)) (af (dv 1) aq aa) ay) ay (aN aa ag))) (PD.q (av (ae 0))) (aG _)))),?_⟩;exact⟨_,rfl,r.1,sp,rfl,hl,hx,_,rfl,q⟩
noncomputable def tU:bc:=λds R=>∃(bs:List bj)(rs:List Rw)(gs sp:List Int),ds=[gR bs rs gs,.tup (sp.map D.int)]/\gs.length<=1000/\(∀x∈gs,aD x)/\R (.int (bA gs sp))
theorem yi(F:Fun K "worth" "worth" mJ f fd)(rP:Cl P w K mg base n "left" ["entries","spot"] ot):FnOk P w K mg base aT (n+1) f fd ["plan","spot"] (bP K tU):=by
 refine F.okD Dl (λds R h=>?_) (λNk A outer s H E ds R hr h=>?_)
 ·obtain⟨bs,rs,gs,sp,rfl,_⟩:=h;rfl
 obtain⟨bs,rs,gs,sp,rfl,hl,hx,q⟩:=h;refine⟨_,(aP (aY (bz rP hr rfl (af (av (ae 0)) (af (dv 1) aq aa) ay) ay (aN aa ag)))),?_⟩;exact⟨_,rfl,gs,sp,rfl,hl,hx,q⟩
noncomputable def dH(b:bj)(x:Int):Bool:=decide (x<b.1) ||(match b.2 with|none=>false|some m=>decide (m<x))
noncomputable def oA(ns:List Str)(bs:List bj)(rs:List Rw)(gl:List Int)(sn:Int):D:=.tup [.tup (ns.map D.str),gR bs rs gl,.int sn]
noncomputable def b0:bj:=(0,none)
noncomputable def r0:Rw:=([],0)
noncomputable def gC(bs:List bj)(sp:List Int)(i:Nat):Bool:=dH (bs.getD i b0) (sp.getD i 0)
noncomputable def i7(rs:List Rw)(sp:List Int)(i:Nat):Bool:=decide (bA (rs.getD i r0).1 sp<(rs.getD i r0).2)
noncomputable def fQ(ns:List Str)(bs:List bj)(rs:List Rw)(gl:List Int)(sn:Int)(sp:List Int):Str:=
 match (List.range ns.length).find? (gC bs sp)with
 |some i=>"misses unknown "++ns.getD i ""
 |none=>match (List.range rs.length).find? (i7 rs sp)with
  |some i=>"misses row "++nstr (i:Nat)
  |none=>"meets "++nstr (sn*bA gl sp)
theorem ny{n i:Nat}{p:Nat->Bool}(hi:i<n)(hp:p i=true)(h:∀j,j<i->p j=false):(List.range n).find? p=some i:=by rw[List.find?_range_eq_some];exact⟨hp,J6.mpr hi,λj hj=>by rw[h j hj];rfl⟩
theorem lU{n:Nat}{p:Nat->Bool}(h:∀j,j<n->p j=false):(List.range n).find? p=none:=by rw[Lv];intro j hj;rw[h j (J6.mp hj)];simp
noncomputable def ui:bc:=λds R=>∃(ns:List Str)(bs:List bj)(rs:List Rw)(gl:List Int)(sn:Int)(sp:List Int),ds=[oA ns bs rs gl sn,.tup (sp.map D.int)]/\PlOk ns bs rs gl/\(sn=1\/sn = -1)/\sp.length=ns.length/\(∀x∈sp,aD x)/\R (.str (fQ ns bs rs gl sn sp))
theorem gu{α:Type}{xs:List α}{i:Nat}{x d:α}(h:xs[i]?=some x):xs.getD i d=x:=by rw[JD,h];rfl
theorem uz{n:Int}(h:n.natAbs<10^12):(nstr n).length<=13:=by
 rw[←nH];rcases lN n with⟨m,rfl⟩|⟨m,rfl⟩
 ·rw[lY];have:=jl 11 m (by omega);omega
 ·rw[lB,Je];have:=jl 11 (m+1) (by omega);omega
theorem rE:∀{xs ys:List Int},(∀x∈xs,aD x)->(∀y∈ys,aD y)->(bA xs ys).natAbs<=xs.length*100000000
 | [],_,_,_=>by simp[bA]
 |_::_,[],_,_=>by simp[bA]
 |x::xs,y::ys,h1,h2=>by
  have ih:=rE (xs:=xs) (ys:=ys) (λz hz=>h1 z (IY _ hz)) λz hz=>h2 z (IY _ hz);have hx:=h1 x IZ;have hy:=h2 y IZ;unfold aD at hx hy
  have hm:(x*y).natAbs<=10000*10000:=by rw[Int.natAbs_mul];exact Nat.mul_le_mul (by omega) (by omega)
  have e:bA (x::xs) (y::ys)=x*y+bA xs ys:=by simp[bA]
  rw[e,Je,Mx];omega
noncomputable abbrev TR(ns:List Str)(bs:List bj)(rs:List Rw)(gl:List Int)(sn:Int)(sp:List Int)(u3 u4 u5 u6 u7:Option Sl):bC:=[some (.v (oA ns bs rs gl sn)),some (.v (.tup (sp.map D.int))),some (.v (gR bs rs gl)),u3,u4,u5,u6,u7,none]
theorem Ck(F:Fun K "tried" "tried" mL f fd)(IQ:Cl P w K mg base n "worth" ["plan","spot"] tU)(IH:Cl P w K mg base n "meets" ["row","spot"] wZ)(dG:mg "zip"=none)(rJ:mg "enumerate"=none):FnOk P w K mg base aT (n+1) f fd ["state","spot"] (bP K ui):=by
 refine F.okD sc_tried (λds R h=>?_) (λNk A outer s H E ds R hr h=>?_)
 ·obtain⟨ns,bs,rs,gl,sn,sp,rfl,_⟩:=h;rfl
 obtain⟨ns,bs,rs,gl,sn,sp,rfl,hp,hs,hl,hx,q⟩:=h
 refine⟨_,(bD (b8 (i:=2) sc_tried.nd rfl U2 (av (ae 0)))
   (bD (jj Kf rfl (xn rfl dG (af (av (ae 0)) (af (dv 1) (af (av (ae 2)) aq ay) aa) ay)) (hR (n:=3) rfl (dr (bY (i:=3) sc_tried.nd rfl U2) (dr (bY (i:=4) sc_tried.nd rfl U2) (dr (bY (i:=5) sc_tried.nd rfl U2) hV)))) (aP (bF (PWD.td (eW (aI iX (ae 4) (PD.q (av (ae 5))) (aG _)) (fP (PWD.td (kQ (aI oY (PD.q (av (ae 5))) (PD.q bS) (aG _)) (jX (aI gY (ae 4) (PD.q (av (ae 5))) (aG _)))))))) (aP (aY (gx (dD eX (gD (eJ (dv 3))))))) bH)))
   (bD (jj Kf rfl (DE rfl rJ (af (av (ae 2)) aq ay)) (hR (n:=2) rfl (dr (bY (i:=6) sc_tried.nd rfl U2) (dr (bY (i:=7) sc_tried.nd rfl U2) hV))) (aP (bF (ka (iZ (PD.q (bz IH hr rfl (af (dv 7) (af (dv 1) aq aa) aa) aa (aN aa ag))) (λ_=>rfl))) (aP (aY (gx (dD eX (gD (eJ (dv 6))))))) bH)))
   (bD (b8 (i:=8) sc_tried.nd rfl U2 (aS gh (PD.q (av (ae 0))) (PD.q (bz IQ hr rfl (af (dv 2) (af (dv 1) aq aa) aa) aa (aN aa ag)))))
   (aP (aY (gx (dD eX (gD (eJ (dv 8))))))))))),?_⟩
 have n8:=hp.nm.2.1;have Pd:=hp.bl;have Pb:=hp.rl;refine⟨_,rfl,?_⟩;refine⟨_,rfl,_,rfl,_,_,_,rfl,rfl,rfl,?_⟩;refine⟨λi ρ=>(∀j,j<i->gC bs sp j=false)/\∃u3 u4 u5:Option Sl,ρ=TR ns bs rs gl sn sp u3 u4 u5 none none,⟨λj h=>absurd h (by omega),_,_,_,rfl⟩,?_,?_⟩
 ·rintro i d ρ hd ⟨ho,u3,u4,u5,rfl⟩;obtain⟨x',v',b',h1,h2,h3,rfl⟩:=oq hd;obtain⟨x,rfl,Pa⟩:=eI h1;obtain⟨v,rfl,Q0⟩:=eI h2;obtain⟨⟨l,mo⟩,rfl,QE⟩:=eI h3;have hi:=aU Pa;have x6:=fK (hp.nm.2.2 x (Jn Pa))
  have eo:gC bs sp i=dH (l,mo) v:=by unfold gC;rw[gu QE,gu Q0]
  have good:dH (l,mo) v=false->∀j,j<i+1->gC bs sp j=false:=λh j hj=>by
   by_cases c:j=i
   ·rw[c,eo];exact h
   ·exact ho j (by omega)
  have bad:dH (l,mo) v=true->R (.str ("misses unknown "++x)):=λh=>by
   unfold fQ at q;rw[ny hi (by rw[eo];exact h) ho]at q;have:ns.getD i ""=x:=gu Pa;rw[←this];exact q
  refine⟨rfl,?_⟩
  have c1:("misses unknown ":Str).length<=15:=by decide
  have yes:dH (l,mo) v=true->(("misses unknown ":Str).length<=1000000/\x.length<=1000000/\x.length<=1000000/\R (.str ("misses unknown "++x))):=λh=>⟨eG c1,eG x6,eG x6,bad h⟩;refine⟨_,rfl,λh=>⟨λ_=>?_,λh=>(by cases h)⟩,λh=>?_⟩
  ·exact yes (by unfold dH;rw[K6];exact .inl h)
  cases mo with
  |none=>
   refine⟨_,rfl,λh2=>(by cases h2),λ_=>⟨λh=>(by cases h),λ_=>⟨good ?_,_,_,_,rfl⟩⟩⟩;unfold dH;show (decide (v<l) ||false)=false;rw[M5];exact h
  |some k=>
   refine⟨_,rfl,λ_=>⟨_,rfl,λh2=>?_,λh2=>?_⟩,λh2=>(by cases h2)⟩
   ·exact yes (by unfold dH;show (decide (v<l) ||decide (k<v))=true;rw[K6];exact .inr h2)
   ·refine⟨good ?_,_,_,_,rfl⟩;unfold dH;show (decide (v<l) ||decide (k<v))=false;rw[Bool.or_eq_false_iff];exact⟨h,h2⟩
 rintro ρ ⟨ho,u3,u4,u5,rfl⟩;rw[mi,mn,mn,mn,hl,Pd,MF,MF]at ho;have q1:=lU ho;unfold fQ at q;rw[q1]at q;refine⟨_,rfl,?_⟩;refine⟨λi ρ=>(∀j,j<i->i7 rs sp j=false)/\∃u6 u7:Option Sl,ρ=TR ns bs rs gl sn sp u3 u4 u5 u6 u7,⟨λj h=>absurd h (by omega),_,_,rfl⟩,?_,?_⟩
 ·rintro i d ρ hd ⟨hm,u6,u7,rfl⟩;obtain⟨y,hy,rfl⟩:=vd hd;obtain⟨r,rfl,Nq⟩:=eI hy;have hi:=aU Nq;obtain⟨r1,r2,r3⟩:=hp.ro r (Jn Nq)
  have em:i7 rs sp i=decide (bA r.1 sp<r.2):=by unfold i7;rw[gu Nq]
  have c1:("misses row ":Str).length<=15:=by decide
  have RL:aD ((i:Nat):Int):=by unfold aD;omega
  have i6:=cT RL;refine⟨rfl,?_⟩;refine⟨r,sp,rfl,by omega,r2,λh=>?_,λh=>?_⟩
  ·have h1:¬ r.2<=bA r.1 sp:=by simpa using h
   rw[ny hi (by rw[em];exact JP (by omega)) hm]at q;exact⟨eG c1,big RL,eG i6,q⟩
  ·have h1:r.2<=bA r.1 sp:=by simpa using h
   refine⟨λj hj=>?_,_,_,rfl⟩;by_cases c:j=i
   ·rw[c,em];exact Jo (by omega)
   ·exact hm j (by omega)
 rintro ρ ⟨hm,u6,u7,rfl⟩;rw[qv,mn]at hm;rw[lU hm]at q
 have T1:gl.length<=8:=by rw[hp.gn];exact n8
 have hd:=rE hp.go hx;have hd2:gl.length*100000000<=8*100000000:=L7 _ T1
 have c1:("meets ":Str).length<=15:=by decide
 have hw:(sn*bA gl sp).natAbs<10^12:=by
  rcases hs with rfl|rfl
  ·rw[Int.one_mul];omega
  ·rw[Int.neg_one_mul];omega
 have hb:(sn*bA gl sp).natAbs<2^1900:=Jw (show (sn*bA gl sp).natAbs<2^40 by omega) (Lk (by decide) (by decide));refine⟨_,rfl,bs,rs,gl,sp,rfl,by omega,hp.go,nL (by omega) (by omega),?_⟩;exact⟨eG c1,hb,eG (uz hw),q⟩
open Tx
noncomputable def iM(ws:List Str):Option (List Int):=if none∈ws.map bu then none else some (ws.map λw=>(bu w).getD 0)
noncomputable def CO:Option (List Int)->D
 |none=>.non
 |some ns=>.tup (ns.map D.int)
theorem BQ:kW=ip:=by funext o;cases o<;>rfl
noncomputable def rW:bc:=λds R=>∃(ws:List Str),ds=[.lst (ws.map D.str)]/\ws.length<=1000/\(∀w∈ws,ef w)/\R (CO (iM ws))
theorem GL(F:Fun K "numbers_form" "numbers_form" jU f fd)(iG:Cl P w K mg base n "number_form" ["word"] jR)(dF:mg "tuple"=none):FnOk P w K mg base aT (n+1) f fd ["words"] (bP K rW):=by
 refine F.okD sc_numbers_form (λds R h=>?_) (λNk A outer s H E ds R hr h=>?_)
 ·obtain⟨ws,rfl,_⟩:=h;rfl
 obtain⟨ws,rfl,hl,ha,q⟩:=h
 refine⟨_,(bD (zf (i:=1) (k:=1) (N':=["word"]) (cap:=[none]) rfl sc_numbers_form.nd rfl U2 (.ok (show eB ["words","numbers"] (aE jU) _ ["word"] [none]=true by lia)) (by lia) (dM (by decide)) (fw (dv 0)) (λ_ _ _ _ _=>(bY (i:=0) (show List.Nodup (["word"]:List Str)by lia) rfl U2)) (λ_ _ _ _ _=>(bz iG hr rfl (af (dv 0) aq aa) aa ag)))
   (aP (aY (jm (aI Cd (PD.q bS) (ae 1) (by with_unfolding_all rfl)) bS (eu jc rfl dF KA (br (ae 1) bt aa) aa ag))))),?_⟩
 refine iu (f:=D.str) (λw=>ip (bu w)) (cm hl) (λw hw=>⟨w,rfl,ha w hw,rfl⟩) ?_;refine⟨ws.map bu,rfl,by rw[BQ,Kg];rfl,?_⟩;unfold iM at q;refine⟨λh=>?_,λh=>?_⟩
 ·rw[Ja (Ju h)]at q;exact q
 ·have h:=J1 h;rw[I0 h]at q
  have e:(ws.map λw=>ip (bu w))=(ws.map λw=>(bu w).getD 0).map D.int:=by
   rw[Kg];refine K2 λw hw=>?_
   cases hn:bu w with
   |none=>exact absurd (Jr.mpr ⟨w,hw,hn⟩) h
   |some k=>show _=D.int ((bu w).getD 0);rw[hn];rfl
  rw[e];exact q
inductive Say where|word (w:Str)|frm (f:Frm)|take (k:Int)|tri (ns:List Int)
noncomputable def gb:Option Say->D
 |none=>.non
 |some (.word w)=>.tup [.str w]
 |some (.frm f)=>iS f
 |some (.take k)=>.tup [.str "take",.int k]
 |some (.tri ns)=>.tup [.str "try",.tup (ns.map D.int)]
noncomputable def fj(n:Nat)(x:Str):Option Say:=
 if x∈(["back","ask","fractions","write"]:List Str) then some (.word x)
 else if aH (Txt.split x " ") 0∈(["take","try"]:List Str) then
  match iM ((Txt.split x " ").drop 1)with
  |none=>none
  |some l=>if aH (Txt.split x " ") 0="take" then (if l.length=1 then some (.take (l.getD 0 0)) else none) else (if l.length=n then some (.tri l) else none)
 else (iA x).map Say.frm
noncomputable def va:bc:=λds R=>∃(x:Str)(n:Nat),ds=[.str x,.int (n:Nat)]/\ef x/\x.length<=900/\R (gb (fj n x))
theorem Ad{x:Str}:cR (.inr x) [.inr "back",.inr "ask",.inr "fractions",.inr "write"]=decide (x∈(["back","ask","fractions","write"]:List Str)):=jy (xs:=["back","ask","fractions","write"])
theorem GE{x:Str}:cR (.inr x) [.inr "take",.inr "try"]=decide (x∈(["take","try"]:List Str)):=jy (xs:=["take","try"])
theorem Cs(ws:List Str):bN (ws.map D.str) (some 1) none=(ws.drop 1).map D.str:=by
 rw[qu]
 have e:bN ws (some 1) none=ws.drop 1:=by
  unfold bN;show (ws.drop (HT.sIx ws.length 0 (some ((1:Nat):Int)))).take _=_;rw[HT.sIx_nat,HT.sIx_none];show List.take (ws.length-HT.sIx ws.length 0 (some ((1:Nat):Int))) _=_;rw[HT.sIx_nat]
  cases ws with
  |nil=>rfl
  |cons w ws=>
   have e:min 1 (w::ws).length=1:=by rw[Je];omega
   show List.take ((w::ws).length-min 1 (w::ws).length) (List.drop (min 1 (w::ws).length) (w::ws))=ws;rw[e];show List.take (ws.length+1-1) ws=ws;rw[Nat.add_sub_cancel,Kt]
 rw[e]
theorem GH(F:Fun K "say_form" "say_form" nM f fd)(IM:Cl P w K mg base n "numbers_form" ["words"] rW)(IS:Cl P w K mg base n "line_form" ["line"] sY)(aV:mg "len"=none):FnOk P w K mg base aT (n+1) f fd ["line","n"] (bP K va):=by
 refine F.okD sc_say_form (λds R h=>?_) (λNk A outer s H E ds R hr h=>?_)
 ·obtain⟨x,n,rfl,_⟩:=h;rfl
 obtain⟨x,n,rfl,ha,hx,q⟩:=h
 refine⟨_,(bL (bF (aI ou (ae 0) (PD.q (bg (af aC (af aC (af aC (af aC aq ah) ah) ah) ah))) (by with_unfolding_all rfl)) (aP (aY (bg (af (dv 0) aq aa)))) bH)
   (bD (b8 (i:=2) sc_say_form.nd rfl U2 (PF.d (wR (ae 0) aC (cw ah) ah)))
   (bL (bF (aI mS (PD.q (av (ae 2))) (PD.q (bg (af aC (af aC aq ah) ah))) (by with_unfolding_all rfl)) (aP (aY (bz IS hr rfl (af (dv 0) aq aa) aa ag))) bH)
   (bD (b8 (i:=3) sc_say_form.nd rfl U2 (bz IM hr rfl (af (jv (ae 2) (iY (PD.q ao)) km) aq ay) ay ag))
   (bL (bF (PWD.td (eW (aI gA (ae 3) (PD.q bS) (aG _)) (fP (aI (fU hr.units) (PD.q (bZ cu rfl aV JC (br (ae 3) bt aa) aa ag)) (PD.q (jm (aI (bM hr.units) (PD.q (av (ae 2))) (PD.q aC) (aG _)) ao (dv 1))) (aG _))))) (aP (aY bS)) bH)
   (aP (aY (jm (aI (bM hr.units) (PD.q (av (ae 2))) (PD.q aC) (aG _)) (bg (af aC (af (av (ae 3)) aq ay) ah)) (bg (af aC (af (dv 3) aq aa) ah)))))))))),?_⟩
 have hs:=tI ha;have h1:=LG x " ";have h2:=M0 x " ";unfold fj at q;obtain⟨ws,RK⟩:∃ws,ws=Txt.split x " ":=⟨_,rfl⟩;rw[←RK]at hs h1 h2 q;refine⟨λρ=>x∉(["back","ask","fractions","write"]:List Str)/\ρ=[some (.v (.str x)),some (.v (.int (n:Nat))),none,none],⟨.inr x,[.inr "back",.inr "ask",.inr "fractions",.inr "write"],rfl,rfl,?_⟩,?_⟩
 ·rw[Ad,Lz];refine⟨λh=>?_,λh=>⟨J1 h,rfl⟩⟩;rw[Ja (Ju h)]at q;exact q
 rintro ρ ⟨n1,rfl⟩;rw[I0 n1]at q;refine⟨_,rfl,_,rfl,by decide,by have:=Kd;omega,?_⟩;rw[←RK];refine⟨λρ=>aH ws 0∈(["take","try"]:List Str)/\ρ=[some (.v (.str x)),some (.v (.int (n:Nat))),some (.v (.lst (ws.map D.str))),none],⟨_,eO 0 (by omega) rfl,.inr _,[.inr "take",.inr "try"],rfl,rfl,?_⟩,?_⟩
 ·rw[GE];by_cases c:aH ws 0∈(["take","try"]:List Str)
  ·rw[JP c];exact⟨λh=>(by cases h),λ_=>⟨c,rfl⟩⟩
  ·rw[Jo c];refine⟨λ_=>?_,λh=>(by cases h)⟩;rw[I0 c]at q;refine⟨x,rfl,ha,hx,?_⟩
   cases hf:iA x with
   |none=>rw[hf]at q;exact q
   |some f=>rw[hf]at q;exact q
 rintro ρ ⟨n2,rfl⟩;rw[Ja n2]at q;refine⟨_,Cs ws,ws.drop 1,rfl,by rw[JY];omega,λw hw=>hs w (Lj hw),?_⟩;have NX:bJ (ws.map D.str) 0=some (.str (aH ws 0)):=eO 0 (by omega) rfl
 cases hn:iM (ws.drop 1)with
 |none=>
  rw[hn]at q;refine⟨λρ=>False,⟨λ_=>⟨λ_=>q,λh=>(by cases h)⟩,λh=>(by cases h)⟩,?_⟩;rintro ρ ⟨⟩
 |some l=>
  rw[hn]at q;have q:R (gb (if aH ws 0="take" then (if l.length=1 then some (.take (l.getD 0 0)) else none) else (if l.length=n then some (.tri l) else none))):=q
  have kN:∀{a b:Int},(!(a==b))=true->a≠b:=λ{a b} h e=>by rw[e,JT]at h;cases h
  have kG:∀{a b:Int},(!(a==b))=false->a=b:=λ{a b} h=>by
   cases e:(a==b)with
   |true=>exact eq_of_beq e
   |false=>rw[e]at h;cases h
  refine⟨λρ=>l.length=(if aH ws 0="take" then 1 else n)/\ρ=[some (.v (.str x)),some (.v (.int (n:Nat))),some (.v (.lst (ws.map D.str))),some (.v (.tup (l.map D.int)))],⟨λh=>(by cases h),λ_=>⟨_,NX,λh=>?_,λh=>?_⟩⟩,?_⟩
  ·have c:aH ws 0="take":=eq_of_beq h;rw[Ja c]at q;refine⟨λh2=>?_,λh2=>⟨?_,rfl⟩⟩
   ·have:=kN h2;rw[mn]at this;rw[I0 (by omega)]at q;exact q
   ·have:=kG h2;rw[mn]at this;rw[Ja c];omega
  ·have c:aH ws 0≠"take":=λe=>by rw[e,JT]at h;cases h
   rw[I0 c]at q;refine⟨λh2=>?_,λh2=>⟨?_,rfl⟩⟩
   ·have:=kN h2;rw[mn]at this;rw[I0 (by omega)]at q;exact q
   ·have:=kG h2;rw[mn]at this;rw[I0 c];omega
  rintro ρ ⟨RM,rfl⟩;refine⟨_,NX,λh=>?_,λh=>?_⟩
  ·have c:aH ws 0="take":=eq_of_beq h;rw[Ja c]at q RM;rw[Ja RM]at q
   match l,RM with
   | [k],_=>exact⟨_,rfl,q⟩
  ·have c:aH ws 0≠"take":=λe=>by rw[e,JT]at h;cases h
   rw[I0 c]at q RM;rw[Ja RM]at q;exact q
open Tx
structure Dk where
 ns:List Str
 bs:List bj
 rs:List Rw
 gl:List Int
 sn:Int
noncomputable abbrev du(s:Dk):D:=oA s.ns s.bs s.rs s.gl s.sn
noncomputable def lb(r:Rw):Rw:=(r.1++[0],r.2)
noncomputable def gB(s:Dk):Frm->Dk
 |.unk x l m=>⟨s.ns++[x],s.bs++[(l,m)],s.rs.map lb,s.gl++[0],s.sn⟩
 |.row ts b t=>⟨s.ns,s.bs,s.rs++[if t then ix (bT s.ns ts,b) else (bT s.ns ts,b)],s.gl,s.sn⟩
 |.worth ts sn=>⟨s.ns,s.bs,s.rs,df sn (bT s.ns ts),sn⟩
noncomputable def jE(s:Dk):Frm->Prop
 |.unk x _ _=>x∉s.ns/\s.ns.length<8
 |.row ts _ _=>nT s.ns ts/\ts.length<=900/\s.rs.length<12
 |.worth ts _=>nT s.ns ts/\ts.length<=900
structure DkW(s:Dk):Prop where
 nd:s.ns.Nodup
 nl:s.ns.length<=8
 bl:s.bs.length=s.ns.length
 rl:s.rs.length<=12
 ro:∀r∈s.rs,r.1.length=s.ns.length
 gn:s.gl.length=s.ns.length
noncomputable def wX:bc:=λds R=>∃(s:Dk)(x:Str)(b:bj),ds=[du s,.str x,dw b]/\DkW s/\jE s (.unk x b.1 b.2)/\R (du (gB s (.unk x b.1 b.2)))
theorem jw{α:Type}(f:α->D)(xs:List α)(x:α):xs.map f++[f x]=(xs++[x]).map f:=by rw[Jz];rfl
theorem jd{α:Type}{f:α->D}{xs:List α}(h:xs.length<=100)(d:D):(xs.map f).length+[d].length<=sizeLine:=by
 have:=Kd;rw[mn];show xs.length+1<=_;omega
noncomputable abbrev WU(k:Dk)(x:Str)(b:bj)(u5:Option Sl):bC:=[some (.v (du k)),some (.v (.str x)),some (.v (dw b)),some (.v (.tup (k.ns.map D.str))),some (.v (gR k.bs k.rs k.gl)),u5]
theorem Ea(F:Fun K "with_unknown" "with_unknown" kj f fd)(Nw:∃tk,mg "MOST_UNKNOWNS"=some (.int 8 tk))(dF:mg "tuple"=none)(aV:mg "len"=none):FnOk P w K mg base aT (n+1) f fd ["state","name","bounds"] (bP K wX):=by
 refine F.okD sc_with_unknown (λds R h=>?_) (λNk A outer s H E ds R hr h=>?_)
 ·obtain⟨k,x,b,rfl,_⟩:=h;rfl
 obtain⟨k,x,b,rfl,hk,hc,q⟩:=h
 refine⟨_,(bD (b8 (i:=3) sc_with_unknown.nd rfl U2 (av (ae 0)))
   (bD (b8 (i:=4) sc_with_unknown.nd rfl U2 (av (ae 0)))
   (bL (bF (aI ou (ae 1) (ae 3) (by with_unfolding_all rfl)) (aP ji) bH)
   (bL (bF (aI nV (PD.q (bZ cu rfl aV JC (br (ae 3) bt aa) aa ag)) (PD.q (mz rfl Nw.choose_spec)) (aG _)) (aP ji) bH)
   (bD (b8 (i:=5) sc_with_unknown.nd rfl U2 (eu jc rfl dF KA (br (PD.q (PF.d (fV (k:=1) (N':=["row"]) (cap:=[none]) rfl (.ok (show eB ["state","name","bounds","names","plan","rows"] (aE kj) _ ["row"] [none]=true by lia)) (by lia) (dM (by decide)) (fw (av (ae 4))) (λ_ _ _ _ _=>(bY (i:=0) (show List.Nodup (["row"]:List Str)by lia) rfl U2)) (λ_ _ _ _ _=>(bg (af (aS bB (PD.q (av (ae 0))) (PD.q (bg (af ao aq ah)))) (af (av (ae 0)) aq ay) cg)))))) bt dN) dN ag))
   (aP (aY (bg (af (aS bB (ae 3) (PD.q (bg (af (dv 1) aq aa)))) (af (bg (af (aS bB (PD.q (av (ae 4))) (PD.q (bg (af (dv 2) aq aa)))) (af (dv 5) (af (aS bB (PD.q (av (ae 4))) (PD.q (bg (af ao aq ah)))) aq cg) aa) cg)) (af (av (ae 0)) aq ay) dX) cg))))))))),?_⟩
 obtain⟨c1,c2⟩:=hc;have Pd:=hk.bl;have Pb:=hk.rl;have hgn:=hk.gn;refine⟨_,rfl,?_⟩;refine⟨_,rfl,?_⟩;refine⟨λρ=>ρ=WU k x b none,⟨.inr x,k.ns.map Sum.inr,rfl,by rw[←w4];rfl,?_⟩,?_⟩
 ·rw[jy,Jo c1];exact⟨λh=>ff h,λ_=>rfl⟩
 rintro ρ rfl;refine⟨λρ=>ρ=WU k x b none,⟨λh=>?_,λ_=>rfl⟩,?_⟩
 ·have:=Ju h;rw[mn]at this;omega
 rintro ρ rfl;refine⟨_,rfl,?_⟩;refine iu (f:=eR) (λr=>eR (lb r)) (cm (by omega)) (λr Nq=>?_) ?_
 ·have:=hk.ro r Nq;exact⟨_,rfl,jd (by omega) _,_,jw D.int r.1 0,_,rfl,rfl⟩
 refine⟨jd (by omega) _,_,jw D.str k.ns x,?_⟩;refine⟨_,rfl,jd (by omega) _,_,jw dw k.bs b,?_⟩;refine⟨_,rfl,jd (by omega) _,_,jw D.int k.gl 0,_,rfl,?_⟩
 have e:(k.rs.map λr=>eR (lb r))=(k.rs.map lb).map eR:=by rw[Kg];rfl
 rw[e];exact q
noncomputable def vq:bc:=λds R=>∃(s:Dk)(ts:List Tm)(b:Int)(t:Bool),ds=[du s,.tup (ts.map cP),.int b,.bl t]/\DkW s/\jE s (.row ts b t)/\R (du (gB s (.row ts b t)))
theorem xK(F:Fun K "with_row" "with_row" mC f fd)(rO:Cl P w K mg base n "sum_entries" ["terms","names","at"] rh)(II:Cl P w K mg base n "turned" ["row"] tP)(NP:∃tk,mg "MOST_ROWS"=some (.int 12 tk))(aV:mg "len"=none):FnOk P w K mg base aT (n+1) f fd ["state","terms","number","at_most"] (bP K vq):=by
 refine F.okD sc_with_row (λds R h=>?_) (λNk A outer s H E ds R hr h=>?_)
 ·obtain⟨k,ts,b,t,rfl,_⟩:=h;rfl
 obtain⟨k,ts,b,t,rfl,hk,hc,q⟩:=h
 refine⟨_,(bD (b8 (i:=4) sc_with_row.nd rfl U2 (av (ae 0)))
   (bD (b8 (i:=5) sc_with_row.nd rfl U2 (bg (af (bz rO hr rfl (af (dv 1) (af (av (ae 0)) (af bS aq ah) ay) aa) aa (aN ay (aN ah ag))) (af (dv 2) aq aa) cy)))
   (bL (bF (aI nV (PD.q (bZ cu rfl aV JC (br (PD.q (av (ae 4))) bt ay) ay ag)) (PD.q (mz rfl NP.choose_spec)) (aG _)) (aP ji) bH)
   (bD (b8 (i:=6) sc_with_row.nd rfl U2 (aS bB (PD.q (av (ae 4))) (PD.q (bg (af (jm (iZ (ae 3) (λ_=>rfl)) (bz II hr rfl (af (dv 5) aq aa) aa ag) (dv 5)) aq sh)))))
   (aP (aY (bg (af (av (ae 0)) (af (bg (af (av (ae 4)) (af (dv 6) (af (av (ae 4)) aq ay) aa) ay)) (af (av (ae 0)) aq ay) dX) ay)))))))),?_⟩
 obtain⟨c1,c2,c3⟩:=hc;have Pb:=hk.rl;have hnl:=hk.nl;refine⟨_,rfl,?_⟩;refine⟨_,rfl,ts,k.ns,.non,rfl,hk.nd,hk.nl,c2,c1,?_⟩;refine⟨λρ=>ρ=[some (.v (du k)),some (.v (.tup (ts.map cP))),some (.v (.int b)),some (.v (.bl t)),some (.v (gR k.bs k.rs k.gl)),some (.v (eR (bT k.ns ts,b))),none],⟨_,rfl,λh=>?_,λ_=>rfl⟩,?_⟩
 ·have:=Ju h;rw[mn]at this;omega
 rintro ρ rfl
 have el:(bT k.ns ts).length<=1000:=by unfold bT;rw[mn];omega
 refine⟨_,rfl,λh=>?_,λh=>?_⟩
 ·have h:t=true:=h;subst h;refine⟨(bT k.ns ts,b),rfl,el,jd (by omega) _,_,jw eR k.rs (ix (bT k.ns ts,b)),?_⟩;exact⟨_,rfl,_,rfl,_,rfl,_,rfl,q⟩
 ·have h:t=false:=h;subst h;refine⟨jd (by omega) _,_,jw eR k.rs (bT k.ns ts,b),?_⟩;exact⟨_,rfl,_,rfl,_,rfl,_,rfl,q⟩
noncomputable def vm:bc:=λds R=>∃(s:Dk)(ts:List Tm)(sn:Int),ds=[du s,.tup (ts.map cP),.int sn]/\DkW s/\jE s (.worth ts sn)/\R (du (gB s (.worth ts sn)))
theorem yy(F:Fun K "with_worth" "with_worth" nD f fd)(rO:Cl P w K mg base n "sum_entries" ["terms","names","at"] rh)(rL:Cl P w K mg base n "turned_numbers" ["entries"] p8):FnOk P w K mg base aT (n+1) f fd ["state","terms","sense"] (bP K vm):=by
 refine F.okD sc_with_worth (λds R h=>?_) (λNk A outer s H E ds R hr h=>?_)
 ·obtain⟨k,ts,sn,rfl,_⟩:=h;rfl
 obtain⟨k,ts,sn,rfl,hk,hc,q⟩:=h
 refine⟨_,(bD (b8 (i:=3) sc_with_worth.nd rfl U2 (av (ae 0)))
   (bD (b8 (i:=4) sc_with_worth.nd rfl U2 (bz rO hr rfl (af (dv 1) (af (av (ae 0)) (af bS aq ah) ay) aa) aa (aN ay (aN ah ag))))
   (bL (bF (aI (bM hr.units) (ae 2) (PD.q (ei (PD.q ao))) (aG _)) (aP (b8 (i:=4) sc_with_worth.nd rfl U2 (bz rL hr rfl (af (dv 4) aq aa) aa ag))) bH)
   (aP (aY (bg (af (av (ae 0)) (af (bg (af (av (ae 3)) (af (av (ae 3)) (af (dv 4) aq aa) ay) ay)) (af (dv 2) aq aa) dX) ay))))))),?_⟩
 obtain⟨c1,c2⟩:=hc;have hnl:=hk.nl
 have el:(bT k.ns ts).length<=1000:=by unfold bT;rw[mn];omega
 refine⟨_,rfl,?_⟩;refine⟨_,rfl,ts,k.ns,.non,rfl,hk.nd,hk.nl,c2,c1,?_⟩;refine⟨λρ=>ρ=[some (.v (du k)),some (.v (.tup (ts.map cP))),some (.v (.int sn)),some (.v (gR k.bs k.rs k.gl)),some (.v (.tup ((df sn (bT k.ns ts)).map D.int)))],⟨λh=>?_,λh=>?_⟩,?_⟩
 ·have h:=gm h;exact⟨bT k.ns ts,rfl,el,by unfold df;rw[Ja h];rfl⟩
 ·have h:=uu h;unfold df;rw[I0 h];rfl
 rintro ρ rfl;exact⟨_,rfl,_,rfl,_,rfl,q⟩
noncomputable def uG:bc:=λds R=>∃(s:Dk)(f:Frm),ds=[du s,iS f]/\DkW s/\jE s f/\R (du (gB s f))
noncomputable abbrev CH(k:Dk)(f:Frm):bC:=[some (.v (du k)),some (.v (iS f))]
theorem Be(F:Fun K "changed" "changed" nX f fd)(IR:Cl P w K mg base n "with_unknown" ["state","name","bounds"] wX)(IA:Cl P w K mg base n "with_row" ["state","terms","number","at_most"] vq)(IT:Cl P w K mg base n "with_worth" ["state","terms","sense"] vm):FnOk P w K mg base aT (n+1) f fd ["state","form"] (bP K uG):=by
 refine F.okD BE (λds R h=>?_) (λNk A outer s H E ds R hr h=>?_)
 ·obtain⟨k,f,rfl,_⟩:=h;rfl
 obtain⟨k,f,rfl,hk,hc,q⟩:=h
 refine⟨_,(bL (bF (aI (bM hr.units) (PD.q (av (ae 1))) (PD.q aC) (aG _)) (aP (aY (bz IR hr rfl (af (dv 0) (af (av (ae 1)) (af (av (ae 1)) aq ay) ay) aa) aa (aN ay (aN ay ag))))) bH)
   (bL (bF (aI (bM hr.units) (PD.q (av (ae 1))) (PD.q aC) (aG _)) (aP (aY (bz IA hr rfl (af (dv 0) (af (av (ae 1)) (af (av (ae 1)) (af (av (ae 1)) aq ay) ay) ay) aa) aa (aN ay (aN ay (aN ay ag)))))) bH)
   (bL (bF (aI (bM hr.units) (PD.q (av (ae 1))) (PD.q aC) (aG _)) (aP (aY (bz IT hr rfl (af (dv 0) (af (av (ae 1)) (af (av (ae 1)) aq ay) ay) aa) aa (aN ay (aN ay ag))))) bH)
   (aP ji)))),?_⟩
 cases f with
 |unk x l m=>
  refine⟨λρ=>False,⟨_,rfl,λ_=>?_,λh=>(by cases h)⟩,?_⟩
  ·exact⟨_,rfl,_,rfl,k,x,(l,m),rfl,hk,hc,q⟩
  rintro ρ ⟨⟩
 |row ts b t=>
  refine⟨λρ=>ρ=CH k (.row ts b t),⟨_,rfl,λh=>(by cases h),λ_=>rfl⟩,?_⟩;rintro ρ rfl;refine⟨λρ=>False,⟨_,rfl,λ_=>?_,λh=>(by cases h)⟩,?_⟩
  ·exact⟨_,rfl,_,rfl,_,rfl,k,ts,b,t,rfl,hk,hc,q⟩
  rintro ρ ⟨⟩
 |worth ts sn=>
  refine⟨λρ=>ρ=CH k (.worth ts sn),⟨_,rfl,λh=>(by cases h),λ_=>rfl⟩,?_⟩;rintro ρ rfl;refine⟨λρ=>ρ=CH k (.worth ts sn),⟨_,rfl,λh=>(by cases h),λ_=>rfl⟩,?_⟩;rintro ρ rfl;refine⟨λρ=>False,⟨_,rfl,λ_=>?_,λh=>(by cases h)⟩,?_⟩
  ·exact⟨_,rfl,_,rfl,k,ts,sn,rfl,hk,hc,q⟩
  rintro ρ ⟨⟩
open Tx
theorem pQ(es:List Int):NoL (.tup (es.map D.int)):=.tup λd hd=>by obtain⟨x,_,rfl⟩:=Jr.mp hd;exact .int x
theorem xA(r:Rw):NoL (eR r):=.tup λd hd=>by
 simp only[Jb,Jp,J5]at hd;rcases hd with rfl|rfl
 ·exact pQ _
 ·exact .int _
theorem vp(b:bj):NoL (dw b):=.tup λd hd=>by
 simp only[Jb,Jp,J5]at hd;rcases hd with rfl|rfl
 ·exact .int _
 ·cases b.2
  ·exact .non
  ·exact .int _
theorem AV(bs:List bj)(rs:List Rw)(gl:List Int):NoL (gR bs rs gl):=.tup λd hd=>by
 simp only[Jb,Jp,J5]at hd;rcases hd with rfl|rfl|rfl
 ·refine .tup λe he=>?_;obtain⟨b,_,rfl⟩:=Jr.mp he;exact vp b
 ·refine .tup λe he=>?_;obtain⟨b,_,rfl⟩:=Jr.mp he;exact xA b
 ·exact pQ _
theorem tW(s:Dk):NoL (du s):=.tup λd hd=>by
 simp only[Jb,Jp,J5]at hd;rcases hd with rfl|rfl|rfl
 ·refine .tup λe he=>?_;obtain⟨b,_,rfl⟩:=Jr.mp he;exact .str b
 ·exact AV _ _ _
 ·exact .int _
theorem AW(f:Frm):NoL (iS f):=by
 have tm:∀ts:List Tm,NoL (.tup (ts.map cP)):=λts=>.tup λd hd=>by
  obtain⟨t,_,rfl⟩:=Jr.mp hd;refine .tup λe he=>?_;simp only[Jb,Jp,J5]at he;rcases he with rfl|rfl
  ·exact .int _
  ·exact .str _
 cases f with
 |unk x l m=>
  refine .tup λd hd=>?_;simp only[Jb,Jp,J5]at hd;rcases hd with rfl|rfl|rfl
  ·exact .str _
  ·exact .str _
  ·exact vp (l,m)
 |row ts b t=>
  refine .tup λd hd=>?_;simp only[Jb,Jp,J5]at hd;rcases hd with rfl|rfl|rfl|rfl
  ·exact .str _
  ·exact tm ts
  ·exact .int _
  ·exact .bl _
 |worth ts sn=>
  refine .tup λd hd=>?_;simp only[Jb,Jp,J5]at hd;rcases hd with rfl|rfl|rfl
  ·exact .str _
  ·exact tm ts
  ·exact .int _
theorem C1(w:Say):NoL (gb (some w)):=by
 cases w with
 |word v=>
  refine .tup λd hd=>?_;rw[Ji.mp hd];exact .str _
 |frm f=>exact AW f
 |take k=>
  refine .tup λd hd=>?_;simp only[Jb,Jp,J5]at hd;rcases hd with rfl|rfl
  ·exact .str _
  ·exact .int _
 |tri ns=>
  refine .tup λd hd=>?_;simp only[Jb,Jp,J5]at hd;rcases hd with rfl|rfl
  ·exact .str _
  ·exact pQ _
noncomputable def jD:Dk:=⟨[],[],[],[],1⟩
noncomputable def gp(s:Dk)(hs:List Dk):List (Str×Fl):=[("state",.v (du s)),("states",.l (hs.map du))]
noncomputable abbrev dR(s:Dk)(hs:List Dk):Om:=.obj "Desk" (gp s hs)
noncomputable def ua:b9:=λas R _=>∃(a:Option Addr),as=[.ob a (.obj "Desk" [])]/\R (.v .non) [dR jD []]
theorem Hk(F:Fun K "__init__" "Desk.__init__" i4 f fd){Nj:Addr}(Nd:TxtDesk K mg Nj):FnOk P w K mg base aT (n+1) f fd ["self"] (cH K ua):=by
 refine F.okM Hn (λas R Rx h=>?_) (λNk A outer s H E as R Rx qs Np hr h Og=>?_)
 ·obtain⟨a,rfl,_⟩:=h;rfl
 obtain⟨a,rfl,q⟩:=h;obtain⟨pa,rfl⟩:=fW Og
 refine⟨_,(aW (pb 0 Nd.cl Nd.n_state Nd.ns (au (bg (af (bg aq) (af (bg (af (bg aq) (af (bg aq) (af (bg aq) aq dX) dX) dX)) (af ao aq ah) dX) dX))))
   (bw (Dy 0 Nd.cl Nd.n_states Nd.ns (fT (eK aq))))),?_⟩
 refine⟨_,_,rfl,rfl,(by decide),_,rfl,?_⟩;refine⟨_,_,rfl,rfl,(by show 1<1000;decide),gp jD [],rfl,?_⟩;exact⟨_,rfl,q⟩
noncomputable def xa:b9:=λas R _=>∃(a:Option Addr)(s t:Dk)(hs:List Dk),as=[.ob a (dR s hs),.v (du t)]/\hs.length<500/\R (.v .non) [dR t (hs++[s])]
theorem Fp(F:Fun K "step_on" "Desk.step_on" iI f fd){Nj:Addr}(Nd:TxtDesk K mg Nj):FnOk P w K mg base aT (n+1) f fd ["self","state"] (cH K xa):=by
 refine F.okM BC (λas R Rx h=>?_) (λNk A outer s H E as R Rx qs Np hr h Og=>?_)
 ·obtain⟨a,k,t,hs,rfl,_⟩:=h;rfl
 obtain⟨a,k,t,hs,rfl,hl,q⟩:=h;obtain⟨pa,rfl⟩:=fW Og
 refine⟨_,(aW (CA 0 Nd.cl Nd.n_states Nd.ns (hG Nd.cl Nd.n_state Nd.ns (ae 0)) (cw gZ) gZ)
   (bw (pb 0 Nd.cl Nd.n_state Nd.ns (au (dv 1))))),?_⟩
 refine⟨_,_,hs.map du,rfl,rfl,rfl,_,rfl,tW k,cm (by rw[mn];omega),gp k (hs++[k]),(by show _=gp k (hs++[k]);rw[gp,gp,Jz];rfl),?_⟩;refine⟨_,_,rfl,rfl,(by show 2<1000;decide),gp t (hs++[k]),rfl,?_⟩;exact⟨_,rfl,q⟩
noncomputable def w6:b9:=λas R _=>∃(a:Option Addr)(s t:Dk)(hs:List Dk),as=[.ob a (dR s (hs++[t]))]/\R (.v .non) [dR t hs]
theorem DF{α:Type}(f:α->D)(xs:List α)(x:α):((xs++[x]).map f)[((xs++[x]).map f).length-1]?=some (f x)/\((xs++[x]).map f).dropLast=xs.map f:=by rw[Jz];refine⟨?_,List.dropLast_concat⟩;rw[IW,IU (by simp)];simp
theorem D4(F:Fun K "step_back" "Desk.step_back" jb f fd){Nj:Addr}(Nd:TxtDesk K mg Nj)(aV:mg "len"=none):FnOk P w K mg base aT (n+1) f fd ["self"] (cH K w6):=by
 refine F.okM yL (λas R Rx h=>?_) (λNk A outer s H E as R Rx qs Np hr h Og=>?_)
 ·obtain⟨a,k,t,hs,rfl,_⟩:=h;rfl
 obtain⟨a,k,t,hs,rfl,q⟩:=h;obtain⟨pa,rfl⟩:=fW Og
 refine⟨_,(dO (cJ (HW (aI (bM hr.units) (PD.q (bZ cu rfl aV JC (br (PD.q (hG Nd.cl Nd.n_states Nd.ns (ae 0))) bt gZ) gZ ag)) (PD.q ao) (aG _))) (bw mZ) cN)
   (bw (pb 0 Nd.cl Nd.n_state Nd.ns (FQ 0 Nd.cl Nd.n_states Nd.ns)))),?_⟩
 refine⟨λρ=>ρ=[some (.ob (some pa) (dR k (hs++[t])))],?_,?_⟩
 ·refine⟨rfl,_,rfl,λh=>?_,λh=>rfl⟩;have:=gm h;rw[mn,IW,LS]at this;omega
 rintro ρ rfl;obtain⟨e1,e2⟩:=DF du hs t;refine⟨_,_,_,rfl,rfl,_,e1,gp k hs,(by rw[e2];rfl),?_⟩;rfl';refine⟨_,_,rfl,rfl,(by show 2<1000;decide),gp t hs,rfl,?_⟩;exact⟨_,rfl,q⟩
noncomputable def vz:b9:=λas R _=>∃(a:Option Addr)(s:Dk)(hs:List Dk)(x:Str)(w:Say),as=[.ob a (dR s hs),.v (.str x)]/\hs.length<500/\ef x/\x.length<=900/\fj s.ns.length x=some w/\(match w with
 |.frm f=>DkW s/\jE s f/\R (.v (.str "ok")) [dR (gB s f) (hs++[s])]
 |.tri sp=>PlOk s.ns s.bs s.rs s.gl/\(s.sn=1\/s.sn = -1)/\(∀v∈sp,aD v)/\R (.v (.str (fQ s.ns s.bs s.rs s.gl s.sn sp))) [dR s hs]
 |.word v=>v="write"/\PlOk s.ns s.bs s.rs s.gl/\(s.sn=1\/s.sn = -1)/\R (.v (.str (Str.join "\n" ((fe s.ns s.bs s.rs s.gl s.sn).map aX)))) [dR s hs]
 |.take _=>False)
theorem AJ{n:Nat}{x:Str}{sp:List Int}(h:fj n x=some (.tri sp)):sp.length=n:=by
 unfold fj at h;split at h
 ·cases h
 split at h
 ·split at h
  ·cases h
  ·split at h
   ·split at h<;>cases h
   ·split at h
    ·next hl=>cases h;exact hl
    ·cases h
 ·cases hf:iA x with
  |none=>rw[hf]at h;cases h
  |some f=>rw[hf]at h;cases h
noncomputable abbrev SY(pa:Addr)(k:Dk)(hs:List Dk)(x:Str)(F:D):ar:=[some (.ob (some pa) (dR k hs)),some (.v (.str x)),some (.v F)]
theorem yb(f:Frm):∃(h:Str)(r:List D),iS f=.tup (.str h::r)/\(h == "ask")=false/\(h == "try")=false/\(h == "fractions")=false/\(h == "write")=false/\(h == "back")=false:=by
 cases f with
 |unk x l m=>exact⟨_,_,rfl,by decide,by decide,by decide,by decide,by decide⟩
 |row ts b t=>exact⟨_,_,rfl,by decide,by decide,by decide,by decide,by decide⟩
 |worth ts sn=>exact⟨_,_,rfl,by decide,by decide,by decide,by decide,by decide⟩
theorem EO(F:Fun K "say" "Desk.say" iN f fd){Nj:Addr}(Nd:TxtDesk K mg Nj)(IG:Cl P w K mg base n "say_form" ["line","n"] va)(IE:Cl P w K mg base n "tried" ["state","spot"] ui)(ID:Cl P w K mg base n "write_plan" ["names","plan","sense"] wz)(Iz:Cl P w K mg base n "changed" ["state","form"] uG)(N2:MthM P w K mg base n Nj "step_back" ["self"] w6)(Oh:MthM P w K mg base n Nj "step_on" ["self","state"] xa)(aV:mg "len"=none):FnOk P w K mg base aT (n+1) f fd ["self","line"] (cH K vz):=by
 refine F.okM sc_Desk__say (λas R Rx h=>?_) (λNk A outer s H E as R Rx qs Np hr h Og=>?_)
 ·obtain⟨a,k,hs,x,w,rfl,_⟩:=h;rfl
 obtain⟨a,k,hs,x,w,rfl,hl,ha,hx,hw,q⟩:=h;obtain⟨pa,rfl⟩:=fW Og
 refine⟨_,(aW (bI (i:=2) sc_Desk__say.nd rfl U2 (kY (bz IG hr rfl (af (dv 1) (af (bZ cu rfl aV JC (br (PD.q (av (PD.q (hG Nd.cl Nd.n_state Nd.ns (ae 0))))) bt ay) ay ag) aq cy) aa) aa (aN cy ag))))
   (dO (cJ (c9 (aI gA (ae 2) (PD.q bS) (aG _))) (bw mZ) cN)
   (dO (cJ (c9 (aI (bM hr.units) (PD.q (av (ae 2))) (PD.q aC) (aG _))) (bw mZ) cN)
   (dO (cJ (c9 (aI (bM hr.units) (PD.q (av (ae 2))) (PD.q aC) (aG _))) (bw (dW (kY (bz IE hr rfl (af (hG Nd.cl Nd.n_state Nd.ns (ae 0)) (af (av (ae 2)) aq ay) gZ) gZ (aN ay ag))))) cN)
   (dO (cJ (c9 (aI (bM hr.units) (PD.q (av (ae 2))) (PD.q aC) (aG _))) (bw mZ) cN)
   (dO (cJ (c9 (aI (bM hr.units) (PD.q (av (ae 2))) (PD.q aC) (aG _))) (bw (dW (kY (bz ID hr rfl (af (av (PD.q (hG Nd.cl Nd.n_state Nd.ns (ae 0)))) (af (av (PD.q (hG Nd.cl Nd.n_state Nd.ns (ae 0)))) (af (av (PD.q (hG Nd.cl Nd.n_state Nd.ns (ae 0)))) aq ay) ay) ay) ay (aN ay (aN ay ag)))))) cN)
   (dO (cJ (c9 (aI (bM hr.units) (PD.q (av (ae 2))) (PD.q aC) (aG _))) (bw (sx (Fq 0 N2 hr Nd.cl Nd.ns))) (bw (sx (kD 0 Oh hr Nd.cl Nd.ns (aZ (kY (bz Iz hr rfl (af (hG Nd.cl Nd.n_state Nd.ns (ae 0)) (af (dv 2) aq aa) gZ) gZ (aN aa ag))) bp cy) cy ag))))
   (bw (dW (au aC)))))))))),?_⟩
 refine⟨rfl,_,rfl,_,rfl,x,k.ns.length,by rw[mn],ha,hx,?_⟩;rw[hw];refine⟨C1 w,?_⟩;rfl'
 cases w with
 |take j=>exact q.elim
 |frm f=>
  obtain⟨h1,h2,q⟩:=q;obtain⟨hd,rest,e,e1,e2,e3,e4,e5⟩:=yb f;have eF:gb (some (.frm f))=.tup (.str hd::rest):=e;rw[eF];have NX:bJ (D.str hd::rest) 0=some (.str hd):=mm (i:=0) rfl rfl
  have nt:∀{c:Bool}{p:Prop},c=false->c=true->p:=λh1 h2=>by rw[h1]at h2;cases h2
  refine⟨λρ=>ρ=SY pa k hs x (.tup (.str hd::rest)),⟨λh=>(by cases h),λ_=>rfl⟩,?_⟩;rintro ρ rfl;refine⟨λρ=>ρ=SY pa k hs x (.tup (.str hd::rest)),⟨_,NX,λh=>nt e1 h,λ_=>rfl⟩,?_⟩;rintro ρ rfl;refine⟨λρ=>ρ=SY pa k hs x (.tup (.str hd::rest)),⟨_,NX,λh=>nt e2 h,λ_=>rfl⟩,?_⟩;rintro ρ rfl;refine⟨λρ=>ρ=SY pa k hs x (.tup (.str hd::rest)),⟨_,NX,λh=>nt e3 h,λ_=>rfl⟩,?_⟩;rintro ρ rfl;refine⟨λρ=>ρ=SY pa k hs x (.tup (.str hd::rest)),⟨_,NX,λh=>nt e4 h,λ_=>rfl⟩,?_⟩;rintro ρ rfl;refine⟨λρ=>ρ=SY pa (gB k f) (hs++[k]) x (.tup (.str hd::rest)),⟨_,NX,λh=>nt e5 h,λ_=>?_⟩,?_⟩
  ·refine⟨⟨_,_,rfl,rfl⟩,rfl,_,rfl,k,f,by rw[e],h1,h2,tW _,?_⟩;rfl';exact⟨_,rfl,rfl,_,k,gB k f,hs,rfl,hl,rfl⟩
  rintro ρ rfl;exact⟨_,rfl,q⟩
 |tri sp=>
  obtain⟨h1,h2,h3,q⟩:=q;have OF:=AJ hw;refine⟨λρ=>ρ=SY pa k hs x (gb (some (.tri sp))),⟨λh=>(by cases h),λ_=>rfl⟩,?_⟩;rintro ρ rfl;refine⟨λρ=>ρ=SY pa k hs x (gb (some (.tri sp))),⟨_,rfl,λh=>(by cases h),λ_=>rfl⟩,?_⟩;rintro ρ rfl;refine⟨λρ=>False,⟨_,rfl,λ_=>?_,λh=>(by cases h)⟩,λρ h=>h.elim⟩;exact⟨rfl,_,rfl,_,rfl,k.ns,k.bs,k.rs,k.gl,k.sn,sp,rfl,h1,h2,OF,h3,.str _,_,rfl,q⟩
 |word v=>
  obtain⟨rfl,h1,h2,q⟩:=q;refine⟨λρ=>ρ=SY pa k hs x (gb (some (.word "write"))),⟨λh=>(by cases h),λ_=>rfl⟩,?_⟩;rintro ρ rfl;refine⟨λρ=>ρ=SY pa k hs x (gb (some (.word "write"))),⟨_,rfl,λh=>(by cases h),λ_=>rfl⟩,?_⟩;rintro ρ rfl;refine⟨λρ=>ρ=SY pa k hs x (gb (some (.word "write"))),⟨_,rfl,λh=>(by cases h),λ_=>rfl⟩,?_⟩;rintro ρ rfl;refine⟨λρ=>ρ=SY pa k hs x (gb (some (.word "write"))),⟨_,rfl,λh=>(by cases h),λ_=>rfl⟩,?_⟩;rintro ρ rfl;refine⟨λρ=>False,⟨_,rfl,λ_=>?_,λh=>(by cases h)⟩,λρ h=>h.elim⟩;exact⟨rfl,_,rfl,_,rfl,rfl,_,rfl,_,rfl,rfl,_,rfl,_,rfl,k.ns,k.bs,k.rs,k.gl,k.sn,rfl,h1,h2,.str _,_,rfl,q⟩
noncomputable def Pl(n:Nat)(o:Om):Prop:=∃(ns:List Int)(r st c:Int),o=.lst [.fzl (ns.map D.int),.int r,.int st,.int c]/\ns.length<=63/\0<=c/\c<=n
theorem Pl.mono{n m:Nat}{o:Om}(h:Pl n o)(hm:n<=m):Pl m o:=by obtain⟨ns,r,st,c,e,h1,h2,h3⟩:=h;exact⟨ns,r,st,c,e,h1,h2,by omega⟩
noncomputable def xo:b9:=λas R _=>∃(ns:List Int)(k:Int),as=[.v (.fzl (ns.map D.int)),.v (.int k)]/\ns.length<=63/\0<=k/\∀o,Pl 0 o->R (.ob none o) []
theorem Hq(F:Fun K "_law_pool" "_law_pool" ma f fd)(aV:mg "len"=none):FnOk P w K mg base aT (n+1) f fd ["_law_script","_law_at"] (cH K xo):=by
 refine F.okM sc__law_pool (λas R Rx h=>?_) (λNk A outer s H E as R Rx qs Np hr h Og=>?_)
 ·obtain⟨ns,k,rfl,_⟩:=h;rfl
 obtain⟨ns,k,rfl,hl,hk,q⟩:=h;obtain rfl:=qM Og
 refine⟨_,(aW (bI (i:=2) sc__law_pool.nd rfl U2 (au ao))
   (dO (cJ (c9 (PWD.td (kQ (aI iX (ae 1) (PD.q (bZ cu rfl aV JC (br (ae 0) bt aa) aa ag)) (aG _)) (jX (aI nV (PD.q (cY (ae 0) (ae 1) (λ_ _=>rfl))) (PD.q (aS EK (PD.q ao) (PD.q ao))) (aG _)))))) (bw (bI (i:=2) sc__law_pool.nd rfl U2 (au (cY (ae 0) (ae 1) (λ_ _=>rfl))))) cN)
   (bw (dW (fT (eK (af (dv 0) (af (dv 2) (af (aS bB (PD.q ao) (ae 1)) (af ao aq ah) cg) aa) aa))))))),?_⟩
 have hl63:(ns.map D.int).length<=63:=by rw[mn];exact hl
 have fin:∀r:Int,Pl 0 (.lst [.fzl (ns.map D.int),.int r,.int (7+k),.int 0]):=λr=>⟨ns,r,7+k,0,rfl,hl,by omega,by omega⟩;refine⟨λρ=>∃r:Int,ρ=[some (.v (.fzl (ns.map D.int))),some (.v (.int k)),some (.v (.int r))],⟨λh=>?_,λh=>?_⟩,?_⟩
 ·have h:=dP h;obtain⟨v,hv⟩:=wU (ns:=ns) (k:=k) hk (by rw[mn]at h;exact h);exact⟨_,hv,⟨by decide,by decide,by decide⟩,λ_=>⟨_,hv,_,rfl⟩,λ_=>⟨_,rfl⟩⟩
 ·exact⟨λc=>(by cases c),λ_=>⟨_,rfl⟩⟩
 rintro ρ ⟨r,rfl⟩;exact q _ (fin r)
noncomputable def iW:b9:=λas R _=>∃(a:Option Addr)(o:Om)(z:Int)(n:Nat),as=[.ob a o,.v (.int z)]/\Pl n o/\n<2^20/\0<z/\z<2^9000/\∀(x:Int)(o':Om),0<=x->x<z->Pl (n+1) o'->R (.v (.int x)) [o']
theorem An(F:Fun K "_law_next" "_law_next" n0 f fd)(aV:mg "len"=none):FnOk P w K mg base aT (n+1) f fd ["_law_pool_here","_law_size"] (cH K iW):=by
 refine F.okM sc__law_next (λas R Rx h=>?_) (λNk A outer s H E as R Rx qs Np hr h Og=>?_)
 ·obtain⟨a,o,z,n,rfl,_⟩:=h;rfl
 obtain⟨a,o,z,n,rfl,hp,hn,h0,hz,q⟩:=h;obtain⟨pa,rfl⟩:=fW Og
 refine⟨_,(dO (cJ (c9 (aI gY (PD.q (av (ae 0))) (PD.q ao) (aG _))) (aW (bI (i:=2) sc__law_next.nd rfl U2 (au (aS ir (PD.q (av (ae 0))) (ae 1))))
   (aW (wB 0 (au (aS xG (PD.q (av (ae 0))) (ae 1))) (au ao))
   (bw (dW (au (dv 2)))))) cN)
   (aW (Ej 0 Aj (au ao) (au ao))
   (aW (bI (i:=3) sc__law_next.nd rfl U2 (au (av (ae 0))))
   (dO (cJ (c9 (aI gY (PD.q (bZ cu rfl aV JC (br (PD.q (av (ae 0))) bt ay) ay ag)) (PD.q ao) (aG _))) (bw (bI (i:=3) sc__law_next.nd rfl U2 (au (cY (PD.q (av (ae 0))) (PD.q (aS ir (PD.q (av (ae 0))) (PD.q (bZ cu rfl aV JC (br (PD.q (av (ae 0))) bt ay) ay ag)))) (λ_ _=>rfl))))) cN)
   (aW (bI (i:=4) sc__law_next.nd rfl U2 (au (aS bB (PD.q (aS bB (PD.q (aS bB (PD.q (aS bB (PD.q (av (ae 0))) (ae 3))) (PD.q (aS gh (PD.q (aS gh (PD.q ao) (PD.q (av (ae 0))))) (PD.q (av (ae 0))))))) (PD.q (aS gh (PD.q ao) (PD.q (av (ae 0))))))) (PD.q ao))))
   (aW (wB 0 (au (aS ir (PD.q (aS gh (ae 4) (PD.q ao))) (PD.q ao))) (au ao))
   (bw (dW (au (aS ir (PD.q (aS ir (PD.q (aS gh (PD.q (av (ae 0))) (PD.q ao))) (PD.q ao))) (ae 1))))))))))),?_⟩
 obtain⟨ns,r,st,c,rfl,hl,Qn,hcn⟩:=hp;refine⟨λρ=>ρ=[some (.ob (some pa) (.lst [.fzl (ns.map D.int),.int r,.int st,.int c])),some (.v (.int z)),none,none,none],⟨_,rfl,λh=>?_,λ_=>rfl⟩,?_⟩
 ·exact⟨_,rfl,h0,_,rfl,CDivB.of h0 hz,_,rfl,_,rfl,_,rfl,q _ _ (MP _ (by omega)) (Ml _ h0) ⟨ns,_,st,c,rfl,hl,Qn,by omega⟩⟩
 rintro ρ rfl;refine⟨trivial,3,c,rfl,rfl,(by show 3<4;decide),_,rfl,_,rfl,?_⟩;refine⟨λρ=>∃v:Int,ρ=[some (.ob (some pa) (.lst [.fzl (ns.map D.int),.int r,.int st,.int (c+1)])),some (.v (.int z)),none,some (.v (.int v)),none],⟨_,rfl,λh=>?_,λ_=>⟨_,rfl⟩⟩,?_⟩
 ·have h:=dP h
  have hp:(0:Int)<((ns.map D.int).length:Int):=by omega
  obtain⟨v,hv⟩:=wU (ns:=ns) (k:=(c+1) % ((ns.map D.int).length:Int)) (MP _ (by omega)) (by have:=Ml (c+1) hp;rw[mn]at this ⊢;exact this);exact⟨_,rfl,_,rfl,_,rfl,hp,_,hv,_,rfl⟩
 rintro ρ ⟨v,rfl⟩
 have b1:-(2^64)<c+1:=by omega
 have b2:c+1<2^64:=by omega
 refine⟨_,rfl,_,rfl,nL (by decide) (by decide),_,rfl,oN b1 b2,_,rfl,nL (by decide) (by decide),oN (by decide) (by decide),(by decide:(0:Int)<2147483647),_,rfl,_,rfl,_,rfl,oN (by decide) (by decide),(by decide:(0:Int)<1000000007),h0,_,rfl,?_⟩;exact q _ _ (MP _ (by omega)) (Ml _ h0) ⟨ns,r,_,c+1,rfl,hl,by omega,by omega⟩
theorem cB{z:Int}(h:z<2^64):z<2^9000:=by
 have h1:(2:Nat)^64<=2^9000:=Lk (by decide) (by omega)
 have h2:(2:Int)^64<=2^9000:=by exact_mod_cast h1
 omega
open Tx
noncomputable def sS:b9:=λas R _=>∃(a:Option Addr)(o:Om)(n m:Nat),as=[.ob a o,.v (.int (n:Nat))]/\Pl m o/\m+100<2^20/\n<=8/\∀(ns:List Str)(o':Om),ee ns->ns.length=n->Pl (m+3) o'->R (.own (ns.map D.str)) [o']
noncomputable def cA(l:List Nat):Str:=⟨l.toArray⟩
theorem GU(l:List Nat):L (cA l)=l:=rfl
theorem vk(l m:List Nat):cA l++cA m=cA (l++m):=by show (⟨l.toArray++m.toArray⟩:Str)=⟨(l++m).toArray⟩;rw[List.append_toArray]
theorem oU(l:List Nat):(cA l).length=l.length:=rfl
theorem pM{l m:List Nat}(h:cA l=cA m):l=m:=by
 have:L (cA l)=L (cA m):=by rw[h]
 exact this
theorem nm_iff{l:List Nat}:bQ (cA l)=true↔1<=l.length/\l.length<=12/\l.all eY=true:=by unfold bQ;rw[JR,JR,JL,JL,oU,GU,and_assoc]
theorem qL{i:Nat}(h:i<26):eY (97+i)=true:=by unfold eY;simp;omega
noncomputable def noon:List Nat:=[110,111,111,110]
noncomputable def WD:List Str:=["at","to","from","least","most","row","unknown","by","try","ask","write","back","x"]
theorem DV:∀w∈WD,bQ w=true:=by lia
theorem GZ:WD.Nodup:=by lia
noncomputable def cE(way turn at_ n k:Nat):Str:=
 if way=0 then cA (noon.take at_++[97+(turn+k) % 26]++noon.drop at_)
 else if way=1 then cA (List.replicate (k+1) (97+turn))
 else if way=2 then cA (List.replicate (n+2-k) (97+turn))
 else WD.getD ((turn+k) % 13) ""
theorem yf{way turn at_ n k:Nat}(ht:turn<26)(hn:n<=8)(hk:k<n):bQ (cE way turn at_ n k)=true:=by
 unfold cE;split
 ·refine nm_iff.mpr ⟨by simp;omega,?_,?_⟩
  ·have h1:=List.length_take_le at_ noon;have h2:noon.length=4:=rfl;simp only[IW,JA,JY,Je,J8];omega
  ·have hl:noon.all eY=true:=by decide
   rw[MN,MN];have h1:(noon.take at_).all eY=true:=JB.mpr λc hc=>JB.mp hl c (List.mem_of_mem_take hc);have h2:(noon.drop at_).all eY=true:=JB.mpr λc hc=>JB.mp hl c (Lj hc);rw[h1,h2];have:=qL (i:=(turn+k) % 26) (Ly _ (by decide));simpa using this
 ·split
  ·refine nm_iff.mpr ⟨by simp,by rw[JH];omega,?_⟩;rw[List.all_replicate];simp[qL ht]
  ·split
   ·refine nm_iff.mpr ⟨by rw[JH];omega,by rw[JH];omega,?_⟩;rw[List.all_replicate];simp[qL ht]
   ·refine DV _ ?_;have RN:(turn+k) % 13<WD.length:=Ly _ (by decide);rw[JD,Jl RN];exact Le RN
theorem zj{way turn at_ n j k:Nat}(hn:n<=8)(hj:j<n)(hk:k<n)(h:cE way turn at_ n j=cE way turn at_ n k):j=k:=by
 unfold cE at h;split at h
 ·have h:=pM h;rw[Jk,Jk]at h;have h:=List.append_cancel_left h;have h:=(M7 h).1;omega
 ·split at h
  ·have h:=Kl List.length (pM h);rw[JH,JH]at h;omega
  ·split at h
   ·have h:=Kl List.length (pM h);rw[JH,JH]at h;omega
   ·have a1:(turn+j) % 13<WD.length:=Ly _ (by decide);have a2:(turn+k) % 13<WD.length:=Ly _ (by decide)
    have e1:WD[(turn+j) % 13]?=some (WD.getD ((turn+j) % 13) ""):=by rw[JD,Jl a1];rfl
    have e2:WD[(turn+k) % 13]?=some (WD.getD ((turn+k) % 13) ""):=by rw[JD,Jl a2];rfl
    rw[h,←e2]at e1;have:=(KS a1 GZ).mp e1;omega
theorem AL{way turn at_ n:Nat}(ht:turn<26)(hn:n<=8):ee ((List.range n).map (cE way turn at_ n)):=by
 refine⟨?_,by rw[mn,JQ];exact hn,λx hx=>?_⟩
 ·refine List.Pairwise.map (R:=λj k=>j<n/\k<n/\j≠k) _ (λj k h e=>h.2.2 (zj hn h.1 h.2.1 e)) ?_;exact (List.nodup_range (n:=n)).imp_of_mem λ{a b} ha hb h=>⟨J6.mp ha,J6.mp hb,h⟩
 ·obtain⟨k,hk,rfl⟩:=Jr.mp hx;exact yf ht hn (J6.mp hk)
theorem Cw{w:Str}{z:Int}(j:Nat)(h:z=(j:Int)):fJ w none (some z)=cA ((L w).take j):=by
 subst h;unfold fJ;show cA (bN (L w) none (some (j:Int)))=_
 have e:bN (L w) none (some (j:Int))=(L w).take j:=by unfold bN;rw[HT.sIx_nat,HT.sIx_none,Lx,Nat.sub_zero,←List.take_eq_take_min]
 rw[e]
theorem zr{w:Str}{z:Int}(j:Nat)(h:z=(j:Int)):fJ w (some z) none=cA ((L w).drop j):=by
 subst h;unfold fJ;show cA (bN (L w) (some (j:Int)) none)=_
 have e:bN (L w) (some (j:Int)) none=(L w).drop j:=by
  unfold bN;rw[HT.sIx_nat,HT.sIx_none];rcases JI j (L w).length with c|c
  ·rw[MO (by omega),Ke (by rw[JY];omega)]
  ·rw[Nat.min_eq_right c,List.drop_length,List.take_nil,MR c]
 rw[e]
theorem DT:("abcdefghijklmnopqrstuvwxyz":Str).cps.toList=(List.range 26).map (97+·):=by lia
theorem oM{k:Nat}{z:Int}(h:k<26)(e:z=(k:Int)):bJ ("abcdefghijklmnopqrstuvwxyz":Str).cps.toList z=some (97+k):=by rw[DT];exact mm (i:=k) (by rw[Jd,Ma h];rfl) e
theorem oK:L ("noon":Str)=noon:=by decide
theorem zD{F:Nat->Str}(i:Nat):(List.range (i+1)).map F=(List.range i).map F++[F i]:=by rw[L6,Jz];rfl
theorem vR{c k:Nat}{j:Nat}(h:j=k):e6 ⟨#[c]⟩ j=cA (List.replicate k c):=by subst h;unfold e6 cA;simp
noncomputable abbrev N7(pa:Addr)(n:Nat)(o:Om)(w t c:Nat)(ns:List Str)(u7 u8:Option Sm):ar:=[some (.ob (some pa) o),some (.v (.int (n:Nat))),some (.v (.str "abcdefghijklmnopqrstuvwxyz")),some (.v (.int (w:Nat))),some (.v (.int (t:Nat))),some (.v (.int (c:Nat))),some (.own (ns.map D.str)),u7,u8]
theorem HD(F:Fun K "_law_names" "_law_names" mD f fd)(Nf:ClM P w K mg base n "_law_next" ["_law_pool_here","_law_size"] iW)(fF:mg "range"=none):FnOk P w K mg base aT (n+1) f fd ["_law_pool_here","_law_count"] (cH K sS):=by
 refine F.okM sc__law_names (λas R Rx h=>?_) (λNk A outer s H E as R Rx qs Np hr h Og=>?_)
 ·obtain⟨a,o,n,m,rfl,_⟩:=h;rfl
 obtain⟨a,o,n,m,rfl,hp,hm,hn,q⟩:=h;obtain⟨pa,rfl⟩:=fW Og
 refine⟨_,(aW (bI (i:=2) sc__law_names.nd rfl U2 (au aC))
   (aW (bI (i:=3) sc__law_names.nd rfl U2 (bU Nf hr rfl (bV 0 (aZ (au ao) bp ah) aa) aa (aN ah ag)))
   (aW (bI (i:=4) sc__law_names.nd rfl U2 (bU Nf hr rfl (bV 0 (aZ (au ao) bp ah) aa) aa (aN ah ag)))
   (aW (bI (i:=5) sc__law_names.nd rfl U2 (bU Nf hr rfl (bV 0 (aZ (au ao) bp ah) aa) aa (aN ah ag)))
   (aW (bI (i:=6) sc__law_names.nd rfl U2 (fT (eK aq)))
   (aW (iV Kf rfl (jQ (vi rfl fF (af (dv 1) aq aa))) (gE (i:=7) sc__law_names.nd rfl U2) (dO (cJ (c9 (aI (bM hr.units) (ae 3) (PD.q ao) (aG _))) (bw (eS 6 (au (aS bB (PD.q (aS bB (PD.q (jv (PD.q aC) km (iY (ae 5)))) (PD.q (cY (ae 2) (PD.q (aS ir (PD.q (aS bB (ae 4) (ae 7))) (PD.q ao))) (λ_ _=>rfl))))) (PD.q (jv (PD.q aC) (iY (ae 5)) km)))) (cw cg) cg)) cN)
   (dO (cJ (c9 (aI (bM hr.units) (ae 3) (PD.q ao) (aG _))) (bw (eS 6 (au (aS gh (PD.q (cY (ae 2) (ae 4) (λ_ _=>rfl))) (PD.q (aS bB (ae 7) (PD.q ao))))) (cw cg) cg)) cN)
   (dO (cJ (c9 (aI (bM hr.units) (ae 3) (PD.q ao) (aG _))) (bw (eS 6 (au (aS gh (PD.q (cY (ae 2) (ae 4) (λ_ _=>rfl))) (PD.q (aS fR (PD.q (aS bB (ae 1) (PD.q ao))) (ae 7))))) (cw cg) cg)) cN)
   (bw (cJ (c9 (aI (bM hr.units) (ae 3) (PD.q ao) (aG _))) (aW (bI (i:=8) sc__law_names.nd rfl U2 (au (bg (af aC (af aC (af aC (af aC (af aC (af aC (af aC aq ah) ah) ah) ah) ah) ah) ah))))
   (aW (bI (i:=8) sc__law_names.nd rfl U2 (au (aS bB (ae 8) (PD.q (bg (af aC (af aC (af aC (af aC (af aC (af aC aq ah) ah) ah) ah) ah) ah))))))
   (bw (eS 6 (au (cY (ae 8) (PD.q (aS ir (PD.q (aS bB (ae 4) (ae 7))) (PD.q ao))) (λ_ _=>rfl))) (cw ay) ay)))) cN))))))
   (bw (dW (jh 6))))))))),?_⟩
 refine⟨⟨_,_,rfl⟩,_,rfl,rfl,_,_,4,m,rfl,hp,by omega,by decide,cB (by decide),λw' o1 w0 w1 NZ=>?_⟩;rfl';refine⟨⟨_,_,rfl⟩,_,rfl,rfl,_,_,26,_,rfl,NZ,by omega,by decide,cB (by decide),λt' o2 t0 t1 Oz=>?_⟩;rfl';refine⟨⟨_,_,rfl⟩,_,rfl,rfl,_,_,5,_,rfl,Oz,by omega,by decide,cB (by decide),λc' o3 c0 c1 O4=>?_⟩;rfl';obtain⟨w,rfl⟩:=Kp w0;obtain⟨t,rfl⟩:=Kp t0;obtain⟨c,rfl⟩:=Kp c0
 have ht:t<26:=by omega
 have T2:("abcdefghijklmnopqrstuvwxyz":Str).length<=sizeLine:=kK (by decide);have szN:("noon":Str).length<=sizeLine:=kK (by decide);have RO:=Kd;refine⟨⟨by omega,by omega⟩,λi ρ=>∃(u7 u8:Option Sm),ρ=N7 pa n o3 w t c ((List.range i).map (cE w t c n)) u7 u8,⟨_,_,rfl⟩,?_,?_⟩
 ·rintro i d ρ hd ⟨u7,u8,rfl⟩;obtain⟨hi,rfl⟩:=mf hd
  have QX:i<n:=by omega
  rfl'
  have app:∀{y:Str},y=cE w t c n i->((List.range i).map (cE w t c n)).map D.str++[D.str y]=((List.range (i+1)).map (cE w t c n)).map D.str:=λ{y} h=>by rw[zD,Jz,h];rfl
  have len:(((List.range i).map (cE w t c n)).map D.str).length<sizeLine:=by rw[mn,mn,JQ];omega
  have hw4:w=0\/w=1\/w=2\/w=3:=by omega
  rcases hw4 with rfl|rfl|rfl|rfl
  ·refine⟨λρ=>ρ=N7 pa n o3 0 t c ((List.range (i+1)).map (cE 0 t c n)) (some (.v (.int (0+(i:Nat))))) u8,⟨λ_=>?_,λh=>(by cases h)⟩,?_⟩
   ·refine⟨szN,_,Cw c rfl,(by decide:(0:Int)<26),T2,_,oM (k:=(t+i) % 26) (Ly _ (by decide)) (by omega),?_⟩;have n4:noon.length=4:=rfl
    have ltk:(cA ((L ("noon":Str)).take c)).length<=4:=by rw[oU,oK,JA];omega
    have ldr:(cA ((L ("noon":Str)).drop c)).length<=4:=by rw[oU,oK,JY];omega
    refine⟨by show _+1<=sizeLine;omega,szN,_,zr c rfl,?_⟩;refine⟨by rw[fN];show _+1+_<=sizeLine;omega,len,_,app ?_,rfl⟩;rw[oK];show cA (noon.take c)++cA [97+(t+i) % 26]++cA (noon.drop c)=_;rw[vk,vk];rfl
   rintro ρ rfl;refine⟨λρ=>ρ=N7 pa n o3 0 t c ((List.range (i+1)).map (cE 0 t c n)) (some (.v (.int (0+(i:Nat))))) u8,⟨λh=>(by cases h),λ_=>rfl⟩,?_⟩;rintro ρ rfl;refine⟨λρ=>ρ=N7 pa n o3 0 t c ((List.range (i+1)).map (cE 0 t c n)) (some (.v (.int (0+(i:Nat))))) u8,⟨λh=>(by cases h),λ_=>rfl⟩,?_⟩;rintro ρ rfl;exact⟨λh=>(by cases h),λ_=>⟨_,_,rfl⟩⟩
  ·refine⟨λρ=>ρ=N7 pa n o3 1 t c ((List.range i).map (cE 1 t c n)) (some (.v (.int (0+(i:Nat))))) u8,⟨λh=>(by cases h),λ_=>rfl⟩,?_⟩;rintro ρ rfl;refine⟨λρ=>ρ=N7 pa n o3 1 t c ((List.range (i+1)).map (cE 1 t c n)) (some (.v (.int (0+(i:Nat))))) u8,⟨λ_=>?_,λh=>(by cases h)⟩,?_⟩
   ·refine⟨T2,_,oM ht rfl,?_⟩;refine⟨⟨by omega,by omega,by show 1*_<=sizeLine;omega,by show 1<=sizeLine;omega⟩,_,vR (by omega:(0+(i:Int)+1).toNat=i+1),len,_,app rfl,rfl⟩
   rintro ρ rfl;refine⟨λρ=>ρ=N7 pa n o3 1 t c ((List.range (i+1)).map (cE 1 t c n)) (some (.v (.int (0+(i:Nat))))) u8,⟨λh=>(by cases h),λ_=>rfl⟩,?_⟩;rintro ρ rfl;exact⟨λh=>(by cases h),λ_=>⟨_,_,rfl⟩⟩
  ·refine⟨λρ=>ρ=N7 pa n o3 2 t c ((List.range i).map (cE 2 t c n)) (some (.v (.int (0+(i:Nat))))) u8,⟨λh=>(by cases h),λ_=>rfl⟩,?_⟩;rintro ρ rfl;refine⟨λρ=>ρ=N7 pa n o3 2 t c ((List.range i).map (cE 2 t c n)) (some (.v (.int (0+(i:Nat))))) u8,⟨λh=>(by cases h),λ_=>rfl⟩,?_⟩;rintro ρ rfl;refine⟨λρ=>ρ=N7 pa n o3 2 t c ((List.range (i+1)).map (cE 2 t c n)) (some (.v (.int (0+(i:Nat))))) u8,⟨λ_=>?_,λh=>(by cases h)⟩,?_⟩
   ·refine⟨T2,_,oM ht rfl,?_⟩;refine⟨⟨by omega,by omega,by show 1*_<=sizeLine;omega,by show 1<=sizeLine;omega⟩,_,vR (by omega:((n:Int)+2-(0+(i:Int))).toNat=n+2-i),len,_,app rfl,rfl⟩
   rintro ρ rfl;exact⟨λh=>(by cases h),λ_=>⟨_,_,rfl⟩⟩
  ·refine⟨λρ=>ρ=N7 pa n o3 3 t c ((List.range i).map (cE 3 t c n)) (some (.v (.int (0+(i:Nat))))) u8,⟨λh=>(by cases h),λ_=>rfl⟩,?_⟩;rintro ρ rfl;refine⟨λρ=>ρ=N7 pa n o3 3 t c ((List.range i).map (cE 3 t c n)) (some (.v (.int (0+(i:Nat))))) u8,⟨λh=>(by cases h),λ_=>rfl⟩,?_⟩;rintro ρ rfl;refine⟨λρ=>ρ=N7 pa n o3 3 t c ((List.range i).map (cE 3 t c n)) (some (.v (.int (0+(i:Nat))))) u8,⟨λh=>(by cases h),λ_=>rfl⟩,?_⟩;rintro ρ rfl;refine⟨λ_=>?_,λh=>(by cases h)⟩;have RN:(t+i) % 13<WD.length:=Ly _ (by decide);refine⟨by show 7+6<=sizeLine;omega,WD.map D.str,rfl,(by decide:(0:Int)<13),_,jo (i:=(t+i) % 13) (Jl RN) (by omega),len,_,app ?_,_,_,rfl⟩;show _=WD.getD ((t+i) % 13) "";rw[JD,Jl RN];rfl
 rintro ρ ⟨u7,u8,rfl⟩;rw[jG,Kb];exact⟨_,rfl,q _ o3 (AL ht hn) (by rw[mn,JQ]) O4⟩
open Tx
noncomputable def oF:bc:=λds R=>∃(d1 d2:D)(xs ys:List Int),ds=[d1,d2]/\dU d1=some (xs.map D.int)/\dU d2=some (ys.map D.int)/\xs.length<=1000/\(∀x∈xs,aD x)/\R (.int (bA xs ys))
theorem Bj(F:Fun K "_law_times" "_law_times" ko f fd)(jP:mg "sum"=none)(dG:mg "zip"=none):FnOk P w K mg base aT (n+1) f fd ["_law_entries","_law_spot"] (bP K oF):=by
 refine F.okD BN (λds R h=>?_) (λNk A outer s H E ds R hr h=>?_)
 ·obtain⟨d1,d2,xs,ys,rfl,_⟩:=h;rfl
 obtain⟨d1,d2,xs,ys,rfl,h1,h2,hl,hx,q⟩:=h;refine⟨_,(aP (aY (bZ (xf rfl) rfl jP M1 (br (PD.q (PF.d (fV (k:=2) (N':=["_law_entry","_law_number"]) (cap:=[none,none]) rfl (.ok (show eB ["_law_entries","_law_spot"] (aE ko) _ ["_law_entry","_law_number"] [none,none]=true by lia)) (by lia) (l7 (n:=2) (gT (dM (by decide)) (gT (dM (by decide)) nJ))) (lZ rfl dG (af (dv 0) (af (dv 1) aq aa) aa)) (λ_ _ _ _ _=>(hR (n:=2) rfl (dr (bY (i:=0) (show List.Nodup (["_law_entry","_law_number"]:List Str)by lia) rfl U2) (dr (bY (i:=1) (show List.Nodup (["_law_entry","_law_number"]:List Str)by lia) rfl U2) hV)))) (λ_ _ _ _ _=>(aS gh (ae 0) (ae 1)))))) bt dN) dN ag))),?_⟩;refine⟨_,_,h1,h2,?_⟩;refine rn (λx y=>D.int (x*y)) (cm hl) (λx Ru y Ph=>⟨rfl,sD (hx x Ru),rfl⟩) ?_;exact⟨List.zipWith (λx y=>x*y) xs ys,by rw[LP];rfl,q⟩
noncomputable def sf:b9:=λas R _=>∃(a:Option Addr)(o:Om)(sp:List Int)(m:Nat),as=[.ob a o,.v (.lst (sp.map D.int))]/\Pl m o/\m+100<2^20/\sp.length<=8/\(∀x∈sp,x.natAbs<=200)/\∀(ys:List Int)(o':Om),ys.length=sp.length->(∀y∈ys,aD y)->Pl (m+16) o'->R (.own (ys.map D.int)) [o']
theorem gN{α:Type}{P:α->Prop}{xs:List α}{x:α}(h:∀y∈xs,P y)(hx:P x):∀y∈xs++[x],P y:=λy hy=>by
 rcases Jv.mp hy with hy|hy
 ·exact h y hy
 ·rw[Ji.mp hy];exact hx
noncomputable abbrev OT(pa:Addr)(o:Om)(sp ys:List Int)(u3 u4:Option Sm):ar:=[some (.ob (some pa) o),some (.v (.lst (sp.map D.int))),some (.own (ys.map D.int)),u3,u4]
theorem DC(F:Fun K "_law_other" "_law_other" mE f fd)(Nf:ClM P w K mg base n "_law_next" ["_law_pool_here","_law_size"] iW):FnOk P w K mg base aT (n+1) f fd ["_law_pool_here","_law_spot"] (cH K sf):=by
 refine F.okM sc__law_other (λas R Rx h=>?_) (λNk A outer s H E as R Rx qs Np hr h Og=>?_)
 ·obtain⟨a,o,sp,m,rfl,_⟩:=h;rfl
 obtain⟨a,o,sp,m,rfl,hp,hm,hl,hx,q⟩:=h;obtain⟨pa,rfl⟩:=fW Og
 refine⟨_,(aW (bI (i:=2) sc__law_other.nd rfl U2 (fT (eK aq)))
   (aW (iV Kf rfl (jQ (fw (dv 1))) (gE (i:=3) sc__law_other.nd rfl U2) (aW (bI (i:=4) sc__law_other.nd rfl U2 (bU Nf hr rfl (bV 0 (aZ (au ao) bp ah) aa) aa (aN ah ag)))
   (dO (cJ (c9 (aI (bM hr.units) (ae 4) (PD.q ao) (aG _))) (bw (bI (i:=3) sc__law_other.nd rfl U2 (gG fR (gG bB (au (dv 3)) (bU Nf hr rfl (bV 0 (aZ (au ao) bp ah) aa) aa (aN ah ag))) (au ao)))) cN)
   (dO (cJ (c9 (aI (bM hr.units) (ae 4) (PD.q ao) (aG _))) (bw (bI (i:=3) sc__law_other.nd rfl U2 (gG fR (bU Nf hr rfl (bV 0 (aZ (au ao) bp ah) aa) aa (aN ah ag)) (au ao)))) cN)
   (bw (eS 2 (au (dv 3)) (cw aa) aa))))))
   (bw (dW (jh 2))))),?_⟩
 refine⟨λi ρ=>∃(ys:List Int)(o':Om)(u3 u4:Option Sm),ρ=OT pa o' sp ys u3 u4/\ys.length=i/\(∀y∈ys,aD y)/\Pl (m+2*i) o',⟨[],o,_,_,rfl,rfl,λy h=>(by cases h),hp⟩,?_,?_⟩
 ·rintro i d ρ hd ⟨ys,o1,u3,u4,rfl,PU,hy,NZ⟩;obtain⟨v,rfl,hv⟩:=eI hd;have hi:=aU hv;have hv2:=hx v (Jn hv);rfl';refine⟨⟨_,_,rfl⟩,_,rfl,rfl,_,_,4,_,rfl,NZ,by omega,by decide,cB (by decide),λw o2 w0 w1 Oz=>?_⟩;rfl';refine⟨λρ=>∃(z:Int)(o':Om)(b:Nat),ρ=OT pa o' sp ys (some (.v (.int z))) (some (.v (.int w)))/\z.natAbs<=300/\Pl (m+2*i+b) o'/\b<=2/\(w=3->b<=1),⟨λh=>?_,λh=>⟨v,o2,1,rfl,by omega,Oz,by omega,λ_=>by omega⟩⟩,?_⟩
  ·have h:=gm h;refine⟨⟨_,_,rfl⟩,_,rfl,rfl,_,_,7,_,rfl,Oz,by omega,by decide,cB (by decide),λy o3 y0 y1 O4=>?_⟩;rfl';exact⟨v+y-3,o3,2,rfl,by omega,O4,by omega,λh3=>by omega⟩
  rintro ρ ⟨z,o3,b,rfl,hz,O4,hb,hb3⟩;refine⟨λρ=>∃(z:Int)(o':Om),ρ=OT pa o' sp ys (some (.v (.int z))) (some (.v (.int w)))/\aD z/\Pl (m+2*i+2) o',⟨λh=>?_,λh=>⟨z,o3,rfl,by unfold aD;omega,O4.mono (by omega)⟩⟩,?_⟩
  ·have h:=gm h;have hb1:=hb3 h;refine⟨⟨_,_,rfl⟩,_,rfl,rfl,_,_,19999,_,rfl,O4,by omega,by decide,cB (by decide),λy o4 y0 y1 O5=>?_⟩;rfl';exact⟨y-9999,o4,rfl,by unfold aD;omega,O5.mono (by omega)⟩
  rintro ρ ⟨z,o4,rfl,hz,O5⟩;exact⟨by rw[mn];exact cm (by omega),_,jZ D.int ys z,_,o4,_,_,rfl,by rw[IW,PU];rfl,gN hy hz,O5⟩
 rintro ρ ⟨ys,o1,u3,u4,rfl,PU,hy,NZ⟩;rw[mn]at PU NZ;exact⟨_,rfl,q ys o1 PU hy (NZ.mono (by omega))⟩
open Tx
noncomputable def fS(r:Rw):D:=.tup [.lst (r.1.map D.int),.int r.2]
noncomputable def rX:bc:=λds R=>∃(ns:List Str)(bs:List bj)(rs:List Rw)(gl sp:List Int),ds=[.lst (ns.map D.str),.lst (bs.map dw),.lst (rs.map fS),.lst (gl.map D.int),.lst (sp.map D.int)]/\PlOk ns bs rs gl/\sp.length=ns.length/\(∀x∈sp,aD x)/\R (.str (fQ ns bs rs gl 1 sp))
theorem dm{x y:Str}{a b:Nat}(h1:x.length<=a)(h2:y.length<=b)(h:a+b<=100000:=by decide):x.length+y.length<=sizeLine:=by have:=Kd;omega
noncomputable abbrev DU(ns:List Str)(bs:List bj)(rs:List Rw)(gl sp:List Int)(u5 u6 u7 u8:Option Sl):bC:=[some (.v (.lst (ns.map D.str))),some (.v (.lst (bs.map dw))),some (.v (.lst (rs.map fS))),some (.v (.lst (gl.map D.int))),some (.v (.lst (sp.map D.int))),u5,u6,u7,u8]
theorem xX(F:Fun K "_law_due" "_law_due" mY f fd)(kS:Cl P w K mg base n "_law_times" ["_law_entries","_law_spot"] oF)(dG:mg "zip"=none)(fF:mg "range"=none)(aV:mg "len"=none)(dq:mg "str"=none):FnOk P w K mg base aT (n+1) f fd ["_law_names_here","_law_bounds","_law_rows","_law_entries","_law_spot"] (bP K rX):=by
 refine F.okD sc__law_due (λds R h=>?_) (λNk A outer s H E ds R hr h=>?_)
 ·obtain⟨ns,bs,rs,gl,sp,rfl,_⟩:=h;rfl
 obtain⟨ns,bs,rs,gl,sp,rfl,hp,hl,hx,q⟩:=h
 refine⟨_,(bD (jj Kf rfl (xn rfl dG (af (dv 0) (af (dv 1) (af (dv 4) aq aa) aa) aa)) (hR (n:=3) rfl (dr (bY (i:=5) sc__law_due.nd rfl U2) (dr (bY (i:=6) sc__law_due.nd rfl U2) (dr (bY (i:=7) sc__law_due.nd rfl U2) hV)))) (aP (bF (PWD.td (eW (aI iX (ae 7) (PD.q (av (ae 6))) (aG _)) (fP (PWD.td (kQ (aI oY (PD.q (av (ae 6))) (PD.q bS) (aG _)) (jX (aI gY (ae 7) (PD.q (av (ae 6))) (aG _)))))))) (aP (aY (aS bB (PD.q aC) (ae 5)))) bH)))
   (bD (jj Kf rfl (vi rfl fF (af (bZ cu rfl aV JC (br (ae 2) bt aa) aa ag) aq cy)) (bY (i:=8) sc__law_due.nd rfl U2) (aP (bF (aI iX (PD.q (bz kS hr rfl (af (av (PD.q (cY (ae 2) (ae 8) (λ_ _=>rfl)))) (af (dv 4) aq aa) ay) ay (aN aa ag))) (PD.q (av (PD.q (cY (ae 2) (ae 8) (λ_ _=>rfl))))) (aG _)) (aP (aY (aS bB (PD.q aC) (PD.q (eu gS rfl dq Ki (br (ae 8) bt aa) aa ag))))) bH)))
   (aP (aY (aS bB (PD.q aC) (PD.q (eu gS rfl dq Ki (br (PD.q (bz kS hr rfl (af (dv 3) (af (dv 4) aq aa) aa) aa (aN aa ag))) bt cy) cy ag))))))),?_⟩
 have n8:=hp.nm.2.1;have Pd:=hp.bl;have Pb:=hp.rl;refine⟨_,_,_,rfl,rfl,rfl,?_⟩;refine⟨λi ρ=>(∀j,j<i->gC bs sp j=false)/\∃u5 u6 u7:Option Sl,ρ=DU ns bs rs gl sp u5 u6 u7 none,⟨λj h=>absurd h (by omega),_,_,_,rfl⟩,?_,?_⟩
 ·rintro i d ρ hd ⟨ho,u5,u6,u7,rfl⟩;obtain⟨x',b',v',h1,h3,h2,rfl⟩:=oq hd;obtain⟨x,rfl,Pa⟩:=eI h1;obtain⟨v,rfl,Q0⟩:=eI h2;obtain⟨⟨l,mo⟩,rfl,QE⟩:=eI h3;have hi:=aU Pa;have x6:=fK (hp.nm.2.2 x (Jn Pa))
  have eo:gC bs sp i=dH (l,mo) v:=by unfold gC;rw[gu QE,gu Q0]
  have good:dH (l,mo) v=false->∀j,j<i+1->gC bs sp j=false:=λh j hj=>by
   by_cases c:j=i
   ·rw[c,eo];exact h
   ·exact ho j (by omega)
  have bad:dH (l,mo) v=true->R (.str ("misses unknown "++x)):=λh=>by
   unfold fQ at q;rw[ny hi (by rw[eo];exact h) ho]at q;have:ns.getD i ""=x:=gu Pa;rw[←this];exact q
  have c1:("misses unknown ":Str).length<=15:=by decide
  have yes:dH (l,mo) v=true->(("misses unknown ":Str).length+x.length<=sizeLine/\R (.str ("misses unknown "++x))):=λh=>⟨dm c1 x6,bad h⟩;refine⟨rfl,?_⟩;refine⟨_,rfl,λh=>⟨λ_=>?_,λh=>(by cases h)⟩,λh=>?_⟩
  ·exact yes (by unfold dH;rw[K6];exact .inl h)
  cases mo with
  |none=>
   refine⟨_,rfl,λh2=>(by cases h2),λ_=>⟨λh=>(by cases h),λ_=>⟨good ?_,_,_,_,rfl⟩⟩⟩;unfold dH;show (decide (v<l) ||false)=false;rw[M5];exact h
  |some k=>
   refine⟨_,rfl,λ_=>⟨_,rfl,λh2=>?_,λh2=>?_⟩,λh2=>(by cases h2)⟩
   ·exact yes (by unfold dH;show (decide (v<l) ||decide (k<v))=true;rw[K6];exact .inr h2)
   ·refine⟨good ?_,_,_,_,rfl⟩;unfold dH;show (decide (v<l) ||decide (k<v))=false;rw[Bool.or_eq_false_iff];exact⟨h,h2⟩
 rintro ρ ⟨ho,u5,u6,u7,rfl⟩;rw[mi,mn,mn,mn,hl,Pd,MF,MF]at ho;unfold fQ at q;rw[lU ho]at q;refine⟨⟨by rw[mn];omega,by rw[mn];omega⟩,λi ρ=>(∀j,j<i->i7 rs sp j=false)/\∃u8:Option Sl,ρ=DU ns bs rs gl sp u5 u6 u7 u8,⟨λj h=>absurd h (by omega),_,rfl⟩,?_,?_⟩
 ·rintro i d ρ hd ⟨hm,u8,rfl⟩;obtain⟨hi,rfl⟩:=mf hd;rw[mn,Kb]at hi;obtain⟨r,Nq⟩:∃r,rs[i]?=some r:=⟨_,Jl hi⟩;obtain⟨r1,r2,r3⟩:=hp.ro r (Jn Nq)
  have em:i7 rs sp i=decide (bA r.1 sp<r.2):=by unfold i7;rw[gu Nq]
  have NX:bJ (rs.map fS) (0+(i:Int))=some (fS r):=jo (i:=i) Nq (Int.zero_add _)
  have c1:("misses row ":Str).length<=15:=by decide
  have RL:aD ((i:Nat):Int):=by unfold aD;omega
  have i6:=cT RL;have e0:(0+(i:Int))=(i:Int):=Int.zero_add _;rw[e0]at NX ⊢;refine⟨_,NX,_,rfl,_,_,r.1,sp,rfl,rfl,rfl,by omega,r2,_,NX,_,rfl,λh=>?_,λh=>?_⟩
  ·have h1:=Ju h;rw[ny hi (by rw[em];exact JP h1) hm]at q;exact⟨_,rfl,big RL,dm c1 i6,q⟩
  ·have h1:=J1 h;refine⟨λj hj=>?_,_,rfl⟩;by_cases c:j=i
   ·rw[c,em];exact Jo h1
   ·exact hm j (by omega)
 rintro ρ ⟨hm,u8,rfl⟩;rw[jG,mn,Kb]at hm;rw[lU hm]at q
 have T1:gl.length<=8:=by rw[hp.gn];exact n8
 have hd:=rE hp.go hx;have hd2:gl.length*100000000<=8*100000000:=L7 _ T1
 have c1:("meets ":Str).length<=15:=by decide
 have hw:(bA gl sp).natAbs<10^12:=by omega
 have hb:(bA gl sp).natAbs<2^1900:=Jw (show (bA gl sp).natAbs<2^40 by omega) (Lk (by decide) (by decide));rw[Int.one_mul]at q;exact⟨_,_,gl,sp,rfl,rfl,rfl,by omega,hp.go,_,rfl,hb,dm c1 (uz hw),q⟩
open Tx
noncomputable abbrev Pn:=Nat×Int
noncomputable def PnOk(n:Nat)(ts:List Pn):Prop:=(ts.map (·.1)).Nodup/\∀t∈ts,t.1<n/\aD t.2
theorem wN{α:Type}[DecidableEq α]:∀{xs ys:List α},xs.Nodup->(∀x∈xs,x∈ys)->xs.length<=ys.length
 | [],_,_,_=>KJ _
 |x::xs,ys,h,hs=>by
  rw[Jy]at h;have:=wN (ys:=ys.erase x) h.2 λy hy=>(List.mem_erase_of_ne λe=>h.1 (by rw[←e];exact hy)).mpr (hs y (IY _ hy));have hm:=hs x IZ;rw[List.length_erase_of_mem hm]at this;have hp:=List.length_pos_of_mem hm;rw[Je];omega
noncomputable def bK(ns:List Str)(ts:List Pn):List Tm:=ts.map λt=>(t.2,ns.getD t.1 "")
theorem PnOk.len{n:Nat}{ts:List Pn}(h:PnOk n ts):ts.length<=n:=by
 have:=wN (ys:=List.range n) h.1 λx hx=>by obtain⟨t,ht,rfl⟩:=Jr.mp hx;exact J6.mpr (h.2 t ht).1
 rw[JQ,mn]at this;exact this
theorem nj{ns:List Str}{p:Nat}(h:p<ns.length):ns[p]?=some (ns.getD p ""):=by rw[JD,Jl h];rfl
theorem jN{ns:List Str}{ts:List Pn}(hn:ee ns)(ht:PnOk ns.length ts):(∀t∈bK ns ts,hJ t)/\nT ns (bK ns ts)/\(bK ns ts).length<=8:=by
 have mem:∀t∈bK ns ts,t.2∈ns:=λt h=>by obtain⟨p,hp,rfl⟩:=Jr.mp h;exact Jn (nj (ht.2 p hp).1)
 refine⟨λt h=>⟨?_,hn.2.2 _ (mem t h)⟩,⟨mem,?_⟩,?_⟩
 ·obtain⟨p,hp,rfl⟩:=Jr.mp h;exact (ht.2 p hp).2
 ·unfold bK;rw[Kg]
  have key:∀l:List Pn,(l.map (·.1)).Nodup->(∀t∈l,t.1<ns.length)->(l.map λt=>ns.getD t.1 "").Nodup:=by
   intro l
   induction l with
   |nil=>intro _ _;exact MW
   |cons t l ih=>
    intro h1 h2;rw[Jq,Jy]at h1 ⊢;refine⟨λhm=>h1.1 ?_,ih h1.2 λx hx=>h2 x (IY _ hx)⟩;obtain⟨x,hx,e⟩:=Jr.mp hm;have e1:=nj (h2 x (IY _ hx));have e2:=nj (h2 t IZ);rw[e,←e2]at e1;have:=(KS (h2 x (IY _ hx)) hn.1).mp e1;rw[←this];exact List.mem_map_of_mem hx
  exact key ts ht.1 λt h=>(ht.2 t h).1
 ·unfold bK;rw[mn];exact JE ht.len hn.2.1
noncomputable def eD(l:List Pn)(j:Nat):Int:=match l.find? (λt=>decide (t.1=j))with|some t=>t.2|none=>0
theorem qk{l:List Pn}{t:Pn}(h:(l.map (·.1)).Nodup)(ht:t∈l):eD l t.1=t.2:=by
 unfold eD
 cases e:l.find? (λu=>decide (u.1=t.1))with
 |none=>
  have:=Lv.mp e t ht;simp at this
 |some u=>
  have h1:u.1=t.1:=Ju (List.find?_some (p:=λu:Pn=>decide (u.1=t.1)) e);obtain⟨i,hi⟩:=Kv (List.mem_of_find?_eq_some e);obtain⟨j,hj⟩:=Kv ht
  have g1:(l.map (·.1))[i]?=some u.1:=by rw[Jd,hi];rfl
  have g2:(l.map (·.1))[j]?=some t.1:=by rw[Jd,hj];rfl
  rw[←h1]at g2;have:=(KS (aU g1) h).mp (g1.trans g2.symm);subst this;rw[hi]at hj;cases hj;rfl
theorem pG{l:List Pn}{j:Nat}(h:j∉l.map (·.1)):eD l j=0:=by
 unfold eD;have e:l.find? (λu=>decide (u.1=j))=none:=Lv.mpr λu hu hc=>h (by rw[←Ju hc];exact List.mem_map_of_mem hu);rw[e]
theorem vY{l m:List Pn}(hp:List.Perm l m)(h:(l.map (·.1)).Nodup)(j:Nat):eD l j=eD m j:=by
 have hm:(m.map (·.1)).Nodup:=(hp.map _).nodup_iff.mp h;by_cases c:j∈l.map (·.1)
 ·obtain⟨t,ht,rfl⟩:=Jr.mp c;rw[qk h ht,qk hm (hp.mem_iff.mp ht)]
 ·rw[pG c,pG λz=>c ((hp.map _).mem_iff.mpr z)]
theorem wa{ns:List Str}(hn:ns.Nodup){i:Nat}{x:Str}(hx:ns[i]?=some x):∀{ts:List Pn},(∀t∈ts,t.1<ns.length)->look (bK ns ts) x=eD ts i
 | [],_=>rfl
 |t::ts,h=>by
  have ih:=wa hn hx (ts:=ts) λt ht=>h t (IY _ ht);have e1:=nj (h t IZ)
  have iff:ns.getD t.1 ""=x↔t.1=i:=by
   constructor
   ·intro e;rw[e]at e1;exact (KS (h t IZ) hn).mp (e1.trans hx.symm)
   ·intro e;rw[e,hx]at e1;rw[e];exact (JV e1).symm
  unfold look eD at ih ⊢;show (match ((t.2,ns.getD t.1 "")::bK ns ts).find? (λt=>decide (t.2=x))with|some t=>t.1|none=>0)=_;by_cases c:t.1=i
  ·rw[MS (p:=λt:Tm=>decide (t.2=x)) (JP (iff.mpr c)),MS (p:=λt:Pn=>decide (t.1=i)) (JP c)]
  ·rw[LI (p:=λt:Tm=>decide (t.2=x)) (by simpa using λz=>c (iff.mp z)),LI (p:=λt:Pn=>decide (t.1=i)) (by simpa using c)];exact ih
theorem wV{ns:List Str}{ts:List Pn}(hn:ns.Nodup)(ht:∀t∈ts,t.1<ns.length):bT ns (bK ns ts)=(List.range ns.length).map (eD ts):=by
 unfold bT;refine Kc λi=>?_;rw[Jd,Jd]
 cases hx:ns[i]? with
 |none=>
  have:=Km.mp hx;rw[J2 (by rw[JQ];exact this)];rfl
 |some x=>
  rw[Ma (aU hx)];show some _=some _;rw[wa hn hx ht]
theorem yt{α:Type}(l:List α)(k:Nat)(x:α):List.Perm (l.take k++x::l.drop k) (x::l):=by have:=List.perm_middle (a:=x) (l₁:=l.take k) (l₂:=l.drop k);rw[List.take_append_drop]at this;exact this
theorem PnOk.ins{i k:Nat}{ts:List Pn}{e:Int}(h:PnOk i ts)(he:aD e):PnOk (i+1) (ts.take k++(i,e)::ts.drop k)/\(List.range (i+1)).map (eD (ts.take k++(i,e)::ts.drop k))=(List.range i).map (eD ts)++[e]:=by
 have hp:=yt ts k (i,e)
 have N6:i∉ts.map (·.1):=λz=>by
  obtain⟨t,ht,e1⟩:=Jr.mp z;have:=(h.2 t ht).1;omega
 have nd:(((i,e)::ts).map (·.1)).Nodup:=Jy.mpr ⟨N6,h.1⟩;have Pt:((ts.take k++(i,e)::ts.drop k).map (·.1)).Nodup:=(hp.map _).nodup_iff.mpr nd;refine⟨⟨Pt,λt ht=>?_⟩,?_⟩
 ·rcases Jb.mp (hp.mem_iff.mp ht)with rfl|ht
  ·exact⟨by show i<i+1;omega,he⟩
  ·have:=h.2 t ht;exact⟨by omega,this.2⟩
 ·rw[L6,Jz];congr 1
  ·refine K2 λj hj=>?_;have hj:=J6.mp hj;rw[vY hp Pt];unfold eD;rw[LI (by simp;omega)]
  ·show [_]=[e];rw[vY hp Pt,qk (t:=(i,e)) nd IZ]
theorem PnOk.out{i:Nat}{ts:List Pn}(h:PnOk i ts):PnOk (i+1) ts/\(List.range (i+1)).map (eD ts)=(List.range i).map (eD ts)++[0]:=by
 refine⟨⟨h.1,λt ht=>⟨by have:=(h.2 t ht).1;omega,(h.2 t ht).2⟩⟩,?_⟩;rw[L6,Jz];show _++[_]=_
 rw[pG λz=>by
  obtain⟨t,ht,e1⟩:=Jr.mp z;have:=(h.2 t ht).1
  omega]
open Tx
noncomputable abbrev cS(ns:List Str)(bs:List bj):List Frm:=List.zipWith (λx (b:bj)=>Frm.unk x b.1 b.2) ns bs
theorem EU{ns:List Str}{bs:List bj}{x:Str}{b:bj}(h:ns.length=bs.length):cS (ns++[x]) (bs++[b])=cS ns bs++[Frm.unk x b.1 b.2]:=by unfold cS;rw[List.zipWith_append h];rfl
theorem oX(W:List Frm)(f:Frm){w:Str}(h:w=aX f):(W.map aX).map D.str++[D.str w]=((W++[f]).map aX).map D.str:=by rw[h,Jz,Jz];rfl
theorem eE{x y:Str}{a b:Nat}(h1:x.length<=a)(h2:y.length<=b):(x++y).length<=a+b:=by rw[fN];omega
noncomputable def lu(n:Nat)(bs:List bj):Prop:=bs.length=n/\∀b∈bs,aD b.1/\∀k,b.2=some k->aD k
noncomputable def vC:b9:=λas R _=>∃(a:Option Addr)(o:Om)(ns:List Str)(m:Nat),as=[.ob a o,.v (.lst (ns.map D.str))]/\Pl m o/\m+200<2^20/\ee ns/\∀(sp:List Int)(bs:List bj)(o':Om)(q1 q2 q3:Addr),sp.length=ns.length->(∀x∈sp,x.natAbs<=200)->lu ns.length bs->Pl (m+60) o'->R (.ob none (.tl [(q1,some (sp.map D.int)),(q2,some (((cS ns bs).map aX).map D.str)),(q3,some (bs.map dw))])) [o']
noncomputable abbrev BT(pa:Addr)(o:Om)(ns:List Str)(sp:List Int)(fs:List Frm)(bs:List bj)(u5 u6 u7 u8:Option Sm):ar:=[some (.ob (some pa) o),some (.v (.lst (ns.map D.str))),some (.own (sp.map D.int)),some (.own ((fs.map aX).map D.str)),some (.own (bs.map dw)),u5,u6,u7,u8]
theorem n6{x:Int}{d e:D}(h0:0<=x)(h1:x<2):(x=0/\bJ [d,e] x=some d)\/(x=1/\bJ [d,e] x=some e):=by
 obtain rfl|rfl:x=0\/x=1:=by omega
 ·exact .inl ⟨rfl,rfl⟩
 ·exact .inr ⟨rfl,rfl⟩
theorem qf{x a b c d lo hi:Int}(h0:0<=x)(h1:x<4)(hb:∀z∈[a,b,c,d],lo<=z/\z<=hi):∃y,bJ [D.int a,.int b,.int c,.int d] x=some (.int y)/\lo<=y/\y<=hi:=by
 obtain rfl|rfl|rfl|rfl:x=0\/x=1\/x=2\/x=3:=by omega
 ·exact⟨a,rfl,hb a (by simp)⟩
 ·exact⟨b,rfl,hb b (by simp)⟩
 ·exact⟨c,rfl,hb c (by simp)⟩
 ·exact⟨d,rfl,hb d (by simp)⟩
theorem HI(F:Fun K "_law_built" "_law_built" lz f fd)(Nf:ClM P w K mg base n "_law_next" ["_law_pool_here","_law_size"] iW)(fE:mg "int"=none)(dq:mg "str"=none)(aV:mg "len"=none):FnOk P w K mg base aT (n+1) f fd ["_law_pool_here","_law_names_here"] (cH K vC):=by
 refine F.okM sc__law_built (λas R Rx h=>?_) (λNk A outer s H E as R Rx qs Np hr h Og=>?_)
 ·obtain⟨a,o,ns,m,rfl,_⟩:=h;rfl
 obtain⟨a,o,ns,m,rfl,hp,hm,hn,q⟩:=h;obtain⟨pa,rfl⟩:=fW Og
 refine⟨_,(aW (bI (i:=2) sc__law_built.nd rfl U2 (fT (eK aq)))
   (aW (bI (i:=3) sc__law_built.nd rfl U2 (fT (eK aq)))
   (aW (bI (i:=4) sc__law_built.nd rfl U2 (fT (eK aq)))
   (aW (iV Kf rfl (jQ (fw (dv 1))) (gE (i:=5) sc__law_built.nd rfl U2) (aW (bI (i:=6) sc__law_built.nd rfl U2 (bU Nf hr rfl (bV 0 (aZ (ic (au (bg (af ao (af ao aq ah) ah))) (bU Nf hr rfl (bV 0 (aZ (au ao) bp ah) aa) aa (aN ah ag)) (λ_ _=>rfl)) bp ay) aa) aa (aN ay ag)))
   (aW (bI (i:=6) sc__law_built.nd rfl U2 (ic (au (bg (af (dv 6) (af (ei (ae 6)) aq nG) aa))) (bU Nf hr rfl (bV 0 (aZ (au ao) bp ah) aa) aa (aN ah ag)) (λ_ _=>rfl)))
   (aW (bI (i:=7) sc__law_built.nd rfl U2 (gG bB (gG fR (au (dv 6)) (ic (au (bg (af ao (af ao (af ao (af ao aq ah) ah) ah) ah))) (bU Nf hr rfl (bV 0 (aZ (au ao) bp ah) aa) aa (aN ah ag)) (λ_ _=>rfl))) (rp rH rfl fE Lc (aZ (lH (bM hr.units) (bU Nf hr rfl (bV 0 (aZ (au ao) bp ah) aa) aa (aN ah ag)) (au ao) (aG _)) bp iQ) iQ ag)))
   (aW (bI (i:=8) sc__law_built.nd rfl U2 (ic (qA (aZ (gG bB (au (dv 6)) (ic (au (bg (af ao (af ao (af ao (af (ei (PD.q ao)) aq nG) ah) ah) ah))) (bU Nf hr rfl (bV 0 (aZ (au ao) bp ah) aa) aa (aN ah ag)) (λ_ _=>rfl))) (aZ (au bS) bp ah) cg)) (bU Nf hr rfl (bV 0 (aZ (au ao) bp ah) aa) aa (aN ah ag)) (λ_ _=>rfl)))
   (aW (eS 2 (au (dv 6)) (cw aa) aa)
   (aW (eS 4 (au (bg (af (dv 7) (af (dv 8) aq aa) aa))) (cw dX) dX)
   (aW (eS 3 (au (aS bB (PD.q (aS bB (PD.q (aS bB (PD.q aC) (ae 5))) (PD.q aC))) (PD.q (eu gS rfl dq Ki (br (ae 7) bt aa) aa ag)))) (cw cg) cg)
   (bw (cJ (c9 (aI oY (ae 8) (PD.q bS) (aG _))) (bw (Ha 3 (au (aS fR (PD.q (bZ cu rfl aV JC (br (ae 3) bt aa) aa ag)) (PD.q ao))) (au (aS bB (PD.q aC) (PD.q (eu gS rfl dq Ki (br (ae 8) bt aa) aa ag)))))) cN))))))))))
   (bw (dW (G3 (aZ (jh 2) (aZ (jh 3) (aZ (jh 4) bp aa) aa) aa)))))))),?_⟩
 have n8:=hn.2.1;refine⟨λi ρ=>∃(sp:List Int)(bs:List bj)(o':Om)(u5 u6 u7 u8:Option Sm),ρ=BT pa o' ns sp (cS (ns.take i) bs) bs u5 u6 u7 u8/\sp.length=i/\(∀x∈sp,x.natAbs<=200)/\lu i bs/\Pl (m+7*i) o',⟨[],[],o,_,_,_,_,rfl,rfl,λx h=>(by cases h),⟨rfl,λb h=>by cases h⟩,hp⟩,?_,?_⟩
 ·rintro i d ρ hd ⟨sp,bs,o1,u5,u6,u7,u8,rfl,OF,PV,⟨Pd,hb⟩,NZ⟩;obtain⟨x,rfl,hx⟩:=eI hd;have hi:=aU hx;have x6:=fK (hn.2.2 x (Jn hx))
  have c1:("unknown ":Str).length<=8:=by decide
  have c2:(" from ":Str).length<=6:=by decide
  have c3:(" to ":Str).length<=4:=by decide
  rfl';refine⟨⟨_,_,rfl⟩,⟨_,_,rfl⟩,_,rfl,rfl,_,_,2,_,rfl,NZ,by omega,by decide,cB (by decide),λx1 o2 a0 a1 Oz=>?_⟩;rfl'
  obtain⟨z,hz,z0,z9⟩:∃z:Int,bJ [D.int 7,.int 199] x1=some (.int z)/\0<z/\z<=199:=by
   rcases n6 (d:=.int 7) (e:=.int 199) a0 a1 with⟨_,h⟩|⟨_,h⟩
   ·exact⟨7,h,by decide,by decide⟩
   ·exact⟨199,h,by decide,by decide⟩
  refine⟨_,hz,_,rfl,rfl,_,_,z,_,rfl,Oz,by omega,z0,cB (by omega),λx2 o3 b0 b1 O4=>?_⟩;rfl';refine⟨⟨_,_,rfl⟩,_,rfl,rfl,_,_,2,_,rfl,O4,by omega,by decide,cB (by decide),λx3 o4 d0 d1 O5=>?_⟩;rfl'
  obtain⟨v,hv,v9⟩:∃v:Int,bJ [D.int x2,.int (-x2)] x3=some (.int v)/\v.natAbs<=198:=by
   rcases n6 (d:=.int x2) (e:=.int (-x2)) d0 d1 with⟨_,h⟩|⟨_,h⟩
   ·exact⟨_,h,by omega⟩
   ·exact⟨_,h,by omega⟩
  refine⟨_,hv,?_⟩;rfl';refine⟨⟨_,_,rfl⟩,_,rfl,rfl,_,_,4,_,rfl,O5,by omega,by decide,cB (by decide),λx4 o5 e0 e1 Pk=>?_⟩;rfl';obtain⟨y4,hy4,q4,q4'⟩:=qf (a:=0) (b:=0) (c:=1) (d:=5) (lo:=0) (hi:=5) e0 e1 (by decide);refine⟨_,hy4,?_⟩;rfl';refine⟨⟨_,_,rfl⟩,_,rfl,rfl,_,_,9,_,rfl,Pk,by omega,by decide,cB (by decide),λx5 o6 f0 f1 RP=>?_⟩;rfl';obtain⟨l,hl,l9⟩:∃l:Int,v-y4+(if x5==0 then 1 else 0)=l/\l.natAbs<=300:=⟨_,rfl,by split<;>omega⟩;refine⟨⟨_,_,rfl⟩,_,rfl,rfl,_,_,4,_,rfl,RP,by omega,by decide,cB (by decide),λx6' o7 g0 g1 T3=>?_⟩;rfl';simp only[hl];obtain⟨y6,hy6,q6,q6'⟩:=qf (a:=0) (b:=1) (c:=5) (d:=-1) (lo:=-1) (hi:=5) g0 g1 (by decide);refine⟨_,hy6,?_⟩;rfl';refine⟨⟨_,_,rfl⟩,_,rfl,rfl,_,_,2,_,rfl,T3,by omega,by decide,cB (by decide),λx7 o8 h0 h1 T4=>?_⟩;rfl'
  obtain⟨mo,hmo,m9⟩:∃mo:Option Int,bJ [D.int (v+y6),.non] x7=some (ip mo)/\∀k,mo=some k->aD k:=by
   rcases n6 (d:=.int (v+y6)) (e:=.non) h0 h1 with⟨_,h⟩|⟨_,h⟩
   ·exact⟨some _,h,λk e=>by cases e;unfold aD;omega⟩
   ·exact⟨none,h,λk e=>by cases e⟩
  refine⟨_,hmo,?_⟩;rfl'
  have T5:aD l:=by unfold aD;omega
  have l6:=cT T5
  have wl:(cS (ns.take i) bs).length=i:=by rw[K3,JA];omega
  have szw:∀f,(((cS (ns.take i) bs++[f]).map aX).map D.str).length<=1000:=λf=>by rw[mn,mn,IW,wl];show i+1<=1000;omega
  refine⟨by rw[mn];exact cm (by omega),_,jZ D.int sp v,?_⟩;rfl';refine⟨by rw[mn];exact cm (by omega),_,jZ dw bs (l,mo),?_⟩;rfl'
  have t0:(("unknown ":Str)++x++" from ")++nstr l=aX (.unk x l none):=by rw[←qX];simp only[JZ]
  refine⟨dm c1 x6,dm (eE c1 x6) c2,_,rfl,big T5,dm (eE (eE c1 x6) c2) l6,by rw[mn,mn];exact cm (by omega),_,oX _ (Frm.unk x l none) t0,?_⟩;rfl'
  have fin:∀W,W=cS (ns.take i) bs++[Frm.unk x l mo]->∃(QQ:List Int)(T6:List bj)(o':Om)(u5 u6 u7 u8:Option Sm),BT pa o8 ns (sp++[v]) W (bs++[(l,mo)]) (some (.v (.str x))) (some (.v (.int v))) (some (.v (.int l))) (some (.v (ip mo)))=BT pa o' ns QQ (cS (ns.take (i+1)) T6) T6 u5 u6 u7 u8/\QQ.length=i+1/\(∀x∈QQ,x.natAbs<=200)/\lu (i+1) T6/\Pl (m+7*(i+1)) o':=λW hW=>by
   have e:W=cS (ns.take (i+1)) (bs++[(l,mo)]):=by rw[hW,ie hx,EU (by rw[JA,Pd];omega)]
   subst e;exact⟨sp++[v],bs++[(l,mo)],o8,_,_,_,_,rfl,by rw[IW,OF];rfl,gN PV (by omega),⟨by rw[IW,Pd];rfl,gN hb ⟨T5,m9⟩⟩,T4⟩
  cases mo with
  |none=>exact⟨λh=>(by cases h),λ_=>fin _ rfl⟩
  |some k=>
   refine⟨λ_=>?_,λh=>(by cases h)⟩;have k4:=m9 k rfl;have k6:=cT k4
   have ll:(aX (.unk x l none)).length<=100:=by rw[←t0];exact JE (eE (eE (eE c1 x6) c2) l6) (by decide)
   have wat:∀f,((cS (ns.take i) bs++[f]).map aX).length=i+1:=λf=>by rw[mn,IW,wl];rfl
   refine⟨trivial,i,aX (.unk x l none),by rw[mn,wat];omega,?_,?_⟩
   ·rw[Jd,Jd,IU (by omega),wl,JG];rfl
   refine⟨_,rfl,big k4,dm c3 k6,dm ll (eE c3 k6),by rw[mn,wat];omega,((cS (ns.take i) bs++[Frm.unk x l (some k)]).map aX).map D.str,?_,fin _ rfl⟩;rw[Jz,Jz,MX _ _ (by rw[mn,mn,wl];omega),mn,mn,wl,JG,Jz,Jz];show _++[D.str _]=_++[D.str _];rw[←xb,←qX];simp only[JZ]
 rintro ρ ⟨sp,bs,o1,u5,u6,u7,u8,rfl,OF,PV,hB,NZ⟩;rw[mn]at OF hB NZ;rw[mn,Kt];exact⟨_,_,_,rfl,λq1 q2 q3=>⟨_,rfl,q sp bs o1 q1 q2 q3 OF PV hB (NZ.mono (by omega))⟩⟩
open Tx
noncomputable def iz(ns:List Str)(t:Pn):Str:=cQ (t.2,ns.getD t.1 "")
theorem v8(ns:List Str)(ts:List Pn):(bK ns ts).map cQ=ts.map (iz ns):=by unfold bK;rw[Kg];rfl
noncomputable abbrev bx(n:Nat)(ts:List Pn):List Int:=(List.range n).map (eD ts)
noncomputable def qG:b9:=λas R _=>∃(a:Option Addr)(o:Om)(ns:List Str)(m:Nat),as=[.ob a o,.v (.lst (ns.map D.str))]/\Pl m o/\m+100<2^20/\ee ns/\∀(ts:List Pn)(o':Om),PnOk ns.length ts->(∀e∈bx ns.length ts,e.natAbs<=6)->Pl (m+40) o'->R (.ob none (.pr ((bx ns.length ts).map D.int) (.str (cx (bK ns ts))))) [o']
noncomputable abbrev SS(pa:Addr)(o:Om)(ns:List Str)(es:List Int)(ts:List Pn)(u4:Option Sm):ar:=[some (.ob (some pa) o),some (.v (.lst (ns.map D.str))),some (.own (es.map D.int)),some (.own ((ts.map (iz ns)).map D.str)),u4]
theorem Am(F:Fun K "_law_small_sum" "_law_small_sum" la f fd)(Nf:ClM P w K mg base n "_law_next" ["_law_pool_here","_law_size"] iW)(aV:mg "len"=none)(fE:mg "int"=none)(dq:mg "str"=none):FnOk P w K mg base aT (n+1) f fd ["_law_pool_here","_law_names_here"] (cH K qG):=by
 refine F.okM sc__law_small_sum (λas R Rx h=>?_) (λNk A outer s H E as R Rx qs Np hr h Og=>?_)
 ·obtain⟨a,o,ns,m,rfl,_⟩:=h;rfl
 obtain⟨a,o,ns,m,rfl,hp,hm,hn,q⟩:=h;obtain⟨pa,rfl⟩:=fW Og
 refine⟨_,(aW (bI (i:=2) sc__law_small_sum.nd rfl U2 (fT (eK aq)))
   (aW (bI (i:=3) sc__law_small_sum.nd rfl U2 (fT (eK aq)))
   (aW (iV Kf rfl (jQ (fw (dv 1))) (gE (i:=4) sc__law_small_sum.nd rfl U2) (aW (eS 2 (ic (qA (aZ (au ao) (aZ (gG fR (bU Nf hr rfl (bV 0 (aZ (au ao) bp ah) aa) aa (aN ah ag)) (au ao)) bp cg) ah)) (rp rH rfl fE Lc (aZ (lH gY (bU Nf hr rfl (bV 0 (aZ (au ao) bp ah) aa) aa (aN ah ag)) (au ao) (aG _)) bp iQ) iQ ag) (λ_ _=>rfl)) (cw ay) ay)
   (bw (cJ (PXW.toB (DA (c9 (aI (fU hr.units) (PD.q (cY (ae 2) (PD.q (aS fR (PD.q (bZ cu rfl aV JC (br (ae 2) bt aa) aa ag)) (PD.q ao))) (λ_ _=>rfl))) (PD.q ao) (aG _))) (HA (qz (bM hr.units) (bU Nf hr rfl (bV 0 (aZ (au ao) bp ah) aa) aa (aN ah ag)) (au ao) (aG _))))) (bw (Dp 3 (bU Nf hr rfl (bV 0 (aZ (au (aS bB (PD.q (bZ cu rfl aV JC (br (ae 3) bt aa) aa ag)) (PD.q ao))) bp cg) aa) aa (aN cg ag)) (au (aS bB (PD.q (aS bB (PD.q (eu gS rfl dq Ki (br (PD.q (cY (ae 2) (PD.q (aS fR (PD.q (bZ cu rfl aV JC (br (ae 2) bt aa) aa ag)) (PD.q ao))) (λ_ _=>rfl))) bt ay) ay ag)) (PD.q aC))) (ae 4))) (ES cy cg) cy cg (aN cg ag))) cN))))
   (dO (cJ (c9 (aI (bM hr.units) (PD.q (bZ cu rfl aV JC (br (ae 3) bt aa) aa ag)) (PD.q ao) (aG _))) (bw (eS 3 (au aC) (cw ah) ah)) cN)
   (ft 3 (bw (dW (Fu (aZ (jh 2) (aZ (au (kU (PD.q aC) (dv 3) (cw aa) aa)) bp cy) aa))))))))),?_⟩
 have n8:=hn.2.1;refine⟨λi ρ=>∃(ts:List Pn)(o':Om)(u4:Option Sm),ρ=SS pa o' ns (bx i ts) ts u4/\PnOk i ts/\(∀e∈bx i ts,e.natAbs<=6)/\Pl (m+4*i) o',⟨[],o,_,rfl,⟨MW,λt h=>by cases h⟩,λe h=>(by cases h),hp⟩,?_,?_⟩
 ·rintro i d ρ hd ⟨ts,o1,u4,rfl,Pf,OR,NZ⟩;obtain⟨x,rfl,hx⟩:=eI hd;have hi:=aU hx;have x6:=fK (hn.2.2 x (Jn hx));rfl';refine⟨⟨_,_,rfl⟩,_,rfl,rfl,_,_,13,_,rfl,NZ,by omega,by decide,cB (by decide),λx1 o2 a0 a1 Oz=>?_⟩;rfl';refine⟨⟨_,_,rfl⟩,_,rfl,rfl,_,_,4,_,rfl,Oz,by omega,by decide,cB (by decide),λx2 o3 b0 b1 O4=>?_⟩;rfl'
  obtain⟨e,he,e9⟩:∃e:Int,bJ [D.int 0,.int (x1-6)] (if decide (0<x2) then 1 else 0)=some (.int e)/\e.natAbs<=6:=by
   by_cases c:0<x2
   ·exact⟨x1-6,by rw[JP c];rfl,by omega⟩
   ·exact⟨0,by rw[Jo c];rfl,by decide⟩
  have el:((bx i ts).map D.int).length=i:=by rw[mn,mn,JQ]
  refine⟨_,he,by rw[el];exact cm (by omega),_,jZ D.int _ e,?_⟩;rfl';have tl:=Pf.len;have NX:bJ ((bx i ts++[e]).map D.int) ((((bx i ts++[e]).map D.int).length:Int)-1)=some (.int e):=jo (i:=i) (by rw[IU (by rw[mn,JQ];omega),mn,JQ,JG];rfl) (by rw[mn,IW,mn,JQ];show ((i+1:Nat):Int)-1=_;omega);have xg:ns.getD i ""=x:=gu hx
  have cs:(" ":Str).length<=1:=by decide
  have e4:aD e:=by unfold aD;omega
  have a6:=cT e4
  have tm:(nstr e++" ")++x=iz ns (i,e):=by show _=cQ (e,ns.getD i "");rw[xg];unfold cQ;rw[JZ]
  have Sv:((ts.map (iz ns)).map D.str).length=ts.length:=by rw[mn,mn]
  have fin:∀(k:Nat)(o5:Om),Pl (m+4*i+4) o5->∃(Sw:List Pn)(o':Om)(u4:Option Sm),SS pa o5 ns (bx i ts++[e]) (ts.take k++(i,e)::ts.drop k) (some (.v (.str x)))=SS pa o' ns (bx (i+1) Sw) Sw u4/\PnOk (i+1) Sw/\(∀e∈bx (i+1) Sw,e.natAbs<=6)/\Pl (m+4*(i+1)) o':=λk o5 Pk=>by obtain⟨k1,k2⟩:=Pf.ins (k:=k) e4;exact⟨_,o5,_,by rw[←k2],k1,λz hz=>gN OR e9 z (by rw[←k2];exact hz),Pk⟩
  have tk:∀k:Nat,((ts.map (iz ns)).map D.str).take k++D.str ((nstr e++" ")++x)::((ts.map (iz ns)).map D.str).drop k=((ts.take k++(i,e)::ts.drop k).map (iz ns)).map D.str:=λk=>by rw[tm];simp only[Jz,Jq,M6,List.map_drop]
  refine⟨_,NX,?_⟩;refine⟨λh=>⟨λ_=>?_,λh=>(by cases h)⟩,λh=>?_⟩
  ·refine⟨⟨_,_,rfl⟩,_,rfl,rfl,_,_,_,_,rfl,O4.mono (Nat.le_succ _),by omega,by omega,cB (by rw[Sv];omega),λx4 o5 d0 d1 Pk=>?_⟩;rfl';obtain⟨k,rfl⟩:=Kp d0;refine⟨_,NX,_,rfl,big e4,dm a6 cs,dm (eE a6 cs) x6,k,rfl,by omega,by rw[Sv];exact cm (by omega),_,tk k,fin k o5 Pk⟩
  ·have e0:e=0:=by have h:(!(e==0))=false:=h;simpa using h
   refine⟨⟨_,_,rfl⟩,_,rfl,rfl,_,_,5,_,rfl,O4,by omega,by decide,cB (by decide),λx3 o4 c0 c1 O5=>?_⟩;rfl';refine⟨λ_=>?_,λ_=>?_⟩
   ·refine⟨⟨_,_,rfl⟩,_,rfl,rfl,_,_,_,_,rfl,O5,by omega,by omega,cB (by rw[Sv];omega),λx4 o5 d0 d1 Pk=>?_⟩;rfl';obtain⟨k,rfl⟩:=Kp d0;refine⟨_,NX,_,rfl,big e4,dm a6 cs,dm (eE a6 cs) x6,k,rfl,by omega,by rw[Sv];exact cm (by omega),_,tk k,fin k o5 Pk⟩
   ·obtain⟨k1,k2⟩:=Pf.out;subst e0;rw[←k2];exact⟨ts,o4,_,rfl,k1,λz hz=>gN OR e9 z (by rw[←k2];exact hz),O5.mono (by omega)⟩
 rintro ρ ⟨ts,o1,u4,rfl,Pf,OR,NZ⟩;rw[mn]at Pf OR NZ;rw[mn];have tl:=Pf.len;obtain⟨k1,k2,k3⟩:=jN hn Pf;refine⟨λρ=>∃zs:List Str,ρ=[some (.ob (some pa) o1),some (.v (.lst (ns.map D.str))),some (.own ((bx ns.length ts).map D.int)),some (.own (zs.map D.str)),u4]/\zs.length<=8/\(∀z∈zs,z.length<=18)/\Txt.join " + " zs=cx (bK ns ts),⟨λh=>?_,λh=>?_⟩,?_⟩
 ·have h:=gm h;rw[mn,mn]at h;have e:ts=[]:=Ko.mp (by omega);subst e;exact⟨cm (KJ _),[D.str "0"],rfl,["0"],rfl,by decide,by decide,rfl⟩
 ·have N4:ts≠[]:=λz=>by rw[z]at h;exact tf h
  have Qz:bK ns ts≠[]:=λz=>N4 (List.map_eq_nil_iff.mp z);refine⟨ts.map (iz ns),rfl,by rw[mn];omega,λz hz=>?_,?_⟩
  ·rw[←v8]at hz;obtain⟨t,h,rfl⟩:=Jr.mp hz;have h1:=cT (k1 t h).1;have h2:=fK (k1 t h).2
   have c:(" ":Str).length=1:=by decide
   unfold cQ;rw[fN,fN,c];omega
  ·rw[←v8];exact (KZ _ _).trans (lR Qz)
 rintro ρ ⟨zs,rfl,z8,z18,hz⟩;refine⟨_,rfl,zs,rfl,lP 18 z18 ?_,?_⟩
 ·have c:(" + ":Str).length=3:=by decide
  rw[c];omega
 rw[hz];exact⟨_,_,rfl,_,rfl,q ts o1 Pf OR (NZ.mono (by omega))⟩
theorem rY{A B:Nat}:∀{xs ys:List Int},(∀x∈xs,x.natAbs<=A)->(∀y∈ys,y.natAbs<=B)->(bA xs ys).natAbs<=xs.length*(A*B)
 | [],_,_,_=>by simp[bA]
 |_::_,[],_,_=>by simp[bA]
 |x::xs,y::ys,h1,h2=>by
  have ih:=rY (xs:=xs) (ys:=ys) (λz hz=>h1 z (IY _ hz)) λz hz=>h2 z (IY _ hz)
  have hm:(x*y).natAbs<=A*B:=by rw[Int.natAbs_mul];exact Nat.mul_le_mul (h1 x IZ) (h2 y IZ)
  have e:bA (x::xs) (y::ys)=x*y+bA xs ys:=by simp[bA]
  rw[e,Je,Mx];omega
theorem v5{ns:List Str}{ts:List Pn}(hn:ee ns)(ht:PnOk ns.length ts):(cx (bK ns ts)).length<=400:=by
 obtain⟨k1,k2,k3⟩:=jN hn ht;have h1:=nP (bK ns ts);have:=kr (s:=" ") (ws:=aL (bK ns ts)) (B:=12) (nC k1)
 have c:(" ":Str).length=1:=by decide
 rw[c]at this;unfold cx;omega
noncomputable def uT:b9:=λas R _=>∃(a:Option Addr)(o:Om)(ns:List Str)(sp:List Int)(m:Nat),as=[.ob a o,.v (.lst (ns.map D.str)),.v (.lst (sp.map D.int))]/\Pl m o/\m+100<2^20/\ee ns/\sp.length=ns.length/\(∀x∈sp,x.natAbs<=200)/\∀(ts:List Pn)(b:Int)(t:Bool)(o':Om),PnOk ns.length ts->(∀e∈bx ns.length ts,e.natAbs<=6)->b.natAbs<=9900->Pl (m+50) o'->R (.v (.tup [.str (aX (.row (bK ns ts) b t)),fS (if t then ix (bx ns.length ts,b) else (bx ns.length ts,b))])) [o']
theorem ze(F:Fun K "_law_near_row" "_law_near_row" kF f fd)(Nt:ClM P w K mg base n "_law_small_sum" ["_law_pool_here","_law_names_here"] qG)(Nf:ClM P w K mg base n "_law_next" ["_law_pool_here","_law_size"] iW)(kS:Cl P w K mg base n "_law_times" ["_law_entries","_law_spot"] oF)(fE:mg "int"=none)(dq:mg "str"=none):FnOk P w K mg base aT (n+1) f fd ["_law_pool_here","_law_names_here","_law_spot"] (cH K uT):=by
 refine F.okM sc__law_near_row (λas R Rx h=>?_) (λNk A outer s H E as R Rx qs Np hr h Og=>?_)
 ·obtain⟨a,o,ns,sp,m,rfl,_⟩:=h;rfl
 obtain⟨a,o,ns,sp,m,rfl,hp,hm,hn,OF,PV,q⟩:=h;obtain⟨pa,rfl⟩:=fW Og
 refine⟨_,(aW (xk 3 4 rfl sc__law_near_row.nd rfl rfl U2 U2 (bU Nt hr rfl (bV 0 (aZ (au (dv 1)) bp aa) aa) aa (aN aa ag)))
   (aW (bI (i:=5) sc__law_near_row.nd rfl U2 (gG fR (ic (au (bg (af ao (af ao (af ao (af ao aq ah) ah) ah) ah))) (bU Nf hr rfl (bV 0 (aZ (au ao) bp ah) aa) aa (aN ah ag)) (λ_ _=>rfl)) (rp rH rfl fE Lc (aZ (lH (bM hr.units) (bU Nf hr rfl (bV 0 (aZ (au ao) bp ah) aa) aa (aN ah ag)) (au ao) (aG _)) bp iQ) iQ ag)))
   (dO (cJ (qz (bM hr.units) (bU Nf hr rfl (bV 0 (aZ (au ao) bp ah) aa) aa (aN ah ag)) (au ao) (aG _)) (ft 3 (aW (bI (i:=6) sc__law_near_row.nd rfl U2 (au (aS fR (PD.q (bz kS hr rfl (af (dv 3) (af (dv 2) aq aa) aa) aa (aN aa ag))) (ae 5))))
   (ft 3 (bw (dW (au (bg (af (aS bB (PD.q (aS bB (PD.q (aS bB (PD.q aC) (ae 4))) (PD.q aC))) (PD.q (eu gS rfl dq Ki (br (ae 6) bt aa) aa ag))) (af (bg (af (dv 3) (af (dv 6) aq aa) aa)) aq dX) cg)))))))) cN)
   (ft 3 (aW (bI (i:=6) sc__law_near_row.nd rfl U2 (au (aS bB (PD.q (bz kS hr rfl (af (dv 3) (af (dv 2) aq aa) aa) aa (aN aa ag))) (ae 5))))
   (ft 3 (bw (dW (au (bg (af (aS bB (PD.q (aS bB (PD.q (aS bB (PD.q aC) (ae 4))) (PD.q aC))) (PD.q (eu gS rfl dq Ki (br (ae 6) bt aa) aa ag))) (af (bg (af (PF.d (fV (k:=1) (N':=["_law_entry"]) (cap:=[none]) rfl (.ok (show eB ["_law_pool_here","_law_names_here","_law_spot","_law_entries","_law_text","_law_slack","_law_bound"] (aE kF) _ ["_law_entry"] [none]=true by lia)) (by lia) (dM (by decide)) (fw (dv 3)) (λ_ _ _ _ _=>(bY (i:=0) (show List.Nodup (["_law_entry"]:List Str)by lia) rfl U2)) (λ_ _ _ _ _=>(ei (ae 0))))) (af (ei (ae 6)) aq nG) dN)) aq dX) cg))))))))))),?_⟩
 have n8:=hn.2.1;rfl';refine⟨⟨_,_,rfl⟩,_,rfl,rfl,_,_,ns,m,rfl,hp,by omega,hn,λts o1 Pf OR NZ=>?_⟩;refine⟨_,_,rfl,?_⟩;rfl';refine⟨⟨_,_,rfl⟩,_,rfl,rfl,_,_,4,_,rfl,NZ,by omega,by decide,cB (by decide),λx1 o2 a0 a1 Oz=>?_⟩;rfl';obtain⟨y1,hy1,q1,TM⟩:=qf (a:=0) (b:=0) (c:=1) (d:=4) (lo:=0) (hi:=4) a0 a1 (by decide);refine⟨_,hy1,?_⟩;rfl';refine⟨⟨_,_,rfl⟩,_,rfl,rfl,_,_,9,_,rfl,Oz,by omega,by decide,cB (by decide),λx2 o3 b0 b1 O4=>?_⟩;rfl';obtain⟨l,hl,l9⟩:∃l:Int,y1-(if x2==0 then 1 else 0)=l/\l.natAbs<=5:=⟨_,rfl,by split<;>omega⟩
 have el:(bx ns.length ts).length=ns.length:=by rw[mn,JQ]
 have eb:∀e∈bx ns.length ts,aD e:=λe h=>by have:=OR e h;unfold aD;omega
 have db:=rY (A:=6) (B:=200) OR PV;rw[el]at db;have db2:ns.length*(6*200)<=8*1200:=L7 _ n8;have sl:=v5 hn Pf
 have c1:("row ":Str).length<=4:=by decide
 have c2:(" at least ":Str).length<=10:=by decide
 have c3:(" at most ":Str).length<=10:=by decide
 refine⟨λρ=>∃o':Om,ρ=[some (.ob (some pa) o'),some (.v (.lst (ns.map D.str))),some (.v (.lst (sp.map D.int))),some (.own ((bx ns.length ts).map D.int)),some (.v (.str (cx (bK ns ts)))),some (.v (.int l)),none]/\Pl (m+50) o',?_,?_⟩
 ·refine⟨⟨_,_,rfl⟩,_,rfl,rfl,_,_,2,_,rfl,O4,by omega,by decide,cB (by decide),λx3 o4 d0 d1 O5=>?_⟩;rfl';simp only[hl];refine⟨λ_=>?_,λ_=>⟨o4,rfl,O5.mono (by omega)⟩⟩
  have b4:aD (bA (bx ns.length ts) sp-l):=by unfold aD;omega
  have b6:=cT b4;refine⟨_,_,_,_,rfl,rfl,rfl,by omega,eb,?_⟩;rfl';refine⟨dm c1 sl,dm (eE c1 sl) c2,_,rfl,big b4,dm (eE (eE c1 sl) c2) b6,?_⟩
  have e:((("row ":Str)++cx (bK ns ts))++" at least ")++nstr (bA (bx ns.length ts) sp-l)=aX (.row (bK ns ts) (bA (bx ns.length ts) sp-l) false):=by rw[←vB];simp only[JZ]
  rw[e];exact⟨_,rfl,q ts _ false o4 Pf OR (by omega) (O5.mono (by omega))⟩
 rintro ρ ⟨o4,rfl,O5⟩
 have b4:aD (bA (bx ns.length ts) sp+l):=by unfold aD;omega
 have b6:=cT b4;refine⟨_,_,_,_,rfl,rfl,rfl,by omega,eb,?_⟩;rfl';refine⟨dm c1 sl,dm (eE c1 sl) c3,_,rfl,big b4,dm (eE (eE c1 sl) c3) b6,?_⟩
 have e:((("row ":Str)++cx (bK ns ts))++" at most ")++nstr (bA (bx ns.length ts) sp+l)=aX (.row (bK ns ts) (bA (bx ns.length ts) sp+l) true):=by rw[←ya];simp only[JZ]
 rw[e];refine pE (f:=D.int) (λx=>-x) (cm (by omega)) (λx _=>rfl) ?_;exact⟨_,rfl,q ts _ true o4 Pf OR (by omega) O5⟩
open Tx
noncomputable abbrev R3:=List Pn×Int×Bool
noncomputable def ik(ns:List Str)(r:R3):Frm:=.row (bK ns r.1) r.2.1 r.2.2
noncomputable def cC(n:Nat)(r:R3):Rw:=if r.2.2 then ix (bx n r.1,r.2.1) else (bx n r.1,r.2.1)
noncomputable def eC(ns:List Str)(bs:List bj)(rs:List R3):List Frm:=cS ns bs++rs.map (ik ns)
noncomputable def sg(t:Bool):Int:=if t then -1 else 1
noncomputable def dY(ns:List Str)(bs:List bj)(rs:List R3)(wt:List Pn)(t:Bool):List Frm:=eC ns bs rs++[.worth (bK ns wt) (sg t)]
structure TA(ns:List Str)(bs:List bj)(rs:List R3)(wt:List Pn):Prop where
 nm:ee ns
 bo:lu ns.length bs
 rl:rs.length<=12
 ro:∀r∈rs,PnOk ns.length r.1/\aD r.2.1
 wo:PnOk ns.length wt
theorem Aa(i:Nat):(List.replicate i (0:Int))++[0]=List.replicate (i+1) 0:=by rw[←List.replicate_succ']
noncomputable def fM(fs:List Frm):Dk:=fs.foldl gB jD
theorem mK(fs:List Frm)(f:Frm):fM (fs++[f])=gB (fM fs) f:=by unfold fM;rw[List.foldl_append];rfl
theorem oy{ns:List Str}{bs:List bj}(hl:bs.length=ns.length):∀i,i<=ns.length->fM ((cS ns bs).take i)=⟨ns.take i,bs.take i,[],List.replicate i 0,1⟩
 |0,_=>rfl
 |i+1,h=>by
  have ih:=oy hl i (by omega)
  have h1:(cS ns bs)[i]?=some (Frm.unk ns[i] bs[i].1 bs[i].2):=by rw[KI,Jl (by omega),Jl (by omega)]
  rw[ie h1,mK,ih,ie (Jl (by omega:i<ns.length)),ie (Jl (by omega:i<bs.length)),←Aa];rfl
theorem qd{ns:List Str}{bs:List bj}(hl:bs.length=ns.length):(cS ns bs).length=ns.length:=by rw[K3];omega
theorem qS{ns:List Str}{bs:List bj}{rs:List R3}(hn:ee ns)(hl:bs.length=ns.length)(hr:∀r∈rs,PnOk ns.length r.1):∀j,j<=rs.length->fM (cS ns bs++(rs.map (ik ns)).take j)=⟨ns,bs,(rs.take j).map (cC ns.length),List.replicate ns.length 0,1⟩
 |0,_=>by have:=oy hl ns.length (Jc _);rw[Ke (by rw[qd hl];omega),Kt,Ke (by omega)]at this;rw[List.take_zero,JW,this];rfl
 |j+1,h=>by
  have ih:=qS hn hl hr j (by omega);have hj:rs[j]?=some rs[j]:=Jl (by omega)
  have h1:(rs.map (ik ns))[j]?=some (ik ns rs[j]):=by rw[Jd,hj];rfl
  rw[ie h1,←Jk,mK,ih,ie hj,Jz];have e:bT ns (bK ns rs[j].1)=bx ns.length rs[j].1:=wV hn.1 λt ht=>((hr _ (Le _)).2 t ht).1;show Dk.mk ns bs (_++[if rs[j].2.2 then ix (bT ns (bK ns rs[j].1),rs[j].2.1) else (bT ns (bK ns rs[j].1),rs[j].2.1)]) _ _=_;rw[e];rfl
theorem zb{ns:List Str}{bs:List bj}{rs:List R3}{wt:List Pn}{t:Bool}(h:TA ns bs rs wt):fM (dY ns bs rs wt t)=⟨ns,bs,rs.map (cC ns.length),df (sg t) (bx ns.length wt),sg t⟩:=by
 have:=qS h.nm h.bo.1 (λr hr=>(h.ro r hr).1) rs.length (Jc _);rw[Ke (by rw[mn];omega),Kt]at this;unfold dY eC;rw[mK,this];show Dk.mk ns bs _ (df (sg t) (bT ns (bK ns wt))) (sg t)=_;rw[wV h.nm.1 λt ht=>(h.wo.2 t ht).1]
theorem HQ{ns:List Str}{bs:List bj}{rs:List R3}{wt:List Pn}{t:Bool}(h:TA ns bs rs wt):∀f∈dY ns bs rs wt t,fD f/\(aX f).length<=900:=by
 intro f hf
 have key:fD f/\qT f:=by
  unfold dY eC at hf;rcases Jv.mp hf with hf|hf
  ·rcases Jv.mp hf with hf|hf
   ·obtain⟨i,hi⟩:=Kv hf;rw[KI]at hi
    cases hx:ns[i]? with
    |none=>rw[hx]at hi;cases hi
    |some x=>
     cases hb:bs[i]? with
     |none=>rw[hx,hb]at hi;cases hi
     |some b=>
      rw[hx,hb]at hi;cases hi;have h1:=h.bo.2 b (Jn hb);exact⟨⟨h.nm.2.2 x (Jn hx),h1.1,h1.2⟩,trivial⟩
   ·obtain⟨r,hr,rfl⟩:=Jr.mp hf;obtain⟨k1,k2,k3⟩:=jN h.nm (h.ro r hr).1;exact⟨⟨k1,(h.ro r hr).2⟩,k3⟩
  ·rw[Ji.mp hf];obtain⟨k1,k2,k3⟩:=jN h.nm h.wo;exact⟨⟨k1,by unfold sg;cases t<;>simp⟩,k3⟩
 exact⟨key.1,uy key.1 key.2⟩
theorem zT{ns:List Str}{bs:List bj}{rs:List R3}{wt:List Pn}{t:Bool}(h:TA ns bs rs wt){i:Nat}{f:Frm}(hf:(dY ns bs rs wt t)[i]?=some f):DkW (fM ((dY ns bs rs wt t).take i))/\jE (fM ((dY ns bs rs wt t).take i)) f:=by
 have n8:=h.nm.2.1;have Pd:=h.bo.1;have ul:=qd Pd;have Pb:=h.rl;have e0:dY ns bs rs wt t=cS ns bs++(rs.map (ik ns)++[.worth (bK ns wt) (sg t)]):=Jk ..
 have er:∀r:R3,(cC ns.length r).1.length=ns.length:=λr=>by unfold cC ix;split<;>simp[JQ]
 rcases JI i ns.length with c|c
 ·rw[e0,K8 (by omega),oy Pd i (by omega)];rw[e0,wy (by omega),KI,Jl c,Jl (by omega)]at hf;cases hf;refine⟨⟨h.nm.1.sublist (List.take_sublist _ _),by rw[JA];omega,by rw[JA,JA];omega,KJ _,λr hr=>(by cases hr),by rw[JH,JA];omega⟩,λhm=>?_,by rw[JA];omega⟩;obtain⟨j,hj⟩:=Kv hm
  have hji:j<i:=by have:=aU hj;rw[JA]at this;omega
  rw[KN hji]at hj;have:=(KS (by omega:j<ns.length) h.nm.1).mp (hj.trans (Jl c).symm);omega
 ·obtain⟨j,rfl⟩:∃j,i=ns.length+j:=⟨i-ns.length,by omega⟩;rw[e0,IU (by omega),ul,JU]at hf
  have hj:j<=rs.length:=by have:=aU hf;rw[IW,mn,LS]at this;omega
  have e1:fM ((dY ns bs rs wt t).take (ns.length+j))=⟨ns,bs,(rs.take j).map (cC ns.length),List.replicate ns.length 0,1⟩:=by
   have:=qS (bs:=bs) h.nm Pd (λr hr=>(h.ro r hr).1) j hj
   have e2:(dY ns bs rs wt t).take (ns.length+j)=cS ns bs++(rs.map (ik ns)).take j:=by rw[e0,←ul,List.take_length_add_append,K8 (by rw[mn];exact hj)]
   rw[e2,this]
  have w:DkW (fM ((dY ns bs rs wt t).take (ns.length+j))):=by rw[e1];refine⟨h.nm.1,n8,Pd,by rw[mn,JA];omega,λr hr=>?_,by rw[JH]⟩;obtain⟨r,_,rfl⟩:=Jr.mp hr;exact er r
  refine⟨w,?_⟩;rw[e1];rcases JI j rs.length with c2|c2
  ·rw[wy (by rw[mn];exact c2),Jd,Jl c2]at hf;cases hf;obtain⟨k1,k2,k3⟩:=jN h.nm (h.ro rs[j] (Le _)).1;exact⟨k2,by omega,by rw[mn,JA];omega⟩
  ·rw[IU (by rw[mn];exact c2),mn,show j-rs.length=0 by omega]at hf;cases hf;obtain⟨k1,k2,k3⟩:=jN h.nm h.wo;exact⟨k2,by omega⟩
theorem DG{f:Frm}(h:fD f):Txt.split (aX f) " "=cf f:=by
 unfold aX;refine oz (c:=32) ?_ ?_
 ·cases f with
  |unk x l m=>cases m<;>simp[cf]
  |row ts b t=>simp[cf]
  |worth ts s=>simp[cf]
 ·intro w hw hc;have:=qJ h w hw 32 hc;omega
theorem BY{n:Nat}{f:Frm}(h:fD f):fj n (aX f)=some (.frm f):=by
 have hs:=DG h;have hl:=Ep h
 have h1:aX f∉(["back","ask","fractions","write"]:List Str):=λhm=>by
  have key:∀x∈(["back","ask","fractions","write"]:List Str),iA x=none:=by lia
  rw[key _ hm]at hl;cases hl
 have h2:aH (cf f) 0∉(["take","try"]:List Str):=by
  cases f with
  |unk x l m=>cases m<;>(show ("unknown":Str)∉_;decide)
  |row ts b t=>show ("row":Str)∉_;decide
  |worth ts s=>
   show (if s=1 then ("most":Str) else "least")∉_;split<;>decide
 unfold fj;rw[I0 h1,hs,I0 h2,hl];rfl
theorem Bt{sp:List Int}(h:∀x∈sp,aD x):iM (sp.map nstr)=some sp:=by
 have e:((sp.map nstr).map λw=>(bu w).getD 0)=sp:=by
  rw[Kg];refine (K2 (g:=id) λx hx=>?_).trans (List.map_id _);show (bu (nstr x)).getD 0=x;rw[iE (h x hx)];rfl
 unfold iM;rw[I0,e];intro hm;obtain⟨w,hw,e1⟩:=Jr.mp hm;obtain⟨x,hx,rfl⟩:=Jr.mp hw;rw[iE (h x hx)]at e1;cases e1
noncomputable def gc(sp:List Int):Str:=Str.join " " (("try":Str)::sp.map nstr)
theorem vE{sp:List Int}:∀w∈("try":Str)::sp.map nstr,iO w:=λw hw=>by
 rcases Jb.mp hw with rfl|hw
 ·exact kX (by decide)
 ·obtain⟨x,_,rfl⟩:=Jr.mp hw;exact i8 x
theorem vX{sp:List Int}:Txt.split (gc sp) " "=("try":Str)::sp.map nstr:=by
 unfold gc;refine oz (c:=32) (by simp) λw hw hc=>?_;have:=vE w hw 32 hc;omega
theorem HM{sp:List Int}(h:∀x∈sp,aD x):fj sp.length (gc sp)=some (.tri sp):=by
 have h1:gc sp∉(["back","ask","fractions","write"]:List Str):=λhm=>by
  have key:∀x∈(["back","ask","fractions","write"]:List Str),aH (Txt.split x " ") 0≠"try":=by lia
  exact key _ hm (by rw[vX];rfl)
 unfold fj;rw[I0 h1,vX,Ja (by show ("try":Str)∈_;decide)];show (match iM (sp.map nstr)with|none=>none|some l=>if ("try":Str)="take" then _ else _)=_;rw[Bt h];show (if ("try":Str)="take" then _ else if sp.length=sp.length then some (Say.tri sp) else none)=_;rw[I0 (by decide),Ja rfl]
theorem HP{sp:List Int}(hl:sp.length<=8)(h:∀x∈sp,aD x):ef (gc sp)/\(gc sp).length<=900:=by
 have hw:∀w∈("try":Str)::sp.map nstr,w.length<=12:=λw hw=>by
  rcases Jb.mp hw with rfl|hw
  ·decide
  ·obtain⟨x,hx,rfl⟩:=Jr.mp hw;have:=cT (h x hx);omega
 have h1:=kr (s:=" ") hw
 have c:(" ":Str).length=1:=by decide
 rw[c,Je,mn]at h1
 have h2:(gc sp).length<=900:=by unfold gc;omega
 refine⟨⟨?_,by omega⟩,h2⟩;rw[←Li,JB];intro z hz;rcases qK hz with hz|⟨w,hw,hz⟩
 ·have hb:L (" ":Str)=[32]:=by decide
  rw[hb]at hz;have:=Ji.mp hz;exact JP (by omega)
 ·have:=vE w hw z hz;exact JP (by omega)
open Tx
noncomputable abbrev sp_law:=sX
noncomputable abbrev zB:=sC
noncomputable abbrev LW(sc:List Int)(o:Om)(nm:List Str)(dk:Om)(s4 s5 s6 s7 s8 s9 Qx s11 s12 s13 s14 s15 s16:Option Sm):ar:=[some (.v (.fzl (sc.map D.int))),some (.ob none o),some (.v (.lst (nm.map D.str))),some (.ob none dk),s4,s5,s6,s7,s8,s9,Qx,s11,s12,s13,s14,s15,s16]
noncomputable def iL(b:Bool)(ds:List D):Option Sm:=some (if b then .v (.lst ds) else .own ds)
theorem kR(b:Bool)(ds:List D):aQ (iL b ds)=some (.v (.lst ds)):=by cases b<;>rfl
noncomputable def se(n:Nat)(r:R3):Prop:=PnOk n r.1/\(∀e∈bx n r.1,e.natAbs<=6)/\r.2.1.natAbs<=9900
theorem GY(ns:List Str)(bs:List bj):cS ns bs=eC ns bs []:=(JW _).symm
theorem Hh(ns:List Str)(bs:List bj)(rs:List R3)(r:R3):eC ns bs (rs++[r])=eC ns bs rs++[ik ns r]:=by unfold eC;rw[Jz,←Jk];rfl
theorem Hy{sn:Int}(h:sn=1\/sn = -1)(es sp:List Int):sn*bA (df sn es) sp=1*bA es sp:=by
 rcases h with rfl|rfl
 ·rfl
 ·unfold df;rw[Ja rfl]
  have key:∀(es sp:List Int),bA (es.map λx=>-x) sp = -bA es sp:=by
   intro es
   induction es with
   |nil=>intro sp;rfl
   |cons x es ih=>
    intro sp
    cases sp with
    |nil=>rfl
    |cons y sp=>
     have e1:∀(a b:Int)(l m:List Int),bA (a::l) (b::m)=a*b+bA l m:=λa b l m=>by simp[bA]
     rw[Jq,e1,e1,ih,Int.neg_mul];omega
  rw[key];omega
theorem vP(n:Nat):fj n "write"=some (.word "write"):=by unfold fj;rw[Ja (by decide)]
theorem FA{n:Nat}{r:R3}(h:∀e∈bx n r.1,e.natAbs<=6)(hb:r.2.1.natAbs<=9900):(cC n r).1.length=n/\(∀e∈(cC n r).1,aD e)/\aD (cC n r).2:=by
 have el:(bx n r.1).length=n:=by rw[mn,JQ]
 unfold cC ix;split
 ·refine⟨by rw[mn];exact el,λe he=>?_,by show aD (-r.2.1);unfold aD;omega⟩;obtain⟨x,hx,rfl⟩:=Jr.mp he;have:=h x hx;unfold aD;omega
 ·exact⟨el,λe he=>by have:=h e he;unfold aD;omega,by show aD r.2.1;unfold aD;omega⟩
theorem Gd(F:Fun K "law" "law" kd f fd){Nj:Addr}(Nd:TxtDesk K mg Nj)(OW:ClM P w K mg base (n+1) "_law_pool" ["_law_script","_law_at"] xo)(OG:ClM P w K mg base (n+1) "_law_names" ["_law_pool_here","_law_count"] sS)(OH:ClM P w K mg base (n+1) "_law_built" ["_law_pool_here","_law_names_here"] vC)(Nt:ClM P w K mg base (n+1) "_law_small_sum" ["_law_pool_here","_law_names_here"] qG)(Nf:ClM P w K mg base (n+1) "_law_next" ["_law_pool_here","_law_size"] iW)(Ol:ClM P w K mg base (n+1) "_law_near_row" ["_law_pool_here","_law_names_here","_law_spot"] uT)(N3:ClM P w K mg base (n+1) "_law_other" ["_law_pool_here","_law_spot"] sf)(IK:Cl P w K mg base (n+1) "_law_due" ["_law_names_here","_law_bounds","_law_rows","_law_entries","_law_spot"] rX)(Ob:MkM P w K mg base n Nj ["self"] ua)(NG:MthM P w K mg base (n+1) Nj "say" ["self","line"] vz)(fF:mg "range"=none)(rK:mg "isinstance"=none)(dq:mg "str"=none):FnOk P w K mg base aT (n+2) f fd ["_law_script"] (cH K (zM zB)):=by
 refine F.okM sc_law (λas R Rx h=>?_) (λNk A outer s H E as R Rx qs Np hr h Og=>?_)
 ·obtain⟨_,rfl,ns,rfl,_⟩:=h;rfl
 obtain⟨_,rfl,ns,rfl,hz,q⟩:=h;obtain rfl:=qM Og
 refine⟨_,(aW (bI (i:=1) sc_law.nd rfl U2 (bU OW hr rfl (aZ (au (dv 0)) (aZ (au ao) bp ah) aa) aa (aN ah ag)))
   (aW (bI (i:=2) sc_law.nd rfl U2 (pK (bU OG hr rfl (bV 1 (aZ (bU Nf hr rfl (bV 1 (aZ (au ao) bp ah) aa) aa (aN ah ag)) bp cy) aa) aa (aN cy ag))))
   (aW (bI (i:=3) sc_law.nd rfl U2 (Ga Ob hr rfl Nd.mgC Nd.ns))
   (aW (Hf 4 5 6 rfl sc_law.nd rfl rfl rfl U2 U2 U2 (bU OH hr rfl (bV 1 (aZ (au (dv 2)) bp aa) aa) aa (aN aa ag)))
   (aW (bI (i:=7) sc_law.nd rfl U2 (fT (eK aq)))
   (aW (iV Kf rfl (HU rfl fF (aZ (bU Nf hr rfl (bV 1 (aZ (au ao) bp ah) aa) aa (aN ah ag)) bp cy)) (gE (i:=8) sc_law.nd rfl U2) (ft 4 (aW (Ho (bU Ol hr rfl (bV 1 (aZ (au (dv 2)) (aZ (au (dv 4)) bp aa) aa) aa) aa (aN aa (aN aa ag))) (Iv (n:=2) rfl (wC (gE (i:=9) sc_law.nd rfl U2) (wC (gE (i:=10) sc_law.nd rfl U2) As))))
   (aW (eS 5 (au (dv 9)) (cw aa) aa)
   (bw (eS 7 (au (dv 10)) (cw aa) aa))))))
   (aW (xk 11 12 rfl sc_law.nd rfl rfl U2 U2 (bU Nt hr rfl (bV 1 (aZ (au (dv 2)) bp aa) aa) aa (aN aa ag)))
   (aW (eS 5 (gG bB (ic (au (bg (af aC (af aC aq ah) ah))) (bU Nf hr rfl (bV 1 (aZ (au ao) bp ah) aa) aa (aN ah ag)) (λ_ _=>rfl)) (au (dv 12))) (cw cg) cg)
   (ft 5 (aW (iV Kf rfl (jQ (fw (dv 5))) (gE (i:=9) sc_law.nd rfl U2) (bw (cJ (qz (fU hr.units) (kD 3 NG hr Nd.cl Nd.ns (aZ (au (dv 9)) bp aa) aa ag) (au aC) (aG _)) (bw (dW (au mO))) cN)))
   (aW (bI (i:=13) sc_law.nd rfl U2 (kD 3 NG hr Nd.cl Nd.ns (aZ (au aC) bp ah) ah ag))
   (ft 4 (aW (iV Kf rfl (AR (qA (aZ (au (dv 4)) (aZ (pK (bU N3 hr rfl (bV 1 (aZ (au (dv 4)) bp aa) aa) aa (aN aa ag))) (aZ (pK (bU N3 hr rfl (bV 1 (aZ (au (dv 4)) bp aa) aa) aa (aN aa ag))) (aZ (au (dv 4)) bp aa) cy) cy) aa))) (gE (i:=14) sc_law.nd rfl U2) (ft 11 (ft 7 (ft 6 (aW (bI (i:=15) sc_law.nd rfl U2 (au (bz IK hr rfl (af (dv 2) (af (dv 6) (af (dv 7) (af (dv 11) (af (dv 14) aq aa) aa) aa) aa) aa) aa (aN aa (aN aa (aN aa (aN aa ag)))))))
   (aW (bI (i:=16) sc_law.nd rfl U2 (kD 3 NG hr Nd.cl Nd.ns (aZ (au (kU (PD.q aC) (aS bB (PD.q (PF.d (eK (af aC aq ah)))) (PD.q (PF.d (fV (k:=1) (N':=["_law_number"]) (cap:=[none]) rfl (.ok (show eB ["_law_script","_law_pool_here","_law_names_here","_law_desk","_law_spot","_law_lines","_law_bounds","_law_rows","_law_k","_law_line","_law_row","_law_entries","_law_text","_law_written","_law_numbers","_law_due_here","_law_told"] (aE kd) _ ["_law_number"] [none]=true by lia)) (by lia) (dM (by decide)) (fw (dv 14)) (λ_ _ _ _ _=>(bY (i:=0) (show List.Nodup (["_law_number"]:List Str)by lia) rfl U2)) (λ_ _ _ _ _=>(eu gS rfl dq Ki (br (ae 0) bt aa) aa ag)))))) (cw cg) cg)) bp cy) cy ag))
   (bw (cJ (c9 (PWD.td (eW (ka (iZ (PD.q (FO rfl rK (ae 16) (FR (v:=.ty "str") rfl dq Ki rfl) aa aa)) (λ_=>rfl))) (fP (aI (fU hr.units) (ae 16) (ae 15) (aG _)))))) (bw (dW (au mO))) cN))))))))
   (bw (dW (lH (bM hr.units) (kD 3 NG hr Nd.cl Nd.ns (aZ (au aC) bp ah) ah ag) (au (dv 13)) (aG _))))))))))))))))),?_⟩
 show um _ _ _ ([some (.v (.fzl (ns.map D.int))),none,none,none,none,none,none,none,none,none,none,none,none,none,none,none,none]:ar);refine⟨_,rfl,rfl,ns,0,rfl,hz,by decide,λo0 hp0=>?_⟩;rfl';refine⟨⟨_,_,rfl⟩,⟨_,_,rfl⟩,_,rfl,rfl,_,_,9,0,rfl,hp0,by decide,by decide,cB (by decide),λx o1 x0 x1 NZ=>?_⟩;obtain⟨k,rfl⟩:=Kp x0;refine⟨_,rfl,rfl,_,_,k,_,rfl,NZ,by decide,by omega,λnm o2 hn hnl Oz=>?_⟩;rfl';refine⟨none,rfl,?_⟩;rfl';refine⟨⟨_,_,rfl⟩,_,rfl,rfl,_,_,nm,_,rfl,Oz,by decide,hn,λsp bs o3 q1 q2 q3 OF PV hB O4=>?_⟩;refine⟨_,_,_,_,_,_,rfl,⟨by show 4<17;decide,by show 5<17;decide,by show 6<17;decide⟩,?_⟩;rfl';refine⟨⟨_,_,rfl⟩,_,rfl,rfl,_,_,7,_,rfl,O4,by decide,by decide,cB (by decide),λy o4 y0 y1 O5=>?_⟩;rfl';rw[GY nm bs];obtain⟨j,rfl⟩:=Kp y0;have n8:=hn.2.1;have ul:=qd hB.1;refine⟨⟨by omega,by omega⟩,λi ρ=>∃(rs:List R3)(o':Om)(b:Bool)(u8 u9 QM:Option Sm),ρ=LW ns o' nm (dR jD []) (iL b (sp.map D.int)) (some (.own (((eC nm bs rs).map aX).map D.str))) (some (.own (bs.map dw))) (some (.own ((rs.map (cC nm.length)).map fS))) u8 u9 QM none none none none none none/\rs.length=i/\(∀r∈rs,se nm.length r)/\Pl (100+50*i) o',⟨[],o4,false,_,_,_,rfl,rfl,λr h=>(by cases h),O5.mono (by decide)⟩,?_,?_⟩
 ·rintro i d ρ hd ⟨rs,o5,b,u8,u9,QM,rfl,Pb,hr,Pk⟩;obtain⟨hi,rfl⟩:=mf hd;rw[Kb]at hi
  have fl:(eC nm bs rs).length<=100:=by unfold eC;rw[IW,mn,ul];omega
  have key:∀(ts:List Pn)(b':Int)(t:Bool)(o6:Om)(v9 v10:Option Sm),PnOk nm.length ts->(∀e∈bx nm.length ts,e.natAbs<=6)->b'.natAbs<=9900->Pl (100+50*i+50) o6->∃(Sx:List R3)(o':Om)(b:Bool)(u8 u9 QM:Option Sm),LW ns o6 nm (dR jD []) (some (.v (.lst (sp.map D.int)))) (some (.own (((eC nm bs (rs++[(ts,b',t)])).map aX).map D.str))) (some (.own (bs.map dw))) (some (.own (((rs++[(ts,b',t)]).map (cC nm.length)).map fS))) (some (.v (.int (0+(i:Nat))))) v9 v10 none none none none none none=LW ns o' nm (dR jD []) (iL b (sp.map D.int)) (some (.own (((eC nm bs Sx).map aX).map D.str))) (some (.own (bs.map dw))) (some (.own ((Sx.map (cC nm.length)).map fS))) u8 u9 QM none none none none none none/\Sx.length=i+1/\(∀r∈Sx,se nm.length r)/\Pl (100+50*(i+1)) o':=λts b' t o6 v9 v10 k1 k2 k3 k4=>⟨rs++[(ts,b',t)],o6,true,_,_,_,rfl,by rw[IW,Pb];rfl,gN hr ⟨k1,k2,k3⟩,k4⟩;dsimp only[qQ,mR,aK,List.set];rw[kR];refine⟨⟨_,_,rfl⟩,_,rfl,rfl,_,_,nm,sp,_,rfl,Pk,by omega,hn,OF,PV,λts b' t o6 k1 k2 k3 RP=>?_⟩;rfl';refine⟨rfl,?_⟩;refine⟨by rw[mn,mn];exact cm (by omega),((eC nm bs (rs++[(ts,b',t)])).map aX).map D.str,(by rw[Hh];exact oX _ (ik nm (ts,b',t)) rfl),?_⟩;rfl';refine⟨by rw[mn,mn];exact cm (by omega),((rs++[(ts,b',t)]).map (cC nm.length)).map fS,(by rw[Jz,Jz];rfl),?_⟩;rfl';exact key ts b' t o6 _ _ k1 k2 k3 RP
 rintro ρ ⟨rs,o5,b,u8,u9,QM,rfl,Pb,hr,Pk⟩;rw[jG,Kb]at Pb Pk;refine⟨⟨_,_,rfl⟩,_,rfl,rfl,_,_,nm,_,rfl,Pk,by omega,hn,λwt o6 hwt hwe RP=>?_⟩;refine⟨_,_,rfl,?_⟩;rfl';refine⟨⟨_,_,rfl⟩,_,rfl,rfl,_,_,2,_,rfl,RP,by omega,by decide,cB (by decide),λz o7 z0 z1 T3=>?_⟩;rfl'
 obtain⟨t,ht,tm⟩:∃t:Bool,bJ [D.str "most ",D.str "least "] z=some (.str (if t then "least " else "most "))/\(if t then ("least ":Str) else "most ")++cx (bK nm wt)=aX (.worth (bK nm wt) (sg t)):=by
  rcases n6 (d:=.str "most ") (e:=.str "least ") z0 z1 with⟨_,h⟩|⟨_,h⟩
  ·exact⟨false,h,(mT _).1⟩
  ·exact⟨true,h,(mT _).2⟩
 have T:TA nm bs rs wt:=⟨hn,hB,by omega,λr h=>⟨(hr r h).1,by have:=(hr r h).2.2;unfold aD;omega⟩,hwt⟩;have sl:=v5 hn hwt
 have tl:(if t then ("least ":Str) else "most ").length<=6:=by cases t<;>decide
 have fl:(eC nm bs rs).length<=100:=by unfold eC;rw[IW,mn,ul];omega
 refine⟨_,ht,dm tl sl,by rw[mn,mn];exact cm (by omega),((dY nm bs rs wt t).map aX).map D.str,oX _ _ tm,?_⟩;rfl';have Fok:=HQ (t:=t) T;have RQ:∀{i:Nat}{f:Frm},(dY nm bs rs wt t)[i]?=some f->_:=λhf=>zT T hf;have RS:=zb (t:=t) T
 have Fl:(dY nm bs rs wt t).length<=101:=by unfold dY;rw[IW];show _+1<=101;omega
 generalize dY nm bs rs wt t=fs at Fok RQ RS Fl ⊢;refine⟨λi ρ=>∃(hs:List Dk)(u9:Option Sm),ρ=LW ns o7 nm (dR (fM (fs.take i)) hs) (iL b (sp.map D.int)) (some (.v (.lst ((fs.map aX).map D.str)))) (some (.own (bs.map dw))) (some (.own ((rs.map (cC nm.length)).map fS))) u8 u9 QM (some (.own ((bx nm.length wt).map D.int))) (some (.v (.str (cx (bK nm wt))))) none none none none/\hs.length=i,⟨[],_,rfl,rfl⟩,?_,?_⟩
 ·rintro i d ρ hd ⟨hs,v9,rfl,T7⟩;obtain⟨w,rfl,hw⟩:=eI hd
  obtain⟨f,hf,Sy⟩:∃f,w=aX f/\fs[i]?=some f:=by
   rw[Jd]at hw
   cases h:fs[i]? with
   |none=>rw[h]at hw;cases hw
   |some f=>rw[h]at hw;exact⟨f,(JV hw).symm,rfl⟩
  subst hf;obtain⟨g1,g2⟩:=Fok f (Jn Sy);obtain⟨g3,g4⟩:=RQ Sy;have hi:=aU Sy;refine⟨⟨_,_,rfl,rfl⟩,_,rfl,rfl,_,_,hs,_,_,rfl,by omega,Eb g1 g2,g2,BY g1,g3,g4,?_⟩;rfl';rw[←mK,←ie Sy];exact⟨λh=>ff h,λ_=>⟨hs++[_],_,rfl,by rw[IW,T7];rfl⟩⟩
 rintro ρ ⟨hs,u9,rfl,T7⟩;rw[mn,mn]at T7;rw[mn,mn,Kt,RS]
 have RO:sg t=1\/sg t = -1:=by unfold sg;cases t<;>simp
 have el:∀ts,(bx nm.length ts).length=nm.length:=λts=>by rw[mn,JQ]
 have Pr:∀r∈rs.map (cC nm.length),r.1.length=nm.length/\(∀e∈r.1,aD e)/\aD r.2:=λr' h'=>by obtain⟨r,h,rfl⟩:=Jr.mp h';obtain⟨k1,k2,k3⟩:=hr r h;exact FA k2 k3
 have we:∀e∈bx nm.length wt,aD e:=λe h=>by have:=hwe e h;unfold aD;omega
 have P1:PlOk nm bs (rs.map (cC nm.length)) (bx nm.length wt):=⟨hn,hB.1,hB.2,by rw[mn];omega,Pr,el _,we⟩;have P2:PlOk nm bs (rs.map (cC nm.length)) (df (sg t) (bx nm.length wt)):=⟨hn,hB.1,hB.2,by rw[mn];omega,Pr,by rw[pU];exact el _,nq we⟩;refine⟨⟨_,_,rfl,rfl⟩,_,rfl,rfl,_,_,hs,"write",_,rfl,by omega,⟨by lia,by decide⟩,by decide,vP _,rfl,P2,RO,?_⟩;rfl';dsimp only[mR,aK];rw[kR];refine⟨⟨_,_,rfl⟩,_,rfl,rfl,_,_,sp,_,rfl,T3,by omega,by omega,PV,λz1 o8 zl1 zx1 T4=>?_⟩;rfl';refine⟨⟨_,_,rfl⟩,_,rfl,rfl,_,_,sp,_,rfl,T4,by omega,by omega,PV,λz2 o9 zl2 zx2 hp9=>?_⟩;rfl'
 have zx0:∀x∈sp,aD x:=λx h=>by have:=PV x h;unfold aD;omega
 obtain⟨W,hW⟩:∃W,W=Str.join "\n" ((fe nm bs (rs.map (cC nm.length)) (df (sg t) (bx nm.length wt)) (sg t)).map aX):=⟨_,rfl⟩;rw[←hW];refine⟨λi ρ=>∃(c:Bool)(T8 T9 Ua:Option Sm),ρ=LW ns o9 nm (dR ⟨nm,bs,rs.map (cC nm.length),df (sg t) (bx nm.length wt),sg t⟩ hs) (some (.v (.lst (sp.map D.int)))) (some (.v (.lst ((fs.map aX).map D.str)))) (iL c (bs.map dw)) (iL c ((rs.map (cC nm.length)).map fS)) u8 u9 QM (iL c ((bx nm.length wt).map D.int)) (some (.v (.str (cx (bK nm wt))))) (some (.v (.str W))) T8 T9 Ua,⟨false,_,_,_,rfl⟩,?_,?_⟩
 ·rintro i d ρ hd ⟨c,T8,T9,Ua,rfl⟩
  obtain⟨zs,rfl,zl,zx⟩:∃zs:List Int,d=.lst (zs.map D.int)/\zs.length=nm.length/\∀x∈zs,aD x:=by
   match i,hd with
   |0,hd=>cases hd;exact⟨sp,rfl,OF,zx0⟩
   |1,hd=>cases hd;exact⟨z1,rfl,zl1.trans OF,zx1⟩
   |2,hd=>cases hd;exact⟨z2,rfl,zl2.trans OF,zx2⟩
   |3,hd=>cases hd;exact⟨sp,rfl,OF,zx0⟩
   |_+4,hd=>cases hd
  dsimp only[qQ,mR,aK,List.set];rw[kR,kR,kR];refine⟨nm,bs,rs.map (cC nm.length),bx nm.length wt,zs,rfl,P1,zl,zx,?_⟩;rfl';obtain⟨t1,t2⟩:=HP (sp:=zs) (by omega) zx;refine⟨⟨_,_,rfl,rfl⟩,_,rfl,?_⟩;refine iu (f:=D.int) (λx=>D.str (nstr x)) (cm (by omega)) (λx hx=>⟨_,rfl,big (zx x hx),rfl⟩) ?_;refine⟨by have:=Kd;rw[mn];show 1+zs.length<=_;omega,(("try":Str)::zs.map nstr).map D.str,by rw[Jq,Kg];rfl,?_⟩;refine⟨_,rfl,lP 12 (λw hw=>?_) ?_,?_⟩
  ·rcases Jb.mp hw with rfl|hw
   ·decide
   ·obtain⟨x,hx,rfl⟩:=Jr.mp hw;have:=cT (zx x hx);omega
  ·have c:(" ":Str).length=1:=by decide
   rw[Je,mn,c];omega
  have e:Txt.join " " (("try":Str)::zs.map nstr)=gc zs:=KZ _ _;rw[e];refine⟨_,rfl,rfl,_,_,hs,gc zs,.tri zs,rfl,by omega,t1,t2,by show fj nm.length _=_;rw[←zl];exact HM zx,P2,RO,zx,?_⟩;rfl'
  have ed:fQ nm bs (rs.map (cC nm.length)) (df (sg t) (bx nm.length wt)) (sg t) zs=fQ nm bs (rs.map (cC nm.length)) (bx nm.length wt) 1 zs:=by unfold fQ;rw[Hy RO]
  rw[ed];generalize fQ nm bs (rs.map (cC nm.length)) (bx nm.length wt) 1 zs=T';refine⟨_,rfl,λh=>(by cases h),λ_=>?_⟩
  have en:(!(T'==T'))=false:=by rw[JT];rfl
  refine⟨λh=>(by have:=h.symm.trans en;cases this),λ_=>⟨true,_,_,_,rfl⟩⟩
 rintro ρ ⟨c,T8,T9,Ua,rfl⟩;refine⟨⟨_,_,rfl,rfl⟩,_,rfl,rfl,_,_,hs,"write",_,rfl,by omega,⟨by lia,by decide⟩,by decide,vP _,rfl,P2,RO,?_⟩;rw[←hW];show il (R (.v (.bl (W==W)))) _ _ _ _;rw[JT];exact q
end
theorem fm{A:Type}{p:List A->Prop}(h:∀a0,p [a0]):∀us:List A,us.length=1->p us
 | [a0],_=>h a0
theorem dB{A:Type}{p:List A->Prop}(h:∀a0 a1,p [a0,a1]):∀us:List A,us.length=2->p us
 | [a0,a1],_=>h a0 a1
theorem js{A:Type}{p:List A->Prop}(h:∀a0 a1 a2,p [a0,a1,a2]):∀us:List A,us.length=3->p us
 | [a0,a1,a2],_=>h a0 a1 a2
theorem CP{A:Type}{p:List A->Prop}(h:∀a0 a1 a2 a3,p [a0,a1,a2,a3]):∀us:List A,us.length=4->p us
 | [a0,a1,a2,a3],_=>h a0 a1 a2 a3
theorem zd{A:Type}{p:List A->Prop}(h:∀a0 a1 a2 a3 a4,p [a0,a1,a2,a3,a4]):∀us:List A,us.length=5->p us
 | [a0,a1,a2,a3,a4],_=>h a0 a1 a2 a3 a4
theorem all_mk{l:PySem.W.OpenLaw}{w:World}{K:PySem.W.Frag}{h:Heap}{mg:Str->Option Value}{fa Sz SA SD SE:Addr}{Nj:Addr}(X:K.In h)(G:h.Ns mainGlobals mg)(hfa:mg "law"=some (.ref fa))
  {Ub Uc Ud Ue Ug Uh Ui Uj:Option Addr} {Uk Ul Um Uo:Array (Option Value)} {Up Uq Ur Us RT Ut Uu Uv Uw Ux RU Uy Uz UA UB UC RV UD UE UG UH UI RW UJ:Value}
  (Ox:PySem.W.nsIn K mainGlobals "Desk"=some (some (.ref Nj)))
  (a1:Has K kJ "left")
  (a2:Has K mQ "meets")
  (a3:Has K jT "turned")
  (a4:Has K mJ "worth")
  (a5:Has K kg "is_name")
  (a6:Has K j8 "number_form")
  (a7:Has K me "sum_form")
  (a8:Has K n5 "unknown_form")
  (a9:Has K ng "row_form")
  (a10:Has K l0 "worth_form")
  (a11:Has K nQ "line_form")
  (a12:Has K nh "sum_entries")
  (a13:Has K ky "turned_numbers")
  (a14:Has K mG "written_unknown")
  (a15:Has K kE "written_sum")
  (a16:Has K mB "written_row")
  (a17:Has K lx "written_worth")
  (a18:Has K jL "write_plan")
  (a19:Has K kj "with_unknown")
  (a20:Has K mC "with_row")
  (a21:Has K nD "with_worth")
  (a22:Has K nX "changed")
  (a23:Has K mL "tried")
  (a24:Has K jU "numbers_form")
  (a25:Has K nM "say_form")
  (a26:Has K ma "_law_pool")
  (a27:Has K n0 "_law_next")
  (a28:Has K mD "_law_names")
  (a29:Has K lz "_law_built")
  (a30:Has K la "_law_small_sum")
  (a31:Has K ko "_law_times")
  (a32:Has K kF "_law_near_row")
  (a33:Has K mY "_law_due")
  (a34:Has K mE "_law_other")
  (a35:Has K kd "law")
  (UK:PySem.W.findIn K (.ref Nj) "__init__"=some (some (.ref Sz))) (UL:PySem.W.isFn K (.ref Sz)=true) (UM:K.lookup Sz=some ⟨Up,Ub,.func (PySem.W.fnOf "__init__" "Desk.__init__" (fi i4) (eg i4) (aE i4) .none Uq Ur Us Uc RT Ut),Uk⟩) (UN:PySem.W.codeIn K RT "Desk.__init__"=true) (UO:PySem.W.keepIn K (.ref Sz)=true)
  (UP:PySem.W.findIn K (.ref Nj) "say"=some (some (.ref SA))) (UQ:PySem.W.isFn K (.ref SA)=true) (UR:K.lookup SA=some ⟨Uu,Ud,.func (PySem.W.fnOf "say" "Desk.say" (fi iN) (eg iN) (aE iN) .none Uv Uw Ux Ue RU Uy),Ul⟩) (US:PySem.W.codeIn K RU "Desk.say"=true) (SF:PySem.W.keepIn K (.ref SA)=true)
  (UT:PySem.W.findIn K (.ref Nj) "step_on"=some (some (.ref SD))) (UU:PySem.W.isFn K (.ref SD)=true) (UW:K.lookup SD=some ⟨Uz,Ug,.func (PySem.W.fnOf "step_on" "Desk.step_on" (fi iI) (eg iI) (aE iI) .none UA UB UC Uh RV UD),Um⟩) (UX:PySem.W.codeIn K RV "Desk.step_on"=true) (SG:PySem.W.keepIn K (.ref SD)=true)
  (UY:PySem.W.findIn K (.ref Nj) "step_back"=some (some (.ref SE))) (UZ:PySem.W.isFn K (.ref SE)=true) (U0:K.lookup SE=some ⟨UE,Ui,.func (PySem.W.fnOf "step_back" "Desk.step_back" (fi jb) (eg jb) (aE jb) .none UG UH UI Uj RW UJ),Uo⟩) (U1:PySem.W.codeIn K RW "Desk.step_back"=true) (SH:PySem.W.keepIn K (.ref SE)=true)
  (OI:PySem.W.plainGet K Nj Str.empty=true) (OJ:PySem.W.hasDictIn K Nj=true) (OK:PySem.W.plainOver K Nj=true) (OL:PySem.W.findIn K (.ref Nj) "__setattr__"=some (some (.builtin "object.__setattr__"))) (OM:PySem.W.makesIn K Nj=true) (ON:PySem.W.keepIn K (.ref Nj)=true)
  (NJ:PySem.W.findIn K (.ref Nj) "state"=some none)
  (NH:PySem.W.findIn K (.ref Nj) "states"=some none)
  (Py:PySem.W.nsIn K mainGlobals "sum"=some none)
  (Pz:PySem.W.nsIn K mainGlobals "zip"=some none)
  (OO:PySem.W.nsIn K mainGlobals "tuple"=some none)
  (PB:PySem.W.nsIn K mainGlobals "all"=some none)
  {Oo:Tok} (NB:PySem.W.nsIn K mainGlobals "MOST_LETTERS"=some (some (.int 12 Oo)))
  (PH:PySem.W.nsIn K mainGlobals "len"=some none)
  {O6:Tok} (Oc:PySem.W.nsIn K mainGlobals "LETTERS"=some (some (.str "abcdefghijklmnopqrstuvwxyz" O6)))
  (PL:PySem.W.nsIn K mainGlobals "int"=some none)
  {Oq:Tok} (NC:PySem.W.nsIn K mainGlobals "MOST_FIGURES"=some (some (.int 4 Oq)))
  {O7:Tok} (Od:PySem.W.nsIn K mainGlobals "FIGURES"=some (some (.str "0123456789" O7)))
  (OP:PySem.W.nsIn K mainGlobals "range"=some none)
  {Oe:Tok} (Nx:PySem.W.nsIn K mainGlobals "MOST_UNKNOWNS"=some (some (.int 8 Oe)))
  {OQ:Tok} (NQ:PySem.W.nsIn K mainGlobals "MOST_ROWS"=some (some (.int 12 OQ)))
  (NR:PySem.W.nsIn K mainGlobals "enumerate"=some none)
  (PM:PySem.W.nsIn K mainGlobals "str"=some none)
  (NK:PySem.W.nsIn K mainGlobals "isinstance"=some none) :
  ∃fd:FuncData,(∀(s:Shared)(v:Value),BindsTo s fd ⟨[v],[]⟩ [("_law_script",v)])/\∀base:Heap,K.In base->base.Ns mainGlobals mg->FnOk l.prog w K mg base aT 7 fa fd ["_law_script"] (sp_law K):=by
 obtain⟨f1,d1,F1,m1,_⟩:=a1.fn X G;obtain⟨f2,d2,F2,m2,_⟩:=a2.fn X G;obtain⟨f3,d3,F3,m3,_⟩:=a3.fn X G;obtain⟨f4,d4,F4,m4,_⟩:=a4.fn X G;obtain⟨f5,d5,F5,m5,_⟩:=a5.fn X G;obtain⟨f6,d6,F6,m6,_⟩:=a6.fn X G;obtain⟨f7,d7,F7,m7,_⟩:=a7.fn X G;obtain⟨f8,d8,F8,m8,_⟩:=a8.fn X G;obtain⟨f9,d9,F9,m9,_⟩:=a9.fn X G;obtain⟨f10,d10,F10,m10,_⟩:=a10.fn X G;obtain⟨f11,d11,F11,m11,_⟩:=a11.fn X G;obtain⟨f12,d12,F12,m12,_⟩:=a12.fn X G;obtain⟨f13,d13,F13,m13,_⟩:=a13.fn X G;obtain⟨f14,d14,F14,m14,_⟩:=a14.fn X G;obtain⟨f15,d15,F15,m15,_⟩:=a15.fn X G;obtain⟨f16,d16,F16,m16,_⟩:=a16.fn X G;obtain⟨f17,d17,F17,m17,_⟩:=a17.fn X G;obtain⟨f18,d18,F18,m18,_⟩:=a18.fn X G;obtain⟨f19,d19,F19,m19,_⟩:=a19.fn X G;obtain⟨f20,d20,F20,m20,_⟩:=a20.fn X G;obtain⟨f21,d21,F21,m21,_⟩:=a21.fn X G;obtain⟨f22,d22,F22,m22,_⟩:=a22.fn X G;obtain⟨f23,d23,F23,m23,_⟩:=a23.fn X G;obtain⟨f24,d24,F24,m24,_⟩:=a24.fn X G;obtain⟨f25,d25,F25,m25,_⟩:=a25.fn X G;obtain⟨f26,d26,F26,m26,_⟩:=a26.fn X G;obtain⟨f27,d27,F27,m27,_⟩:=a27.fn X G;obtain⟨f28,d28,F28,m28,_⟩:=a28.fn X G;obtain⟨f29,d29,F29,m29,_⟩:=a29.fn X G;obtain⟨f30,d30,F30,m30,_⟩:=a30.fn X G;obtain⟨f31,d31,F31,m31,_⟩:=a31.fn X G;obtain⟨f32,d32,F32,m32,_⟩:=a32.fn X G;obtain⟨f33,d33,F33,m33,_⟩:=a33.fn X G;obtain⟨f34,d34,F34,m34,_⟩:=a34.fn X G;obtain⟨f35,d35,F35,m35,_,_,_,e⟩:=a35.fn X G;have F36:=kI (st:=i4) UM UN UO;have b36:=F36.binds (ps:=["self"]) <|λ_ _ _ _ _ _=>fm λ_=>rfl;have F37:=kI (st:=iN) UR US SF;have b37:=F37.binds (ps:=["self","line"]) <|λ_ _ _ _ _ _=>dB λ_ _=>rfl;have F38:=kI (st:=iI) UW UX SG;have b38:=F38.binds (ps:=["self","state"]) <|λ_ _ _ _ _ _=>dB λ_ _=>rfl;have F39:=kI (st:=jb) U0 U1 SH;have b39:=F39.binds (ps:=["self"]) <|λ_ _ _ _ _ _=>fm λ_=>rfl;cases hfa.symm.trans m35;refine⟨d35,λs v=>by rw[e];exact .of_eq rfl,λbase _ _=>?_⟩;have jP:=Kk X G Py;have dG:=Kk X G Pz;have dF:=Kk X G OO;have jO:=Kk X G PB;have Nz:∃tk,mg "MOST_LETTERS"=some (.int 12 tk):=⟨_,K4 X G NB⟩;have aV:=Kk X G PH;have N9:∃tk,mg "LETTERS"=some (.str "abcdefghijklmnopqrstuvwxyz" tk):=⟨_,K4 X G Oc⟩;have fE:=Kk X G PL;have NA:∃tk,mg "MOST_FIGURES"=some (.int 4 tk):=⟨_,K4 X G NC⟩;have Oa:∃tk,mg "FIGURES"=some (.str "0123456789" tk):=⟨_,K4 X G Od⟩;have fF:=Kk X G OP;have Nw:∃tk,mg "MOST_UNKNOWNS"=some (.int 8 tk):=⟨_,K4 X G Nx⟩;have NP:∃tk,mg "MOST_ROWS"=some (.int 12 tk):=⟨_,K4 X G NQ⟩;have rJ:=Kk X G NR;have dq:=Kk X G PM;have rK:=Kk X G NK;have Nd:TxtDesk K mg Nj:=⟨⟨OI,OJ,OK,OL⟩,NJ,NH,K4 X G Ox,Ox⟩;have H1:=yx (P:=l.prog) (w:=w) (mg:=mg) (base:=base) (n:=0) F1 jP dG;have Q1:=F1.cl m1 H1 <|λ_ _ _ _ _ _=>dB λ_ _=>rfl;have H2:=AI (n:=1) F2 Q1.mono;have Q2:=F2.cl m2 H2 <|λ_ _ _ _ _ _=>dB λ_ _=>rfl;have H3:=AM (P:=l.prog) (w:=w) (mg:=mg) (base:=base) (n:=0) F3 dF;have Q3:=F3.cl m3 H3 <|λ_ _ _ _ _ _=>fm λ_=>rfl;have H4:=yi (n:=1) F4 Q1.mono;have Q4:=F4.cl m4 H4 <|λ_ _ _ _ _ _=>dB λ_ _=>rfl;have H5:=BX (P:=l.prog) (w:=w) (mg:=mg) (base:=base) (n:=0) F5 jO Nz aV N9;have Q5:=F5.cl m5 H5 <|λ_ _ _ _ _ _=>fm λ_=>rfl;have H6:=Hx (P:=l.prog) (w:=w) (mg:=mg) (base:=base) (n:=0) F6 fE NA jO aV Oa;have Q6:=F6.cl m6 H6 <|λ_ _ _ _ _ _=>fm λ_=>rfl;have H7:=Fw (n:=1) F7 Q6.mono Q5.mono fF dF aV;have Q7:=F7.cl m7 H7 <|λ_ _ _ _ _ _=>fm λ_=>rfl;have H8:=yB (n:=1) F8 Q6.mono Q5.mono aV;have Q8:=F8.cl m8 H8 <|λ_ _ _ _ _ _=>fm λ_=>rfl;have H9:=C2 (n:=2) F9 Q7.mono Q6.mono aV;have Q9:=F9.cl m9 H9 <|λ_ _ _ _ _ _=>fm λ_=>rfl;have Td:=By (n:=2) F10 Q7.mono;have Q10:=F10.cl m10 Td <|λ_ _ _ _ _ _=>fm λ_=>rfl;have H11:=HJ (n:=3) F11 Q8.mono Q9.mono Q10.mono;have Q11:=F11.cl m11 H11 <|λ_ _ _ _ _ _=>fm λ_=>rfl;have H12:=A6 (P:=l.prog) (w:=w) (mg:=mg) (base:=base) (n:=0) F12 dF aV;have Q12:=F12.cl m12 H12 <|λ_ _ _ _ _ _=>js λ_ _ _=>rfl;have H13:=yo (P:=l.prog) (w:=w) (mg:=mg) (base:=base) (n:=0) F13 dF;have Q13:=F13.cl m13 H13 <|λ_ _ _ _ _ _=>fm λ_=>rfl;have H14:=Hj (P:=l.prog) (w:=w) (mg:=mg) (base:=base) (n:=0) F14;have Q14:=F14.cl m14 H14 <|λ_ _ _ _ _ _=>dB λ_ _=>rfl;have H15:=Gm (P:=l.prog) (w:=w) (mg:=mg) (base:=base) (n:=0) F15 aV dG;have Q15:=F15.cl m15 H15 <|λ_ _ _ _ _ _=>dB λ_ _=>rfl;have H16:=CG (n:=1) F16 Q15.mono;have Q16:=F16.cl m16 H16 <|λ_ _ _ _ _ _=>dB λ_ _=>rfl;have H17:=xx (n:=1) F17 Q15.mono Q13.mono;have Q17:=F17.cl m17 H17 <|λ_ _ _ _ _ _=>js λ_ _ _=>rfl;have H18:=EL (n:=2) F18 Q14.mono Q17.mono Q16.mono dG;have Q18:=F18.cl m18 (H18.imp xv) <|λ_ _ _ _ _ _=>js λ_ _ _=>rfl;have H19:=Ea (P:=l.prog) (w:=w) (mg:=mg) (base:=base) (n:=0) F19 Nw dF aV;have Q19:=F19.cl m19 H19 <|λ_ _ _ _ _ _=>js λ_ _ _=>rfl;have H20:=xK (n:=1) F20 Q12.mono Q3.mono NP aV;have Q20:=F20.cl m20 H20 <|λ_ _ _ _ _ _=>CP λ_ _ _ _=>rfl;have H21:=yy (n:=1) F21 Q12.mono Q13.mono;have Q21:=F21.cl m21 H21 <|λ_ _ _ _ _ _=>js λ_ _ _=>rfl;have H22:=Be (n:=2) F22 Q19.mono Q20.mono Q21.mono;have Q22:=F22.cl m22 H22 <|λ_ _ _ _ _ _=>dB λ_ _=>rfl;have H23:=Ck (n:=2) F23 Q4.mono Q2.mono dG rJ;have Q23:=F23.cl m23 H23 <|λ_ _ _ _ _ _=>dB λ_ _=>rfl;have H24:=GL (n:=1) F24 Q6.mono dF;have Q24:=F24.cl m24 H24 <|λ_ _ _ _ _ _=>fm λ_=>rfl;have H25:=GH (n:=4) F25 Q24.mono Q11.mono aV;have Q25:=F25.cl m25 H25 <|λ_ _ _ _ _ _=>dB λ_ _=>rfl;have H26:=Hq (P:=l.prog) (w:=w) (mg:=mg) (base:=base) (n:=0) F26 aV;have R26:=F26.clM m26 H26 <|λ_ _ _ _ _ _=>dB λ_ _=>rfl;have H27:=An (P:=l.prog) (w:=w) (mg:=mg) (base:=base) (n:=0) F27 aV;have Ra:=F27.clM m27 H27 <|λ_ _ _ _ _ _=>dB λ_ _=>rfl;have H28:=HD (n:=1) F28 Ra.mono fF;have R28:=F28.clM m28 H28 <|λ_ _ _ _ _ _=>dB λ_ _=>rfl;have H29:=HI (n:=1) F29 Ra.mono fE dq aV;have R29:=F29.clM m29 H29 <|λ_ _ _ _ _ _=>dB λ_ _=>rfl;have H30:=Am (n:=1) F30 Ra.mono aV fE dq;have R30:=F30.clM m30 H30 <|λ_ _ _ _ _ _=>dB λ_ _=>rfl;have H31:=Bj (P:=l.prog) (w:=w) (mg:=mg) (base:=base) (n:=0) F31 jP dG;have Q31:=F31.cl m31 H31 <|λ_ _ _ _ _ _=>dB λ_ _=>rfl;have H32:=ze (n:=2) F32 R30.mono Ra.mono Q31.mono fE dq;have R32:=F32.clM m32 H32 <|λ_ _ _ _ _ _=>js λ_ _ _=>rfl;have H33:=xX (n:=1) F33 Q31.mono dG fF aV dq;have Q33:=F33.cl m33 H33 <|λ_ _ _ _ _ _=>zd λ_ _ _ _ _=>rfl;have H34:=DC (n:=1) F34 Ra.mono;have R34:=F34.clM m34 H34 <|λ_ _ _ _ _ _=>dB λ_ _=>rfl;have H36:=Hk (P:=l.prog) (w:=w) (mg:=mg) (base:=base) (n:=0) F36 Nd;have R36:=MkM.mk ⟨_,_,H36,b36,⟨OM,UK,UL,ON⟩⟩;have H38:=Fp (P:=l.prog) (w:=w) (mg:=mg) (base:=base) (n:=0) F38 Nd;have R38:=MthM.mk ⟨_,_,H38,b38,⟨UT,UU,SG⟩⟩;have H39:=D4 (P:=l.prog) (w:=w) (mg:=mg) (base:=base) (n:=0) F39 Nd aV;have R39:=MthM.mk ⟨_,_,H39,b39,⟨UY,UZ,SH⟩⟩;have H37:=EO (n:=5) F37 Nd Q25.mono Q23.mono Q18.mono Q22.mono R39.mono R38.mono aV;have R37:=MthM.mk ⟨_,_,H37,b37,⟨UP,UQ,SF⟩⟩;have H35:=Gd (n:=5) F35 Nd R26.mono R28.mono R29.mono R30.mono Ra.mono R32.mono R34.mono Q33.mono R36.mono R37.mono fF rK dq;exact (H35.imp xv).imp DB
theorem walk{l:PySem.W.OpenLaw}{q:Program}{loose:List Str}{XP:(Str->Option Value)->Heap->Prop}{YP:World->Heap->Prop}{d:DefRec}{K:Params->PySem.W.Frag}(hn:l.most=some 63)(Rm:d.params.defaults=[])(him:PyProof.Rows.importsNone q=true)
  (hY:∀(w:World)(h:Heap),YP w h->(K w.params).In h) (hN:∀w:World,rV (K w.params)=[])
  (F:∀(w:World)(mg:Str->Option Value)(fa:Addr)(h:Heap),(K w.params).In h->h.Ns mainGlobals mg->mg d.name=some (.ref fa)->
   ∃fd:FuncData,(∀(s:Shared)(u:Value),BindsTo s fd ⟨[u],[]⟩ [("_law_script",u)])/\∀base:Heap,(K w.params).In base->base.Ns mainGlobals mg->FnOk l.prog w (K w.params) mg base aT 7 fa fd ["_law_script"] (sp_law (K w.params))) :
  PySem.W.WalkO q loose XP YP l.row.toRowW d [] (λf vs=>PySem.call f vs):=
 L2.walk_of (n:=63) (k:=7) (x:="_law_script") (CX:=λ_=>aT) (sp:=λw=>sp_law (K w.params)) hn (by decide) Rm him ⟨rfl,by decide,by decide⟩ hY F (λw H a ns hl _ hS=>⟨a,ns,rfl,hS,hl,(λt ht=>by rw[hN w]at ht;cases ht),λ_=>rfl⟩) λ_ _ _ _ _ z=>z
end Kx
namespace Kx
open PySem PySem.W L2
noncomputable def KK:Params->Frag:=λP=>
 (nat_lit 2,⟨.none,none,(.dict #[] 0),#[]⟩) ::
 (nat_lit 3,⟨(.type "dict"),none,(.dict #[dE P "__name__" 165 ((.str "law_cutyard_k72_tried" 1619)),dE P "__doc__" 166 (.none),dE P "__package__" 167 (.none),dE P "__loader__" 168 ((.builtin "__main__.__loader__#opaque")),dE P "__spec__" 169 (.none),dE P "__annotations__" 170 ((.ref 6)),dE P "__builtins__" 171 ((.ref 4)),dE P "__file__" 173 ((.str "/claim/cut.py" 172)),dE P "__cached__" 174 (.none),dE P "YardError" 206 ((.ref 24)),dE P "NoNumber" 222 ((.ref 37)),dE P "NoName" 247 ((.ref 56)),dE P "Twice" 272 ((.ref 75)),dE P "TooGreat" 297 ((.ref 94)),dE P "NoText" 322 ((.ref 113)),dE P "NoRow" 338 ((.ref 125)),dE P "NoChange" 354 ((.ref 137)),dE P "common_of_two" 367 ((.ref 146)),dE P "common" 376 ((.ref 153)),dE P "up" 384 ((.ref 160)),dE P "nearest" 392 ((.ref 167)),dE P "lowest" 398 ((.ref 172)),dE P "unit" 406 ((.ref 177)),dE P "width" 413 ((.ref 184)),dE P "left" 419 ((.ref 189)),dE P "meets" 427 ((.ref 196)),dE P "turned" 433 ((.ref 201)),dE P "evened" 439 ((.ref 206)),dE P "Stand" 476 ((.ref 223)),dE P "beginning" 482 ((.ref 232)),dE P "growths" 488 ((.ref 237)),dE P "over" 496 ((.ref 244)),dE P "missed_row" 506 ((.ref 251)),dE P "least_grown" 512 ((.ref 256)),dE P "stopping_row" 528 ((.ref 263)),dE P "moved" 534 ((.ref 268)),dE P "exchanged" 540 ((.ref 273)),dE P "fallen" 546 ((.ref 278)),dE P "in_lowest" 552 ((.ref 283)),dE P "none_ending" 562 ((.ref 290)),dE P "best_ending" 571 ((.ref 297)),dE P "endless_ending" 577 ((.ref 302)),dE P "next_step" 591 ((.ref 309)),dE P "walk_on" 603 ((.ref 316)),dE P "walk" 611 ((.ref 323)),dE P "first" 619 ((.ref 330)),dE P "MOST_UNKNOWNS" 623 ((.int 8 622)),dE P "MOST_ROWS" 625 ((.int 12 624)),dE P "givens" 631 ((.ref 335)),dE P "worth" 639 ((.ref 342)),dE P "less" 647 ((.ref 347)),dE P "Basis" 727 ((.ref 397)),dE P "plain_basis" 733 ((.ref 406)),dE P "greatest_first" 741 ((.ref 411)),dE P "gather" 747 ((.ref 416)),dE P "levels" 759 ((.ref 423)),dE P "Lengths" 853 ((.ref 480)),dE P "lean_off" 864 ((.ref 491)),dE P "shorten" 875 ((.ref 498)),dE P "Side" 910 ((.ref 515)),dE P "walk_side" 918 ((.ref 526)),dE P "side_with" 924 ((.ref 531)),dE P "Choice" 958 ((.ref 548)),dE P "shut_lines" 966 ((.ref 559)),dE P "broken_form" 975 ((.ref 566)),dE P "near_choice" 981 ((.ref 571)),dE P "PARTS" 985 ((.int 1048576 984)),dE P "MOST_FITTINGS" 987 ((.int 6 986)),dE P "parts_between" 997 ((.ref 578)),dE P "reaches" 1003 ((.ref 583)),dE P "Shape" 1103 ((.ref 650)),dE P "fitted_shape" 1112 ((.ref 661)),dE P "summed" 1120 ((.ref 666)),dE P "divided" 1126 ((.ref 671)),dE P "ask_still" 1132 ((.ref 676)),dE P "inner" 1146 ((.ref 683)),dE P "FEW_CHOICES" 1150 ((.int 40 1149)),dE P "MOST_SHAPES" 1152 ((.int 100 1151)),dE P "tied_basis" 1158 ((.ref 688)),dE P "corner_spot" 1164 ((.ref 693)),dE P "search_by_forms" 1181 ((.ref 700)),dE P "search" 1187 ((.ref 705)),dE P "along_ray" 1193 ((.ref 710)),dE P "found" 1199 ((.ref 715)),dE P "raised_stand" 1207 ((.ref 720)),dE P "raised_side" 1219 ((.ref 727)),dE P "Climb" 1308 ((.ref 780)),dE P "settled" 1323 ((.ref 791)),dE P "LETTERS" 1327 ((.str "abcdefghijklmnopqrstuvwxyz" 1326)),dE P "FIGURES" 1329 ((.str "0123456789" 1328)),dE P "MOST_LETTERS" 1331 ((.int 12 1330)),dE P "MOST_FIGURES" 1333 ((.int 4 1332)),dE P "is_name" 1339 ((.ref 796)),dE P "number_form" 1345 ((.ref 801)),dE P "sum_form" 1356 ((.ref 808)),dE P "unknown_form" 1365 ((.ref 815)),dE P "row_form" 1374 ((.ref 822)),dE P "worth_form" 1382 ((.ref 829)),dE P "line_form" 1390 ((.ref 836)),dE P "sum_entries" 1403 ((.ref 843)),dE P "turned_numbers" 1409 ((.ref 848)),dE P "written_unknown" 1419 ((.ref 855)),dE P "written_sum" 1425 ((.ref 860)),dE P "written_row" 1435 ((.ref 867)),dE P "written_worth" 1445 ((.ref 874)),dE P "write_plan" 1451 ((.ref 879)),dE P "with_unknown" 1459 ((.ref 884)),dE P "with_row" 1472 ((.ref 891)),dE P "with_worth" 1483 ((.ref 898)),dE P "without_row" 1492 ((.ref 905)),dE P "changed" 1500 ((.ref 912)),dE P "named" 1511 ((.ref 919)),dE P "asked" 1521 ((.ref 926)),dE P "tried" 1536 ((.ref 933)),dE P "in_fractions" 1549 ((.ref 940)),dE P "numbers_form" 1555 ((.ref 945)),dE P "say_form" 1565 ((.ref 952)),dE P "Desk" 1618 ((.ref 990)),dE P "_law_pool" 1629 ((.ref 1001)),dE P "_law_next" 1640 ((.ref 1008)),dE P "_law_names" 1655 ((.ref 1015)),dE P "_law_built" 1670 ((.ref 1022)),dE P "_law_small_sum" 1681 ((.ref 1029)),dE P "_law_times" 1687 ((.ref 1034)),dE P "_law_near_row" 1693 ((.ref 1039)),dE P "_law_due" 1708 ((.ref 1046)),dE P "_law_other" 1719 ((.ref 1053)),dE P "law" 1725 ((.ref 1058))] 128),#[]⟩) ::
(nat_lit 52,cO "__init__" 235 "NoName.__init__" 236 237 8 2 3 47 181 48 (.ref 49) (.ref 50) 51 240 241) ::
(nat_lit 71,cO "__init__" 260 "Twice.__init__" 261 262 12 2 3 66 181 67 (.ref 68) (.ref 69) 70 265 266) ::
(nat_lit 90,cO "__init__" 285 "TooGreat.__init__" 286 287 16 2 3 85 181 86 (.ref 87) (.ref 88) 89 290 291) ::
(nat_lit 109,cO "__init__" 310 "NoText.__init__" 311 312 20 2 3 104 181 105 (.ref 106) (.ref 107) 108 315 316) ::
(nat_lit 188,cO "left" 414 "left" 415 416 58 2 3 185 181 186 .none .none 187 417 418) ::
 (nat_lit 189,fO kJ "left" "left" "cutyard.rows" 399 188) ::
(nat_lit 195,cO "meets" 420 "meets" 421 422 60 2 3 190 181 191 (.ref 192) (.ref 193) 194 425 426) ::
 (nat_lit 196,fO mQ "meets" "meets" "cutyard.rows" 399 195) ::
(nat_lit 200,cO "turned" 428 "turned" 429 430 62 1 3 197 181 198 .none .none 199 431 432) ::
 (nat_lit 201,fO jT "turned" "turned" "cutyard.rows" 399 200) ::
(nat_lit 341,cO "worth" 632 "worth" 633 634 175 2 3 336 181 337 (.ref 338) (.ref 339) 340 637 638) ::
 (nat_lit 342,fO mJ "worth" "worth" "cutyard.plans" 620 341) ::
(nat_lit 795,cO "is_name" 1334 "is_name" 1335 1336 615 1 3 792 181 793 .none .none 794 1337 1338) ::
 (nat_lit 796,fO kg "is_name" "is_name" "cutyard.texts" 1324 795) ::
(nat_lit 800,cO "number_form" 1340 "number_form" 1341 1342 619 1 3 797 181 798 .none .none 799 1343 1344) ::
 (nat_lit 801,fO j8 "number_form" "number_form" "cutyard.texts" 1324 800) ::
(nat_lit 807,cO "sum_form" 1346 "sum_form" 1347 1348 628 1 3 802 181 803 (.ref 804) (.ref 805) 806 1354 1355) ::
 (nat_lit 808,fO me "sum_form" "sum_form" "cutyard.texts" 1324 807) ::
(nat_lit 814,cO "unknown_form" 1357 "unknown_form" 1358 1359 643 1 3 809 181 810 (.ref 811) (.ref 812) 813 1363 1364) ::
 (nat_lit 815,fO n5 "unknown_form" "unknown_form" "cutyard.texts" 1324 814) ::
(nat_lit 821,cO "row_form" 1366 "row_form" 1367 1368 655 1 3 816 181 817 (.ref 818) (.ref 819) 820 1372 1373) ::
 (nat_lit 822,fO ng "row_form" "row_form" "cutyard.texts" 1324 821) ::
(nat_lit 828,cO "worth_form" 1375 "worth_form" 1376 1377 663 1 3 823 181 824 (.ref 825) (.ref 826) 827 1380 1381) ::
 (nat_lit 829,fO l0 "worth_form" "worth_form" "cutyard.texts" 1324 828) ::
(nat_lit 835,cO "line_form" 1383 "line_form" 1384 1385 668 1 3 830 181 831 (.ref 832) (.ref 833) 834 1388 1389) ::
 (nat_lit 836,fO nQ "line_form" "line_form" "cutyard.texts" 1324 835) ::
(nat_lit 842,cO "sum_entries" 1391 "sum_entries" 1392 1393 677 3 3 837 181 838 (.ref 839) (.ref 840) 841 1401 1402) ::
 (nat_lit 843,fO nh "sum_entries" "sum_entries" "cutyard.texts" 1324 842) ::
(nat_lit 847,cO "turned_numbers" 1404 "turned_numbers" 1405 1406 688 1 3 844 181 845 .none .none 846 1407 1408) ::
 (nat_lit 848,fO ky "turned_numbers" "turned_numbers" "cutyard.texts" 1324 847) ::
(nat_lit 854,cO "written_unknown" 1410 "written_unknown" 1411 1412 690 2 3 849 181 850 (.ref 851) (.ref 852) 853 1417 1418) ::
 (nat_lit 855,fO mG "written_unknown" "written_unknown" "cutyard.texts" 1324 854) ::
(nat_lit 859,cO "written_sum" 1420 "written_sum" 1421 1422 696 2 3 856 181 857 .none .none 858 1423 1424) ::
 (nat_lit 860,fO kE "written_sum" "written_sum" "cutyard.texts" 1324 859) ::
(nat_lit 866,cO "written_row" 1426 "written_row" 1427 1428 701 2 3 861 181 862 (.ref 863) (.ref 864) 865 1433 1434) ::
 (nat_lit 867,fO mB "written_row" "written_row" "cutyard.texts" 1324 866) ::
(nat_lit 873,cO "written_worth" 1436 "written_worth" 1437 1438 705 3 3 868 181 869 (.ref 870) (.ref 871) 872 1443 1444) ::
 (nat_lit 874,fO lx "written_worth" "written_worth" "cutyard.texts" 1324 873) ::
(nat_lit 878,cO "write_plan" 1446 "write_plan" 1447 1448 711 3 3 875 181 876 .none .none 877 1449 1450) ::
 (nat_lit 879,fO jL "write_plan" "write_plan" "cutyard.texts" 1324 878) ::
(nat_lit 883,cO "with_unknown" 1454 "with_unknown" 1455 1456 717 3 3 880 181 881 .none .none 882 1457 1458) ::
 (nat_lit 884,fO kj "with_unknown" "with_unknown" "cutyard.desk" 1452 883) ::
(nat_lit 890,cO "with_row" 1460 "with_row" 1461 1462 726 4 3 885 181 886 (.ref 887) (.ref 888) 889 1470 1471) ::
 (nat_lit 891,fO mC "with_row" "with_row" "cutyard.desk" 1452 890) ::
(nat_lit 897,cO "with_worth" 1473 "with_worth" 1474 1475 733 3 3 892 181 893 (.ref 894) (.ref 895) 896 1481 1482) ::
 (nat_lit 898,fO nD "with_worth" "with_worth" "cutyard.desk" 1452 897) ::
(nat_lit 911,cO "changed" 1493 "changed" 1494 1495 744 2 3 906 181 907 (.ref 908) (.ref 909) 910 1498 1499) ::
 (nat_lit 912,fO nX "changed" "changed" "cutyard.desk" 1452 911) ::
(nat_lit 932,cO "tried" 1522 "tried" 1523 1524 766 2 3 927 181 928 (.ref 929) (.ref 930) 931 1534 1535) ::
 (nat_lit 933,fO mL "tried" "tried" "cutyard.desk" 1452 932) ::
(nat_lit 944,cO "numbers_form" 1550 "numbers_form" 1551 1552 786 1 3 941 181 942 .none .none 943 1553 1554) ::
 (nat_lit 945,fO jU "numbers_form" "numbers_form" "cutyard.desk" 1452 944) ::
(nat_lit 951,cO "say_form" 1556 "say_form" 1557 1558 789 2 3 946 181 947 (.ref 948) (.ref 949) 950 1563 1564) ::
 (nat_lit 952,fO nM "say_form" "say_form" "cutyard.desk" 1452 951) ::
(nat_lit 965,cO "__init__" 1578 "Desk.__init__" 1579 1580 801 1 3 960 181 961 (.ref 962) (.ref 963) 964 1582 1583) ::
 (nat_lit 966,fO i4 "__init__" "Desk.__init__" "cutyard.desk" 1452 965) ::
(nat_lit 972,cO "say" 1585 "Desk.say" 1586 1587 805 2 3 967 181 968 (.ref 969) (.ref 970) 971 1591 1592) ::
 (nat_lit 973,fO iN "say" "Desk.say" "cutyard.desk" 1452 972) ::
(nat_lit 979,cO "step_on" 1594 "Desk.step_on" 1595 1596 823 2 3 974 181 975 (.ref 976) (.ref 977) 978 1599 1600) ::
 (nat_lit 980,fO iI "step_on" "Desk.step_on" "cutyard.desk" 1452 979) ::
(nat_lit 986,cO "step_back" 1602 "Desk.step_back" 1603 1604 827 1 3 981 181 982 (.ref 983) (.ref 984) 985 1606 1607) ::
 (nat_lit 987,fO jb "step_back" "Desk.step_back" "cutyard.desk" 1452 986) ::
 (nat_lit 988,⟨(.type "tuple"),none,(.seq #[(.str "state" 1609),(.str "states" 1610)] 0),#[]⟩) ::
 (nat_lit 989,⟨(.type "dict"),none,(.dict #[dE P "__module__" 1573 ((.str "cutyard.desk" 1452)),dE P "__firstlineno__" 1577 ((.int 799 1576)),dE P "__init__" 1584 ((.ref 966)),dE P "say" 1593 ((.ref 973)),dE P "step_on" 1601 ((.ref 980)),dE P "step_back" 1608 ((.ref 987)),dE P "__static_attributes__" 1611 ((.ref 988)),dE P "__dict__" 1613 ((.ref 991)),dE P "__weakref__" 1615 ((.ref 992)),dE P "__doc__" 1616 (.none)] 4),#[]⟩) ::
 (nat_lit 990,⟨(.type "type"),none,(.cls ⟨"Desk",[(.type "object")],[(.ref 990),(.type "object")],989,"Desk",true,[],[],false,none,false⟩),#[none,none,(some (.str "Desk" 1566)),(some (.str "Desk" 1574)),(some (.builtin "object.__new__")),(some (.bool true))]⟩) ::
 (nat_lit 991,⟨(.type "getset_descriptor"),none,(.fields #[(.str "__dict__" 1612),(.ref 990),(.builtin "function.__dict__"),(.builtin "function.__dict__#set")]),#[]⟩) ::
 (nat_lit 992,⟨(.type "getset_descriptor"),none,(.fields #[(.str "__weakref__" 1614),(.ref 990),(.builtin "ExceptionGroup.__weakref__"),.none]),#[]⟩) ::
(nat_lit 1000,cO "_law_pool" 1621 "_law_pool" 1622 1623 832 2 3 995 181 996 (.ref 997) (.ref 998) 999 1627 1628) ::
 (nat_lit 1001,fO ma "_law_pool" "_law_pool" "law_cutyard_k72_tried" 1619 1000) ::
(nat_lit 1007,cO "_law_next" 1630 "_law_next" 1631 1632 837 2 3 1002 181 1003 (.ref 1004) (.ref 1005) 1006 1638 1639) ::
 (nat_lit 1008,fO n0 "_law_next" "_law_next" "law_cutyard_k72_tried" 1619 1007) ::
(nat_lit 1014,cO "_law_names" 1641 "_law_names" 1642 1643 849 2 3 1009 181 1010 (.ref 1011) (.ref 1012) 1013 1653 1654) ::
 (nat_lit 1015,fO mD "_law_names" "_law_names" "law_cutyard_k72_tried" 1619 1014) ::
(nat_lit 1021,cO "_law_built" 1656 "_law_built" 1657 1658 867 2 3 1016 181 1017 (.ref 1018) (.ref 1019) 1020 1668 1669) ::
 (nat_lit 1022,fO lz "_law_built" "_law_built" "law_cutyard_k72_tried" 1619 1021) ::
(nat_lit 1028,cO "_law_small_sum" 1671 "_law_small_sum" 1672 1673 882 2 3 1023 181 1024 (.ref 1025) (.ref 1026) 1027 1679 1680) ::
 (nat_lit 1029,fO la "_law_small_sum" "_law_small_sum" "law_cutyard_k72_tried" 1619 1028) ::
(nat_lit 1033,cO "_law_times" 1682 "_law_times" 1683 1684 892 2 3 1030 181 1031 .none .none 1032 1685 1686) ::
 (nat_lit 1034,fO ko "_law_times" "_law_times" "law_cutyard_k72_tried" 1619 1033) ::
(nat_lit 1038,cO "_law_near_row" 1688 "_law_near_row" 1689 1690 894 3 3 1035 181 1036 .none .none 1037 1691 1692) ::
 (nat_lit 1039,fO kF "_law_near_row" "_law_near_row" "law_cutyard_k72_tried" 1619 1038) ::
(nat_lit 1045,cO "_law_due" 1694 "_law_due" 1695 1696 902 5 3 1040 181 1041 (.ref 1042) (.ref 1043) 1044 1706 1707) ::
 (nat_lit 1046,fO mY "_law_due" "_law_due" "law_cutyard_k72_tried" 1619 1045) ::
(nat_lit 1052,cO "_law_other" 1709 "_law_other" 1710 1711 910 2 3 1047 181 1048 (.ref 1049) (.ref 1050) 1051 1717 1718) ::
 (nat_lit 1053,fO mE "_law_other" "_law_other" "law_cutyard_k72_tried" 1619 1052) ::
(nat_lit 1057,cO "law" 1720 "law" 1721 1722 920 1 3 1054 181 1055 .none .none 1056 1723 1724) ::
 (nat_lit 1058,fO kd "law" "law" "law_cutyard_k72_tried" 1619 1057)::[]
end Kx
noncomputable def PySem.W.Fast.tw15435275569902513879:=PySem.Challenge.pw_cutyard_k72_tried
theorem PySem.W.Fast.te15435275569902513879:PySem.Challenge.pw_cutyard_k72_tried=PySem.W.Fast.tw15435275569902513879:=rfl
noncomputable def PySem.W.Fast.tw5385739360559341639:=Kx.KK
theorem PySem.W.Fast.te5385739360559341639:Kx.KK=PySem.W.Fast.tw5385739360559341639:=rfl
structure PySem.W.Fast:Prop where(tw10006594514111731738 tw10012793889061237208 tw10030845556493500219 tw10041886359852641441 tw1011503164595810643 tw10117732053889232718 tw10151340035442094843 tw10179272726092060587 tw10187231289089258003 tw10240464092965164072 tw10249821994630436396 tw10270833985107690010 tw10282932201394842110 tw10326987321876720843 tw10375442982264444292 tw10379672442959838278 tw10429625450637288302 tw10473183456679801689 tw10514511166700576099 tw1051788362090393027 tw10536892123185293474 tw10547524153550388487 tw10551623746785709813 tw10587469805420629497 tw10666436285073823178 tw10701556397234368382 tw1076973325146907388 tw10836559228841109000 tw10861238288696677288 tw10891060029081161554 tw10933810388606005506 tw10945560694325043816 tw10980294095902963166 tw11078960721229005319 tw11098824507684170760 tw111152929278496630 tw11211513898961293191 tw11245118706244169342 tw11250042015160948011 tw11278273639872468399 tw11312995295232652867 tw11316181172719067007 tw11316414891520158146 tw11374593824692314588 tw11381224688010000329 tw11383446827345697601 tw1142340730505957845 tw11433041958495881041 tw11450245671306413699 tw11453770220793021275 tw11463151632947738988 tw11497435623467636967 tw11533666906005774730 tw11553625555436575154 tw11587407789871519858 tw11629108076841701519 tw11634816692884239729 tw11651600193117164515 tw11668679988886978647 tw11685392106500696528 tw11696068122922014694 tw11708555048141860526 tw11726588403201956542 tw11737577095591674224 tw11774316725288809941 tw11843701471187269565 tw11844807501855119862 tw11882681781921543277 tw11913442009153920992 tw11914142584435370854 tw1194667704189739329 tw12049681767103883562 tw12056677632648487564 tw12061863514939272695 tw12073039035282336584 tw12102479101641933545 tw12107620178554265774 tw12112390604795089774 tw12128761461274014944 tw1215921061717996691 tw12168926931521057724 tw12204389148322551221 tw1226523237814125483 tw12339448659541922866 tw12344530132890397484 tw12427010775204161462 tw12431304198706262709 tw12478477136325798318 tw12479422748403563965 tw124876228953612771 tw12518392071706158261 tw12541538289727534115 tw12565407003693732787 tw12579582099634577098 tw12591967370046804308 tw12615329373737403969 tw12647083203477459803 tw12670614516474545563 tw12719418868616319196 tw12726305383365810824 tw12748713234462281546 tw12784541684164549948 tw12811460246673447224 tw12842760367176758668 tw12891838044474454089 tw12893279241922301264 tw12902911499194275834 tw12919550490213546724 tw1293333057274653734 tw12937480341163988876 tw12951084798450912056 tw12965962681913579341 tw12970488457646427027 tw12977893605125548351 tw12997367694427802269 tw13019857293026057199 tw13080821951032856612 tw13093970307717960262 tw13115339399683458882 tw13121050361555120213 tw13131657578189874326 tw13161626069921036460 tw13186612325343165914 tw13204225966428349984 tw13206566322544329619 tw13207620436873184753 tw13211594844584536778 tw13245395775721817125 tw13261915306557929305 tw13283360518721333086 tw13384923240650191353 tw13434516214308631390 tw134748563693279393 tw13490756720797918010 tw13508184200964871888 tw13514716964470729600 tw13518964287034646515 tw13549311946840515029 tw13550539108053685914 tw13559039378274415558 tw13562950835571621795 tw13572061214141979385 tw13574684359819098883 tw13588324085074837419 tw13592738453220522303 tw13593592297103280188 tw1368420946154196526 tw13715764561307675366 tw13747762412711519677 tw13782229626751355476 tw13787578963658644750 tw13823829018868457512 tw13899309225794213575 tw13941745966754882522 tw13967569226888843662 tw13997584302811427586 tw14007603727924807524 tw14027713727122997414 tw14039765256847304848 tw14071381851219639859 tw14073220048208906807 tw14119197278919523545 tw14143963881180472744 tw14208103573016157232 tw1424428560271781210 tw14325679009013348606 tw14383138329656522131 tw14394846232218797113 tw1441527552275339138 tw14420109889969849008 tw14424194469535387460 tw14452442882395731937 tw14492527060522302573 tw14493673224275460475 tw14499763041773278983 tw14568727025906455300 tw14570408141688545037 tw14589535728267708761 tw14605504981468499901 tw14634480476113339197 tw14673398995280157018 tw14725326004906393860 tw14775712579772557552 tw14781608851433803227 tw14789610021823056131 tw14804578287141582977 tw14885868225313372727 tw1489958818168724393 tw14978092642980715028 tw15033618121885301941 tw15084677594179559989 tw15159445901999833279 tw15185177448450767597 tw15189535444264604575 tw15210509897413943663 tw15224846977129830061 tw15250351361208809751 tw15302197857856107118 tw15303935756093851905 tw15306610952316726318 tw15318171027310541125 tw15320014266944087578 tw15356301243318644967 tw1537305005569918047 tw15373486417668924042 tw15384637821483271907 tw15392995259369115365 tw15396757708010459822 tw15407184858841221576 tw15433957150830044380 tw15445216713475886746 tw15454040320153498095 tw15458359628482351752 tw15476556652938622626 tw15560534567567298373 tw15618219010824909475 tw15624822988720100476 tw15656594825335556106 tw15701178312058721354 tw15722327149538374896 tw15740135081998090711 tw15780394271367032485 tw15797461053967473987 tw15807594562258139759 tw15882907206582125772 tw15885331508914871877 tw15886334692066792935 tw15894925922373107167 tw15922610031582755919 tw15941057257327406554 tw15969158761697351363 tw16013925666747325518 tw16016910173861861778 tw16068171894830211331 tw16124043597263963515 tw16133840438105232078 tw16143777860127970577 tw16166325844097413053 tw16233270508355639979 tw16235871744017246672 tw1624096602243712071 tw1624997509725311068 tw16293765383632174961 tw16336388430535490800 tw1635994907386563927 tw1639283481373824494 tw16418438569607707291 tw16515197997500536171 tw16547391384720418205 tw16623665180340570446 tw16630056109508215149 tw16733842676020493999 tw16762931870621987765 tw16788115227380959965 tw16801224666247201656 tw16823401890095989408 tw16857838391826653218 tw16904903981694346502 tw16907086045915659855 tw16941915666561142074 tw16976290596506253573 tw16987127550184917208 tw1699459384643861481 tw1706271272867290782 tw17081809424795415523 tw17085929494147113841 tw1708988054381946556 tw17095781428395581939 tw17100943900629141681 tw17123324181774959570 tw17126545143682577978 tw17156337901092474773 tw17207600290401209559 tw17251144628386408660 tw17295338333112356074 tw17320000664354296083 tw17340012533414196715 tw17416085503349691766 tw17421350517648568143 tw17467106730214056066 tw17500109263342255209 tw17505084227568514888 tw17506354852991904876 tw17527665165348679082 tw17528009127745081483 tw17536003426357513046 tw17548373686330968258 tw17558014434745573873 tw1761390058908734259 tw17657936905698388650 tw17680533322863731463 tw17693661789659321800 tw17709932995898675592 tw17711214327172388486 tw17790345154320607609 tw17795983138710528404 tw17825666960965924022 tw17846219730575062504 tw17854705138639462608 tw17856450035050959582 tw17929596499712302964 tw17944422564790410771 tw17973034000617137988 tw1799650909520812554 tw18020533875273568116 tw18108532351452022630 tw18141175839089341644 tw1818352670684737525 tw18186240824596735473 tw18226320654885666663 tw18260042529238482516 tw18276323598483414253 tw18278125904218789847 tw18321763107790442498 tw18330200065483985657 tw1835279829715969074 tw1838468172543339196 tw1884364500501581284 tw1899447441696958127 tw1924885686033020226 tw1932780237423523373 tw1971234799835409752 tw1980068432311773569 tw2046497112997489138 tw2083779062691296394 tw2104643908834454066 tw2113351782819694604 tw2140132613770104756 tw2152880826849070038 tw2168783814942381634 tw2172845975388269215 tw2204888333855881924 tw2275863031187737564 tw2276703195259177714 tw2283482100254077349 tw229100220448979409 tw2471485732072095605 tw2510327349876787944 tw2537363365803965905 tw2542646239464114005 tw2576918161088258717 tw2581248715727904929 tw259081994186713525 tw2669019411165347181 tw2692132915554691948 tw2716624984984607728 tw2733893316300947668 tw2779300988868260365 tw2793389849058426114 tw2797794749158243150 tw2836609665633916961 tw2861951427111263186 tw290114639189218193 tw2926005909885019676 tw2960114535764665552 tw298709254227062181 tw3034171773321416827 tw3041971276719284771 tw3130462363197777085 tw3133411296597831253 tw3139274527519949736 tw3152008858806828140 tw3166371376967891885 tw3168133394729499750 tw3169582355520497010 tw3188293750004854557 tw3198423493295976345 tw3209883835924219088 tw3250767559817592992 tw3300776759906018575 tw3362422459178402379 tw3395012467495605153 tw3421443756598213975 tw3434943637234484443 tw3436205121103265312 tw3450032431674025889 tw346050275739835191 tw3487732244200665322 tw3495981128717080549 tw3496278596097523972 tw3523236367807925502 tw3548557598038813000 tw3549870600603644410 tw3565201689207490108 tw3568220285661276210 tw3585728238782154383 tw3688208275587369628 tw3690814058912453542 tw3712651160461304052 tw3714342273293726944 tw3722049975364340131 tw3753427580301354416 tw3754310173318747307 tw3769885208016151384 tw3784956403486158739 tw3875744257972913143 tw3901222275375961241 tw3904827636717788180 tw396592608302049283 tw400361928633303495 tw402234942387340485 tw4027736775571399279 tw4116834222262673446 tw4124486021093661683 tw416671230012028014 tw4236153447427013932 tw42618728341224498 tw4277951279020391051 tw4278978941393470789 tw4305367920837892535 tw4320116956703846663 tw434505387803707130 tw4390781121251739785 tw4415725708064190445 tw442270107020045571 tw4425552813694356403 tw4429973847472275124 tw4510745453498558109 tw4549825053126316973 tw4587560143499400010 tw4634525111092143274 tw4664463497100276075 tw4682354432198502561 tw4686282107230161317 tw4698221625477360169 tw4720489388822919421 tw4744310995431501283 tw4749388521201969418 tw4763507576102455308 tw4791758827414605340 tw4816472518725493474 tw4849343600733213571 tw4865512564956034048 tw494545322475974918 tw5025221118973928031 tw5031238840797169050 tw507616505158400725 tw5122553053322093294 tw513949538133526318 tw5283869697178000999 tw5294405097492362006 tw5377878405349221098 tw5382861888280899055 tw5382898157978663942 tw5428675964622997711 tw5450518937554189943 tw5467312671396990486 tw5499806904651804660 tw5510571921099886066 tw55374947003230434 tw5553398738019897659 tw5576365253368023336 tw5604523072943918478 tw5654292093963526798 tw5672807895857129136 tw5716248315582302276 tw5738630149017145032 tw5768645078240847877 tw5777533932307521664 tw5778955737976750462 tw5785130670217834545 tw5818509858259037583 tw5854613838484192035 tw5923575345675537425 tw5927225663070917390 tw594463110541245792 tw5950525406940991923 tw5963672341517707987 tw5981979855227619692 tw5990946355707823921 tw6008326792642823691 tw6067054825149308493 tw6095810811823097224 tw6118857595172783394 tw6129879907677700973 tw614503398691432649 tw6150780633015098802 tw617551709223066256 tw6188613139217518151 tw6233335243489193544 tw6238635104191494733 tw6256484251493968381 tw6268434944066026695 tw6270533549133388062 tw6310518856176766813 tw6328073219716043450 tw6339592229131294122 tw6357558116854163496 tw6361270549365526962 tw6368720399413940331 tw6387874225875890596 tw6394743690934092405 tw6538572164366504525 tw6550518217889521617 tw6562696477122230063 tw6600834619535029718 tw6607440613342098929 tw6635866174470541384 tw6646193380776066491 tw6666636263570804049 tw6785367193754241376 tw6813858967136428312 tw6877760129179288074 tw6888051863463999961 tw690375849557576080 tw6941267607312194119 tw6956228160017133692 tw6972659591871877358 tw7001793669462001961 tw7010587106278255846 tw701600017664954845 tw7028816750787767405 tw7103210600942444673 tw7115420563558585701 tw7116461740273859057 tw7138497995950444354 tw7167293867548045221 tw7184048944621851268 tw7184595159533205698 tw7187148782591468369 tw7226702817196242067 tw7240051112177951532 tw7264794400659709020 tw7308287824907955548 tw733235947460183172 tw7375413295708551072 tw7398360617939430521 tw7420924914686328802 tw7420959805834578550 tw7424091395169299272 tw7426219032106344186 tw743750823576303447 tw7441136640484566979 tw7455400224192464441 tw7455717379976771279 tw749640456200403648 tw7535553736602344496 tw7550833567836829532 tw7550905947794282655 tw7553187134261530377 tw7590986213740131825 tw7622091573303703154 tw7647225792315542167 tw7649665761009228301 tw7687439250285599466 tw7707313311512337458 tw7745096708577478305 tw7776532464208878571 tw7785339336154362594 tw7800445568252266325 tw7849810153127373862 tw7858682980942861318 tw7865147520223161920 tw7872495302369581029 tw7880225998471692931 tw7925998725599875101 tw7964550935246432755 tw7990985042707993583 tw8031059363712343355 tw8083826210869081501 tw8111449335983525948 tw8124586209825905173 tw8190220596887932987 tw8196503372965759889 tw8219297585433897000 tw8237878846788471724 tw82481270887968746 tw8260434731162062497 tw8286649720018724520 tw8289308783978216125 tw8293070409761226106 tw8342384799512090108 tw8355611222562777278 tw8365046132203590042 tw8381272779312667740 tw8385333144137627535 tw8409972802171179740 tw8465674454395044929 tw8469774805629381099 tw847959842076037491 tw8483514184377196379 tw848769933047616994 tw852424642890220258 tw8570642078230103671 tw8583713523013208132 tw8597118450934431647 tw8597189491304491051 tw8619072003335681181 tw8634895012187203761 tw8691096360711153977 tw8784826415374549370 tw8785688542078261119 tw8811975455328918842 tw8866516634773761678 tw8898533366060894526 tw893061017905720142 tw8976398152959450674 tw9006987649816897992 tw9024941147061162185 tw908169585386193230 tw9084985537662958844 tw9105910834649290979 tw912666315866637045 tw9139261205082887339 tw9142359385993681018 tw9167099316752423834 tw9174315930851326103 tw9247728022259230889 tw9272244523674349369 tw9281675982221000294 tw9294637263913629672 tw9311361667011080351 tw9322632069157164947 tw9395967338852484778 tw9413475610562345890 tw9425553462146120257 tw9427336238035745795 tw9437376017372036072 tw9443085975712741039 tw9467796624447556157 tw9473164753603916961 tw9516933108935733440 tw9549822058908516873 tw9571436906166899406 tw9586551549371369197 tw962100842864962875 tw9646902405079269296 tw9667413147084161823 tw9679039675113625564 tw9696108367490376998 tw9698835942893562224 tw9702898111839220762 tw970295478431206684 tw9712541596834511159 tw9751482432730046296 tw9758606093824556858 tw9776771268102116774 tw9776959910913840813 tw9783561038011565020 tw9815381197747247708 tw9836366395781217276 tw9849442032562956034 tw9853451621693657559 tw9860638598274603938 tw9983881799149441622 tw9991479563949066306:True)
open PySem PySem.W PyProof.Rows
set_option maxRecDepth 100000 in
set_option maxHeartbeats 0 in
theorem PySem.Challenge.cw_cutyard_k72_tried_holds : PySem.Challenge.rw_cutyard_k72_tried.Holds := by
 w_on;o_law;o_head (kHook Kx.KK (2::3::52::71::90::109::188::189::195::196::200::201::341::342::795::796::800::801::807::808::814::815::821::822::828::829::835::836::842::843::847::848::854::855::859::860::866::867::873::874::878::879::883::884::890::891::897::898::911::912::932::933::944::945::951::952::965::966::972::973::979::980::986::987::988::989::990::991::992::1000::1001::1007::1008::1014::1015::1021::1022::1028::1029::1033::1034::1038::1039::1045::1046::1052::1053::1057::1058::[]) (λ_=>by kernel_rfl));(case hw=>w_witness2)
 k_fill
 refine Kx.walk (l:=PySem.Challenge.rw_cutyard_k72_tried) rfl rfl (by decide +kernel) (λw h Y=>kIn_of Y) (λw=>?N1) ?F
 (case N1=>kernel_rfl)
 case F=>
  intro w mg fa h KX G Qu;refine' Kx.all_mk KX G Qu ?Ox ?a1 ?a2 ?a3 ?a4 ?a5 ?a6 ?a7 ?a8 ?a9 ?a10 ?a11 ?a12 ?a13 ?a14 ?a15 ?a16 ?a17 ?a18 ?a19 ?a20 ?a21 ?a22 ?a23 ?a24 ?a25 ?a26 ?a27 ?a28 ?a29 ?a30 ?a31 ?a32 ?a33 ?a34 ?a35 ?UK ?UL ?UM ?UN ?UO ?UP ?UQ ?UR ?US ?SF ?UT ?UU ?UW ?UX ?SG ?UY ?UZ ?U0 ?U1 ?SH ?OI ?OJ ?OK ?OL ?OM ?ON ?NJ ?NH ?Py ?Pz ?OO ?PB ?NB ?PH ?Oc ?PL ?NC ?Od ?OP ?Nx ?NQ ?NR ?PM ?NK
  (case Ox=>k_is);(case OI=>k_is);(case OJ=>k_is);(case OK=>k_is);(case OL=>k_is);(case OM=>k_is);(case ON=>k_is);(case NJ=>k_is);(case NH=>k_is)
  (case UK=>k_is);(case UL=>k_is);(case UM=>k_is);(case UN=>k_is);(case UO=>k_is)
  (case UP=>k_is);(case UQ=>k_is);(case UR=>k_is);(case US=>k_is);(case SF=>k_is)
  (case UT=>k_is);(case UU=>k_is);(case UW=>k_is);(case UX=>k_is);(case SG=>k_is)
  (case UY=>k_is);(case UZ=>k_is);(case U0=>k_is);(case U1=>k_is);(case SH=>k_is)
  (case Py=>k_is)
  (case Pz=>k_is)
  (case OO=>k_is)
  (case PB=>k_is)
  (case NB=>k_is)
  (case PH=>k_is)
  (case Oc=>k_is)
  (case PL=>k_is)
  (case NC=>k_is)
  (case Od=>k_is)
  (case OP=>k_is)
  (case Nx=>k_is)
  (case NQ=>k_is)
  (case NR=>k_is)
  (case PM=>k_is)
  (case NK=>k_is)
  all_goals (refine' L2.Has.of ?a ?l ?c;(case a=>k_is);(case l=>k_is);(case c=>k_is))

