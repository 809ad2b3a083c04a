import PyProof.Rows.All
import Wide.All
import OpenK.AllK
import Wide.FinOn
import Lean
import PyProof.EqAt
import PyProof.EqKinds
import PyProof.TupleCall
import PyProof.NeKinds
import KE.KLam
import KE.KMinKey
import KE.KSortTup
import PyProof.AutoListH
import PyProof.MeetsStr
import PyProof.StrLawsJoin
import PyProof.FitsReplace
import PyProof.Rows.TupDisplay
import PyProof.ListRange
import PyProof.ZipIter
import PyProof.ListNew
import KE.KSortKey
import PyProof.StationsW
import PyProof.ExcClass2
import PyProof.ExcInit
import PyProof.ExcBaseAll.ValueError
import PyProof.RulesAs
import PyProof.NsDelKeeps
import PyProof.ExcAttrAll.ValueError
import PyProof.IsiBase
import KE.KIsAll
import PyProof.InstStoreFacts
import PyProof.Rows.SetFrom
import PyProof.SetRoads
import KE.KRevIter
import PySem.Challenge.RW_cutyard_k31_rays_back
open PySem.W (instObj methodObj Frag lookIn InstAt plainGet hasDictIn findIn handedIn plainGet_of isFn plainOver takerIn makesIn typeIn emptyDict keepIn callWith_K cellsFrom_some fnOf codeIn kIn_of mg_of nsIn mg_none_of)
set_option Elab.async false
set_option linter.all false
set_option maxRecDepth 100000
abbrev ad(x:PySem.Str):Prop:=(x==("__classdict__":PySem.Str))=false
abbrev ab(x:PySem.Str):Prop:=(x==("__debug__":PySem.Str))=false
abbrev JT:=@List.length_map
abbrev JU:=@List.getElem?_append_right
abbrev JV:=@List.getElem?_append_left
abbrev JW:=@List.length_append
abbrev JX:=@List.length_set
abbrev JY:=@PySem.wpAny_bind
abbrev JZ:=@if_neg
abbrev J0:=@List.mem_of_getElem?
abbrev J1:=@List.mem_cons_of_mem
abbrev J2:=@List.mem_cons_self
abbrev J3:=@Nat.le_refl
abbrev J4:=@PySem.Heap.get?_push_of_some
abbrev J5:=@List.mem_singleton
abbrev J6:=@List.getD_eq_getElem?_getD
abbrev J7:=@List.getElem?_map
abbrev J8:=@PyProof.Rows.boot_tuple
abbrev J9:=@if_pos
abbrev Ka:=@List.size_toArray
abbrev Kb:=@List.length_cons
abbrev Kc:=@List.append_assoc
abbrev Kd:=@List.mem_cons
abbrev Ke:=@PySem.Heap.get?_push_size
abbrev Kf:=@List.mem_map
abbrev Kg:=@List.length_replicate
abbrev Kh:=@List.getElem?_set_ne
abbrev Ki:=@PySem.PassesOwn.never
abbrev Kj:=@List.getElem?_set_self
abbrev Kk:=@PySem.Heap.lt_size
abbrev Kl:=@Nat.le_trans
abbrev Km:=@List.length_range
abbrev Kn:=@List.map_cons
abbrev Ko:=@List.mem_of_find?_eq_some
abbrev Kp:=@List.nodup_cons
abbrev Kq:=@List.lookup_cons
abbrev Kr:=@PySem.wpAny_pure
abbrev Ks:=@List.mem_append
abbrev Kt:=@List.mem_range
abbrev Ku:=@decide_eq_false
abbrev Kv:=@Option.some.inj
abbrev Kw:=@Nat.sub_self
abbrev Kz:=@List.append_nil
abbrev KA:=@List.length_singleton
abbrev KC:=@beq_self_eq_true
abbrev KD:=@Nat.ne_of_lt
abbrev KG:=@Bool.false_ne_true
abbrev KH:=@PySem.boot_len
abbrev KI:=@List.getElem?_eq_none
abbrev KJ:=@Nat.lt_of_lt_of_le
abbrev KL:=@List.mem_filter
abbrev KN:=@List.flatten_cons
abbrev KO:=@congrArg
abbrev KP:=@Nat.lt_or_ge
abbrev KQ:=@List.map_map
abbrev KR:=@List.mem_append_right
abbrev KS:=@PySem.Heap.size_push
abbrev KU:=@List.getElem?_eq_getElem
abbrev KW:=@Int.zero_add
abbrev KY:=@List.getElem?_of_mem
abbrev KZ:=@decide_eq_true
abbrev K0:=@Int.toNat_natCast
abbrev K1:=@List.getElem?_eq_some_iff
abbrev K2:=@PySem.wpAny_loadPart'
abbrev K3:=@Nat.not_lt_zero
abbrev K4:=@PyProof.Rows.callWith_type1
abbrev K5:=@Ne.symm
abbrev K6:=@PySem.mem_of_lookup
abbrev K7:=@List.replicate_succ
abbrev K8:=@List.length_take
abbrev K9:=@of_decide_eq_true
abbrev La:=@Classical.byContradiction
abbrev Lb:=@Nat.pow_le_pow_right
abbrev Lc:=@List.map_append
abbrev Ld:=@List.find?_cons_of_neg
abbrev Le:=@PySem.W.mg_none_of
abbrev Lf:=@List.ext_getElem?
abbrev Lg:=@List.nodup_append
abbrev Lh:=@List.length_filter_le
abbrev Li:=@of_decide_eq_false
abbrev Lj:=@List.getElem?_replicate
abbrev Lk:=@List.length_eq_zero_iff
abbrev Ll:=@Nat.add_sub_cancel_left
abbrev Lm:=@Int.eq_ofNat_of_zero_le
abbrev Ln:=@List.all_eq_true
abbrev Lo:=@Nat.le_of_lt
abbrev Lq:=@List.length_eraseIdx_of_lt
abbrev Lr:=@List.length_reverse
abbrev Ls:=@List.length_nil
abbrev Lu:=@PyProof.Rows.boot_int
abbrev Lv:=@List.eq_of_mem_replicate
abbrev Lw:=@Nat.lt_irrefl
abbrev Lx:=@PySem.wpAny_field
abbrev Ly:=@Nat.pow_lt_pow_right
abbrev Lz:=@PySem.F.plainAttrs_list
abbrev LA:=@Nat.zero_le
abbrev LB:=@List.find?_cons_of_pos
abbrev LC:=@PySem.wpAny_mono
abbrev LD:=@List.not_mem_nil
abbrev LF:=@List.take_length
abbrev LG:=@Int.le_refl
abbrev LH:=@List.find?_cons
abbrev LI:=@List.set_append_left
abbrev LJ:=@List.map_set
abbrev LK:=@Nat.mul_le_mul_right
abbrev LL:=@List.getElem?_replicate_of_lt
abbrev LM:=@PySem.wpAny_callSpecial?_slot
abbrev LN:=@beq_eq_false_iff_ne
abbrev LO:=@List.getElem?_range
abbrev LP:=@Bool.false_and
abbrev LQ:=@Bool.and_eq_true
abbrev LR:=@Bool.and_false
abbrev LS:=@PySem.wpAny_seqItems
abbrev LU:=@List.getElem_mem
abbrev LV:=@Nat.lt_of_le_of_lt
abbrev LW:=@PySem.wpAny_setField_rec
abbrev LX:=@Int.zero_mul
abbrev LY:=@PySem.wpAny_passesOwn
abbrev LZ:=@List.of_mem_zip
abbrev L0:=@PySem.wpAny_holding
abbrev L1:=@List.any_cons
abbrev L3:=@PySem.F.slot_tuple_iterator_next
abbrev L4:=@PySem.wpAny_truthy_bool
abbrev L5:=@Nat.lt_succ_of_lt
abbrev L6:=@List.foldl_append
abbrev L7:=@List.mem_append_left
abbrev L8:=@PySem.call_meets
abbrev L9:=@Nat.lt_succ_self
abbrev Ma:=@List.mem_reverse
abbrev Mb:=@List.filterMap_cons
abbrev Mc:=@List.mem_filterMap
abbrev Md:=@PySem.wpAny_pyIter_tuple
abbrev Me:=@List.range_succ
abbrev Mf:=@List.mem_eraseIdx_iff_getElem?
abbrev Mg:=@List.take_of_length_le
abbrev Mh:=@List.pairwise_lt_range
abbrev Mi:=@List.getElem?_zipWith
abbrev Mj:=@Decidable.em
abbrev Ml:=@List.set_append_right
abbrev Mm:=@PyProof.Rows.boot_abs
abbrev Mn:=@beq_iff_eq
abbrev Mo:=@PySem.wpAny_call_entry
abbrev Mp:=@PySem.F.slot_tuple_mul
abbrev Mq:=@PySem.sizeLine_eq
abbrev Mr:=@Array.length_toList
abbrev Ms:=@List.nil_append
abbrev Mt:=@List.getElem?_zip_eq_some
abbrev Mu:=@List.getElem?_eq_none_iff
abbrev Mv:=@List.mem_or_eq_of_mem_set
abbrev Mw:=@PySem.wpAny_Call_Name_kw
abbrev Mx:=@List.getElem?_take_of_lt
abbrev Mz:=@PySem.F.args_tuple_add_2
abbrev MA:=@PySem.AutoSeq1.sub_tuple_tuple
abbrev MB:=@PySem.F.slot_list_append
abbrev MC:=@PySem.F.type_list_append
abbrev MD:=@List.filter_append
abbrev ME:=@List.pairwise_cons
abbrev MF:=@List.mem_of_mem_eraseIdx
abbrev MG:=@List.set_cons_zero
abbrev MH:=@Nat.mul_le_mul
abbrev MI:=@PySem.F.entry_tuple_add
abbrev MJ:=@List.filter_cons_of_pos
abbrev MK:=@List.filter_cons_of_neg
abbrev ML:=@PySem.wpAny_pyIter_list
abbrev MM:=@PySem.wpAny_pyNext_list_item
abbrev MN:=@PySem.F.slot_tuple_add
abbrev MO:=@Option.map_eq_some_iff
abbrev MP:=@PySem.Paired.length
abbrev MQ:=@List.cons.inj
abbrev MR:=@List.take_succ_eq_append_getElem
abbrev MS:=@List.any_eq_true
abbrev MT:=@Nat.le_add_right
abbrev MU:=@List.mem_flatMap
abbrev MV:=@PySem.wpAny_pyNext_list_end
abbrev MW:=@Nat.add_sub_add_right
abbrev MX:=@PyProof.Rows.boot_max
abbrev MY:=@PyProof.Rows.boot_all
abbrev MZ:=@List.eraseIdxIfInBounds_toArray
abbrev M0:=@List.eraseIdx_eq_take_drop_succ
abbrev M1:=@PySem.wpAny_execs_nil
abbrev M3:=@PySem.F.slot_int_rmul
abbrev M4:=@Nat.lt_trans
abbrev M5:=@List.forIn_cons
abbrev M6:=@PySem.wpAny_updateSeq_pair
abbrev M7:=@PySem.F.slot_zip_next
abbrev M8:=@PySem.call_isinstance
abbrev M9:=@beq_false_of_ne
abbrev Na:=@Int.mul_zero
abbrev Nb:=@PySem.F.args_tuple_iterator_next_1
abbrev Nc:=@Int.natAbs_mul
abbrev Nd:=@List.dropLast_concat_getLast
abbrev Nf:=@Int.mul_nonneg
abbrev Ng:=@PySem.tupleKind_room_in1
abbrev Nh:=@List.lookup_append
abbrev Ni:=@PySem.F.entry_tuple_iterator_next
abbrev Nj:=@List.getElem?_drop
abbrev Nk:=@PySem.F.args_tuple_mul_2
abbrev Nl:=@Int.emod_lt_of_pos
abbrev Nm:=@List.set_cons_succ
abbrev Nn:=@PySem.wpAny_standAt
abbrev Np:=@PySem.wpAny_onRaise
abbrev Nq:=@PySem.wpAny_newObj_type
abbrev Nr:=@decide_eq_true_eq
abbrev Nt:=@PySem.F.entry_tuple_mul
abbrev Nu:=@PySem.typeIs_int
abbrev Nv:=@List.drop_eq_getElem_cons
abbrev Nw:=@Int.natAbs_ediv_le_natAbs
abbrev Nx:=@if_true
abbrev Ny:=@Nat.le_of_eq
abbrev Nz:=@PySem.codeAny_mono
abbrev NA:=@PySem.noFill_tuple_add
abbrev NB:=@List.length_drop
abbrev NC:=@Nat.mul_comm
abbrev ND:=@PySem.AutoSeq1.idx_int
abbrev NG:=@List.mem_flatten
abbrev NH:=@List.map_zipWith
abbrev NI:=@List.map_reverse
abbrev NJ:=@Int.add_zero
abbrev NK:=@List.length_erase_of_mem
abbrev NL:=@List.map_zip_eq_zipWith
abbrev NM:=@List.getElem?_cons_succ
abbrev NN:=@Bool.eq_iff_iff
abbrev NO:=@PySem.wpAny_ite_false
abbrev NP:=@List.length_zip
abbrev NQ:=@Int.emod_nonneg
abbrev NR:=@List.find?_some
abbrev NS:=@Nat.add_mul
abbrev NT:=@List.length_pos_of_mem
abbrev NU:=@List.forIn_nil
abbrev NV:=@PyProof.Rows.boot_sum
abbrev NW:=@List.pairwise_reverse
abbrev NX:=@Int.natAbs_neg
abbrev NY:=@PyProof.Rows.boot_any
abbrev NZ:=@List.countP_le_length
abbrev N0:=@or_false
abbrev N3:=@List.all_cons
abbrev N4:=@Nat.ne_of_gt
abbrev N5:=@Int.le_of_lt
abbrev N6:=@List.any_map
local macro_rules|`(tactic|ac_rfl)=>`(tactic|exact⟨rfl,rfl,rfl,by decide +kernel,rfl,by decide +kernel,by decide +kernel⟩)
local macro_rules|`(tactic|lia)=>`(tactic|decide +kernel)
local macro_rules|`(tactic|nofun)=>`(tactic|first|exact Or.inl rfl|exact Or.inr (Or.inl rfl)|exact Or.inr (Or.inr rfl)|exact .inr rfl|assumption)
theorem Wq{c:Sort _}{a:c}{b:Prop}:a=a\/b:=.inl rfl
abbrev Wr:PySem.Str:="_law_pool_here"
abbrev Ws:PySem.Str:="_law_spot"
abbrev Wt:PySem.Str:="_law_many"
abbrev Wu:PySem.Str:="_law_plan"
abbrev Wv:PySem.Str:="_law_rows_here"
abbrev Ww:PySem.Str:="_law_entries"
abbrev Wx:PySem.Str:="_law_count"
abbrev Wz:PySem.Str:="_law_told"
abbrev WA:PySem.Str:="_law_ray"
abbrev WB:PySem.Str:="_law_struck"
abbrev WC:PySem.Str:="_law_bounds_here"
abbrev WD:PySem.Str:="_law_k"
abbrev WE:PySem.Str:="_law_script"
abbrev WG:PySem.Str:="_law_one"
abbrev WH:PySem.Str:="_law_number"
abbrev WI:PySem.Str:="_law_least"
abbrev WJ:PySem.Str:="_law_most"
abbrev WK:PySem.Str:="_law_bound"
abbrev WL:PySem.Str:="_law_far_here"
abbrev WM:PySem.Str:="_law_opens"
abbrev WN:PySem.Str:="_law_shift"
abbrev WO:PySem.Str:="_law_times"
abbrev WQ:PySem.Str:="_law_factor"
abbrev WR:PySem.Str:="_law_draw"
abbrev WS:PySem.Str:="_law_wholes"
abbrev WT:PySem.Str:="_law_size"
abbrev WU:PySem.Str:="_law_whole"
abbrev WV:PySem.Str:="_law_hung"
abbrev WW:PySem.Str:="_law_wide"
abbrev WX:PySem.Str:="_law_givens"
abbrev WY:PySem.Str:="_law_i"
abbrev WZ:PySem.Str:="_law_plan_is"
abbrev W0:PySem.Str:="_law_kept"
abbrev W2:PySem.Str:="_law_goes"
abbrev W3:PySem.Str:="_law_at"
abbrev W4:PySem.Str:="_law_shifts"
abbrev W5:PySem.Str:="_law_bounds"
abbrev W6:PySem.Str:="_law_fields"
abbrev W7:PySem.Str:="_law_window"
abbrev W8:PySem.Str:="_law_moved"
abbrev W9:PySem.Str:="_law_rays_here"
abbrev Xa:PySem.Str:="_law_small"
abbrev Xb:PySem.Str:="_law_pool"
abbrev Xc:PySem.Str:="_law_rows"
abbrev Xd:PySem.Str:="_law_rays"
abbrev Xe:PySem.Str:="_law_back"
abbrev Xf:PySem.Str:="_law_seen"
namespace L2
open PySem PySem.Spec PyProof.Rows
abbrev aC:=Sum Int Str
def jW:aC->Value->Bool
 |.inl k,v=>Value.isInt k v
 |.inr x,v=>Value.isStrOf x v
def FV(w:World):aC->Int
 |.inl k=>hashInt k
 |.inr x=>hashStr w x
def iO:∀{k:aC}{v:Value},jW k v=true->(∃i t,k=Sum.inl i/\v=Value.int i t)\/(∃x t,k=Sum.inr x/\v=Value.str x t)
 |.inl i,v,h=>by obtain⟨t,e⟩:=Value.isInt_shape (k:=i) (v:=v) h;exact .inl ⟨i,t,rfl,e⟩
 |.inr x,v,h=>by obtain⟨t,e⟩:=Value.isStrOf_shape (x:=x) (v:=v) h;exact .inr ⟨x,t,rfl,e⟩
def Fh(i:Int)(t:Tok):jW (.inl i) (.int i t)=true:=by simp[jW,Value.isInt]
def Jk(x:Str)(t:Tok):jW (.inr x) (.str x t)=true:=by simp[jW,Value.isStrOf]
def Cs(a b:Int):decide ((Sum.inl a:aC)=Sum.inl b)=(a==b):=by
 by_cases e:a=b
 ·subst e;simp
 ·have h:¬ (Sum.inl a:aC)=Sum.inl b:=λq=>e (Sum.inl.inj q);rw[Ku h];exact (LN.mpr e).symm
def Fd(a b:Str):decide ((Sum.inr a:aC)=Sum.inr b)=decide (a=b):=by
 by_cases e:a=b
 ·subst e;simp
 ·have h:¬ (Sum.inr a:aC)=Sum.inr b:=λq=>e (Sum.inr.inj q);rw[Ku h,Ku e]
def yt(a:Int)(b:Str):decide ((Sum.inl a:aC)=Sum.inr b)=false:=Ku (λq=>nomatch q)
def Ax(a:Str)(b:Int):decide ((Sum.inr a:aC)=Sum.inl b)=false:=Ku (λq=>nomatch q)
def fD(prog:Program)(w:World):PySem.KeyKind prog w aC where
 is:=jW
 hash:=FV w
 inj:=λv a b g f=>by
  rcases iO g with⟨i,t,rfl,rfl⟩|⟨x,t,rfl,rfl⟩
  ·rcases iO f with⟨j,u,rfl,e⟩|⟨y,u,rfl,e⟩
   ·injection e with e1 _;rw[e1]
   ·exact nomatch e
  ·rcases iO f with⟨j,u,rfl,e⟩|⟨y,u,rfl,e⟩
   ·exact nomatch e
   ·injection e with e1 _;rw[e1]
 byValue:=λk v h=>by rcases iO h with⟨i,t,rfl,rfl⟩|⟨x,t,rfl,rfl⟩<;>rfl
 pyHash:=λc h=>by
  rcases iO c with⟨i,t,rfl,rfl⟩|⟨x,t,rfl,rfl⟩
  ·exact wpAny_pyHash_int h
  ·exact wpAny_pyHash_str h
 eqBool:=λl c h=>by
  rcases iO l with⟨i,t,rfl,rfl⟩|⟨x,t,rfl,rfl⟩
  ·rcases iO c with⟨j,u,rfl,rfl⟩|⟨y,u,rfl,rfl⟩
   ·rw[Cs]at h;exact wpAny_eqBool_int h
   ·rw[yt]at h;exact SeqAt.EqAt.int_str i t y u _ _ _ _ h
  ·rcases iO c with⟨j,u,rfl,rfl⟩|⟨y,u,rfl,rfl⟩
   ·rw[Ax]at h;exact SeqAt.EqAt.str_int x t j u _ _ _ _ h
   ·rw[Fd]at h;exact wpAny_eqBool_str h
 «strs»:=λk x t v h=>by
  rcases iO h with⟨i,u,rfl,e⟩|⟨y,u,rfl,e⟩
  ·exact nomatch e
  ·injection e with e1 _;subst e1;cases v<;>rfl
def Fb(prog:Program)(w:World)(i:Int)(t:Tok):(fD prog w).is (.inl i) (.int i t)=true:=Fh i t
def z9(prog:Program)(w:World)(x:Str)(t:Tok):(fD prog w).is (.inr x) (.str x t)=true:=Jk x t
inductive V where
 |non|bl (b:Bool)|int (i:Int)|str (x:Str)|byt (b:Array UInt8)|flt (b:UInt64)|ref (a:Addr)|ty (n:String)
 deriving DecidableEq
def RelV:V->Value->Prop
 |.non,u=>u=Value.none
 |.bl b,u=>u=Value.bool b
 |.int i,u=>∃t,u=Value.int i t
 |.str x,u=>∃t,u=Value.str x t
 |.byt b,u=>∃t,u=Value.bytes b t
 |.flt b,u=>∃t,u=Value.float b t
 |.ref a,u=>u=Value.ref a
 |.ty n,u=>u=Value.type n
abbrev Vals:List V->List Value->Prop:=Paired RelV
def Vals.length{xs:List V}{us:List Value}(r:Vals xs us):xs.length=us.length:=MP r
def Vals.get:∀{xs:List V}{us:List Value}{i:Nat}{x:V},Vals xs us->xs[i]?=some x->∃u,us[i]?=some u/\RelV x u
 |_,_,_,_,.nil,e=>by simp at e
 |_,_,0,_,.cons r _,e=>by simp at e;subst e;exact⟨_,rfl,r⟩
 |_,_,i+1,x,.cons _ t,e=>by obtain⟨u,a,c⟩:=Vals.get (i:=i) (x:=x) t (by simpa using e);exact⟨u,by simpa using a,c⟩
def Vals.set{x:V}{u:Value}(r:RelV x u):∀{xs:List V}{us:List Value}(i:Nat),Vals xs us->Vals (xs.set i x) (us.set i u)
 |_,_,_,.nil=>.nil
 |_,_,0,.cons _ t=>.cons r t
 |_,_,i+1,.cons q t=>.cons q (Vals.set r i t)
def Vals.append:∀{xs ys:List V}{us a:List Value},Vals xs us->Vals ys a->Vals (xs++ys) (us++a)
 |_,_,_,_,.nil,s=>s
 |_,_,_,_,.cons r t,s=>.cons r (Vals.append t s)
def Vals.take:∀{xs:List V}{us:List Value}(n:Nat),Vals xs us->Vals (xs.take n) (us.take n)
 |_,_,0,_=>.nil
 |_,_,_+1,.nil=>.nil
 |_,_,n+1,.cons r t=>.cons r (Vals.take n t)
def Vals.drop:∀{xs:List V}{us:List Value}(n:Nat),Vals xs us->Vals (xs.drop n) (us.drop n)
 |_,_,0,r=>r
 |_,_,_+1,.nil=>.nil
 |_,_,n+1,.cons _ t=>Vals.drop n t
def RelO:Option V->Option Value->Prop
 |some v,some u=>RelV v u
 |none,none=>True
 |_,_=>False
def KV{a:Type}:List (a×V)->List (a×Value)->Prop:=Paired λ(p:a×V)(q:a×Value)=>p.1=q.1/\RelV p.2 q.2
def kV:aC->V
 |.inl i=>.int i
 |.inr x=>.str x
inductive HO where
  |lst (xs:List V)
  |tup (xs:List V)
  |dK (Oc:List (aC×V))|dT (Oc:List (List aC×V))
  |set (S:Int->Bool) (n:Nat)
  |ins (C dx:Addr) (fs:List (Str×V))
  |own (x:Addr)
  |xd (fs:List (Str×V))
  |met (f x:Addr)
  |rng (lo hi:Int)
  |frz (o:Obj) (u:HO)
  |tbl (ps:Array Value)
  |ext (φ:Heap->Prop)
abbrev Hp:=Addr->Option HO
def au(H:Hp)(a:Addr)(o:HO):Hp:=λb=>if b=a then some o else H b
def br{H:Hp}{a:Addr}{o:HO}:au H a o a=some o:=by unfold au;rw[J9 rfl]
def ba{H:Hp}{a b:Addr}{o:HO}(h:b≠a):au H a o b=H b:=by unfold au;rw[JZ h]
def IV{H:Hp}{a:Addr}{o u:HO}:au (au H a o) a u=au H a u:=by
 funext b;unfold au;split<;>rfl
def Eh{H:Hp}{a b:Addr}{o u:HO}(h:H a=some o)(h':H b=some u)(d:o≠u):a≠b:=by intro e;subst e;rw[h]at h';exact d (Kv h')
def dc{H:Hp}{a b:Addr}{o:HO}(h:H a=some o)(h':H b=none):a≠b:=by intro e;subst e;rw[h]at h';cases h'
def IsTupD(h:Heap)(a:Addr)(c:Array Value):Prop:=∃o,h.get? a=some o/\(o.cls=.type "tuple"/\o.dict=none)/\∃n,o.data=.seq c n
def IsTupD.tup{h:Heap}{a:Addr}{f:Array Value}(x:IsTupD h a f):IsTup h a f:=let ⟨o,e,c,d⟩:=x;⟨o,e,c.1,d⟩
def IsTupD.lt{h:Heap}{a:Addr}{c:Array Value}(x:IsTupD h a c):a<h.objs.size:=x.tup.lt
def IsTupD.new(h:Heap)(a:Array Value):IsTupD (h.push { cls:=.type "tuple",data:=.seq a }) h.objs.size a:=⟨_,Ke _ rfl,⟨rfl,rfl⟩,_,rfl⟩
section
variable(P:Program)(w:World)
def ObjOk(H:Hp)(h:Heap)(a:Addr):HO->Prop
 |.lst xs=>xs.length<=sizeLine/\∃(its:List Value)(n:Nat),Vals xs its/\h.get? a=some { cls:=.type "list",data:=.seq its.toArray n }
 |.tup xs=>xs.length<=sizeLine/\∃its:List Value,Vals xs its/\IsTupD h a its.toArray
 |.dK g=>g.length<=sizeLine/\(a==sysModules)=false/\∃vs,KV g vs/\h.DictOf (fD P w) a vs
 |.dT g=>g.length<=sizeLine/\(a==sysModules)=false/\∃xs:List (List aC×Addr×Value),
   Paired (λ(p:List aC×V)(q:List aC×Addr×Value)=>p.1=q.1/\H q.2.1=some (.tup (p.1.map kV))/\RelV p.2 q.2.2) g xs /\
   ∃o es A,h.get? a=some o/\o.ExactDict/\o.data=.dict es A/\es.toList=xs.map (entryOfKey (tupleKind (fD P w)))/\(xs.map (·.1)).Nodup
 |.set S n=>h.SetOf (intKind P w) a S n
 |.ins C j fs=>H j=some (.own a)/\fs.length<=1000/\j≠a/\h.get? a=some (instObj C j) /\
   ∃e,h.Ns1 j e/\(∀f,RelO (fs.lookup f) (e f))/\PySem.Within e (fs.map (·.1))
 |.own _=>∃o,h.get? a=some o
 |.xd fs=>∃e,h.Ns1 a e/\∀f,RelO (fs.lookup f) (e f)
 |.rng lo B=>∃t u v,h.get? a=some { cls:=.type "range",data:=.fields #[.int lo t,.int B u,.int 1 v] }
 |.frz o u=>h.get? a=some o/\ObjOk H h a u
 |.tbl ps=>h.get? a=some { cls:=.none,data:=.fields #[] }\/∃(c:Addr)(o:Obj)(vs:Array Value)(x y:Value)(q:Str)(t t':Tok),ps=#[x,y,.str q t]/\H c=some (.frz o (.own a)) /\
   h.get? a=some { cls:=.none,data:=.fields #[x,y,.ref c] }/\o.data=.fields vs/\vs[1]?=some (.str q t')
 |.met f x=>h.get? a=some (methodObj (.ref f) (.ref x))
 |.ext l=>l h/\(∃o,h.get? a=some o)/\∀r z:Heap,l r->(∀o,r.get? a=some o->z.get? a=some o)->l z
def HOk(H:Hp)(h:Heap):Prop:=∀a o,H a=some o->ObjOk P w H h a o
end
section
variable{P:Program}{w:World}{H g:Hp}{h h':Heap}{a:Addr}{o:HO}
def ObjOk.lt(x:ObjOk P w H h a o):a<h.objs.size:=by
 cases o with
 |lst xs=>obtain⟨_,_,_,_,e⟩:=x;exact Kk e
 |tup xs=>obtain⟨_,_,_,p⟩:=x;exact p.lt
 |dK c=>obtain⟨_,_,_,_,o,_,_,e,_⟩:=x;exact Kk e
 |dT c=>obtain⟨_,_,_,_,o,_,_,e,_⟩:=x;exact Kk e
 |set S n=>obtain⟨o,_,_,_,e,_⟩:=x;exact Kk e
 |ins C j fs=>obtain⟨_,_,_,e,_⟩:=x;exact Kk e
 |own y=>obtain⟨_,e⟩:=x;exact Kk e
 |xd fs=>obtain⟨_,⟨_,_,_,e,_⟩,_⟩:=x;exact Kk e
 |rng lo l=>obtain⟨_,_,_,e⟩:=x;exact Kk e
 |frz r u=>obtain⟨e,_⟩:=x;exact Kk e
 |tbl ps=>rcases x with x|⟨_,_,_,_,_,_,_,_,_,_,x,_⟩<;>exact Kk x
 |met f y=>exact Kk (show h.get? a=some _ from x)
 |ext v=>obtain⟨_,⟨_,e⟩,_⟩:=x;exact Kk e
def Paired.mapP{c e:Type}{F G:c->e->Prop}:∀{l₁:List c}{l₂:List e},Paired F l₁ l₂->(∀a b,F a b->G a b)->Paired G l₁ l₂
 |_,_,.nil,_=>.nil
 |_,_,.cons r t,f=>.cons (f _ _ r) (Paired.mapP t f)
def ObjOk.stay(x:ObjOk P w H h a o)(k:∀b u,(b=a\/H b=some (.own a))->h.get? b=some u->h'.get? b=some u)
  (L:∀b,H b=some (.own a)->g b=some (.own a)) (M:∀b xs,H b=some (.tup xs)->g b=some (.tup xs)) (K:∀b o u,H b=some (.frz o u)->g b=some (.frz o u)):ObjOk P w g h' a o:=by
 induction o with
 |lst xs=>obtain⟨z,its,n,r,e⟩:=x;exact⟨z,its,n,r,k _ _ (.inl rfl) e⟩
 |tup xs=>obtain⟨z,its,r,j,e,c⟩:=x;exact⟨z,its,r,j,k _ _ (.inl rfl) e,c⟩
 |dK F=>obtain⟨z,y,vs,r,j,es,l,e,c⟩:=x;exact⟨z,y,vs,r,j,es,l,k _ _ (.inl rfl) e,c⟩
 |dT F=>
  obtain⟨z,y,xs,r,j,es,l,e,c⟩:=x;exact⟨z,y,xs,Paired.mapP r λp q z=>⟨z.1,M _ _ z.2.1,z.2.2⟩,j,es,l,k _ _ (.inl rfl) e,c⟩
 |set S n=>obtain⟨j,es,l,t,e,c⟩:=x;exact⟨j,es,l,t,k _ _ (.inl rfl) e,c⟩
 |ins C O fs=>
  obtain⟨d,z,ne,e,B,⟨E,es,l,A,c⟩,r⟩:=x;exact⟨L _ d,z,ne,k _ _ (.inl rfl) e,B,⟨E,es,l,k _ _ (.inr d) A,c⟩,r⟩
 |own y=>obtain⟨j,e⟩:=x;exact⟨j,k _ _ (.inl rfl) e⟩
 |xd fs=>obtain⟨B,⟨E,es,l,e,c⟩,r⟩:=x;exact⟨B,⟨E,es,l,k _ _ (.inl rfl) e,c⟩,r⟩
 |rng lo Q=>obtain⟨t,u,v,e⟩:=x;exact⟨t,u,v,k _ _ (.inl rfl) e⟩
 |frz j u N=>obtain⟨e,q⟩:=x;exact⟨k _ _ (.inl rfl) e,N q⟩
 |tbl ps=>
  rcases x with x|⟨c,o,vs,y,z,q,t,t',G,A,I,J⟩
  ·exact .inl (k a _ (.inl rfl) x)
  ·exact .inr ⟨c,o,vs,y,z,q,t,t',G,K _ _ _ A,k a _ (.inl rfl) I,J⟩
 |met f y=>
  have e:h.get? a=some (methodObj (.ref f) (.ref y)):=x;show h'.get? a=some (methodObj (.ref f) (.ref y));exact k a _ (.inl rfl) e
 |ext R=>obtain⟨p,⟨o,e⟩,st⟩:=x;exact⟨st _ _ p λo q=>k _ _ (.inl rfl) q,⟨o,k _ _ (.inl rfl) e⟩,st⟩
def HOk.lt(x:HOk P w H h)(e:H a=some o):a<h.objs.size:=(x a o e).lt
def HOk.fresh(x:HOk P w H h)(e:h.objs.size<=a):H a=none:=by
 cases q:H a with
 |none=>rfl
 |some u=>exact absurd (KJ (x.lt q) e) (Lw _)
def HOk.kept(x:HOk P w H h)(k:∀b u,h.get? b=some u->h'.get? b=some u):HOk P w H h':=λa o e=>
 (x a o e).stay (λb u _ q=>k b u q) (λ_ q=>q) (λ_ _ q=>q) λ_ _ _ q=>q
def HOk.laid(x:HOk P w H h)(k:∀b u,h.get? b=some u->h'.get? b=some u)(l:h.objs.size<=a)(new:ObjOk P w (au H a o) h' a o):HOk P w (au H a o) h':=λb u e=>by
 have f:=x.fresh l;by_cases j:b=a
 ·subst j;rw[br]at e;cases e;exact new
 ·rw[ba j]at e
  exact (x b u e).stay (λc v _ q=>k c v q) (λc q=>by rwa[ba (dc q f)]) (λc xs q=>by rwa[ba (dc q f)]) λc p r q=>by rwa[ba (dc q f)]
end
def Rd(H:Hp)(a:Addr)(u:HO):Prop:=H a=some u\/∃o,H a=some (.frz o u)
def Rd.ok{P:Program}{w:World}{H:Hp}{h:Heap}{a:Addr}{u:HO}(r:Rd H a u)(x:HOk P w H h):ObjOk P w H h a u:=by
 rcases r with r|⟨o,r⟩
 ·exact x a u r
 ·obtain⟨_,q⟩:=x a _ r;exact q
def kO:Option HO->Prop
 |some (.lst _)=>True
 |some (.dK _)=>True
 |some (.dT _)=>True
 |some (.set _ _)=>True
 |some (.ins _ _ _)=>True
 |some (.ext _)=>True
 |_=>False
section
variable{P:Program}{w:World}{H:Hp}{h h':Heap}{x e:Addr}{o':HO}
def HOk.write(ok:HOk P w H h)(mu:kO (H x))(p:e=x\/H e=some (.own x))(k:∀b u,b≠e->h.get? b=some u->h'.get? b=some u)(B:∃u,h'.get? e=some u)
  (new:ObjOk P w (au H x o') h' x o'):HOk P w (au H x o') h':=λb u q=>by
 have o:∀c y,H c=some (.own y)->c≠x:=λc y r z=>by subst z;rw[r]at mu;exact mu
 have C:∀c xs,H c=some (.tup xs)->c≠x:=λc xs r z=>by subst z;rw[r]at mu;exact mu
 have E:∀c j l,H c=some (.frz j l)->c≠x:=λc j l r z=>by subst z;rw[r]at mu;exact mu
 by_cases f:b=x
 ·subst f;rw[br]at q;cases q;exact new
 ·rw[ba f]at q;by_cases a:b=e
  ·have A:H b=some (.own x):=by
    rcases p with z|z
    ·exact absurd (a.trans z) f
    ·rwa[a]
   rw[q]at A;cases A;obtain⟨v,F⟩:=B;exact⟨v,by rwa[a]⟩
  ·refine (ok b u q).stay (λc v g r=>k c v ?_ r) (λc r=>by rwa[ba (o c b r)]) (λc xs r=>by rwa[ba (C c xs r)]) λc j l r=>by rwa[ba (E c j l r)]
   rcases g with rfl|g
   ·exact a
   ·rintro rfl;rcases p with z|z
    ·exact o c b g z
    ·rw[g]at z;cases z;exact f rfl
end
structure Un(fs ex:List Addr)(H H':Hp)(h h':Heap):Prop where
 keep:∀b o,h.get? b=some o->H b=none->b∉fs->b∉ex->h'.get? b=some o
 slot:∀b o,h.get? b=some o->H b=none->b∈fs->b∉ex->∃sl,h'.get? b=some { o with slots:=sl }
 free:∀b o,h.get? b=some o->H b=none->b∉ex->H' b=none
 there:∀b o,h.get? b=some o->b∉ex->∃o',h'.get? b=some o'
 tups:∀b xs,H b=some (.tup xs)->H' b=some (.tup xs)
 frzs:∀b o u,H b=some (.frz o u)->H' b=some (.frz o u)
 tbls:∀b ps,H b=some (.tbl ps)->H' b=some (.tbl ps)
section
variable{fs ex:List Addr}{H f:Hp}{h c h':Heap}{a x e:Addr}{o:HO}
def Un.any(u:Un fs ex H f h c){b:Addr}{g:Obj}(q:h.get? b=some g)(n:H b=none)(l:b∉ex):∃sl,c.get? b=some { g with slots:=sl }:=by
 by_cases j:b∈fs
 ·exact u.slot b g q n j l
 ·exact⟨g.slots,u.keep b g q n j l⟩
def Un.kept(k:∀b u,h.get? b=some u->h'.get? b=some u):Un fs ex H H h h':=
 ⟨λb g q _ _ _=>k b g q,λb g q _ _ _=>⟨g.slots,k b g q⟩,λ_ _ _ n _=>n,λb g q _=>⟨g,k b g q⟩,λ_ _ q=>q,λ_ _ _ q=>q,λ_ _ q=>q⟩
def Un.refl:Un fs ex H H h h:=Un.kept λ_ _ q=>q
def Un.laid(k:∀b u,h.get? b=some u->h'.get? b=some u)(j:h.objs.size<=a)(g:H a=none):Un fs ex H (au H a o) h h' where
 keep:=λb u q _ _ _=>k b u q
 slot:=λb u q _ _ _=>⟨u.slots,k b u q⟩
 free:=λb u q n _=>by rwa[ba (KD (KJ (Kk q) j))]
 there:=λb u q _=>⟨u,k b u q⟩
 tups:=λb xs q=>by rwa[ba (dc q g)]
 frzs:=λb u xs q=>by rwa[ba (dc q g)]
 tbls:=λb ps q=>by rwa[ba (dc q g)]
def Un.write(mu:kO (H x))(w:e=x\/H e=some (.own x))(k:∀b u,b≠e->h.get? b=some u->h'.get? b=some u)(v:∃u,h'.get? e=some u):Un fs ex H (au H x o) h h':=by
 have p:∀b,H b=none->b≠x:=λb n z=>by subst z;rw[n]at mu;exact mu
 have l:∀b,H b=none->b≠e:=λb n z=>by
  subst z;rcases w with r|r
  ·exact p b n r
  ·rw[n]at r;cases r
 have g:∀b u,H b=some u->¬ kO (some u)->b≠x:=λb u q nm z=>by subst z;rw[q]at mu;exact nm mu
 refine⟨λb u q n _ _=>k b u (l b n) q,λb u q n _ _=>⟨u.slots,k b u (l b n) q⟩,λb u q n _=>by rwa[ba (p b n)],λb u q _=>?_,
  λb xs q=>by rwa[ba (g b _ q λz=>z)],λb u xs q=>by rwa[ba (g b _ q λz=>z)],λb ps q=>by rwa[ba (g b _ q λz=>z)]⟩
 by_cases j:b=e
 ·subst j;exact v
 ·exact⟨u,k b u j q⟩
end
def nL(h:Heap)(H:Hp):List Addr:=(List.range h.objs.size).filter λa=>(H a).isSome
def iQ(h:Heap)(H:Hp):Heap:=PySem.W.hideAll h (nL h H)
def Ay(h:Heap)(H:Hp):(iQ h H).objs.size=h.objs.size:=PySem.W.hideAll_size _ _
def HE{h:Heap}{H:Hp}{b:Addr}{o:Obj}(e:h.get? b=some o)(n:H b=none):(iQ h H).get? b=some o:=
 PySem.W.hideAll_get _ e λa=>by have q:(H b).isSome=true:=(KL.mp a).2;rw[n]at q;simp at q
def Cw{h:Heap}{H:Hp}{b:Addr}{o:Obj}(e:(iQ h H).get? b=some o):h.get? b=some o/\H b=none:=by
 have a:h.get? b=some o:=PySem.W.of_hideAll (nL h H) e;refine⟨a,?_⟩
 cases q:H b with
 |none=>rfl
 |some x=>
  have c:b∈nL h H:=KL.mpr ⟨Kt.mpr (Kk a),by simp[q]⟩;have z:(iQ h H).get? b=none:=PySem.W.hideAll_none (nL h H) c;rw[z]at e;cases e
structure Mod(K:Frag)(mg:Str->Option Value)(base:Heap):Prop where
 kin:K.In base
 glob:base.Ns mainGlobals mg
 blt:∃mb,base.Ns builtinsNs mb/\∀x:Str,x≠"__name__"->mb x=bootBuiltins x
 nolimit:base.NoLimit
 bmod:∃bm ob,mg "__builtins__"=some (.ref bm)/\bm≠builtinsNs/\base.get? bm=some ob/\ob.cls=.type "module"/\ob.dict=some builtinsNs/\ob.data=.plain
 seer:base.NoSeer
 dig:∃mc,base.Ns cStatics mc/\mc "sys.int_max_str_digits"=none
structure Cx where
 prog:Program
 w:World
 K:Frag
 mg:Str->Option Value
 base:Heap
 A:Around
 N:List Str
 s₀:Shared
 H₀:Hp
 env:Env
 outer:List Env
 stack:List Env
 ex:List Addr
 fn:Str->Bool
 calm:Bool
 pn:List (Addr×Obj)
 xe:Value->Shared->Prop
def gz(l:List Env):List Addr:=l.filterMap (·.frame)
abbrev Cx.fs(X:Cx):List Addr:=gz X.outer
def cV(a:Scope)(x:Str):Prop:=a.names.lookup x=some .local\/a.names.lookup x=some .cell\/a.names.lookup x=some .free
def eh(a:Scope)(x:Str):Prop:=a.names.lookup x=some .local\/a.names.lookup x=some .cell
def B8(env:Env)(h:Heap)(m:Str->Option Value)(x:Str)(u:Value):Prop:=
 (env.kindOf x=some .local/\m x=some u)\/((env.kindOf x=some .cell\/env.kindOf x=some .free)/\∃c,env.cells.lookup x=some c/\h.IsCell c (some u))
structure Cx.Ok(X:Cx):Prop where
 mod:Mod X.K X.mg X.base
 kind:X.env.scope.kind=.function
 glob:X.env.globals=mainGlobals
 blt:X.env.builtins=builtinsNs
 above:X.s₀.heap.objs.size<=X.env.locals
 inj:∀x y c,X.env.cells.lookup x=some c->X.env.cells.lookup y=some c->x=y
 has:∀x,(X.env.kindOf x=some .cell\/X.env.kindOf x=some .free)->∃c,X.env.cells.lookup x=some c
 cab:∀x c,X.fn x=true->X.env.cells.lookup x=some c->X.s₀.heap.objs.size<=c
 hd:X.calm=true->X.A.handled=none
 frames:X.A.frames=some X.stack
 stk:X.stack=X.outer\/(X.stack=X.env::X.outer/\X.env.frame=some X.env.locals)
 exf:∀b∈X.ex,b≠X.env.locals/\∀x c,X.env.cells.lookup x=some c->c≠b
 bs:∀b o,X.base.get? b=some o->X.s₀.heap.get? b=some o/\X.H₀ b=none
 bsz:X.base.objs.size<=X.s₀.heap.objs.size
 noex:∀b o,X.base.get? b=some o->b∉X.ex
 exfs:∀b∈X.ex,b∉X.fs
 funs:X.s₀.heap.FunFrames X.base X.outer
 frf:∀b∈X.fs,X.H₀ b=none
structure Inv(X:Cx)(pins:List (Addr×Obj))(σ:List (Option V))(H:Hp)(s:Shared):Prop where
 ok:X.Ok
 os:s.os=X.s₀.os
 bare:AllBare s.gens
 base:Un X.fs X.ex X.H₀ H X.s₀.heap s.heap
 loc:∃m,s.heap.Ns X.env.locals m/\∀(i:Nat)(x:Str)(v:V),X.N[i]?=some x->σ[i]?=some (some v)->cV X.env.scope x->∃u,RelV v u/\B8 X.env s.heap m x u
 cell:∀x c,X.env.cells.lookup x=some c->∃v,s.heap.IsCell c v
 free:H X.env.locals=none
 freeC:∀x c,X.env.cells.lookup x=some c->H c=none
 pin:∀p∈X.pn++pins,s.heap.get? p.1=some p.2/\H p.1=none/\p.1≠X.env.locals/\p.1∉X.fs/\∀v,p.2.data≠.cell v
 hok:HOk X.prog X.w H s.heap
 len:σ.length=X.N.length
section
variable{X:Cx}{f:List (Addr×Obj)}{g:List (Option V)}{H w:Hp}{s:Shared}{h':Heap}
def Cx.Ok.nofr(ok:X.Ok){b:Addr}{o:Obj}(e:X.base.get? b=some o):b∉X.fs:=λa=>by have:=(ok.funs.mem a).1;rw[e]at this;cases this
def Inv.bs(I:Inv X f g H s):∀b o,X.base.get? b=some o->s.heap.get? b=some o/\H b=none:=λb o e=>
 ⟨I.base.keep b o (I.ok.bs b o e).1 (I.ok.bs b o e).2 (I.ok.nofr e) (I.ok.noex b o e),I.base.free b o (I.ok.bs b o e).1 (I.ok.bs b o e).2 (I.ok.noex b o e)⟩
def Inv.bk(I:Inv X f g H s):∀b o,X.base.get? b=some o->s.heap.get? b=some o:=λb o e=>(I.bs b o e).1
def Inv.mod(I:Inv X f g H s):Mod X.K X.mg X.base:=I.ok.mod
def Inv.kIn(I:Inv X f g H s):X.K.In s.heap:=I.ok.mod.kin.keeps I.bk
def Inv.lt(I:Inv X f g H s):X.env.locals<s.heap.objs.size:=let ⟨_,hn,_⟩:=I.loc;hn.lt
def Inv.sz(I:Inv X f g H s):X.s₀.heap.objs.size<=s.heap.objs.size:=Kl I.ok.above (Lo I.lt)
def Inv.nofs(I:Inv X f g H s){a:Addr}(h:s.heap.objs.size<=a):a∉X.fs:=λc=>by obtain⟨_,o,e,_⟩:=I.ok.funs.mem c;exact absurd (KJ (Kk e) (Kl I.sz h)) (Lw _)
def Inv.cne(I:Inv X f g H s):∀x c,X.env.cells.lookup x=some c->c≠X.env.locals:=λx c e z=>by obtain⟨v,o,a,hd⟩:=I.cell x c e;obtain⟨m,⟨o',es,l,h,j,_⟩,_⟩:=I.loc;rw[z,h]at a;cases a;rw[j]at hd;cases hd
def Inv.funs(I:Inv X f g H s):s.heap.FunFrames X.base X.outer:=by
 have all:∀(l:List Env),(∀b∈gz l,b∈X.fs)->X.s₀.heap.FunFrames X.base l->s.heap.FunFrames X.base l:=by
  intro l
  induction l with
  |nil=>intro _ _;trivial
  |cons env r A=>
   intro j u;obtain⟨p,⟨L,o,h,v,x,hd⟩,y⟩:=u;have a:L∈X.fs:=j L (by unfold gz;rw[Mb,h];exact J2);obtain⟨sl,e⟩:=I.base.slot L o x (I.ok.frf L a) a λz=>I.ok.exfs L z a;exact⟨p,⟨L,_,h,v,e,hd⟩,A (λb c=>j b (by unfold gz;rw[Mb,h];exact J1 _ c)) y⟩
 exact all X.outer (λ_ c=>c) I.ok.funs
def Inv.stack(I:Inv X f g H s):s.heap.FunFrames X.base X.stack:=by
 rcases I.ok.stk with e|⟨e,a⟩
 ·rw[e];exact I.funs
 ·rw[e];obtain⟨m,c,_⟩:=I.loc;refine .cons (by rw[I.ok.kind];decide) a c ?_ I.funs;exact Heap.get?_none_of_le (Kl I.ok.bsz I.ok.above)
def Inv.stkSub(I:Inv X f g H s):∀b∈gz X.stack,b∈X.env.locals::X.fs:=λb a=>by
 rcases I.ok.stk with e|⟨e,c⟩
 ·rw[e]at a;exact J1 _ a
 ·rw[e]at a;unfold gz at a;rw[Mb,c]at a;exact a
def Inv.stkFree(I:Inv X f g H s):∀b∈gz X.stack,H b=none:=λb a=>by
 rcases Kd.mp (I.stkSub b a)with e|a
 ·rw[e];exact I.free
 ·obtain⟨_,o,c,_⟩:=I.ok.funs.mem a;exact I.base.free b o c (I.ok.frf b a) λz=>I.ok.exfs b z a
def Inv.step{g':Array GenState}{t':Nat}{d':Drawn}{ch:List Addr}(I:Inv X f g H s)
  (B:∀b∈ch,(b∈X.ex\/X.s₀.heap.objs.size<=b)/\b≠X.env.locals/\(∀x c,X.env.cells.lookup x=some c->c≠b)/\∀p∈X.pn++f,p.1≠b)
  (keep:∀b o,b≠X.env.locals->b∉X.fs->b∉ch->s.heap.get? b=some o->H b=none->h'.get? b=some o)
  (slot:∀b o,b≠X.env.locals->b∈X.fs->b∉ch->s.heap.get? b=some o->H b=none->∃sl,h'.get? b=some { o with slots:=sl }) (free:∀b o,b∉ch->s.heap.get? b=some o->H b=none->w b=none)
  (there:∀b o,b∉ch->s.heap.get? b=some o->∃o',h'.get? b=some o')
  (tups:∀b xs,H b=some (.tup xs)->w b=some (.tup xs)) (frzs:∀b o u,H b=some (.frz o u)->w b=some (.frz o u)) (tbls:∀b ps,H b=some (.tbl ps)->w b=some (.tbl ps))
  (ns:∀m,s.heap.Ns X.env.locals m->h'.Ns X.env.locals m) (hok:HOk X.prog X.w w h') (P:AllBare g') :
  Inv X f g w { s with heap:=h',gens:=g',drawn:=d',toks:=t' }:=by
 have E:∀b o,X.s₀.heap.get? b=some o->b≠X.env.locals:=λb o e=>KD (KJ (Kk e) I.ok.above)
 have F:∀b o,X.s₀.heap.get? b=some o->b∉X.ex->b∉ch:=λb o e a y=>by
  rcases (B b y).1 with z|z
  ·exact a z
  ·exact absurd (KJ (Kk e) z) (Lw _)
 have h:∀x c,X.env.cells.lookup x=some c->∀v,s.heap.IsCell c v->h'.IsCell c v:=λx c e v N=>by
  obtain⟨o,A,hd⟩:=N;have C:c∉ch:=λz=>(B c z).2.2.1 x c e rfl;by_cases K:c∈X.fs
  ·obtain⟨sl,q⟩:=slot c o (I.cne x c e) K C A (I.freeC x c e);exact⟨_,q,hd⟩
  ·exact⟨o,keep c o (I.cne x c e) K C A (I.freeC x c e),hd⟩
 refine⟨I.ok,I.os,P,⟨λb o e n y a=>?_,λb o e n y a=>?_,λb o e n a=>?_,λb o e a=>?_,λb xs e=>tups b xs (I.base.tups b xs e),λb o xs e=>frzs b o xs (I.base.frzs b o xs e),λb ps e=>tbls b ps (I.base.tbls b ps e)⟩,?_,λx c e=>?_,?_,λx c e=>?_,λp L=>?_,hok,I.len⟩
 ·exact keep b o (E b o e) y (F b o e a) (I.base.keep b o e n y a) (I.base.free b o e n a)
 ·obtain⟨sl,j⟩:=I.base.slot b o e n y a;obtain⟨J,G⟩:=slot b _ (E b o e) y (F b o e a) j (I.base.free b o e n a);exact⟨J,G⟩
 ·obtain⟨o',j⟩:=I.base.there b o e a;exact free b o' (F b o e a) j (I.base.free b o e n a)
 ·obtain⟨o',j⟩:=I.base.there b o e a;exact there b o' (F b o e a) j
 ·obtain⟨m,R,Q⟩:=I.loc;refine⟨m,ns m R,λi x v j G O=>?_⟩;obtain⟨u,r,l⟩:=Q i x v j G O;refine⟨u,r,?_⟩;rcases l with l|⟨k,c,e,z⟩
  ·exact .inl l
  ·exact .inr ⟨k,c,e,h x c e _ z⟩
 ·obtain⟨v,z⟩:=I.cell x c e;exact⟨v,h x c e v z⟩
 ·obtain⟨m,⟨o,_,_,A,_⟩,_⟩:=I.loc;exact free _ o (λz=>(B _ z).2.1 rfl) A I.free
 ·obtain⟨v,o,A,hd⟩:=I.cell x c e;exact free c o (λz=>(B c z).2.2.1 x c e rfl) A (I.freeC x c e)
 ·obtain⟨e,n,ne,M,d⟩:=I.pin p L;have C:p.1∉ch:=λz=>(B p.1 z).2.2.2 p L rfl;exact⟨keep p.1 p.2 ne M C e n,free p.1 p.2 C e n,ne,M,d⟩
def Inv.un{t':Nat}(I:Inv X f g H s)(u:Un X.fs [] H w s.heap h')(hok:HOk X.prog X.w w h'):Inv X f g w { s with heap:=h',toks:=t' }:=by
 obtain⟨m,⟨o,es,y,h,r⟩,_⟩:=id I.loc;obtain⟨sl,p⟩:=u.any h I.free (by simp)
 exact I.step (g':=s.gens) (d':=s.drawn) (ch:=[]) (λ_ z=>nomatch z) (λb o _ a _ e n=>u.keep b o e n a (by simp)) (λb o _ a _ e n=>u.slot b o e n a (by simp)) (λb o _ e n=>u.free b o e n (by simp)) (λb o _ e=>u.there b o e (by simp)) u.tups u.frzs u.tbls (λA v=>by
  obtain⟨o',j,l,c,x⟩:=v;rw[h]at c;cases c
  exact⟨_,j,l,p,x⟩) hok I.bare
def Inv.call{g':Array GenState}{t':Nat}{d':Drawn}{ch:List Addr}(I:Inv X f g H s)(u:Un (gz X.stack) ch H w s.heap h')(hok:HOk X.prog X.w w h')(C:AllBare g')
  (l:∀b∈ch,(b∈X.ex\/X.s₀.heap.objs.size<=b)/\b≠X.env.locals/\(∀x c,X.env.cells.lookup x=some c->c≠b)/\∀p∈X.pn++f,p.1≠b) :
  Inv X f g w { s with heap:=h',gens:=g',drawn:=d',toks:=t' }:=by
 obtain⟨m,⟨o,es,G,v,r⟩,_⟩:=id I.loc;obtain⟨sl,h⟩:=u.any v I.free λz=>(l _ z).2.1 rfl
 exact I.step (ch:=ch) l (λb o h B a e n=>u.keep b o e n (λz=>(Kd.mp (I.stkSub b z)).elim h B) a) (λb o _ _ a e n=>u.any e n a) (λb o a e n=>u.free b o e n a) (λb o a e=>u.there b o e a) u.tups u.frzs u.tbls (λJ E=>by
  obtain⟨o',y,A,j,F⟩:=E;rw[v]at j;cases j
  exact⟨_,y,A,h,F⟩) hok C
def Inv.turned{t':Nat}{a:Addr}(I:Inv X f g H s)(k:∀b o,b≠a->s.heap.get? b=some o->h'.get? b=some o)(G:H a=none)(l:a≠X.env.locals)
  (A:a∈X.ex\/X.s₀.heap.objs.size<=a) (B:∀x c,X.env.cells.lookup x=some c->c≠a) (C:∀p∈X.pn++f,p.1≠a):Inv X f g H { s with heap:=h',toks:=t' }:=by
 have j:∀b u,H b=some u->b≠a:=λb u e z=>by rw[z,G]at e;cases e
 refine I.step (g':=s.gens) (d':=s.drawn) (ch:=[a]) (λb E=>?_) (λb o _ _ h e _=>k b o (λz=>h (by simp[z])) e) (λb o _ _ h e _=>⟨o.slots,k b o (λz=>h (by simp[z])) e⟩) (λ_ _ _ _ n=>n)
  (λb o h e=>⟨o,k b o (λz=>h (by simp[z])) e⟩) (λ_ _ e=>e) (λ_ _ _ e=>e) (λb ps e=>e) (λm F=>?_) (λb u e=>?_) I.bare
 ·have e:b=a:=by simpa using E
  subst e;exact⟨A,l,B,C⟩
 ·obtain⟨o,es,y,J,r⟩:=F;exact⟨o,es,y,k _ o (K5 l) J,r⟩
 ·refine (I.hok b u e).stay (λc v h q=>k c v ?_ q) (λ_ q=>q) (λ_ _ q=>q) λ_ _ _ q=>q;rcases h with z|z
  ·rw[z];exact j b u e
  ·exact j c _ z
def Inv.tok(I:Inv X f g H s)(t:Nat):Inv X f g H { s with toks:=t }:=I.un (h':=s.heap) (t':=t) Un.refl I.hok
def Inv.kept{t':Nat}(I:Inv X f g H s)(k:∀b u,s.heap.get? b=some u->h'.get? b=some u):Inv X f g H { s with heap:=h',toks:=t' }:=I.un (Un.kept k) (I.hok.kept k)
def Inv.laid{a:Addr}{o:HO}{t':Nat}(I:Inv X f g H s)(k:∀b u,s.heap.get? b=some u->h'.get? b=some u)(c:s.heap.objs.size<=a)(new:ObjOk X.prog X.w (au H a o) h' a o) :
  Inv X f g (au H a o) { s with heap:=h',toks:=t' }:=I.un (Un.laid k c (I.hok.fresh c)) (I.hok.laid k c new)
def Inv.write{x e:Addr}{o:HO}{t':Nat}(I:Inv X f g H s)(mu:kO (H x))(c:e=x\/H e=some (.own x))(k:∀b u,b≠e->s.heap.get? b=some u->h'.get? b=some u)(a:∃u,h'.get? e=some u)
  (new:ObjOk X.prog X.w (au H x o) h' x o):Inv X f g (au H x o) { s with heap:=h',toks:=t' }:=I.un (Un.write mu c k a) (I.hok.write mu c k a new)
def Inv.pins_of{a:List (Addr×Obj)}(I:Inv X f g H s)(h:∀p∈a,s.heap.get? p.1=some p.2/\H p.1=none/\p.1≠X.env.locals/\p.1∉X.fs/\∀v,p.2.data≠.cell v):Inv X a g H s:=
 ⟨I.ok,I.os,I.bare,I.base,I.loc,I.cell,I.free,I.freeC,λp c=>(Ks.mp c).elim (λz=>I.pin p (L7 _ z)) (h p),I.hok,I.len⟩
def xJ{N:List Str}(h:N.Nodup){i j:Nat}{x:Str}(a:N[i]?=some x)(b:N[j]?=some x):i=j:=by obtain⟨l,c⟩:=K1.mp a;obtain⟨o,e⟩:=K1.mp b;exact (List.getElem_inj h).mp (c.trans e.symm)
def v9{M:Model}{A:Around}{E:Value->Shared->Prop}{i:Nat}{x:Str}{v:V}{u:Value}{Q:Unit->Shared->Prop}(I:Inv X f g H s)(hN:X.N.Nodup)(P:X.N[i]?=some x)(G:eh X.env.scope x)(r:RelV v u)
  (h:∀s',Inv X f (g.set i (some v)) H s'->(∃a,Heap.SameBut a s.heap s'.heap/\(a=X.env.locals\/X.env.cells.lookup x=some a))->Q () s') (hf:X.fn x=true\/X.env.scope.names.lookup x=some .local:=by nofun):wpAny M A (storeName X.env x u) Q E s:=by
 obtain⟨m,Z,hl⟩:=id I.loc
 have UL:(X.env.scope.kind==.class ||(X.env.scope.kind==.module&&X.env.locals != X.env.globals))=false:=by rw[I.ok.kind];rfl
 have K:i<g.length:=by rw[I.len];exact (K1.mp P).1
 have cne:=I.cne
 have C:∀{a:Addr}{h':Heap},(∃o,s.heap.get? a=some o/\H a=none)->Heap.SameBut a s.heap h'->HOk X.prog X.w H h':=λ{a h'} ha l b ob e=>by
  obtain⟨_,_,RG⟩:=ha;refine (I.hok b ob e).stay (λc T F q=>(l.2 c ?_).trans q) (λ_ q=>q) (λ_ _ q=>q) λ_ _ _ q=>q;rintro rfl;rcases F with rfl|F
  ·rw[RG]at e;cases e
  ·rw[RG]at F;cases F
 rcases G with L|L
 ·refine wpAny_storeName_local L Z (λh' S0 l=>?_) UL;obtain⟨oL,_,_,hoL,_⟩:=id Z;refine h _ ⟨I.ok,I.os,I.bare,⟨λb o e n N G=>?_,λb o e n N G=>?_,I.base.free,λb o e G=>?_,I.base.tups,I.base.frzs,I.base.tbls⟩,⟨_,S0,λj y v' B J Y=>?_⟩,λy c e=>?_,I.free,I.freeC,λp hp=>?_,C ⟨oL,hoL,I.free⟩ l,by simpa using I.len⟩ ⟨_,l,.inl rfl⟩
  ·exact (l.2 b (KD (KJ (Kk e) I.ok.above))).trans (I.base.keep b o e n N G)
  ·obtain⟨sl,B⟩:=I.base.slot b o e n N G;exact⟨sl,(l.2 b (KD (KJ (Kk e) I.ok.above))).trans B⟩
  ·obtain⟨o',B⟩:=I.base.there b o e G;exact⟨o',(l.2 b (KD (KJ (Kk e) I.ok.above))).trans B⟩
  ·by_cases O:j=i
   ·subst O;rw[P]at B;cases B;rw[Kj K]at J;cases J;exact⟨u,r,.inl ⟨L,by simp⟩⟩
   ·rw[Kh (K5 O)]at J;obtain⟨u',r',q⟩:=hl j y v' B J Y;refine⟨u',r',?_⟩;rcases q with⟨k,e⟩|⟨k,c,e,z⟩
    ·refine .inl ⟨k,?_⟩;have:y≠x:=λe=>O (xJ hN B (e▸P));simp[this,e]
    ·exact .inr ⟨k,c,e,z.sameBut l (cne y c e)⟩
  ·obtain⟨T,z⟩:=I.cell y c e;exact⟨T,z.sameBut l (cne y c e)⟩
  ·obtain⟨e,n,ne,nf,d⟩:=I.pin p hp;exact⟨(l.2 p.1 ne).trans e,n,ne,nf,d⟩
 ·have U:X.fn x=true:=by
   rcases hf with z|z
   ·exact z
   ·rw[z]at L;cases L
  obtain⟨c,F⟩:=I.ok.has x (.inl L);obtain⟨T,z⟩:=I.cell x c F;refine wpAny_storeName_cell I.ok.kind L F z (λh' S6 l=>?_);obtain⟨oc,R,UM⟩:=id z;refine h { s with heap:=h' } ⟨I.ok,I.os,I.bare,⟨λb o e n N G=>?_,λb o e n N G=>?_,I.base.free,λb o e G=>?_,I.base.tups,I.base.frzs,I.base.tbls⟩,⟨m,Z.sameBut l (K5 (cne x c F)),λj y v' B J Y=>?_⟩,λy S e=>?_,I.free,I.freeC,λp hp=>?_,C ⟨oc,R,I.freeC x c F⟩ l,by simpa using I.len⟩ ⟨c,l,.inr F⟩
  ·exact (l.2 b (KD (KJ (Kk e) (I.ok.cab x c U F)))).trans (I.base.keep b o e n N G)
  ·obtain⟨sl,B⟩:=I.base.slot b o e n N G;exact⟨sl,(l.2 b (KD (KJ (Kk e) (I.ok.cab x c U F)))).trans B⟩
  ·obtain⟨o',B⟩:=I.base.there b o e G;exact⟨o',(l.2 b (KD (KJ (Kk e) (I.ok.cab x c U F)))).trans B⟩
  ·by_cases O:j=i
   ·subst O;rw[P]at B;cases B;rw[Kj K]at J;cases J;exact⟨u,r,.inr ⟨.inl L,c,F,S6⟩⟩
   ·rw[Kh (K5 O)]at J;obtain⟨u',r',q⟩:=hl j y v' B J Y;refine⟨u',r',?_⟩;rcases q with q|⟨k,S,e,z'⟩
    ·exact .inl q
    ·refine .inr ⟨k,S,e,z'.sameBut l ?_⟩;rintro rfl;exact O (xJ hN B (I.ok.inj _ _ _ e F▸P))
  ·by_cases R6:S=c
   ·subst R6;exact⟨_,S6⟩
   ·obtain⟨w2,z2⟩:=I.cell y S e;exact⟨w2,z2.sameBut l R6⟩
  ·obtain⟨e,n,ne,nf,d⟩:=I.pin p hp;refine⟨(l.2 p.1 ?_).trans e,n,ne,nf,d⟩;intro q;rw[q,R]at e;have q':oc=p.2:=Kv e;exact d T (by rwa[←q'])
def vg{M:Model}{A:Around}{E:Value->Shared->Prop}{i:Nat}{x:Str}{v:V}{u:Value}{Q:Unit->Shared->Prop}(I:Inv X f g H s)(e:X.N.Nodup)(l:X.N[i]?=some x)(o:eh X.env.scope x)(r:RelV v u)
  (h:∀a,Inv X f (g.set i (some v)) H a->Q () a) (j:X.fn x=true\/X.env.scope.names.lookup x=some .local:=by nofun):wpAny M A (storeName X.env x u) Q E s:=
 v9 I e l o r (λa c _=>h a c) j
def Inv.call'{a:Shared}{ch:List Addr}(I:Inv X f g H s)(l:a.os=s.os)(u:Un (gz X.stack) ch H w s.heap a.heap)(hok:HOk X.prog X.w w a.heap)(j:AllBare a.gens)
  (h:∀b∈ch,(b∈X.ex\/X.s₀.heap.objs.size<=b)/\b≠X.env.locals/\(∀x c,X.env.cells.lookup x=some c->c≠b)/\∀p∈X.pn++f,p.1≠b):Inv X f g w a:=by
 obtain⟨h',g',d',t',o'⟩:=a;have e:o'=s.os:=l;subst e;exact I.call (g':=g') (t':=t') (d':=d') u hok j h
end
abbrev XK:=Value->Option Addr->Hp->Prop
abbrev St:=List (Option V)
abbrev VK:=V->Hp->Prop
abbrev TE:=St->Hp->VK->Prop
abbrev TT:=St->Hp->(Bool->Hp->Prop)->Prop
abbrev TA:=St->Hp->(List V->Hp->Prop)->Prop
structure Ends where
 nx:St->Hp->Prop
 rt:VK
 bk:St->Hp->Prop:=λ_ _=>False
 ct:St->Hp->Prop:=λ_ _=>False
abbrev TS:=Ends->St->Hp->Prop
def EP(X:Cx)(a:List (Addr×Obj))(f:St)(Q:VK)(u:Value)(e:Shared):Prop:=∃v c,Inv X a f c e/\RelV v u/\Q v c
def TP(X:Cx)(a:List (Addr×Obj))(f:St)(Q:Bool->Hp->Prop)(b:Bool)(e:Shared):Prop:=∃c,Inv X a f c e/\Q b c
def AP(X:Cx)(a:List (Addr×Obj))(f:St)(Q:List V->Hp->Prop)(us:List Value)(e:Shared):Prop:=∃vs c,Inv X a f c e/\Vals vs us/\Q vs c
def SP(X:Cx)(c:List (Addr×Obj))(D:Ends)(f:Flow)(g:Shared):Prop:=
 match f with
 |.next=>∃a e,Inv X c a e g/\D.nx a e
 |.brk=>∃a e,Inv X c a e g/\D.bk a e
 |.cont=>∃a e,Inv X c a e g/\D.ct a e
 |.ret u=>∃v a e,Inv X c a e g/\RelV v u/\D.rt v e
def PE(X:Cx)(e:Expr)(t:TE):Prop:=
 ∀(a:List (Addr×Obj))(s:Shared)(c:St)(H:Hp)(Q:VK),Inv X a c H s->t c H Q->wpAny (model X.prog X.w) X.A (eval e X.env) (EP X a c Q) X.xe s
def PT(X:Cx)(e:Expr)(t:TT):Prop:=
 ∀(a:List (Addr×Obj))(s:Shared)(c:St)(H:Hp)(Q:Bool->Hp->Prop),Inv X a c H s->t c H Q->wpAny (model X.prog X.w) X.A (isTrue e X.env (eval e X.env)) (TP X a c Q) X.xe s
def PW(X:Cx)(e:Expr)(t:TT):Prop:=
 ∀(c:Sem Value)(a:List (Addr×Obj))(s:Shared)(f:St)(H:Hp)(Q:Bool->Hp->Prop),Inv X a f H s->t f H Q->wpAny (model X.prog X.w) X.A (isTrue e X.env c) (TP X a f Q) X.xe s
def PW.pt{X:Cx}{e:Expr}{t:TT}(h:PW X e t):PT X e t:=h _
def PA(X:Cx)(es:List Expr)(t:TA):Prop:=
 ∀(c:Pos)(a:List (Addr×Obj))(s:Shared)(e:St)(H:Hp)(Q:List V->Hp->Prop),Inv X a e H s->t e H Q->wpAny (model X.prog X.w) X.A (spliced (backTo c (starEach es X.env))) (AP X a e Q) X.xe s
def PS(X:Cx)(st:Stmt)(t:TS):Prop:=
 ∀(a:List (Addr×Obj))(s:Shared)(c:St)(H:Hp)(D:Ends),Inv X a c H s->t D c H->wpAny (model X.prog X.w) X.A (exec st X.env) (SP X a D) X.xe s
def PSs(X:Cx)(st:List Stmt)(t:TS):Prop:=
 ∀(a:List (Addr×Obj))(s:Shared)(c:St)(H:Hp)(D:Ends),Inv X a c H s->t D c H->wpAny (model X.prog X.w) X.A (execs st X.env) (SP X a D) X.xe s
def aH{e:Type}{t:Sem e}{Q c:e->Shared->Prop}{M:Model}{A:Around}{E:Value->Shared->Prop}{s:Shared}(h:wpAny M A t Q E s)(f:∀a s,Q a s->c a s):wpAny M A t c E s:=LC h f λ_ _ x=>x
section
variable{X:Cx}
def l7(i:Nat):TE:=λa H Q=>∃v,a[i]?=some (some v)/\Q v H
def tC(v:V):TE:=λ_ H Q=>Q v H
def HK{i:Nat}{x:Str}{f:Pos}(y:X.N[i]?=some x)(C:cV X.env.scope x)(hd:ab x:=by decide)(w:ad x:=by decide):PE X (.Name x f) (l7 i):=by
 intro j s E H Q I h;obtain⟨v,e,h⟩:=h;obtain⟨m,B,z⟩:=I.loc;obtain⟨u,r,l⟩:=z i x v y e C;have a:EP X j E Q u s:=⟨v,H,I,r,h⟩;rcases l with⟨g,A⟩|⟨g,c,p,o⟩
 ·exact wpAny_Name (wpAny_loadName_local I.ok.kind g B A a) hd
 ·rcases g with g|g
  ·exact wpAny_Name (wpAny_loadName_cell I.ok.kind g p o a) hd
  ·exact wpAny_Name (wpAny_loadName_free I.ok.kind g p o a w) hd
def Bt{i j f}:PE X (.Constant (.int i) j f) (tC (.int i)):=λ_ _ _ H _ I h=>wpAny_Constant_int ⟨.int i,H,I.tok _,⟨_,rfl⟩,h⟩
def EY{b j f}:PE X (.Constant (.bool b) j f) (tC (.bl b)):=λ_ _ _ H _ I h=>Constant_bool ⟨.bl b,H,I,rfl,h⟩
def HZ{j f}:PE X (.Constant .none j f) (tC .non):=λ_ _ _ H _ I h=>Constant_none ⟨.non,H,I,rfl,h⟩
def yR{x j f}:PE X (.Constant (.str x) j f) (tC (.str x)):=λ_ _ _ H _ I h=>Calls.Constant_str ⟨.str x,H,I.tok _,⟨_,rfl⟩,h⟩
def Gl(X:Cx)(x:Str):Prop:=X.env.kindOf x=some .globalImplicit
def uZ{E:Value->Shared->Prop}{a:List (Addr×Obj)}{s:Shared}{g:St}{H:Hp}{x:Str}{u:Value}{f:Pos}{Q:Value->Shared->Prop}(I:Inv X a g H s)(c:Gl X x)(e:X.mg x=some u)(h:Q u s)
  (hd:ab x:=by decide):wpAny (model X.prog X.w) X.A (eval (.Name x f) X.env) Q E s:=
 Calls.Name_function_global I.ok.kind c (Calls.loadGlobal_global (by rw[I.ok.glob];exact I.mod.glob.keeps I.bk) e h) hd
def il{E:Value->Shared->Prop}{a:List (Addr×Obj)}{s:Shared}{p:St}{H:Hp}{x:Str}{u:Value}{f:Pos}{Q:Value->Shared->Prop}(I:Inv X a p H s)(g:Gl X x)(j:X.mg x=none)(o:bootBuiltins x=some u)(h:Q u s)
  (l:x≠"__name__":=by decide) (hd:ab x:=by decide):wpAny (model X.prog X.w) X.A (eval (.Name x f) X.env) Q E s:=by
 obtain⟨r,c,e⟩:=I.mod.blt;exact Calls.Name_function_global I.ok.kind g (Calls.loadGlobal_builtin (by rw[I.ok.glob];exact I.mod.glob.keeps I.bk) j (by rw[I.ok.blt];exact c.keeps I.bk) ((e x l).trans o) h) hd
def gT{x:Str}{v:V}{u:Value}{f:Pos}(a:Gl X x)(c:X.mg x=none)(g:bootBuiltins x=some u)(r:RelV v u)(e:x≠"__name__":=by decide)(hd:ab x:=by decide):PE X (.Name x f) (tC v):=
 λ_ _ _ H _ I h=>il I a c g ⟨v,H,I,r,h⟩ e hd
variable{a b:Expr}{o tb:TE}{f:Pos}
def PC(X:Cx)(j:CmpOp)(a b:Expr)(t:TE):Prop:=
 ∀(c:List (Addr×Obj))(s:Shared)(h:St)(H:Hp)(Q:VK),Inv X c h H s->t h H Q->
  wpAny (model X.prog X.w) X.A (eval a X.env) (λv e=>wpAny (model X.prog X.w) X.A (eval b X.env) (λu g=>wpAny (model X.prog X.w) X.A (compareOp j v u) (EP X c h Q) X.xe g) X.xe e) X.xe s
def tB(t:TE):TT:=λg H Q=>t g H λx e=>∃c,x=.bl c/\Q c e
def IR{j:CmpOp}{t:TE}(h:PC X j a b t)(g:behindInMarks j b=false:=by first|exact nobehind _ (by decide) (by decide)|rfl):PT X (.Compare a [j] [b] f) (tB t):=by intro e s B H Q I y;refine wpAny_isTrue_Compare1 (aH (h e s B H _ I y) λv C g=>aH g λu E w=>aH w λc F r=>?_) g;obtain⟨x,l,p,A,z⟩:=r;obtain⟨d,rfl,q⟩:=z;cases A;exact L4 ⟨l,p,q⟩
variable{p w:TT}{g:List Expr}
def C3(t u:TT):TT:=λh H Q=>t h H λc e=>if c=true then u h e Q else Q false e
def yZ(t u:TT):TT:=λh H Q=>t h H λc e=>if c=true then Q true e else u h e Q
def IK(t:TT):TT:=λh H Q=>t h H λc e=>Q (!c) e
def uq(l:PT X a p):PW X (.BoolOp .And [a] f) p:=by
 intro v j s r H Q I h;refine isTrue_and (aH (l j s r H Q I h) λc u e=>?_)
 cases c with
 |true=>exact isTrue_and_nil e
 |false=>exact e
def wI(l:PT X a p):PW X (.BoolOp .Or [a] f) p:=by
 intro v j s r H Q I h;refine isTrue_or (aH (l j s r H Q I h) λc u e=>?_)
 cases c with
 |false=>exact isTrue_or_nil e
 |true=>exact e
def vR(x:PT X a p)(y:PW X (.BoolOp .And (b::g) f) w):PW X (.BoolOp .And (a::b::g) f) (C3 p w):=by
 intro A e s u H Q I h;refine isTrue_and (aH (x e s u H _ I h) λc z v=>?_);obtain⟨j,l,r⟩:=v
 cases c with
 |true=>exact y A e z u j Q l r
 |false=>exact⟨j,l,r⟩
def vX(x:PT X a p)(y:PW X (.BoolOp .Or (b::g) f) w):PW X (.BoolOp .Or (a::b::g) f) (yZ p w):=by
 intro A e s u H Q I h;refine isTrue_or (aH (x e s u H _ I h) λc z v=>?_);obtain⟨j,l,r⟩:=v
 cases c with
 |true=>exact⟨j,l,r⟩
 |false=>exact y A e z u j Q l r
def Fg(l:PT X a p):PT X (.UnaryOp .Not a f) (IK p):=by intro e s r H Q I h;exact isTrue_not (l e s r H (λc j=>Q (!c) j) I h)
def Ff(o tb:TE):TE:=λh H Q=>o h H λx e=>∃c,x=.bl c/\if c=true then tb h e Q else Q (.bl false) e
def Jc(o:TE):TE:=λh H Q=>o h H λx e=>∃c,x=.bl c/\Q (.bl (!c)) e
def uU{op}{t:TE}(h:PE X a t):PE X (.BoolOp op [a] f) t:=λc s j H Q I e=>BoolOp_one (h c s j H Q I e)
def xG(z:PE X a o)(A:PE X (.BoolOp .And (b::g) f) tb):PE X (.BoolOp .And (a::b::g) f) (Ff o tb):=by
 intro e s u H Q I h;refine BoolOp_and (aH (z e s u H _ I h) λv C y=>?_);obtain⟨x,l,r,B,j⟩:=y;obtain⟨c,rfl,j⟩:=j;cases B;refine L4 ?_
 cases c with
 |true=>exact A e C u l Q r j
 |false=>exact⟨.bl false,l,r,rfl,j⟩
def zp(y:PE X a o):PE X (.UnaryOp .Not a f) (Jc o):=by intro e s A H Q I h;refine UnaryOp_ (aH (y e s A H _ I h) λv B u=>?_);obtain⟨x,l,r,z,j⟩:=u;obtain⟨c,rfl,j⟩:=j;cases z;exact not_of (L4 ⟨.bl (!c),l,r,rfl,j⟩)
def FN(t:TT)(o tb:TE):TE:=λe H Q=>t e H λc h=>if c=true then o e h Q else tb e h Q
def zK{c:Expr}(A:PT X c p)(y:PE X a o)(z:PE X b tb):PE X (.IfExp c a b f) (FN p o tb):=by
 intro e s j H Q I h;refine wpAny_IfExp (aH (A e s j H _ I h) λd v x=>?_);obtain⟨l,r,u⟩:=x
 cases d with
 |true=>exact y e v j l Q r u
 |false=>exact z e v j l Q r u
end
def SqL(K:Frag)(H:Hp)(a:Addr)(xs:List V):Prop:=
 Rd H a (.lst xs) \/
  ∃(o:Obj)(its:Array Value)(n:Nat),K.lookup a=some o/\o.cls=.type "list"/\o.dict=none/\o.data=.seq its n/\its.size<=sizeLine/\Vals xs its.toList
def SqT(K:Frag)(H:Hp)(a:Addr)(xs:List V):Prop:=
 Rd H a (.tup xs) \/
  ∃(o:Obj)(its:Array Value)(n:Nat),K.lookup a=some o/\o.cls=.type "tuple"/\o.data=.seq its n/\its.size<=sizeLine/\Vals xs its.toList
def zm:Value->Option V
 |.none=>some .non
 |.bool b=>some (.bl b)
 |.int i _=>some (.int i)
 |.str x _=>some (.str x)
 |.bytes b _=>some (.byt b)
 |.float b _=>some (.flt b)
 |.ref a=>some (.ref a)
 |.type n=>some (.ty n)
 |_=>none
def RelV.abs{x:V}{u:Value}(r:RelV x u):zm u=some x:=by
 cases x with
 |non=>cases r;rfl
 |bl _=>cases r;rfl
 |int _=>obtain⟨t,rfl⟩:=r;rfl
 |str _=>obtain⟨t,rfl⟩:=r;rfl
 |byt _=>obtain⟨t,rfl⟩:=r;rfl
 |flt _=>obtain⟨t,rfl⟩:=r;rfl
 |ref _=>cases r;rfl
 |ty _=>cases r;rfl
def RelV.inj{x y:V}{u:Value}(r:RelV x u)(q:RelV y u):x=y:=Kv (r.abs.symm.trans q.abs)
def Vals.inj:∀{xs ys:List V}{us:List Value},Vals xs us->Vals ys us->xs=ys
 |_,_,_,.nil,.nil=>rfl
 |_,_,_,.cons r t,.cons a t'=>by rw[r.inj a,Vals.inj t t']
section
variable{X:Cx}{c:List (Addr×Obj)}{f:St}{H:Hp}{s:Shared}{a:Addr}{xs ys:List V}
def SqL.of{K:Frag}(h:H a=some (.lst xs)):SqL K H a xs:=.inl (.inl h)
def SqT.of{K:Frag}(h:H a=some (.tup xs)):SqT K H a xs:=.inl (.inl h)
def Inv.list(I:Inv X c f H s)(h:SqL X.K H a xs):∃its:List Value,Vals xs its/\PlainL s.heap a its.toArray/\xs.length<=sizeLine:=by
 rcases h with h|⟨o,its,n,j,g,hd,l,p,r⟩
 ·obtain⟨z,its,n,r,e⟩:=h.ok I.hok;exact⟨its,r,⟨_,n,e,rfl,rfl,rfl⟩,z⟩
 ·refine⟨its.toList,r,⟨o,n,I.kIn a o j,g,hd,by simpa using l⟩,?_⟩;have e:=r.length;simp only[Mr]at e;omega
def Inv.tuple(I:Inv X c f H s)(h:SqT X.K H a xs):∃its:List Value,Vals xs its/\IsTup s.heap a its.toArray/\xs.length<=sizeLine:=by
 rcases h with h|⟨o,its,n,j,g,l,u,r⟩
 ·obtain⟨z,its,r,p⟩:=h.ok I.hok;exact⟨its,r,p.tup,z⟩
 ·refine⟨its.toList,r,⟨o,I.kIn a o j,g,n,by simpa using l⟩,?_⟩;have e:=r.length;simp only[Mr]at e;omega
def Inv.list_inj(I:Inv X c f H s)(h:SqL X.K H a xs)(h':SqL X.K H a ys):xs=ys:=by
 obtain⟨its,r,⟨o,n,e,_,_,d⟩,_⟩:=I.list h;obtain⟨Oz,j,⟨o',l,g,_,_,d'⟩,_⟩:=I.list h';rw[e]at g;cases g;rw[d]at d';injection d' with d1 _
 have:its=Oz:=by simpa using KO Array.toList d1
 subst this;exact r.inj j
def Inv.tuple_inj(I:Inv X c f H s)(h:SqT X.K H a xs)(h':SqT X.K H a ys):xs=ys:=by
 obtain⟨its,r,⟨o,e,_,n,d⟩,_⟩:=I.tuple h;obtain⟨Oz,j,⟨o',g,_,l,d'⟩,_⟩:=I.tuple h';rw[e]at g;cases g;rw[d]at d';injection d' with d1 _
 have:its=Oz:=by simpa using KO Array.toList d1
 subst this;exact r.inj j
end
abbrev Cx.wish(X:Cx)(E:Value->Shared->Prop):Cx:={ X with xe:=E }
abbrev Cx.nox(X:Cx):Cx:=X.wish λ_ _=>False
def Cx.Ok.wish{X:Cx}(ok:X.Ok)(E:Value->Shared->Prop):(X.wish E).Ok:=
 ⟨ok.mod,ok.kind,ok.glob,ok.blt,ok.above,ok.inj,ok.has,ok.cab,ok.hd,ok.frames,ok.stk,ok.exf,ok.bs,ok.bsz,ok.noex,ok.exfs,ok.funs,ok.frf⟩
def Cx.Ok.unwish{X:Cx}{E:Value->Shared->Prop}(ok:(X.wish E).Ok):X.Ok:=
 ⟨ok.mod,ok.kind,ok.glob,ok.blt,ok.above,ok.inj,ok.has,ok.cab,ok.hd,ok.frames,ok.stk,ok.exf,ok.bs,ok.bsz,ok.noex,ok.exfs,ok.funs,ok.frf⟩
section
variable{X:Cx}{a:List (Addr×Obj)}{c:St}{H:Hp}{s:Shared}{E:Value->Shared->Prop}
def Inv.wish(I:Inv X a c H s)(E:Value->Shared->Prop):Inv (X.wish E) a c H s:=⟨I.ok.wish E,I.os,I.bare,I.base,I.loc,I.cell,I.free,I.freeC,I.pin,I.hok,I.len⟩
def Inv.unwish(I:Inv (X.wish E) a c H s):Inv X a c H s:=⟨I.ok.unwish,I.os,I.bare,I.base,I.loc,I.cell,I.free,I.freeC,I.pin,I.hok,I.len⟩
def SP.unwish{D:Ends}{f:Flow}{j:Shared}(h:SP (X.wish E) a D f j):SP X a D f j:=by
 cases f with
 |next=>obtain⟨e,g,I,q⟩:=h;exact⟨e,g,I.unwish,q⟩
 |brk=>obtain⟨e,g,I,q⟩:=h;exact⟨e,g,I.unwish,q⟩
 |cont=>obtain⟨e,g,I,q⟩:=h;exact⟨e,g,I.unwish,q⟩
 |ret u=>obtain⟨v,e,g,I,r,q⟩:=h;exact⟨v,e,g,I.unwish,r,q⟩
def PSs.nox{st:List Stmt}{t:TS}(h:PSs X.nox st t):PSs X st t:=λa s c H D I e=>
 LC (h a s c H D (I.wish _) e) (λ_ _ q=>q.unwish) λ_ _ z=>False.elim z
end
section
variable{X:Cx}{st:Stmt}{l:List Stmt}{t u:TS}{e:Expr}{j:TE}{g:Pos}
def zW:TS:=λD a H=>D.nx a H
def Ao(t u:TS):TS:=λD a H=>t { D with nx:=u D } a H
def pss_nil:PSs X [] zW:=λ_ _ a H _ I h=>M1 ⟨a,H,I,h⟩
def oP(r:PS X st t)(w:PSs X l u):PSs X (st::l) (Ao t u):=by
 intro a s y H D I h;refine wpAny_execs_cons (aH (r a s y H { D with nx:=u D } I h) λf x q=>?_)
 cases f with
 |next=>
  obtain⟨c,o,p,q⟩:=q;exact w a x c o D p q
 |ret v=>exact q
 |brk=>exact q
 |cont=>exact q
def vD(c:PS X st t):PSs X [st] t:=by
 intro a s o H D I h;refine wpAny_execs_cons (aH (c a s o H D I h) λf p q=>?_)
 cases f with
 |next=>exact M1 q
 |ret v=>exact q
 |brk=>exact q
 |cont=>exact q
def Inv.quiet{a:List (Addr×Obj)}{c:St}{H:Hp}{s:Shared}(I:Inv X a c H s):interactive X.env=false:=by simp[interactive,I.ok.kind]
def FP(j:TE):TS:=λD a H=>j a H λ_ c=>D.nx a c
def jL(r:PE X e j)(w:swapsWith e none g.line X.env=pure false:=by rfl):PS X (.Expr e g) (FP j):=by intro a s c H D I h;exact wpAny_Expr_any (aH (r a s c H _ I h) λv A p=>by obtain⟨x,f,o,z,y⟩:=p;exact⟨c,f,o,y⟩) I.quiet w
def GE(j:TE):TS:=λD a H=>j a H D.rt
def vS(r:PE X e j):PS X (.Return (some e) g) (GE j):=by intro a s c H D I h;exact wpAny_Return_some (aH (r a s c H _ I h) λv z p=>by obtain⟨x,f,o,y,w⟩:=p;exact⟨x,c,f,o,y,w⟩)
def Iv(c:TT)(t u:TS):TS:=λD a H=>c a H λb f=>if b=true then t D a f else u D a f
def tQ{c:Expr}{a b:List Stmt}{x:TT}(B:PT X c x)(z:PSs X a t)(A:PSs X b u):PS X (.If c a b g) (Iv x t u):=by
 intro f s o H D I h;refine wpAny_If (aH (B f s o H _ I h) λd w y=>?_);obtain⟨p,r,v⟩:=y
 cases d with
 |true=>exact z f w o p D r v
 |false=>exact A f w o p D r v
def EK:TS:=λ_ _ _=>False
def ps_never:PS X st EK:=λ_ _ _ _ _ _ h=>h.elim
end
abbrev TG:=V->St->Hp->(St->Hp->Prop)->Prop
abbrev fF:=List V->St->Hp->(St->Hp->Prop)->Prop
def PG(X:Cx)(a:Expr)(t:TG):Prop:=
 ∀(c:List (Addr×Obj))(s:Shared)(g:St)(H:Hp)(v:V)(u:Value)(Q:St->Hp->Prop),Inv X c g H s->RelV v u->t v g H Q->
  wpAny (model X.prog X.w) X.A (assign a X.env u) (λ_ h=>∃e f,Inv X c e f h/\Q e f) X.xe s
def PGs(X:Cx)(h:List Expr)(t:fF):Prop:=
 ∀(a:List (Addr×Obj))(s:Shared)(f:St)(H:Hp)(vs:List V)(us:List Value)(Q:St->Hp->Prop),Inv X a f H s->Vals vs us->t vs f H Q->
  wpAny (model X.prog X.w) X.A (assignInOrder ((assignEach h X.env).map (·.2)) us) (λ_ g=>∃c e,Inv X a c e g/\Q c e) X.xe s
abbrev lD:=V->V->V->Hp->(Hp->Prop)->Prop
def qU(X:Cx)(t:lD):Prop:=
 ∀(a:List (Addr×Obj))(s:Shared)(g:St)(H:Hp)(o i v:V)(f e u:Value)(Q:Hp->Prop),Inv X a g H s->RelV o f->RelV i e->RelV v u->t o i v H Q->
  wpAny (model X.prog X.w) X.A (setItem f e u) (λ_ h=>∃c,Inv X a g c h/\Q c) X.xe s
abbrev nN:=V->V->Hp->VK->Prop
def sT(X:Cx)(e:Operator)(t:nN):Prop:=
 ∀(a:List (Addr×Obj))(s:Shared)(c:St)(H:Hp)(x y:V)(v u:Value)(Q:VK),Inv X a c H s->RelV x v->RelV y u->t x y H Q->
  wpAny (model X.prog X.w) X.A (inplaceOp e v u) (EP X a c Q) X.xe s
section
variable{X:Cx}{c:Pos}
def iF(i:Nat):TG:=λv a H Q=>Q (a.set i (some v)) H
def kN{i:Nat}{x:Str}(f:X.N.Nodup)(j:X.N[i]?=some x)(l:eh X.env.scope x)(g:X.fn x=true\/X.env.scope.names.lookup x=some .local:=by nofun):PG X (.Name x c) (iF i):=by intro a s p H v u Q I r h;exact wpAny_assign_Name (vg I f j l r (λo e=>⟨_,H,e,h⟩) g)
def FJ:fF:=λvs a H Q=>vs=[]/\Q a H
def IZ(t:TG)(u:fF):fF:=λvs f H Q=>∃v r,vs=v::r/\t v f H λa e=>u r a e Q
def pgs_nil:PGs X [] FJ:=by intro a s f H vs us Q I r h;obtain⟨e,h⟩:=h;subst e;cases r;exact assignInOrder_nil ⟨f,H,I,h⟩
def lR{e:Expr}{es:List Expr}{t:TG}{u:fF}(p:PG X e t)(w:PGs X es u)
  (x:(assignEach (e::es) X.env).map (·.2)=assign e X.env::(assignEach es X.env).map (·.2):=by rfl):PGs X (e::es) (IZ t u):=by
 intro a s A H vs us Q I r h;obtain⟨v,B,o,h⟩:=h;subst o
 cases r with
 |cons r rr=>
  rw[x];refine assignInOrder_cons (aH (p a s A H _ _ _ I r h) λ_ z l=>?_);obtain⟨f,g,j,y⟩:=l;exact w a z f g _ _ Q j rr y
def rJ(K:Frag)(n:Nat)(t:fF):TG:=λv e H Q=>∃a xs,v=.ref a/\SqT K H a xs/\xs.length=n/\t xs e H Q
def wR{es:List Expr}{k:Nat}{t:fF}{n:Nat}(y:X.calm=true)(h:PGs X es t)
  (A:(assignEach es X.env).length=n:=by rfl) (w:(assignEach es X.env).findIdx? (·.1)=none:=by rfl):PG X (.Tuple es k c) (rJ X.K n t):=by
 intro f s l H v u Q I r g;obtain⟨a,xs,x,B,z,g⟩:=g;subst x;cases r;obtain⟨its,j,C,F⟩:=I.tuple B;refine assign_Tuple_tuple (I.ok.hd y) C (by simp[A,←z,j.length]) w λh' E=>?_;have p:Inv X f l H { s with heap:=h' }:=I.kept (t':=s.toks) λb o e=>E b o (KD (Kk e)) e;exact h f _ l H xs _ Q p (by simpa using j) g
def Do(to h:TE)(t:lD):TG:=λv a H Q=>to a H λo e=>h a e λi f=>t o i v f λg=>Q a g
def vW{o i:Expr}{to j:TE}{t:lD}(K:PE X o to)(J:PE X i j)(L:qU X t)
  (G:∀v,assign (.Subscript o i c) X.env v=(do
   let e ←holding [v] (eval o X.env)
   let f ←holding [v,e] (eval i X.env)
   standAt c
   holding [v,e,f] (setItem e f v)
   release [v,e,f] []):=by intro _;rfl):PG X (.Subscript o i c) (Do to j t):=by
 intro a s g H v u Q I r h;rw[G];refine JY (L0 (aH (K a s g H _ I h) λe S E=>?_));obtain⟨x,l,z,P,M⟩:=E;refine JY (L0 (aH (J a S g l _ z M) λf T C=>?_));obtain⟨y,p,A,R,N⟩:=C;refine JY (Nn (JY (L0 (aH (L a T g p x y v e f u _ A P R r N) λ_ U F=>?_))));obtain⟨w,B,O⟩:=F;exact wpAny_release ⟨g,w,B,O⟩
def i5(f:TE)(g:TG):TS:=λD a H=>f a H λx e=>g x a e D.nx
def nr{f e:Expr}{j:TE}{g:TG}(w:PE X e j)(y:PG X f g)(z:swapsWithSole [f] e c.line X.env=pure false:=by rfl)(A:swappedStores [f] e X.env=pure none:=by rfl)
  (u:(assignEach [f] X.env).map (·.2)=[assign f X.env]:=by rfl):PS X (.Assign [f] e c) (i5 j g):=by
 intro a s l H D I h;refine wpAny_Assign_stores (aH (w a s l H _ I h) λv E r=>?_) z A;obtain⟨x,o,p,C,B⟩:=r;rw[u];exact aH (y a E l o x v _ p C B) λ_ F q=>q
def rT{i:Nat}{x:Str}{e:Expr}{g:TE}{a:Pos}(r:X.N.Nodup)(z:X.N[i]?=some x)(B:eh X.env.scope x)(u:PE X e g)(A:swapsWith e (some (.Name x a)) c.line X.env=pure false:=by rfl)(w:X.fn x=true\/X.env.scope.names.lookup x=some .local:=by nofun) :
  PS X (.Assign [.Name x a] e c) (i5 g (iF i)):=by
 intro f s F H D I h;refine wpAny_Assign_Name (aH (u f s F H _ I h) λv G p=>?_) A;obtain⟨y,j,l,E,C⟩:=p;exact vg l r z B E (λJ o=>⟨_,j,o,C⟩) w
def Bj(to w v:TE)(p:V->V->Hp->VK->Prop)(u:nN)(r:lD):TS:=λD a H=>to a H λo e=>w a e λi f=>p o i f λx g=>v a g λy h=>u x y h λz j=>r o i z j λl=>D.nx a l
def p7(X:Cx)(t:V->V->Hp->VK->Prop):Prop:=
 ∀(a:List (Addr×Obj))(s:Shared)(g:St)(H:Hp)(o i:V)(f e:Value)(Q:VK),Inv X a g H s->RelV o f->RelV i e->t o i H Q->
  wpAny (model X.prog X.w) X.A (getItem f e) (EP X a g Q) X.xe s
def Ah{o i e:Expr}{to A z:TE}{p:V->V->Hp->VK->Prop}{u:nN}{r:lD}{w:Operator}{Y:Pos}(ho:PE X o to)(hi:PE X i A)(hg:p7 X p)(he:PE X e z)(hp:sT X w u)(hs:qU X r)
  (ha:∀g f new,augStore i g f new=(do holding [new,g,f] (setItem g f new);release [new,g,f] [];pure .next):=by intros;rfl):PS X (.AugAssign (.Subscript o i Y) w e c) (Bj to A z p u r):=by
 intro a s j H D I h;refine wpAny_AugAssign_SubscriptAny (aH (ho a s j H _ I h) λg s1 T=>?_) ha;obtain⟨B,E,M,x,q1⟩:=T;refine aH (hi a s1 j E _ M q1) λf s2 S=>?_;obtain⟨C,F,N,y,q2⟩:=S;refine aH (hg a s2 j F B C g f _ N x y q2) λl s3 U=>?_;obtain⟨x3,G,O,r3,q3⟩:=U;refine aH (he a s3 j G _ O q3) λv s4 Z=>?_;obtain⟨x4,J,P,r4,q4⟩:=Z;refine aH (hp a s4 j J x3 x4 l v _ P r3 r4 q4) λnew s5 UN=>?_;obtain⟨x5,K,Q,r5,q5⟩:=UN
 exact aH (hs a s5 j K B C x5 g f new _ Q x y r5 q5) λ_ s6 UO=>by obtain⟨L,R,q6⟩:=UO;exact⟨j,L,R,q6⟩
def uv(f:Int->Int->Int):nN:=λx y H Q=>∃i j,x=.int i/\y=.int j/\Q (.int (f i j)) H
def A7:sT X .Add (uv λi j=>i+j):=by intro a s o H x y v u Q I g l h;obtain⟨i,j,e,f,q⟩:=h;subst e;subst f;obtain⟨t,rfl⟩:=g;obtain⟨t',rfl⟩:=l;exact iadd_int ⟨.int _,H,I.tok _,⟨_,rfl⟩,q⟩
end
section
variable{X:Cx}{a:Pos}
def IW(c:TT)(tb:TS):TS:=λD e H=>∃W:Nat->St->Hp->Prop,(∃m,W m e H)/\∀m e H,W m e H->
 c e H λb h=>if b=true then ∃N:St->Hp->Prop,(∀f g,N f g->∃j,j<m/\W j f g)/\tb { D with nx:=N,ct:=N,bk:=D.nx } e h else D.nx e h
def vm{c:Expr}{l:List Stmt}{K:TT}{tb:TS}(J:PassesOwn (model X.prog X.w) X.A X.env X.xe)(P:PT X c K)(O:PSs X l tb):PS X (.While c l [] a) (IW K tb):=by
 intro e s Z H D I h;obtain⟨W,⟨Q,U⟩,p⟩:=h;refine wpAny_While (codeAny_whileLoop (λn R=>∃r B,Inv X e r B R/\W n r B) ?_ Q ⟨Z,H,I,U⟩);rintro n S ⟨j,C,L,Y⟩;refine LY J (aH (P e S j C _ L (p n j C Y)) λb T M=>?_);obtain⟨E,F,u⟩:=M
 cases b with
 |true=>
  obtain⟨N,G,u⟩:=u;rw[J9 rfl];refine LY J (aH (O e T j E _ F u) λf s3 w=>?_)
  cases f with
  |next=>
   obtain⟨g,o,x,n3⟩:=w;obtain⟨z,y,A⟩:=G g o n3;exact⟨z,y,g,o,x,A⟩
  |cont=>
   obtain⟨g,o,x,n3⟩:=w;obtain⟨z,y,A⟩:=G g o n3;exact⟨z,y,g,o,x,A⟩
  |brk=>exact w
  |ret v=>exact w
 |false=>
  rw[JZ KG];exact M1 ⟨j,E,F,u⟩
end
structure It where
 go:Nat->Hp->Prop
 yld:Nat->Hp->V->Hp->Prop
 stop:Nat->Hp->Prop
def eR(X:Cx)(a:List (Addr×Obj))(H:Hp)(b:Addr):Prop:=
 H b=none/\b≠X.env.locals/\b∉X.fs/\(b∈X.ex\/X.s₀.heap.objs.size<=b)/\(∀x c,X.env.cells.lookup x=some c->c≠b)/\∀p∈X.pn++a,p.1≠b
def Inv.fpOk{X:Cx}{a:List (Addr×Obj)}{l:St}{H g:Hp}{s:Shared}{b:Addr}(I:Inv X a l H s)(f:s.heap.objs.size<=b)(h:g b=none):eR X a g b:=by
 refine⟨h,N4 (KJ I.lt f),I.nofs f,.inr (Kl I.sz f),λx c e z=>?_,λp j z=>?_⟩
 ·obtain⟨v,q⟩:=I.cell x c e;exact absurd (KJ q.lt (by rwa[z])) (Lw _)
 ·exact absurd (KJ (Kk (I.pin p j).1) (by rwa[z])) (Lw _)
structure Turn(P:Program)(w:World)(K:Frag)(tg:Expr)(J:It)(fp:List Addr)(it:Addr)(tn:Nat->Heap->Prop):Prop where
 mem:it∈fp
 obj:∀i h,tn i h->∀b∈fp,∃o,h.get? b=some o/\∀v,o.data≠.cell v
 keep:∀i h h',tn i h->(∀b∈fp,∀o,h.get? b=some o->h'.get? b=some o)->tn i h'
 item:∀(X:Cx),X.prog=P->X.w=w->X.K=K->X.calm=true->∀(i:Nat)(pins:List (Addr×Obj))(s:Shared)(σ:St)(H:Hp)(E:Value->Shared->Prop),Inv X pins σ H s->(∀b∈fp,eR X pins H b)->tn i s.heap->J.go i H->
  wpAny (model P w) X.A (pyNext (.ref it)) (λr s1=>∃u,r=some u /\
   wpAny (model P w) X.A (letOwnedTupleGo tg (.ref it) u) (λ_ s2=>∃x H',Inv X pins σ H' s2/\RelV x u/\J.yld i H x H'/\tn (i+1) s2.heap/\∀b∈fp,H' b=none) E s1) E s
 done:∀(X:Cx),X.prog=P->X.w=w->X.K=K->X.calm=true->∀(i:Nat)(pins:List (Addr×Obj))(s:Shared)(σ:St)(H:Hp)(E:Value->Shared->Prop),Inv X pins σ H s->(∀b∈fp,eR X pins H b)->tn i s.heap->J.stop i H->
  wpAny (model P w) X.A (pyNext (.ref it)) (λr s1=>r=none/\Inv X pins σ H s1) E s
 self:∀(A:Around)(i:Nat)(s:Shared)(Q:Value->Shared->Prop)(E:Value->Shared->Prop),tn i s.heap->Q (.ref it) s->wpAny (model P w) A (pyIter (.ref it)) Q E s
abbrev TI:=St->Hp->(It->Hp->Prop)->Prop
def ux(X:Cx)(a:List (Addr×Obj))(o:St)(l:Expr)(R:It->Hp->Prop)(j:Value)(g:Shared):Prop:=
 ∃(f:Addr)(e:List Addr)(h:Nat->Heap->Prop)(J:It)(c:Hp),j=.ref f/\Inv X a o c g/\Turn X.prog X.w X.K l J e f h/\h 0 g.heap/\(∀b∈e,eR X a c b)/\R J c
def PI(X:Cx)(g c:Expr)(h:TI):Prop:=
 ∀(a:List (Addr×Obj))(s:Shared)(e:St)(H:Hp)(R:It->Hp->Prop),Inv X a e H s->h e H R->
  wpAny (model X.prog X.w) X.A (eval c X.env) (λv f=>wpAny (model X.prog X.w) X.A (pyIter v) (ux X a e g R) X.xe f) X.xe s
def pK{M:Model}{A:Around}{E:Value->Shared->Prop}{s:Shared}{e:Expr}{c:Addr}{u:Value}{o:Obj}{n:String}{vs:Array Value}{Q:Unit->Shared->Prop}(j:s.heap.get? c=some o)(f:o.cls=.type n)(hd:o.data=.fields vs)
  (g:["enumerate","zip","dict_itemiterator","dict_reverseitemiterator","odict_iterator","itertools.zip_longest","itertools.pairwise"].contains n=false) (a:Q () s):wpAny M A (letOwnedTupleGo e (.ref c) u) Q E s:=by
 unfold letOwnedTupleGo
 cases e<;>first
  |exact Kr a
  |(cases u<;>first
   |exact Kr a
   |(refine JY (wpAny_load j ?_)
     rw [f, hd];show wpAny M A (if (["enumerate", "zip", "dict_itemiterator", "dict_reverseitemiterator", "odict_iterator", "itertools.zip_longest", "itertools.pairwise"].contains n&&vs[0]?==some (rawInt _)) = true then _ else _) Q E s;rw [JZ (by intro h; rw [g, LP]at h; cases h)]
     exact Kr a))
def qZ(K:Frag)(a:Addr):It:=
 ⟨λi H=>∃xs x,SqL K H a xs/\xs[i]?=some x,λi H x c=>c=H/\∀xs,SqL K H a xs->xs[i]?=some x,λi H=>∃xs,SqL K H a xs/\xs.length<=i⟩
def qO(K:Frag)(a:Addr):It:=
 ⟨λi H=>∃xs x,SqT K H a xs/\xs[i]?=some x,λi H x c=>c=H/\∀xs,SqT K H a xs->xs[i]?=some x,λi H=>∃xs,SqT K H a xs/\xs.length<=i⟩
def lZ(lo:Int)(n:Nat):It:=⟨λi _=>i<n,λi H x a=>a=H/\x=.int (lo+i),λi _=>n<=i⟩
def Fn{P:Program}{w:World}{K:Frag}{tg:Expr}(a j:Addr):Turn P w K tg (qZ K a) [j] j (λi h=>h.IsListIter j a i) where
 mem:=by simp
 obj:=λi h st b g=>by
  have e:b=j:=by simpa using g
  subst e;obtain⟨o,e,c,d⟩:=st;exact⟨o,e,λv z=>by rw[d]at z;cases z⟩
 keep:=λi h h' st k=>st.at λo e=>k j (by simp) o e
 item:=by
  intro X J M G Q i f s S H E I l st L;subst J M G;obtain⟨xs,x,r,R⟩:=L;obtain⟨its,N,p,hz⟩:=I.list r;obtain⟨u,Z,ru⟩:=N.get R;obtain⟨y,A,Y,B,C,F⟩:=l j (by simp);refine MM st p.isList (x:=u) (by simpa using Z) λh' O sb=>?_;have T:Inv X f S H { s with heap:=h' }:=I.turned (t':=s.toks) (λb o g e=>(sb.2 b g).trans e) y A B C F;obtain⟨o,e,c,d⟩:=id O;exact⟨u,rfl,pK (s:={ s with heap:=h' }) e c d (by decide) ⟨x,H,T,ru,⟨rfl,λys hy=>by rwa[I.list_inj hy r]⟩,O,λb g=>(l b g).1⟩⟩
 done:=by
  intro X J M G Q i f s S H E I l st L;subst J M G;obtain⟨xs,r,R⟩:=L;obtain⟨its,N,p,hz⟩:=I.list r;obtain⟨y,A,Y,B,C,F⟩:=l j (by simp);have hl:=N.length;exact MV (I.ok.hd Q) st p.isList (by simp;omega) λh' U=>⟨rfl,I.turned (t':=s.toks) (λb o g e=>U b o g e) y A B C F⟩
 self:=λ_ _ _ _ _ st h=>wpAny_pyIter_listiter st h
def GJ{P:Program}{w:World}{K:Frag}{tg:Expr}(a j:Addr):Turn P w K tg (qO K a) [j] j (λi h=>h.IsTupleIter j a i) where
 mem:=by simp
 obj:=λi h st b g=>by
  have e:b=j:=by simpa using g
  subst e;obtain⟨o,e,c,d⟩:=st;exact⟨o,e,λv z=>by rw[d]at z;cases z⟩
 keep:=λi h h' st k=>st.at λo e=>k j (by simp) o e
 item:=by
  intro X J M G Q i f s S H E I l st L;subst J M G;obtain⟨xs,x,r,R⟩:=L;obtain⟨its,N,p,hz⟩:=I.tuple r;obtain⟨u,Z,ru⟩:=N.get R;obtain⟨y,A,Y,B,C,F⟩:=l j (by simp);refine wpAny_pyNext_tuple_item st (show s.heap.IsTuple a its.toArray from p) (x:=u) (by simpa using Z) λh' O sb=>?_;have T:Inv X f S H { s with heap:=h' }:=I.turned (t':=s.toks) (λb o g e=>(sb.2 b g).trans e) y A B C F;obtain⟨o,e,c,d⟩:=id O;exact⟨u,rfl,pK (s:={ s with heap:=h' }) e c d (by decide) ⟨x,H,T,ru,⟨rfl,λys hy=>by rwa[I.tuple_inj hy r]⟩,O,λb g=>(l b g).1⟩⟩
 done:=by
  intro X J M G Q i f s S H E I l st L;subst J M G;obtain⟨xs,r,R⟩:=L;obtain⟨its,N,p,hz⟩:=I.tuple r;obtain⟨y,A,Y,B,C,F⟩:=l j (by simp);have hl:=N.length;exact wpAny_pyNext_tuple_end (I.ok.hd Q) st (show s.heap.IsTuple a its.toArray from p) (by simp;omega) λh' U=>⟨rfl,I.turned (t':=s.toks) (λb o g e=>U b o g e) y A B C F⟩
 self:=λ_ _ _ _ _ st h=>wpAny_pyIter_tupleiter st h
def ED{P:Program}{w:World}{K:Frag}{R:Expr}(a:Addr)(lo:Int)(n:Nat):Turn P w K R (lZ lo n) [a] a (λi h=>IsRangeIter h a (lo+(i:Nat)*1) ((n:Int)-(i:Nat)) 1) where
 mem:=by simp
 obj:=λi h st b f=>by
  have e:b=a:=by simpa using f
  subst e
  exact⟨_,st,λv z=>by
   have S:Data.fields _=Data.cell v:=z
   cases S⟩
 keep:=λi h h' st k=>k a (by simp) _ st
 item:=by
  intro X y C x A i c s J H E I g st B;subst y C x;obtain⟨j,l,N,p,r,u⟩:=g a (by simp);have W:=Walks.range (prog:=X.prog) (w:=X.w) (I.ok.hd A) a lo 1 n;refine W.item i s _ _ B st λv h' G O F Q=>?_;obtain⟨t,rfl⟩:=O;have L:Inv X c J H { s with heap:=h',toks:=G }:=I.turned (λb o f e=>Q b o (by simpa using f) e) j l p r u;refine⟨_,rfl,pK (s:={ s with heap:=h',toks:=G }) (n:="range_iterator") F rfl rfl (by decide) ⟨.int (lo+i),H,L,⟨t,?_⟩,⟨rfl,rfl⟩,F,λb f=>(g b f).1⟩⟩;rw[Int.mul_one]
 done:=by intro X y C x A i c s J H E I g st B;subst y C x;obtain⟨j,l,N,p,r,u⟩:=g a (by simp);exact wpAny_pyNext_range_end (I.ok.hd A) st (by have:n<=i:=B;omega) λh' M=>⟨rfl,I.turned (t':=s.toks) (λb o f e=>M b o f e) j l p r u⟩
 self:=λ_ _ _ _ _ st h=>wpAny_pyIter_rangeiter st h
section
variable{X:Cx}{c:Expr}
def wH{f:List (Addr×Obj)}{j:St}{H:Hp}{s:Shared}{R:It->Hp->Prop}{E:Value->Shared->Prop}{lo a:Int}{t u v:Tok}{h:Nat}(I:Inv X f j H s)(r:-(2^62)<=lo)(w:lo<2^62)(x:-(2^62)<=a)(y:a<2^62)
  (q:R (lZ lo (a-lo).toNat) H):wpAny (model X.prog X.w) X.A (pyIter (.ref s.heap.objs.size)) (ux X f j c R) E { s with heap:=s.heap.push { cls:=.type "range",data:=.fields #[.int lo t,.int a u,.int 1 v] },toks:=h }:=by
 refine wpAny_pyIter_range (IsRange.new ..) (small_one r w x y) ?_;have g:Inv X f j H { s with heap:=s.heap.push { cls:=.type "range",data:=.fields #[.int lo t,.int a u,.int 1 v] },toks:=h }:=I.kept λb o e=>J4 _ e
 refine⟨(s.heap.push { cls:=.type "range",data:=.fields #[.int lo t,.int a u,.int 1 v] }).objs.size,[(s.heap.push { cls:=.type "range",data:=.fields #[.int lo t,.int a u,.int 1 v] }).objs.size],_,_,H,rfl,
  g.kept (t':=h) λb o e=>J4 _ e,ED _ lo (a-lo).toNat,?_,λb z=>?_,q⟩
 ·have l:lo+((0:Nat):Int)*1=lo:=by simp
  have p:(((a-lo).toNat:Nat):Int)-((0:Nat):Int)=Builtin.Range.rangeSize lo a 1:=by rw[rangeSize_one];split<;>omega
  show IsRangeIter _ _ (lo+((0:Nat):Int)*1) ((((a-lo).toNat:Nat):Int)-((0:Nat):Int)) 1;rw[l,p];exact Ke _ rfl
 ·have e:b=(s.heap.push { cls:=.type "range",data:=.fields #[.int lo t,.int a u,.int 1 v] }).objs.size:=by simpa using z
  subst e;exact g.fpOk (J3 _) (g.hok.fresh (J3 _))
def zc(e:TA):TI:=λf H R=>e f H λvs a=>∃j:Int,vs=[.int j]/\-(2^62)<=j/\j<2^62/\R (lZ 0 j.toNat) a
def F0(e:TA):TI:=λf H R=>e f H λvs a=>∃i j:Int,vs=[.int i,.int j]/\(-(2^62)<=i/\i<2^62/\-(2^62)<=j/\j<2^62)/\R (lZ i (j-i).toNat) a
def vi{a:Expr}{o:TA}{p g:Pos}(x:Gl X "range")(y:X.mg "range"=none)(w:PA X [a] o)(z:starEach [a] X.env=[(false,eval a X.env)]:=by rfl):PI X c (.Call (.Name "range" p) [a] [] g) (zc o):=by
 intro f s C H R I h;refine Call_ (il I x y boot_range (K4 (aH (w g f s C H _ I h) λus F v=>?_) z rfl));obtain⟨vs,E,u,B,l⟩:=v;obtain⟨j,e,l,A,q⟩:=l;subst e
 cases B with
 |cons r rr=>
  cases rr;obtain⟨t,rfl⟩:=r;exact call_range_1 (wH u (by omega) (by omega) l A (by simpa using q))
def Dx{a b:Expr}{u:TA}{p g:Pos}(x:Gl X "range")(y:X.mg "range"=none)(w:PA X [a,b] u)(z:starEach [a,b] X.env=[(false,eval a X.env),(false,eval b X.env)]:=by rfl)(o:starEach [b] X.env=[(false,eval b X.env)]:=by rfl) :
  PI X c (.Call (.Name "range" p) [a,b] [] g) (F0 u):=by
 intro f s G H R I h;refine Call_ (il I x y boot_range (K4 (aH (w g f s G H _ I h) λus K ⟨vs,J,v,F,l⟩=>?_) (by rw[z,o]) (by rw[o];rfl)));obtain⟨i,j,e,⟨l,A,B,C⟩,q⟩:=l;subst e
 cases F with
 |cons r rr=>
  cases rr with
  |cons E rr=>
   cases rr;obtain⟨t,rfl⟩:=r;obtain⟨t',rfl⟩:=E;exact call_range_2 (wH v l A B C q)
def AV(p:TI)(g:TG)(tb:TS):TS:=λD a H=>p a H λJ l=>∃W:Nat->Nat->St->Hp->Prop,(∃m,W 0 m a l)/\∀i m a H,W i m a H->
 (J.stop i H/\D.nx a H)\/(J.go i H/\∃N:St->Hp->Prop,(∀f e,N f e->∃j,j<m/\W (i+1) j f e)/\∀x e,J.yld i H x e->g x a e λh o=>tb { D with nx:=N,ct:=N,bk:=D.nx } h o)
def lq(a:List Addr)(h:Heap):List (Addr×Obj):=a.filterMap λb=>(h.get? b).map λo=>(b,o)
def oB{a:List Addr}{h:Heap}{b:Addr}{o:Obj}(f:b∈a)(e:h.get? b=some o):(b,o)∈lq a h:=Mc.mpr ⟨b,f,by rw[e];rfl⟩
def zu{a:List Addr}{h:Heap}{p:Addr×Obj}(j:p∈lq a h):p.1∈a/\h.get? p.1=some p.2:=by
 obtain⟨b,g,e⟩:=Mc.mp j
 cases q:h.get? b with
 |none=>rw[q]at e;cases e
 |some o=>
  rw[q]at e;have f:(b,o)=p:=Kv e;subst f;exact⟨g,q⟩
def Inv.pinned{a:List (Addr×Obj)}{j:St}{H:Hp}{s:Shared}{f:List Addr}(I:Inv X a j H s)(w:∀b∈f,eR X a H b)(x:∀b∈f,∃o,s.heap.get? b=some o/\∀v,o.data≠.cell v):Inv X (a++lq f s.heap) j H s:=
 I.pins_of λp y=>(Ks.mp y).elim (λz=>I.pin p (KR _ z)) λz=>by obtain⟨h,e⟩:=zu z;obtain⟨l,r,u,_⟩:=w p.1 h;obtain⟨o,g,d⟩:=x p.1 h;rw[e]at g;cases g;exact⟨e,l,r,u,d⟩
def Inv.unpinned{a pl:List (Addr×Obj)}{e:St}{H:Hp}{s:Shared}(I:Inv X (a++pl) e H s):Inv X a e H s:=I.pins_of λp f=>I.pin p (KR _ (L7 _ f))
def ue{y:Expr}{C:List Stmt}{wi:TI}{g:TG}{tb:TS}{Y:Pos}(K:PassesOwn (model X.prog X.w) X.A X.env X.xe)(hc:X.calm=true)(hi:PI X c y wi)(hg:PG X c g)(w:PSs X C tb)
  (hs:∀x,foldedSetIterable y X.env x=pure x:=by intro _;rfl):PS X (.For c y C [] Y) (AV wi g tb):=by
 intro a s σ H D I h;refine wpAny_For (aH (hi a s σ H _ I h) λv s1 h1=>aH h1 λUg s2 h2=>?_) hs;obtain⟨it,F,tn,J,H2,e,I2,T,RJ,f2,W,⟨m0,w0⟩,O⟩:=h2;subst e;have R:∀{B:Hp},(∀b∈F,B b=none)->∀b∈F,eR X a B b:=λhn b w=>⟨hn b w,(f2 b w).2⟩;refine codeAny_forLoop_any (λn s'=>∃i z B,Inv X a z B s'/\tn i s'.heap/\(∀b∈F,B b=none)/\W i n z B) ?_ m0 ⟨0,σ,H2,I2,RJ,λb w=>(f2 b w).1,w0⟩;rintro n s3 ⟨i,A,P,I3,M,G,w3⟩;rcases O i n A P w3 with⟨stop,qn⟩|⟨go,N,hN,step⟩
 ·refine LY K (aH (T.done X rfl rfl rfl hc i a s3 A P X.xe I3 (R G) M stop) λr s4 Oa=>?_);obtain⟨U,I4⟩:=Oa;subst U;exact M1 ⟨A,P,I4,qn⟩
 ·refine LY K (aH (T.item X rfl rfl rfl hc i a s3 A P X.xe I3 (R G) M go) λr s4 OC=>?_);obtain⟨u,U,h4⟩:=OC;subst U;refine LY K (aH h4 λ_ s5 P9=>?_);obtain⟨x,H5,I5,r5,y5,S,Uh⟩:=P9;have Q:=I5.pinned (R Uh) (T.obj _ _ S);refine LY K (aH (hg _ s5 A H5 x u _ Q r5 (step x H5 y5)) λ_ s6 S7=>?_);obtain⟨σ6,H6,I6,q6⟩:=S7;refine LY K (aH (w _ s6 σ6 H6 _ I6 q6) λf Z E=>?_)
  have again:∀{j:St}{l:Hp},Inv X (a++lq F s5.heap) j l Z->N j l->∃m,m<n/\∃i z B,Inv X a z B Z/\tn i Z.heap/\(∀b∈F,B b=none)/\W i m z B:=λ{j l} p L=>by obtain⟨m',hm,w7⟩:=hN j l L;refine⟨m',hm,i+1,j,l,p.unpinned,T.keep _ _ _ S λb w o e=>(p.pin (b,o) (KR _ (KR _ (oB w e)))).1,λb w=>?_,w7⟩;obtain⟨o,e,d⟩:=T.obj _ _ S b w;exact (p.pin (b,o) (KR _ (KR _ (oB w e)))).2.1
  cases f with
  |next=>obtain⟨j,l,p,L⟩:=E;exact again p L
  |cont=>obtain⟨j,l,p,L⟩:=E;exact again p L
  |brk=>obtain⟨j,l,p,E⟩:=E;exact⟨j,l,p.unpinned,E⟩
  |ret v=>obtain⟨x7,j,l,p,r7,E⟩:=E;exact⟨x7,j,l,p.unpinned,r7,E⟩
end
abbrev R2:=V->V->Hp->VK->Prop
def cy(X:Cx)(f:Value->Value->Sem Value)(r:R2):Prop:=
 ∀(a:List (Addr×Obj))(s:Shared)(c:St)(H:Hp)(x y:V)(v u:Value)(Q:VK),Inv X a c H s->RelV x v->RelV y u->r x y H Q->
  wpAny (model X.prog X.w) X.A (f v u) (EP X a c Q) X.xe s
def qV(X:Cx)(f:Value->Sem Value)(r:V->Hp->VK->Prop):Prop:=
 ∀(a:List (Addr×Obj))(s:Shared)(c:St)(H:Hp)(x:V)(v:Value)(Q:VK),Inv X a c H s->RelV x v->r x H Q->
  wpAny (model X.prog X.w) X.A (f v) (EP X a c Q) X.xe s
def eB(X:Cx)(f:Value)(r:List V->Hp->VK->Prop):Prop:=
 ∀(a:List (Addr×Obj))(s:Shared)(c:St)(H:Hp)(xs:List V)(us:List Value)(Q:VK),Inv X a c H s->Vals xs us->r xs H Q->
  wpAny (model X.prog X.w) X.A (call f us) (EP X a c Q) X.xe s
def Gg(X:Cx)(r:V->Hp->(Bool->Hp->Prop)->Prop):Prop:=
 ∀(a:List (Addr×Obj))(s:Shared)(c:St)(H:Hp)(x:V)(v:Value)(Q:Bool->Hp->Prop),Inv X a c H s->RelV x v->r x H Q->
  wpAny (model X.prog X.w) X.A (truthy v) (TP X a c Q) X.xe s
def jk(r:R2)(f tb:TE):TE:=λa H Q=>f a H λx c=>tb a c λy e=>r x y e Q
def Ak(r:V->Hp->VK->Prop)(c:TE):TE:=λe H Q=>c e H λx a=>r x a Q
def rI(C:Int->Int->Prop)(g:Int->Int->V):R2:=λx y H Q=>∃i j,x=.int i/\y=.int j/\C i j/\Q (g i j) H
def ic(g:Int->Int->V):R2:=λx y H Q=>∃i j,x=.int i/\y=.int j/\Q (g i j) H
def rU(g:Int->V):V->Hp->VK->Prop:=λx H Q=>∃i,x=.int i/\Q (g i) H
section
variable{X:Cx}{a b:Expr}{c tb:TE}{e:Pos}
def qG(E:PE X a c)(F:PE X b tb){g:List (Addr×Obj)}{s:Shared}{l:St}{H:Hp}{R:V->V->Hp->Prop}(I:Inv X g l H s)
  (h:c l H λx w=>tb l w λy j=>R x y j) {Q:Value->Shared->Prop} {f:Value->Value->Sem Value}
  (G:∀v u r x y j,Inv X g l j r->RelV x v->RelV y u->R x y j->wpAny (model X.prog X.w) X.A (f v u) Q X.xe r) :
  wpAny (model X.prog X.w) X.A (eval a X.env) (λv o=>wpAny (model X.prog X.w) X.A (eval b X.env) (λu p=>wpAny (model X.prog X.w) X.A (f v u) Q X.xe p) X.xe o) X.xe s:=by
 refine aH (E g s l H _ I h) λv N C=>?_;obtain⟨x,w,z,L,J⟩:=C;refine aH (F g N l w _ z J) λu r B=>?_;obtain⟨y,j,A,M,K⟩:=B;exact G v u r x y j A L M K
def qT{g:Operator}{r:R2}(w:cy X (binaryOp g) r)(o:PE X a c)(p:PE X b tb):PE X (.BinOp a g b e) (jk r c tb):=by intro f s C H Q I h;exact wpAny_BinOp (qG o p I h λv u B x y j l z A q=>w f B C j x y v u Q l z A q)
def Cy{g:UnaryOp}{r:V->Hp->VK->Prop}(w:qV X (unaryOp g) r)(u:PE X a c):PE X (.UnaryOp g a e) (Ak r c):=by intro f s j H Q I h;exact UnaryOp_ (aH (u f s j H _ I h) λv A p=>by obtain⟨x,l,o,z,y⟩:=p;exact w f A j l x v Q o z y)
def mJ{f:Value->Value->Sem Value}{C:Int->Int->Prop}{g:Int->Int->Int}
  (rule:∀(i j:Int)(t u:Tok)(s:Shared)(Q:Value->Shared->Prop)(E:Value->Shared->Prop),C i j->Q (.int (g i j) s.toks) { s with toks:=s.toks+1 }->wpAny (model X.prog X.w) X.A (f (.int i t) (.int j u)) Q E s) :
  cy X f (rI C λi j=>.int (g i j)):=by
 intro l s w H x y v u Q I p r h;obtain⟨i,j,rfl,rfl,o,q⟩:=h;obtain⟨t,rfl⟩:=p;obtain⟨t',rfl⟩:=r;exact rule i j t t' s _ _ o ⟨.int (g i j),H,I.tok _,⟨_,rfl⟩,q⟩
def vx{f:Value->Value->Sem Value}{g:Int->Int->Int}
  (rule:∀(i j:Int)(t u:Tok)(s:Shared)(Q:Value->Shared->Prop)(E:Value->Shared->Prop),Q (.int (g i j) s.toks) { s with toks:=s.toks+1 }->wpAny (model X.prog X.w) X.A (f (.int i t) (.int j u)) Q E s) :
  cy X f (ic λi j=>.int (g i j)):=by
 intro l s r H x y v u Q I o p h;obtain⟨i,j,rfl,rfl,q⟩:=h;obtain⟨t,rfl⟩:=o;obtain⟨t',rfl⟩:=p;exact rule i j t t' s _ _ ⟨.int (g i j),H,I.tok _,⟨_,rfl⟩,q⟩
def pA{f:Value->Value->Sem Value}{g:Int->Int->Bool}
  (rule:∀(i j:Int)(t u:Tok)(s:Shared)(Q:Value->Shared->Prop)(E:Value->Shared->Prop),Q (.bool (g i j)) s->wpAny (model X.prog X.w) X.A (f (.int i t) (.int j u)) Q E s) :
  cy X f (ic λi j=>.bl (g i j)):=by
 intro l s r H x y v u Q I o p h;obtain⟨i,j,rfl,rfl,q⟩:=h;obtain⟨t,rfl⟩:=o;obtain⟨t',rfl⟩:=p;exact rule i j t t' s _ _ ⟨.bl (g i j),H,I,rfl,q⟩
def xY(i j:Int):Prop:=0<=j/\j<=1000000/\i.natAbs<2^64
def IM:cy X (binaryOp .Add) (ic λi j=>.int (i+j)):=vx λ_ _ _ _ _ _ _ q=>add_int q
def BU:cy X (binaryOp .Sub) (ic λi j=>.int (i-j)):=vx λ_ _ _ _ _ _ _ q=>sub_int q
def A0:cy X (binaryOp .Mod) (rI (λ_ j=>0<j) λi j=>.int (i % j)):=mJ λi j _ _ _ _ _ f q=>by have g:(0:Int)<j:=f;exact mod_int' (by omega) (by rwa[Int.fmod_eq_emod_of_nonneg i (by omega)])
def Ha:cy X (binaryOp .Pow) (rI xY λi j=>.int (i^j.toNat)):=mJ λ_ _ _ _ _ _ _ f q=>pow_int_small f.1 f.2.1 f.2.2 q
def HH{f:Value->Sem Value}{g:Int->Int}
  (rule:∀(i:Int)(t:Tok)(s:Shared)(Q:Value->Shared->Prop)(E:Value->Shared->Prop),Q (.int (g i) s.toks) { s with toks:=s.toks+1 }->wpAny (model X.prog X.w) X.A (f (.int i t)) Q E s) :
  qV X f (rU λi=>.int (g i)):=by
 intro j s o H x v Q I l h;obtain⟨i,rfl,q⟩:=h;obtain⟨t,rfl⟩:=l;exact rule i t s _ _ ⟨.int (g i),H,I.tok _,⟨_,rfl⟩,q⟩
def Ig:qV X (unaryOp .USub) (rU λi=>.int (-i)):=HH λ_ _ _ _ _ q=>neg_int q
end
section
variable{X:Cx}{a b:Expr}{f tb:TE}{g:Pos}
def pJ{c:List (Addr×Obj)}{j:St}{H:Hp}{s:Shared}{Q:VK}{k h:Bool}(I:Inv X c j H s)(q:Q (.bl k) H)(e:k=h):EP X c j Q (.bool h) s:=by subst e;exact⟨.bl k,H,I,rfl,q⟩
def IJ:cy X (compareOp .Lt) (ic λi j=>.bl (decide (i<j))):=pA λ_ _ _ _ _ _ _ q=>lt_int q
def FM:cy X (compareOp .LtE) (ic λi j=>.bl (decide (i<=j))):=pA λ_ _ _ _ _ _ _ q=>le_int q
def FY:cy X (compareOp .Gt) (ic λi j=>.bl (decide (j<i))):=pA λ_ _ _ _ _ _ _ q=>gt_int q
def GA:cy X (compareOp .GtE) (ic λi j=>.bl (decide (j<=i))):=pA λ_ _ _ _ _ _ _ q=>ge_int q
def Gi:cy X (compareOp .Is) (λx y H Q=>y=.non/\Q (.bl (decide (x=.non))) H):=by
 intro c s l H x y v u Q I e j h;obtain⟨rfl,q⟩:=h;cases j;refine is_none_gen (pJ I q ?_)
 cases x<;>first
  |(cases e;rfl)
  |(obtain⟨t,rfl⟩:=e;rfl)
def C8:cy X (compareOp .IsNot) (λx y H Q=>y=.non/\Q (.bl (!decide (x=.non))) H):=by
 intro c s l H x y v u Q I e j h;obtain⟨rfl,q⟩:=h;cases j;refine isnot_none_gen (pJ I q ?_)
 cases x<;>first
  |(cases e;rfl)
  |(obtain⟨t,rfl⟩:=e;rfl)
def aD(b:Expr){c:CmpOp}(h:c≠.In:=by decide)(l:c≠.NotIn:=by decide):behindInMarks c b=false:=by
 have e:(c==CmpOp.In)=false:=by cases c<;>first|rfl|exact absurd rfl h
 have j:(c==CmpOp.NotIn)=false:=by cases c<;>first|rfl|exact absurd rfl l
 cases b<;>simp[behindInMarks,e,j]
def xf{e:CmpOp}{r:R2}(z:cy X (compareOp e) r)(o:PE X a f)(p:PE X b tb)(w:behindInMarks e b=false):PE X (.Compare a [e] [b] g) (jk r f tb):=by intro c s E H Q I h;exact wpAny_Compare1 (qG o p I h λv u C x y j l A B q=>z c C E j x y v u Q l A B q) w
def pV(t:TE):TT:=λe H Q=>t e H λx c=>∃k,x=.bl k/\Q k c
def xW{l:CmpOp}{r:R2}(K:cy X (compareOp l) r)(F:PE X a f)(G:PE X b tb)(J:behindInMarks l b=false):PT X (.Compare a [l] [b] g) (pV (jk r f tb)):=by
 intro j s o H Q I h
 refine wpAny_isTrue_Compare1 (aH (F j s o H _ I h) λv S ⟨x,p,B,O,L⟩=>aH (G j S o p _ B L) λu T ⟨y,w,C,P,M⟩=>
  aH (K j T o w x y v u _ C O P M) λc U ⟨z,A,E,R,k,e,N⟩=>?_) J
 subst e;cases R;exact L4 ⟨A,E,N⟩
def su(K:Frag)(x:V)(H:Hp)(k:Bool):Prop:=
 match x with
 |.non=>k=false
 |.bl b=>k=b
 |.int i=>k=(i != 0)
 |.str y=>y.length<=sizeLine/\k=((y.length:Int) != 0)
 |.byt y=>y.size<=sizeLine/\k=((y.size:Int) != 0)
 |.ref p=>(∃xs,SqL K H p xs/\k=!xs.isEmpty)\/(∃xs,SqT K H p xs/\k=!xs.isEmpty)\/∃c,H p=some (.dK c)/\k=!c.isEmpty
 |_=>False
def C2{e:Type}{c:List (e×V)}{vs:List (e×Value)}(r:KV c vs):(!vs.isEmpty)=!c.isEmpty:=by cases r<;>rfl
def t6{xs:List V}{its:List Value}(r:Vals xs its):(!its.toArray.isEmpty)=!xs.isEmpty:=by cases r<;>simp
def jf:(sizeLine:Nat)<2^63:=by rw[Mq];decide
def Ht:Gg X (λx H Q=>∃k,su X.K x H k/\Q k H):=by
 intro z s F H x v Q I o h;obtain⟨k,e,q⟩:=h;have C:=jf;have E:sizeLine=16777216:=Mq
 cases x with
 |non=>
  cases o;have c:k=false:=e;subst c;exact truthy_none ⟨H,I,q⟩
 |bl b=>
  cases o;have c:k=b:=e;subst c;exact L4 ⟨H,I,q⟩
 |int i=>
  obtain⟨t,rfl⟩:=o;have c:k=(i != 0):=e;subst c;exact PySem.P.truthy_int ⟨H,I,q⟩
 |str y=>
  obtain⟨t,rfl⟩:=o;obtain⟨B,c⟩:y.length<=sizeLine/\k=((y.length:Int) != 0):=e;subst c;exact PySem.P.truthy_str (by omega) ⟨H,I.tok _,q⟩
 |byt y=>
  obtain⟨t,rfl⟩:=o;obtain⟨B,c⟩:y.size<=sizeLine/\k=((y.size:Int) != 0):=e;subst c;exact PySem.W.truthy_bytes (by omega) ⟨H,I.tok _,q⟩
 |ref p=>
  cases o;have c:(∃xs,SqL X.K H p xs/\k=!xs.isEmpty)\/(∃xs,SqT X.K H p xs/\k=!xs.isEmpty)\/∃l,H p=some (.dK l)/\k=!l.isEmpty:=e;rcases c with⟨xs,u,c⟩|⟨xs,u,c⟩|⟨l,u,c⟩
  ·subst c;obtain⟨its,r,pl,w⟩:=I.list u;have j:=r.length;exact wpAny_truthy_list pl.isList (by simp only[Ka];omega) ⟨H,I.tok _,by rwa[t6 r]⟩
  ·subst c;obtain⟨its,r,pl,w⟩:=I.tuple u;have j:=r.length;exact truthy_tuple pl (by simp only[Ka];omega) ⟨H,I.tok _,by rwa[t6 r]⟩
  ·subst c;obtain⟨w,A,vs,r,m⟩:l.length<=sizeLine/\(p==sysModules)=false/\∃vs,KV l vs/\s.heap.DictOf (fD X.prog X.w) p vs:=I.hok p _ u;have j:l.length=vs.length:=MP r;exact wpAny_truthy_dict A m (by omega) ⟨H,I.tok _,by rwa[C2 r]⟩
 |_=>exact (show False from e).elim
def we(u:PE X a f)(w:∀c,isTrue a X.env c=(do let v ←c;standAt a.pos;holding [v] (truthy v))) :
  PT X a (λj H Q=>f j H λx l=>∃k,su X.K x l k/\Q k l):=by
 intro e s j H Q I h;exact isTrue_plain (aH (u e s j H _ I h) λv A r=>by obtain⟨x,o,p,z,y⟩:=r;exact Ht e A j o x v Q p z y) (w _)
def hV{x:V}{us:List Value}(r:Vals [x] us):∃u,us=[u]/\RelV x u:=by
 cases r with
 |cons c e=>cases e;exact⟨_,rfl,c⟩
def uO{x y:V}{us:List Value}(r:Vals [x,y] us):∃u c,us=[u,c]/\RelV x u/\RelV y c:=by
 cases r with
 |cons e h=>
  cases h with
  |cons j l=>cases l;exact⟨_,_,rfl,e,j⟩
def GS:eB X (.builtin "abs") (λxs H Q=>∃i,xs=[.int i]/\Q (.int (if i<0 then -i else i)) H):=by intro c s j H xs us Q I r h;obtain⟨i,rfl,q⟩:=h;obtain⟨u,rfl,t,rfl⟩:=hV r;exact call_abs_int λu e=>⟨.int (if i<0 then -i else i),H,I.tok _,⟨_,rfl⟩,q⟩
def HS(l:X.calm=true):eB X (.builtin "max") (λxs H Q=>∃i j,xs=[.int i,.int j]/\Q (.int (if j>i then j else i)) H):=by
 intro e s v H xs us Q I r h;obtain⟨i,j,rfl,q⟩:=h;obtain⟨u,p,rfl,⟨t,rfl⟩,⟨t',rfl⟩⟩:=uO r;refine max_two_ints (I.ok.hd l) λh' o k=>⟨_,H,I.kept k,?_,q⟩;by_cases c:j>i
 ·rw[J9 c,J9 c];exact⟨_,rfl⟩
 ·rw[JZ c,JZ c];exact⟨_,rfl⟩
def Gh(l:X.calm=true):eB X (.builtin "min") (λxs H Q=>∃i j,xs=[.int i,.int j]/\Q (.int (if j<i then j else i)) H):=by
 intro e s v H xs us Q I r h;obtain⟨i,j,rfl,q⟩:=h;obtain⟨u,p,rfl,⟨t,rfl⟩,⟨t',rfl⟩⟩:=uO r;refine min_two_ints (I.ok.hd l) λh' o k=>⟨_,H,I.kept k,?_,q⟩;by_cases c:j<i
 ·rw[J9 c,J9 c];exact⟨_,rfl⟩
 ·rw[JZ c,JZ c];exact⟨_,rfl⟩
def vt:eB X (.type "int") (λxs H Q=>(∃i,xs=[.int i]/\Q (.int i) H)\/∃k,xs=[.bl k]/\Q (.int (if k then 1 else 0)) H):=by
 intro c s j H xs us Q I r h;rcases h with⟨i,rfl,q⟩|⟨k,rfl,q⟩
 ·obtain⟨u,rfl,t,rfl⟩:=hV r;exact call_int_int ⟨.int i,H,I,⟨_,rfl⟩,q⟩
 ·obtain⟨u,rfl,e⟩:=hV r;cases e;exact call_int_bool ⟨.int (if k then 1 else 0),H,I.tok _,⟨_,rfl⟩,q⟩
end
structure ObjM(h:Heap)(x dx C:Addr)(mA:Str->Option Value):Prop where
 obj:h.get? x=some (instObj C dx)
 ns:h.Ns1 dx mA
 ne:dx≠x
def zL{h:Heap}{c:Addr}{f:Str->Option Value}(n:h.Ns1 c f):∃g,h.get? c=some g/\∀name,lookIn name g=some (f name):=by
 obtain⟨o,es,v,r,hd,l,_,p⟩:=n;refine⟨o,r,λname=>?_⟩;have e:=p name;unfold nsFind findBy at e;rw[←Array.find?_toList]at e;unfold lookIn;rw[hd];dsimp only;split
 ·rename_i y q;rw[q]at e;exact KO some e
 ·rename_i q;rw[q]at e
  have a:es.toList.any (·.refKey)=false:=by rw[List.any_eq_false];intro y u;obtain⟨z,t,j⟩:=l y (Array.mem_toList_iff.mp u);simp[DictEntry.refKey,j]
  have a':¬ es.toList.any (·.refKey)=true:=by rw[a];exact KG
  rw[JZ a'];exact KO some e
def ObjM.look{h:Heap}{x c C:Addr}{e:Str->Option Value}(I:ObjM h x c C e):∃a,InstAt h x (instObj C c) C (some a)/\∀name,lookIn name a=some (e name):=
 let ⟨a,ho,hl⟩:=zL I.ns
 ⟨a,⟨I.obj,rfl,rfl,ho⟩,hl⟩
section
variable{prog:Program}{w:World}{A:Around}{E:Value->Shared->Prop}{s:Shared}{K:Frag}{x e C f:Addr}{c:Str->Option Value}{name:Str}{v:Value}
def zh{a:Bool}{Q:Value->Shared->Prop}(X:K.In s.heap)(I:ObjM s.heap x e C c)(l:plainGet K C name=true)(o:hasDictIn K C=true)
  (j:findIn K (.ref C) name=some none) (r:c name=some v) (g:handedIn v=true) (h:Q v { s with toks:=s.toks+1 }) :
  wpAny (model prog w) A (getAttr (.ref x) name a) Q E s:=by
 obtain⟨u,J,p⟩:=I.look;exact PySem.W.get_value X J (plainGet_of l).1 (PySem.W.findObj_own o j rfl (by rw[p,r])) g h
def Hn{pl:Sem Bool}{Q:Value×List Value->Shared->Prop}(X:K.In s.heap)(I:ObjM s.heap x e C c)(a:plainGet K C name=true)
  (g:findIn K (.ref C) name=some (some (.ref f))) (l:isFn K (.ref f)=true) (o:c name=none) (h:Q (.ref f,[.ref x]) s) :
  wpAny (model prog w) A (getMethod (.ref x) name pl) Q E s:=by
 obtain⟨p,J,j⟩:=I.look;exact PySem.W.method_fn X J (plainGet_of a).1 (plainGet_of a).2 g (Mn.mp l) (by show (lookIn name p).map (·.isSome)=some false;rw[j,o];rfl) h
def GB{ns:List Str}{Q:Unit->Shared->Prop}(X:K.In s.heap)(I:ObjM s.heap x e C c)
  (L:findIn K (.ref C) "__setattr__"=some (some (.builtin "object.__setattr__"))) (H:plainOver K C=true) (M:takerIn K C name=some none) (G:hasDictIn K C=true)
  (N:PySem.Within c ns) (hsz:ns.length<=sizeLine)
  (h:∀h',ObjM h' x e C (λy=>if y=name then some v else c y)->Heap.SameBut e s.heap h'->Q () { s with heap:=h',toks:=s.toks+2 }) :
  wpAny (model prog w) A (setAttr (.ref x) name v) Q E s:=by
 obtain⟨T,J,R⟩:=I.look;refine PySem.W.set_plain X J L (PySem.W.osa_open (s:={ s with toks:=s.toks+1 }) (r:=none) X J H M λb=>?_);obtain⟨P,F,u⟩:=PySem.W.any_some G;have O:s.heap.get? x=some ⟨.ref C,some e,.plain,#[]⟩:=I.obj;refine JY (Kr (JY (JY (wpAny_loadPart O (JY (PySem.W.Looks.here (s:={ s with toks:=s.toks+1 }) (PySem.W.looks_clsIn X F) ?_))))));rw[u];refine Kr (a:=some e) (JY (Kr (JY ?_)));refine wpAny_nsSet1 (s:={ s with toks:=s.toks+1 }) I.ns λh' p o=>?_;obtain⟨S,B,z,l,j,g⟩:=p.count (PySem.Within.cons name v N);refine JY (wpAny_lookBehind l (by rw[j];exact pastItsLine_dict (Kl g (by rw[Kb];omega))) ?_);exact Kr (h _ ⟨(o.2 _ (K5 I.ne)).trans I.obj,p,I.ne⟩ o)
def yP{R:Result->Shared->Prop}{vs:List Value}{a:List (Str×Value)}(X:K.In s.heap)(o:makesIn K C=true)
  (l:findIn K (.ref C) "__init__"=some (some (.ref f))) (j:typeIn K (.ref f)=some (.type "function"))
  (h:codeAny (model prog w) (A.under (.builtin "type.__call__" ⟨.ref C::vs,a⟩)) (.call (.ref f) ⟨.ref (s.heap.objs.size+1)::vs,a⟩) (PySem.W.InitBack (s.heap.objs.size+1) R)
   { s with heap:=(s.heap.push emptyDict).push (instObj C s.heap.objs.size) }) :
  codeAny (model prog w) A (.call (.ref C) ⟨vs,a⟩) R s:=by
 obtain⟨p,g,d,t,os⟩:=s;exact PySem.W.make_core (PySem.W.makes_of X o) (PySem.W.looks_findIn X l) (λself=>PySem.W.bind_fn X self j) (.inl rfl) h
end
def cM(f:Str)(v:V):List (Str×V)->List (Str×V)
 | []=>[(f,v)]
 |(g,x)::r=>if g=f then (g,v)::r else (g,x)::cM f v r
def wX(f g:Str)(v:V):∀fs:List (Str×V),(cM f v fs).lookup g=if g=f then some v else fs.lookup g
 | []=>by
  show List.lookup g [(f,v)]=_;by_cases h:g=f
  ·have a:(g==f)=true:=Mn.mpr h;simp only[List.lookup,a,J9 h]
  ·have a:(g==f)=false:=LN.mpr h;simp only[List.lookup,a,JZ h]
 |(k,x)::r=>by
  have j:=wX f g v r;rw[show cM f v ((k,x)::r)=(if k=f then (k,v)::r else (k,x)::cM f v r)from rfl];by_cases c:k=f
  ·rw[J9 c];by_cases h:g=k
   ·have a:(g==k)=true:=Mn.mpr h;simp only[List.lookup,a,J9 (h.trans c)]
   ·have a:(g==k)=false:=LN.mpr h;simp only[List.lookup,a,JZ (λe:g=f=>h (e.trans c.symm))]
  ·rw[JZ c];by_cases h:g=k
   ·have a:(g==k)=true:=Mn.mpr h;simp only[List.lookup,a,JZ (λe:g=f=>c (h.symm.trans e))]
   ·have a:(g==k)=false:=LN.mpr h;simp only[List.lookup,a];exact j
def qY(f:Str)(v:V):∀fs:List (Str×V),f∈(cM f v fs).map (·.1)/\∀g,g∈fs.map (·.1)->g∈(cM f v fs).map (·.1)
 | []=>⟨by simp[cM],λg h=>by simp at h⟩
 |(k,x)::r=>by
  obtain⟨c,j⟩:=qY f v r;rw[show cM f v ((k,x)::r)=(if k=f then (k,v)::r else (k,x)::cM f v r)from rfl];by_cases a:k=f
  ·rw[J9 a];subst a;exact⟨by simp,λg h=>by simpa using h⟩
  ·rw[JZ a];refine⟨?_,λg h=>?_⟩
   ·rw[Kn];exact J1 _ c
   ·rw[Kn]at h ⊢;rcases Kd.mp h with e|e
    ·exact Kd.mpr (.inl e)
    ·exact J1 _ (j g e)
def wG(f:Str)(v:V):∀fs:List (Str×V),(cM f v fs).length<=fs.length+1
 | []=>by simp[cM]
 |(k,x)::r=>by
  have c:=wG f v r;rw[show cM f v ((k,x)::r)=(if k=f then (k,v)::r else (k,x)::cM f v r)from rfl];by_cases a:k=f
  ·rw[J9 a,Kb,Kb];omega
  ·rw[JZ a,Kb,Kb];omega
def RelO.some_of{v:V}{o:Option Value}(r:RelO (some v) o):∃u,o=some u/\RelV v u:=by
 cases o with
 |none=>exact (show False from r).elim
 |some u=>exact⟨u,rfl,r⟩
def RelO.none_of{o:Option Value}(r:RelO none o):o=none:=by
 cases o with
 |none=>rfl
 |some u=>exact (show False from r).elim
def yY{v:V}{u:Value}(r:RelV v u):handedIn u=true:=by
 cases v with
 |non=>cases (show u=Value.none from r);rfl
 |bl b=>cases (show u=Value.bool b from r);rfl
 |int i=>obtain⟨t,e⟩:=(show ∃t,u=Value.int i t from r);cases e;rfl
 |str x=>obtain⟨t,e⟩:=(show ∃t,u=Value.str x t from r);cases e;rfl
 |byt b=>obtain⟨t,e⟩:=(show ∃t,u=Value.bytes b t from r);cases e;rfl
 |flt b=>obtain⟨t,e⟩:=(show ∃t,u=Value.float b t from r);cases e;rfl
 |ref a=>cases (show u=Value.ref a from r);rfl
 |ty n=>cases (show u=Value.type n from r);rfl
section
variable{P:Program}{w:World}{H:Hp}{h:Heap}{a C c:Addr}{fs:List (Str×V)}
def sE(hok:HOk P w H h)(e:H a=some (.ins C c fs)):∃g,ObjM h a c C g/\(∀f,RelO (fs.lookup f) (g f))/\PySem.Within g (fs.map (·.1))/\fs.length<=1000/\H c=some (.own a):=by obtain⟨d,z,ne,j,g,n,r,q⟩:=(show ObjOk P w H h a (.ins C c fs)from hok a _ e);exact⟨g,⟨j,n,ne⟩,r,q,z,d⟩
end
structure Cls(K:Frag)(C:Addr):Prop where
 pg:plainGet K C Str.empty=true
 hd:hasDictIn K C=true
 po:plainOver K C=true
 sa:findIn K (.ref C) "__setattr__"=some (some (.builtin "object.__setattr__"))
def Cls.get{K:Frag}{C:Addr}(c:Cls K C)(f:Str):plainGet K C f=true:=c.pg
def NoAttr(K:Frag)(C:Addr)(f:Str):Prop:=findIn K (.ref C) f=some none
def NoAttr.taker{K:Frag}{C:Addr}{f:Str}(n:NoAttr K C f):takerIn K C f=some none:=by unfold takerIn;rw[show findIn K (.ref C) f=some none from n];rfl
structure Meth(K:Frag)(C:Addr)(m:Str)(f:Addr):Prop where
 at_:findIn K (.ref C) m=some (some (.ref f))
 fn:isFn K (.ref f)=true
 kp:keepIn K (.ref f)=true
section
variable{X:Cx}{j:List (Addr×Obj)}{p:St}{H:Hp}{s:Shared}{a C B:Addr}{fs:List (Str×V)}{f:Str}{v:V}{A:Around}{E:Value->Shared->Prop}
def EX{b:Bool}{Q:Value->Shared->Prop}(I:Inv X j p H s)(e:H a=some (.ins C B fs))(c:Cls X.K C)(n:NoAttr X.K C f)(l:fs.lookup f=some v)
  (h:∀u w,Inv X j p H w->RelV v u->Q u w):wpAny (model X.prog X.w) A (getAttr (.ref a) f b) Q E s:=by
 obtain⟨y,O,r,_,_,_⟩:=sE I.hok e;obtain⟨u,x,g⟩:=RelO.some_of (v:=v) (o:=y f) (by rw[←l];exact r f);exact zh I.kIn O (c.get f) c.hd n x (yY g) (h u _ (I.tok _) g)
def Cq{m:Str}{g:Addr}{pl:Sem Bool}{Q:Value×List Value->Shared->Prop}(I:Inv X j p H s)(e:H a=some (.ins C B fs))(c:Cls X.K C)(k:Meth X.K C m g)(l:fs.lookup m=none)
  (h:Q (.ref g,[.ref a]) s):wpAny (model X.prog X.w) A (getMethod (.ref a) m pl) Q E s:=by
 obtain⟨u,O,r,_,_,_⟩:=sE I.hok e;have o:u m=none:=RelO.none_of (by rw[←l];exact r m);exact Hn I.kIn O (c.get m) k.at_ k.fn o h
def GX{y:V}{u:Value}{Q:Unit->Shared->Prop}(I:Inv X j p H s)(e:H a=some (.ins C B fs))(c:Cls X.K C)(n:NoAttr X.K C f)(N:fs.length<1000)(P:RelV y u)
  (h:∀F,Inv X j p (au H a (.ins C B (cM f y fs))) F->Q () F):wpAny (model X.prog X.w) A (setAttr (.ref a) f u) Q E s:=by
 obtain⟨w,O,r,G,_,L⟩:=sE I.hok e
 have M:(fs.map (·.1)).length<=sizeLine:=by rw[JT,Mq];omega
 refine GB I.kIn O c.sa c.po n.taker c.hd G M λh' l sb=>h _ ?_
 have hd:∃o,h'.get? B=some o:=let ⟨o,_,_,e',_⟩:=l.ns;⟨o,e'⟩
 refine I.write (x:=a) (e:=B) (by rw[e];exact True.intro) (.inr L) (λb q J z=>(sb.2 b J).trans z) hd ?_;refine⟨by rwa[ba O.ne],?_,O.ne,l.obj,_,l.ns,λg=>?_,λg K=>?_⟩
 ·have:=wG f y fs;omega
 ·show RelO ((cM f y fs).lookup g) (if g=f then some u else w g);rw[wX];by_cases q:g=f
  ·rwa[J9 q,J9 q]
  ·rw[JZ q,JZ q];exact r g
 ·by_cases q:g=f
  ·rw[q];exact (qY f y fs).1
  ·refine (qY f y fs).2 g (G g λz=>K ?_);show (if g=f then some u else w g)=none;rwa[JZ q]
def Inv.made(I:Inv X j p H s):Inv X j p (au (au H s.heap.objs.size (.own (s.heap.objs.size+1))) (s.heap.objs.size+1) (.ins C s.heap.objs.size []))
  { s with heap:=(s.heap.push emptyDict).push (instObj C s.heap.objs.size) }:=by
 have c:(s.heap.push emptyDict).get? s.heap.objs.size=some emptyDict:=Ke s.heap rfl
 have h:((s.heap.push emptyDict).push (instObj C s.heap.objs.size)).get? (s.heap.objs.size+1)=some (instObj C s.heap.objs.size):=by
  have:=Ke (s.heap.push emptyDict) (o:=instObj C s.heap.objs.size) rfl
  rwa [KS]at this
 have l:(s.heap.push emptyDict).Ns s.heap.objs.size (λ_=>none):=⟨emptyDict,#[],_,c,rfl,(λe r=>absurd r (by simp)),λ_=>rfl⟩;have g:=I.laid (a:=s.heap.objs.size) (o:=.own (s.heap.objs.size+1)) (h':=s.heap.push emptyDict) (t':=s.toks) (λb u q=>J4 _ q) (J3 _) ⟨_,c⟩;refine g.laid (a:=s.heap.objs.size+1) (o:=.ins C s.heap.objs.size []) (t':=s.toks) (λb u q=>J4 _ q) (Ny (KS _ _)) ?_;have ne:s.heap.objs.size≠s.heap.objs.size+1:=KD (L9 _);refine⟨by rw[ba ne,br],LA _,ne,h,λ_=>none,(Heap.Ns1.of_empty l).at λo q=>J4 _ q,λ_=>True.intro,λy w=>absurd rfl w⟩
def yX{prog:Program}{w:World}{env:Env}{e:Expr}{f:Str}{g:Pos}{s:Shared}{Q:Value->Shared->Prop}(l:attributeBase e f env (eval e env)=eval e env)
  (h:wpAny (model prog w) A (eval e env) (λo c=>wpAny (model prog w) A (getAttr o f true) Q E c) E s):wpAny (model prog w) A (eval (.Attribute e f g) env) Q E s:=
 Attribute_any_ h (by rw[arm_eval_Attribute,l])
end
def uJ(K:Frag)(g:TE)(f:Str):TE:=λh H Q=>g h H λx c=>∃a C e fs v,x=.ref a/\c a=some (.ins C e fs)/\Cls K C/\NoAttr K C f/\fs.lookup f=some v/\Q v c
def Hr(K:Frag)(j l:TE)(f:Str):TS:=λD c H=>l c H λy h=>j c h λx e=>∃a C g fs,x=.ref a/\e a=some (.ins C g fs)/\Cls K C/\NoAttr K C f/\fs.length<1000 /\
 D.nx c (au e a (.ins C g (cM f y fs)))
section
variable{X:Cx}{o e g:Expr}{f:Str}{p j:Pos}{r w:TE}
def IB(J:PE X e r)(G:attributeBase e f X.env (eval e X.env)=eval e X.env):PE X (.Attribute e f p) (uJ X.K r f):=by intro y s M H Q I h;refine yX G (aH (J y s M H _ I h) λu O E=>?_);obtain⟨x,z,A,L,a,C,N,fs,v,ex,F,c,n,l,q⟩:=E;subst ex;obtain rfl:u=Value.ref a:=L;exact EX A F c n l λu' P B K=>⟨v,z,B,K,q⟩
def sI(J:PE X o r)(L:PE X g w)(K:swapsWith g (some (.Attribute o f j)) p.line X.env=pure false):PS X (.Assign [.Attribute o f j] g p) (Hr X.K r w f):=by intro v s z H D I h;refine plainObj_wpAny_Assign_Attribute (aH (L v s z H _ I h) λu Q ⟨y,A,B,P,q⟩=>aH (J v Q z A _ B q) λM T ⟨x,R,E,O,a,C,S,fs,ex,G,c,n,l,N⟩=>?_) K;subst ex;obtain rfl:M=Value.ref a:=O;exact GX E G c n l P λU F=>⟨z,_,F,N⟩
end
structure Room(k:Nat)(A:Around):Prop where
 hd:A.handled=none
 dp:A.depth+3*k+5<recursionLimit
 un:A.units+16*k+200<cLine
def Room.mono{j k:Nat}{A:Around}(r:Room k A)(h:j<=k):Room j A:=⟨r.hd,by have:=r.dp;omega,by have:=r.un;omega⟩
def Room.deeper{k:Nat}{A:Around}(r:Room (k+1) A)(env:Env):Room k (A.deeper env):=
 ⟨r.hd,by have:=r.dp;show A.depth+1+3*k+5<_;omega,by have:=r.un;show A.units+3+16*k+200<_;omega⟩
def C6{A:Around}{C:Addr}{us:List Value}{a:List (Str×Value)}:(A.under (.builtin "type.__call__" ⟨.ref C::us,a⟩)).depth=A.depth+1:=by
 first|rfl|simp[Around.under,Code.weight,Code.isCreation,Code.isGuard,Code.isCaller,Code.frames,Code.isFrame,guardIds]
def Bf{A:Around}{C:Addr}{us:List Value}{a:List (Str×Value)}:(A.under (.builtin "type.__call__" ⟨.ref C::us,a⟩)).units=A.units+1:=by
 first|rfl|simp[Around.under,Code.cUnits,Code.frames,Code.isFrame]
def Room.make{k:Nat}{A:Around}(r:Room (k+1) A)(C:Addr)(us:List Value)(a:List (Str×Value)):Room k (A.under (.builtin "type.__call__" ⟨.ref C::us,a⟩)):=
 ⟨r.hd,by have:=r.dp;rw[C6];omega,by have:=r.un;rw[Bf];omega⟩
def Room.depth{k:Nat}{A:Around}(r:Room k A):A.depth<recursionLimit:=by have:=r.dp;omega
def Room.units{k:Nat}{A:Around}(r:Room k A):A.units+64<cLine:=by have:=r.un;omega
def B7:TA:=λ_ H Q=>Q [] H
def GC(f:TE)(g:TA):TA:=λa H Q=>f a H λx c=>g a c λxs e=>Q (x::xs) e
section
variable{X:Cx}{e:Expr}{es:List Expr}{c:TE}{t:TA}{a:Pos}
def pa_nil:PA X [] B7:=λ_ _ _ _ H Q I h=>Calls.spliced_nil ⟨[],H,I,.nil,h⟩
def eZ(w:PE X e c)(y:PA X es t)(z:starEach (e::es) X.env=(false,eval e X.env)::starEach es X.env:=by rfl):PA X (e::es) (GC c t):=by
 intro a f s g H Q I h;rw[z];show wpAny _ _ (spliced ((false,eval e X.env)::backTo a (starEach es X.env))) _ _ s;refine Calls.spliced_cons (aH (w f s g H _ I h) λu F v=>?_);obtain⟨x,j,o,C,A⟩:=v
 exact aH (y a f F g j _ o A) λus G r=>by obtain⟨xs,l,p,E,B⟩:=r;exact⟨x::xs,l,p,.cons C E,B⟩
def AW(t:TA):TE:=λg H Q=>t g H λxs f=>xs.length<=sizeLine/\∀p,f p=none->Q (.ref p) (au f p (.tup xs))
def Ee(t:TA):TE:=λg H Q=>t g H λxs f=>xs.length<=sizeLine/\∀p,f p=none->Q (.ref p) (au f p (.lst xs))
def rC{x1}(h:PA X es t):PE X (.Tuple es x1 a) (AW t):=by
 intro f s v H Q I p;refine wpAny_Tuple_spliced (aH (h a f s v H _ I p) λus g ⟨xs,j,l,r,z,q⟩=>⟨by rwa[←r.length],?_⟩);have o:j g.heap.objs.size=none:=l.hok.fresh (J3 _);refine⟨.ref g.heap.objs.size,au j g.heap.objs.size (.tup xs),l.laid (t':=g.toks) (λb u e=>J4 _ e) (J3 _) ?_,rfl,q _ o⟩;exact⟨z,us,r,⟨_,Ke _ rfl,⟨rfl,rfl⟩,_,rfl⟩⟩
def tL(h:PA X es t):PE X (.List es a) (Ee t):=by
 intro f s v H Q I p;refine wpAny_List_spliced (aH (h a f s v H _ I p) λus g ⟨xs,j,l,r,z,q⟩=>⟨by rwa[←r.length],?_⟩);have o:j g.heap.objs.size=none:=l.hok.fresh (J3 _);refine⟨.ref g.heap.objs.size,au j g.heap.objs.size (.lst xs),l.laid (t':=g.toks) (λb u e=>J4 _ e) (J3 _) ?_,rfl,q _ o⟩;exact⟨z,us,0,r,Ke _ rfl⟩
end
abbrev Sp:=List V->Hp->VK->XK->Prop
abbrev eE:=List Env->Hp->Shared->XK->Value->Shared->Prop
structure Env0(P:Program)(w:World)(K:Frag)(mg:Str->Option Value)(base:Heap)(A:Around)(outer:List Env)(s:Shared)(H:Hp):Prop where
 frames:A.frames=some outer
 mod:Mod K mg base
 bs:∀b o,base.get? b=some o->s.heap.get? b=some o/\H b=none
 bsz:base.objs.size<=s.heap.objs.size
 funs:s.heap.FunFrames base outer
 frf:∀b∈gz outer,H b=none
 hok:HOk P w H s.heap
 bare:AllBare s.gens
def CE(outer:List Env)(P:Program)(w:World)(H:Hp)(s:Shared)(Q:VK)(u:Value)(a:Shared):Prop:=
 ∃v c,a.os=s.os/\AllBare a.gens/\Un (gz outer) [] H c s.heap a.heap/\HOk P w c a.heap/\RelV v u/\Q v c
def CR(CX:eE)(outer:List Env)(P:Program)(w:World)(H:Hp)(s:Shared)(Q:VK)(E:XK)(r:Result)(a:Shared):Prop:=
 match r with
 |.ok (.ret u)=>CE outer P w H s Q u a
 |.ok _=>False
 |.error e=>CX outer H s E e a
structure FnOk(P:Program)(w:World)(K:Frag)(mg:Str->Option Value)(base:Heap)(CX:eE)(k:Nat)(f:Addr)(fd:FuncData)(ps:List Str)(sp:Sp):Prop where
 len:∀vs H Q E,sp vs H Q E->vs.length=ps.length
 run:∀(A:Around)(outer:List Env)(s:Shared)(H:Hp)(args:Args)(us:List Value)(vs:List V)(Q:VK)(E:XK),Room k A->Env0 P w K mg base A outer s H->BindsTo s fd args (ps.zip us)->Vals vs us->sp vs H Q E->
  codeAny (model P w) A (.call (.ref f) args) (CR CX outer P w H s Q E) s
def FnOk.mono{P:Program}{w:World}{K:Frag}{mg:Str->Option Value}{base:Heap}{CX:eE}{j k:Nat}{f:Addr}{a:FuncData}{ps:List Str}{sp:Sp}(F:FnOk P w K mg base CX j f a ps sp)(h:j<=k) :
  FnOk P w K mg base CX k f a ps sp:=⟨F.len,λA outer s H args us vs Q E c=>F.run A outer s H args us vs Q E (c.mono h)⟩
def FnOk.imp{P:Program}{w:World}{K:Frag}{mg:Str->Option Value}{base:Heap}{CX:eE}{k:Nat}{f:Addr}{c:FuncData}{ps:List Str}{sp a:Sp}(F:FnOk P w K mg base CX k f c ps sp)
  (h:∀vs H Q E,a vs H Q E->sp vs H Q E):FnOk P w K mg base CX k f c ps a:=
 ⟨λvs H Q E q=>F.len vs H Q E (h _ _ _ _ q),λA outer s H args us vs Q E j g e o l=>F.run A outer s H args us vs Q E j g e o (h _ _ _ _ l)⟩
def Env0.make{P:Program}{w:World}{K:Frag}{mg:Str->Option Value}{base:Heap}{A:Around}{outer:List Env}{s:Shared}{H:Hp}(e:Env0 P w K mg base A outer s H)(C:Addr)(us:List Value)(a:List (Str×Value)) :
  Env0 P w K mg base (A.under (.builtin "type.__call__" ⟨.ref C::us,a⟩)) outer s H:=⟨by first|exact e.frames|(simpa [Around.under,Code.envs,Code.isFrame,pushEnvs] using e.frames),e.mod,e.bs,e.bsz,e.funs,e.frf,e.hok,e.bare⟩
section
variable{X:Cx}{a:List (Addr×Obj)}{c:St}{H:Hp}{s e:Shared}
def Inv.env0(I:Inv X a c H s):Env0 X.prog X.w X.K X.mg X.base X.A X.stack s H:=
 ⟨I.ok.frames,I.ok.mod,I.bs,Kl I.ok.bsz I.sz,I.stack,I.stkFree,I.hok,I.bare⟩
def Inv.after{Q:VK}{u:Value}(I:Inv X a c H s)(h:CE X.stack X.prog X.w H s Q u e):EP X a c Q u e:=by obtain⟨v,f,os,bare,un,hok,r,q⟩:=h;obtain⟨l,g,d,t,j⟩:=e;obtain rfl:j=s.os:=os;exact⟨v,f,I.call (h':=l) (g':=g) (d':=d) (t':=t) (ch:=[]) un hok bare (λb z=>absurd z (by simp)),r,q⟩
end
def IU(sp:Sp)(dvs:List V)(E:XK)(t:TA):TE:=λc H Q=>t c H λvs a=>sp (vs++dvs) a Q E
def CM(C:Addr)(m:Str)(sp:Sp)(dvs:List V)(E:XK)(h:TE)(t:TA):TE:=λe H Q=>h e H λx c=>∃a g fs,x=.ref a/\c a=some (.ins C g fs)/\fs.lookup m=none /\
 t e c λvs f=>sp (x::(vs++dvs)) f Q E
def A2(C:Addr)(sp:Sp)(dvs:List V)(E:XK)(t:TA):TE:=λf H Q=>t f H λvs c=>∀x a,c x=none->c a=none->a≠x->
 sp (.ref x::(vs++dvs)) (au (au c a (.own x)) x (.ins C a [])) (λv e=>v=.non/\Q (.ref x) e) E
def Binds(K:Frag)(a:FuncData)(ps:List Str)(ds:List Value):Prop:=
 ∀(s:Shared)(us:List Value),K.In s.heap->(us++ds).length=ps.length->BindsTo s a ⟨us,[]⟩ (ps.zip (us++ds))
def Binds.all{K:Frag}{a:FuncData}{ps:List Str}(h:∀us:List Value,us.length=ps.length->bindArgs a ⟨us,[]⟩=pure (ps.zip us)):Binds K a ps []:=λs us _ c=>by rw[Kz]at c ⊢;exact .of_eq (h us c)
def jt(CX:eE)(X:Cx)(E:XK):Prop:=∀(a:List (Addr×Obj))(f:St)(H:Hp)(s:Shared)(e:Value)(c:Shared),Inv X a f H s->CX X.stack H s E e c->X.xe e c
section
variable{X:Cx}{CX:eE}{k:Nat}{f C:Addr}{w:FuncData}{ps:List Str}{sp:Sp}{dvs:List V}{ds:List Value}{E:XK}{x m:Str}{p g j:Pos}{e o:Expr}{es:List Expr}{y:TE}{t:TA}
def xZ{a:List (Addr×Obj)}{l:St}{H:Hp}{s:Shared}{Q:VK}{us:List Value}{vs:List V}(F:FnOk X.prog X.w X.K X.mg X.base CX k f w ps sp)(G:Room k X.A)(A:Binds X.K w ps ds)(hd:Vals dvs ds)(J:jt CX X E)
  (I:Inv X a l H s) (r:Vals vs us) (h:sp (vs++dvs) H Q E):wpAny (model X.prog X.w) X.A (call (.ref f) us) (EP X a l Q) X.xe s:=by
 have v:Vals (vs++dvs) (us++ds):=r.append hd
 have B:(us++ds).length=ps.length:=by rw[←v.length];exact F.len _ _ _ _ h
 refine wpAny_call (Nz (F.run X.A X.stack s H ⟨us,[]⟩ (us++ds) (vs++dvs) Q E G I.env0 (A s us I.kIn B) v h) λr K c=>?_)
 cases r with
 |error e=>exact J a l H s e K I c
 |ok z=>
  cases z with
  |ret u=>exact I.after c
  |next=>exact False.elim c
  |brk=>exact False.elim c
  |cont=>exact False.elim c
def p9(F:FnOk X.prog X.w X.K X.mg X.base CX k f w ps sp)(K:Room k X.A)(B:Gl X x)(J:X.mg x=some (.ref f))(G:keepIn X.K (.ref f)=true)(z:Binds X.K w ps ds)(hd:Vals dvs ds)(L:jt CX X E)
  (v:PA X (e::es) t) (u:ab x:=by decide) (A:starEach (e::es) X.env=(false,eval e X.env)::starEach es X.env:=by rfl) (l:(backTo g (starEach es X.env)).any (·.1)=false:=by rfl) :
  PE X (.Call (.Name x p) (e::es) [] g) (IU sp dvs E t):=by
 intro a s M H Q I h;refine Mw (uZ I B J ?_ u);refine callWith_K (h₀:=X.base) I.ok.mod.kin G (aH (v g a s M H _ I h) λus O ⟨vs,N,c,r,q⟩=>⟨c.kIn,?_⟩) A l;exact xZ F K z hd L c r q
def uB{pl:Sem Bool}(P:PE X o y)(c:Cls X.K C)(B:Meth X.K C m f)(F:FnOk X.prog X.w X.K X.mg X.base CX k f w ps sp)(R:Room k X.A)(O:Binds X.K w ps ds)(hd:Vals dvs ds)(T:jt CX X E)(N:PA X (e::es) t)
  (L:starEach (e::es) X.env=(false,eval e X.env)::starEach es X.env:=by rfl) (K:(backTo g (starEach es X.env)).any (·.1)=false:=by rfl)
  (S:eval (.Call (.Attribute o m j) (e::es) [] g) X.env=(do
   let ov ←eval o X.env
   standAt j.atName
   let (f,first) ←holding [ov] (getMethod ov m pl)
   callWith g f first (backTo g (starEach (e::es) X.env)) (backToKw g (keywordEach [] X.env))):=by rfl) :
  PE X (.Call (.Attribute o m j) (e::es) [] g) (CM C m sp dvs E y t):=by
 intro v s G H Q I h;refine PySem.W.methodCall_KW (pl:=pl) (aH (P v s G H _ I h) λu Z ⟨x,J,z,Y,a,dx,fs,ex,M,l,q⟩=>?_) S;subst ex;obtain rfl:u=Value.ref a:=Y;refine Cq z M c B l ?_;refine callWith_K (first:=[.ref a]) (h₀:=X.base) I.ok.mod.kin B.kp (aH (N g v Z G J _ z q) λus s2 ⟨vs,H2,A,r,U⟩=>⟨A.kIn,?_⟩) L K;exact xZ (us:=.ref a::us) (vs:=.ref a::vs) F R O hd T A (.cons rfl r) U
structure Mk(K:Frag)(C f:Addr):Prop where
 makes:makesIn K C=true
 init:findIn K (.ref C) "__init__"=some (some (.ref f))
 fn:isFn K (.ref f)=true
 kp:keepIn K (.ref C)=true
def zT{a:List (Addr×Obj)}{A:St}{H:Hp}{s:Shared}{Q:VK}{us:List Value}{vs:List V}(M:Mk X.K C f)(F:FnOk X.prog X.w X.K X.mg X.base CX k f w ps sp)(R:Room (k+1) X.A)(O:Binds X.K w ps ds)(hd:Vals dvs ds)
  (S:jt CX X E) (I:Inv X a A H s) (r:Vals vs us)
  (h:∀x z,H x=none->H z=none->z≠x->sp (.ref x::(vs++dvs)) (au (au H z (.own x)) x (.ins C z [])) (λv K=>v=.non/\Q (.ref x) K) E) :
  wpAny (model X.prog X.w) X.A (call (.ref C) us) (EP X a A Q) X.xe s:=by
 have B:=h (s.heap.objs.size+1) s.heap.objs.size (I.hok.fresh (Nat.le_succ _)) (I.hok.fresh (J3 _)) (KD (L9 _));have l:=Inv.made (C:=C) I;have G:Vals (V.ref (s.heap.objs.size+1)::(vs++dvs)) (Value.ref (s.heap.objs.size+1)::(us++ds)):=.cons rfl (r.append hd)
 have P:(Value.ref (s.heap.objs.size+1)::us++ds).length=ps.length:=by have e:=G.length;rw[F.len _ _ _ _ B]at e;exact e.symm
 refine wpAny_call (yP (f:=f) I.kIn M.makes M.init (Mn.mp M.fn) (Nz (F.run _ X.stack _ _ ⟨Value.ref (s.heap.objs.size+1)::us,[]⟩ (Value.ref (s.heap.objs.size+1)::(us++ds)) _ _ E (R.make C us [])
  (l.env0.make C us []) (O _ (Value.ref (s.heap.objs.size+1)::us) l.kIn P) G B) λr Y c=>?_))
 cases r with
 |error e=>exact S a A _ _ e Y l c
 |ok N=>
  cases N with
  |ret u=>
   obtain⟨v,J,L,U,ev,T⟩:=l.after c;subst ev;exact⟨U,⟨V.ref (s.heap.objs.size+1),J,L,rfl,T⟩⟩
  |next=>exact False.elim c
  |brk=>exact False.elim c
  |cont=>exact False.elim c
def GN(M:Mk X.K C f)(F:FnOk X.prog X.w X.K X.mg X.base CX k f w ps sp)(J:Room (k+1) X.A)(B:Gl X x)(G:X.mg x=some (.ref C))(z:Binds X.K w ps ds)(hd:Vals dvs ds)(K:jt CX X E)
  (v:PA X (e::es) t) (u:ab x:=by decide) (A:starEach (e::es) X.env=(false,eval e X.env)::starEach es X.env:=by rfl) (l:(backTo g (starEach es X.env)).any (·.1)=false:=by rfl) :
  PE X (.Call (.Name x p) (e::es) [] g) (A2 C sp dvs E t):=by
 intro a s L H Q I h;refine Mw (uZ I B G ?_ u);refine callWith_K (h₀:=X.base) I.ok.mod.kin M.kp (aH (v g a s L H _ I h) λus O ⟨vs,N,c,r,q⟩=>⟨c.kIn,?_⟩) A l;exact zT M F J z hd K c r q
end
structure FnScope(N P:List Str)(sc:Scope):Prop where
 kind:sc.kind=.function
 co:sc.isCoroutine=false
 gen:sc.isGenerator=false
 nd:N.Nodup
 pre:N.take P.length=P
 par:∀x∈P,sc.names.lookup x=some .local\/sc.names.lookup x=some .cell
 nofree:∀y∈sc.names,y.2≠.free
def xM{kindOf:Str->Option NameKind}{x:Str}:∀{binds:List (Str×Value)}{m:Str->Option Value},(∀v,(x,v)∉binds)->bindL kindOf binds m x=m x
 | [],_,_=>rfl
 |(n,v)::r,m,h=>by
  unfold bindL;rw[xM λw a=>h w (J1 _ a)];split
  ·have:x≠n:=by rintro rfl;exact h v J2
   simp[this]
  ·rfl
def v7{kindOf:Str->Option NameKind}{x:Str}:∀{binds:List (Str×Value)}{m:Str->Option Value},(∀v,(x,v)∉binds)->bindC kindOf binds m x=m x
 | [],_,_=>rfl
 |(n,v)::r,m,h=>by
  unfold bindC;rw[v7 λw a=>h w (J1 _ a)];split
  ·rfl
  ·have:x≠n:=by rintro rfl;exact h v J2
   simp[this]
def vz{kindOf:Str->Option NameKind}{x:Str}{v:Value}:∀{P:List Str}{vs:List Value}{i:Nat}{m:Str->Option Value},P.Nodup->P[i]?=some x->vs[i]?=some v->kindOf x=some .local->
  bindL kindOf (P.zip vs) m x=some v
 | [],_,_,_,_,h,_,_=>by simp at h
 |_::_,[],_,_,_,_,h,_=>by simp at h
 |p::P,w::vs,0,m,nd,a,c,e=>by
  simp at a c;subst a;subst c;show bindL kindOf ((p,w)::P.zip vs) m p=_;unfold bindL;rw[xM λv f=>(Kp.mp nd).1 (LZ f).1,J9 e];simp
 |p::P,w::vs,i+1,m,nd,a,c,e=>by show bindL kindOf ((p,w)::P.zip vs) m x=_;unfold bindL;exact vz (i:=i) (Kp.mp nd).2 (by simpa using a) (by simpa using c) e
def xX{kindOf:Str->Option NameKind}{x:Str}{v:Value}:∀{P:List Str}{vs:List Value}{i:Nat}{m:Str->Option Value},P.Nodup->P[i]?=some x->vs[i]?=some v->kindOf x≠some .local->
  bindC kindOf (P.zip vs) m x=some v
 | [],_,_,_,_,h,_,_=>by simp at h
 |_::_,[],_,_,_,_,h,_=>by simp at h
 |p::P,w::vs,0,m,nd,a,c,e=>by
  simp at a c;subst a;subst c;show bindC kindOf ((p,w)::P.zip vs) m p=_;unfold bindC;rw[v7 λv f=>(Kp.mp nd).1 (LZ f).1,JZ e];simp
 |p::P,w::vs,i+1,m,nd,a,c,e=>by show bindC kindOf ((p,w)::P.zip vs) m x=_;unfold bindC;exact xX (i:=i) (Kp.mp nd).2 (by simpa using a) (by simpa using c) e
def e9(N:List Str)(vs:List V):St:=vs.map some++List.replicate (N.length-vs.length) none
def iT(CX:eE)(P:Program)(w:World)(K:Frag)(mg:Str->Option Value)(base:Heap)(N:List Str)(qual:Str)(scope:Scope)(f:Addr)(a:Value)(A:Around)(outer:List Env)(s:Shared)(H:Hp)(E:XK):Cx where
 prog:=P
 w:=w
 K:=K
 mg:=mg
 base:=base
 A:=A.deeper (envOfC qual scope s.heap.objs.size f a)
 N:=N
 s₀:=s
 H₀:=H
 env:=envOfC qual scope s.heap.objs.size f a
 outer:=outer
 stack:=envOfC qual scope s.heap.objs.size f a::outer
 ex:=[]
 calm:=true
 fn:=λ_=>true
 pn:=[]
 xe:=λe h=>wpAny (model P w) (A.deeper (envOfC qual scope s.heap.objs.size f a)) (leaving (envOfC qual scope s.heap.objs.size f a) e) (λ_ c=>CX outer H s E e c) (λg c=>CX outer H s E g c) h
def qJ{a:Scope}{n:Nat}{x:Str}(h:a.names.lookup x=some .cell):∃c,(cellsFrom n a.names []).lookup x=some c:=by have q:=cellsFrom_some a.names n [] (.inl h);exact Option.isSome_iff_exists.mp q
def BQ{CX:eE}{P:Program}{w:World}{K:Frag}{mg:Str->Option Value}{base:Heap}{N ps:List Str}{qual:Str}{scope:Scope}{f:Addr}{C:Value}{A:Around}{outer:List Env}{s M:Shared}{H:Hp}{E:XK}{us:List Value}{vs:List V}
  (S:FnScope N ps scope) (hd:A.handled=none) (j:Env0 P w K mg base A outer s H) (U:vs.length=ps.length) (r:Vals vs us)
  (x:InCallC s s.heap.objs.size (bindL (envOfC qual scope s.heap.objs.size f C).kindOf (ps.zip us) λ_=>none) (cellsFrom (s.heap.objs.size+1) scope.names []) (bindC (envOfC qual scope s.heap.objs.size f C).kindOf (ps.zip us) λ_=>none) M) :
  Inv (iT CX P w K mg base N qual scope f C A outer s H E) [] (e9 N vs) H M:=by
 have R:ps.length<=N.length:=by have:=KO List.length S.pre;rw[K8]at this;omega
 obtain⟨I,X,rfl,J⟩:=x.done;have G:∀b:Addr,b∉(iT CX P w K mg base N qual scope f C A outer s H E).ex:=λb z=>absurd (show b∈([]:List Addr)from z) (by simp)
 refine⟨⟨j.mod,S.kind,rfl,rfl,J3 _,λy z c I g=>?_,λy l=>?_,λy c _ h=>?_,λ_=>hd,Around.frames_deeper j.frames,.inr ⟨rfl,rfl⟩,λb z=>absurd z (G b),j.bs,j.bsz,λb _ _=>G b,λb z=>absurd z (G b),j.funs,j.frf⟩,
  rfl,j.bare,Un.kept J,⟨_,x.toInCall.ns,λi y v I g T=>?_⟩,λy c h=>⟨_,x.cell y c h⟩,j.hok.fresh (J3 _),λy c h=>?_,λp o=>absurd (show p∈([]:List (Addr×Obj))from o) (by simp),j.hok.kept J,?_⟩
 ·exact name_of_addr x.apart (K6 I) (K6 g)
 ·have l:scope.names.lookup y=some .cell\/scope.names.lookup y=some .free:=l;rcases l with l|l
  ·exact qJ l
  ·exact absurd rfl (S.nofree _ (K6 l))
 ·exact Lo (x.above y c (K6 h))
 ·have F:i<vs.length:=by
   unfold e9 at g;by_cases F:i<vs.length
   ·exact F
   ·rw[JU (by simpa using F)]at g;rw[Lj]at g;split at g<;>cases g
  have O:vs[i]?=some v:=by
   unfold e9 at g;rw[JV (by simpa using F),J7]at g
   cases e:vs[i]? with
   |none=>rw[e]at g;cases g
   |some a=>rw[e]at g;cases g;rfl
  obtain⟨u,L,Q⟩:=r.get O
  have o:ps[i]?=some y:=by rwa[←S.pre,Mx (by omega)]
  have B:ps.Nodup:=by rw[←S.pre];exact S.nd.sublist (List.take_sublist _ _)
  refine⟨u,Q,?_⟩;rcases S.par y (J0 o)with k|k
  ·exact .inl ⟨k,vz B o L k⟩
  ·obtain⟨c,e⟩:=qJ (n:=s.heap.objs.size+1) k;refine .inr ⟨.inl k,c,e,?_⟩;have q:=x.cell y c e;rw[xX B o L (by show scope.names.lookup y≠_;rw[k];decide)]at q;exact q
 ·exact j.hok.fresh (Lo (x.above y c (K6 h)))
 ·unfold e9;show _=N.length;rw[JW,JT,Kg];omega
def wj{CX:eE}{P:Program}{w:World}{K:Frag}{mg:Str->Option Value}{base:Heap}{k:Nat}{f:Addr}{name qual:Str}{a:Arguments}{c:List Stmt}{scope:Scope}{T kV p U j ct oc:Value}{R od:Option Addr}
  {QR:Array (Option Value)} {N ps:List Str} {sp:Sp} (lk:K.lookup f=some ⟨oc,od,.func (fnOf name qual a c scope T kV p U R j ct),QR⟩) (Ot:codeIn K j qual=true) (S:FnScope N ps scope)
  (len:∀vs H Q E,sp vs H Q E->vs.length=ps.length)
  (Y:∀(A:Around)(outer:List Env)(s:Shared)(H:Hp)(vs:List V)(Q:VK)(E:XK),Room k (A.deeper (envOfC qual scope s.heap.objs.size f j))->sp vs H Q E->
   ∃t,PSs (iT CX P w K mg base N qual scope f j A outer s H E) c t/\t { nx:=λ_ h=>Q .non h,rt:=Q } (e9 N vs) H) :
  FnOk P w K mg base CX (k+1) f (fnOf name qual a c scope T kV p U R j ct) ps sp:=by
 refine⟨len,λA outer s H args us vs Q E C z hb r O=>?_⟩;have hl:=len _ _ _ _ O;have M:K.In s.heap:=z.mod.kin.keeps λb o e=>(z.bs b o e).1;have F:s.heap.NoLimit:=z.mod.nolimit.keeps λb o e=>(z.bs b o e).1
 have Ta:∀y∈ps.zip us,scope.names.lookup y.1=some .local\/(scope.names.lookup y.1=some .cell/\((cellsFrom (s.heap.objs.size+1) scope.names []).lookup y.1).isSome=true):=λZ hy=>by
  obtain⟨n,v⟩:=Z;rcases S.par n (LZ hy).1 with q|q
  ·exact .inl q
  ·exact .inr ⟨q,cellsFrom_some _ _ _ (.inl q)⟩
 refine codeAny_call_function C.depth (M _ _ lk) rfl S.co S.gen rfl (PySem.W.codeRec_of M Ot) (hb _ _ _ _ ?_);refine wpAny_newFunctionEnv_cells S.kind Ta λenv he X x=>?_;subst he;refine⟨F.keeps x.toInCall.keep,codeAny_func ?_⟩;obtain⟨t,ht,hq⟩:=Y A outer s H vs Q E (C.deeper _) O;have I:Inv (iT CX P w K mg base N qual scope f j A outer s H E) [] (e9 N vs) H X:=BQ S C.hd z hl r x;refine LC (ht [] X (e9 N vs) H _ I hq) (λfl L l=>?_) λe L l=>l
 have B:∀{g:St}{h:Hp}{v:V}{u:Value},Inv (iT CX P w K mg base N qual scope f j A outer s H E) [] g h L->RelV v u->Q v h->CE outer P w H s Q u L:=
  λ{g h v u} J G q=>⟨v,h,J.os,J.bare,J.base,J.hok,G,q⟩
 cases fl with
 |ret u=>
  obtain⟨v,g,h,J,G,q⟩:=l;exact B J G q
 |next=>
  obtain⟨g,h,J,q⟩:=l;exact B (v:=V.non) (u:=Value.none) J rfl q
 |brk=>
  obtain⟨_,_,_,q⟩:=l;exact False.elim q
 |cont=>
  obtain⟨_,_,_,q⟩:=l;exact False.elim q
section
variable{X:Cx}{x:Str}{p a:Pos}{e:Expr}{es:List Expr}{t:TA}{id T:String}{r:List V->Hp->VK->Prop}
def x8(r:List V->Hp->VK->Prop)(t:TA):TE:=λf H Q=>t f H λvs c=>r vs c Q
def uw(w:eB X (.builtin id) r)(z:Gl X x)(A:X.mg x=none)(C:bootBuiltins x=some (.builtin id))(v:PA X (e::es) t)(B:x≠"__name__":=by decide)(u:ab x:=by decide)
  (y:starEach (e::es) X.env=(false,eval e X.env)::starEach es X.env:=by rfl) (l:(backTo a (starEach es X.env)).any (·.1)=false:=by rfl):PE X (.Call (.Name x p) (e::es) [] a) (x8 r t):=by
 intro c s f H Q I h;refine Mw (il I z A C ?_ B u);exact PyProof.Rows.callWith_builtin1 (aH (v a c s f H _ I h) λus G o=>by obtain⟨vs,g,j,F,E⟩:=o;exact w c G f g vs us Q j F E) y l
def lg(w:eB X (.type T) r)(z:Gl X x)(A:X.mg x=none)(C:bootBuiltins x=some (.type T))(v:PA X (e::es) t)(B:x≠"__name__":=by decide)(u:ab x:=by decide)
  (y:starEach (e::es) X.env=(false,eval e X.env)::starEach es X.env:=by rfl) (l:(backTo a (starEach es X.env)).any (·.1)=false:=by rfl):PE X (.Call (.Name x p) (e::es) [] a) (x8 r t):=by
 intro c s f H Q I h;refine Mw (il I z A C ?_ B u);exact K4 (aH (v a c s f H _ I h) λus G o=>by obtain⟨vs,g,j,F,E⟩:=o;exact w c G f g vs us Q j F E) y l
end
end L2
namespace HT
open PySem PyProof.Rows
section
variable{prog:Program}{w:World}{A:Around}{E:Value->Shared->Prop}{s:Shared}
def cat_tup{t b:Addr}{vs a:List Value}{Q:Value->Shared->Prop}(z:IsTup s.heap t vs.toArray)(y:IsTup s.heap b a.toArray)(u:vs≠[])
  (v:a=[]->Q (.ref t) s) (x:a≠[]->Q (.ref s.heap.objs.size) { s with heap:=s.heap.push { cls:=.type "tuple",data:=.seq (vs++a).toArray } })
  (hsz:vs.length+a.length<=sizeLine):wpAny (model prog w) A (binaryOp .Add (.ref t) (.ref b)) Q E s:=by
 obtain⟨⟨cls,p,data,sl⟩,g,r,n,hd⟩:=id z;obtain⟨⟨B,l,data2,o⟩,f,j,n2,c⟩:=id y;simp only at r hd j c;subst r hd j c
 have e:vs.toArray++a.toArray=(vs++a).toArray:=by simp
 by_cases h:a=[]
 ·exact concat_meets ⟨_,g,rfl⟩ ⟨_,f,rfl⟩ NA seq_tuple_add MN MI (Mz _ _)
   (tuple_addW1 t b vs.toArray a.toArray n n2 p l sl o (by simpa using u) (by simp[h])) ⟨g,f,v h⟩
 ·refine concat_meets ⟨_,g,rfl⟩ ⟨_,f,rfl⟩ NA seq_tuple_add MN MI (Mz _ _)
   (tuple_addW2 t b vs.toArray a.toArray n n2 p l sl o (by simpa using u) (by simpa using h) (by rwa[Ka,Ka])) ⟨g,f,?_⟩
  rw[e];exact x h
def sIx(n d:Nat):Option Int->Nat
 |none=>d
 |some v=>if v<0 then (v+(n:Int)).toNat else min v.toNat n
end
end HT
namespace L2
open PySem PySem.Spec PyProof.Rows
abbrev TO:=St->Hp->(Option Int->Hp->Prop)->Prop
def PO(X:Cx)(e:Option Expr)(t:TO):Prop:=
 ∀(a:List (Addr×Obj))(s:Shared)(c:St)(H:Hp)(Q:Option Int->Hp->Prop),Inv X a c H s->t c H Q->
  wpAny (model X.prog X.w) X.A (evalPart e X.env) (λu g=>∃o f,Inv X a c f g/\IsPart u o/\Q o f) X.xe s
def HB:TO:=λ_ H Q=>Q none H
def Bg(t:TE):TO:=λc H Q=>t c H λx a=>∃i,x=.int i/\Q (some i) a
section
variable{X:Cx}{e:Expr}{f:TE}{lo c:Option Expr}{g j:TO}{B A:Pos}
def po_none:PO X none HB:=by intro a s l H Q I h;rw[evalPart_none];exact Kr ⟨none,H,I,.none,h⟩
def Hi(h:PE X e f):PO X (some e) (Bg f):=by intro a s y H Q I r;rw[evalPart_some];refine aH (h a s y H _ I r) λu z p=>?_;obtain⟨x,l,o,w,v⟩:=p;obtain⟨i,rfl,q⟩:=v;obtain⟨t,rfl⟩:=w;exact⟨some i,l,o,.int i t,q⟩
def sD(X:Cx)(r:V->Option Int->Option Int->Hp->VK->Prop):Prop:=
 ∀(a:List (Addr×Obj))(s:Shared)(o:St)(H:Hp)(x:V)(v h l:Value)(lo c:Option Int)(sl:Addr)(Q:VK),Inv X a o H s->RelV x v->s.heap.IsSliceOf sl h l .none->IsPart h lo->IsPart l c->r x lo c H Q->
  ∃T id,typeLookup (.type T) "__getitem__"=pure (some (.builtin id))/\s.TypeIs v T/\wpAny (model X.prog X.w) X.A (getItem v (.ref sl)) (EP X a o Q) X.xe s
def Eg(r:V->Option Int->Option Int->Hp->VK->Prop)(f:TE)(g j:TO):TE:=λa H Q=>f a H λx h=>g a h λl o=>j a o λu p=>r x l u p Q
def DU{r:V->Option Int->Option Int->Hp->VK->Prop}(P:sD X r)(M:PE X e f)(O:PO X lo g)(S:PO X c j):PE X (.Subscript e (.Slice lo c none A) B) (Eg r f g j):=by
 intro a s p H Q I h;refine Subscript_ (aH (M a s p H _ I h) λv s1 ⟨x,C,F,r1,Y⟩=>?_);refine wpAny_Slice (aH (O a s1 p C _ F Y) λw s2 ⟨l,E,G,pl,Z⟩=>aH (S a s2 p E _ G Z) λy o ⟨u,z,J,U,q3⟩=>?_);rw[evalPart_none];refine Kr ?_;have K:Inv X a p z { o with heap:=o.heap.push { cls:=.type "slice",data:=.fields #[w,y,.none] } }:=J.kept (t':=o.toks) λb ob q=>J4 _ q;obtain⟨T,id,L,R,N⟩:=P a { o with heap:=o.heap.push { cls:=.type "slice",data:=.fields #[w,y,.none] } } p z x v w y l u o.heap.objs.size Q K r1 (Heap.IsSliceOf.new ..) pl U q3;show wpAny (model X.prog X.w) X.A (subscriptTail e (.Slice lo c none A) v (.ref o.heap.objs.size)) (EP X a p Q) X.xe { o with heap:=o.heap.push { cls:=.type "slice",data:=.fields #[w,y,.none] } };exact tail_any (ops:=[.ref o.heap.objs.size,v]) R L N (by with_unfolding_all rfl)
def kh(xs:List V)(lo c:Option Int):List V:=(xs.drop (HT.sIx xs.length 0 lo)).take (HT.sIx xs.length xs.length c-HT.sIx xs.length 0 lo)
def FD(xs:List V)(lo c:Option Int):(kh xs lo c).length<=xs.length:=by unfold kh;rw[K8,NB];omega
def GH(K:Frag):R2:=λx y H Q=>∃a b xs ys,x=.ref a/\y=.ref b/\SqT K H a xs/\SqT K H b ys/\xs≠[]/\xs.length+ys.length<=sizeLine /\
 (ys=[]->Q (.ref a) H)/\(ys≠[]->∀p,H p=none->Q (.ref p) (au H p (.tup (xs++ys))))
def Vals.nil_iff{xs:List V}{us:List Value}(r:Vals xs us):us=[]↔xs=[]:=by
 cases r with
 |nil=>simp
 |cons _ _=>simp
def Hl:cy X (binaryOp .Add) (GH X.K):=by intro r s R H x y v u Q I L M h;obtain⟨a,b,xs,ys,rfl,rfl,C,E,F,O,J,K⟩:=h;cases L;cases M;obtain⟨its,p,G,_⟩:=I.tuple C;obtain⟨N,l,A,_⟩:=I.tuple E;refine HT.cat_tup G A (λz=>F (p.nil_iff.mp z)) (λz=>⟨.ref a,H,I,rfl,J (l.nil_iff.mp z)⟩) (λz=>?_) (by rwa[←p.length,←l.length]);refine⟨.ref s.heap.objs.size,_,I.laid (t':=s.toks) (o:=.tup (xs++ys)) (λb P q=>J4 _ q) (J3 _) ?_,rfl,K (λw=>z (l.nil_iff.mpr w)) _ (I.hok.fresh (J3 _))⟩;exact⟨by rwa[JW],_,p.append l,IsTupD.new _ _⟩
end
def fL(n:Nat)(i:Int):Option Nat:=if 0<=i then (if i<n then some i.toNat else none) else if -(n:Int)<=i then some (i+n).toNat else none
def cE{a:Type}(xs:List a)(i:Int):Option a:=(fL xs.length i).bind λj=>xs[j]?
def wb{n:Nat}{i:Int}{j:Nat}(h:fL n i=some j):seqIndex? i n=some j/\j<n/\-(n:Int)<=i/\i<n:=by
 unfold fL at h;by_cases c:0<=i
 ·rw[J9 c]at h;by_cases a:i<n
  ·rw[J9 a]at h;have e:i.toNat=j:=Kv h;exact⟨by rw[seqIndex_of c a,e],by omega,by omega,a⟩
  ·rw[JZ a]at h;cases h
 ·rw[JZ c]at h;by_cases a:-(n:Int)<=i
  ·rw[J9 a]at h;have e:(i+n).toNat=j:=Kv h;exact⟨by rw[seqIndex_neg (by omega) a,e],by omega,a,by omega⟩
  ·rw[JZ a]at h;cases h
def rA{a:Type}{xs:List a}{i:Int}{v:a}(h:cE xs i=some v):∃j,seqIndex? i xs.length=some j/\xs[j]?=some v/\j<xs.length/\-(xs.length:Int)<=i/\i<xs.length:=by
 unfold cE at h
 cases e:fL xs.length i with
 |none=>rw[e]at h;cases h
 |some j=>
  rw[e]at h;obtain⟨c,f,g,l⟩:=wb e;exact⟨j,c,h,f,g,l⟩
def Hy{a:Type}{xs:List a}{j:Nat}{v:a}(h:xs[j]?=some v):cE xs (j:Int)=some v:=by
 have c:j<xs.length:=(K1.mp h).1
 have e:fL xs.length (j:Int)=some j:=by unfold fL;rw[J9 (by omega),J9 (by omega)];simp
 unfold cE;rwa[e]
def oK(b:Expr):Prop:=∀o i,subscripted b false o i=operate [o,i] (getItem o i)
def kg(X:Cx)(r:R2):Prop:=
 ∀(e a:Expr)(c:List (Addr×Obj))(s:Shared)(f:St)(H:Hp)(x y:V)(v u:Value)(Q:VK),Inv X c f H s->RelV x v->RelV y u->r x y H Q->
  subscripted a false v u=operate [v,u] (getItem v u)->wpAny (model X.prog X.w) X.A (subscriptTail e a v u) (EP X c f Q) X.xe s
def AF(X:Cx)(id:String)(r:V->List V->Hp->VK->Prop):Prop:=
 ∀(a:List (Addr×Obj))(s:Shared)(c:St)(H:Hp)(x:V)(xs:List V)(v:Value)(us:List Value)(Q:VK),Inv X a c H s->RelV x v->Vals xs us->r x xs H Q->
  wpAny (model X.prog X.w) X.A (call (.builtin id) (v::us)) (EP X a c Q) X.xe s
section
variable{X:Cx}{a b:Expr}{E tb:TE}{C:Pos}
def sG{r:R2}(l:kg X r)(g:PE X a E)(j:PE X b tb)(o:oK b):PE X (.Subscript a b C) (jk r E tb):=by intro c s A H Q I h;exact Subscript_ (qG g j I h λv u z x y e f p w q=>l a b c z A e x y v u Q f p w q (o _ _))
def vM(K:Frag):R2:=λx y H Q=>∃p xs i v,x=.ref p/\y=.int i/\SqL K H p xs/\cE xs i=some v/\Q v H
def yx(K:Frag):R2:=λx y H Q=>∃p xs i v,x=.ref p/\y=.int i/\SqT K H p xs/\cE xs i=some v/\Q v H
def FZ:R2:=λx y H Q=>∃z i c,x=.str z/\y=.int i/\z.length<=sizeLine/\cE z.cps.toList i=some c/\Q (.str ⟨#[c]⟩) H
def qS:kg X (vM X.K):=by
 intro o l c s G H x y v u Q I R S h F;obtain⟨p,xs,i,z,rfl,rfl,P,N,q⟩:=h;cases R;obtain⟨t,rfl⟩:=S;obtain⟨its,r,pl,Z⟩:=I.list P;obtain⟨j,f,K,U,L,M⟩:=rA N;obtain⟨w,A,J⟩:=r.get K;have O:=r.length;have Y:=jf;have e:EP X c G Q w s:=⟨z,H,I,J,q⟩;by_cases B:0<=i
 ·have g:i.toNat=j:=by rw[seqIndex_of B M]at f;exact Kv f
  exact item_listR pl.isList B (by omega) (by rw[g];simpa using A) e F
 ·have g:(i+(its.toArray.size:Int)).toNat=j:=by rw[seqIndex_neg (by omega) L]at f;rw[Ka,←O];exact Kv f
  exact subscriptTail_builtinR (x:=w) pl.isList.typeIs slot_list_getitem.lookup
   (wpAny_getItem_list_neg (Q:=λr T=>r=w/\EP X c G Q r T) pl.isList (by omega) (by rw[Ka]<;>omega) (by omega) (by rw[g];simpa using A) ⟨rfl,e⟩) F
def AJ:kg X (yx X.K):=by
 intro g f c s l H x y v u Q I L M h K;obtain⟨p,xs,i,z,rfl,rfl,J,F,q⟩:=h;cases L;obtain⟨t,rfl⟩:=M;obtain⟨its,r,pl,U⟩:=I.tuple J;obtain⟨j,O,B,P,R,S⟩:=rA F;obtain⟨w,A,o⟩:=r.get B;have G:=r.length;have T:=jf;have e:EP X c l Q w s:=⟨z,H,I,o,q⟩
 exact subscriptTail_builtinR (x:=w) pl.typeIs slot_tuple_getitem.lookup
  (getItem_tuple (j:=j) (Q:=λr N=>r=w/\EP X c l Q r N) pl (by omega) (by omega) (by rwa[Ka,←G]) (by simpa using A) ⟨rfl,e⟩) K
def DX:kg X FZ:=by
 intro f e l s O H x y v u Q I J K h G;obtain⟨z,i,c,rfl,rfl,N,B,q⟩:=h;obtain⟨t,rfl⟩:=J;obtain⟨t',rfl⟩:=K;obtain⟨j,g,r,L,w,A⟩:=rA B
 have F:z.cps.toList.length=z.length:=by simp[Str.length]
 rw[F]at g w A;have M:=jf
 exact tail_any (typeIs_str s z t) slot_str_getitem.lookup (getItem_str (c:=c) (by
  have o:decide (i < -(2^63:Int))=false:=Ku (by omega);have p:decide (i≥2^63)=false:=Ku (by omega)
  rw[o,p,Bool.or_false]) (by rw[g];simpa using r) ⟨.str ⟨#[c]⟩,H,I.tok _,⟨_,rfl⟩,q⟩) G
def E8(its:List Value)(n j:Nat)(u:Value):Obj.mapSeq (·.setIfInBounds j u) { cls:=.type "list",data:=.seq its.toArray n }={ cls:=.type "list",data:=.seq (its.set j u).toArray n }:=by simp[Obj.mapSeq]
def Inv.lst{c:List (Addr×Obj)}{f:St}{H:Hp}{s:Shared}{p:Addr}{xs:List V}(I:Inv X c f H s)(h:H p=some (.lst xs)) :
  ∃(its:List Value)(n:Nat),Vals xs its/\s.heap.get? p=some { cls:=.type "list",data:=.seq its.toArray n }/\xs.length<=sizeLine:=by
 obtain⟨z,its,n,r,e⟩:=I.hok p _ h;exact⟨its,n,r,e,z⟩
def Inv.lstUpd{c:List (Addr×Obj)}{l:St}{H:Hp}{s:Shared}{p:Addr}{xs ys:List V}{its Oz:List Value}{n g:Nat}{f:Obj->Obj}(I:Inv X c l H s)(h:H p=some (.lst xs))
  (v:s.heap.get? p=some { cls:=.type "list",data:=.seq its.toArray n }) (j:f { cls:=.type "list",data:=.seq its.toArray n }={ cls:=.type "list",data:=.seq Oz.toArray g }) (r:Vals ys Oz) (w:ys.length<=sizeLine) (t:Nat) :
  Inv X c l (au H p (.lst ys)) { s with heap:=s.heap.update p f,toks:=t }:=by
 have e:(s.heap.update p f).get? p=some { cls:=.type "list",data:=.seq Oz.toArray g }:=by
  rw[Heap.get?_update_self f v (by rw[j]<;>rfl),j]
 refine I.write (x:=p) (e:=p) (by rw[h];trivial) (.inl rfl) (λb u o q=>(Heap.get?_update_other _ _ (K5 o)).trans q) ⟨_,e⟩ ?_;exact⟨w,Oz,g,r,e⟩
def C1:V->V->V->Hp->(Hp->Prop)->Prop:=λo i v H Q=>∃p xs k j,o=.ref p/\i=.int k/\H p=some (.lst xs)/\fL xs.length k=some j/\Q (au H p (.lst (xs.set j v)))
def sy:qU X C1:=by
 intro c s K H o i v P O u Q I G F J h;obtain⟨p,xs,k,j,rfl,rfl,y,B,q⟩:=h;cases G;obtain⟨t,rfl⟩:=F;obtain⟨its,n,r,l,N⟩:=I.lst y;obtain⟨e,L,z,A⟩:=wb B;have g:=r.length;have M:=jf
 have w:Inv X c K (au H p (.lst (xs.set j v))) { s with heap:=s.heap.update p (Obj.mapSeq (·.setIfInBounds j u)) }:=
  I.lstUpd y l (E8 its n j u) (r.set J j) (by rwa[JX]) s.toks
 by_cases x:0<=k
 ·have f:k.toNat=j:=by rw[seqIndex_of x A]at e;exact Kv e
  exact PySem.W.ki_setAt l x (by omega) (by rwa[Ka,←g]) (by rw[f];exact⟨_,w,q⟩)
 ·have f:(k+(its.toArray.size:Int)).toNat=j:=by rw[seqIndex_neg (by omega) z]at e;rw[Ka,←g];exact Kv e
  exact PySem.W.ki_setBack l (by omega) (by rwa[Ka,←g]) (by omega) (by rw[f];exact⟨_,w,q⟩)
def A1(lo c:Option Int)(n:Nat):(sliceBounds lo c none n).1=((HT.sIx n 0 lo:Nat):Int)/\(sliceBounds lo c none n).2.1=((HT.sIx n n c:Nat):Int)/\(sliceBounds lo c none n).2.2=1:=by
 refine⟨?_,?_,rfl⟩
 ·cases lo with
  |none=>simp[sliceBounds,HT.sIx]
  |some i=>
   simp only[sliceBounds,HT.sIx,Option.getD_none,show (1:Int)>0 by decide,Nx];by_cases h:i<0
   ·simp only[h,Nx]<;>omega
   ·simp only[h,if_false]<;>omega
 ·cases c with
  |none=>simp[sliceBounds,HT.sIx]
  |some i=>
   simp only[sliceBounds,HT.sIx,Option.getD_none,show (1:Int)>0 by decide,Nx];by_cases h:i<0
   ·simp only[h,Nx]<;>omega
   ·simp only[h,if_false]<;>omega
def yu(its:List Value)(lo c:Option Int):slicePick its.toArray lo c none=((its.drop (HT.sIx its.length 0 lo)).take (HT.sIx its.length its.length c-HT.sIx its.length 0 lo)).toArray:=by obtain⟨e,f,g⟩:=A1 lo c its.toArray.size;unfold slicePick;rw[e,f,g];simp only[sliceRange_one,pick_run,Ka]<;>rfl
def xS(K:Frag):V->Option Int->Option Int->Hp->VK->Prop:=λx lo c H Q=>∃a xs,x=.ref a/\SqL K H a xs/\∀p,H p=none->Q (.ref p) (au H p (.lst (kh xs lo c)))
def Ej:sD X (xS X.K):=by
 intro g s B H x v z A lo e sl Q I w j pl u h;obtain⟨a,xs,rfl,l,q⟩:=h;cases w;obtain⟨its,r,f,p⟩:=I.list l;have c:=r.length;refine⟨"list",_,slot_list_getitem.lookup,f.isList.typeIs,?_⟩;refine wpAny_getItem_list_slice f.isList j pl u .none (by simp) ?_ (by rw[Ka]<;>omega);rw[yu,←c];refine⟨.ref s.heap.objs.size,_,I.laid (t':=s.toks) (o:=.lst (kh xs lo e)) (λb y q=>J4 _ q) (J3 _) ?_,rfl,q _ (I.hok.fresh (J3 _))⟩;exact⟨Kl (FD xs lo e) p,_,0,(r.drop (HT.sIx xs.length 0 lo)).take (HT.sIx xs.length xs.length e-HT.sIx xs.length 0 lo),Ke _ rfl⟩
def iP:V->Bool
 |.non=>true
 |.bl _=>true
 |.int _=>true
 |.str _=>true
 |_=>false
def iJ:V->V->Bool
 |.non,.non=>true
 |.bl a,.bl b=>a==b
 |.bl a,.int b=>(if a then 1 else 0)==b
 |.int a,.bl b=>a==(if b then 1 else 0)
 |.int a,.int b=>a==b
 |.str a,.str b=>a==b
 |_,_=>false
def FH{A:Around}{s:Shared}{y x:V}{u v:Value}(f:RelV y u)(c:RelV x v)(g:iP y=true)(e:iP x=true):SeqAt.EqAt A s u v (iJ y x):=by
 cases y with
 |non=>
  cases f
  cases x with
  |non=>cases c;exact SeqAt.EqAt.same _
  |bl b=>cases c;exact SeqAt.EqAt.none_bool b
  |int b=>obtain⟨t,rfl⟩:=c;exact SeqAt.EqAt.none_int b t
  |str b=>obtain⟨t,rfl⟩:=c;exact SeqAt.EqAt.none_str b t
  |_=>exact absurd (show false=true from e) KG
 |bl a=>
  cases f
  cases x with
  |non=>cases c;exact SeqAt.EqAt.bool_none a
  |bl b=>cases c;exact SeqAt.EqAt.bool_bool a b
  |int b=>obtain⟨t,rfl⟩:=c;exact SeqAt.EqAt.bool_int a b t
  |str b=>obtain⟨t,rfl⟩:=c;exact SeqAt.EqAt.bool_str a b t
  |_=>exact absurd (show false=true from e) KG
 |int a=>
  obtain⟨t',rfl⟩:=f
  cases x with
  |non=>cases c;exact SeqAt.EqAt.int_none a t'
  |bl b=>cases c;exact SeqAt.EqAt.int_bool a t' b
  |int b=>obtain⟨t,rfl⟩:=c;exact SeqAt.EqAt.int_int a t' b t
  |str b=>obtain⟨t,rfl⟩:=c;exact SeqAt.EqAt.int_str a t' b t
  |_=>exact absurd (show false=true from e) KG
 |str a=>
  obtain⟨t',rfl⟩:=f
  cases x with
  |non=>cases c;exact SeqAt.EqAt.str_none a t'
  |bl b=>cases c;exact SeqAt.EqAt.str_bool a t' b
  |int b=>obtain⟨t,rfl⟩:=c;exact SeqAt.EqAt.str_int a t' b t
  |str b=>obtain⟨t,rfl⟩:=c;exact SeqAt.EqAt.str_str a t' b t
  |_=>exact absurd (show false=true from e) KG
 |_=>exact absurd (show false=true from g) KG
def iC(x:V)(u:Value):Bool:=match u with
 |.none=>iJ .non x
 |.bool b=>iJ (.bl b) x
 |.int i _=>iJ (.int i) x
 |.str z _=>iJ (.str z) x
 |_=>false
def xq{x y:V}{u:Value}(r:RelV y u)(f:iP y=true):iC x u=iJ y x:=by
 cases y with
 |non=>cases r;rfl
 |bl b=>cases r;rfl
 |int i=>obtain⟨t,rfl⟩:=r;rfl
 |str z=>obtain⟨t,rfl⟩:=r;rfl
 |_=>exact absurd (show false=true from f) KG
def sA{x:V}:∀{xs:List V}{us:List Value},Vals xs us->xs.all iP=true->us.any (iC x)=xs.any λy=>iJ y x
 |_,_,.nil,_=>rfl
 |y::xs,u::us,.cons r t,f=>by rw[N3,LQ]at f;rw[L1,L1,xq r f.1,sA t f.2]
def qb{A:Around}{s:Shared}{x:V}{v:Value}(g:RelV x v)(e:iP x=true):∀{xs:List V}{us:List Value},Vals xs us->xs.all iP=true->∀u∈us,SeqAt.EqAt A s u v (iC x u)
 |_,_,.nil,_=>λu c=>by cases c
 |y::xs,u::us,.cons r t,f=>λu' c=>by
  rw[N3,LQ]at f;rcases Kd.mp c with rfl|c
  ·rw[xq r f.1];exact FH r g f.1 e
  ·exact qb g e t f.2 u' c
def jK(x:V)(xs:List V):Bool:=xs.any λy=>iJ y x
def yT(K:Frag)(c:Bool):R2:=λx y H Q=>∃p xs,y=.ref p/\(SqL K H p xs\/SqT K H p xs)/\iP x=true/\xs.all iP=true/\Q (.bl (if c then !jK x xs else jK x xs)) H
def DD:cy X (compareOp .In) (yT X.K false):=by
 intro g s z H x y v u Q I j o h;obtain⟨p,xs,rfl,c,f,fs,q⟩:=h;cases o;rcases c with c|c
 ·obtain⟨its,r,pl,l⟩:=I.list c;refine SeqAt.in_listAt (iC x) pl.isList (λw e=>qb j f r fs w (by simpa using e)) ⟨.bl _,H,I,rfl,?_⟩;rwa[show its.toArray.any (iC x)=its.any (iC x)by simp,sA r fs]
 ·obtain⟨its,r,pl,l⟩:=I.tuple c;refine SeqAt.in_tupleAt (iC x) pl (λw e=>qb j f r fs w (by simpa using e)) ⟨.bl _,H,I,rfl,?_⟩;rwa[show its.toArray.any (iC x)=its.any (iC x)by simp,sA r fs]
def qX:eB X (.builtin "len") (λxs H Q=>∃p ys,xs=[.ref p]/\(SqL X.K H p ys\/SqT X.K H p ys)/\Q (.int ys.length) H):=by
 intro g s v H xs us Q I r h;obtain⟨p,ys,rfl,e,q⟩:=h;obtain⟨u,rfl,l⟩:=hV r;cases l;have o:=jf;rcases e with e|e
 ·obtain⟨its,f,pl,j⟩:=I.list e;have c:=f.length;exact Calls.call_len_list pl.isList (by simp only[Ka]<;>omega) ⟨.int ys.length,H,I.tok _,⟨s.toks+1,by rw[Ka,c]⟩,q⟩
 ·obtain⟨its,f,pl,j⟩:=I.tuple e;have c:=f.length;exact len_tuple pl (by simp only[Ka]<;>omega) ⟨.int ys.length,H,I.tok _,⟨s.toks+1,by rw[Ka,c]⟩,q⟩
def Ik:eB X (.builtin "len") (λxs H Q=>∃z,xs=[.str z]/\z.length<=sizeLine/\Q (.int z.length) H):=by
 intro c s g H xs us Q I r h;obtain⟨z,rfl,f,q⟩:=h;obtain⟨u,rfl,t,rfl⟩:=hV r;have e:=jf;exact len_str (by omega) ⟨.int z.length,H,I.tok _,⟨_,rfl⟩,q⟩
def uR:eB X (.type "list") (λxs H Q=>∃p ys,xs=[.ref p]/\(SqL X.K H p ys\/SqT X.K H p ys)/\∀l,H l=none->Q (.ref l) (au H l (.lst ys))):=by
 intro x s B H xs us Q I r h;obtain⟨p,ys,rfl,v,q⟩:=h;obtain⟨u,rfl,A⟩:=hV r;cases A
 have g:∀(its:List Value),Vals ys its->ys.length<=sizeLine->∀(h':Heap)(c:Nat),(∀b o',s.heap.get? b=some o'->h'.get? b=some o')->
   h'.get? s.heap.objs.size=some { cls:=.type "list",dict:=none,data:=.seq its.toArray c,slots:=#[] }->EP X x B Q (.ref s.heap.objs.size) { s with heap:=h' }:=λits f w h' c kp e=>
  ⟨.ref s.heap.objs.size,_,I.laid (t':=s.toks) kp (J3 _) (show ObjOk X.prog X.w _ h' _ (.lst ys)from ⟨w,its,c,f,e⟩),rfl,q _ (I.hok.fresh (J3 _))⟩
 rcases v with v|v
 ·obtain⟨its,f,pl,w⟩:=I.list v;have j:=f.length;obtain⟨o,z,y,n,hd⟩:=pl.isList;exact call_list_seq p (.inl rfl) z y hd (λh' c kp e=>g its f w h' c kp e) (by simp only[Ka]<;>omega)
 ·obtain⟨its,f,pl,w⟩:=I.tuple v;have j:=f.length;obtain⟨o,z,y,n,hd⟩:=pl;exact call_list_seq p (.inr rfl) z y hd (λh' c kp e=>g its f w h' c kp e) (by simp only[Ka]<;>omega)
def rP:eB X (.type "tuple") (λxs H Q=>∃p ys,xs=[.ref p]/\((SqL X.K H p ys/\∀l,H l=none->Q (.ref l) (au H l (.tup ys)))\/(SqT X.K H p ys/\Q (.ref p) H))):=by
 intro c s x H xs us Q I r h;obtain⟨p,ys,rfl,h⟩:=h;obtain⟨u,rfl,z⟩:=hV r;cases z;rcases h with⟨f,q⟩|⟨f,q⟩
 ·obtain⟨its,g,pl,w⟩:=I.list f;have v:=g.length;refine call_tuple_list pl.isList (λh' kp=>?_) (by simp only[Ka]<;>omega);have j:Inv X c x H { s with heap:=h' }:=I.kept (t':=s.toks) kp
  have y:Inv X c x (au H h'.objs.size (.tup ys)) { s with heap:=h'.push { cls:=.type "tuple",data:=.seq its.toArray } }:=
   j.laid (t':=s.toks) (λb o e=>J4 _ e) (J3 _) (show ObjOk X.prog X.w _ _ _ (.tup ys)from ⟨w,its,g,IsTupD.new _ _⟩)
  exact⟨.ref h'.objs.size,_,y,rfl,q _ (j.hok.fresh (J3 _))⟩
 ·obtain⟨its,g,pl,w⟩:=I.tuple f;exact call_tuple_same pl ⟨.ref p,H,I,rfl,q⟩
def xi(K:Frag)(T:String)(x:V)(H:Hp):Prop:=match x with
 |.str _=>T="str"
 |.int _=>T="int"
 |.ref p=>(T="list"/\∃xs,SqL K H p xs)\/(T="tuple"/\((∃xs,H p=some (.tup xs))\/∃o,K.lookup p=some o/\o.cls=.type "tuple"/\o.dict=none)) \/
   (T="dict"/\((∃c,H p=some (.dK c))\/∃c,H p=some (.dT c)))\/(T="set"/\∃S n,H p=some (.set S n))
 |_=>False
def Bz{h:List (Addr×Obj)}{A:St}{H:Hp}{s:Shared}{T:String}{x:V}{v:Value}(I:Inv X h A H s)(r:RelV x v)(j:xi X.K T x H) :
  s.TypeIs v T/\∀a,v=.ref a->∃l,s.heap.get? a=some l/\l.dict=none:=by
 cases x with
 |str z=>
  obtain⟨t,rfl⟩:=r;cases (show T="str" from j);exact⟨typeIs_str s z t,λ_ e=>nomatch e⟩
 |int i=>
  obtain⟨t,rfl⟩:=r;cases (show T="int" from j);exact⟨Nu s i t,λ_ e=>nomatch e⟩
 |ref p=>
  cases r;rcases j with⟨rfl,xs,y⟩|⟨rfl,⟨xs,f⟩|⟨o,f,w,hd⟩⟩|⟨rfl,f⟩|⟨rfl,S,n,f⟩
  ·obtain⟨its,_,pl,_⟩:=I.list y;refine⟨pl.isList.typeIs,λa e=>?_⟩;cases e;obtain⟨o,n,e,c,hd,_⟩:=pl;exact⟨o,e,hd⟩
  ·obtain⟨_,_,_,o,e,⟨c,hd⟩,_⟩:=I.hok p _ f;refine⟨⟨o,e,c⟩,λa g=>?_⟩;cases g;exact⟨o,e,hd⟩
  ·refine⟨⟨o,I.kIn p o f,w⟩,λa e=>?_⟩;cases e;exact⟨o,I.kIn _ o f,hd⟩
  ·have z:∃o,s.heap.get? p=some o/\o.ExactDict:=by
    rcases f with⟨u,f⟩|⟨u,f⟩
    ·obtain⟨_,_,_,_,o,_,_,e,ex,_⟩:=I.hok p _ f;exact⟨o,e,ex⟩
    ·obtain⟨_,_,_,_,o,_,_,e,ex,_⟩:=I.hok p _ f;exact⟨o,e,ex⟩
   obtain⟨o,e,ex⟩:=z;refine⟨⟨o,e,ex.1⟩,λa g=>?_⟩;cases g;exact⟨o,e,ex.2.1⟩
  ·obtain⟨o,_,_,_,e,ex,_⟩:=I.hok p _ f;refine⟨⟨o,e,ex.1⟩,λa g=>?_⟩;cases g;exact⟨o,e,ex.2.1⟩
 |_=>exact False.elim j
def Jo(K:Frag)(T:String)(r:V->List V->Hp->VK->Prop)(to:TE)(t:TA):TE:=λe H Q=>to e H λx c=>xi K T x c/\t e c λxs f=>r x xs f Q
variable{o e:Expr}{es:List Expr}{to:TE}{t:TA}{name:Str}{g B:Pos}{T id:String}{r:V->List V->Hp->VK->Prop}
def jR(U:PlainAttrs T)(slot:Slot T name id)(f:typeOf (.builtin id)=pure (.type "method_descriptor"))(P:AF X id r)(R:PE X o to)(O:PA X (e::es) t)
  (F:attributeBase o name X.env (eval o X.env)=eval o X.env:=by rfl)
  (J:((backTo B (starEach (e::es) X.env)).all (λx=>!x.1)&&(backToKw B (keywordEach [] X.env)).all (λx=>x.1.isSome)
   && decide ((e::es).length+([]:List Keyword).length+(if ([]:List Keyword).isEmpty then 0 else 1)<30))=true:=by rfl)
  (G:(g.endLine==B.line)=true:=by rfl) (S:starEach (e::es) X.env=(false,eval e X.env)::starEach es X.env:=by rfl) (L:(backTo B (starEach es X.env)).any (·.1)=false:=by rfl) :
  PE X (.Call (.Attribute o name g) (e::es) [] B) (Jo X.K T r to t):=by
 intro c s j H Q I h;refine wpAny_Call_method_late F J G rfl (aH (R c s j H _ I h) λv s1 K=>?_);obtain⟨x,w,l,u,ty,Y⟩:=K;obtain⟨M,N⟩:=Bz l u ty;refine⟨T,id,U,slot,f,M,N,?_⟩;have p:=O B c s1 j w _ l Y;rw[S]at p ⊢;refine Calls.callWith_builtin (by show (false ||(backTo B (starEach es X.env)).any (·.1))=false;rw[L]<;>rfl) (Calls.evalArgs_plain ?_)
 exact aH p λus s2 A=>by obtain⟨vs,y,z,r2,Z⟩:=A;exact P c s2 j y x vs v us Q z u r2 Z
end
def mO(X:Cx)(id:String)(r:V->List V->Hp->VK->Prop):Prop:=
 ∀(a:List (Addr×Obj))(s:Shared)(c:St)(H:Hp)(x:V)(xs:List V)(v:Value)(us:List Value)(Q:VK),Inv X a c H s->RelV x v->Vals xs us->r x xs H Q->
  wpAny (model X.prog X.w) X.A (call (.builtin id) (v::us)) (EP X a c Q) X.xe s
def Vals.one:∀{x:V}{us:List Value},Vals [x] us->∃u,us=[u]/\RelV x u
 |_,_,.cons r .nil=>⟨_,rfl,r⟩
def Vals.eraseIdx:∀{xs:List V}{us:List Value}(i:Nat),Vals xs us->Vals (xs.eraseIdx i) (us.eraseIdx i)
 |_,_,_,.nil=>.nil
 |_,_,0,.cons _ t=>t
 |_,_,i+1,.cons r t=>.cons r (Vals.eraseIdx i t)
def Vals.rep{xs:List V}{us:List Value}(h:Vals xs us):∀k:Nat,Vals (List.replicate k xs).flatten (List.replicate k us).flatten
 |0=>.nil
 |k+1=>by rw[K7,K7,KN,KN];exact Vals.append h (Vals.rep h k)
def rF{a:Type}:∀(l:List a)(i:Nat),(l.eraseIdx i).length<=l.length
 | [],_=>J3 _
 |_::_,0=>Nat.le_succ _
 |_::r,i+1=>Nat.succ_le_succ (rF r i)
def sN(its:List Value):∀(k:Nat)(a:List Value),
  List.foldl (λf g=>f++g) a.toArray (List.replicate k its.toArray)=(a++(List.replicate k its).flatten).toArray
 |0,a=>by simp
 |k+1,a=>by
  have e:a.toArray++its.toArray=(a++its).toArray:=by simp
  have c:(a++its)++(List.replicate k its).flatten=a++(List.replicate (k+1) its).flatten:=by rw[K7,KN,Kc]
  rw[←c,←sN its k (a++its),←e,K7,List.foldl_cons]
section
variable{X:Cx}{a:List (Addr×Obj)}{c:St}{H:Hp}{s:Shared}{l:Addr}{xs ys:List V}
def Inv.lset{its Oz:List Value}{n:Nat}{f:Array Value->Array Value}{t':Nat}(I:Inv X a c H s)(g:H l=some (.lst xs))
  (e:s.heap.get? l=some { cls:=.type "list",data:=.seq its.toArray n }) (j:f its.toArray=Oz.toArray) (p:Vals ys Oz) (r:ys.length<=sizeLine) :
  Inv X a c (au H l (.lst ys)) { s with heap:=s.heap.update l (Obj.mapSeq f),toks:=t' }:=by
 have q:=PySem.IsL.update e f;rw[j]at q;refine I.write (x:=l) (e:=l) (by rw[g];exact trivial) (.inl rfl) (λv u h o=>(Heap.get?_update_other s.heap (Obj.mapSeq f) (K5 h)).trans o) ⟨_,q⟩ ?_;exact⟨r,Oz,_,p,q⟩
def Inv.lnew{its:List Value}{t':Nat}(I:Inv X a c H s)(e:Vals ys its)(f:ys.length<=sizeLine) :
  Inv X a c (au H s.heap.objs.size (.lst ys)) { s with heap:=s.heap.push { cls:=.type "list",data:=.seq its.toArray },toks:=t' }:=
 I.laid (λ_ _ q=>J4 _ q) (J3 _) ⟨f,its,0,e,Ke _ rfl⟩
def Inv.fresh(I:Inv X a c H s):H s.heap.objs.size=none:=I.hok.fresh (J3 _)
def Inv.lstM(I:Inv X a c H s)(f:H l=some (.lst xs)):xs.length<=sizeLine/\∃(its:List Value)(n:Nat),Vals xs its/\xs.length=its.length/\s.heap.get? l=some { cls:=.type "list",data:=.seq its.toArray n }:=by obtain⟨z,its,n,r,e⟩:=I.hok l _ f;exact⟨z,its,n,r,r.length,e⟩
def uX{n:Nat}(h:n<=sizeLine):Builtin.List.listTooLong n=false:=by unfold Builtin.List.listTooLong;exact Ku (by omega)
end
section
variable{X:Cx}
def Dl:V->List V->Hp->VK->Prop:=λx vs H Q=>∃l xs y,x=.ref l/\vs=[y]/\H l=some (.lst xs)/\xs.length<sizeLine/\Q .non (au H l (.lst (xs++[y])))
def pM:mO X "list.append" Dl:=by intro c s w H x vs v us Q I j g h;obtain⟨l,xs,y,rfl,rfl,a,p,q⟩:=h;cases j;obtain⟨u,rfl,f⟩:=g.one;obtain⟨z,its,n,r,o,e⟩:=I.lstM a;refine L8 F.slot_list_append ⟨_,e,rfl⟩ F.entry_list_append (F.args_list_append_2 _ _) (PySem.list_append l its.toArray n u (by rw[Ka];omega)) ⟨e,?_⟩;refine⟨.non,_,I.lset (Oz:=its++[u]) a e (by simp) (r.append (.cons f .nil)) ?_,rfl,q⟩;rw[JW,KA];omega
def vj:V->List V->Hp->VK->Prop:=λx vs H Q=>∃l b xs a,x=.ref l/\vs=[.ref b]/\H l=some (.lst xs)/\H b=some (.lst a)/\xs.length+a.length<=sizeLine/\Q .non (au H l (.lst (xs++a)))
def Av:mO X "list.extend" vj:=by
 intro f s K H x vs v us Q I A y h;obtain⟨l,b,xs,J,rfl,rfl,c,o,E,q⟩:=h;cases A;obtain⟨u,rfl,w⟩:=y.one;cases w;obtain⟨z,its,n,r,C,e⟩:=I.lstM c;obtain⟨G,a,n2,p,B,j⟩:=I.lstM o
 have hsz:its.toArray.size+a.toArray.size<=sizeLine:=by rw[Ka,Ka];omega
 have g:¬ (!its.toArray.isEmpty&&Builtin.List.listTooLong (its.toArray.size+a.toArray.size))=true:=by rw[uX hsz,LR];exact KG
 refine L8 F.slot_list_extend ⟨_,e,rfl⟩ F.entry_list_extend (F.args_list_extend_2 _ _)
  (AutoSeq1.list_extend_list_list_0 l its.toArray n b a.toArray n2 g (by rw[Ka];omega) (by omega)) ⟨e,j,?_⟩
 refine⟨.non,_,I.lset (Oz:=its++a) c e (by simp) (r.append p) ?_,rfl,q⟩;rw[JW];omega
def FL:V->List V->Hp->VK->Prop:=λx vs H Q=>∃l xs i k y,x=.ref l/\vs=[.int i]/\H l=some (.lst xs)/\-(2^63)<=i/\i<2^63/\seqIndex? i xs.length=some k/\xs[k]?=some y/\Q y (au H l (.lst (xs.eraseIdx k)))
def yO:mO X "list.pop" FL:=by
 intro c s J H x vs v us Q I C B h;obtain⟨l,xs,i,k,y,rfl,rfl,a,g,j,E,p,q⟩:=h;cases C;obtain⟨u,rfl,A⟩:=B.one;obtain⟨t,rfl⟩:=A;obtain⟨z,its,n,r,o,e⟩:=I.lstM a;obtain⟨w,G,f⟩:=r.get p
 refine L8 F.slot_list_pop ⟨_,e,rfl⟩ F.entry_list_pop (F.args_list_pop_2 _ _)
  (MeetsSeq.list_pop_at l its.toArray n i t k w (fitsIndex_both g j) (by rwa[Ka,←o]) (by rwa[←Array.getElem?_toList]) (by rw[Ka];omega)) ⟨e,?_⟩
 refine⟨y,_,I.lset (Oz:=its.eraseIdx k) a e ?_ (r.eraseIdx k) ?_,f,q⟩
 ·show its.toArray.eraseIdxIfInBounds k=(its.eraseIdx k).toArray;rw[MZ]
 ·have:=rF xs k;omega
def AI:R2:=λx y H Q=>∃l b xs a,x=.ref l/\y=.ref b/\H l=some (.lst xs)/\H b=some (.lst a)/\xs.length+a.length<=sizeLine/\∀p,H p=none->Q (.ref p) (au H p (.lst (xs++a)))
def zQ:cy X (binaryOp .Add) AI:=by
 intro c s J H x y v u Q I w A h;obtain⟨l,b,xs,G,rfl,rfl,o,j,E,q⟩:=h;cases w;cases A;obtain⟨z,its,n,r,C,e⟩:=I.lstM o;obtain⟨F,a,n2,p,B,f⟩:=I.lstM j;refine PySem.P.add_list e f ?_ (by rw[Ka,Ka];omega)
 have g:its.toArray++a.toArray=(its++a).toArray:=by simp
 rw[g];exact⟨.ref _,_,I.lnew (t':=s.toks) (r.append p) (by rw[JW];omega),rfl,q _ I.fresh⟩
def Fc:R2:=λx y H Q=>∃l k xs,x=.ref l/\y=.int k/\H l=some (.lst xs)/\-(2^63)<=k/\k<2^63/\xs.length*k.toNat<=sizeLine /\
 ∀p,H p=none->Q (.ref p) (au H p (.lst (List.replicate k.toNat xs).flatten))
def rQ{c:Type}(xs:List c)(k:Nat):(List.replicate k xs).flatten.length=k*xs.length:=by
 induction k with
 |zero=>simp
 |succ k a=>rw[K7,KN,JW,a,Nat.succ_mul,Nat.add_comm]
def uu:cy X (binaryOp .Mult) Fc:=by
 intro j s P H x y v u Q I K L h;obtain⟨l,k,xs,rfl,rfl,G,C,E,N,q⟩:=h;cases K;obtain⟨t,rfl⟩:=L;obtain⟨z,its,n,r,J,e⟩:=I.lstM G
 have c:its.toArray.size*k.toNat<=sizeLine:=by rwa[Ka,←J]
 have o:¬ its.toArray.size*k.toNat>(2^63-1)/8:=by
  have:(sizeLine:Nat)<=(2^63-1)/8:=by decide
  omega
 have A:¬ (!Builtin.List.listFitsIndex k)=true:=by rw[fitsIndex_both C E];exact KG
 have w:¬ Builtin.List.listTooLong (its.toArray.size*k.toNat)=true:=by rw[uX c];exact KG
 have p:List.foldl (λf g=>f++g) #[] (List.replicate (if its.toArray.isEmpty=true then 0 else k.toNat) its.toArray)=(List.replicate k.toNat its).flatten.toArray:=by
  have B:∀m:Nat,List.foldl (λf g=>f++g) #[] (List.replicate m its.toArray)=(List.replicate m its).flatten.toArray:=λm=>by have:=sN its m [];rw[Ms]at this;exact this
  rw[B]
  cases its with
  |nil=>simp
  |cons a O=>rw[JZ (by simp)]
 refine wpAny_binaryOp_repeat_ref (T:="list") (U:="int") (by decide) ⟨_,e,rfl⟩ (λM=>Nu M k t) noFill_list_mul F.fills_int_mul M3 repeat_list F.slot_int_index.lookup
  (L8 M3 (Nu s k t) F.entry_int_rmul (F.args_int_rmul_2 _ _) (int___rmul___int_list k t l its.toArray n)
   ⟨e,rfl,⟨_,e,rfl⟩,L8 F.slot_list_mul ⟨_,e,rfl⟩ F.entry_list_mul (F.args_list_mul_2 _ _) (AutoListH.list___mul___list_int_3 l its.toArray n k t A o w) ⟨e,?_⟩⟩)
 rw[p];exact⟨.ref _,_,I.lnew (t':=s.toks) (r.rep k.toNat) (by rwa[rQ,NC]),rfl,q _ I.fresh⟩
end
end L2
namespace Att
open PySem PySem.W PySem.Calls PyProof.Rows
def Jn{P:Params}{h:Heap}:∀(ns:List Int)(vs:List Value),WellAll P h vs (ns.map WData.int)->IntsAre vs ns:=by
 intro ns
 induction ns with
 |nil=>
  intro vs w;rw[List.map_nil]at w;cases w;exact .nil
 |cons n ns c=>
  intro vs w;rw[Kn]at w
  cases w with
  |cons a b=>
   cases a;exact .cons _ _ (c _ b)
def Fe{l:OpenLaw}{n:Nat}(y:l.most=some n){P:Params}{h:Heap}{args:List WData}{vals:List Value}
  (j:l.row.toRowW.claim.pre args=true) (p:WellAll P h vals args) :
  ∃a vs ns,vals=[Value.ref a]/\args=[WData.list (ns.map WData.int)]/\h.get? a=some { cls:=.type "list",data:=.seq vs.toArray }/\IntsAre vs ns/\ns.length<=n:=by
 have g:WShape.hasAll [] args [.list .int]=true:=(pre_splitW j).1;have o:l.pre.holds [] { args:=args }=true:=(pre_splitW j).2;obtain⟨d,r,rfl,v,w⟩:=hasAllW_cons g;obtain rfl:=hasAllW_nil w;obtain⟨xs,rfl,x⟩:=hasW_list v;obtain⟨ns,rfl⟩:=items_int x
 have c:ns.length<=n:=by
  unfold OpenLaw.pre at o
  have e:(WTm.not (.lt (.lit (.int (n:Int))) (.len (.arg 0)))).holds [] { args:=[.list (ns.map .int)] }=true:=by have e:=(holds_andW o).1;rw[y]at e;exact e
  have f:=condW_of e (w_not (w_lt w_lit (w_len_list (w_arg rfl))));rw[JT]at f;refine Nat.le_of_not_lt λq=>?_
  have A:(n:Int)<((ns.length:Nat):Int):=by omega
  first
   |(rw[KZ A]at f;exact absurd f (by decide))
   |(simp at f;omega)
 cases p with
 |cons B C=>
  cases C
  cases B with
  |list z u=>exact⟨_,_,ns,rfl,rfl,z,Jn ns _ u,c⟩
def Io(l:OpenLaw)(args:List WData):l.row.toRowW.claim.post args (.bool true) args=true:=
 postW_of (r:=l.row.toRowW) (X:=(true==true))
  (show WShape.has [] (.bool true) .bool=true by first|rfl|decide|simp[WShape.has,WShape.arms,WShape.armsAll])
  (show (WTm.eq .res (.lit (.bool true))).value [] { args:=args,res:=some (.bool true),after:=args }=some (.bool (true==true))from w_eq_bool (w_res rfl) w_lit) rfl
def attach_call{l:OpenLaw}{n:Nat}{q:Program}{e:List Str}{z:(Str->Option Value)->Heap->Prop}{A:World->Heap->Prop}{d:DefRec}
  (S:l.most=some n) (K:d.params.defaults=[])
  (call:∀(w:World)(s₀ c:Shared)(mg x:Str->Option Value)(j:Addr)(o:Obj)(y u g:Value)(a:Addr)(vs:List Value)(ns:List Int),
   Ground q e [] z w s₀ mg x c.heap->A w c.heap->
   c.heap.get? j=some o->o.data=.func (docDef d.name d.params d.body d.scope y u g)->c.heap.CodeRec u d.name->mg d.name=some (.ref j)->
   c.heap.get? a=some { cls:=.type "list",data:=.seq vs.toArray }->IntsAre vs ns->ns.length<=n->c.gens=#[]->
   codeAny (model l.prog w) callerA (.call (.ref j) ⟨[.ref a],[]⟩) (λr v=>r=.ok (.ret (.bool true))/\OldK c.heap v.heap/\v.os=c.os/\AllBare v.gens) c) :
  WalkO q e z A l.row.toRowW d [] (λf vs=>PySem.call f vs):=by
 intro w s₀ c mg x G Y j o y u g L kV T hd E B I P args vals as H C X F Q;obtain rfl:L=.none:=Dflts.none B K;obtain rfl:kV=.none:=Dflts.noKw B;obtain⟨a,vs,ns,rfl,rfl,J,h,p⟩:=Fe S H F;refine enter_call (Nz (call w s₀ c mg x j o y u g a vs ns G Y T (fd_plain hd) E I J h p P) λr v U=>?_);obtain⟨rfl,M,N,O⟩:=U;exact⟨.inl ⟨.bool true,.bool true,[],rfl,λ_=>rfl,.bool true,Io l _,λ_=>⟨List.Pairwise.nil,λ_ R=>(nomatch R)⟩⟩,M,N,O⟩
end Att
namespace L2
open PySem PySem.Spec PyProof.Rows
def xP:∀{vs:List Value}{ns:List Int},IntsAre vs ns->Vals (ns.map V.int) vs
 |_,_,.nil=>.nil
 |_,_,.cons n t h=>.cons ⟨t,rfl⟩ (xP h)
def rR(H:Hp):Prop:=∀b,H b=none\/∃o xs,H b=some (.frz o (.lst xs))
def G0{P:Program}{w:World}{K:Frag}{mg T:Str->Option Value}{CX:eE}{k:Nat}{O a:Addr}{Y:FuncData}{x:Str}{sp:Sp}{c:Shared}{vs:List Value}{ns:List Int}
  (U:K.In c.heap) (I:c.heap.Ns mainGlobals mg) (g:c.heap.Ns builtinsNs T) (UT:∀x:Str,x≠"__name__"->T x=bootBuiltins x) (UU:c.heap.NoLimit)
  (Q:∃f p,mg "__builtins__"=some (.ref f)/\f≠builtinsNs/\c.heap.get? f=some p/\p.cls=.type "module"/\p.dict=some builtinsNs/\p.data=.plain) (M:c.heap.NoSeer) (R:∃j,c.heap.Ns cStatics j/\j "sys.int_max_str_digits"=none) (hg:c.gens=#[])
  (C:c.heap.get? a=some { cls:=.type "list",data:=.seq vs.toArray }) (hi:IntsAre vs ns) (hl:ns.length<=sizeLine) (hr:Room k callerA)
  (F:∀base:Heap,K.In base->base.Ns mainGlobals mg->FnOk P w K mg base CX k O Y [x] sp) (Tc:∀(s:Shared)(u:Value),BindsTo s Y ⟨[u],[]⟩ [(x,u)])
  (Qd:∀H:Hp,rR H->SqL K H a (ns.map V.int)->sp [.ref a] H (λv _=>v=.bl true) λ_ _ _=>False)
  (UW:∀H e l,CX [] H c (λ_ _ _=>False) e l->False) :
  codeAny (model P w) callerA (.call (.ref O) ⟨[.ref a],[]⟩) (λr l=>r=.ok (.ret (.bool true))/\OldK c.heap l.heap/\l.os=c.os/\AllBare l.gens) c:=by
 have rv:=xP hi;have UX:=hi.length
 have A:∀H:Hp,rR H->SqL K H a (ns.map V.int)->HOk P w H c.heap->(∀b,H b≠none->b=a)->(H a≠none->K.lookup a=none)->
   codeAny (model P w) callerA (.call (.ref O) ⟨[.ref a],[]⟩) (λr l=>r=.ok (.ret (.bool true))/\OldK c.heap l.heap/\l.os=c.os/\AllBare l.gens) c:=by
  intro H Z hS hok N hK;have L:∀{b:Addr}{o:Obj},c.heap.get? b=some o->H b=none->(iQ c.heap H).get? b=some o:=λe n=>HE e n
  have S9:∀{b:Addr}{o:Obj}{es:Array DictEntry}{E:Nat},c.heap.get? b=some o->o.data=.dict es E->H b=none:=λ{b o es E} e d=>by
   cases q:H b with
   |none=>rfl
   |some u=>
    have B:b=a:=N b (by rw[q];simp);subst B;rw[C]at e;cases e;have d':Data.seq vs.toArray _=Data.dict es E:=d;cases d'
  have y:∀{b:Addr}{m:Str->Option Value},c.heap.Ns b m->(iQ c.heap H).Ns b m:=λ{b m} Oa=>by obtain⟨o,es,E,e,d,r⟩:=Oa;exact⟨o,es,E,L e (S9 e d),d,r⟩
  have G:K.In (iQ c.heap H):=λb o e=>L (U b o e) (by
   cases q:H b with
   |none=>rfl
   |some u=>
    have B:b=a:=N b (by rw[q];simp);subst B
    rw[hK (by rw[q];simp)]at e;cases e)
  have hM:Mod K mg (iQ c.heap H):=⟨G,y I,⟨T,y g,UT⟩,let ⟨j,h1,h2⟩:=UU;⟨j,y h1,h2⟩,let ⟨f,p,b1,b2,b3,b4,b5,b6⟩:=Q;⟨f,p,b1,b2,L b3 (by
   cases q:H f with
   |none=>rfl
   |some u=>
    have B:f=a:=N f (by rw[q];simp)
    rw[B,C]at b3;cases b3;injection b4 with z;exact absurd z (by decide)),b4,b5,b6⟩,
   ⟨let ⟨j,h1,h2⟩:=M.statics;⟨j,y h1,h2⟩,let ⟨j,h1,h2⟩:=M.mods;⟨j,y h1,h2⟩,let ⟨j,h1,h2⟩:=M.imp;⟨j,y h1,h2⟩,let ⟨m1,f,p,n1,b1,b3,b4,b5⟩:=M.main;⟨m1,f,p,y n1,b1,L b3 (by
   cases q:H f with
   |none=>rfl
   |some u=>
    have B:f=a:=N f (by rw[q];simp)
    rw[B,C]at b3;cases b3;injection b4 with z;exact absurd z (by decide)),b4,b5⟩⟩,let ⟨j,h1,h2⟩:=R;⟨j,y h1,h2⟩⟩
  have e0:Env0 P w K mg (iQ c.heap H) callerA [] c H:=⟨rfl,hM,λb o e=>Cw e,Ny (Ay _ _),trivial,λb g=>absurd (show b∈([]:List Addr)from g) (by simp),hok,.of_eq hg⟩;refine Nz ((F _ G (y I)).run callerA [] c H ⟨[.ref a],[]⟩ [.ref a] [.ref a] _ _ hr e0 (Tc c (.ref a)) (.cons rfl .nil) (Qd H Z hS)) λr l h=>?_
  cases r with
  |error e=>exact (UW H e l h).elim
  |ok fl=>
   cases fl with
   |next=>exact False.elim h
   |brk=>exact False.elim h
   |cont=>exact False.elim h
   |ret u=>
    obtain⟨v,H',os,bare,un,UY,r',q⟩:=h;have q':v=.bl true:=q;subst q';obtain rfl:u=Value.bool true:=r';refine⟨rfl,OldK.of_keep λb o e=>?_,os,bare⟩
    cases q:H b with
    |none=>exact un.keep b o e q (by intro z;exact absurd (show b∈([]:List Addr)from z) (by simp)) (by simp)
    |some u=>
     rcases Z b with z|⟨p,xs,z⟩
     ·rw[q]at z;cases z
     ·have z2:=un.frzs b p _ z;obtain⟨X,_⟩:=hok b _ z;obtain⟨e2,_⟩:=UY b _ z2;rw[e]at X;cases X;exact e2
 cases S:K.lookup a with
 |some o=>
  have e:=U a o S;rw[C]at e;cases e;refine A (λ_=>none) (λ_=>.inl rfl) (.inr ⟨_,vs.toArray,_,S,rfl,rfl,rfl,by rwa[Ka,UX],by simpa using rv⟩) (λb u z=>by have J:(none:Option HO)=some u:=z;cases J) (λb z=>absurd rfl z) λz=>absurd rfl z
 |none=>
  refine A (λb=>if b=a then some (.frz { cls:=.type "list",data:=.seq vs.toArray } (.lst (ns.map V.int))) else none) (λb=>?_) (.inl (.inr ⟨{ cls:=.type "list",data:=.seq vs.toArray },J9 rfl⟩)) (λb u z=>?_) (λb z=>?_) λ_=>S
  ·by_cases g:b=a
   ·exact .inr ⟨_,_,J9 g⟩
   ·exact .inl (JZ g)
  ·by_cases g:b=a
   ·have J:=(J9 g).symm.trans z;cases J;subst g;exact⟨C,by rwa[JT],vs,_,rv,C⟩
   ·have J:=(JZ g).symm.trans z;cases J
  ·by_cases g:b=a
   ·exact g
   ·exact absurd (JZ g) z
def walk_of{l:PySem.W.OpenLaw}{n k:Nat}{q:Program}{j:List Str}{N:(Str->Option Value)->Heap->Prop}{B:World->Heap->Prop}{d:DefRec}{K:Params->Frag}{CX:World->eE}{sp:World->Sp}{x:Str}
  (Z:l.most=some n) (M:n<=sizeLine) (J:d.params.defaults=[]) (X:importsNone q=true) (hr:Room k callerA)
  (S:∀(w:World)(h:Heap),B w h->(K w.params).In h)
  (F:∀(w:World)(mg:Str->Option Value)(r:Addr)(h:Heap),(K w.params).In h->h.Ns mainGlobals mg->mg d.name=some (.ref r)->
   ∃y:FuncData,(∀(s:Shared)(u:Value),BindsTo s y ⟨[u],[]⟩ [(x,u)]) /\
    ∀base:Heap,(K w.params).In base->base.Ns mainGlobals mg->FnOk l.prog w (K w.params) mg base (CX w) k r y [x] (sp w))
  (C:∀(w:World)(H:Hp)(a:Addr)(ns:List Int),ns.length<=n->rR H->SqL (K w.params) H a (ns.map V.int)->sp w [.ref a] H (λv _=>v=.bl true) λ_ _ _=>False)
  (L:∀(w:World)(H:Hp)(s:Shared)(e:Value)(z:Shared),CX w [] H s (λ_ _ _=>False) e z->False) :
  PySem.W.WalkO q j N B l.row.toRowW d [] (λf vs=>PySem.call f vs):=by
 refine Att.attach_call Z J λw s₀ p mg mb r o pm cd O a vs ns G Y ho hd Ot E I g c U=>?_;have A:=S w _ Y;obtain⟨y,T,P⟩:=F w mg r _ A G.T.g E;exact G0 A G.T.g G.T.b G.T.builtins G.T.nolimit G.T.bmain (G.T.seer X) G.T.nodigits U I g (Kl c M) hr P T (λH Q R=>C w H a ns c Q R) λH e z=>L w H p e z
end L2
/- THE LAST Ul (shape; LID, My.* are yours):
   My.Adr: a structure of Um addresses that your layer names (classes, SN); My.Txt K t: a structure (Prop) of Um equations over K;
   My.txt_mk : {K} {implicit addresses ..} (e1 : nsIn K mainGlobals "law" = some (some (.ref f))) (e2 : K.lookup f = some ⟨oc, od, .func (fnOf "law" "law" params body scope dV kV doc pm an Oh ct), sl⟩) (e3 : codeIn K Oh "law" = true) .. : ∃t, My.Txt K t
set_option maxRecDepth 100000 in
set_option maxHeartbeats 0 in
theorem PySem.Challenge.cw_LID_holds : PySem.Challenge.rw_LID.Holds := by
 w_on;o_law;k_head;(case hw=>w_witness2)
 k_fill
 refine L2.walk_of (l:=PySem.Challenge.rw_LID) (n:=63) (k:=40) (x:="script") (CX:=λw=>..) (sp:=λ_=>My.sp_law) rfl (by decide) rfl ⟨rfl,by decide,by decide⟩ (λw h Y=>kIn_of Y) ?F ?S ?C
 case F=>
  intro w mg fa h KX G Se
  have T:∃t,My.Txt (L2.KOf KX) t:=by
   dsimp only[L2.KOf]                          -- K must stand as «<heap const> w.params» for k_is;refine' My.txt_mk ?e1 ?e2 ?e3 ..
   (case e1=>PySem.W.k_is)                    -- in Um order: a name-> its address-> its object-> its parts
   (case e2=>PySem.W.k_is)
   ..
  obtain⟨t,T⟩:=T;have e0:=Se.symm.trans (mg_of KX G T.law);cases e0                                       -- fa is Um law's own address
  exact⟨_,λs u=>.of_eq rfl,λbase kb nb=>My.law_fn T kb nb⟩     -- if «.of_eq rfl» comes too early: refine' ⟨_,?b,λbase kb nb=>My.law_fn T kb nb⟩;exact λs u=>.of_eq rfl
 case S=>exact λw H a ns hl hO hS=>..
 case C=>exact ..
(Um tactic k_is has no namespace: write k_is) -/
namespace L2
open PySem PySem.Spec PyProof.Rows
def fR(s:Stmt)(j:Nat):Stmt:=match s with
 |.ClassDef _ _ _ a _ _ _ _ _ _ _=>a.getD j (.Pass ⟨0,0,0,0⟩)
 |_=>.Pass ⟨0,0,0,0⟩
def je(s:Stmt):Arguments:=match s with
 |.FunctionDef _ a _ _ _ _ _ _ _ _=>a
 |_=>{ posonlyargs:=[],args:=[],vararg:=none,kwonlyargs:=[],kw_defaults:=[],kwarg:=none,defaults:=[] }
def gy(s:Stmt):List Stmt:=match s with
 |.FunctionDef _ _ b _ _ _ _ _ _ _=>b
 |_=>[]
def av(s:Stmt):Scope:=match s with
 |.FunctionDef _ _ _ _ _ _ a _ _ _=>a
 |_=>{ kind:=.function,names:=[],isGenerator:=false,isCoroutine:=false }
abbrev aI:eE:=λ_ _ _ _ _ _=>False
abbrev E0:XK:=λ_ _ _=>False
def ku{X:Cx}:jt aI X E0:=λ_ _ _ _ _ _ _ h=>h.elim
structure Fun(K:Frag)(x qual:Str)(st:Stmt)(f:Addr)(fd:FuncData):Prop where
 ex:∃(oc:Value)(od:Option Addr)(kV doc pm:Value)(an:Option Addr)(Oh ct:Value)(QR:Array (Option Value)),
  fd=fnOf x qual (je st) (gy st) (av st) .none kV doc pm an Oh ct/\K.lookup f=some ⟨oc,od,.func fd,QR⟩/\codeIn K Oh qual=true
 kp:keepIn K (.ref f)=true
section
variable{P:Program}{w:World}{K:Frag}{mg:Str->Option Value}{base:Heap}
def Fun.ok{x qual:Str}{st:Stmt}{f:Addr}{c:FuncData}{N ps:List Str}{k:Nat}{sp:Sp}(F:Fun K x qual st f c)(S:FnScope N ps (av st))(len:∀vs H Q E,sp vs H Q E->vs.length=ps.length)
  (g:∀(a:Value)(A:Around)(outer:List Env)(s:Shared)(H:Hp)(vs:List V)(Q:VK)(E:XK),Room k (A.deeper (envOfC qual (av st) s.heap.objs.size f a))->sp vs H Q E->
   ∃t,PSs (iT aI P w K mg base N qual (av st) f a A outer s H E).nox (gy st) t/\t { nx:=λ_ e=>Q .non e,rt:=Q } (e9 N vs) H):FnOk P w K mg base aI (k+1) f c ps sp:=by
 obtain⟨v,y,kV,o,z,u,a,ct,r,rfl,lk,j⟩:=F.ex;refine wj lk j S len λA outer s H vs Q E p l=>?_;obtain⟨t,h,q⟩:=g a A outer s H vs Q E p l;exact⟨t,h.nox,q⟩
def Fun.binds{x qual:Str}{st:Stmt}{f:Addr}{j:FuncData}{ps:List Str}(F:Fun K x qual st f j)
  (h:∀(kV a g:Value)(e:Option Addr)(c ct:Value)(us:List Value),us.length=ps.length->bindArgs (fnOf x qual (je st) (gy st) (av st) .none kV a g e c ct) ⟨us,[]⟩=pure (ps.zip us)):Binds K j ps []:=by
 obtain⟨p,r,kV,a,g,e,c,ct,o,rfl,lk,l⟩:=F.ex;exact .all (h kV a g e c ct)
def uT{x qual:Str}{st:Stmt}{f:Addr}{o:Value}{p g:Option Addr}{j:Array (Option Value)}{kV a h e ct:Value}(l:K.lookup f=some ⟨o,p,.func (fnOf x qual (je st) (gy st) (av st) .none kV a h g e ct),j⟩)
  (c:codeIn K e qual=true) (k:keepIn K (.ref f)=true):Fun K x qual st f (fnOf x qual (je st) (gy st) (av st) .none kV a h g e ct):=⟨⟨o,p,kV,a,h,g,e,ct,j,rfl,l,c⟩,k⟩
end
def bq{n:Nat}(h:n<=1000):n<sizeLine:=LV h (by decide)
section
variable{X:Cx}
def pv(i:Nat){x:Str}{a:Pos}(e:X.N[i]?=some x:=by rfl)(f:cV X.env.scope x:=by nofun)(hd:ab x:=by decide)
  (c:ad x:=by decide):PE X (.Name x a) (l7 i):=HK e f hd c
end
def j5{A B:Prop}(h:B):if false=true then A else B:=by rwa[JZ KG]
def jP{A B:Prop}(h:A):if true=true then A else B:=by rwa[J9 rfl]
def Same(H a:Hp):Prop:=∀b o,H b=some o->a b=some o
def Same.refl(H:Hp):Same H H:=λ_ _ h=>h
def Same.trans{H e f:Hp}(a:Same H e)(b:Same e f):Same H f:=λc o h=>b c o (a c o h)
def Same.free{H a:Hp}(e:Same H a){l:Addr}(h:a l=Option.none):H l=Option.none:=by
 cases q:H l with
 |none=>rfl
 |some o=>
  rw[e l o q]at h;cases h
def Same.seq{K:Frag}{H c:Hp}{a:Addr}{xs:List V}(e:Same H c)(h:SqL K H a xs):SqL K c a xs:=by
 rcases h with (h|⟨o,h⟩)|h
 ·exact .inl (.inl (e _ _ h))
 ·exact .inl (.inr ⟨o,e _ _ h⟩)
 ·exact .inr h
section
variable{a:Type}[DecidableEq a]
def fC(c:List (a×V))(k:a):Option V:=(c.find? λe=>decide (e.1=k)).map (·.2)
def fY(e:List (a×V))(k:a)(v:V):List (a×V):=
 if (e.any λc=>decide (c.1=k))=true then e.map (λc=>if c.1=k then (c.1,v) else c) else e++[(k,v)]
def nQ{p:a×V}{r:List (a×V)}{k:a}(e:p.1=k):fC (p::r) k=some p.2:=by simp[fC,LH,e]
def mU{p:a×V}{r:List (a×V)}{k:a}(e:¬ p.1=k):fC (p::r) k=fC r k:=by simp[fC,LH,e]
def wA(k:a):∀c:List (a×V),(c.any λf=>decide (f.1=k))=(fC c k).isSome
 | []=>rfl
 |p::r=>by
  rw[L1];by_cases e:p.1=k
  ·simp only[nQ e,KZ e,Bool.true_or,Option.isSome_some]
  ·rw[mU e,Ku e,Bool.false_or];exact wA k r
def vO(c:List (a×V))(k:a)(v:V):(fY c k v).length<=c.length+1:=by
 unfold fY;split
 ·rw[JT];omega
 ·rw[JW,Kb,Ls];omega
def RelO.isSome_eq{o:Option V}{u:Option Value}(r:RelO o u):o.isSome=u.isSome:=by
 cases o with
 |none=>cases u with
  |none=>rfl
  |some _=>exact (show False from r).elim
 |some _=>cases u with
  |none=>exact (show False from r).elim
  |some _=>rfl
def KV.val{g:List (a×V)}{vs:List (a×Value)}(r:KV g vs)(k:a):RelO (fC g k) (valueAt vs k):=by
 unfold KV at r
 induction r with
 |nil=>exact True.intro
 | @cons p q ps f h t o=>
  obtain⟨j,l⟩:=h;by_cases e:p.1=k
  ·have c:q.1=k:=j.symm.trans e
   have b:valueAt (q::f) k=some q.2:=by simp[valueAt,LH,c]
   rwa[nQ e,b]
  ·have c:¬ q.1=k:=λz=>e (j.trans z)
   have b:valueAt (q::f) k=valueAt f k:=by simp[valueAt,LH,c]
   rwa[mU e,b]
def KV.any{e:List (a×V)}{vs:List (a×Value)}(r:KV e vs)(k:a):(e.any λc=>decide (c.1=k))=vs.any λc=>decide (c.1=k):=by
 unfold KV at r
 induction r with
 |nil=>rfl
 |cons h t f=>rw[L1,L1,f,h.1]
def KV.repl{g:List (a×V)}{vs:List (a×Value)}(r:KV g vs)(k:a){y:V}{u:Value}(o:RelV y u) :
  KV (g.map λc=>if c.1=k then (c.1,y) else c) (vs.map λc=>if c.1=k then (c.1,u) else c):=by
 unfold KV at r ⊢
 induction r with
 |nil=>exact .nil
 | @cons p q ps v h t l=>
  rw[Kn,Kn];refine .cons ?_ l;obtain⟨f,j⟩:=h;by_cases e:p.1=k
  ·rw[J9 e,J9 (f.symm.trans e)];exact⟨f,o⟩
  ·rw[JZ e,JZ (λz=>e (f.trans z))];exact⟨f,j⟩
def KV.put{c:List (a×V)}{vs:List (a×Value)}(r:KV c vs)(k:a){y:V}{u:Value}(f:RelV y u):KV (fY c k y) (stored vs k u):=by
 unfold fY stored;rw[r.any k];by_cases e:(vs.any λg=>decide (g.1=k))=true
 ·rw[J9 e,J9 e];exact r.repl k f
 ·rw[JZ e,JZ e];exact Paired.snoc r ⟨rfl,f⟩
def KV.length{c:List (a×V)}{vs:List (a×Value)}(r:KV c vs):c.length=vs.length:=MP r
end
def nE{P:Program}{w:World}{k:aC}{u:Value}(r:RelV (kV k) u):(fD P w).is k u=true:=by
 cases k with
 |inl i=>obtain⟨t,e⟩:=(show ∃t,u=Value.int i t from r);subst e;exact Fb P w i t
 |inr x=>obtain⟨t,e⟩:=(show ∃t,u=Value.str x t from r);subst e;exact z9 P w x t
def uz{P:Program}{w:World}:∀{a:List aC}{us:List Value},Vals (a.map kV) us->ItemsAre (fD P w) a us
 | [],_,r=>by rw[List.map_nil]at r;cases r;exact .nil
 |k::a,_,r=>by
  rw[Kn]at r
  cases r with
  |cons h t=>exact .cons (nE h) (uz t)
abbrev KT(H:Hp):List (List aC×V)->List (List aC×Addr×Value)->Prop:=Paired λp q=>p.1=q.1/\H q.2.1=some (.tup (p.1.map kV))/\RelV p.2 q.2.2
def KT.val{H:Hp}{f:List (List aC×V)}{xs:List (List aC×Addr×Value)}(r:KT H f xs)(k:List aC):RelO (fC f k) ((atKey xs k).map (·.2)):=by
 induction r with
 |nil=>exact True.intro
 | @cons p q ps c h t l=>
  obtain⟨g,_,j⟩:=h;by_cases e:p.1=k
  ·have a:q.1=k:=g.symm.trans e
   have b:atKey (q::c) k=some q.2:=by simp[atKey,LH,a]
   rwa[nQ e,b]
  ·have a:¬ q.1=k:=λz=>e (g.trans z)
   have b:atKey (q::c) k=atKey c k:=by simp[atKey,LH,a]
   rwa[mU e,b]
def KT.repl{H:Hp}{f:List (List aC×V)}{xs:List (List aC×Addr×Value)}(r:KT H f xs)(k:List aC){y:V}{u:Value}(o:RelV y u) :
  KT H (f.map λc=>if c.1=k then (c.1,y) else c) (xs.map (putAt k u)):=by
 induction r with
 |nil=>exact .nil
 | @cons p q ps v h t l=>
  rw[Kn,Kn];refine .cons ?_ l;obtain⟨a,g,j⟩:=h;unfold putAt;by_cases e:p.1=k
  ·rw[J9 e,J9 (a.symm.trans e)];exact⟨a,g,o⟩
  ·rw[JZ e,JZ (λz=>e (a.trans z))];exact⟨a,g,j⟩
def KT.put{H:Hp}{a:List (List aC×V)}{xs:List (List aC×Addr×Value)}(r:KT H a xs)(k:List aC){b:Addr}{y:V}{u:Value}(f:H b=some (.tup (k.map kV)))(c:RelV y u) :
  KT H (fY a k y) (storedH xs k b u):=by
 have e:(a.any λg=>decide (g.1=k))=(atKey xs k).isSome:=by rw[wA,(r.val k).isSome_eq,Option.isSome_map]
 unfold fY storedH;rw[e];by_cases q:(atKey xs k).isSome=true
 ·rw[J9 q,J9 q];exact r.repl k c
 ·rw[JZ q,JZ q];exact Paired.snoc r ⟨rfl,f,c⟩
def KT.keeps{H a:Hp}{c:List (List aC×V)}{xs:List (List aC×Addr×Value)}(r:KT H c xs)(e:∀b ys,H b=some (.tup ys)->a b=some (.tup ys)):KT a c xs:=
 Paired.mapP r λ_ _ z=>⟨z.1,e _ _ z.2.1,z.2.2⟩
section
variable{P:Program}{w:World}{H:Hp}{h:Heap}{a:Addr}
def xh{u:HO}(ok:HOk P w H h)(e:Rd H a u):ObjOk P w H h a u:=e.ok ok
def mC{c:List (aC×V)}(ok:HOk P w H h)(e:Rd H a (.dK c)):c.length<=sizeLine/\(a==sysModules)=false/\∃vs,KV c vs/\h.DictOf (fD P w) a vs:=
 show ObjOk P w H h a (.dK c)from xh ok e
def Dq{c:List (aC×V)}(ok:HOk P w H h)(e:H a=some (.dK c)):c.length<=sizeLine/\(a==sysModules)=false/\∃vs,KV c vs/\h.DictOf (fD P w) a vs:=mC ok (.inl e)
def pH{c:List aC}(ok:HOk P w H h)(e:H a=some (.tup (c.map kV))):(tupleKind (fD P w)).is h c a:=by obtain⟨_,its,r,o,f,⟨g,_⟩,n,j⟩:=(show ObjOk P w H h a (.tup (c.map kV))from ok a _ e);exact⟨o,its.toArray,n,f,g,j,by simpa using uz r⟩
def pD{f:List (List aC×V)}(ok:HOk P w H h)(e:Rd H a (.dT f)):f.length<=sizeLine/\(a==sysModules)=false /\
  ∃xs,KT H f xs/\h.DictOfH (tupleKind (fD P w)) a xs:=by
 obtain⟨z,y,xs,r,o,es,j,u,v,A,B,C⟩:=(show ObjOk P w H h a (.dT f)from xh ok e);refine⟨z,y,xs,r,o,es,j,u,v,A,B,λx c=>?_,C⟩
 have all:∀{l:List (List aC×V)}{m:List (List aC×Addr×Value)},KT H l m->∀x∈m,(tupleKind (fD P w)).is h x.1 x.2.1:=by
  intro l m q
  induction q with
  |nil=>intro x c;exact nomatch c
  | @cons p q ps F g t E=>
   intro x c;rcases Kd.mp c with e|c
   ·subst e;exact pH ok (by rw[←g.1];exact g.2.1)
   ·exact E x c
 exact all r x c
def BV{c:List (List aC×V)}(ok:HOk P w H h)(e:H a=some (.dT c)):c.length<=sizeLine/\(a==sysModules)=false /\
  ∃xs,KT H c xs/\h.DictOfH (tupleKind (fD P w)) a xs:=pD ok (.inl e)
end
def DGet(H:Hp)(a:Addr)(y:V)(r:Option V):Prop:=
 (∃c k,Rd H a (.dK c)/\y=kV k/\r=fC c k)\/∃c k b,Rd H a (.dT c)/\y=.ref b/\H b=some (.tup (k.map kV))/\r=fC c k
def DPut(H:Hp)(a:Addr)(y v:V)(e:Hp):Prop:=
 (∃c k,H a=some (.dK c)/\y=kV k/\c.length<sizeLine/\e=au H a (.dK (fY c k v))) \/
 ∃c k b,H a=some (.dT c)/\y=.ref b/\H b=some (.tup (k.map kV))/\c.length<sizeLine/\e=au H a (.dT (fY c k v))
def DGet.t{H:Hp}{a b:Addr}{c:List (List aC×V)}{k:List aC}(e:H a=some (.dT c))(f:H b=some (.tup (k.map kV))):DGet H a (.ref b) (fC c k):=.inr ⟨c,k,b,.inl e,rfl,f,rfl⟩
def DPut.t{H:Hp}{a b:Addr}{c:List (List aC×V)}{k:List aC}{v:V}(e:H a=some (.dT c))(f:H b=some (.tup (k.map kV)))(g:c.length<sizeLine) :
  DPut H a (.ref b) v (au H a (.dT (fY c k v))):=.inr ⟨c,k,b,e,rfl,f,g,rfl⟩
section
variable{X:Cx}{f:List (Addr×Obj)}{j:St}{H:Hp}{s:Shared}{a:Addr}{y v:V}{u r:Value}{o:Option V}{A:Around}{E:Value->Shared->Prop}
def Inv.big(I:Inv X f j H s):sysModules<s.heap.objs.size:=by have h:mainGlobals<s.heap.objs.size:=(I.mod.glob.keeps I.bk).lt;exact M4 (by decide) h
def Dt{Q:Value->Shared->Prop}(O:A.units+1<cLine)(I:Inv X f j H s)(g:DGet H a y (some v))(G:RelV y u)(h:∀w J,Inv X f j H J->RelV v w->Q w J) :
  wpAny (model X.prog X.w) A (getItem (.ref a) u) Q E s:=by
 rcases g with⟨K,k,e,C,l⟩|⟨K,k,b,e,C,M,l⟩
 ·subst C;obtain⟨z,hd,vs,c,B⟩:=mC I.hok e;obtain⟨w,F,x⟩:=RelO.some_of (v:=v) (o:=valueAt vs k) (by rw[l];exact c.val k);exact wpAny_getItem_of (nE G) B.mapOf F (h w _ (I.tok _) x)
 ·subst C;cases (show u=Value.ref b from G);obtain⟨z,hd,xs,c,B⟩:=pD I.hok e;obtain⟨w,F,x⟩:=RelO.some_of (v:=v) (o:=(atKey xs k).map (·.2)) (by rw[l];exact c.val k);obtain⟨p,N,L⟩:=MO.mp F;refine wpAny_getItem_heap (Ng O) (pH I.hok M) B N ?_;rw[L];exact h w _ (I.tok _) x
def Dv{Q:Value->Shared->Prop}(G:A.units+1<cLine)(I:Inv X f j H s)(g:DGet H a y o)(x:RelV y u)(h:∀B,Inv X f j H B->Q (.bool o.isSome) B) :
  wpAny (model X.prog X.w) A (compareOp .In u (.ref a)) Q E s:=by
 rcases g with⟨C,k,e,w,l⟩|⟨C,k,b,e,w,F,l⟩
 ·subst w;obtain⟨z,hd,vs,c,p⟩:=mC I.hok e;refine wpAny_in_of (nE x) hd p.mapOf ?_;rw[←(c.val k).isSome_eq,←l];exact h _ (I.tok _)
 ·subst w;cases (show u=Value.ref b from x);obtain⟨z,hd,xs,c,p⟩:=pD I.hok e;refine wpAny_in_heap (Ng G) (pH I.hok F) hd p ?_;have q:=(c.val k).isSome_eq;rw[Option.isSome_map]at q;rw[←q,←l];exact h _ (I.tok _)
def xO{h':Heap}{t':Nat}{c:HO}(I:Inv X f j H s)(mu:kO (H a))(l:Heap.SameBut a s.heap h')(h:∃q,h'.get? a=some q)(new:ObjOk X.prog X.w (au H a c) h' a c) :
  Inv X f j (au H a c) { s with heap:=h',toks:=t' }:=
 I.write (x:=a) (e:=a) mu (.inl rfl) (λb q g z=>(l.2 b g).trans z) h new
def Ct{P:Program}{w:World}{g:Hp}{h':Heap}{c:List (aC×V)}{vs:List (aC×Value)}(z:c.length<=sizeLine)(hd:(a==sysModules)=false)(e:KV c vs)(h:h'.DictOf (fD P w) a vs) :
  ObjOk P w g h' a (.dK c):=⟨z,hd,vs,e,h⟩
def IT{M:Hp}{Q:Unit->Shared->Prop}(hu:A.units+1<cLine)(I:Inv X f j H s)(g:DPut H a y v M)(P:RelV y u)(O:RelV v r)(h:∀R,Inv X f j M R->Q () R) :
  wpAny (model X.prog X.w) A (setItem (.ref a) u r) Q E s:=by
 rcases g with⟨w,k,e,G,l,F⟩|⟨w,k,b,e,G,N,l,F⟩
 ·subst G F;obtain⟨z,hd,vs,p,C⟩:=Dq I.hok e
  have L:vs.length<=sizeLine:=by rwa[←p.length]
  have J:(fY w k v).length<=sizeLine:=by have:=vO w k v;omega
  refine wpAny_setItem_pairs (hsz:=L) (nE P) C λh' x K=>h _ ?_
  have he:∃q,h'.get? a=some q:=let ⟨q,_,_,B,_⟩:=x;⟨q,B⟩
  exact xO I (by rw[e];exact True.intro) K he (Ct J hd (p.put k O) x)
 ·subst G F;cases (show u=Value.ref b from P);obtain⟨z,hd,xs,p,C⟩:=BV I.hok e
  have L:xs.length<=sizeLine:=by rwa[←MP p]
  have J:(fY w k v).length<=sizeLine:=by have:=vO w k v;omega
  refine wpAny_setItem_heap (hsz:=L) (Ng hu) (pH I.hok N) C λh' x K=>h _ ?_;obtain⟨q,es,T,B,U,Y,Z,_,h5⟩:=x;refine xO I (by rw[e];exact True.intro) K ⟨q,B⟩ ⟨J,hd,_,(p.put k N O).keeps λc ys S=>?_,q,es,T,B,U,Y,Z,h5⟩;rwa[ba (Eh S e (λz=>nomatch z))]
end
def qA(i:Expr):Prop:=∀c a,subscripted i false c a=operate [c,a] (getItem c a)
def FR{prog:Program}{w:World}{A:Around}{E:Value->Shared->Prop}{s:Shared}{env:Env}{c a:Expr}{v:Pos}{T id:String}{Q:Value->Shared->Prop}
  (z:typeLookup (.type T) "__getitem__"=pure (some (.builtin id))) (B:qA a)
  (h:wpAny (model prog w) A (eval c env) (λo g=>wpAny (model prog w) A (eval a env) (λi e=>e.TypeIs o T/\wpAny (model prog w) A (getItem o i) Q E e) E g) E s) :
  wpAny (model prog w) A (eval (.Subscript c a v) env) Q E s:=by
 refine Subscript_ (LC h (λo g p=>LC p (λi e f=>?_) λ_ _ x=>x) λ_ _ x=>x);obtain⟨y,f⟩:=f;unfold subscriptTail;refine JY ?_;rw[getitemInPython_of_ne y.not_modules];refine JY (wpAny_specialOf y z ?_)
 have l:wpAny (model prog w) A (subscripted a false o i) (λr j=>wpAny (model prog w) A (letTemporaryGo c o r >>= λ_=>pure r) Q E j) E e:=by rw[B o i];exact wpAny_operating (LC f (λr j u=>JY (wpAny_letTemporaryGo (Kr u))) λ_ _ x=>x)
 first
  |exact Kr (JY l)
  |exact JY (Kr (JY l))
  |exact JY l
def EM{X:Cx}{c:List (Addr×Obj)}{j:St}{H:Hp}{s:Shared}{a:Addr}{y:V}{o:Option V}(I:Inv X c j H s)(g:DGet H a y o):s.TypeIs (.ref a) "dict":=by
 rcases g with⟨h,k,e,_,_⟩|⟨h,k,b,e,_,_,_⟩
 ·obtain⟨_,_,vs,_,f⟩:=mC I.hok e;exact f.typeIs
 ·obtain⟨_,_,xs,_,f⟩:=pD I.hok e;exact f.typeIs
def Iz(td g:TE):TE:=λe H Q=>td e H λx f=>g e f λy c=>∃a v,x=.ref a/\DGet c a y (some v)/\Q v c
def FE(g td:TE):TE:=λe H Q=>g e H λy f=>td e f λx c=>∃a o,x=.ref a/\DGet c a y o/\Q (.bl o.isSome) c
def Jm(td l j:TE):TS:=λD c H=>j c H λv f=>td c f λx g=>l c g λy h=>∃a e,x=.ref a/\DPut h a y v e/\D.nx c e
section
variable{X:Cx}{o i c:Expr}{f e:Pos}{td j l:TE}
def Fv(K:X.A.units+1<cLine)(G:PE X o td)(F:PE X i j)(J:qA i):PE X (.Subscript o i f) (Iz td j):=by intro p s w H Q I h;refine FR PySem.F.slot_dict_getitem.lookup J (aH (G p s w H _ I h) λu P ⟨x,z,B,N,L⟩=>aH (F p P w z _ B L) λR S ⟨y,A,r,O,a,v,ex,g,M⟩=>?_);subst ex;obtain rfl:u=Value.ref a:=N;exact⟨EM r g,Dt K r g O λU T C E=>⟨v,A,C,E,M⟩⟩
def ES(F:X.A.units+1<cLine)(C:PE X i j)(E:PE X o td):PC X .In i o (FE j td):=by intro p s r H Q I h;refine aH (C p s r H _ I h) λO N ⟨y,v,z,M,J⟩=>aH (E p N r v _ z J) λu P ⟨x,w,A,L,a,G,ex,g,K⟩=>?_;subst ex;obtain rfl:u=Value.ref a:=L;exact Dv F A g M λR B=>⟨.bl G.isSome,w,B,rfl,K⟩
def Dg(M:X.A.units+1<cLine)(K:PE X o td)(J:PE X i j)(N:PE X c l)(L:swapsWith c (some (.Subscript o i e)) f.line X.env=pure false) :
  PS X (.Assign [.Subscript o i e] c f) (Jm td j l):=by
 intro p s w H D I h;refine wpAny_Assign_Subscript (aH (N p s w H _ I h) λr U ⟨v,z,C,R,O⟩=>aH (K p U w z _ C O) λu Y ⟨x,A,E,S,P⟩=>aH (J p Y w A _ E P) λiv s3 ⟨y,Z,F,T,a,B,ex,g,Q⟩=>?_) L;subst ex;obtain rfl:u=Value.ref a:=S;exact IT M F g T R λs4 G=>⟨w,B,G,Q⟩
end
def zi{P:Program}{w:World}{H:Hp}(h:Heap)(a:sysModules<h.objs.size):ObjOk P w H (h.push { cls:=.type "dict",data:=.dict #[] }) h.objs.size (.dT []):=
 ⟨LA _,LN.mpr (K5 (KD a)),[],.nil,_,#[],0,Ke _ rfl,⟨rfl,rfl,rfl⟩,rfl,rfl,List.nodup_nil⟩
def AZ:TE:=λ_ H Q=>∀p,H p=none->Q (.ref p) (au H p (.dT []))
section
variable{X:Cx}{c:Pos}
def pe_dnewT:PE X (.Dict [] [] c) AZ:=λe s f H Q I h=>
 wpAny_Dict_empty ⟨.ref s.heap.objs.size,_,I.laid (a:=s.heap.objs.size) (o:=.dT []) (t':=s.toks) (λ_ _ q=>J4 _ q) (J3 _) (zi s.heap I.big),rfl,h _ (I.hok.fresh (J3 _))⟩
end
end L2
set_option maxHeartbeats 4000000
namespace L2
open PySem PySem.Spec PyProof.Rows
def HV{env:Env}(names:List (Str×NameKind))(y:∀x∈names,x.2=.free->∃c,env.cells.lookup x.1=some c):∀f:List (Str×Addr),
  ∃cl:List (Str×Addr),(forIn names f (λ(x:Str×NameKind) v=>if (x.2==.free)=true then do let a ←cellOf env x.1;pure (ForInStep.yield ((x.1,a)::v)) else pure (ForInStep.yield v)):Sem (List (Str×Addr)))=pure cl /\
   (∀p∈cl,p∈f\/env.cells.lookup p.1=some p.2)/\(∀p∈f,p∈cl)/\∀x,(x,NameKind.free)∈names->∃c,(x,c)∈cl:=by
 induction names with
 |nil=>intro f;exact⟨f,rfl,λp g=>.inl g,λ_ g=>g,λx h=>by simp at h⟩
 |cons n r B=>
  intro f;obtain⟨n,k⟩:=n;have A:∀x∈r,x.2=.free->∃c,env.cells.lookup x.1=some c:=λx h=>y x (J1 _ h);by_cases u:k=.free
  ·subst u;obtain⟨c,w⟩:=y (n,.free) J2 rfl;obtain⟨cl,e,l,j,o⟩:=B A ((n,c)::f);refine⟨cl,?_,λp g=>?_,λp g=>j p (J1 _ g),λx h=>?_⟩
   ·rw[M5,←e]
    have q:cellOf env n=pure c:=by unfold cellOf;rw[w]
    simp[q]
   ·rcases l p g with z|z
    ·rcases Kd.mp z with rfl|z
     ·exact .inr w
     ·exact .inl z
    ·exact .inr z
   ·rcases Kd.mp h with z|z
    ·cases z;exact⟨c,j _ J2⟩
    ·exact o x z
  ·obtain⟨cl,e,l,j,o⟩:=B A f;refine⟨cl,?_,l,j,λx h=>?_⟩
   ·rw[M5,←e]
    have q:(k==NameKind.free)=false:=by simpa using u
    simp[q]
   ·rcases Kd.mp h with z|z
    ·cases z;exact absurd rfl u
    ·exact o x z
def Bw{cl:List (Str×Addr)}{cells:List (Str×Addr)}(h:∀p∈cl,cells.lookup p.1=some p.2):∀x c,cl.lookup x=some c->cells.lookup x=some c:=λx c e=>h (x,c) (K6 e)
def BM{cl:List (Str×Addr)}{x:Str}{c:Addr}:(x,c)∈cl->∃a,cl.lookup x=some a:=by
 induction cl with
 |nil=>intro h;simp at h
 |cons p r f=>
  intro h;rw[Kq]
  cases e:x==p.1 with
  |true=>exact⟨_,rfl⟩
  |false=>
   rcases Kd.mp h with z|z
   ·subst z;simp at e
   ·exact f z
def wK{scope:Scope}{env:Env}(h:∀x∈scope.names,x.2=.free->∃c,env.cells.lookup x.1=some c) :
  ∃cl,closureFor scope env=pure cl/\(∀x c,cl.lookup x=some c->env.cells.lookup x=some c)/\∀x,(x,NameKind.free)∈scope.names->∃c,cl.lookup x=some c:=by
 obtain⟨cl,e,a,_,f⟩:=HV (env:=env) scope.names h [];refine⟨cl,?_,Bw λp j=>(a p j).elim (λz=>by simp at z) id,λx l=>?_⟩
 ·unfold closureFor;simp only;rw[←e];simp
 ·obtain⟨c,g⟩:=f x l;exact BM g
def qF{env:Env}:∀{names:List (Str×NameKind)}{x:Str}{k:NameKind},
  (names.map λ(n,k)=>if (k==NameKind.free&&env.scope.kind==.function&&env.kindOf n==some .cell) then (n,NameKind.cell) else (n,k)).lookup x=some k->(k=.cell\/k=.free)->(x,NameKind.free)∈names\/(x,NameKind.cell)∈names
 | [],_,_,h,_=>by simp at h
 |(n,k)::r,x,j,h,c=>by
  have g:=@qF env r x j;have h:List.lookup x ((if (k==NameKind.free&&env.scope.kind==.function&&env.kindOf n==some .cell)=true then (n,NameKind.cell) else (n,k))::_)=_:=h;by_cases a:(k==NameKind.free&&env.scope.kind==.function&&env.kindOf n==some .cell)=true
  ·rw[J9 a]at h
   have l:k=.free:=by simp only[LQ,Mn]at a;exact a.1.1
   rw[Kq]at h
   cases e:x==n with
   |true=>
    have:x=n:=by simpa using e
    subst this;subst l;exact .inl J2
   |false=>
    simp only[e]at h;exact (g h c).imp (J1 _) (J1 _)
  ·rw[JZ a]at h;rw[Kq]at h
   cases e:x==n with
   |true=>
    have f:k=j:=by simpa [e] using h
    have:x=n:=by simpa using e
    subst this;subst f;rcases c with rfl|rfl
    ·exact .inr J2
    ·exact .inl J2
   |false=>
    simp only[e]at h;exact (g h c).imp (J1 _) (J1 _)
def bU(X:Cx)(scope:Scope)(N':List Str)(cl:List (Str×Addr))(C:Addr)(e:Shared)(a:Hp)(c:List Addr):Cx where
 prog:=X.prog
 w:=X.w
 K:=X.K
 mg:=X.mg
 base:=X.base
 A:=X.A
 N:=N'
 s₀:=e
 H₀:=a
 env:=compEnvC scope cl C X.env
 outer:=X.stack
 stack:=X.stack
 ex:=c
 fn:=λx=>scope.names.lookup x==some .cell
 calm:=X.calm
 pn:=[]
 xe:=λ_ _=>False
def eN(cap:List (Option Nat))(a:St):St:=cap.map λo=>o.bind λi=>(a[i]?).join
structure CompScope(N:List Str)(sc scope:Scope)(N':List Str)(cap:List (Option Nat)):Prop where
 kind:scope.kind=.function
 cel:∀x∈scope.names,x.2=.cell->scope.names.lookup x.1=some .cell
 names:∀x∈scope.names,x.2=.local->scope.names.lookup x.1=some .local
 free:∀x∈scope.names,x.2=.free->sc.names.lookup x.1=some .cell
 fst:∀x∈scope.names,x.2=.free->scope.names.lookup x.1=some .free
 nd:N'.Nodup
 len:cap.length=N'.length
 at_:∀p∈cap.zip N',∀i,p.1=some i->N[i]?=some p.2/\(p.2,NameKind.free)∈scope.names
def jx(X:Cx)(e:List Expr)(t:TT):Prop:=
 ∀(a:List (Addr×Obj))(s:Shared)(f:St)(H:Hp)(Q:Bool->Hp->Prop),Inv X a f H s->t f H Q->
  wpAny (model X.prog X.w) X.A (forIn e true λc r=>if r=true then do let ok ←isTrue c X.env (eval c X.env);pure (ForInStep.yield ok) else pure (ForInStep.yield r)) (TP X a f Q) X.xe s
def yG:TT:=λ_ H Q=>Q true H
def vB{X:Cx}:jx X [] yG:=λ_ _ _ H _ I h=>wpAny_tests_nil ⟨H,I,h⟩
def Co{X:Cx}{c:Expr}{t:TT}(h:PT X c t):jx X [c] t:=λa s f H Q I e=>wpAny_tests_one (h a s f H Q I e)
def gB(z:TI)(cap:List (Option Nat))(g:TG)(v:TT)(w:TE):TE:=λr H Q=>z r H λJ j=>∀D,j D=none->∃W:Nat->Nat->St->Hp->Prop,(∃m,W 0 m (eN cap r) (au j D (.lst []))) /\
 ∀i m f c,W i m f c->(J.stop i c/\Q (.ref D) c)\/(J.go i c/\∃N:St->Hp->Prop,(∀h e,N h e->∃p,p<m/\W (i+1) p h e) /\
  ∀x e,J.yld i c x e->g x f e λa u=>v a u λb l=>if b=true then w a l λy o=>∃ys,o D=some (.lst ys)/\ys.length<sizeLine/\N a (au o D (.lst (ys++[y]))) else N a l)
def Df{prog:Program}{w:World}{A:Around}{R:Result->Shared->Prop}{s:Shared}{B a o:Expr}{E:List Expr}{scope:Scope}{J:Pos}{L z:Value}{env:Env}(I:Nat->Shared->Prop)
  (K:∀n s,I n s->wpAny (model prog w) A (pyNext L) (λr e=>match r with
   |none=>R (.ok .next) e
   |some v=>wpAny (model prog w) A (letOwnedTupleGo a L v) (λ_ f=>wpAny (model prog w) A (assign a env v) (λ_ p=>
     wpAny (model prog w) A (forIn E true λc r=>if r=true then do let ok ←isTrue c env (eval c env);pure (ForInStep.yield ok) else pure (ForInStep.yield r)) (λok g=>
      if ok=true then wpAny (model prog w) A (eval B env) (λx u=>
       wpAny (model prog w) A (call (.builtin "list.append") [z,x]) (λ_ y=>∃m,m<n/\I m y) (λ_ _=>False) u) (λ_ _=>False) g
      else ∃m,m<n/\I m g) (λ_ _=>False) p) (λ_ _=>False) f) (λ_ _=>False) e) (λ_ _=>False) s)
  (n:Nat) (h:I n s):codeAny (model prog w) A (.compLoop (.ListComp B [⟨a,o,E,0⟩] scope J) 0 L z env) R s:=by
 refine codeAny_loop rfl I (λn s M=>?_) n h;show wpAny _ A ((compTurn (.ListComp B [⟨a,o,E,0⟩] scope J) 0 L z env).onRaise (λx=>do noteFrame x env;theTreesLotGoes x)) _ _ s;refine wpAny_noted ?_;rw[compTurn_list];refine JY (Nn (JY (LC (K n s M) (λr e j=>?_) λ_ _ h'=>h'.elim)))
 cases r with
 |none=>exact Kr j
 |some v=>
  refine JY (LC j (λ_ f C=>?_) λ_ _ h'=>h'.elim);refine JY (LC C (λ_ p F=>JY (LC F (λok g l=>?_) λ_ _ h'=>h'.elim)) λ_ _ h'=>h'.elim)
  cases ok with
  |false=>exact Kr ⟨rfl,l⟩
  |true=>
   exact JY (JY (LC l (λx u G=>JY (LC G (λ_ y H=>Kr (Kr ⟨rfl,H⟩)) λ_ _ h'=>h'.elim)) λ_ _ h'=>h'.elim))
section
variable{X:Cx}{B G f:Expr}{l:List Expr}{scope:Scope}{F:Pos}{N':List Str}{cap:List (Option Nat)}{O:TI}{g:TG}{L:TT}{K:TE}
def mi:∀(names:List (Str×NameKind))(n:Nat)(a:List (Str×Addr)),cellsFrom n names a=cellsFrom n names []++a
 | [],_,_=>rfl
 |(x,k)::r,n,a=>by
  unfold cellsFrom;split
  ·rw[mi r (n+1) ((x,n)::a),mi r (n+1) [(x,n)],Kc];rfl
  ·exact mi r n a
def ra:∀(names:List (Str×NameKind))(n:Nat){x:Str}{c:Addr},(x,c)∈cellsFrom n names []->(x,NameKind.cell)∈names
 | [],_,_,_,h=>by simp[cellsFrom]at h
 |(y,k)::r,n,x,c,h=>by
  unfold cellsFrom at h;split at h
  ·rename_i a;rw[mi]at h;rcases Ks.mp h with h|h
   ·exact J1 _ (ra r _ h)
   ·have e:=J5.mp h;cases e
    have:k=.cell:=by simpa using a
    subst this;exact J2
  ·exact J1 _ (ra r _ h)
def Ad{M:Model}{A:Around}{E:Value->Shared->Prop}{s:Shared}{globals:Addr}{cl:List (Str×Addr)}{qual:Str}{outer:Env}{Q:Env->Shared->Prop}
  (c:∀h',h'.Ns s.heap.objs.size (λ_=>none)->(∀b o,s.heap.get? b=some o->h'.get? b=some o)->CellsOk h' (s.heap.objs.size+1) (cellsFrom (s.heap.objs.size+1) scope.names [])->
   Q { scope:=scope,locals:=s.heap.objs.size,globals:=globals,cells:=cellsFrom (s.heap.objs.size+1) scope.names []++cl,qual:=qual,func:=none,code:=outer.code,frame:=outer.frame,builtins:=outer.builtins } { s with heap:=h' }) :
  wpAny M A (newFunctionEnv scope globals cl [] qual none .none (some outer)) Q E s:=by
 simp only[newFunctionEnv,Option.isSome_some,Nx];refine JY (wpAny_alloc ?_);refine JY (wpAny_layCells _ (λname kind cells=>by cases a:kind==NameKind.cell<;>simp[a]) _ _ _ _ ?_);have ok:=cellsFrom_ok scope.names (s.heap.push { cls:=.type "dict",data:=.dict #[] }) (s.heap.objs.size+1) [] ⟨λ_ _ h=>(nomatch h),List.Pairwise.nil⟩ (by rw[KS];exact J3 _);rw[KS]at ok;rw[show ({ s with heap:=s.heap.push { cls:=.type "dict",data:=.dict #[] } }:Shared).heap.objs.size=s.heap.objs.size+1 from KS ..,mi];refine JY ?_;rw[NU];exact Kr (Kr (c _ ((Heap.Ns.new s.heap (.type "dict")).keeps (pushCells_keeps _ _)) (λb o e=>pushCells_keeps _ _ b o (J4 _ e)) ok))
def Bm{N:List (Addr×Obj)}{P:St}{H:Hp}{s T:Shared}{cl A:List (Str×Addr)}{C:Addr}{fp:List Addr}{m:Str->Option Value}(S:CompScope X.N X.env.scope scope N' cap)(I:Inv X N P H s)
  (RL:∀x c,cl.lookup x=some c->X.env.cells.lookup x=some c) (Sg:∀x,(x,NameKind.free)∈scope.names->∃c,cl.lookup x=some c) (E:s.heap.objs.size<=C) (hos:T.os=s.os) (hg:T.gens=s.gens)
  (hk:∀b o,s.heap.get? b=some o->T.heap.get? b=some o) (hn:T.heap.Ns C m) (Up:∀b∈fp,eR X N H b) (Z:∀b∈fp,b<s.heap.objs.size) (hw:CellsOk T.heap (C+1) A) (hwm:∀x c,(x,c)∈A->(x,NameKind.cell)∈scope.names) (RK:∀x,(x,NameKind.cell)∈scope.names->∃c,A.lookup x=some c) :
  Inv (bU X scope N' (A++cl) C s H fp) [] (eN cap P) H T:=by
 have R:∀x c,(A++cl).lookup x=some c->((x,c)∈A/\C<c)\/(A.lookup x=none/\X.env.cells.lookup x=some c):=λx c h=>by
  rw[Nh]at h
  cases e:A.lookup x with
  |none=>rw[e]at h;exact .inr ⟨rfl,RL x c (by simpa using h)⟩
  |some U=>
   rw[e]at h
   have:U=c:=by simpa using h
   subst this;exact .inl ⟨K6 e,(hw.empty _ _ (K6 e)).2⟩
 have M:∀x c,X.env.cells.lookup x=some c->c<s.heap.objs.size:=λx c h=>by obtain⟨v,q⟩:=I.cell x c h;exact q.lt
 have Td:∀x,(x,NameKind.free)∈scope.names->∃c,(A++cl).lookup x=some c/\X.env.cells.lookup x=some c:=λx w=>by
  obtain⟨c,hc⟩:=Sg x w;refine⟨c,?_,RL x c hc⟩;rw[Nh]
  cases e:A.lookup x with
  |none=>simpa using hc
  |some U=>
   have a1:=S.cel _ (hwm x U (K6 e)) rfl;have a2:=S.fst _ w rfl;have a1:scope.names.lookup x=some .cell:=a1;have a2:scope.names.lookup x=some .free:=a2;rw[a1]at a2;cases a2
 refine⟨⟨I.ok.mod,S.kind,I.ok.glob,I.ok.blt,E,λx y c h1 a=>?_,λx w=>?_,λx c w h=>?_,I.ok.hd,I.ok.frames,.inl rfl,
   λb J=>⟨KD (KJ (Z b J) E),λx c e=>?_⟩,I.bs,Kl I.ok.bsz I.sz,λb o e J=>?_,λb J hf=>?_,I.stack,I.stkFree⟩,
  hos,by rw[hg];exact I.bare,Un.kept hk,⟨m,hn,λi x v h1 a h3=>?_⟩,λx c e=>?_,I.hok.fresh E,λx c e=>?_,λp hp=>absurd (show p∈([]:List (Addr×Obj))from hp) (by simp),I.hok.kept hk,?_⟩
 ·rcases R x c h1 with⟨a1,a2⟩|⟨_,a2⟩<;>rcases R y c a with⟨b1,b2⟩|⟨_,b2⟩
  ·exact name_of_addr hw.apart a1 b1
  ·exact absurd (M y c b2) (Nat.not_lt.mpr (Kl E (Lo a2)))
  ·exact absurd (M x c a2) (Nat.not_lt.mpr (Kl E (Lo b2)))
  ·exact I.ok.inj x y c a2 b2
 ·have q:(x,NameKind.free)∈scope.names\/(x,NameKind.cell)∈scope.names:=by
   rcases w with w|w
   ·exact qF w (.inl rfl)
   ·exact qF w (.inr rfl)
  rcases q with q|q
  ·obtain⟨c,h,_⟩:=Td x q;exact⟨c,h⟩
  ·obtain⟨c,h⟩:=RK x q;exact⟨c,by show (A++cl).lookup x=_;rw[Nh,h];rfl⟩
 ·have w:(scope.names.lookup x==some .cell)=true:=w
  have w:scope.names.lookup x=some .cell:=by simpa using w
  obtain⟨U,h'⟩:=RK x (K6 w);rcases R x c h with⟨_,a2⟩|⟨a1,_⟩
  ·exact Kl E (Lo a2)
  ·rw[h']at a1;cases a1
 ·rcases R x c e with⟨_,a2⟩|⟨_,a2⟩
  ·exact λz=>absurd (Z b J) (Nat.not_lt.mpr (Kl E (by rw[←z];exact Lo a2)))
  ·exact (Up b J).2.2.2.2.1 x c a2
 ·rcases (Up b J).2.2.2.1 with z|z
  ·exact I.ok.noex b o e z
  ·exact absurd (KJ (Kk e) (Kl I.ok.bsz z)) (Lw _)
 ·rcases Kd.mp (I.stkSub b hf)with z|z
  ·exact (Up b J).2.1 z
  ·exact (Up b J).2.2.1 z
 ·have a:(cap.map λo=>o.bind λi=>(P[i]?).join)[i]?=some (some v):=a;rw[J7]at a
  cases ec:cap[i]? with
  |none=>rw[ec]at a;cases a
  |some o=>
   rw[ec]at a
   have a:(o.bind λi=>(P[i]?).join)=some v:=by simpa using a
   cases o with
   |none=>cases a
   |some j=>
    have a:(P[j]?).join=some v:=a
    have hj:P[j]?=some (some v):=by
     cases ej:P[j]? with
     |none=>rw[ej]at a;cases a
     |some y=>rw[ej]at a;exact KO some a
    have hz:(cap.zip N')[i]?=some (some j,x):=by rw[Mt];exact⟨ec,h1⟩
    obtain⟨q1,q2⟩:=S.at_ _ (J0 hz) j rfl;obtain⟨mx,hnx,hl⟩:=I.loc;have kc:=S.free _ q2 rfl;obtain⟨u,r,lk⟩:=hl j x v q1 hj (.inr (.inl kc));refine⟨u,r,?_⟩;rcases lk with⟨k1,_⟩|⟨_,c,e,z⟩
    ·have:X.env.scope.names.lookup x=some .local:=k1;rw[kc]at this;cases this
    ·obtain⟨U,S6,RF⟩:=Td x q2;rw[e]at RF;cases RF
     have Q:(compEnvC scope (A++cl) C X.env).kindOf x=some .cell\/(compEnvC scope (A++cl) C X.env).kindOf x=some .free\/(compEnvC scope (A++cl) C X.env).kindOf x=some .local:=by
      rcases h3 with z|z|z
      ·exact .inr (.inr z)
      ·exact .inl z
      ·exact .inr (.inl z)
     rcases Q with Q|Q|Q
     ·exact .inr ⟨.inl Q,c,S6,let ⟨o,ho,hd⟩:=z;⟨o,hk c o ho,hd⟩⟩
     ·exact .inr ⟨.inr Q,c,S6,let ⟨o,ho,hd⟩:=z;⟨o,hk c o ho,hd⟩⟩
     ·exfalso;have kl:(relabel scope X.env).names.lookup x=some .local:=Q;have ml:=K6 kl;obtain⟨⟨n,k⟩,hm,Y⟩:=Kf.mp ml;have Y:(if (k==NameKind.free&&X.env.scope.kind==.function&&X.env.kindOf n==some .cell)=true then (n,NameKind.cell) else (n,k))=(x,NameKind.local):=Y;split at Y
      ·cases Y
      ·cases Y;have a1:=S.names _ hm rfl;have a3:scope.names.lookup x=some .free:=S.fst _ q2 rfl;have a1:scope.names.lookup x=some .local:=a1;rw[a3]at a1;cases a1
 ·rcases R x c e with⟨a1,_⟩|⟨_,a2⟩
  ·exact⟨none,(hw.empty x c a1).1⟩
  ·obtain⟨v,o,ho,hd⟩:=I.cell x c a2;exact⟨v,o,hk c o ho,hd⟩
 ·rcases R x c e with⟨_,a2⟩|⟨_,a2⟩
  ·exact I.hok.fresh (Kl E (Lo a2))
  ·exact I.freeC x c a2
 ·show (eN cap P).length=N'.length;unfold eN;rw[JT,S.len]
def tX{H:List (Addr×Obj)}{σ:St}{j:Hp}{I:Shared}{it:Addr}{A:List Addr}{tn:Nat->Heap->Prop}{J:It}{cl:List (Str×Addr)}{RR:Value->Addr->Result->Shared->Prop}{E:Value->Shared->Prop}(Oo:X.calm=true)(S:CompScope X.N X.env.scope scope N' cap)
  (hg:∀(cl:List (Str×Addr))(C:Addr)(s0:Shared)(H0:Hp),PG (bU X scope N' cl C s0 H0 A) G g) (ht:∀(cl:List (Str×Addr))(C:Addr)(s0:Shared)(H0:Hp),jx (bU X scope N' cl C s0 H0 A) l L) (he:∀(cl:List (Str×Addr))(C:Addr)(s0:Shared)(H0:Hp),PE (bU X scope N' cl C s0 H0 A) B K)
  (I2:Inv X H σ j I) (T:Turn X.prog X.w X.K G J A it tn) (RJ:tn 0 I.heap) (f2:∀b∈A,eR X H j b)
  (RL:∀x c,cl.lookup x=some c->X.env.cells.lookup x=some c) (Sg:∀x,(x,NameKind.free)∈scope.names->∃c,cl.lookup x=some c)
  {P:V->Hp->Prop}
  (w:∀D,j D=none->∃W:Nat->Nat->St->Hp->Prop,(∃m,W 0 m (eN cap σ) (au j D (.lst []))) /\
   ∀i m Q z,W i m Q z->(J.stop i z/\P (.ref D) z)\/(J.go i z/\∃N:St->Hp->Prop,(∀σ2 j,N σ2 j->∃m',m'<m/\W (i+1) m' σ2 j) /\
    ∀x j,J.yld i z x j->g x Q j λU H3=>L U H3 λb H4=>if b=true then K U H4 λy H5=>∃ys,H5 D=some (.lst ys)/\ys.length<sizeLine/\N U (au H5 D (.lst (ys++[y]))) else N U H4))
  (hRR:∀D C z s' m',X.env.locals≠C->X.s₀.heap.objs.size<=C->(∀x c,X.env.cells.lookup x=some c->c≠C)->(∀p∈X.pn++H,p.1≠C)->z C=none->s'.heap.Ns C m'->Inv X H σ z s'->P (.ref D) z->RR (.ref D) C (.ok .next) s') :
  wpAny (model X.prog X.w) X.A (newList []) (λacc M=>wpAny (model X.prog X.w) X.A (newFunctionEnv scope X.env.globals cl [] X.env.qual none .none (some X.env)) (λTe s₄=>
   codeAny (model X.prog X.w) X.A (.compStart (.ListComp B [⟨G,f,l,0⟩] scope F) 0 (.ref it) acc { Te with scope:=relabel scope X.env }) (RR acc Te.locals) s₄) E M) E I:=by
 refine Nq ?_ (by show 0<=sizeLine;decide);have I3:Inv X H σ (au j I.heap.objs.size (.lst [])) { I with heap:=I.heap.push { cls:=.type "list",data:=.seq ([]:List Value).toArray } }:=I2.lnew (t':=I.toks) .nil (by show 0<=sizeLine;decide);have k3:∀b o,I.heap.get? b=some o->(I.heap.push { cls:=.type "list",data:=.seq ([]:List Value).toArray }).get? b=some o:=λb o e=>J4 _ e;have z3:(I.heap.push { cls:=.type "list",data:=.seq ([]:List Value).toArray }).objs.size=I.heap.objs.size+1:=KS ..;have hD0:j I.heap.objs.size=none:=I2.fresh;generalize hs3:({ I with heap:=I.heap.push { cls:=.type "list",data:=.seq ([]:List Value).toArray } }:Shared)=s3 at I3 ⊢
 have eh3:s3.heap=I.heap.push { cls:=.type "list",data:=.seq ([]:List Value).toArray }:=by rw[←hs3]
 have eo3:s3.os=I.os:=by rw[←hs3]
 generalize hDD:I.heap.objs.size=D at I3 hD0 z3 ⊢;rw[←eh3]at k3 z3;have live:∀b∈A,∃o,I.heap.get? b=some o/\∀v,o.data≠.cell v:=λb a=>T.obj 0 _ RJ b a
 have UZ:∀b∈A,b<D:=λb a=>by obtain⟨o,e,_⟩:=live b a;rw[←hDD];exact Kk e
 have f3:∀b∈A,eR X H (au j D (.lst [])) b:=λb a=>⟨by rw[ba (KD (UZ b a))];exact (f2 b a).1,(f2 b a).2⟩;refine Ad λh4 hn4 k4 ok4=>?_;generalize hnw:cellsFrom (s3.heap.objs.size+1) scope.names []=nw at ok4 ⊢;have st4:tn 0 h4:=T.keep 0 _ _ RJ λb _ o e=>k4 b o (k3 b o e)
 have I4:Inv (bU X scope N' (nw++cl) s3.heap.objs.size s3 (au j D (.lst [])) A) [] (eN cap σ) (au j D (.lst [])) { s3 with heap:=h4 }:=
  Bm S I3 RL Sg (J3 _) rfl rfl k4 hn4 f3 (λb a=>by rw[z3];exact L5 (UZ b a)) ok4 (λx c h=>ra _ _ (hnw▸h)) λx h=>hnw▸qJ (S.cel _ h rfl)
 obtain⟨W,⟨m0,w0⟩,turn⟩:=w D hD0
 have U0:∀{z:Hp},(∀b∈A,z b=none)->∀b∈A,eR (bU X scope N' (nw++cl) s3.heap.objs.size s3 (au j D (.lst [])) A) [] z b:=λhn b a=>
  ⟨hn b a,KD (by show b<s3.heap.objs.size;rw[z3];exact L5 (UZ b a)),λhf=>I4.ok.exfs b a hf,.inl a,λx c e=>(I4.ok.exf b a).2 x c e,λp hp=>absurd (show p∈([]:List (Addr×Obj))from hp) (by simp)⟩
 have loop:∀M:Shared,M={ s3 with heap:=h4 }->
   codeAny (model X.prog X.w) X.A (.compLoop (.ListComp B [⟨G,f,l,0⟩] scope F) 0 (.ref it) (.ref D) (compEnvC scope (nw++cl) s3.heap.objs.size X.env)) (RR (.ref D) s3.heap.objs.size) M:=by
  rintro M rfl
  refine Df (λn s'=>∃i Q z,Inv (bU X scope N' (nw++cl) s3.heap.objs.size s3 (au j D (.lst [])) A) [] Q z s'/\tn i s'.heap/\(∀b∈A,z b=none)/\W i n Q z) ?_ m0
   ⟨0,eN cap σ,au j D (.lst []),I4,st4,λb a=>(f3 b a).1,w0⟩
  rintro n s5 ⟨i,Y,H5,I5,SK,Uh,w5⟩;rcases turn i n Y H5 w5 with⟨stop,qn⟩|⟨go,N,hN,step⟩
  ·refine aH (T.done (bU X scope N' (nw++cl) s3.heap.objs.size s3 (au j D (.lst [])) A) rfl rfl rfl Oo i [] s5 Y H5 _ I5 (U0 Uh) SK stop) λr s6 Oa=>?_;obtain⟨hr,I6⟩:=Oa;subst hr;obtain⟨m6,hn6,_⟩:=I6.loc;have un:Un (gz X.stack) A (au j D (.lst [])) H5 s3.heap s6.heap:=I6.base;refine hRR D s3.heap.objs.size H5 s6 m6 (KD I3.lt) I3.sz (λx c e=>?_) (λp hp=>?_) I6.free hn6 ?_ qn
   ·obtain⟨v,q⟩:=I3.cell x c e;exact KD q.lt
   ·exact KD (Kk (I3.pin p hp).1)
   ·exact I3.call' I6.os un I6.hok I6.bare λb a=>⟨(f3 b a).2.2.2.1,(f3 b a).2.1,(f3 b a).2.2.2.2.1,(f3 b a).2.2.2.2.2⟩
  ·refine aH (T.item (bU X scope N' (nw++cl) s3.heap.objs.size s3 (au j D (.lst [])) A) rfl rfl rfl Oo i [] s5 Y H5 (λ_ _=>False) I5 (U0 Uh) SK go) λr s6 OC=>?_;obtain⟨u,hr,h6⟩:=OC;subst hr;refine aH h6 λ_ s7 P9=>?_;obtain⟨x,H7,I7,r7,y7,U1,fr7⟩:=P9;have I7':=I7.pinned (U0 fr7) (T.obj _ _ U1);refine aH (hg _ _ _ _ _ s7 Y H7 x u _ I7' r7 (step x H7 y7)) λ_ s8 S7=>?_;obtain⟨Z,H8,I8,q8⟩:=S7;refine aH (ht _ _ _ _ _ s8 Z H8 _ I8 q8) λb s9 UN=>?_;obtain⟨H9,I9,q9⟩:=UN
   have again:∀{R:St}{H9:Hp}{s9:Shared},Inv (bU X scope N' (nw++cl) s3.heap.objs.size s3 (au j D (.lst [])) A) ([]++lq A s7.heap) R H9 s9->N R H9->∃m,m<n/\∃i Q z,Inv (bU X scope N' (nw++cl) s3.heap.objs.size s3 (au j D (.lst [])) A) [] Q z s9/\tn i s9.heap/\(∀b∈A,z b=none)/\W i m Q z:=λ{R H9 s9} I9 n9=>by obtain⟨m',hm,w9⟩:=hN R H9 n9;refine⟨m',hm,i+1,R,H9,I9.unpinned,T.keep _ _ _ U1 λb a o e=>(I9.pin (b,o) (KR _ (KR _ (oB a e)))).1,λb a=>?_,w9⟩;obtain⟨o,e,d⟩:=T.obj _ _ U1 b a;exact (I9.pin (b,o) (KR _ (KR _ (oB a e)))).2.1
   cases b with
   |false=>
    rw[JZ (by decide)]at q9 ⊢;exact again I9 q9
   |true=>
    rw[J9 rfl]at q9 ⊢;refine aH (he _ _ _ _ _ s9 Z H9 _ I9 q9) λyv s10 UO=>?_;obtain⟨y,U2,I10,U3,ys,U4,U5,q10⟩:=UO;refine aH (pM _ s10 Z U2 (.ref D) [y] (.ref D) [yv] (λ_ z=>N Z z) I10 rfl (.cons U3 .nil) ⟨D,ys,y,rfl,rfl,U4,U5,q10⟩) λ_ s11 hq6=>?_;obtain⟨_,H11,I11,_,q11⟩:=hq6;exact again I11 q11
 exact codeAny_compStart_list (loop _ rfl) (T.self _ 0 _ _ _ st4 (loop _ rfl))
def tH(E:X.calm=true)(S:CompScope X.N X.env.scope scope N' cap)(hi:PI X G f O)
  (hg:∀(cl:List (Str×Addr))(a:List Addr)(C:Addr)(p:Shared)(j:Hp),PG (bU X scope N' cl C p j a) G g) (ht:∀(cl:List (Str×Addr))(a:List Addr)(C:Addr)(p:Shared)(j:Hp),jx (bU X scope N' cl C p j a) l L)
  (he:∀(cl:List (Str×Addr))(a:List Addr)(C:Addr)(p:Shared)(j:Hp),PE (bU X scope N' cl C p j a) B K) (hs:∀x,foldedSetIterable f X.env x=pure x:=by intro _;rfl) :
  PE X (.ListComp B [⟨G,f,l,0⟩] scope F) (gB O cap g L K):=by
 intro c s u H Q I h;obtain⟨cl,Y,R,U⟩:=wK (scope:=scope) (env:=X.env) λx hx hf=>I.ok.has x.1 (.inl (S.free x hx hf));rw[eval_ListComp];refine wpAny_comprehension_free (use:=none) rfl hs Y S.kind S.names (aH (hi c s u H _ I h) λv s1 h1=>aH h1 λUg s2 h2=>?_);obtain⟨it,a,tn,J,H2,e,A,T,N,f2,w⟩:=h2;subst e;refine tX (RR:=λr C=>compPost (model X.prog X.w) X.A X.xe none (EP X c u Q) r C) E S (λcl=>hg cl a) (λcl=>ht cl a) (λcl=>he cl a) A T N f2 R U (P:=Q) w ?_;intro D C y s' m' hL hz M Z hC hn z q;refine⟨m',hn,λh' U8=>⟨.ref D,y,z.turned (t':=s'.toks) (λb o hb e=>(U8.2 b hb).trans e) hC (K5 hL) (.inr hz) M Z,rfl,q⟩⟩
def k8{i:Nat}{y:Str}{p Oq:Pos}(Oo:X.calm=true)(hN:X.N.Nodup)(hy:X.N[i]?=some y)(Y:eh X.env.scope y)(S:CompScope X.N X.env.scope scope N' cap)(hi:PI X G f O)
  (hg:∀(cl:List (Str×Addr))(j:List Addr)(C:Addr)(A:Shared)(u:Hp),PG (bU X scope N' cl C A u j) G g) (ht:∀(cl:List (Str×Addr))(j:List Addr)(C:Addr)(A:Shared)(u:Hp),jx (bU X scope N' cl C A u j) l L)
  (he:∀(cl:List (Str×Addr))(j:List Addr)(C:Addr)(A:Shared)(u:Hp),PE (bU X scope N' cl C A u j) B K) (QU:swapsWith (.ListComp B [⟨G,f,l,0⟩] scope F) (some (.Name y p)) Oq.line X.env=pure true:=by rfl)
  (hs:∀x,foldedSetIterable f X.env x=pure x:=by intro _;rfl) (U:X.fn y=true\/X.env.scope.names.lookup y=some .local:=by nofun) :
  PS X (.Assign [.Name y p] (.ListComp B [⟨G,f,l,0⟩] scope F) Oq) (i5 (gB O cap g L K) (iF i)):=by
 intro c s σ H D I h;obtain⟨cl,U6,RL,Sg⟩:=wK (scope:=scope) (env:=X.env) λx Y U=>I.ok.has x.1 (.inl (S.free x Y U));rw[exec_Assign_Name_used _ _ _ _ QU];refine JY (Nn (JY ?_));show wpAny _ X.A (do let _ ←comprehension (.ListComp B [⟨G,f,l,0⟩] scope F) scope X.env _ (newList []) false (eval f X.env) (some (assign (.Name y p) X.env))) _ _ s
 refine JY (LC (wpAny_comprehension_free (use:=some (assign (.Name y p) X.env)) (Q:=λ_ r=>SP X c D .next r) rfl hs U6 S.kind S.names
  (aH (hi c s σ H _ I h) λv s1 h1=>aH h1 λUg s2 h2=>?_)) (λ_ r hq=>Kr (Kr hq)) λ_ _ e=>e)
 obtain⟨it,j,tn,J,H2,e,I2,T,RJ,f2,w⟩:=h2;subst e;refine tX (RR:=λN C=>compPost (model X.prog X.w) X.A X.xe (some (assign (.Name y p) X.env)) (λ_ r=>SP X c D .next r) N C) Oo S (λcl=>hg cl j) (λcl=>ht cl j) (λcl=>he cl j) I2 T RJ f2 RL Sg (P:=λv E=>D.nx (σ.set i (some v)) E) w ?_;intro Z C E r m' hL hz R6 U7 hC hn I' q;show wpAny _ X.A (assign (.Name y p) X.env (.ref Z)) _ _ r;refine wpAny_assign_Name (v9 (v:=.ref Z) I' hN hy Y rfl (λS8 M Tf=>?_) U);obtain⟨a,sb,ha⟩:=Tf
 have R:C≠a:=by
  rcases ha with z|z
  ·rw[z];exact K5 hL
  ·exact K5 (R6 y a z)
 refine⟨m',hn.sameBut sb R,λh' U8=>?_⟩;exact⟨_,E,M.turned (t':=S8.toks) (λb o hb e=>(U8.2 b hb).trans e) hC (K5 hL) (.inr hz) R6 U7,q⟩
end
open AutoSeq1 (wpAny_loadPart')
def Inv.turnedL{X:Cx}{a:List (Addr×Obj)}{l:St}{H:Hp}{s:Shared}{h':Heap}{ch:List Addr}{t':Nat}(I:Inv X a l H s)(k:∀b o,b∉ch->s.heap.get? b=some o->h'.get? b=some o)(g:∀b∈ch,eR X a H b) :
  Inv X a l H { s with heap:=h',toks:=t' }:=by
 have j:∀b u,H b=some u->b∉ch:=λb u e z=>by rw[(g b z).1]at e;cases e
 refine I.step (g':=s.gens) (d':=s.drawn) (ch:=ch) (λb h=>⟨(g b h).2.2.2.1,(g b h).2.1,(g b h).2.2.2.2.1,(g b h).2.2.2.2.2⟩) (λb o _ _ f e _=>k b o f e) (λb o _ _ f e _=>⟨o.slots,k b o f e⟩) (λ_ _ _ _ n=>n)
  (λb o f e=>⟨o,k b o f e⟩) (λ_ _ e=>e) (λ_ _ _ e=>e) (λb ps e=>e) (λm w=>?_) (λb u e=>?_) I.bare
 ·obtain⟨o,es,p,x,r⟩:=w;exact⟨o,es,p,k _ o (λz=>(g _ z).2.1 rfl) x,r⟩
 ·refine (I.hok b u e).stay (λc v f q=>k c v ?_ q) (λ_ q=>q) (λ_ _ q=>q) λ_ _ _ q=>q;rcases f with z|z
  ·rw[z];exact j b u e
  ·exact j c _ z
def SqI(b:Bool)(h:Heap)(c a:Addr)(i:Nat):Prop:=match b with|true=>h.IsListIter c a i|false=>h.IsTupleIter c a i
def SqO(b:Bool)(h:Heap)(a:Addr)(its:Array Value):Prop:=match b with|true=>h.IsList a its|false=>h.IsTuple a its
def SqB(K:Frag)(b:Bool)(H:Hp)(a:Addr)(xs:List V):Prop:=match b with|true=>SqL K H a xs|false=>SqT K H a xs
def c9(b:Bool)(a:Addr):Obj:=match b with
 |true=>{ cls:=.type "list_iterator",data:=.fields #[.ref a,.int 0 0] }
 |false=>{ cls:=.type "tuple_iterator",data:=.fields #[.ref a,.int 0 0] }
def SqI.at{b:Bool}{h h':Heap}{c a:Addr}{i:Nat}(x:SqI b h c a i)(k:∀o,h.get? c=some o->h'.get? c=some o):SqI b h' c a i:=by cases b<;>(obtain⟨o,e,r⟩:=x;exact⟨o,k o e,r⟩)
def SqO.at{b:Bool}{h h':Heap}{a:Addr}{its:Array Value}(x:SqO b h a its)(k:∀o,h.get? a=some o->h'.get? a=some o):SqO b h' a its:=by cases b<;>(obtain⟨o,e,r⟩:=x;exact⟨o,k o e,r⟩)
def SqI.obj{b:Bool}{h:Heap}{c a:Addr}{i:Nat}(x:SqI b h c a i):∃o,h.get? c=some o/\∀v,o.data≠.cell v:=by cases b<;>(obtain⟨o,e,_,d⟩:=x;exact⟨o,e,λv z=>by rw[d]at z;cases z⟩)
def SqI.lt{b:Bool}{h:Heap}{c a:Addr}{i:Nat}(x:SqI b h c a i):c<h.objs.size:=by obtain⟨o,e,_⟩:=x.obj;exact Kk e
def SqO.lt{b:Bool}{h:Heap}{a:Addr}{its:Array Value}(x:SqO b h a its):a<h.objs.size:=by cases b<;>(obtain⟨o,e,_⟩:=x;exact Kk e)
def Inv.sqb{X:Cx}{c:List (Addr×Obj)}{g:St}{H:Hp}{s:Shared}{b:Bool}{a:Addr}{xs:List V}(I:Inv X c g H s)(h:SqB X.K b H a xs):∃its:List Value,Vals xs its/\SqO b s.heap a its.toArray/\xs.length<=sizeLine:=by
 cases b with
 |true=>obtain⟨its,f,p,e⟩:=I.list h;exact⟨its,f,p.isList,e⟩
 |false=>obtain⟨its,f,p,e⟩:=I.tuple h;exact⟨its,f,p,e⟩
def Inv.sqb_inj{X:Cx}{c:List (Addr×Obj)}{e:St}{H:Hp}{s:Shared}{b:Bool}{a:Addr}{xs ys:List V}(I:Inv X c e H s)(h:SqB X.K b H a xs)(h':SqB X.K b H a ys):xs=ys:=by
 cases b with
 |true=>exact I.list_inj h h'
 |false=>exact I.tuple_inj h h'
def SqB.same{K:Frag}{b:Bool}{H c:Hp}{a:Addr}{xs:List V}(e:Same H c)(h:SqB K b H a xs):SqB K b c a xs:=by
 cases b with
 |true=>exact e.seq h
 |false=>
  rcases h with (h|⟨o,h⟩)|h
  ·exact .inl (.inl (e _ _ h))
  ·exact .inl (.inr ⟨o,e _ _ h⟩)
  ·exact .inr h
section
variable{prog:Program}{w:World}{A:Around}{E:Value->Shared->Prop}{s:Shared}
def lb{b:Bool}{a:Addr}{its:Array Value}{Q:Value->Shared->Prop}(h:SqO b s.heap a its)(q:Q (.ref s.heap.objs.size) { s with heap:=s.heap.push (c9 b a) }):wpAny (model prog w) A (pyIter (.ref a)) Q E s:=by
 cases b with
 |true=>exact ML h q
 |false=>exact Md h q
def jO{b:Bool}{h:Heap}{c a:Addr}(e:h.get? c=some (c9 b a)):SqI b h c a 0:=by cases b<;>exact⟨_,e,rfl,rfl⟩
def nP{b:Bool}{e a:Addr}{i:Nat}{its:Array Value}{x:Value}{Q:Value->Shared->Prop}(c:SqI b s.heap e a i)(h:SqO b s.heap a its)(j:its[i]?=some x)
  (g:∀h',SqI b h' e a (i+1)->Heap.SameBut e s.heap h'->Q x { s with heap:=h' }):wpAny (model prog w) A (Builtin.SmallTypes.nextOf (.ref e)) Q E s:=by
 cases b with
 |true=>exact wpAny_nextOf_list_item c h j g
 |false=>
  have c:s.heap.IsTupleIter e a i:=c;obtain⟨o,f,r,hd⟩:=id c;obtain⟨u,l,_,nl,p⟩:=h;unfold Builtin.SmallTypes.nextOf;refine JY (LM (name:=Str.ofString "__next__") c.typeIs L3 (Mo L3 c.typeIs Ni ?_ (Nb _)));show wpAny _ _ (field (.ref e) 0 >>= _) _ _ s;refine JY (Lx f hd (x:=.ref a) rfl ?_);show wpAny _ _ (if (Value.ref a==Value.none)=true then _ else _) _ _ s;rw[JZ (show ¬ ((Value.ref a==Value.none)=true)from KG)];show wpAny _ _ (field (.ref e) 1 >>= _) _ _ s;refine JY (Lx f hd (x:=.int i 0) rfl ?_);show wpAny _ _ (seqItems? (.ref a) >>= _) _ _ s;refine JY (LS l p ?_);simp only[K0,j];refine JY (wpAny_setField f hd (by simp) (Kr ⟨x,rfl,Kr (g _ ?_ (Heap.SameBut.update ..))⟩));exact⟨_,Heap.get?_update_self _ f (Obj.isFreed_of_fields (Obj.data_mapFields hd _)),(Obj.cls_mapFields ..).trans r,by rw[Obj.data_mapFields hd];simp[rawInt]⟩
def oM{b:Bool}{f a:Addr}{i:Nat}{its:Array Value}{Q:Value->Shared->Prop}(g:A.handled=none)(c:SqI b s.heap f a i)(l:SqO b s.heap a its)(p:its[i]?=none)
  (j:∀h' e,Heap.ExtBut f s.heap h'->(∃o,h'.get? e=some o/\o.cls=.type "StopIteration")->E (.ref e) { s with heap:=h' }):wpAny (model prog w) A (Builtin.SmallTypes.nextOf (.ref f)) Q E s:=by
 cases b with
 |true=>exact wpAny_nextOf_list_end g c l p j
 |false=>
  have c:s.heap.IsTupleIter f a i:=c;obtain⟨o,h,v,hd⟩:=id c;obtain⟨y,r,_,nl,u⟩:=l;unfold Builtin.SmallTypes.nextOf;refine JY (LM (name:=Str.ofString "__next__") c.typeIs L3 (Mo L3 c.typeIs Ni ?_ (Nb _)));show wpAny _ _ (field (.ref f) 0 >>= _) _ _ s;refine JY (Lx h hd (x:=.ref a) rfl ?_);show wpAny _ _ (if (Value.ref a==Value.none)=true then _ else _) _ _ s;rw[JZ (show ¬ ((Value.ref a==Value.none)=true)from KG)];show wpAny _ _ (field (.ref f) 1 >>= _) _ _ s;refine JY (Lx h hd (x:=.int i 0) rfl ?_);show wpAny _ _ (seqItems? (.ref a) >>= _) _ _ s;refine JY (LS r u ?_);simp only[K0,p];refine JY (wpAny_rule (JY (wpAny_setField h hd (by simp) ?_)));show wpAny _ _ (newExc (.type "StopIteration") [] >>= _) _ _ _;refine JY ?_;simp only[newExc,newTuple];refine JY (Nq ?_ (by size_fits));refine JY (m:=firstArgMember _ _) (wpAny_of_eq (a:=Value.none) (by first|rfl|(simp only[firstArgMember];rfl)) ?_);refine Nq ?_ (by size_fits);simp only[raiseNew];refine JY (wpAny_handled ?_)
  first|rw[show A.in1.handled=none from g]|rw[g]
  refine JY (Kr (wpAny_throw ?_));exact j _ _ (((Heap.SameBut.update ..).extBut.push _).push _) ⟨_,Ke _ rfl,rfl⟩
def CZ(p:A.handled=none)(b:Bool)(c a:Addr)(g:a≠c)(its:Array Value):Draws prog w A c [c,a] its.size (λi v=>its[i]?=some v) (λi h=>SqI b h c a i/\SqO b h a its) where
 live:=λ_ _ st=>let ⟨o,e,_⟩:=st.1.obj;⟨o,e⟩
 frame:=λ_ _ _ st k=>⟨st.1.at λo e=>k c (by simp) o e,st.2.at λo e=>k a (by simp) o e⟩
 item:=λi s Q E f st l=>nP st.1 st.2 (x:=its[i]) (by simp[f]) λh' q sb=>l _ h' s.toks (by simp[f]) ⟨q,st.2.at λo e=>(sb.2 a g).trans e⟩ sb
 done:=λs Q E st j=>oM p st.1 st.2 (by simp) j
def GZ(l:Addr)(a:Array Value)(n:Nat)(dct:Option Addr)(sl:Array (Option Value)) :
  Meets (Builtin.«enumerate.__new__» ⟨[.type "enumerate",.ref l],[]⟩) (λ_ R s=>s.heap.get? l=some { cls:=.type "tuple",dict:=dct,data:=.seq a n,slots:=sl } /\
   R (.ok (.ret (.ref (s.heap.push (c9 false l)).objs.size)))
    { s with heap:=(s.heap.push (c9 false l)).push { cls:=.type "enumerate",data:=.fields #[.none,.bool false,.ref s.heap.objs.size,rawInt 0,.none,.none] } }):=
 .of_wp λprog w A R s h=>by
  obtain⟨j,g,d,o,os⟩:=s;obtain⟨e,h⟩:=h;have p:=sub_enumerate;have f:Heap.IsTuple (Shared.heap ⟨j,g,d,o,os⟩) l a:=⟨_,e,rfl,n,rfl⟩
  wp_walk using K2 e
  refine wpAny_stack_any λst=>Kr ?_;split
  ·rename_i c _ _ _ _ _;cases (c==Value.type "enumerate")
   ·(wp_walk using K2 e,Md f);exact⟨_,rfl,h⟩
   ·(wp_walk using K2 e,Md f);exact⟨_,rfl,h⟩
  ·(wp_walk using K2 e,Md f);exact⟨_,rfl,h⟩
def DT{b:Bool}{l:Addr}{a:Array Value}{Q:Value->Shared->Prop}(j:SqO b s.heap l a)
  (h:∀h',IsEnum h' (s.heap.objs.size+1) s.heap.objs.size 0 .none->SqI b h' s.heap.objs.size l 0->h'.objs.size=s.heap.objs.size+2->(∀b o,s.heap.get? b=some o->h'.get? b=some o)->Q (.ref (s.heap.objs.size+1)) { s with heap:=h' }) :
  wpAny (model prog w) A (call (.type "enumerate") [.ref l]) Q E s:=by
 cases b with
 |true=>exact call_enumerate_list j h
 |false=>
  obtain⟨⟨c,dct,p,sl⟩,u,e,n,hd⟩:=j;replace e:c=.type "tuple":=e;replace hd:p=.seq a n:=hd;subst e hd;refine callType_new F.called_enumerate (by decide) (F.typeCall_enumerate_1 _) (F.newCall_enumerate_1 _) (λobj=>F.args_object_init_2 obj _) F.entry_enumerate_new (GZ l a n dct sl) ⟨u,?_⟩;have g:(s.heap.push (c9 false l)).objs.size=s.heap.objs.size+1:=KS ..;show _/\_;rw[g];have f:=Ke (s.heap.push (c9 false l)) (o:={ cls:=.type "enumerate",data:=.fields #[.none,.bool false,.ref s.heap.objs.size,rawInt 0,.none,.none] }) rfl;rw[g]at f;have r:(s.heap.push (c9 false l)).get? s.heap.objs.size=some (c9 false l):=Ke _ rfl;exact⟨⟨_,f,rfl⟩,h _ f (jO (J4 _ r)) (by rw[KS,g]) λb o x=>J4 _ (J4 _ x)⟩
def Ii{b:Bool}{e c a:Addr}{i:Nat}{j:Int}{its:Array Value}{h:Value}{Q:Option Value->Shared->Prop}(y:A.handled=none)(p:IsEnum s.heap e c j h)(g:SqI b s.heap c a i)(z:SqO b s.heap a its)(C:its[i]?=none)
  (u:∀h',Heap.ExtBut c s.heap h'->Q none { s with heap:=h' }):wpAny (model prog w) A (pyNext (.ref e)) Q E s:=by
 have l:s.TypeIs (.ref e) "enumerate":=⟨_,p,rfl⟩;unfold pyNext;refine JY (wpAny_attempt (LM (name:=Str.ofString "__next__") l F.slot_enumerate_next (Mo F.slot_enumerate_next l F.entry_enumerate_next ?_ (F.args_enumerate_next_1 _))));show wpAny _ _ (field (.ref e) 2 >>= _) _ _ _;refine JY (Lx p rfl (x:=.ref c) rfl (JY (oM y g z C λh' x f r=>?_)));obtain⟨o,B,v⟩:=r;exact JY (wpAny_isInstance (T:="StopIteration") (b:=true) ⟨o,B,v⟩ isSubtype_stop (Kr (u _ f)))
end
def nG(K:Frag)(b:Bool)(a:Addr):It:=
 ⟨λi H=>∃xs x,SqB K b H a xs/\xs[i]?=some x,λi H x c=>∃t y,H t=none/\x=.ref t/\c=au H t (.tup [.int i,y])/\∀xs,SqB K b H a xs->xs[i]?=some y,λi H=>∃xs,SqB K b H a xs/\xs.length<=i⟩
def BE{P:Program}{w:World}{K:Frag}{es:List Expr}{k:Nat}{Z:Pos}(b:Bool)(a e j:Addr)(L:e≠j):Turn P w K (.Tuple es k Z) (nG K b a) [e,j] e (λi h=>(∃g,IsEnum h e j i g)/\SqI b h j a i) where
 mem:=by simp
 obj:=λi h st c f=>by
  obtain⟨⟨g,l⟩,A⟩:=st;rcases Kd.mp f with rfl|f
  ·exact⟨_,l,λv z=>by have z':Data.fields _=Data.cell v:=z;cases z'⟩
  ·rw[J5.mp f];exact A.obj
 keep:=λi h h' st k=>by obtain⟨⟨g,l⟩,A⟩:=st;exact⟨⟨g,k e (by simp) _ l⟩,A.at λo q=>k j (by simp) o q⟩
 item:=by
  intro X R U Q f i r s σ H E I G st T;subst R U Q;obtain⟨xs,x,J,hx⟩:=T;obtain⟨⟨g,l⟩,A⟩:=st;obtain⟨its,rv,p,hz⟩:=I.sqb J;obtain⟨u,hu,ru⟩:=rv.get hx
  have OH:a≠j:=λz=>by
   subst z
   have N:=p;have O:=A
   cases b<;>(obtain⟨o1,F,M,_⟩:=N;obtain⟨o2,e2,c2,_⟩:=O;rw[F]at e2;cases e2;rw[M]at c2;exact absurd c2 (by simp))
  have Vd:a≠e:=λz=>by
   subst z;have N:=p;cases b<;>(obtain⟨o1,F,M,_⟩:=N;rw[l]at F;cases F;exact absurd M (by simp))
  have Qq:i<its.toArray.size:=by have:i<its.length:=(K1.mp hu).1;simpa using this
  have hh:X.A.in1.handled=none:=I.ok.hd f;refine wpAny_pyNext_enum_itemD (CZ hh b j a OH its.toArray) l ⟨A,p⟩ Qq L (by simp[L,K5 Vd]) λy h' C B ho OS hT hsz hk=>?_
  have Y:y=u:=by
   have:its.toArray[i]?=some u:=by simpa using hu
   rw[this]at B;exact (Kv B).symm
  subst Y;refine⟨.ref s.heap.objs.size,rfl,wpAny_letOwnedTupleGo_enum ho λO Uq O4=>?_⟩;have zn:H s.heap.objs.size=none:=I.fresh
  have I1:Inv X r σ (au H s.heap.objs.size (.tup [.int i,x])) { s with heap:=s.heap.push { cls:=.type "tuple",data:=.seq #[.int i C,y] },toks:=C }:=
   I.laid (λc o q=>J4 _ q) (J3 _) ⟨by show 2<=sizeLine;decide,[.int i C,y],.cons ⟨C,rfl⟩ (.cons ru .nil),_,Ke _ rfl,⟨rfl,rfl⟩,0,rfl⟩
  have Ve:∀c∈[e,j],c<s.heap.objs.size:=λc f=>by
   rcases Kd.mp f with rfl|f
   ·exact Kk l
   ·rw[J5.mp f];exact A.lt
  have f1:∀c∈[e,j],eR X r (au H s.heap.objs.size (.tup [.int i,x])) c:=λc f=>⟨by rw[ba (KD (Ve c f))];exact (G c f).1,(G c f).2⟩;have I2:=I1.turnedL (h':=O) (ch:=[e,j]) (t':=C+1) (λc o f q=>?_) f1
  ·refine⟨.ref s.heap.objs.size,_,I2,rfl,⟨s.heap.objs.size,x,zn,rfl,rfl,λys Y=>by rwa[I.sqb_inj Y J]⟩,⟨⟨_,by simpa using Uq⟩,OS.1.at λo q=>(O4.2 j (K5 L)).trans q⟩,λc f=>(f1 c f).1⟩
  ·have RM:c≠e:=λz=>f (by simp[z]);have S:c≠j:=λz=>f (by simp[z]);refine (O4.2 c RM).trans ?_;rcases Heap.get?_push_cases q with⟨z,z'⟩|q'
   ·subst z;subst z';exact hT
   ·exact hk c o RM S q'
 done:=by
  intro X R U Q f i r s σ H E I G st T;subst R U Q;obtain⟨xs,J,hx⟩:=T;obtain⟨⟨g,l⟩,A⟩:=st;obtain⟨its,rv,p,hz⟩:=I.sqb J;have hl:=rv.length;refine Ii (I.ok.hd f) l A p (by simp;omega) λh' eb=>⟨rfl,?_⟩;exact I.turnedL (ch:=[e,j]) (t':=s.toks) (λc o f q=>eb c o (λz=>f (by simp[z])) q) G
 self:=λ_ _ _ _ _ st h=>by obtain⟨⟨g,l⟩,_⟩:=st;exact wpAny_pyIter_enum l h
end L2
namespace L2
open PySem PySem.Spec PyProof.Rows
open AutoSeq1 (wpAny_loadPart')
structure ZAp(z TI TO i1 i2:Addr):Prop where
 a1:TI≠z
 a2:TO≠z
 a3:i1≠z
 a4:i2≠z
 a5:TI≠TO
 a6:TI≠i1
 a7:TI≠i2
 a8:TO≠i1
 a9:TO≠i2
 a0:i1≠i2
def SqI.but{b:Bool}{h h':Heap}{f a c:Addr}{i:Nat}(x:SqI b h f a i)(s:Heap.SameBut c h h')(n:f≠c):SqI b h' f a i:=x.at λo e=>(s.2 f n).trans e
def SqO.but{b:Bool}{h h':Heap}{a c:Addr}{its:Array Value}(x:SqO b h a its)(s:Heap.SameBut c h h')(n:a≠c):SqO b h' a its:=x.at λo e=>(s.2 a n).trans e
def SqO.ne{b:Bool}{h:Heap}{a c:Addr}{its:Array Value}{o:Obj}(x:SqO b h a its)(e:h.get? c=some o)(n1:o.cls≠.type "list")(n2:o.cls≠.type "tuple"):a≠c:=λz=>by
 subst z;cases b<;>(obtain⟨o',g,f,_⟩:=x;rw[e]at g;cases g)
 ·exact n2 f
 ·exact n1 f
def SqO.ne_it{b f:Bool}{h:Heap}{a g l:Addr}{its:Array Value}{i:Nat}(x:SqO b h a its)(y:SqI f h g l i):a≠g:=by cases f<;>(obtain⟨o,e,c,_⟩:=y;exact x.ne e (by rw[c];simp) (by rw[c];simp))
section
variable{prog:Program}{w:World}{A:Around}{E:Value->Shared->Prop}{s:Shared}
def oC{c z t a b:Addr}(h:c∉[z,t,a,b]):c≠z/\c≠t/\c≠a/\c≠b:=by simpa using h
def lH(z t u a b:Addr):z∈[z,t,u,a,b]/\t∈[z,t,u,a,b]/\u∈[z,t,u,a,b]/\a∈[z,t,u,a,b]/\b∈[z,t,u,a,b]:=by simp
def xc{z t u a b x:Addr}(h:x∈[z,u,a,b]):x∈[z,t,u,a,b]:=(List.Sublist.cons₂ z (.cons t (.refl _))).subset h
def G7{I J:Bool}{z TI TO g h r l:Addr}{M N:Nat}{xs ys:Array Value}{x y a b:Value}{Q:Value->Shared->Prop}(D:ZAp z TI TO g h)
  (j:IsZip s.heap z TI TO .none) (Sh:IsPair s.heap TI (.ref g) (.ref h)) (Si:IsPair s.heap TO a b) (n1:r≠TO) (n2:l≠TO)
  (h1:SqI I s.heap g r M) (h2:SqI J s.heap h l N) (PB:SqO I s.heap r xs) (R:SqO J s.heap l ys) (hx:xs[M]?=some x) (hy:ys[N]?=some y)
  (hQ:∀h',IsZip h' z TI TO (rawInt s.heap.objs.size)->IsPair h' TO x y->SqI I h' g r (M+1)->SqI J h' h l (N+1)->IsPair h' s.heap.objs.size x y->h'.objs.size=s.heap.objs.size+1->
   (∀c o,c∉[z,TO,g,h]->s.heap.get? c=some o->h'.get? c=some o)->Q (.ref s.heap.objs.size) { s with heap:=h' }) :
  wpAny (model prog w) A (Builtin.«zip.__next__» ⟨[.ref z],[]⟩) (λS s'=>∃v,S=.done (.ret v)/\Q v s') E s:=by
 have T:r≠z:=PB.ne j (by simp) (by simp);have U:l≠z:=R.ne j (by simp) (by simp);have F:l≠g:=R.ne_it h1;show wpAny _ _ (field (.ref z) 2 >>= _) _ _ _;refine JY (Lx j rfl (x:=.bool false) rfl ?_);show wpAny _ _ (field (.ref z) 3 >>= _) _ _ _;refine JY (Lx j rfl (x:=.ref TI) rfl (JY (LS Sh rfl ?_)));show wpAny _ _ (Builtin.SmallTypes.ownedTupleIsFree (.ref z) >>= _) _ _ _;refine JY ?_;unfold Builtin.SmallTypes.ownedTupleIsFree;refine JY (Lx j rfl (x:=.none) rfl (Kr ?_));simp only[Nx];refine JY (wpAny_rule (JY (Lx j rfl (x:=.ref TO) rfl (JY (LW j (by simp) λg1 z1 p=>?_)))));replace z1:IsZip g1 z TI TO .ellipsis:=z1;refine JY ?_;simp only[List.zipIdx_cons,List.zipIdx_nil,M5,NU];refine JY (JY (Np ?_));show wpAny _ _ (Builtin.SmallTypes.nextOf (.ref g) >>= _) _ _ _;refine JY (nP (h1.but p D.a3) (PB.but p T) hx λg2 p2 u=>Kr ?_);have t2:IsPair g2 TO a b:=u.extBut _ _ D.a8 (p.extBut _ _ D.a2 Si);refine JY (LS t2 rfl (JY (M6 t2 λg3 Z B=>JY (wpAny_letGo (Kr ?_)))));replace Z:IsPair g3 TO x b:=Z;refine JY (JY (Np ?_));show wpAny _ _ (Builtin.SmallTypes.nextOf (.ref h) >>= _) _ _ _;refine JY (nP (((h2.but p D.a4).but u D.a0.symm).but B D.a9.symm) (((R.but p U).but u F).but B n2) hy λg4 p4 G=>Kr ?_);have t4:IsPair g4 TO x b:=G.extBut _ _ D.a9 Z;refine JY (LS t4 rfl (JY (M6 t4 λf O H=>JY (wpAny_letGo (Kr (Kr ?_))))));replace O:IsPair f TO x y:=O;refine JY (LS O rfl (JY (wpAny_newTuple ?_)))
 have sz:f.objs.size=s.heap.objs.size:=by rw[H.1,G.1,B.1,u.1,p.1]
 have z5:IsZip f z TI TO .ellipsis:=H.extBut _ _ D.a2.symm (G.extBut _ _ D.a4.symm (B.extBut _ _ D.a2.symm (u.extBut _ _ D.a3.symm z1)))
 have k5:∀c o,c∉[z,TO,g,h]->s.heap.get? c=some o->f.get? c=some o:=λc o L e=>by obtain⟨K,c2,c3,c4⟩:=oC L;exact H.extBut _ _ c2 (G.extBut _ _ c4 (B.extBut _ _ c2 (u.extBut _ _ c3 (p.extBut _ _ K e))))
 have q1:SqI I f g r (M+1):=((p2.but B D.a8.symm).but G D.a0).but H D.a8.symm;have q2:SqI J f h l (N+1):=p4.but H D.a9.symm;show wpAny _ _ (Builtin.SmallTypes.ownedTupleHandOut (.ref z) (.ref f.objs.size) >>= _) _ _ _;refine JY ?_;unfold Builtin.SmallTypes.ownedTupleHandOut;have z6:IsZip (f.push { cls:=.type "tuple",data:=.seq #[x,y] }) z TI TO .ellipsis:=J4 _ z5;refine JY (LW z6 (by simp) λg7 z7 X=>?_);replace z7:IsZip g7 z TI TO (rawInt f.objs.size):=z7;refine LW z7 (by simp) λC P Y=>?_;replace P:IsZip C z TI TO (rawInt f.objs.size):=P;have up:∀c o,c≠z->f.get? c=some o->C.get? c=some o:=λc o K e=>Y.extBut _ _ K (X.extBut _ _ K (J4 _ e));have zl:f.objs.size≠z:=N4 (Kk z5);have t8:IsPair C f.objs.size x y:=Y.extBut _ _ zl (X.extBut _ _ zl (Ke _ rfl))
 have e8:C.objs.size=f.objs.size+1:=by rw[Y.1,X.1,KS]
 rw[sz]at P t8 e8;refine Kr ⟨_,rfl,?_⟩;show Q (.ref f.objs.size) _;rw[sz];exact hQ C P (up _ _ D.a2 O) (q1.at λo e=>up _ o D.a3 e) (q2.at λo e=>up _ o D.a4 e) t8 e8 λc o L e=>up c o (oC L).1 (k5 c o L e)
def G2{Y Z:Bool}{z TI TO r y G C:Addr}{S T:Nat}{xs ys:Array Value}{a b:Value}{Q:Fin->Shared->Prop}(hh:A.handled=none)(D:ZAp z TI TO r y)
  (l:IsZip s.heap z TI TO .none) (Sh:IsPair s.heap TI (.ref r) (.ref y)) (Si:IsPair s.heap TO a b) (n1:G≠TO) (n2:C≠TO)
  (N:SqI Y s.heap r G S) (h2:SqI Z s.heap y C T) (I:SqO Y s.heap G xs) (J:SqO Z s.heap C ys) (Pn:xs[S]?=none\/ys[T]?=none)
  (hE:∀h' e,(∀c o,c∉[z,TO,r,y]->s.heap.get? c=some o->h'.get? c=some o)->(∃o,h'.get? e=some o/\o.cls=.type "StopIteration")->E (.ref e) { s with heap:=h' }) :
  wpAny (model prog w) A (Builtin.«zip.__next__» ⟨[.ref z],[]⟩) Q E s:=by
 have B:G≠z:=I.ne l (by simp) (by simp);have U:C≠z:=J.ne l (by simp) (by simp);have F:C≠r:=J.ne_it N;show wpAny _ _ (field (.ref z) 2 >>= _) _ _ _;refine JY (Lx l rfl (x:=.bool false) rfl ?_);show wpAny _ _ (field (.ref z) 3 >>= _) _ _ _;refine JY (Lx l rfl (x:=.ref TI) rfl (JY (LS Sh rfl ?_)));show wpAny _ _ (Builtin.SmallTypes.ownedTupleIsFree (.ref z) >>= _) _ _ _;refine JY ?_;unfold Builtin.SmallTypes.ownedTupleIsFree;refine JY (Lx l rfl (x:=.none) rfl (Kr ?_));simp only[Nx];refine JY (wpAny_rule (JY (Lx l rfl (x:=.ref TO) rfl (JY (LW l (by simp) λg1 H f=>?_)))));replace H:IsZip g1 z TI TO .ellipsis:=H;refine JY ?_;simp only[List.zipIdx_cons,List.zipIdx_nil,M5,NU];refine JY (JY (Np ?_));show wpAny _ _ (Builtin.SmallTypes.nextOf (.ref r) >>= _) _ _ _
 cases R:xs[S]? with
 |none=>
  refine JY (oM hh (N.but f D.a3) (I.but f B) R λM e g P=>?_);obtain⟨X,j,u⟩:=P;have z2:IsZip M z TI TO .ellipsis:=g _ _ D.a3.symm H
  have L:e≠z:=λq=>by subst q;rw[z2]at j;cases j;simp at u
  refine LW z2 (by simp) λg3 _ p=>hE g3 e (λc o O q=>?_) ⟨X,p.extBut _ _ L j,u⟩;obtain⟨v,c2,K,c4⟩:=oC O;exact p.extBut _ _ v (g _ _ K (f.extBut _ _ v q))
 |some x=>
  have hy:ys[T]?=none:=by
   rcases Pn with h|h
   ·rw[R]at h;cases h
   ·exact h
  refine JY (nP (N.but f D.a3) (I.but f B) R λM p2 g=>Kr ?_);have t2:IsPair M TO a b:=g.extBut _ _ D.a8 (f.extBut _ _ D.a2 Si);refine JY (LS t2 rfl (JY (M6 t2 λg3 t3 p=>JY (wpAny_letGo (Kr ?_)))));refine JY (JY (Np ?_));show wpAny _ _ (Builtin.SmallTypes.nextOf (.ref y) >>= _) _ _ _;refine JY (oM hh (((h2.but f D.a4).but g D.a0.symm).but p D.a9.symm) (((J.but f U).but g F).but p n2) hy λg4 e s4 P=>?_);obtain⟨X,j,u⟩:=P;have z4:IsZip g4 z TI TO .ellipsis:=s4 _ _ D.a4.symm (p.extBut _ _ D.a2.symm (g.extBut _ _ D.a3.symm H))
  have L:e≠z:=λq=>by subst q;rw[z4]at j;cases j;simp at u
  refine LW z4 (by simp) λg5 _ s5=>hE g5 e (λc o O q=>?_) ⟨X,s5.extBut _ _ L j,u⟩;obtain⟨v,c2,K,c4⟩:=oC O;exact s5.extBut _ _ v (s4 _ _ c4 (p.extBut _ _ c2 (g.extBut _ _ K (f.extBut _ _ v q))))
def zD(c l:Bool)(a j:Addr)(xs ys:Array Value) :
  Meets (Builtin.«zip.__new__» ⟨[.type "zip",.ref a,.ref j],[]⟩) (λ_ R s=>SqO c s.heap a xs/\SqO l s.heap j ys /\
   R (.ok (.ret (.ref (s.heap.objs.size+4)))) { s with heap:=((((s.heap.push (c9 c a)).push (c9 l j)).push { cls:=.type "tuple",data:=.seq #[.ref s.heap.objs.size,.ref (s.heap.objs.size+1)] }).push { cls:=.type "tuple",data:=.seq #[.none,.none] }).push { cls:=.type "zip",data:=.fields #[.none,.bool false,.bool false,.ref (s.heap.objs.size+2),.ref (s.heap.objs.size+3)] } }):=
 .of_wp λprog w A R s h=>by
  obtain⟨f,g,d,u,os⟩:=s;obtain⟨v,x,h⟩:=h;have z:=sub_zip;have p:SqO c (Shared.heap ⟨f,g,d,u,os⟩) a xs:=v;have r:SqO l (Shared.heap ⟨f.push (c9 c a),g,d,u,os⟩) j ys:=SqO.at x λo e=>J4 _ e
  wp_walk using lb p,lb r
  have y:(f.push (c9 c a)).objs.size=f.objs.size+1:=KS ..
  have B:((f.push (c9 c a)).push (c9 l j)).objs.size=f.objs.size+2:=by rw[KS,y]
  refine⟨_,rfl,?_⟩;simp only[KS];exact h
def AX{a f:Bool}{e g:Addr}{xs ys:Array Value}{Q:Value->Shared->Prop}(K:SqO a s.heap e xs)(L:SqO f s.heap g ys)
  (h:∀h',IsZip h' (s.heap.objs.size+4) (s.heap.objs.size+2) (s.heap.objs.size+3) .none->IsPair h' (s.heap.objs.size+2) (.ref s.heap.objs.size) (.ref (s.heap.objs.size+1))->IsPair h' (s.heap.objs.size+3) .none .none->
   SqI a h' s.heap.objs.size e 0->SqI f h' (s.heap.objs.size+1) g 0->(∀c o,s.heap.get? c=some o->h'.get? c=some o)->Q (.ref (s.heap.objs.size+4)) { s with heap:=h' }) :
  wpAny (model prog w) A (call (.type "zip") [.ref e,.ref g]) Q E s:=by
 refine callType_new F.called_zip (by decide) (F.typeCall_zip_2 _ _) (F.newCall_zip_2 _ _) (λobj=>F.args_object_init_3 obj _ _) F.entry_zip_new (zD a f e g xs ys) ⟨K,L,?_⟩
 have R:(c9 a e).isFreed=false:=by cases a<;>rfl
 have S:(c9 f g).isFreed=false:=by cases f<;>rfl
 have I:(s.heap.push (c9 a e)).objs.size=s.heap.objs.size+1:=KS ..
 have C:((s.heap.push (c9 a e)).push (c9 f g)).objs.size=s.heap.objs.size+2:=by rw[KS,I]
 generalize x:(s.heap.push (c9 a e)).push (c9 f g)=j at C ⊢
 have M:j.get? s.heap.objs.size=some (c9 a e):=by rw[←x];exact J4 _ (Ke _ R)
 have N:j.get? (s.heap.objs.size+1)=some (c9 f g):=by rw[←x,←I];exact Ke _ S
 have T:∀c o,s.heap.get? c=some o->j.get? c=some o:=λc o q=>by rw[←x];exact J4 _ (J4 _ q)
 generalize y:j.push { cls:=.type "tuple",data:=.seq #[.ref s.heap.objs.size,.ref (s.heap.objs.size+1)] }=l
 have J:l.objs.size=s.heap.objs.size+3:=by rw[←y,KS,C]
 have O:IsPair l (s.heap.objs.size+2) (.ref s.heap.objs.size) (.ref (s.heap.objs.size+1)):=by rw[←y,←C];exact Ke _ rfl
 have B:∀c o,j.get? c=some o->l.get? c=some o:=λc o q=>by rw[←y];exact J4 _ q
 generalize z:l.push { cls:=.type "tuple",data:=.seq #[.none,.none] }=p
 have U:p.objs.size=s.heap.objs.size+4:=by rw[←z,KS,J]
 have P:IsPair p (s.heap.objs.size+3) .none .none:=by rw[←z,←J];exact Ke _ rfl
 have v:∀c o,l.get? c=some o->p.get? c=some o:=λc o q=>by rw[←z];exact J4 _ q
 generalize r:p.push { cls:=.type "zip",data:=.fields #[.none,.bool false,.bool false,.ref (s.heap.objs.size+2),.ref (s.heap.objs.size+3)] }=H
 have G:IsZip H (s.heap.objs.size+4) (s.heap.objs.size+2) (s.heap.objs.size+3) .none:=by rw[←r,←U];exact Ke _ rfl
 have u:∀c o,p.get? c=some o->H.get? c=some o:=λc o q=>by rw[←r];exact J4 _ q
 show _/\_;exact⟨⟨_,G,rfl⟩,h _ G (u _ _ (v _ _ O)) (u _ _ P) (jO (u _ _ (v _ _ (B _ _ M)))) (jO (u _ _ (v _ _ (B _ _ N)))) λc o q=>u _ _ (v _ _ (B _ _ (T _ _ q)))⟩
def Ab{j l:Bool}{z TI TO e f g h:Addr}{p r:Nat}{xs ys:Array Value}{x y a b:Value}{Q:Option Value->Shared->Prop}(D:ZAp z TI TO e f)
  (v:IsZip s.heap z TI TO .none) (G:IsPair s.heap TI (.ref e) (.ref f)) (H:IsPair s.heap TO a b) (n1:g≠TO) (n2:h≠TO)
  (P:SqI j s.heap e g p) (R:SqI l s.heap f h r) (B:SqO j s.heap g xs) (C:SqO l s.heap h ys) (T:xs[p]?=some x) (U:ys[r]?=some y)
  (S:∀h',IsZip h' z TI TO (rawInt s.heap.objs.size)->IsPair h' TO x y->SqI j h' e g (p+1)->SqI l h' f h (r+1)->IsPair h' s.heap.objs.size x y->h'.objs.size=s.heap.objs.size+1->
   (∀c o,c∉[z,TO,e,f]->s.heap.get? c=some o->h'.get? c=some o)->Q (some (.ref s.heap.objs.size)) { s with heap:=h' }):wpAny (model prog w) A (pyNext (.ref z)) Q E s:=by
 have u:s.TypeIs (.ref z) "zip":=⟨_,v,rfl⟩;unfold pyNext
 exact JY (wpAny_attempt (LM (name:=Str.ofString "__next__") u M7 (Mo M7 u F.entry_zip_next
  (G7 D v G H n1 n2 P R B C T U λh' I J K L M N O=>Kr (S h' I J K L M N O)) (F.args_zip_next_1 _))))
def Ge{l p:Bool}{z TI TO f g h j:Addr}{v x:Nat}{xs ys:Array Value}{a b:Value}{Q:Option Value->Shared->Prop}(N:A.handled=none)(D:ZAp z TI TO f g)
  (u:IsZip s.heap z TI TO .none) (G:IsPair s.heap TI (.ref f) (.ref g)) (H:IsPair s.heap TO a b) (n1:h≠TO) (n2:j≠TO)
  (I:SqI l s.heap f h v) (J:SqI p s.heap g j x) (y:SqO l s.heap h xs) (B:SqO p s.heap j ys) (C:xs[v]?=none\/ys[x]?=none)
  (K:∀h',(∀c o,c∉[z,TO,f,g]->s.heap.get? c=some o->h'.get? c=some o)->Q none { s with heap:=h' }):wpAny (model prog w) A (pyNext (.ref z)) Q E s:=by
 have r:s.TypeIs (.ref z) "zip":=⟨_,u,rfl⟩;unfold pyNext;refine JY (wpAny_attempt (LM (name:=Str.ofString "__next__") r M7 (Mo M7 r F.entry_zip_next (G2 N D u G H n1 n2 I J y B C λh' e O M=>?_) (F.args_zip_next_1 _))));obtain⟨o,P,L⟩:=M;exact JY (wpAny_isInstance (T:="StopIteration") (b:=true) ⟨o,P,L⟩ isSubtype_stop (Kr (K _ O)))
end
def Inv.sqb_ne{X:Cx}{g:List (Addr×Obj)}{p:St}{H:Hp}{s:Shared}{b:Bool}{a c:Addr}{xs:List V}(I:Inv X g p H s)(h:SqB X.K b H a xs)(f:eR X g H c):a≠c:=λz=>by
 subst z
 have l:∀o,X.K.lookup a=some o->False:=λo e=>by
  have j:=I.mod.kin a o e;rcases f.2.2.2.1 with q|q
  ·exact I.ok.noex a o j q
  ·exact absurd (KJ (Kk j) (Kl I.ok.bsz q)) (Lw _)
 cases b with
 |true=>
  rcases h with (h|⟨o,h⟩)|⟨o,_,_,h,_⟩
  ·rw[f.1]at h;cases h
  ·rw[f.1]at h;cases h
  ·exact l o h
 |false=>
  rcases h with (h|⟨o,h⟩)|⟨o,_,_,h,_⟩
  ·rw[f.1]at h;cases h
  ·rw[f.1]at h;cases h
  ·exact l o h
def qf(K:Frag)(a:Bool)(a1:Addr)(c:Bool)(a2:Addr):It:=
 ⟨λi H=> ∃xs ys x y, SqB K a H a1 xs /\ SqB K c H a2 ys /\ xs[i]? = some x /\ ys[i]? = some y,
  λi H v e=> ∃t x y, H t = none /\ v = .ref t /\ e = au H t (.tup [x, y]) /\ (∀xs, SqB K a H a1 xs-> xs[i]? = some x) /\ ∀ys, SqB K c H a2 ys-> ys[i]? = some y,
  λi H=> ∃xs ys, SqB K a H a1 xs /\ SqB K c H a2 ys /\ (xs.length <= i \/ ys.length <= i)⟩
def DE{P:Program}{w:World}{K:Frag}{es:List Expr}{k:Nat}{pos:Pos}(b1 b2:Bool)(a1 a2 z TI TO g j:Addr)(D:ZAp z TI TO g j) :
  Turn P w K (.Tuple es k pos) (qf K b1 a1 b2 a2) [z,TI,TO,g,j] z (λi h=>IsZip h z TI TO .none/\IsPair h TI (.ref g) (.ref j)/\(∃a b,IsPair h TO a b)/\SqI b1 h g a1 i/\SqI b2 h j a2 i) where
 mem:=J2
 obj:=λi h st c f=>by
  obtain⟨r,p,⟨a,b,A⟩,B,C⟩:=st;simp only[Kd,LD,N0]at f;rcases f with rfl|rfl|rfl|rfl|rfl
  ·exact⟨_,r,λv q=>by have G:Data.fields _=Data.cell v:=q;cases G⟩
  ·exact⟨_,p,λv q=>by have G:Data.seq _ _=Data.cell v:=q;cases G⟩
  ·exact⟨_,A,λv q=>by have G:Data.seq _ _=Data.cell v:=q;cases G⟩
  ·exact B.obj
  ·exact C.obj
 keep:=λi h h' st k=>by
  obtain⟨r,p,⟨a,b,A⟩,B,C⟩:=st;have M:=lH z TI TO g j;exact⟨k z M.1 _ r,k TI M.2.1 _ p,⟨a,b,k TO M.2.2.1 _ A⟩,B.at λo q=>k g M.2.2.2.1 o q,C.at λo q=>k j M.2.2.2.2 o q⟩
 item:=by
  intro X U hw T f i l s σ H E I F st Z;subst U hw T;obtain⟨xs,ys,x,y,J,L,hx,hy⟩:=Z;obtain⟨r,p,⟨a,b,A⟩,B,C⟩:=st;obtain⟨Sn,R,p1,_⟩:=I.sqb J;obtain⟨O8,S,p2,_⟩:=I.sqb L;obtain⟨u,hu,ru⟩:=R.get hx;obtain⟨v,hv,rv⟩:=S.get hy;refine Ab D r p A (I.sqb_ne J (F TO (lH z TI TO g j).2.2.1)) (I.sqb_ne L (F TO (lH z TI TO g j).2.2.1)) B C p1 p2 (x:=u) (y:=v) (by simpa using hu) (by simpa using hv) λh' z1 z2 z3 z4 z5 z6 O=>?_;refine⟨.ref s.heap.objs.size,rfl,wpAny_letOwnedTupleGo_zip z1 λg2 zz N=>?_⟩;have zn:H s.heap.objs.size=none:=I.fresh
  have I1:Inv X l σ (au H s.heap.objs.size (.tup [x,y])) { s with heap:=s.heap.push { cls:=.type "tuple",data:=.seq #[u,v] },toks:=s.toks }:=
   I.laid (λc o q=>J4 _ q) (J3 _) ⟨by show 2<=sizeLine;decide,[u,v],.cons ru (.cons rv .nil),_,Ke _ rfl,⟨rfl,rfl⟩,0,rfl⟩
  have Ve:∀c∈[z,TI,TO,g,j],c<s.heap.objs.size:=λc f=>by
   simp only[Kd,LD,N0]at f;rcases f with rfl|rfl|rfl|rfl|rfl
   ·exact Kk r
   ·exact Kk p
   ·exact Kk A
   ·exact B.lt
   ·exact C.lt
  have f1:∀c∈[z,TI,TO,g,j],eR X l (au H s.heap.objs.size (.tup [x,y])) c:=λc f=>⟨by rw[ba (KD (Ve c f))];exact (F c f).1,(F c f).2⟩;have I2:=I1.turnedL (h':=g2) (ch:=[z,TI,TO,g,j]) (t':=s.toks) (λc o f q=>?_) f1
  ·refine⟨.ref s.heap.objs.size,_,I2,rfl,⟨s.heap.objs.size,x,y,zn,rfl,rfl,λxs' Q=>by rwa[I.sqb_inj Q J],λys' Q=>by rwa[I.sqb_inj Q L]⟩,
    ⟨zz,N.extBut _ _ D.a1 (O TI _ (by simp[D.a1,D.a5,D.a6,D.a7]) p),⟨_,_,N.extBut _ _ D.a2 z2⟩,z3.but N D.a3,z4.but N D.a4⟩,λc f=>(f1 c f).1⟩
  ·have Y:c≠z:=λe=>f (e▸J2);refine (N.2 c Y).trans ?_;rcases Heap.get?_push_cases q with⟨e,e'⟩|G
   ·subst e;subst e';exact z5
   ·exact O c o (λe=>f (xc e)) G
 done:=by
  intro X U hw T f i l s σ H E I F st Z;subst U hw T;obtain⟨xs,ys,J,L,Pn⟩:=Z;obtain⟨r,p,⟨a,b,A⟩,B,C⟩:=st;obtain⟨Sn,R,p1,_⟩:=I.sqb J;obtain⟨O8,S,p2,_⟩:=I.sqb L;have l1:=R.length;have l2:=S.length
  have he:Sn.toArray[i]?=none\/O8.toArray[i]?=none:=by
   rcases Pn with q|q
   ·exact .inl (by simp;omega)
   ·exact .inr (by simp;omega)
  refine Ge (I.ok.hd f) D r p A (I.sqb_ne J (F TO (lH z TI TO g j).2.2.1)) (I.sqb_ne L (F TO (lH z TI TO g j).2.2.1)) B C p1 p2 he λh' O=>⟨rfl,?_⟩;refine I.turnedL (ch:=[z,TI,TO,g,j]) (t':=s.toks) (λc o f q=>O c o (λe=>f (xc e)) q) F
 self:=λ_ _ _ _ _ st h=>wpAny_pyIter_zip st.1 h
def zr(n:Nat):ZAp (n+4) (n+2) (n+3) n (n+1):=
 ⟨(by omega:n+2≠n+4),(by omega:n+3≠n+4),(by omega:n≠n+4),(by omega:n+1≠n+4),(by omega:n+2≠n+3),(by omega:n+2≠n),(by omega:n+2≠n+1),(by omega:n+3≠n),(by omega:n+3≠n+1),(by omega:n≠n+1)⟩
end L2
namespace L2
open PySem PySem.Spec PyProof.Rows
section
variable{X:Cx}
def Er:cy X (binaryOp .Mult) (rI IntMulOk λi j=>.int (i*j)):=mJ λ_ _ _ _ _ _ _ a q=>mul_int q a
def CDivB(i j:Int):Prop:=0<j/\j.natAbs.log2<9000
def CC:cy X (binaryOp .FloorDiv) (rI CDivB λi j=>.int (i/j)):=mJ λi j _ _ _ _ _ a q=>by have c:(0:Int)<j:=a.1;exact floordiv_int (by omega) (by rwa[Int.fdiv_eq_ediv_of_nonneg i (by omega)]) (.inl (PyProof.noPylong_of_log2 a.2))
end
def xE{n k:Nat}(a:0<k)(h:n<2^k):n.log2<k:=by
 rcases Nat.eq_zero_or_pos n with z|z
 ·subst z;simpa using a
 ·exact (Nat.log2_lt (N4 z)).mpr h
def CDivB.of{i j:Int}(a:0<j)(h:j<2^9000):CDivB i j:=⟨a,xE (by decide) (by
 have e:(j.natAbs:Int)=j:=Int.natAbs_of_nonneg (N5 a)
 have:(j.natAbs:Int)<((2^9000:Nat):Int):=by rw[e];exact_mod_cast h
 exact_mod_cast this)⟩
def tZ{a:Int}{k:Nat}(c:0<k)(h:a.natAbs<2^k):Builtin.Int.intBits a<=k:=by
 unfold Builtin.Int.intBits;split
 ·exact LA _
 ·exact xE c h
def CF{a b:Int}{m n:Nat}(f:0<m)(g:0<n)(c:a.natAbs<2^m)(e:b.natAbs<2^n)(h:m+n<=134217728):IntMulOk a b:=PyProof.Rows.mulOk_of_bits (tZ f c) (tZ g e) h
def ig{a b:Int}(c:-(2^64)<a)(e:a<2^64):IntMulOk a b:=.of_left (intBits_le_64 c e)
def nT{a b:Int}(c:-(2^64)<b)(e:b<2^64):IntMulOk a b:=.of_right (intBits_le_64 c e)
section
variable{prog:Program}{w:World}{A:Around}{E:Value->Shared->Prop}{s:Shared}
def vd{e t:Addr}{a:Array Value}(g:t≠e):∀(n i:Nat)(s:Shared)(Q:List Value->Shared->Prop),s.heap.IsListIter e t i->s.heap.IsList t a->i+n<=a.size->
  (∀h',h'.IsListIter e t (i+n)->Heap.SameBut e s.heap h'->Q ((a.toList.drop i).take n) { s with heap:=h' })->wpAny (model prog w) A (draw (.ref e) n) Q E s
 |0,i,s,Q,c,_,_,f=>by show wpAny _ _ (pure []) Q E s;exact Kr (by simpa using f s.heap c (Heap.SameBut.refl ..))
 |n+1,i,s,Q,c,j,r,f=>by
  have h:i<a.size:=by omega
  show wpAny _ _ (pyNext (.ref e) >>= _) Q E s;refine JY (MM c j (x:=a[i]) (by simp[h]) λy o l=>?_);refine JY (L0 (vd g n (i+1) _ _ o (j.extBut l.extBut g) (by omega) λp v u=>Kr ?_))
  have hd:a.toList.drop i=a[i]::a.toList.drop (i+1):=by simp[Nv,h]
  have:=f p (by rwa[show i+(n+1)=i+1+n by omega]) (l.trans u);rw[hd,List.take_succ_cons]at this;exact this
def ye{t:Addr}{a:Array Value}{Q:List Value->Shared->Prop}(y:A.handled=none)(c:s.heap.IsList t a)
  (x:∀h',Heap.ExtBut s.heap.objs.size s.heap h'->Q a.toList { s with heap:=h' }):wpAny (model prog w) A (unpackItems (.ref t) a.size none) Q E s:=by
 have g:t≠s.heap.objs.size:=by obtain⟨o,z,_⟩:=c;exact KD (Kk z)
 unfold unpackItems;refine JY ?_;unfold notIterableAtAll;refine JY (wpAny_specialOf c.typeIs slot_list_iter.lookup (Kr ?_));simp only[Bool.false_eq_true,if_false];refine JY (L0 (ML c (JY (L0 (vd g a.size 0 _ _ ⟨_,Ke _ rfl,rfl,rfl⟩ (c.push _) (by omega) λu p j=>?_)))))
 have l:List.take a.size (List.drop 0 a.toList)=a.toList:=by rw[List.drop_zero];exact Mg (by simp)
 rw[l,JZ (by simp)];have f:u.IsList t a:=(c.push _).extBut j.extBut g;refine JY (L0 (MV y p f (by simp) λv r=>?_));simp only[Option.isSome_none,Bool.false_eq_true,if_false];exact Kr (x v λb o h e=>r b o h (j.extBut b o h (J4 _ e)))
end
section
variable{X:Cx}{c:Pos}
def qP(K:Frag)(n:Nat)(t:fF):TG:=λv e H Q=>∃a xs,v=.ref a/\SqL K H a xs/\xs.length=n/\t xs e H Q
def Jg{es:List Expr}{k:Nat}{t:fF}{n:Nat}(z:X.calm=true)(h:PGs X es t)
  (B:(assignEach es X.env).length=n:=by rfl) (w:(assignEach es X.env).findIdx? (·.1)=none:=by rfl):PG X (.Tuple es k c) (qP X.K n t):=by
 intro f s l H v u Q I r g;obtain⟨a,xs,y,C,A,g⟩:=g;subst y;cases r;obtain⟨its,j,E,G⟩:=I.list C;rw[assign_Tuple];refine JY (Nn ?_);unfold unpack
 have x:(assignEach es X.env).length=its.toArray.size:=by simp[B,←A,j.length]
 rw[x,w];refine JY (L0 (ye (I.ok.hd z) E.isList λh' F=>?_));have p:Inv X f l H { s with heap:=h' }:=I.kept (t':=s.toks) λb o e=>F b o (KD (Kk e)) e;exact h f _ l H xs _ Q p (by simpa using j) g
end
inductive IsiV(K:Frag)(H:Hp):V->String->Bool->Prop where
 |int_int (i):IsiV K H (.int i) "int" true
 |int_bool (i):IsiV K H (.int i) "bool" false
 |int_tuple (i):IsiV K H (.int i) "tuple" false
 |int_str (i):IsiV K H (.int i) "str" false
 |bl_int (b):IsiV K H (.bl b) "int" true
 |bl_bool (b):IsiV K H (.bl b) "bool" true
 |bl_tuple (b):IsiV K H (.bl b) "tuple" false
 |str_str (x):IsiV K H (.str x) "str" true
 |str_tuple (x):IsiV K H (.str x) "tuple" false
 |tup_tuple {a xs}:SqT K H a xs->IsiV K H (.ref a) "tuple" true
 |tup_int {a xs}:SqT K H a xs->IsiV K H (.ref a) "int" false
 |lst_tuple {a xs}:SqL K H a xs->IsiV K H (.ref a) "tuple" false
 |lst_list {a xs}:SqL K H a xs->IsiV K H (.ref a) "list" true
def xQ(K:Frag):List V->Hp->VK->Prop:=λvs H Q=>∃x T b,vs=[x,.ty T]/\IsiV K H x T b/\Q (.bl b) H
def DV{x y:V}{us:List Value}(r:Vals [x,y] us):∃u v,us=[u,v]/\RelV x u/\RelV y v:=by
 cases r with
 |cons r rr=>
  cases rr with
  |cons a rr=>cases rr;exact⟨_,_,rfl,r,a⟩
def yW{X:Cx}:eB X (.builtin "isinstance") (xQ X.K):=by
 intro g s w H xs us Q I r h;obtain⟨x,T,b,rfl,l,q⟩:=h;obtain⟨u,v,rfl,f,j⟩:=DV r;have j:v=.type T:=j;subst j;have a:∀(c:Bool)(t:Nat),Q (.bl c) H->EP X g w Q (.bool c) { s with toks:=t }:=λc t q=>⟨.bl c,H,I.tok t,rfl,q⟩
 cases l with
 |int_int i=>obtain⟨t,rfl⟩:=f;exact IsiPair.int_int (a _ s.toks q)
 |int_bool i=>obtain⟨t,rfl⟩:=f;exact IsiPair.int_bool (a _ _ q)
 |int_tuple i=>obtain⟨t,rfl⟩:=f;exact IsiPair.int_tuple (a _ _ q)
 |int_str i=>obtain⟨t,rfl⟩:=f;exact IsiPair.int_str (a _ _ q)
 |bl_int b=>cases f;exact IsiPair.bool_int (a _ s.toks q)
 |bl_bool b=>cases f;exact IsiPair.bool_bool (a _ s.toks q)
 |bl_tuple b=>cases f;exact IsiPair.bool_tuple (a _ _ q)
 |str_str x=>obtain⟨t,rfl⟩:=f;exact IsiPair.str_str (a _ s.toks q)
 |str_tuple x=>obtain⟨t,rfl⟩:=f;exact IsiPair.str_tuple (a _ _ q)
 |tup_tuple h=>
  cases f;obtain⟨its,_,p,_⟩:=I.tuple h;exact M8 (isinstance_true (Tx:="tuple") F.isi_meta_tuple F.sub_tuple_tuple) ⟨p.typeIs,a _ s.toks q⟩
 |tup_int h=>
  cases f;obtain⟨its,_,⟨o,e,c,_⟩,_⟩:=I.tuple h;exact M8 (isinstance_false_tuple (by lia) F.isi_meta_int F.sub_tuple_int) ⟨⟨o,e,c⟩,a _ _ q⟩
 |lst_tuple h=>
  cases f;obtain⟨its,_,p,_⟩:=I.list h;obtain⟨o,e,c,_⟩:=p.isList;exact M8 (isinstance_false_list (by lia) F.isi_meta_tuple F.sub_list_tuple) ⟨⟨o,e,c⟩,a _ _ q⟩
 |lst_list h=>
  cases f;obtain⟨its,_,p,_⟩:=I.list h;exact M8 (isinstance_true (Tx:="list") F.isi_meta_list F.sub_list_list) ⟨p.isList.typeIs,a _ s.toks q⟩
def sx{prog:Program}{w:World}{A:Around}(u:A.handled=none)(b:Bool)(j a:Addr)(r:a≠j)(its:Array Value):Walks prog w A j [j,a] [j] its.size (λi v=>its[i]?=some v) (λi h=>SqI b h j a i/\SqO b h a its) where
 sub:=λc f=>by rw[J5.mp f];simp
 frame:=λ_ _ _ st k=>⟨st.1.at λo e=>k j (by simp) o e,st.2.at λo e=>k a (by simp) o e⟩
 item:=λi s Q E l st g=>by
  cases b with
  |true=>exact MM st.1 st.2 (x:=its[i]) (by simp[l]) λh' q sb=>g _ h' s.toks (by simp[l]) ⟨q,SqO.at (b:=true) st.2 λo e=>(sb.2 a r).trans e⟩ λc o f e=>(sb.2 c λz=>f (by simp[z])).trans e
  |false=>exact wpAny_pyNext_tuple_item st.1 st.2 (x:=its[i]) (by simp[l]) λh' q sb=>g _ h' s.toks (by simp[l]) ⟨q,SqO.at (b:=false) st.2 λo e=>(sb.2 a r).trans e⟩ λc o f e=>(sb.2 c λz=>f (by simp[z])).trans e
 done:=λs Q E st g=>by
  cases b with
  |true=>exact MV u st.1 st.2 (by simp) λh' p=>g h' s.toks λc o f e=>p c o (λz=>f (by simp[z])) e
  |false=>exact wpAny_pyNext_tuple_end u st.1 st.2 (by simp) λh' p=>g h' s.toks λc o f e=>p c o (λz=>f (by simp[z])) e
 self:=λi s Q E st g=>by
  cases b with
  |true=>exact wpAny_pyIter_listiter st.1 g
  |false=>exact wpAny_pyIter_tupleiter st.1 g
def rS{x:V}{us:List Value}(r:Vals [x] us):∃u,us=[u]/\RelV x u:=by
 cases r with
 |cons r rr=>cases rr;exact⟨_,rfl,r⟩
def vT(val:Nat->Int)(ns:List Int)(h:∀i n,ns[i]?=some n->val i=n):∀k,k<=ns.length->preSum val k=(ns.take k).sum
 |0,_=>by simp[preSum]
 |k+1,c=>by
  have a:k<ns.length:=c;have e:=h k ns[k] (by simp[a]);rw[preSum,vT val ns h k (Lo a),e,MR a,List.sum_append];simp
def Hb(K:Frag)(b:Bool):List V->Hp->VK->Prop:=λvs H Q=>∃(a:Addr)(ns:List Int),vs=[.ref a]/\SqB K b H a (ns.map V.int)/\Q (.int ns.sum) H
def By(b:Bool){X:Cx}(L:X.calm=true):eB X (.builtin "sum") (Hb X.K b):=by
 intro B s σ H xs us Q I r h;obtain⟨a,ns,rfl,S,q⟩:=h;obtain⟨u,rfl,U⟩:=rS r;cases U;obtain⟨its,g,p,Z⟩:=I.sqb S;refine call_sum_walkAnyS (lb p ?_);have C:a≠s.heap.objs.size:=KD p.lt;have W:=sx (prog:=X.prog) (w:=X.w) (A:=X.A.in1) (I.ok.hd L) b s.heap.objs.size a C its.toArray
 have T:∀(i:Nat)(v:Value),its.toArray[i]?=some v->∃t,v=.int (ns.getD i 0) t:=λi v e=>by
  have l:its[i]?=some v:=by simpa using e
  have O:i<ns.length:=by
   have:=(K1.mp l).1;have:=g.length;rw[JT]at this;omega
  obtain⟨v',y,K⟩:=g.get (i:=i) (x:=V.int (ns.getD i 0)) (by simp[O]);rw[l]at y;cases y;exact K
 have ln:its.toArray.size=ns.length:=by have:=g.length;rw[JT]at this;simp[this]
 refine⟨s.heap.objs.size,[s.heap.objs.size,a],[s.heap.objs.size],_,its.toArray.size,_,_,λi=>ns.getD i 0,rfl,W.toS,⟨jO (Ke _ (by cases b<;>rfl)),p.at λo e=>J4 _ e⟩,λc f=>?_,T,λY t' P=>?_⟩
 ·rw[KS];rcases Kd.mp f with rfl|f
  ·exact L9 _
  ·rw[J5.mp f];exact L5 p.lt
 ·obtain⟨N,M,hd,R,_⟩:=P;obtain⟨h',g',d',j,E⟩:=Y;have F:g'=s.gens:=M;have G:d'=s.drawn:=hd;have J:E=s.os:=R;subst F G J;refine⟨.int ns.sum,H,I.kept (h':=h') (t':=j) λc o e=>N c o (λz=>?_) (J4 _ e),⟨t',?_⟩,q⟩
  ·rw[J5.mp z]at e;exact absurd (Kk e) (Lw _)
  ·rw[ln,vT (λi=>ns.getD i 0) ns (λi n e=>by
    show ns.getD i 0=n
    rw[J6,e];rfl) ns.length (J3 _),LF]
def uA(K:Frag)(b:Bool)(f:List Bool->Bool):List V->Hp->VK->Prop:=λvs H Q=>∃(a:Addr)(bs:List Bool),vs=[.ref a]/\SqB K b H a (bs.map V.bl)/\Q (.bl (f bs)) H
def tV{prog:Program}{w:World}{A:Around}{its:Array Value}{bs:List Bool}(g:Vals (bs.map V.bl) its.toList):TruthOf prog w A (λi v=>its[i]?=some v) (λi=>bs.getD i false):=by
 intro i v s Q E e q
 have c:its.toList[i]?=some v:=by simpa using e
 have h:i<bs.length:=by
  have:=(K1.mp c).1;have:=g.length;rw[JT]at this;omega
 obtain⟨j,f,a⟩:=g.get (i:=i) (x:=V.bl (bs.getD i false)) (by simp[h]);rw[c]at f;cases f;have a:v=.bool (bs.getD i false):=a;subst a;exact L4 q
def Jj(bs:List Bool):(List.range bs.length).all (λi=>bs.getD i false)=bs.all id:=by
 rw[NN];simp only[Ln,Kt,id];constructor
 ·intro h x c;obtain⟨i,a,rfl⟩:=List.mem_iff_getElem.mp c;have:=h i a;simpa [a] using this
 ·intro h i a;have:=h bs[i] (LU a);simpa [a] using this
def Gq(bs:List Bool):(List.range bs.length).any (λi=>bs.getD i false)=bs.any id:=by
 rw[NN];simp only[MS,Kt,id];constructor
 ·rintro⟨i,a,h⟩;exact⟨bs[i],LU a,by simpa [a] using h⟩
 ·rintro⟨x,c,h⟩;obtain⟨i,a,rfl⟩:=List.mem_iff_getElem.mp c;exact⟨i,a,by simpa [a] using h⟩
def BN(b:Bool){X:Cx}(l:X.calm=true):eB X (.builtin "all") (uA X.K b λbs=>bs.all id):=by
 intro f s E H xs us Q I r h;obtain⟨a,bs,rfl,x,q⟩:=h;obtain⟨u,rfl,y⟩:=rS r;cases y;obtain⟨its,g,p,C⟩:=I.sqb x;have j:a≠s.heap.objs.size:=KD p.lt
 have ln:its.toArray.size=bs.length:=by have:=g.length;rw[JT]at this;simp[this]
 have W:=sx (prog:=X.prog) (w:=X.w) (A:=X.A.in1) (I.ok.hd l) b s.heap.objs.size a j its.toArray;refine call_all_walk (lb p ⟨s.heap.objs.size,[s.heap.objs.size,a],[s.heap.objs.size],its.toArray.size,_,_,λi=>bs.getD i false,rfl,W,⟨jO (Ke _ (by cases b<;>rfl)),p.at λo e=>J4 _ e⟩,tV (by simpa using g),λh' B v=>?_⟩);rw[ln,Jj];refine⟨.bl (bs.all id),H,I.kept (h':=h') (t':=B) λc o e=>v c o (λz=>?_) (J4 _ e),rfl,q⟩;rw[J5.mp z]at e;exact absurd (Kk e) (Lw _)
def G3(b:Bool){X:Cx}(l:X.calm=true):eB X (.builtin "any") (uA X.K b λbs=>bs.any id):=by
 intro f s E H xs us Q I r h;obtain⟨a,bs,rfl,x,q⟩:=h;obtain⟨u,rfl,y⟩:=rS r;cases y;obtain⟨its,g,p,C⟩:=I.sqb x;have j:a≠s.heap.objs.size:=KD p.lt
 have ln:its.toArray.size=bs.length:=by have:=g.length;rw[JT]at this;simp[this]
 have W:=sx (prog:=X.prog) (w:=X.w) (A:=X.A.in1) (I.ok.hd l) b s.heap.objs.size a j its.toArray;refine call_any_walk (lb p ⟨s.heap.objs.size,[s.heap.objs.size,a],[s.heap.objs.size],its.toArray.size,_,_,λi=>bs.getD i false,rfl,W,⟨jO (Ke _ (by cases b<;>rfl)),p.at λo e=>J4 _ e⟩,tV (by simpa using g),λh' B v=>?_⟩);rw[ln,Gq];refine⟨.bl (bs.any id),H,I.kept (h':=h') (t':=B) λc o e=>v c o (λz=>?_) (J4 _ e),rfl,q⟩;rw[J5.mp z]at e;exact absurd (Kk e) (Lw _)
def bX(N:List Str)(a scope:Scope)(N':List Str)(cap:List (Option Nat)):Bool:=
 decide (scope.kind=.function)&&scope.names.all (λx=>decide (x.2=.cell->scope.names.lookup x.1=some .cell))&&scope.names.all (λx=>decide (x.2=.local->scope.names.lookup x.1=some .local)) &&
  scope.names.all (λx=>decide (x.2=.free->a.names.lookup x.1=some .cell/\scope.names.lookup x.1=some .free))&&decide N'.Nodup&&decide (cap.length=N'.length) &&
  (cap.zip N').all λp=>match p.1 with|none=>true|some i=>decide (N[i]?=some p.2/\(p.2,NameKind.free)∈scope.names)
def CompScope.ok{N:List Str}{f scope:Scope}{N':List Str}{cap:List (Option Nat)}(h:bX N f scope N' cap=true):CompScope N f scope N' cap:=by
 unfold bX at h;simp only[LQ,Nr,Ln]at h;obtain⟨⟨⟨⟨⟨⟨g,j⟩,l⟩,e⟩,o⟩,r⟩,u⟩:=h;refine⟨g,j,l,λx c a=>(e x c a).1,λx c a=>(e x c a).2,o,r,λp w i v=>?_⟩;have:=u p w;rw[v]at this;simpa using this
def dY{H:Hp}{p:Addr}(h:H p=none)(o:HO):Same H (au H p o):=λb u q=>by rwa[ba (dc q h)]
def wN{H a:Hp}{p:Addr}(s:Same H a)(h:H p=none)(o:HO):Same H (au a p o):=λb u q=>by rw[ba (dc q h)];exact s b u q
def Same.sqt{K:Frag}{H c:Hp}{a:Addr}{xs:List V}(e:Same H c)(h:SqT K H a xs):SqT K c a xs:=SqB.same (b:=false) e h
def hG{n:Nat}(h:n<=1000):n<=sizeLine:=Lo (bq h)
def dP{p:Prop}[Decidable p](h:decide p=true):p:=K9 h
def hX{a:Type}{xs:List a}{i:Nat}{x:a}(h:xs[i]?=some x):xs.take (i+1)=xs.take i++[x]:=by obtain⟨c,e⟩:=K1.mp h;rw[MR c,e]
def aE{a:Type}{xs:List a}{i:Nat}{x:a}(h:xs[i]?=some x):i<xs.length:=(K1.mp h).1
def gc{a:Type}{xs:List a}{i:Nat}{x:a}{k:Int}(h:xs[i]?=some x)(e:k=(i:Int)):cE xs k=some x:=by subst e;exact Hy h
def bw(ns:List Int):Int:=ns.foldl (λd x=>(Int.gcd x d:Int)) 0
def CH(xs:List Int)(x:Int):bw (xs++[x])=(Int.gcd x (bw xs):Int):=by unfold bw;rw[L6];rfl
def yU{g l:Int}(a:0<=g)(c:0<l):Int.gcd l (g % l)=Int.gcd g l:=by
 rw[Int.gcd_comm g l]
 have e:g % l=g-l*(g/l):=by have:=Int.emod_add_mul_ediv g l;omega
 rw[e];simpa using Int.gcd_sub_mul_right_right
def pZ(ns:List Int):0<=bw ns:=by
 have h:∀(ns:List Int)(d:Int),0<=d->0<=ns.foldl (λd x=>(Int.gcd x d:Int)) d:=by
  intro ns
  induction ns with
  |nil=>intro d hd;exact hd
  |cons x r a=>intro d _;exact a _ (Int.natCast_nonneg _)
 exact h ns 0 (by decide)
def ot(ns:List Int):∀x∈ns,bw ns∣x:=by
 have h:∀(ns:List Int)(d:Int),ns.foldl (λd x=>(Int.gcd x d:Int)) d∣d/\∀x∈ns,ns.foldl (λd x=>(Int.gcd x d:Int)) d∣x:=by
  intro ns
  induction ns with
  |nil=>intro d;exact⟨Int.dvd_refl _,λx a=>absurd a LD⟩
  |cons y r f=>
   intro d;obtain⟨c,e⟩:=f (Int.gcd y d:Int);refine⟨Int.dvd_trans c (Int.gcd_dvd_right ..),λx a=>?_⟩;rcases Kd.mp a with rfl|a
   ·exact Int.dvd_trans c (Int.gcd_dvd_left ..)
   ·exact e x a
 exact (h ns 0).2
def aB(es ns:List Int):Int:=(List.zipWith (·*·) es ns).sum
def iH{a:Type}(xs:List a)(lo c:Option Int):List a:=(xs.drop (HT.sIx xs.length 0 lo)).take (HT.sIx xs.length xs.length c-HT.sIx xs.length 0 lo)
def GG{n:Nat}(h:0<n):fL n (-1)=some (n-1):=by unfold fL;rw[JZ (by decide),J9 (by omega)];congr 1;omega
def Vals.get'{xs:List V}{us:List Value}(r:Vals xs us){j:Nat}(h:j<us.length):∃x,xs[j]?=some x/\RelV x us[j]:=by
 have f:=Vals.length r
 have a:j<xs.length:=by omega
 obtain⟨u,c,e⟩:=Vals.get (i:=j) (x:=xs[j]) r (by simp[a]);refine⟨xs[j],by simp[a],?_⟩;rw[KU h]at c;cases c;exact e
section
variable{prog:Program}{w:World}{A:Around}{E:Value->Shared->Prop}{s:Shared}
def yA{t b:Addr}{vs j:List Value}{Q:Value->Shared->Prop}(u:IsTup s.heap t vs.toArray)(r:IsTup s.heap b j.toArray)(v:vs=[])(h:Q (.ref b) s):wpAny (model prog w) A (binaryOp .Add (.ref t) (.ref b)) Q E s:=by obtain⟨⟨cls,p,data,sl⟩,g,f,n,hd⟩:=id u;obtain⟨⟨x,l,data2,o⟩,c,e,n2,a⟩:=id r;simp only at f hd e a;subst f hd e a;exact concat_meets ⟨_,g,rfl⟩ ⟨_,c,rfl⟩ NA seq_tuple_add MN MI (Mz _ _) (tuple_addW0 t b vs.toArray j.toArray n n2 p l sl o (by simp[v])) ⟨g,c,h⟩
end
def lx{A B:Nat}:∀{es ns:List Int},(∀x∈es,x.natAbs<=A)->(∀y∈ns,y.natAbs<=B)->(aB es ns).natAbs<=es.length*(A*B)
 | [],_,_,_=>by simp[aB]
 |_::_,[],_,_=>by simp[aB]
 |x::es,y::ns,c,f=>by
  have j:=lx (es:=es) (ns:=ns) (λz a=>c z (J1 _ a)) (λz a=>f z (J1 _ a))
  have e:aB (x::es) (y::ns)=x*y+aB es ns:=by simp[aB]
  have g:(x*y).natAbs<=A*B:=by rw[Nc];exact MH (c x J2) (f y J2)
  have h:=Int.natAbs_add_le (x*y) (aB es ns);rw[e,Kb,NS];omega
def Ds{ns:List Int}{m:Nat}(h:∀x∈ns,x.natAbs<m)(w:0<m):bw ns<m:=by
 by_cases c:bw ns=0
 ·omega
 ·have a:∃x∈ns,x≠0:=by
   refine La λn=>c ?_;have j:∀x∈ns,x=0:=λx a=>La λz=>n ⟨x,a,z⟩
   have:∀(l:List Int) ,(∀x∈l,x=0)->l.foldl (λd x=>(Int.gcd x d:Int)) 0=0:=by
    intro l
    induction l with
    |nil=>intro _;rfl
    |cons y r o=>
     intro e;have:=e y J2;subst this;exact o λx a=>e x (J1 _ a)
   exact this ns j
  obtain⟨x,a,A⟩:=a;have f:=ot ns x a;have g:=Int.natAbs_dvd_natAbs.mpr f;have p:=Nat.le_of_dvd (by omega) g;have u:=h x a;have v:=pZ ns;omega
def uS{g:Int}(a:g≠0):∀{es ns:List Int},(∀x∈es,g∣x)->aB es ns=g*aB (es.map (·/g)) ns
 | [],_,_=>by simp[aB]
 |_::_,[],_=>by simp[aB]
 |x::es,y::ns,h=>by
  have j:=uS a (es:=es) (ns:=ns) λz f=>h z (J1 _ f)
  have e:∀(x y:Int)(es ns:List Int),aB (x::es) (y::ns)=x*y+aB es ns:=λx y es ns=>by simp[aB]
  obtain⟨k,c⟩:=h x J2;subst c;rw[Kn,e,e,j,Int.mul_ediv_cancel_left _ a,Int.mul_add,Int.mul_assoc]
def IQ{b g m:Int}(c:0<g):-(-b/g)<=m↔b<=g*m:=by have:=Int.le_ediv_iff_mul_le (a:=-m) (b:=-b) c;rw[Int.neg_mul,Int.mul_comm m g]at this;omega
abbrev aw:=List Int×Int
def tF(K:Frag):V->V->Hp->VK->Prop:=λx y H Q=>∃p xs i j v,x=.ref p/\y=.int i/\SqL K H p xs/\i=((j:Nat):Int)/\xs[j]?=some v/\Q v H
def IG{X:Cx}:p7 X (tF X.K):=by
 intro c s E H o i C B Q I u l h;obtain⟨p,xs,i,j,v,rfl,rfl,g,rfl,a,q⟩:=h;cases u;obtain⟨t,rfl⟩:=l;obtain⟨its,r,pl,A⟩:=I.list g;obtain⟨w,f,e⟩:=r.get a;have y:=r.length;have z:=jf;have x:=aE a;exact wpAny_getItem_list pl.isList (by omega) (by omega) (by rw[K0];simpa using f) ⟨v,H,I,e,q⟩
def zg(xs:List V)(lo a:Option Int):kh xs lo a=iH xs lo a:=rfl
def e7{n j:Nat}(h:j<n):fL n (j:Int)=some j:=by unfold fL;rw[J9 (by omega),J9 (by omega),K0]
def xK{a0 a1 a2}{a:List Expr}{env:Env}:starEach (.BoolOp a0 a1 a2::a) env=(false,eval (.BoolOp a0 a1 a2) env)::starEach a env:=rfl
def bW{a0 a1 a2 a3}{a:List Expr}{env:Env}:starEach (.BinOp a0 a1 a2 a3::a) env=(false,eval (.BinOp a0 a1 a2 a3) env)::starEach a env:=rfl
def iS{a0 a1 a2}{a:List Expr}{env:Env}:starEach (.UnaryOp a0 a1 a2::a) env=(false,eval (.UnaryOp a0 a1 a2) env)::starEach a env:=rfl
def bC{a0 a1 a2 a3}{a:List Expr}{env:Env}:starEach (.ListComp a0 a1 a2 a3::a) env=(false,eval (.ListComp a0 a1 a2 a3) env)::starEach a env:=rfl
def gD{a0 a1 a2 a3}{a:List Expr}{env:Env}:starEach (.Compare a0 a1 a2 a3::a) env=(false,eval (.Compare a0 a1 a2 a3) env)::starEach a env:=rfl
def bt{a0 a1 a2 a3}{a:List Expr}{env:Env}:starEach (.Call a0 a1 a2 a3::a) env=(false,eval (.Call a0 a1 a2 a3) env)::starEach a env:=rfl
def aF{a0 a1 a2}{a:List Expr}{env:Env}:starEach (.Constant a0 a1 a2::a) env=(false,eval (.Constant a0 a1 a2) env)::starEach a env:=rfl
def aP{a0 a1 a2}{a:List Expr}{env:Env}:starEach (.Attribute a0 a1 a2::a) env=(false,eval (.Attribute a0 a1 a2) env)::starEach a env:=rfl
def aG{a0 a1 a2}{a:List Expr}{env:Env}:starEach (.Subscript a0 a1 a2::a) env=(false,eval (.Subscript a0 a1 a2) env)::starEach a env:=rfl
def ae{a0 a1}{a:List Expr}{env:Env}:starEach (.Name a0 a1::a) env=(false,eval (.Name a0 a1) env)::starEach a env:=rfl
def wx{a0 a1}{a:List Expr}{env:Env}:starEach (.List a0 a1::a) env=(false,eval (.List a0 a1) env)::starEach a env:=rfl
def bJ{a0 a1 a2}{a:List Expr}{env:Env}:starEach (.Tuple a0 a1 a2::a) env=(false,eval (.Tuple a0 a1 a2) env)::starEach a env:=rfl
def ag{a:Pos}{env:Env}:(backTo a (starEach [] env)).any (·.1)=false:=rfl
def ay{a:Pos}{e:Expr}{es:List Expr}{env:Env}(h:starEach (e::es) env=(false,eval e env)::starEach es env)(c:(backTo a (starEach es env)).any (·.1)=false):(backTo a (starEach (e::es) env)).any (·.1)=false:=by rwa[h]
def di{a : Pos}{e : Expr}{env : Env}(h : starEach [e] env = (false, eval e env) :: starEach [] env) : ((backTo a (starEach [e] env)).all (λx=> !x.1)&&(backToKw a (keywordEach [] env)).all (λx=>x.1.isSome)
      && decide ([e].length + ([] : List Keyword).length + (if ([] : List Keyword).isEmpty then 0 else 1) < 30)) = true:= by
 rw[h];rfl
section
variable{X:Cx}{K:Frag}
def Cu(h:X.K=K):kg X (vM K):=h▸qS
def AU(h:X.K=K):eB X (.builtin "isinstance") (xQ K):=h▸yW
end
end L2
namespace L2
open PySem PySem.Spec PyProof.Rows
section
variable{X:Cx}
def Cn:cy X (compareOp .Is) (λx y H Q=>∃a b:Bool,x=.bl a/\y=.bl b/\Q (.bl (a==b)) H):=by intro c s g H x y v u Q I e f h;obtain⟨a,b,rfl,rfl,q⟩:=h;cases e;cases f;exact wpAny_is_plain rfl (pJ I q (by cases a<;>cases b<;>rfl))
def Jb:cy X (compareOp .IsNot) (λx y H Q=>∃a b:Bool,x=.bl a/\y=.bl b/\Q (.bl (!(a==b))) H):=by intro c s g H x y v u Q I e f h;obtain⟨a,b,rfl,rfl,q⟩:=h;cases e;cases f;exact wpAny_isNot_plain rfl (pJ I q (by cases a<;>cases b<;>rfl))
end
end L2
namespace PySem
open Sem (wp)
open Builtin
open AutoSeq1 (wpAny_loadPart')
def zE:fillsNumberSlot (.type "tuple") "mul"=pure false:=
 fillsNumberSlot_seq (id:="tuple.__mul__") (r:=some (.builtin "tuple.__rmul__")) Mp.lookup (by lia) F.slot_tuple_rmul.lookup (by lia)
def CV:seqRepeat? (.type "tuple")=pure (some (.builtin "tuple.__mul__")):=by unfold seqRepeat?;rw[seqSlot_of (T:="tuple") (name:="__mul__") (id:="tuple.__mul__") Mp.lookup (by lia),seqSlot_of (T:="tuple") (name:="__rmul__") (id:="tuple.__rmul__") F.slot_tuple_rmul.lookup (by lia)];rfl
def zB(a:Int)(t:Tok)(l:Addr)(c:Array Value)(n:Nat)(e:Option Addr)(sl:Array (Option Value)) :
  Meets (Builtin.«int.__rmul__» ⟨[.int a t,.ref l],[]⟩) (λ_ R s=>s.heap.get? l=some { cls:=.type "tuple",dict:=e,data:=.seq c n,slots:=sl }/\R (.ok (.ret Value.notImplemented)) s):=
 .of_wp λprog w A R s h=>by obtain⟨j,g,d,o,os⟩:=s;obtain⟨f,h⟩:=h;wp_walk;exact⟨_,rfl,h⟩
def FF(l:Addr)(a:Array Value)(n:Nat)(c:Option Addr)(sl:Array (Option Value))(u:Tok) :
  Meets (Builtin.«tuple.__mul__» ⟨[.ref l,.int 1 u],[]⟩) (λ_ R s=>s.heap.get? l=some { cls:=.type "tuple",dict:=c,data:=.seq a n,slots:=sl }/\R (.ok (.ret (Value.ref l))) s):=
 .of_wp λprog w A R s h=>by obtain⟨o,g,d,p,os⟩:=s;obtain⟨e,h⟩:=h;have f:=ND;have j:=MA;wp_walk using K2 e;exact⟨_,rfl,h⟩
def Ac(l:Addr)(a:Array Value)(n:Nat)(f:Option Addr)(sl:Array (Option Value))(k:Int)(u:Tok)(e:¬ (decide (k < -(2^63)) ||decide (k≥2^63))=true)(o:¬ (a.isEmpty ||k==1)=true)(j:(decide (k<=0) ||a.isEmpty)=true) :
  Meets (Builtin.«tuple.__mul__» ⟨[.ref l,.int k u],[]⟩) (λ_ R s=>s.heap.get? l=some { cls:=.type "tuple",dict:=f,data:=.seq a n,slots:=sl }/\R (.ok (.ret (Value.ref s.heap.objs.size))) { s with heap:=s.heap.push { cls:=Value.type "tuple",data:=Data.seq #[] },toks:=s.toks }):=
 .of_wp λprog w A R s h=>by obtain⟨v,g,d,x,os⟩:=s;obtain⟨c,h⟩:=h;have p:=ND;have r:=MA;wp_walk using K2 c;refine NO (Ku e) ?_;wp_walk using K2 c;exact⟨_,rfl,h⟩
def EG(l:Addr)(a:Array Value)(n:Nat)(p:Option Addr)(sl:Array (Option Value))(k:Int)(u:Tok)(o:¬ (decide (k < -(2^63)) ||decide (k≥2^63))=true)(x:¬ (a.isEmpty ||k==1)=true)(v:¬ (decide (k<=0) ||a.isEmpty)=true)(c:¬ (a.size*k>(2^63-1)/8))(r:¬ Builtin.Tuple.tupleTooMany (a.size*k)=true)(hsz:(List.foldl (λf j=>f++j) #[] (List.replicate k.toNat a)).size<=sizeLine) :
  Meets (Builtin.«tuple.__mul__» ⟨[.ref l,.int k u],[]⟩) (λ_ R s=>s.heap.get? l=some { cls:=.type "tuple",dict:=p,data:=.seq a n,slots:=sl }/\R (.ok (.ret (Value.ref s.heap.objs.size))) { s with heap:=s.heap.push { cls:=Value.type "tuple",data:=Data.seq (List.foldl (λf j=>f++j) #[] (List.replicate k.toNat a)) },toks:=s.toks }):=
 .of_wp λprog w A R s h=>by obtain⟨B,g,d,C,os⟩:=s;obtain⟨e,h⟩:=h;have y:=ND;have z:=MA;wp_walk using K2 e;refine NO (Ku o) ?_;wp_walk using K2 e;refine NO (Ku c) ?_;wp_walk using K2 e;exact⟨_,rfl,h⟩
end PySem
namespace L2
open PySem PySem.Spec PyProof.Rows
inductive D where
 |int (i:Int)|bl (b:Bool)|str (x:Str)|non|tup (xs:List D)|lst (xs:List D)|fzl (xs:List D)|obj (nm:Str) (fs:List (Str×D))|map (Oc:List (aC×D))|exc (nm:Str) (ats:List D)
def va(a C:Addr)(c:Option Addr):Heap->Prop:=λh=>∃o vs,h.get? a=some o/\o.cls=.ref C/\o.dict=c/\o.data=.fields vs
inductive Rp(K:Frag)(H:Hp):D->V->Prop where
 |int (i:Int):Rp K H (.int i) (.int i)
 |bl (b:Bool):Rp K H (.bl b) (.bl b)
 |str (x:Str):Rp K H (.str x) (.str x)
 |non:Rp K H .non .non
 |tup {a:Addr} {vs:List V} {ds:List D}:H a=some (.tup vs)->vs.length=ds.length->(∀(i:Nat)(v:V)(d:D),vs[i]?=some v->ds[i]?=some d->Rp K H d v)->Rp K H (.tup ds) (.ref a)
 |lst {a:Addr} {vs:List V} {ds:List D}:H a=some (.lst vs)->vs.length=ds.length->(∀(i:Nat)(v:V)(d:D),vs[i]?=some v->ds[i]?=some d->Rp K H d v)->Rp K H (.lst ds) (.ref a)
 |fzl {a:Addr} {vs:List V} {ds:List D}:SqL K H a vs->vs.length=ds.length->(∀(i:Nat)(v:V)(d:D),vs[i]?=some v->ds[i]?=some d->Rp K H d v)->Rp K H (.fzl ds) (.ref a)
 |obj {a C dx:Addr} {nm:Str} {vs:List (Str×V)} {fs:List (Str×D)}:nsIn K mainGlobals nm=some (some (.ref C))->H a=some (.ins C dx vs)->vs.map (·.1)=fs.map (·.1)->(∀(i:Nat)(v:Str×V)(d:Str×D),vs[i]?=some v->fs[i]?=some d->Rp K H d.2 v.2)->Rp K H (.obj nm fs) (.ref a)
 |map {a:Addr} {ws:List (aC×V)} {Oc:List (aC×D)}:H a=some (.dK ws)->ws.map (·.1)=Oc.map (·.1)->(∀(i:Nat)(w:aC×V)(d:aC×D),ws[i]?=some w->Oc[i]?=some d->Rp K H d.2 w.2)->Rp K H (.map Oc) (.ref a)
 |exc0 {a C:Addr} {nm:Str}:nsIn K mainGlobals nm=some (some (.ref C))->H a=some (.ext (va a C none))->Rp K H (.exc nm []) (.ref a)
 |exc1 {a C p:Addr} {nm:Str} {v:V} {d:D}:nsIn K mainGlobals nm=some (some (.ref C))->H a=some (.ext (va a C (some p)))->H p=some (.xd [("at",v)])->Rp K H d v->Rp K H (.exc nm [d]) (.ref a)
def RpL(K:Frag)(H:Hp)(ds:List D)(vs:List V):Prop:=vs.length=ds.length/\∀(i:Nat)(v:V)(d:D),vs[i]?=some v->ds[i]?=some d->Rp K H d v
section
variable{K:Frag}{H l Φ j y A w z:Hp}{d:D}{v:V}{ds es:List D}{vs B:List V}
def Rp.i{n:Int}(h:Rp K H (.int n) v):v=.int n:=by cases h;rfl
def Rp.b{b:Bool}(h:Rp K H (.bl b) v):v=.bl b:=by cases h;rfl
def Rp.s{x:Str}(h:Rp K H (.str x) v):v=.str x:=by cases h;rfl
def Rp.n(h:Rp K H .non v):v=.non:=by cases h;rfl
def jI{P:Int->Prop}(h:match d with|.int n=>P n|_=>False):∃n,d=.int n/\P n:=by
 cases d with
 |int n=>exact⟨n,rfl,h⟩
 |_=>exact h.elim
def jG{P:Bool->Prop}(h:match d with|.bl n=>P n|_=>False):∃n,d=.bl n/\P n:=by
 cases d with
 |bl n=>exact⟨n,rfl,h⟩
 |_=>exact h.elim
def Rp.same(s:Same H l)(h:Rp K H d v):Rp K l d v:=by
 induction h with
 |int i=>exact .int i
 |bl b=>exact .bl b
 |str x=>exact .str x
 |non=>exact .non
 |tup a c _ e=>exact .tup (s _ _ a) c e
 |lst a c _ e=>exact .lst (s _ _ a) c e
 |fzl a c _ e=>exact .fzl (s.seq a) c e
 |obj f a c _ e=>exact .obj f (s _ _ a) c e
 |map a c _ e=>exact .map (s _ _ a) c e
 |exc0 f a=>exact .exc0 f (s _ _ a)
 |exc1 f a c _ e=>exact .exc1 f (s _ _ a) (s _ _ c) e
def RpL.same(s:Same H l)(h:RpL K H ds vs):RpL K l ds vs:=⟨h.1,λi v d a hd=>(h.2 i v d a hd).same s⟩
def RpL.nil:RpL K H [] []:=⟨rfl,λi v d a _=>by simp at a⟩
def RpL.cons(r:Rp K H d v)(h:RpL K H ds vs):RpL K H (d::ds) (v::vs):=⟨by simp[h.1],λi u e c a=>by
 cases i with
 |zero=>cases c;cases a;exact r
 |succ i=>exact h.2 i u e c a⟩
def RpL.append(h:RpL K H ds vs)(h':RpL K H es B):RpL K H (ds++es) (vs++B):=by
 refine⟨by rw[JW,JW,h.1,h'.1],λi u e f a=>?_⟩;rcases KP i vs.length with c|c
 ·rw[JV c]at f;rw[JV (by rwa[←h.1])]at a;exact h.2 i u e f a
 ·rw[JU c]at f;rw[JU (by rwa[←h.1]),←h.1]at a;exact h'.2 _ u e f a
def RpL.one(r:Rp K H d v):RpL K H [d] [v]:=.cons r .nil
def RpL.take(h:RpL K H ds vs)(k:Nat):RpL K H (ds.take k) (vs.take k):=⟨by rw[K8,K8,h.1],λi u e a f=>by
 rcases KP i k with c|c
 ·rw[Mx c]at a f;exact h.2 i u e a f
 ·rw[List.getElem?_take_eq_none c]at a
  cases a⟩
def RpL.drop(h:RpL K H ds vs)(k:Nat):RpL K H (ds.drop k) (vs.drop k):=⟨by rw[NB,NB,h.1],λi u e c a=>by
 rw[Nj]at c a
 exact h.2 _ u e c a⟩
def RpL.set(h:RpL K H ds vs)(r:Rp K H d v)(k:Nat):RpL K H (ds.set k d) (vs.set k v):=⟨by rw[JX,JX,h.1],λi u e a f=>by
 by_cases c:k=i
 ·subst c
  have g:k<vs.length:=by have:=aE a;rwa [JX]at this
  rw[Kj g]at a;rw[Kj (by rwa[←h.1])]at f;cases a;cases f;exact r
 ·rw[Kh c]at a f
  exact h.2 i u e a f⟩
def RpL.rep(h:RpL K H ds vs):∀k:Nat,RpL K H (List.replicate k ds).flatten (List.replicate k vs).flatten
 |0=>.nil
 |k+1=>by rw[K7,K7,KN,KN];exact h.append (RpL.rep h k)
def RpL.at(h:RpL K H ds vs){i:Nat}(e:ds[i]?=some d):∃v,vs[i]?=some v/\Rp K H d v:=by
 have a:i<vs.length:=by rw[h.1];exact aE e
 exact⟨vs[i],by simp[a],h.2 i _ d (by simp[a]) e⟩
def RpL.cut(h:RpL K H ds vs)(lo a:Option Int):RpL K H (iH ds lo a) (kh vs lo a):=by rw[zg];unfold iH;rw[h.1];exact (h.drop _).take _
def RpL.tup{a:Addr}(h:RpL K H ds vs)(s:H a=some (.tup vs)):Rp K H (.tup ds) (.ref a):=.tup s h.1 h.2
def RpL.lst{a:Addr}(h:RpL K H ds vs)(s:H a=some (.lst vs)):Rp K H (.lst ds) (.ref a):=.lst s h.1 h.2
def RpL.fzl{a:Addr}(h:RpL K H ds vs)(s:SqL K H a vs):Rp K H (.fzl ds) (.ref a):=.fzl s h.1 h.2
def RpL.ints(ns:List Int):RpL K H (ns.map D.int) (ns.map V.int):=⟨by simp,λi v d a hd=>by
 rw[J7]at a hd
 cases e:ns[i]? with
 |none=>rw[e]at a;cases a
 |some k=>rw[e]at a hd;cases a;cases hd;exact .int k⟩
def ng:HO->Prop|.lst _=>True|.dK _=>True|.dT _=>True|.ins _ _ _=>True|_=>False
structure Gr(Φ H j l:Hp):Prop where
 f:Same Φ j
 h:Same H l
 s:Same j l
 o:∀p (u:HO),H p=some u->Φ p=none->(k:ng u:=by trivial)->j p=none
def Gr.refl(s:Same Φ H):Gr Φ H Φ H:=⟨Same.refl _,Same.refl _,s,λ_ _ _ h _=>h⟩
def Gr.trans(a:Gr Φ H y A)(b:Gr y A w z):Gr Φ H w z:=⟨a.f.trans b.f,a.h.trans b.h,b.s,λp u c e k=>b.o p u (a.h p _ c) (a.o p u c e k) k⟩
def Gr.join(a:Gr Φ H y A)(b:Gr y H w z):Gr Φ H w z:=⟨a.f.trans b.f,b.h,b.s,λp u c e k=>b.o p u c (a.o p u c e k) k⟩
def HY(s:Same Φ H){p:Addr}(o:HO):Same (au Φ p o) (au H p o):=λb u e=>by
 by_cases c:b=p
 ·subst c;rw[br]at e ⊢;exact e
 ·rw[ba c]at e ⊢;exact s b u e
def Gr.new(s:Same Φ H){p:Addr}(a:H p=none)(o:HO):Gr Φ H (au Φ p o) (au H p o):=
 ⟨dY (s.free a) o,dY a o,HY s o,λq u c e _=>by rwa[ba (dc c a)]⟩
def Gr.fresh(s:Same Φ H){p:Addr}(a:H p=none)(o:HO):Gr Φ H Φ (au H p o):=
 ⟨Same.refl _,dY a o,λb u e=>dY a o b u (s b u e),λ_ _ _ h _=>h⟩
def Gr.freeze(g:Gr Φ H j l){p:Addr}{o:HO}(h:H p=none)(r:j p=none)(x:l p=some o):Gr Φ H (au j p o) l:=
 ⟨g.f.trans (dY r o),g.h,λb u e=>by
  by_cases c:b=p
  ·subst c;rw[br]at e;cases e;exact x
  ·rw[ba c]at e;exact g.s b u e,λq u a f k=>by rw[ba (dc a h)];exact g.o q u a f k⟩
def Gr.adoptT{p:Addr}{xs:List V}(s:Same Φ H)(h:Same H l)(a:l p=some (.tup xs)):∃j,Gr Φ H j l/\j p=some (.tup xs):=by
 have f:∀u,Φ p=some u->u=.tup xs:=λu e=>by have:=h _ _ (s _ _ e);rw[a]at this;cases this;rfl
 refine⟨au Φ p (.tup xs),⟨λb u e=>?_,h,λb u e=>?_,λb u e n k=>?_⟩,br⟩
 ·by_cases c:b=p
  ·subst c;rw[br,f u e]
  ·rwa[ba c]
 ·by_cases c:b=p
  ·subst c;rw[br]at e;cases e;exact a
  ·rw[ba c]at e;exact h _ _ (s _ _ e)
 ·by_cases c:b=p
  ·subst c;have:=h _ _ e;rw[a]at this;cases this;exact k.elim
  ·rwa[ba c]
def RpQ(K:Frag)(Φ H:Hp)(d:D)(v:V):Prop:=Rp K Φ d v\/∃a vs ds,d=.lst ds/\v=.ref a/\H a=some (.lst vs)/\RpL K Φ ds vs
def RpQ.gr(g:Gr Φ H j l)(h:RpQ K Φ H d v):RpQ K j l d v:=by
 rcases h with h|⟨a,vs,ds,e,c,f,o⟩
 ·exact .inl (h.same g.f)
 ·exact .inr ⟨a,vs,ds,e,c,g.h _ _ f,o.same g.f⟩
def RpQ.lst(s:Same Φ H)(h:RpQ K Φ H (.lst ds) v):∃a vs,v=.ref a/\H a=some (.lst vs)/\RpL K Φ ds vs:=by
 rcases h with h|⟨a,vs,ds,e,g,c,f⟩
 ·cases h with|lst c f h3=>exact⟨_,_,rfl,s _ _ c,f,h3⟩
 ·cases e;exact⟨a,vs,g,c,f⟩
def RpQ.fzl(s:Same Φ H)(h:RpQ K Φ H (.fzl ds) v):∃a vs,v=.ref a/\SqL K H a vs/\RpL K Φ ds vs:=by
 rcases h with h|⟨a,vs,ds,e,g,c,f⟩
 ·cases h with|fzl c f h3=>exact⟨_,_,rfl,s.seq c,f,h3⟩
 ·cases e
def RpQ.tup(s:Same Φ H)(h:RpQ K Φ H (.tup ds) v):∃a vs,v=.ref a/\SqT K H a vs/\Φ a=some (.tup vs)/\RpL K Φ ds vs:=by
 rcases h with h|⟨a,vs,ds,e,g,c,f⟩
 ·cases h with|tup c f h3=>exact⟨_,_,rfl,.of (s _ _ c),c,f,h3⟩
 ·cases e
def RpQ.int{i:Int}(h:RpQ K Φ H (.int i) v):v=.int i:=by
 rcases h with h|⟨a,vs,ds,e,_⟩
 ·obtain rfl:=h.i;rfl
 ·cases e
def RpQ.bl{i:Bool}(h:RpQ K Φ H (.bl i) v):v=.bl i:=by
 rcases h with h|⟨a,vs,ds,e,_⟩
 ·obtain rfl:=h.b;rfl
 ·cases e
def RpQ.str{i:Str}(h:RpQ K Φ H (.str i) v):v=.str i:=by
 rcases h with h|⟨a,vs,ds,e,_⟩
 ·obtain rfl:=h.s;rfl
 ·cases e
def RpQ.non(h:RpQ K Φ H .non v):v=.non:=by
 rcases h with h|⟨a,vs,ds,e,_⟩
 ·obtain rfl:=h.n;rfl
 ·cases e
def df:D->Option (List D)
 |.lst ds=>some ds
 |.tup ds=>some ds
 |.fzl ds=>some ds
 |_=>none
def RpQ.seq(s:Same Φ H)(h:RpQ K Φ H d v)(e:df d=some ds):∃a vs,v=.ref a/\(SqL K H a vs\/SqT K H a vs)/\RpL K Φ ds vs:=by
 cases d with
 |lst ds=>cases e;obtain⟨a,vs,e,c,f⟩:=h.lst s;exact⟨a,vs,e,.inl (.of c),f⟩
 |tup ds=>cases e;obtain⟨a,vs,e,c,_,f⟩:=h.tup s;exact⟨a,vs,e,.inr c,f⟩
 |fzl ds=>cases e;obtain⟨a,vs,e,c,f⟩:=h.fzl s;exact⟨a,vs,e,.inl c,f⟩
 |_=>cases e
def Rp.seq(h:Rp K Φ d v)(e:df d=some ds):∃(b:Bool)(a:Addr)(vs:List V),v=.ref a/\SqB K b Φ a vs/\RpL K Φ ds vs:=by
 cases d with
 |lst ds=>cases e;cases h with|lst h1 h2 h3=>exact⟨true,_,_,rfl,SqL.of h1,h2,h3⟩
 |tup ds=>cases e;cases h with|tup h1 h2 h3=>exact⟨false,_,_,rfl,SqT.of h1,h2,h3⟩
 |fzl ds=>cases e;cases h with|fzl h1 h2 h3=>exact⟨true,_,_,rfl,h1,h2,h3⟩
 |_=>cases e
end
inductive Ow where|lst (xs:List D)|dct (ks:List aC)|dcT (ks:List (List aC))
inductive Sl where|v (d:D)|ob (o:Ow)
abbrev Sl.own(xs:List D):Sl:=.ob (.lst xs)
abbrev Sl.dct(a:List aC):Sl:=.ob (.dct a)
abbrev Sl.dcT(a:List (List aC)):Sl:=.ob (.dcT a)
def OwR(K:Frag)(Φ:Hp):Ow->HO->Prop
 |.lst ds,.lst vs=>RpL K Φ ds vs
 |.dct c,.dK a=>a.map (·.1)=c
 |.dcT c,.dT a=>a.map (·.1)=c
 |_,_=>False
def OwR.k{K:Frag}{Φ:Hp}{o:Ow}{u:HO}(r:OwR K Φ o u):ng u:=by
 cases o with
 |lst ds=>
  cases u with
  |lst vs=>exact True.intro
  |_=>exact r.elim
 |dct c=>
  cases u with
  |dK a=>exact True.intro
  |_=>exact r.elim
 |dcT c=>
  cases u with
  |dT a=>exact True.intro
  |_=>exact r.elim
def OwR.same{K:Frag}{Φ a:Hp}{o:Ow}{u:HO}(r:OwR K Φ o u)(s:Same Φ a):OwR K a o u:=by
 cases o with
 |lst ds=>
  cases u with
  |lst vs=>exact (show RpL K Φ ds vs from r).same s
  |_=>exact r.elim
 |dct e=>
  cases u with
  |dK c=>exact r
  |_=>exact r.elim
 |dcT e=>
  cases u with
  |dT c=>exact r
  |_=>exact r.elim
abbrev bz:=List (Option Sl)
def Fq:FuncBody->Option Pos
 |.stmts b=>(match b.getLast? with
  |some (.Return (some (.Call _ _ a _)) _)=>a.findSome? λk=>(match k.value with|.Lambda _ _ _ pos=>some pos|_=>none)
  |_=>none)
 |_=>none
def qz(K:Frag)(x:Str):Option (Addr×Array Value):=match nsIn K mainGlobals x with
 |some (some (.ref f))=>(match K.lookup f with
  |some ⟨_,_,.func e,_⟩=>(match e.code with
   |.ref c=>(match K.lookup c with
    |some ⟨_,_,.fields vs,_⟩=>(match (vs[11]?:Option Value),Fq e.body with
     |some (.ref P),some a=>some (P,#[rawInt a.line,rawInt a.col,.str (e.qualname++".<locals>."++"<lambda>") 0])
     |_,_=>none)
    |_=>none)
   |_=>none)
  |_=>none)
 |_=>none
def sS(K:Frag):List (Addr×Array Value):=(["least_grown","greatest_first"]:List Str).filterMap (qz K)
def TabF(K:Frag)(Φ:Hp):Prop:=∀t∈sS K,Φ t.1=some (.tbl t.2)
def TabF.same{K:Frag}{Φ a:Hp}(h:TabF K Φ)(s:Same Φ a):TabF K a:=λt c=>s _ _ (h t c)
structure EnvD(K:Frag)(H0 Φ H:Hp)(σ:St)(ρ:bz):Prop where
 fz:Same Φ H
 len:σ.length=ρ.length
 sl:∀(i:Nat)(d:D),ρ[i]?=some (some (.v d))->∃v,σ[i]?=some (some v)/\Rp K Φ d v
 ow:∀(i:Nat)(o:Ow),ρ[i]?=some (some (.ob o))->∃p u,σ[i]?=some (some (.ref p))/\H0 p=none/\Φ p=none/\H p=some u/\OwR K Φ o u
 ne:∀(i j:Nat)(o w:Ow)(p:Addr),ρ[i]?=some (some (.ob o))->ρ[j]?=some (some (.ob w))->σ[i]?=some (some (.ref p))->σ[j]?=some (some (.ref p))->i=j
 tb:TabF K Φ
section
variable{K:Frag}{f H C Φ A:Hp}{a:St}{ρ:bz}{d:D}{v:V}{ds es:List D}{vs B:List V}
def EnvD.owl(E:EnvD K f Φ H a ρ)(i:Nat)(ds:List D)(h:ρ[i]?=some (some (.own ds))):∃p vs,a[i]?=some (some (.ref p))/\f p=none/\Φ p=none/\H p=some (.lst vs)/\RpL K Φ ds vs:=by
 obtain⟨p,u,e,c,g,j,r⟩:=E.ow i _ h
 cases u with
 |lst vs=>exact⟨p,vs,e,c,g,j,r⟩
 |_=>exact (show False from r).elim
def EnvD.gr(E:EnvD K f Φ H a ρ)(g:Gr Φ H A C):EnvD K f A C a ρ:=
 ⟨g.s,E.len,λi d h=>let ⟨v,e,r⟩:=E.sl i d h;⟨v,e,r.same g.f⟩,
  λi ds h=>let ⟨p,vs,e,h0,hn,hp,r⟩:=E.ow i ds h;⟨p,vs,e,h0,g.o p _ hp hn r.k,g.h _ _ hp,r.same g.f⟩,E.ne,E.tb.same g.f⟩
def cU{o:Type}{l:List o}{i j:Nat}{x y:o}(h:(l.set i x)[j]?=some y):(j=i/\i<l.length/\y=x)\/(j≠i/\l[j]?=some y):=by
 by_cases c:i=j
 ·subst c
  have g:i<l.length:=by have:=aE h;rwa [JX]at this
  rw[Kj g]at h;cases h;exact .inl ⟨rfl,g,rfl⟩
 ·rw[Kh c]at h;exact .inr ⟨λe=>c e.symm,h⟩
def EnvD.set(E:EnvD K f Φ H a ρ)(r:Rp K Φ d v)(i:Nat):EnvD K f Φ H (a.set i (some v)) (ρ.set i (some (.v d))):=by
 have w:∀{j:Nat}{x:Option V},j≠i->a[j]?=some x->(a.set i (some v))[j]?=some x:=λc h=>by rwa[Kh (K5 c)]
 refine⟨E.fz,by rw[JX,JX,E.len],λj e h=>?_,λj ds h=>?_,λj k ds es p l o y z=>?_,E.tb⟩
 ·rcases cU h with⟨rfl,I,g⟩|⟨c,h⟩
  ·cases g;exact⟨v,by rw[Kj (by rwa[E.len])],r⟩
  ·obtain⟨u,J,L⟩:=E.sl j e h;exact⟨u,w c J,L⟩
 ·rcases cU h with⟨rfl,I,g⟩|⟨c,h⟩
  ·cases g
  ·obtain⟨p,vs,e,q⟩:=E.ow j ds h;exact⟨p,vs,w c e,q⟩
 ·rcases cU l with⟨rfl,_,g⟩|⟨F,l⟩
  ·cases g
  rcases cU o with⟨rfl,_,g⟩|⟨G,o⟩
  ·cases g
  rw[Kh (K5 F)]at y;rw[Kh (K5 G)]at z;exact E.ne j k ds es p l o y z
def EnvD.setOb(E:EnvD K f Φ H a ρ){p:Addr}{o:Ow}{u:HO}(r:OwR K Φ o u)(O:f p=none)(S:Φ p=none)(T:H p=some u)(I:∀(j:Nat)(w:Ow),ρ[j]?=some (some (.ob w))->a[j]?≠some (some (.ref p)))(i:Nat):EnvD K f Φ H (a.set i (some (.ref p))) (ρ.set i (some (.ob o))):=by
 have M:∀{j:Nat}{x:Option V},j≠i->a[j]?=some x->(a.set i (some (.ref p)))[j]?=some x:=λc h=>by rwa[Kh (K5 c)]
 refine⟨E.fz,by rw[JX,JX,E.len],λj e h=>?_,λj ds h=>?_,λj k ds es q Q L y l=>?_,E.tb⟩
 ·rcases cU h with⟨rfl,P,g⟩|⟨c,h⟩
  ·cases g
  ·obtain⟨u,U,X⟩:=E.sl j e h;exact⟨u,M c U,X⟩
 ·rcases cU h with⟨rfl,P,g⟩|⟨c,h⟩
  ·cases g;exact⟨p,u,by rw[Kj (by rwa[E.len])],O,S,T,r⟩
  ·obtain⟨p,vs,e,q⟩:=E.ow j ds h;exact⟨p,vs,M c e,q⟩
 ·rcases cU Q with⟨g,R,_⟩|⟨N,J⟩
  ·rcases cU L with⟨G,_,_⟩|⟨F,z⟩
   ·rw[g,G]
   ·rw[g,Kj (by rwa[E.len])]at y;cases y;rw[Kh (K5 F)]at l;exact absurd l (I k _ z)
  ·rw[Kh (K5 N)]at y;rcases cU L with⟨G,R,_⟩|⟨F,z⟩
   ·rw[G,Kj (by rwa[E.len])]at l;cases l;exact absurd y (I j _ J)
   ·rw[Kh (K5 F)]at l;exact E.ne j k _ _ q J z y l
def EnvD.putOb(E:EnvD K f Φ H a ρ){i:Nat}{p:Addr}{o o':Ow}{u:HO}(l:ρ[i]?=some (some (.ob o)))(F:a[i]?=some (some (.ref p)))(r:OwR K Φ o' u):EnvD K f Φ (au H p u) a (ρ.set i (some (.ob o'))):=by
 obtain⟨T,vs,e,L,G,S,_⟩:=E.ow i _ l;rw[F]at e;cases e;have R:=aE l;refine⟨λb u e=>?_,by rw[JX,E.len],λj e h=>?_,λj fs h=>?_,λj k fs gs q x y P Q=>?_,E.tb⟩
 ·rw[ba (dc e G)];exact E.fz b u e
 ·rcases cU h with⟨rfl,_,w⟩|⟨c,h⟩
  ·cases w
  ·exact E.sl j e h
 ·rcases cU h with⟨rfl,_,w⟩|⟨c,h⟩
  ·cases w;exact⟨p,u,F,L,G,br,r⟩
  ·obtain⟨q,us,e,M,N,U,O⟩:=E.ow j fs h;refine⟨q,us,e,M,N,?_,O⟩;rwa[ba λz=>c (E.ne j i fs o p h l (by rw[e,z]) F)]
 ·have g:∀{j:Nat}{fs:Ow},(ρ.set i (some (.ob o')))[j]?=some (some (.ob fs))->∃gs,ρ[j]?=some (some (.ob gs)):=λ{j fs} h=>by
   rcases cU h with⟨rfl,_,_⟩|⟨_,h⟩
   ·exact⟨o,l⟩
   ·exact⟨fs,h⟩
  obtain⟨J,x⟩:=g x;obtain⟨I,y⟩:=g y;exact E.ne j k J I q x y P Q
def EnvD.setOwn(E:EnvD K f Φ H a ρ){p:Addr}(r:RpL K Φ ds vs)(e:f p=none)(g:Φ p=none)(h:H p=some (.lst vs))(c:∀(j:Nat)(w:Ow),ρ[j]?=some (some (.ob w))->a[j]?≠some (some (.ref p)))(i:Nat):EnvD K f Φ H (a.set i (some (.ref p))) (ρ.set i (some (.own ds))):=E.setOb (o:=.lst ds) (u:=.lst vs) r e g h c i
def EnvD.put(E:EnvD K f Φ H a ρ){i:Nat}{p:Addr}(c:ρ[i]?=some (some (.own ds)))(e:a[i]?=some (some (.ref p)))(r:RpL K Φ es B):EnvD K f Φ (au H p (.lst B)) a (ρ.set i (some (.own es))):=E.putOb (o':=.lst es) (u:=.lst B) c e r
def EnvD.weak{c:bz}(E:EnvD K f Φ H a ρ)(o:c.length=ρ.length)(e:∀(i:Nat) x,c[i]?=some (some x)->ρ[i]?=some (some x)):EnvD K f Φ H a c:=
 ⟨E.fz,by rw[E.len,o],λi d h=>E.sl i d (e i _ h),λi ds h=>E.ow i ds (e i _ h),λi j ds es p g l=>E.ne i j ds es p (e i _ g) (e j _ l),E.tb⟩
end
inductive NF{α:Type}(x:α)(R:α->Prop):Prop|mk (y:α) (_:x=y) (_:R y)
def NF.get{a:Type}{x:a}{R:a->Prop}(h:NF x R):R x:=by obtain⟨_,rfl,h⟩:=h;exact h
abbrev TD:=bz->(D->Prop)->Prop
abbrev aR:=bz->(List D->Prop)->Prop
abbrev cB:=bz->(Bool->Prop)->Prop
inductive lE(K:Frag)(t:TD)(σ:St)(H:Hp)(Q:VK):Prop|mk (H0:Hp) (Φ:Hp) (ρ:bz) (R:D->Prop) (_:EnvD K H0 Φ H σ ρ) (_:t ρ R) (_:∀d Φ' H' v,R d->Gr Φ H Φ' H'->Rp K Φ' d v->Q v H')
inductive lQ(K:Frag)(t:TD)(σ:St)(H:Hp)(Q:VK):Prop|mk (H0:Hp) (Φ:Hp) (ρ:bz) (R:D->Prop) (_:EnvD K H0 Φ H σ ρ) (_:t ρ R) (_:∀d Φ' H' v,R d->Gr Φ H Φ' H'->RpQ K Φ' H' d v->Q v H')
inductive lF(K:Frag)(t:aR)(σ:St)(H:Hp)(Q:VK):Prop|mk (H0:Hp) (Φ:Hp) (ρ:bz) (R:List D->Prop) (_:EnvD K H0 Φ H σ ρ) (_:t ρ R) (_:∀ds Φ' H' p vs,R ds->Gr Φ H Φ' H'->H p=none->Φ' p=none->H' p=some (.lst vs)->RpL K Φ' ds vs->Q (.ref p) H')
inductive lA(K:Frag)(n:Nat)(t:aR)(σ:St)(H:Hp)(Q:List V->Hp->Prop):Prop|mk (H0:Hp) (Φ:Hp) (ρ:bz) (R:List D->Prop) (_:EnvD K H0 Φ H σ ρ) (_:t ρ R) (_:∀ds Φ' H' vs,R ds->Gr Φ H Φ' H'->RpL K Φ' ds vs->ds.length=n->Q vs H')
inductive lT(K:Frag)(t:cB)(σ:St)(H:Hp)(Q:Bool->Hp->Prop):Prop|mk (H0:Hp) (Φ:Hp) (ρ:bz) (R:Bool->Prop) (_:EnvD K H0 Φ H σ ρ) (_:t ρ R) (_:∀b Φ' H',R b->Gr Φ H Φ' H'->Q b H')
structure PD(K:Frag)(X:Cx)(e:Expr)(t:TD):Prop where pe:X.K=K->PE X e (lE K t)
structure PQ(K:Frag)(X:Cx)(e:Expr)(t:TD):Prop where pe:X.K=K->PE X e (lQ K t)
structure PF(K:Frag)(X:Cx)(e:Expr)(t:aR):Prop where pe:X.K=K->PE X e (lF K t)
structure PAD(K:Frag)(X:Cx)(es:List Expr)(t:aR):Prop where pa:X.K=K->PA X es (lA K es.length t)
structure PTD(K:Frag)(X:Cx)(e:Expr)(t:cB):Prop where pt:X.K=K->PT X e (lT K t)
structure PWD(K:Frag)(X:Cx)(e:Expr)(t:cB):Prop where pw:X.K=K->PW X e (lT K t)
def PE.imp{X:Cx}{e:Expr}{t t':TE}(h:PE X e t)(k:∀c H Q,t' c H Q->t c H Q):PE X e t':=λa s c H Q I f=>h a s c H Q I (k c H Q f)
def PT.imp{X:Cx}{e:Expr}{t t':TT}(h:PT X e t)(k:∀c H Q,t' c H Q->t c H Q):PT X e t':=λa s c H Q I f=>h a s c H Q I (k c H Q f)
def PW.imp{X:Cx}{e:Expr}{t t':TT}(h:PW X e t)(k:∀c H Q,t' c H Q->t c H Q):PW X e t':=λg a s c H Q I f=>h g a s c H Q I (k c H Q f)
def PA.imp{X:Cx}{e:List Expr}{t t':TA}(h:PA X e t)(k:∀c H Q,t' c H Q->t c H Q):PA X e t':=λf a s c H Q I g=>h f a s c H Q I (k c H Q g)
def PS.imp{X:Cx}{e:Stmt}{t t':TS}(h:PS X e t)(k:∀D c H,t' D c H->t D c H):PS X e t':=λa s c H D I f=>h a s c H D I (k D c H f)
def PSs.imp{X:Cx}{e:List Stmt}{t t':TS}(h:PSs X e t)(k:∀D c H,t' D c H->t D c H):PSs X e t':=λa s c H D I f=>h a s c H D I (k D c H f)
section
variable{K:Frag}{X:Cx}{e a b c:Expr}{es:List Expr}{l:Pos}{t w tb:TD}{tf:aR}{A:aR}{z B:cB}
def PD.q(h:PD K X e t):PQ K X e t:=⟨λu=>(h.pe u).imp λx H Q p=>by obtain⟨o,Φ,ρ,R,E,t,k⟩:=p;exact⟨o,Φ,ρ,R,E,t,λd f j v r g rr=>k d f j v r g (.inl rr)⟩⟩
def nH(t:aR):TD:=λρ R=>t ρ λds=>R (.lst ds)
def PF.d(h:PF K X e tf):PD K X e (nH tf):=⟨λx=>(h.pe x).imp λF H Q u=>by obtain⟨o,Φ,ρ,R,E,t,k⟩:=u;exact⟨o,Φ,ρ,_,E,t,λds C j p vs r g v f y rr=>
 k (.lst ds) _ j _ r (g.freeze v f y) ((rr.same (dY f _)).lst br)⟩⟩
def xw(i:Nat):TD:=λρ R=>match ρ[i]? with|some (some (.v d))=>R d|_=>False
def ou(i:Nat):TD:=λρ R=>match ρ[i]? with|some (some (.v d))=>R d|some (some (.ob (.lst ds)))=>R (.lst ds)|_=>False
def dv(i:Nat){x:Str}(j:X.N[i]?=some x:=by rfl)(o:cV X.env.scope x:=by nofun)(hd:ab x:=by decide)
  (g:ad x:=by decide):PD K X (.Name x l) (xw i):=⟨λ_=>(pv i j o hd g).imp λu H Q f=>by
 obtain⟨p,Φ,ρ,R,E,t,k⟩:=f;unfold xw at t;split at t
 ·next d h=>
  obtain⟨v,e,r⟩:=E.sl i d h;exact⟨v,e,k d Φ H v t (.refl E.fz) r⟩
 ·exact t.elim⟩
def aa(i:Nat){x:Str}(j:X.N[i]?=some x:=by rfl)(u:cV X.env.scope x:=by nofun)(hd:ab x:=by decide)
  (g:ad x:=by decide):PQ K X (.Name x l) (ou i):=⟨λ_=>(pv i j u hd g).imp λC H Q f=>by
 obtain⟨y,Φ,ρ,R,E,t,k⟩:=f;unfold ou at t;split at t
 ·next d h=>
  obtain⟨v,e,r⟩:=E.sl i d h;exact⟨v,e,k d Φ H v t (.refl E.fz) (.inl r)⟩
 ·next ds h=>
  obtain⟨p,vs,e,_,_,o,r⟩:=E.owl i ds h;exact⟨_,e,k _ Φ H _ t (.refl E.fz) (.inr ⟨p,vs,ds,rfl,rfl,o,r⟩)⟩
 ·exact t.elim⟩
def dC(d:D):TD:=λ_ R=>R d
def nU{v:V}{d:D}(h:PE X e (tC v))(r:∀Φ,Rp K Φ d v):PD K X e (dC d):=⟨λ_=>h.imp λj H Q f=>by obtain⟨g,Φ,ρ,R,E,t,k⟩:=f;exact k d Φ H v t (.refl E.fz) (r Φ)⟩
def ao{i j}:PD K X (.Constant (.int i) j l) (dC (.int i)):=nU Bt λ_=>.int i
def dm{i j}:PD K X (.Constant (.bool i) j l) (dC (.bl i)):=nU EY λ_=>.bl i
def jv{i j}:PD K X (.Constant (.str i) j l) (dC (.str i)):=nU yR λ_=>.str i
def bA{j}:PD K X (.Constant .none j l) (dC .non):=nU HZ λ_=>.non
abbrev cT:=D->D->(D->Prop)->Prop
inductive lR2(K:Frag)(r:cT)(x:V)(y:V)(H:Hp)(Q:VK):Prop|mk (Φ:Hp) (dx:D) (dy:D) (R:D->Prop) (_:Same Φ H) (_:RpQ K Φ H dx x) (_:RpQ K Φ H dy y) (_:r dx dy R) (_:∀d Φ' H' v,R d->Gr Φ H Φ' H'->Rp K Φ' d v->Q v H')
structure OpD(K:Frag)(X:Cx)(f:Value->Value->Sem Value)(r:cT):Prop where o:X.K=K->cy X f (lR2 K r)
def jw(r:cT)(w tb:TD):TD:=λρ R=>w ρ λx=>tb ρ λy=>r x y R
def oH{r:cT}{F:St}{H:Hp}{Q:VK}(h:lE K (jw r w tb) F H Q):jk (lR2 K r) (lQ K w) (lQ K tb) F H Q:=by obtain⟨u,Φ,ρ,R,E,t,k⟩:=h;exact⟨u,Φ,ρ,_,E,t,λI o P x N C L=>⟨u,o,ρ,_,E.gr C,N,λJ p S y O f M=>⟨p,I,J,R,f.s,L.gr f,M,O,λd j G v r g rr=>k d j G v r ((C.trans f).trans g) rr⟩⟩⟩
def aU{g:Operator}{r:cT}(o:OpD K X (binaryOp g) r)(h:PQ K X a w)(j:PQ K X b tb):PD K X (.BinOp a g b l) (jw r w tb):=
 ⟨λf=>(qT (o.o f) (h.pe f) (j.pe f)).imp λ_ _ _=>oH⟩
def dS{g:CmpOp}{r:cT}(p:OpD K X (compareOp g) r)(h:PQ K X a w)(j:PQ K X b tb)(o:behindInMarks g b=false):PD K X (.Compare a [g] [b] l) (jw r w tb):=
 ⟨λf=>(xf (p.o f) (h.pe f) (j.pe f) o).imp λ_ _ _=>oH⟩
def uo(t:TD):cB:=λρ R=>t ρ λd=>match d with|.bl b=>R b|_=>False
def Al{r:cT}{j:St}{H:Hp}{Q:Bool->Hp->Prop}(h:lT K (uo (jw r w tb)) j H Q):pV (jk (lR2 K r) (lQ K w) (lQ K tb)) j H Q:=by obtain⟨p,Φ,ρ,R,E,t,k⟩:=h;refine oH ⟨p,Φ,ρ,_,E,t,λd f o v r g rr=>?_⟩;obtain⟨b,rfl,r⟩:=jG r;obtain rfl:=rr.b;exact⟨b,rfl,k b f o r g⟩
def aV{g:CmpOp}{r:cT}(p:OpD K X (compareOp g) r)(h:PQ K X a w)(j:PQ K X b tb)(o:behindInMarks g b=false):PTD K X (.Compare a [g] [b] l) (uo (jw r w tb)):=
 ⟨λf=>(xW (p.o f) (h.pe f) (j.pe f) o).imp λ_ _ _=>Al⟩
abbrev qj:=D->(D->Prop)->Prop
def vG(r:qj)(w:TD):TD:=λρ R=>w ρ λx=>r x R
def Hg:qj:=λx R=>match x with|.int i=>R (.int (-i))|_=>False
def eI(u:PQ K X a w):PD K X (.UnaryOp .USub a l) (vG Hg w):=⟨λr=>(Cy Ig (u.pe r)).imp λC H Q o=>by obtain⟨h,Φ,ρ,R,E,t,k⟩:=o;exact⟨h,Φ,ρ,_,E,t,λy g j x f p v=>by
 obtain⟨i,rfl,f⟩:=jI f
 exact⟨i,v.int,k _ g j _ f p (.int _)⟩⟩⟩
def Ir:qj:=λx R=>match x with|.bl i=>R (.bl (!i))|_=>False
def He(u:PQ K X a w):PD K X (.UnaryOp .Not a l) (vG Ir w):=⟨λr=>(zp (u.pe r)).imp λC H Q o=>by obtain⟨h,Φ,ρ,R,E,t,k⟩:=o;exact⟨h,Φ,ρ,_,E,t,λy g j x f p v=>by
 obtain⟨i,rfl,f⟩:=jG f
 exact⟨i,v.bl,k _ g j _ f p (.bl _)⟩⟩⟩
def qi:D->(Bool->Prop)->Prop:=λd R=>match d with
 |.int i=>R (i != 0)|.bl b=>R b|.non=>R false|.str x=>x.length<=sizeLine/\R ((x.length:Int) != 0)|.lst ds=>R (!ds.isEmpty)|.tup ds=>R (!ds.isEmpty)|.fzl ds=>R (!ds.isEmpty)|.obj _ _=>False|.map _=>False|.exc _ _=>False
def qC{Φ:Hp}{ds:List D}{vs:List V}(h:RpL K Φ ds vs):(!ds.isEmpty)=!vs.isEmpty:=by have:=h.1;cases ds<;>cases vs<;>simp_all
def vy{Φ H:Hp}{d:D}{v:V}{R:Bool->Prop}(s:Same Φ H)(h:RpQ K Φ H d v)(t:qi d R):∃k,su K v H k/\R k:=by
 cases d with
 |int i=>rw[h.int];exact⟨_,rfl,t⟩
 |bl i=>rw[h.bl];exact⟨_,rfl,t⟩
 |non=>rw[h.non];exact⟨_,rfl,t⟩
 |str i=>rw[h.str];exact⟨_,⟨t.1,rfl⟩,t.2⟩
 |lst ds=>obtain⟨a,vs,rfl,f,g⟩:=h.lst s;exact⟨_,.inl ⟨vs,.of f,rfl⟩,by rwa[←qC g]⟩
 |tup ds=>obtain⟨a,vs,rfl,f,_,g⟩:=h.tup s;exact⟨_,.inr (.inl ⟨vs,f,rfl⟩),by rwa[←qC g]⟩
 |fzl ds=>obtain⟨a,vs,rfl,f,g⟩:=h.fzl s;exact⟨_,.inl ⟨vs,f,rfl⟩,by rwa[←qC g]⟩
 |obj C fs=>exact t.elim
 |map j=>exact t.elim
 |exc _ _=>exact t.elim
def Gj(t:TD):cB:=λρ R=>t ρ λd=>qi d R
def cA(y:PQ K X a w)(C:∀f,isTrue a X.env f=(do let v ←f;standAt a.pos;holding [v] (truthy v))):PTD K X a (Gj w):=
 ⟨λj=>(we (y.pe j) C).imp λI H Q r=>by obtain⟨o,Φ,ρ,R,E,t,k⟩:=r;exact⟨o,Φ,ρ,_,E,t,λd g p v G h F=>by
  obtain⟨b,u,x⟩:=vy h.s F G;rw[j]
  exact⟨b,u,k b g p x h⟩⟩⟩
def Ho(t u:cB):cB:=λρ R=>t ρ λc=>(c=true->u ρ R)/\(c=false->R false)
def Gx(t u:cB):cB:=λρ R=>t ρ λc=>(c=true->R true)/\(c=false->u ρ R)
def Hv(t:cB):cB:=λρ R=>t ρ λc=>R (!c)
def PWD.td(h:PWD K X e z):PTD K X e z:=⟨λf=>(h.pw f).pt⟩
def ik(g:PTD K X a z):PWD K X (.BoolOp .And [a] l) z:=⟨λf=>uq (g.pt f)⟩
def jl(g:PTD K X a z):PWD K X (.BoolOp .Or [a] l) z:=⟨λf=>wI (g.pt f)⟩
def fK(x:PTD K X a z)(y:PWD K X (.BoolOp .And (b::es) l) B):PWD K X (.BoolOp .And (a::b::es) l) (Ho z B):=
 ⟨λo=>(vR (x.pt o) (y.pw o)).imp λF H Q v=>by obtain⟨j,Φ,ρ,R,E,t,k⟩:=v;exact⟨j,Φ,ρ,_,E,t,λc f u r g=>by
  cases c with
  |true=>rw[J9 rfl];exact⟨j,f,ρ,R,E.gr g,r.1 rfl,λb h p C g'=>k b h p C (g.trans g')⟩
  |false=>rw[JZ (by decide)];exact k _ f u (r.2 rfl) g⟩⟩
def fv(x:PTD K X a z)(y:PWD K X (.BoolOp .Or (b::es) l) B):PWD K X (.BoolOp .Or (a::b::es) l) (Gx z B):=
 ⟨λo=>(vX (x.pt o) (y.pw o)).imp λF H Q v=>by obtain⟨j,Φ,ρ,R,E,t,k⟩:=v;exact⟨j,Φ,ρ,_,E,t,λc f u r g=>by
  cases c with
  |true=>rw[J9 rfl];exact k _ f u (r.1 rfl) g
  |false=>rw[JZ (by decide)];exact⟨j,f,ρ,R,E.gr g,r.2 rfl,λb h p C g'=>k b h p C (g.trans g')⟩⟩⟩
def cW(u:PTD K X a z):PTD K X (.UnaryOp .Not a l) (Hv z):=
 ⟨λp=>(Fg (u.pt p)).imp λv H Q o=>by obtain⟨h,Φ,ρ,R,E,t,k⟩:=o;exact⟨h,Φ,ρ,_,E,t,λc f j r g=>k _ f j r g⟩⟩
def Bq(t u:TD):TD:=λρ R=>t ρ λc=>match c with|.bl c=>(c=true->u ρ R)/\(c=false->R (.bl false))|_=>False
def oA{op}(h:PD K X a w):PD K X (.BoolOp op [a] l) w:=⟨λf=>uU (h.pe f)⟩
def jz(y:PD K X a w)(C:PD K X (.BoolOp .And (b::es) l) tb):PD K X (.BoolOp .And (a::b::es) l) (Bq w tb):=
 ⟨λo=>(xG (y.pe o) (C.pe o)).imp λI H Q x=>by obtain⟨j,Φ,ρ,R,E,t,k⟩:=x;exact⟨j,Φ,ρ,_,E,t,λc f u v r g G=>by
  obtain⟨c,rfl,r⟩:=jG r;obtain rfl:=G.b;refine⟨c,rfl,?_⟩
  cases c with
  |true=>rw[J9 rfl];exact⟨j,f,ρ,R,E.gr g,r.1 rfl,λb h p v F g' rr=>k b h p v F (g.trans g') rr⟩
  |false=>rw[JZ (by decide)];exact k _ f u _ (r.2 rfl) g (.bl _)⟩⟩
def Bl(t:cB)(u v:TD):TD:=λρ R=>t ρ λc=>(c=true->u ρ R)/\(c=false->v ρ R)
def oF(F:PTD K X c z)(y:PD K X a w)(C:PD K X b tb):PD K X (.IfExp c a b l) (Bl z w tb):=
 ⟨λp=>(zK (F.pt p) (y.pe p) (C.pe p)).imp λI H Q x=>by obtain⟨o,Φ,ρ,R,E,t,k⟩:=x;exact⟨o,Φ,ρ,_,E,t,λc h G r g=>by
  cases c with
  |true=>rw[J9 rfl];exact⟨o,h,ρ,R,E.gr g,r.1 rfl,λb f j v u g' rr=>k b f j v u (g.trans g') rr⟩
  |false=>rw[JZ (by decide)];exact⟨o,h,ρ,R,E.gr g,r.2 rfl,λb f j v u g' rr=>k b f j v u (g.trans g') rr⟩⟩⟩
def wU:aR:=λ_ R=>R []
def wY(t:TD)(u:aR):aR:=λρ R=>t ρ λd=>u ρ λds=>R (d::ds)
def ak:PAD K X [] wU:=⟨λ_=>pa_nil.imp λh H Q f=>by obtain⟨g,Φ,ρ,R,E,t,k⟩:=f;exact k [] Φ H [] t (.refl E.fz) .nil rfl⟩
def af(y:PD K X e t)(F:PAD K X es A)(G:starEach (e::es) X.env=(false,eval e X.env)::starEach es X.env):PAD K X (e::es) (wY t A):=
 ⟨λp=>(eZ (y.pe p) (F.pa p) G).imp λM H Q x=>by obtain⟨j,Φ,ρ,R,E,t,k⟩:=x;exact⟨j,Φ,ρ,_,E,t,λd f L v r g J=>⟨j,f,ρ,_,E.gr g,r,λds h u vs I o rl C=>
  k _ h u _ I (g.trans o) (.cons (J.same o.f) rl) (by rw[Kb,Kb,C])⟩⟩⟩
def CY(t:aR):TD:=λρ R=>t ρ λds=>R (.tup ds)
def AD(t:aR):aR:=t
def nq{n:Nat}(h:Nat.ble n 1000=true):n<=sizeLine:=Kl (Nat.le_of_ble_eq_true h) (by decide)
def bx{x1}(h:PAD K X es A)(u:Nat.ble es.length 1000=true:=by rfl):PD K X (.Tuple es x1 l) (CY A):=
 ⟨λv=>(rC (h.pa v)).imp λF H Q o=>by obtain⟨j,Φ,ρ,R,E,t,k⟩:=o;exact⟨j,Φ,ρ,_,E,t,λds y C vs r g rl x=>⟨by rw[rl.1,x];exact nq u,λp f=>
  k _ _ _ _ r (g.trans (.new g.s f _)) ((rl.same (dY (g.s.free f) _)).tup br)⟩⟩⟩
def dh(h:PAD K X es A)(u:Nat.ble es.length 1000=true:=by rfl):PF K X (.List es l) (AD A):=
 ⟨λv=>(tL (h.pa v)).imp λF H Q o=>by obtain⟨j,Φ,ρ,R,E,t,k⟩:=o;exact⟨j,Φ,ρ,_,E,t,λds y C vs r g rl x=>⟨by rw[rl.1,x];exact nq u,λp f=>
  k _ _ _ p vs r (g.trans (.fresh g.s f _)) (g.h.free f) (g.s.free f) br rl⟩⟩⟩
end
end L2
namespace L2
open PySem PySem.Spec PyProof.Rows PySem.Builtin PySem.Builtin.Str
def Gv:R2:=λx y H Q=>∃a b xs ys,x=.ref a/\y=.ref b/\H a=some (.tup xs)/\H b=some (.tup ys)/\xs.length+ys.length<=sizeLine/\∀p c,Same H c->c p=some (.tup (xs++ys))->Q (.ref p) c
def Du{X:Cx}:cy X (binaryOp .Add) Gv:=by
 intro c s C H x y v u Q I l o h;obtain⟨a,b,xs,ys,rfl,rfl,g,f,w,q⟩:=h;by_cases j:xs=[]
 ·subst j;cases l;cases o;obtain⟨its,B,z,_⟩:=I.tuple (SqT.of g);obtain⟨E,F,A,_⟩:=I.tuple (SqT.of f);exact yA z A (B.nil_iff.mpr rfl) ⟨.ref b,H,I,rfl,q b H (Same.refl H) f⟩
 ·refine Hl c s C H _ _ v u Q I l o ⟨a,b,xs,ys,rfl,rfl,SqT.of g,SqT.of f,j,w,λe=>?_,λ_ p r=>q p _ (dY r _) br⟩;subst e;exact q a H (Same.refl H) (by rwa[Kz])
def DJ:R2:=λx y H Q=>∃(a:Addr)(k:Int)(xs:List V),x=.ref a/\y=.int k/\H a=some (.tup xs)/\xs≠[]/\0<=k/\k<=1000/\k.toNat*xs.length<=1000/\∀p c,Same H c->c p=some (.tup (List.replicate k.toNat xs).flatten)->Q (.ref p) c
def G9{X:Cx}:cy X (binaryOp .Mult) DJ:=by
 intro w s σ H x y v u Q I rx ry h;obtain⟨a,k,xs,rfl,rfl,S,Z,h0,h1,hz,q⟩:=h;cases rx;obtain⟨t,rfl⟩:=ry;obtain⟨its,r,p1,_⟩:=I.tuple (SqT.of S);have N:its≠[]:=λz=>Z (r.nil_iff.mp z);have Y:=r.length
 have f:its.toArray.isEmpty=false:=by cases its with|nil=>exact absurd rfl N|cons _ _=>rfl
 obtain⟨⟨cls,A,data,sl⟩,c,L,n,hd⟩:=id p1;simp only at L hd;subst L hd
 refine wpAny_binaryOp_repeat_ref (T:="tuple") (U:="int") (by decide) ⟨_,c,rfl⟩ (λs'=>Nu s' k t) zE F.fills_int_mul M3 CV F.slot_int_index.lookup
  (L8 M3 (Nu s k t) F.entry_int_rmul (F.args_int_rmul_2 _ _) (zB k t a its.toArray n A sl)
   ⟨c,rfl,⟨_,c,rfl⟩,?_⟩)
 have E:List.foldl (λx1 x2=>x1++x2) #[] (List.replicate k.toNat its.toArray)=(List.replicate k.toNat its).flatten.toArray:=by have:=sN its k.toNat [];rw[Ms]at this;exact this
 have G:¬ (decide (k < -(2^63)) ||decide (k≥2^63))=true:=by rw[Ku (by omega),Ku (by omega)];exact KG
 by_cases K:k=1
 ·subst K;refine L8 Mp ⟨_,c,rfl⟩ Nt (Nk _ _) (FF a its.toArray n A sl t) ⟨c,?_⟩;refine⟨.ref a,H,I,rfl,q a H (Same.refl H) ?_⟩;show H a=some (.tup (List.replicate 1 xs).flatten);rwa[List.replicate_one,KN,List.flatten_nil,Kz]
 ·have J:¬ (its.toArray.isEmpty ||k==1)=true:=by rw[f,LN.mpr K];exact KG
  have l:∀ys:List V,∀us:List Value,ys.length<=sizeLine->Vals ys us->EP X w σ Q (.ref s.heap.objs.size) { s with heap:=s.heap.push { cls:=Value.type "tuple",data:=Data.seq us.toArray },toks:=s.toks }\/¬ (∀p g,Same H g->g p=some (.tup ys)->Q (.ref p) g):=λys us C rr=>by
   by_cases M:∀p g,Same H g->g p=some (.tup ys)->Q (.ref p) g
   ·refine .inl ⟨.ref s.heap.objs.size,_,I.laid (t':=s.toks) (o:=.tup ys) (λb ob z=>J4 _ z) (J3 _) ?_,rfl,M _ _ (dY (I.hok.fresh (J3 _)) _) br⟩;exact⟨C,_,rr,IsTupD.new _ _⟩
   ·exact .inr M
  by_cases R:k=0
  ·subst R;refine L8 Mp ⟨_,c,rfl⟩ Nt (Nk _ _) (Ac a its.toArray n A sl 0 t G J rfl) ⟨c,?_⟩;rcases l [] [] (LA _) .nil with z|z
   ·exact z
   ·exact absurd q z
  ·have O:¬ (decide (k<=0) ||its.toArray.isEmpty)=true:=by rw[f,Ku (by omega)];exact KG
   have j:its.length*k.toNat<=1000:=by rwa[←Y,NC]
   have B:(its.toArray.size:Int)*k<=1000:=by
    rw[Ka]
    have e:k=((k.toNat:Nat):Int):=by omega
    rw[e]
    exact_mod_cast j
   have hs:(1000:Int)<=((sizeLine:Nat):Int):=by exact_mod_cast hG (J3 1000)
   have P:(List.replicate k.toNat its).flatten.length<=1000:=by rwa[rQ,NC]
   refine L8 Mp ⟨_,c,rfl⟩ Nt (Nk _ _) (EG a its.toArray n A sl k t G J O (by omega) (by unfold Builtin.Tuple.tupleTooMany;rw[Ku (by omega)];exact KG) (by rw[E,Ka];exact hG P)) ⟨c,?_⟩;rw[E];rcases l (List.replicate k.toNat xs).flatten (List.replicate k.toNat its).flatten (by rw[rQ];exact hG hz) (r.rep k.toNat)with z|z
   ·exact z
   ·exact absurd q z
end L2
namespace L2
open PySem PySem.Spec PyProof.Rows
section
variable{K:Frag}{X:Cx}
def zI(C:Int->Int->Prop)(g:Int->Int->D):cT:=λx y R=>match x,y with|.int i,.int j=>C i j/\R (g i j)|_,_=>False
def jd(g:Int->Int->D):cT:=λx y R=>match x,y with|.int i,.int j=>R (g i j)|_,_=>False
def pT{f:Value->Value->Sem Value}{C:Int->Int->Prop}{g:Int->Int->Int}(h:cy X f (rI C λi j=>.int (g i j))):OpD K X f (zI C λi j=>.int (g i j)):=
 ⟨λA a s z H x y v u Q I r w c=>by
  obtain⟨Φ,e,l,R,sm,o,p,q,k⟩:=c
  cases e with
  |int i=>
   cases l with
   |int j=>cases o.int;cases p.int;exact h a s z H _ _ v u Q I r w ⟨i,j,rfl,rfl,q.1,k _ Φ H _ q.2 (.refl sm) (.int _)⟩
   |_=>exact q.elim
  |_=>exact q.elim⟩
def xk{f:Value->Value->Sem Value}{g:Int->Int->Int}(h:cy X f (ic λi j=>.int (g i j))):OpD K X f (jd λi j=>.int (g i j)):=
 ⟨λA a s z H x y v u Q I r w c=>by
  obtain⟨Φ,e,l,R,sm,o,p,q,k⟩:=c
  cases e with
  |int i=>
   cases l with
   |int j=>cases o.int;cases p.int;exact h a s z H _ _ v u Q I r w ⟨i,j,rfl,rfl,k _ Φ H _ q (.refl sm) (.int _)⟩
   |_=>exact q.elim
  |_=>exact q.elim⟩
def pP{f:Value->Value->Sem Value}{g:Int->Int->Bool}(h:cy X f (ic λi j=>.bl (g i j))):OpD K X f (jd λi j=>.bl (g i j)):=
 ⟨λA a s z H x y v u Q I r w c=>by
  obtain⟨Φ,e,l,R,sm,o,p,q,k⟩:=c
  cases e with
  |int i=>
   cases l with
   |int j=>cases o.int;cases p.int;exact h a s z H _ _ v u Q I r w ⟨i,j,rfl,rfl,k _ Φ H _ q (.refl sm) (.bl _)⟩
   |_=>exact q.elim
  |_=>exact q.elim⟩
def du:OpD K X (binaryOp .Sub) (jd λi j=>.int (i-j)):=xk BU
def qu:OpD K X (binaryOp .FloorDiv) (zI CDivB λi j=>.int (i/j)):=pT CC
def jb:OpD K X (binaryOp .Mod) (zI (λ_ j=>0<j) λi j=>.int (i % j)):=pT A0
def rB:OpD K X (binaryOp .Pow) (zI xY λi j=>.int (i^j.toNat)):=pT Ha
def iE:OpD K X (compareOp .Lt) (jd λi j=>.bl (decide (i<j))):=pP IJ
def AL:OpD K X (compareOp .LtE) (jd λi j=>.bl (decide (i<=j))):=pP FM
def fm:OpD K X (compareOp .Gt) (jd λi j=>.bl (decide (j<i))):=pP FY
def nj:OpD K X (compareOp .GtE) (jd λi j=>.bl (decide (j<=i))):=pP GA
end
def gv(f:D->D->Option Bool):List D->List D->Option Bool
 | [],[]=>some true
 |x::xs,y::ys=>(f x y).bind λb=>(gv f xs ys).map (b&&·)
 |_,_=>some false
def dD:Nat->D->D->Option Bool
 |_,.int i,.int j=>some (i==j)
 |_,.bl i,.bl j=>some (i==j)
 |_,.str i,.str j=>some (i==j)
 |_,.non,.non=>some true
 |n+1,.tup xs,.tup ys=>gv (dD n) xs ys
 |n+1,.lst xs,.lst ys=>if xs.length=ys.length then gv (dD n) xs ys else some false
 |_,_,_=>none
def px{f:D->D->Option Bool}:∀{xs ys:List D}{b:Bool},gv f xs ys=some b->∃g:Nat->Bool,(∀(j:Nat)(x y:D),xs[j]?=some x->ys[j]?=some y->f x y=some (g j))/\b=((List.range (min xs.length ys.length)).all g&&xs.length==ys.length)
 | [],[],b,h=>by cases h;exact⟨λ_=>true,λj x y l=>by simp at l,by simp⟩
 | [],_::_,b,h=>by cases h;exact⟨λ_=>true,λj x y l=>by simp at l,by simp⟩
 |_::_,[],b,h=>by cases h;exact⟨λ_=>true,λj x y _ B=>by simp at B,by simp⟩
 |x::xs,y::ys,b,h=>by
  unfold gv at h
  cases e:f x y with
  |none=>rw[e]at h;cases h
  |some c=>
   cases a:gv f xs ys with
   |none=>rw[e,a]at h;cases h
   |some C=>
    rw[e,a]at h;cases h;obtain⟨g,z,A⟩:=px a;refine⟨λj=>match j with|0=>c|j+1=>g j,λj u v o p=>?_,?_⟩
    ·cases j with
     |zero=>cases o;cases p;exact e
     |succ j=>exact z j u v o p
    ·have w:min (x::xs).length (y::ys).length=min xs.length ys.length+1:=by simp only[Kb];omega
     have r:((x::xs).length==(y::ys).length)=(xs.length==ys.length):=by simp
     rw[w,r,List.range_succ_eq_map,N3,List.all_map,A,Bool.and_assoc];rfl
section
variable{K:Frag}{X:Cx}{f:List (Addr×Obj)}{l:St}{Φ H:Hp}{s:Shared}
def Ep{n:Nat}{g:Nat->Bool}(h:∀j,j<n->g j=true):(List.range n).all g=true:=by rw[Ln];intro j a;exact h j (Kt.mp a)
def bK{a:Type}{xs:List a}{j:Nat}(h:j<xs.length):xs[j]?=some xs[j]:=by simp[h]
inductive CmV:Nat->D->D->Bool->Prop
 |int {n:Nat} (i j:Int):CmV n (.int i) (.int j) (i==j)
 |bl {n:Nat} (i j:Bool):CmV n (.bl i) (.bl j) (i==j)
 |str {n:Nat} (i j:Str):CmV n (.str i) (.str j) (i==j)
 |non {n:Nat}:CmV n .non .non true
 |tup {n:Nat} {xs ys:List D} {b:Bool} (h:gv (dD n) xs ys=some b):CmV (n+1) (.tup xs) (.tup ys) b
 |lst {n:Nat} {xs ys:List D} {b:Bool} (h:(if xs.length=ys.length then gv (dD n) xs ys else some false)=some b):CmV (n+1) (.lst xs) (.lst ys) b
def vZ{n:Nat}{d e:D}{b:Bool}(h:dD n d e=some b):CmV n d e b:=by
 unfold dD at h;split at h
 ·cases h;exact .int _ _
 ·cases h;exact .bl _ _
 ·cases h;exact .str _ _
 ·cases h;exact .non
 ·exact .tup h
 ·exact .lst h
 ·cases h
def xt(E:X.K=K)(I:Inv X f l H s)(sm:Same Φ H):∀(n:Nat){d e:D}{b:Bool}{v:V},dD n d e=some b->Rp K Φ d v->Rp K Φ e v->b=true:=by
 intro n
 induction n using Nat.strongRecOn with
 |ind n C=>
  intro d e b v h p r
  have all:∀{m:Nat}{xs ys:List D}{vs:List V}{b:Bool},m<n->gv (dD m) xs ys=some b->RpL K Φ xs vs->RpL K Φ ys vs->b=true:=λ{m xs ys vs b} B h c o=>by
   obtain⟨g,A,z⟩:=px h;have G:=c.1;have J:=o.1;rw[z,Ep λj F=>?_]
   ·simp;omega
   ·have w:j<vs.length:=by omega
    have x:j<xs.length:=by omega
    have y:j<ys.length:=by omega
    exact C m B (A j _ _ (bK x) (bK y)) (c.2 j _ _ (bK w) (bK x)) (o.2 j _ _ (bK w) (bK y))
  cases vZ h with
  |int i j=>obtain rfl:=p.i;cases r;exact KC i
  |bl i j=>obtain rfl:=p.b;cases r;exact KC i
  |str i j=>obtain rfl:=p.s;cases r;exact KC i
  |non=>rfl
  |tup h=>
   cases p with| @tup a vs xs h1 c h3=>cases r with| @tup _ ws ys k1 o k3=>
   have u:vs=ws:=I.tuple_inj (.of (sm _ _ h1)) (.of (sm _ _ k1));subst u;exact all (L9 _) h ⟨c,h3⟩ ⟨o,k3⟩
  |lst h=>
   cases p with| @lst a vs xs h1 c h3=>cases r with| @lst _ ws ys k1 o k3=>
   have u:vs=ws:=by rw[h1]at k1;cases k1;rfl
   subst u;rw[J9 (c.symm.trans o)]at h;exact all (L9 _) h ⟨c,h3⟩ ⟨o,k3⟩
open PySem.SeqAt in
def vN(hK:X.K=K)(I:Inv X f l H s)(sm:Same Φ H):∀(n:Nat){d e:D}{b:Bool}{x y:V},dD n d e=some b->Rp K Φ d x->Rp K Φ e y->
  ∀(A:Around)(u v:Value),A.units+n<cLine->RelV x u->RelV y v->EqAt A s u v b/\RcAt A s u v b/\RcNeAt A s u v (!b):=by
 intro n
 induction n using Nat.strongRecOn with
 |ind n ih=>
  intro d e b x y h o p A u v hu M N
  have r:∀{m:Nat}{xs ys:List D}{vs J:List V}{its Oz:List Value}{g:Nat->Bool},m+1=n->(∀(j:Nat)(x y:D),xs[j]?=some x->ys[j]?=some y->dD m x y=some (g j))->RpL K Φ xs vs->RpL K Φ ys J->Vals vs its->Vals J Oz->∀j (j1:j<its.toArray.size) (j2:j<Oz.toArray.size),EqAt A.in1 s its.toArray[j] Oz.toArray[j] (g j):=λ{m xs ys vs J its Oz g} hm S C E w z j j1 j2=>by
   have l1:=Vals.length w;have l2:=Vals.length z;have m1:=C.1;have m2:=E.1;simp only[Ka]at j1 j2;obtain⟨x,hx,o⟩:=Vals.get' w j1;obtain⟨y,hy,p⟩:=Vals.get' z j2
   have i1:j<xs.length:=by omega
   have i2:j<ys.length:=by omega
   exact (ih m (by omega) (S j _ _ (bK i1) (bK i2)) (C.2 j x _ hx (bK i1)) (E.2 j y _ hy (bK i2)) A.in1 _ _ (by show A.units+1+m<cLine;omega) o p).1
  have L:A.units<cLine:=by omega
  cases vZ h with
  |int i j=>obtain rfl:=o.i;obtain rfl:=p.i;obtain⟨t,rfl⟩:=M;obtain⟨t',rfl⟩:=N;exact⟨EqAt.int_int i t j t',RcAt.int_int i t j t',RcNeAt.int_int i t j t'⟩
  |bl i j=>obtain rfl:=o.b;obtain rfl:=p.b;cases M;cases N;exact⟨EqAt.bool_bool i j,RcAt.bool_bool i j,RcNeAt.bool_bool i j⟩
  |str i j=>obtain rfl:=o.s;obtain rfl:=p.s;obtain⟨t,rfl⟩:=M;obtain⟨t',rfl⟩:=N;exact⟨EqAt.str_str i t j t',RcAt.str_str i t j t',RcNeAt.str_str i t j t'⟩
  |non=>obtain rfl:=o.n;obtain rfl:=p.n;cases M;cases N;exact⟨EqAt.same _,RcAt.none_none,RcNeAt.none_none⟩
  | @tup n xs ys b q=>
   have T:=o;have U:=p
   cases o with| @tup a vs _ h1 C h3=>cases p with| @tup c J _ k1 E k3=>
   cases M;cases N;obtain⟨g,S,Z⟩:=px q;obtain⟨its,w,F,_⟩:=I.sqb (b:=false) (show SqT X.K H a vs from .of (sm _ _ h1));obtain⟨Oz,z,G,_⟩:=I.sqb (b:=false) (show SqT X.K H c J from .of (sm _ _ k1));have l1:=Vals.length w;have l2:=Vals.length z;have Q:=r rfl S ⟨C,h3⟩ ⟨E,k3⟩ w z;have R:=RcAt.tuples (e:=g) F G L Q;have O:=RcNeAt.tuples (e:=g) F G L Q
   have Y:((List.range (min its.toArray.size Oz.toArray.size)).all g&&its.toArray.size==Oz.toArray.size)=b:=by rw[Z];simp only[Ka];rw[←l1,←l2,C,E]
   rw[Y]at R O;refine⟨?_,R,O⟩;by_cases P:a=c
   ·subst P;rw[xt hK I sm (n+1) h T U];exact EqAt.same _
   ·exact EqAt.of_refs P R
  | @lst n xs ys b q=>
   have T:=o;have U:=p
   cases o with| @lst a vs _ h1 C h3=>cases p with| @lst c J _ k1 E k3=>
   cases M;cases N;obtain⟨its,w,F,_⟩:=I.sqb (b:=true) (show SqL X.K H a vs from SqL.of (sm _ _ h1));obtain⟨Oz,z,G,_⟩:=I.sqb (b:=true) (show SqL X.K H c J from SqL.of (sm _ _ k1));have l1:=Vals.length w;have l2:=Vals.length z
   have B:RcAt A s (.ref a) (.ref c) b/\RcNeAt A s (.ref a) (.ref c) (!b):=by
    by_cases hl:xs.length=ys.length
    ·rw[J9 hl]at q;obtain⟨g,S,Z⟩:=px q;have Q:=r rfl S ⟨C,h3⟩ ⟨E,k3⟩ w z
     have hsz:its.toArray.size=Oz.toArray.size:=by simp;omega
     have R:=RcAt.lists (e:=g) F G hsz L Q;have O:=RcNeAt.lists (e:=g) F G hsz L Q
     have Y:(List.range its.toArray.size).all g=b:=by
      have e1:min xs.length ys.length=its.length:=by omega
      have e2:(xs.length==ys.length)=true:=by simp[hl]
      rw[Z,e1,e2,Bool.and_true,Ka]
     rw[Y]at R O;exact⟨R,O⟩
    ·rw[JZ hl]at q;cases q
     have hsz:(its.toArray.size != Oz.toArray.size)=true:=by simp;omega
     exact⟨RcAt.lists_lengths F G hsz L,RcNeAt.lists_lengths F G hsz L⟩
   refine⟨?_,B.1,B.2⟩;by_cases P:a=c
   ·subst P;rw[xt hK I sm (n+1) h T U];exact EqAt.same _
   ·exact EqAt.of_refs P B.1
end
def kn:cT:=λx y R=>match dD 40 x y with|some b=>R (.bl b)|none=>False
def mQ:cT:=λx y R=>match dD 40 x y with|some b=>R (.bl (!b))|none=>False
section
variable{K:Frag}{X:Cx}
def RpQ.any{Φ H:Hp}{d:D}{v:V}(h:RpQ K Φ H d v)(s:Same Φ H):Rp K H d v:=by
 rcases h with h|⟨a,vs,ds,e,c,f,g⟩
 ·exact h.same s
 ·subst e c;exact (g.same s).lst f
def dw(r:X.A.units+64<cLine):OpD K X (compareOp .Eq) kn:=⟨λe a s w H x y u v Q I j l c=>by
 obtain⟨Φ,o,p,R,sm,f,g,h,k⟩:=c;unfold kn at h;split at h
 ·next b hb=>exact (vN e I (Same.refl H) 40 hb (f.any sm) (g.any sm) X.A u v (by omega) j l).2.1 X.prog X.w _ _ ⟨.bl b,H,I,rfl,k _ Φ H _ h (.refl sm) (.bl b)⟩
 ·exact h.elim⟩
def gj(r:X.A.units+64<cLine):OpD K X (compareOp .NotEq) mQ:=⟨λe a s w H x y u v Q I j l c=>by
 obtain⟨Φ,o,p,R,sm,f,g,h,k⟩:=c;unfold mQ at h;split at h
 ·next b hb=>exact (vN e I (Same.refl H) 40 hb (f.any sm) (g.any sm) X.A u v (by omega) j l).2.2 X.prog X.w _ _ ⟨.bl (!b),H,I,rfl,k _ Φ H _ h (.refl sm) (.bl _)⟩
 ·exact h.elim⟩
def fu:D->Bool
 |.non=>true
 |_=>false
def wM(c:Bool):cT:=λx y R=>match y with|.non=>R (.bl (fu x != c))|.bl b=>(match x with|.bl a=>R (.bl ((a==b) != c))|_=>False)|_=>False
def vk{Φ H:Hp}{d:D}{v:V}(h:RpQ K Φ H d v):decide (v=V.non)=fu d:=by
 cases d with
 |int i=>rw[h.int];rfl
 |bl i=>rw[h.bl];rfl
 |str i=>rw[h.str];rfl
 |non=>rw[h.non];rfl
 |tup ds=>rcases h with h|⟨a, vs, ds, e, _⟩
          · cases h; rfl
          · cases e
 |lst ds=>rcases h with h|⟨a, vs, ds, e, c, _⟩
          · cases h; rfl
          · rw [c]; rfl
 |fzl ds=>rcases h with h|⟨a, vs, ds, e, _⟩
          · cases h; rfl
          · cases e
 |obj C fs=>rcases h with h|⟨a, vs, ds, e, _⟩
            · cases h; rfl
            · cases e
 |map f=>rcases h with h|⟨a, vs, ds, e, _⟩
         · cases h; rfl
         · cases e
 |exc _ _=>rcases h with h|⟨a, vs, ds, e, _⟩
           · cases h<;>rfl
           · cases e
def gX:OpD K X (compareOp .Is) (wM false):=⟨λw c s l H x y u v Q I g j o=>by
 obtain⟨Φ,p,r,R,sm,e,f,h,k⟩:=o
 cases r with
 |non=>
  cases f.non;refine Gi c s l H _ _ u v Q I g j ⟨rfl,?_⟩;rw[vk e];have h':R (.bl (fu p != false)):=h;rw[Bool.bne_false]at h';exact k _ Φ H _ h' (.refl sm) (.bl _)
 |bl b=>
  cases f.bl;obtain⟨a,rfl,h⟩:=jG h;cases e.bl;have h':R (.bl ((a==b) != false)):=h;rw[Bool.bne_false]at h';exact Cn c s l H _ _ u v Q I g j ⟨a,b,rfl,rfl,k _ Φ H _ h' (.refl sm) (.bl _)⟩
 |_=>exact h.elim⟩
def ef:OpD K X (compareOp .IsNot) (wM true):=⟨λw c s l H x y u v Q I g j o=>by
 obtain⟨Φ,p,r,R,sm,e,f,h,k⟩:=o
 cases r with
 |non=>
  cases f.non;refine C8 c s l H _ _ u v Q I g j ⟨rfl,?_⟩;rw[vk e];have h':R (.bl (fu p != true)):=h;rw[Bool.bne_true]at h';exact k _ Φ H _ h' (.refl sm) (.bl _)
 |bl b=>
  cases f.bl;obtain⟨a,rfl,h⟩:=jG h;cases e.bl;have h':R (.bl ((a==b) != true)):=h;rw[Bool.bne_true]at h';exact Jb c s l H _ _ u v Q I g j ⟨a,b,rfl,rfl,k _ Φ H _ h' (.refl sm) (.bl _)⟩
 |_=>exact h.elim⟩
end
end L2
namespace HT
open PySem PySem.Spec PyProof.Rows
end HT
namespace L2
open PySem PySem.Spec PyProof.Rows
section
variable{K:Frag}{X:Cx}{e a b c:Expr}{es:List Expr}{A M:Pos}{t B tb:TD}{C:aR}
def pN:cT:=λx y R=>match y with
 |.int i=>(match x with
  |.lst ds=>∃d,cE ds i=some d/\R d
  |.tup ds=>∃d,cE ds i=some d/\R d
  |.fzl ds=>∃d,cE ds i=some d/\R d
  |.str z=>z.length<=sizeLine/\∃c,cE z.cps.toList i=some c/\R (.str ⟨#[c]⟩)
  |_=>False)
 |_=>False
def oW{Φ:Hp}{ds:List D}{vs:List V}{d:D}{i:Int}(h:RpL K Φ ds vs)(e:cE ds i=some d):∃v,cE vs i=some v/\Rp K Φ d v:=by
 unfold cE at e ⊢;rw[h.1]
 cases f:fL ds.length i with
 |none=>rw[f]at e;cases e
 |some j=>
  rw[f,Option.bind_some]at e;rw[Option.bind_some];exact h.at e
def xC(P:X.K=K):kg X (lR2 K pN):=by
 intro g f j s O H x y v u Q I L N ⟨Φ,S,Y,R,sm,J,U,h,k⟩ G;obtain⟨i,rfl,h⟩:=jI h;cases U.int
 cases S with
 |lst ds=>
  obtain⟨d,l,o⟩:=h;obtain⟨a,vs,rfl,E,F⟩:=J.lst sm;obtain⟨w,r,p⟩:=oW F l;exact qS g f j s O H _ _ v u Q I L N ⟨a,vs,i,w,rfl,rfl,.of E,r,k _ Φ H _ o (.refl sm) p⟩ G
 |tup ds=>
  obtain⟨d,l,o⟩:=h;obtain⟨a,vs,rfl,E,_,F⟩:=J.tup sm;obtain⟨w,r,p⟩:=oW F l;exact AJ g f j s O H _ _ v u Q I L N ⟨a,vs,i,w,rfl,rfl,P▸E,r,k _ Φ H _ o (.refl sm) p⟩ G
 |fzl ds=>
  obtain⟨d,l,o⟩:=h;obtain⟨a,vs,rfl,E,F⟩:=J.fzl sm;obtain⟨w,r,p⟩:=oW F l;exact qS g f j s O H _ _ v u Q I L N ⟨a,vs,i,w,rfl,rfl,P▸E,r,k _ Φ H _ o (.refl sm) p⟩ G
 |str z=>
  obtain⟨T,c,l,o⟩:=h;cases J.str;exact DX g f j s O H _ _ v u Q I L N ⟨z,i,c,rfl,rfl,T,l,k _ Φ H _ o (.refl sm) (.str _)⟩ G
 |_=>exact h.elim
def bD(g:PQ K X a B)(h:PQ K X b tb)(j:oK b):PD K X (.Subscript a b A) (jw pN B tb):=
 ⟨λf=>(sG (xC f) (g.pe f) (h.pe f) j).imp λ_ _ _=>oH⟩
abbrev jr:=bz->(Option Int->Prop)->Prop
def aA{i:Int}{j:Tok}{p:Pos}(f:PQ K X a B):PD K X (.Subscript a (.Constant (.int i) j p) A) (jw pN B (dC (.int i))):=bD f (PD.q ao) λ_ _=>rfl
inductive lO(K:Frag)(t:jr)(σ:St)(H:Hp)(Q:Option Int->Hp->Prop):Prop|mk (H0:Hp) (Φ:Hp) (ρ:bz) (R:Option Int->Prop) (_:EnvD K H0 Φ H σ ρ) (_:t ρ R) (_:∀o Φ' H',R o->Gr Φ H Φ' H'->Q o H')
structure POD(K:Frag)(X:Cx)(e:Option Expr)(t:jr):Prop where po:X.K=K->PO X e (lO K t)
def yj:jr:=λ_ R=>R none
def BF(t:TD):jr:=λρ R=>t ρ λd=>match d with|.int i=>R (some i)|_=>False
def PO.imp{o:Option Expr}{t t':TO}(h:PO X o t)(k:∀g H Q,t' g H Q->t g H Q):PO X o t':=λf s g H Q I j=>h f s g H Q I (k g H Q j)
def zJ:POD K X none yj:=⟨λ_=>po_none.imp λh H Q f=>by obtain⟨g,Φ,ρ,R,E,t,k⟩:=f;exact k none Φ H t (.refl E.fz)⟩
def Bc(h:PQ K X e t):POD K X (some e) (BF t):=⟨λp=>(Hi (h.pe p)).imp λw H Q o=>by obtain⟨j,Φ,ρ,R,E,t,k⟩:=o;exact⟨j,Φ,ρ,_,E,t,λd f l v r g u=>by
 obtain⟨i,rfl,r⟩:=jI r
 exact⟨i,u.int,k _ f l r g⟩⟩⟩
variable{lo J:Option Expr}{to G:jr}
def yr(t:TD)(to G:jr):aR:=λρ R=>t ρ λx=>to ρ λl=>G ρ λh=>match x with
 |.lst ds=>NF (iH ds l h) R
 |.fzl ds=>NF (iH ds l h) R
 |_=>False
def D6(P:PQ K X a B)(T:POD K X lo to)(S:POD K X J G):PF K X (.Subscript a (.Slice lo J none M) A) (yr B to G):=
 ⟨λo=>(DU (o▸Ej:sD X (xS K)) (P.pe o) (T.po o) (S.po o)).imp λσ H Q N=>by obtain⟨r,Φ,ρ,R,E,t,k⟩:=N;exact
  ⟨r,Φ,ρ,_,E,t,λO F H1 x Y u U=>⟨r,F,ρ,_,E.gr u,Y,λl I H2 Z v=>⟨r,I,ρ,_,(E.gr u).gr v,Z,λh Φ3 H3 z L=>by
   have g:=(u.trans v).trans L;have j:=U.gr (v.trans L)
   cases O with
   |lst ds=>
    obtain⟨a,vs,rfl,w,y⟩:=j.lst g.s;exact⟨a,vs,rfl,.of w,λp f=>k _ _ _ p _ z.get (g.trans (.fresh g.s f _)) (g.h.free f) (g.s.free f) br (y.cut l h)⟩
   |fzl ds=>
    obtain⟨a,vs,rfl,w,y⟩:=j.fzl g.s;exact⟨a,vs,rfl,w,λp f=>k _ _ _ p _ z.get (g.trans (.fresh g.s f _)) (g.h.free f) (g.s.free f) br (y.cut l h)⟩
   |_=>exact z.elim⟩⟩⟩⟩
def DG(B tb:TD):aR:=λρ R=>B ρ λx=>tb ρ λy=>match x,y with|.lst xs,.int k=>(-(2^63)<=k/\k<2^63/\xs.length*k.toNat<=sizeLine)/\NF (List.replicate k.toNat xs).flatten R|_,_=>False
def IL(O:PQ K X a B)(P:PQ K X b tb):PF K X (.BinOp a .Mult b A) (DG B tb):=
 ⟨λz=>(qT uu (O.pe z) (P.pe z)).imp λσ H Q F=>by obtain⟨r,Φ,ρ,R,E,t,k⟩:=F;exact⟨r,Φ,ρ,_,E,t,λI o Z x U u S=>⟨r,o,ρ,_,E.gr u,U,λL Y H2 y f v T=>by
  have g:=u.trans v;have l:=S.gr v
  cases I with
  |lst xs=>cases L with
   |int j=>
    obtain⟨a,vs,rfl,N,w⟩:=l.lst g.s;cases T.int;exact⟨a,j,vs,rfl,rfl,N,f.1.1,f.1.2.1,by rw[w.1];exact f.1.2.2,λp h=>k _ _ _ p _ f.2.get (g.trans (.fresh g.s h _)) (g.h.free h) (g.s.free h) br (w.rep _)⟩
   |_=>exact f.elim
  |_=>exact f.elim⟩⟩⟩
abbrev cu:=List D->(D->Prop)->Prop
inductive lSp(K:Frag)(sp:cu)(vs:List V)(H:Hp)(Q:VK)(E_:XK):Prop|mk (Φ:Hp) (ds:List D) (R:D->Prop) (_:Same Φ H) (_:TabF K Φ) (_:RpL K Φ ds vs) (_:sp ds R) (_:∀d Φ' H' v,R d->Gr Φ H Φ' H'->Rp K Φ' d v->Q v H')
def n5(sp:cu)(t:aR):TD:=λρ R=>t ρ λds=>sp ds R
variable{CX:eE}{k:Nat}{f:Addr}{L:FuncData}{ps:List Str}{sp:cu}{x:Str}{p:Pos}{E:XK}
def G4(F:FnOk X.prog X.w X.K X.mg X.base CX k f L ps (lSp K sp))(U:Room k X.A)(P:Gl X x)(T:X.mg x=some (.ref f))(S:keepIn X.K (.ref f)=true)(N:Binds X.K L ps [])(Y:jt CX X E)
  (I:PAD K X (e::es) C) (O:starEach (e::es) X.env=(false,eval e X.env)::starEach es X.env) (u:(backTo A (starEach es X.env)).any (·.1)=false) (y:ab x:=by decide) :
  PD K X (.Call (.Name x p) (e::es) [] A) (n5 sp C):=
 ⟨λz=>(p9 F U P T S N .nil Y (I.pa z) y O u).imp λσ H Q w=>by obtain⟨o,Φ,ρ,R,E,t,k⟩:=w;exact⟨o,Φ,ρ,_,E,t,λds j H1 vs r g rl _=>⟨j,ds,R,g.s,E.tb.same g.f,by rwa[Kz],r,λd h l v Z g' rv=>k d h l v Z (g.trans g') rv⟩⟩⟩
def pf(K:Frag)(Φ H:Hp)(ds:List D)(vs:List V):Prop:=vs.length=ds.length/\∀(i:Nat)(v:V)(d:D),vs[i]?=some v->ds[i]?=some d->RpQ K Φ H d v
inductive lAQ(K:Frag)(t:aR)(σ:St)(H:Hp)(Q:List V->Hp->Prop):Prop|mk (H0:Hp) (Φ:Hp) (ρ:bz) (R:List D->Prop) (_:EnvD K H0 Φ H σ ρ) (_:t ρ R) (_:∀ds Φ' H' vs,R ds->Gr Φ H Φ' H'->pf K Φ' H' ds vs->Q vs H')
structure PAQ(K:Frag)(X:Cx)(es:List Expr)(t:aR):Prop where pa:X.K=K->PA X es (lAQ K t)
def aX:PAQ K X [] wU:=⟨λ_=>pa_nil.imp λl H Q g=>by obtain⟨j,Φ,ρ,R,E,t,k⟩:=g;exact k [] Φ H [] t (.refl E.fz) ⟨rfl,λi v d h _=>by simp at h⟩⟩
def aN(I:PQ K X e t)(N:PAQ K X es C)(O:starEach (e::es) X.env=(false,eval e X.env)::starEach es X.env):PAQ K X (e::es) (wY t C):=
 ⟨λw=>(eZ (I.pe w) (N.pa w) O).imp λU H Q F=>by obtain⟨l,Φ,ρ,R,E,t,k⟩:=F;exact⟨l,Φ,ρ,_,E,t,λd h T v r g S=>⟨l,h,ρ,_,E.gr g,r,λds j z vs P o rl=>
  k _ j z _ P (g.trans o) ⟨by simp[rl.1],λi u d y hd=>by
   cases i with
   |zero=>cases y;cases hd;exact S.gr o
   |succ i=>exact rl.2 i u d y hd⟩⟩⟩⟩
inductive lC(K:Frag)(r:cu)(vs:List V)(H:Hp)(Q:VK):Prop|mk (Φ:Hp) (ds:List D) (R:D->Prop) (_:Same Φ H) (_:pf K Φ H ds vs) (_:r ds R) (_:∀d Φ' H' v,R d->Gr Φ H Φ' H'->Rp K Φ' d v->Q v H')
structure CallD(K:Frag)(X:Cx)(f:Value)(r:cu):Prop where c:X.K=K->eB X f (lC K r)
def bM{id:String}{r:cu}(I:CallD K X (.builtin id) r)(O:Gl X x)(P:X.mg x=none)(T:bootBuiltins x=some (.builtin id))(F:PAQ K X (e::es) C)
  (N:starEach (e::es) X.env=(false,eval e X.env)::starEach es X.env) (w:(backTo A (starEach es X.env)).any (·.1)=false) (S:x≠"__name__":=by decide) (z:ab x:=by decide):PD K X (.Call (.Name x p) (e::es) [] A) (n5 r C):=
 ⟨λl=>(uw (I.c l) O P T (F.pa l) S z N w).imp λσ H Q y=>by obtain⟨u,Φ,ρ,R,E,t,k⟩:=y;exact⟨u,Φ,ρ,_,E,t,λds j Z vs r g rl=>⟨j,ds,R,g.s,rl,r,λd h o v U g' Y=>k d h o v U (g.trans g') Y⟩⟩⟩
def b9{T:String}{r:cu}(I:CallD K X (.type T) r)(O:Gl X x)(P:X.mg x=none)(U:bootBuiltins x=some (.type T))(F:PAQ K X (e::es) C)
  (N:starEach (e::es) X.env=(false,eval e X.env)::starEach es X.env) (w:(backTo A (starEach es X.env)).any (·.1)=false) (S:x≠"__name__":=by decide) (z:ab x:=by decide):PD K X (.Call (.Name x p) (e::es) [] A) (n5 r C):=
 ⟨λl=>(lg (I.c l) O P U (F.pa l) S z N w).imp λσ H Q y=>by obtain⟨u,Φ,ρ,R,E,t,k⟩:=y;exact⟨u,Φ,ρ,_,E,t,λds j H1 vs r g rl=>⟨j,ds,R,g.s,rl,r,λd h o v Y g' Z=>k d h o v Y (g.trans g') Z⟩⟩⟩
def fM{Φ H:Hp}{d:D}{vs:List V}(h:pf K Φ H [d] vs):∃v,vs=[v]/\RpQ K Φ H d v:=by
 obtain⟨j,g⟩:=h
 match vs,j,g with
 | [v],_,g=>exact⟨v,rfl,g 0 v d rfl rfl⟩
def wB{Φ H:Hp}{d e:D}{vs:List V}(h:pf K Φ H [d,e] vs):∃v w,vs=[v,w]/\RpQ K Φ H d v/\RpQ K Φ H e w:=by
 obtain⟨j,g⟩:=h
 match vs,j,g with
 | [v,w],_,g=>exact⟨v,w,rfl,g 0 v d rfl rfl,g 1 w e rfl rfl⟩
def D4:cu:=λds R=>match ds with| [.lst xs]=>R (.int xs.length)| [.tup xs]=>R (.int xs.length)| [.fzl xs]=>R (.int xs.length)| [.str z]=>z.length<=sizeLine/\R (.int z.length)|_=>False
def cZ:CallD K X (.builtin "len") D4:=⟨λw g s u H xs us Q I rr y=>by
 obtain⟨Φ,ds,R,sm,o,h,k⟩:=y
 match ds,h with
 | [.lst xs],h=>
  obtain⟨v,rfl,r⟩:=fM o;obtain⟨a,vs,rfl,j,l⟩:=r.lst sm;exact qX g s u H _ us Q I rr ⟨a,vs,rfl,.inl (.of j),by rw[l.1];exact k _ Φ H _ h (.refl sm) (.int _)⟩
 | [.tup xs],h=>
  obtain⟨v,rfl,r⟩:=fM o;obtain⟨a,vs,rfl,j,_,l⟩:=r.tup sm;exact qX g s u H _ us Q I rr ⟨a,vs,rfl,.inr (w▸j),by rw[l.1];exact k _ Φ H _ h (.refl sm) (.int _)⟩
 | [.fzl xs],h=>
  obtain⟨v,rfl,r⟩:=fM o;obtain⟨a,vs,rfl,j,l⟩:=r.fzl sm;exact qX g s u H _ us Q I rr ⟨a,vs,rfl,.inl (w▸j),by rw[l.1];exact k _ Φ H _ h (.refl sm) (.int _)⟩
 | [.str z],h=>
  obtain⟨v,rfl,r⟩:=fM o;cases r.str
  exact Ik g s u H _ us Q I rr ⟨z,rfl,h.1,k _ Φ H _ h.2 (.refl sm) (.int _)⟩⟩
def Fw:cu:=λds R=>match ds with| [.int i]=>R (.int (if i<0 then -i else i))|_=>False
def nR:CallD K X (.builtin "abs") Fw:=⟨λu g s o H xs us Q I rr j=>by
 obtain⟨Φ,ds,R,sm,l,h,k⟩:=j
 match ds,h with
 | [.int i],h=>
  obtain⟨v,rfl,r⟩:=fM l;cases r.int
  exact GS g s o H _ us Q I rr ⟨i,rfl,k _ Φ H _ h (.refl sm) (.int _)⟩⟩
def AK:cu:=λds R=>match ds with| [.int i,.int j]=>R (.int (if j>i then j else i))|_=>False
def yH:cu:=λds R=>match ds with| [.int i,.int j]=>R (.int (if j<i then j else i))|_=>False
def ur(o:X.calm=true):CallD K X (.builtin "max") AK:=⟨λF g s z H xs us Q I rr l=>by
 obtain⟨Φ,ds,R,sm,r,h,k⟩:=l
 match ds,h with
 | [.int i,.int j],h=>
  obtain⟨v,w,rfl,u,y⟩:=wB r;cases u.int;cases y.int
  exact HS o g s z H _ us Q I rr ⟨i,j,rfl,k _ Φ H _ h (.refl sm) (.int _)⟩⟩
def GU(o:X.calm=true):CallD K X (.builtin "min") yH:=⟨λF g s z H xs us Q I rr l=>by
 obtain⟨Φ,ds,R,sm,r,h,k⟩:=l
 match ds,h with
 | [.int i,.int j],h=>
  obtain⟨v,w,rfl,u,y⟩:=wB r;cases u.int;cases y.int
  exact Gh o g s z H _ us Q I rr ⟨i,j,rfl,k _ Φ H _ h (.refl sm) (.int _)⟩⟩
def xT{Φ:Hp}{ns:List Int}{vs:List V}(h:RpL K Φ (ns.map D.int) vs):vs=ns.map V.int:=by
 refine Lf λi=>?_;rw[J7]
 cases e:ns[i]? with
 |none=>
  have:=Mu.mp e;rw[KI (by rwa[h.1,JT])];rfl
 |some n=>
  obtain⟨v,g,r⟩:=h.at (i:=i) (d:=.int n) (by rw[J7,e];rfl);obtain rfl:=r.i;rw[g];rfl
def wa{Φ:Hp}{bs:List Bool}{vs:List V}(h:RpL K Φ (bs.map D.bl) vs):vs=bs.map V.bl:=by
 refine Lf λi=>?_;rw[J7]
 cases e:bs[i]? with
 |none=>
  have:=Mu.mp e;rw[KI (by rwa[h.1,JT])];rfl
 |some n=>
  obtain⟨v,g,r⟩:=h.at (i:=i) (d:=.bl n) (by rw[J7,e];rfl);obtain rfl:=r.b;rw[g];rfl
def RpQ.sqb{Φ H:Hp}{d:D}{v:V}{ds:List D}(s:Same Φ H)(h:RpQ K Φ H d v)(e:df d=some ds):∃(q:Bool)(a:Addr)(vs:List V),v=.ref a/\SqB K q H a vs/\RpL K Φ ds vs:=by
 obtain⟨a,vs,j,g,l⟩:=h.seq s e;rcases g with g|g
 ·exact⟨true,a,vs,j,g,l⟩
 ·exact⟨false,a,vs,j,g,l⟩
def AA:cu:=λds R=>match ds with| [d]=>∃ns:List Int,df d=some (ns.map D.int)/\R (.int ns.sum)|_=>False
def xU(u:X.calm=true):CallD K X (.builtin "sum") AA:=⟨λo g s z H xs us Q I rr l=>by
 obtain⟨Φ,ds,R,sm,w,h,k⟩:=l
 match ds,h with
 | [d],⟨ns,e,h⟩=>
  obtain⟨v,rfl,r⟩:=fM w;obtain⟨q,a,vs,rfl,j,y⟩:=r.sqb sm e;rw[xT y]at j
  exact By q u g s z H _ us Q I rr ⟨a,ns,rfl,o▸j,k _ Φ H _ h (.refl sm) (.int _)⟩⟩
def xN(f:List Bool->Bool):cu:=λds R=>match ds with| [d]=>∃bs:List Bool,df d=some (bs.map D.bl)/\R (.bl (f bs))|_=>False
def qe(u:X.calm=true):CallD K X (.builtin "all") (xN λbs=>bs.all id):=⟨λo g s z H xs us Q I rr l=>by
 obtain⟨Φ,ds,R,sm,w,h,k⟩:=l
 match ds,h with
 | [d],⟨ns,e,h⟩=>
  obtain⟨v,rfl,r⟩:=fM w;obtain⟨q,a,vs,rfl,j,y⟩:=r.sqb sm e;rw[wa y]at j
  exact BN q u g s z H _ us Q I rr ⟨a,ns,rfl,o▸j,k _ Φ H _ h (.refl sm) (.bl _)⟩⟩
def vq(u:X.calm=true):CallD K X (.builtin "any") (xN λbs=>bs.any id):=⟨λo g s z H xs us Q I rr l=>by
 obtain⟨Φ,ds,R,sm,w,h,k⟩:=l
 match ds,h with
 | [d],⟨ns,e,h⟩=>
  obtain⟨v,rfl,r⟩:=fM w;obtain⟨q,a,vs,rfl,j,y⟩:=r.sqb sm e;rw[wa y]at j
  exact G3 q u g s z H _ us Q I rr ⟨a,ns,rfl,o▸j,k _ Φ H _ h (.refl sm) (.bl _)⟩⟩
def AM:cu:=λds R=>match ds with| [.lst xs]=>R (.tup xs)| [.tup xs]=>R (.tup xs)| [.fzl xs]=>R (.tup xs)|_=>False
def cN:CallD K X (.type "tuple") AM:=⟨λy g s w H xs us Q I rr z=>by
 obtain⟨Φ,ds,R,sm,u,h,k⟩:=z
 match ds,h with
 | [.lst xs],h=>
  obtain⟨v,rfl,r⟩:=fM u;obtain⟨a,vs,rfl,l,o⟩:=r.lst sm;exact rP g s w H _ us Q I rr ⟨a,vs,rfl,.inl ⟨.of l,λp j=>k _ _ _ _ h (.new sm j _) ((o.same (dY (sm.free j) _)).tup br)⟩⟩
 | [.fzl xs],h=>
  obtain⟨v,rfl,r⟩:=fM u;obtain⟨a,vs,rfl,l,o⟩:=r.fzl sm;exact rP g s w H _ us Q I rr ⟨a,vs,rfl,.inl ⟨y▸l,λp j=>k _ _ _ _ h (.new sm j _) ((o.same (dY (sm.free j) _)).tup br)⟩⟩
 | [.tup xs],h=>
  obtain⟨v,rfl,r⟩:=fM u;obtain⟨a,vs,rfl,l,F,o⟩:=r.tup sm
  exact rP g s w H _ us Q I rr ⟨a,vs,rfl,.inr ⟨y▸l,k _ Φ H _ h (.refl sm) (o.tup F)⟩⟩⟩
def DB(t:TD):aR:=λρ R=>t ρ λd=>∃ds,df d=some ds/\R ds
def lr(F:Gl X "list")(I:X.mg "list"=none)(z:PQ K X e t)(o:starEach [e] X.env=(false,eval e X.env)::starEach [] X.env):PF K X (.Call (.Name "list" p) [e] [] A) (DB t):=
 ⟨λj=>(lg uR F I boot_list (eZ (z.pe j) pa_nil o) (by decide) (by decide) o ag).imp λU H Q w=>by obtain⟨u,Φ,ρ,R,E,t,k⟩:=w;exact⟨u,Φ,ρ,_,E,t,λd S T v r g P=>by
  obtain⟨ds,y,r⟩:=r;obtain⟨a,vs,rfl,N,O⟩:=P.seq g.s y
  exact⟨a,vs,rfl,j▸N,λl h=>k _ _ _ l _ r (g.trans (.fresh g.s h _)) (g.h.free h) (g.s.free h) br O⟩⟩⟩
def HP:cu:=λds R=>match ds with| [.int i]=>R (.int i)| [.bl b]=>R (.int (if b then 1 else 0))|_=>False
def j8:CallD K X (.type "int") HP:=⟨λu g s l H xs us Q I rr o=>by
 obtain⟨Φ,ds,R,sm,j,h,k⟩:=o
 match ds,h with
 | [.int i],h=>
  obtain⟨v,rfl,r⟩:=fM j;cases r.int;exact vt g s l H _ us Q I rr (.inl ⟨i,rfl,k _ Φ H _ h (.refl sm) (.int _)⟩)
 | [.bl b],h=>
  obtain⟨v,rfl,r⟩:=fM j;cases r.bl
  exact vt g s l H _ us Q I rr (.inr ⟨b,rfl,k _ Φ H _ h (.refl sm) (.int _)⟩)⟩
def lu(d:D)(T:String):Option Bool:=match d with
 |.int _=>if T="int" then some true else if T="bool" then some false else if T="tuple" then some false else if T="str" then some false else none
 |.bl _=>if T="int" then some true else if T="bool" then some true else if T="tuple" then some false else none
 |.str _=>if T="str" then some true else if T="tuple" then some false else none
 |.tup _=>if T="tuple" then some true else if T="int" then some false else none
 |.lst _=>if T="tuple" then some false else if T="list" then some true else none
 |_=>none
end
structure SteadyD(K:Frag)(J:It)(Φ:Hp)(ds:List D):Prop where
 go:∀i H,Same Φ H->i<ds.length->J.go i H
 yl:∀i Φ2 H x H2 d,Same Φ Φ2->Same Φ2 H->ds[i]?=some d->J.yld i H x H2->∃Φ3,Gr Φ2 H Φ3 H2/\Rp K Φ3 d x
 stop:∀H,Same Φ H->J.stop ds.length H
section
variable{K:Frag}{Φ:Hp}{ds es:List D}{vs c:List V}{a:Addr}
def BG(h:SqL K Φ a vs)(r:RpL K Φ ds vs):SteadyD K (qZ K a) Φ ds:=
 ⟨λi H s l=>⟨vs,vs[i]'(by rwa[r.1]),s.seq h,bK _⟩,λi f H x j d g s hd y=>by
  obtain⟨e,y⟩:=y;subst e
  exact⟨f,.refl s,(r.2 i x d (y vs ((g.trans s).seq h)) hd).same g⟩,λH s=>⟨vs,s.seq h,by rw[r.1];exact J3 _⟩⟩
def Je(h:SqT K Φ a vs)(r:RpL K Φ ds vs):SteadyD K (qO K a) Φ ds:=
 ⟨λi H s l=>⟨vs,vs[i]'(by rwa[r.1]),s.sqt h,bK _⟩,λi f H x j d g s hd y=>by
  obtain⟨e,y⟩:=y;subst e
  exact⟨f,.refl s,(r.2 i x d (y vs ((g.trans s).sqt h)) hd).same g⟩,λH s=>⟨vs,s.sqt h,by rw[r.1];exact J3 _⟩⟩
def cQ(lo:Int)(n:Nat):List D:=(List.range n).map λi=>D.int (lo+(i:Nat))
def gm(lo:Int)(n:Nat):(cQ lo n).length=n:=by unfold cQ;simp
def gR{lo:Int}{n i:Nat}{d:D}(h:(cQ lo n)[i]?=some d):i<n/\d=.int (lo+(i:Nat)):=by
 have e:i<n:=by have:=aE h;rwa [gm]at this
 unfold cQ at h;rw[J7,LO e]at h;cases h;exact⟨e,rfl⟩
def qk{lo:Int}{n:Nat}:SteadyD K (lZ lo n) Φ (cQ lo n):=
 ⟨λi H s g=>by rw[gm]at g;exact g,λi f H x h d j s hd y=>by
  obtain⟨e,y⟩:=y;subst e y;rw[(gR hd).2]
  exact⟨f,.refl s,.int _⟩,λH s=>by rw[gm];exact J3 n⟩
def ip(ds:List D):List D:=ds.zipIdx.map λp=>.tup [.int (p.2:Nat),p.1]
def eY(ds:List D):(ip ds).length=ds.length:=by unfold ip;simp
def gH{i:Nat}{d:D}(h:(ip ds)[i]?=some d):∃e,ds[i]?=some e/\d=.tup [.int (i:Nat),e]:=by
 unfold ip at h;rw[J7,List.getElem?_zipIdx]at h
 cases e:ds[i]? with
 |none=>rw[e]at h;cases h
 |some x=>rw[e]at h;cases h;exact⟨x,rfl,by simp⟩
def Rp.pair{H:Hp}{t:Addr}{d e:D}{x y:V}(h:H t=some (.tup [x,y]))(f:Rp K H d x)(g:Rp K H e y):Rp K H (.tup [d,e]) (.ref t):=(RpL.cons f (.one g)).tup h
def Ip{b:Bool}(h:SqB K b Φ a vs)(r:RpL K Φ ds vs):SteadyD K (nG K b a) Φ (ip ds):=
 ⟨λi H s o=>by rw[eY]at o;exact⟨vs,vs[i]'(by rwa[r.1]),SqB.same s h,bK _⟩,λi u H x w d g s hd y=>by
  obtain⟨t,v,f,e,j,y⟩:=y;subst e j;obtain⟨e,l,rfl⟩:=gH hd;have p:=(r.2 i v e (y vs (SqB.same (g.trans s) h)) l).same (g.trans (dY (s.free f) (.tup [.int i,v])))
  exact⟨_,.new s f _,.pair br (.int _) p⟩,λH s=>by rw[eY];exact⟨vs,SqB.same s h,by rw[r.1];exact J3 _⟩⟩
def fU(ds es:List D):List D:=List.zipWith (λx y=>.tup [x,y]) ds es
def v5(ds es:List D):(fU ds es).length=min ds.length es.length:=by unfold fU;simp
def yn{i:Nat}{d:D}(h:(fU ds es)[i]?=some d):∃x y,ds[i]?=some x/\es[i]?=some y/\d=.tup [x,y]:=by
 unfold fU at h;rw[Mi]at h
 cases e:ds[i]? with
 |none=>rw[e]at h;cases h
 |some x=>
  cases f:es[i]? with
  |none=>rw[e,f]at h;cases h
  |some y=>rw[e,f]at h;cases h;exact⟨x,y,rfl,rfl,rfl⟩
def Cr{o r:Bool}{a1 a2:Addr}(f:SqB K o Φ a1 vs)(g:SqB K r Φ a2 c)(h:RpL K Φ ds vs)(j:RpL K Φ es c):SteadyD K (qf K o a1 r a2) Φ (fU ds es):=
 ⟨λi H s A=>by
  rw[v5]at A
  have E:i<vs.length:=by rw[h.1];omega
  have F:i<c.length:=by rw[j.1];omega
  exact⟨vs,c,vs[i],c[i],SqB.same s f,SqB.same s g,bK E,bK F⟩,λi J H x L d l s hd y=>by
  obtain⟨t,u,v,w,e,z,G,I⟩:=y;subst e z;obtain⟨p,q,B,C,rfl⟩:=yn hd;have sn:=l.trans (dY (s.free w) (.tup [u,v]))
  exact⟨_,.new s w _,.pair br ((h.2 i u p (G vs (SqB.same (l.trans s) f)) B).same sn) ((j.2 i v q (I c (SqB.same (l.trans s) g)) C).same sn)⟩,λH s=>by
  rw[v5]
  exact⟨vs,c,SqB.same s f,SqB.same s g,by rw[h.1,j.1];omega⟩⟩
end
inductive lI(K:Frag)(t:aR)(σ:St)(H:Hp)(R':It->Hp->Prop):Prop|mk (H0:Hp) (Φ:Hp) (ρ:bz) (R:List D->Prop) (_:EnvD K H0 Φ H σ ρ) (_:t ρ R) (_:∀ds Φ' H' J,R ds->Gr Φ H Φ' H'->SteadyD K J Φ' ds->R' J H')
structure PID(K:Frag)(X:Cx)(tg e:Expr)(t:aR):Prop where pi:X.K=K->PI X tg e (lI K t)
def PI.imp{X:Cx}{f e:Expr}{t t':TI}(h:PI X f e t)(k:∀c H R,t' c H R->t c H R):PI X f e t':=λa s c H R I g=>h a s c H R I (k c H R g)
section
variable{K:Frag}{X:Cx}{l e a b:Expr}{es:List Expr}{c p:Pos}{t:TD}{f:aR}
def wC{es:List Expr}{k:Nat}{t:fF}{n:Nat}(j:X.K=K)(o:X.calm=true)(h:PGs X es t)(r:(assignEach es X.env).length=n)(g:(assignEach es X.env).findIdx? (·.1)=none):PG X (.Tuple es k c) (rJ K n t):=j▸wR o h r g
def w8{es:List Expr}{k:Nat}{t:fF}{n:Nat}(j:X.K=K)(o:X.calm=true)(h:PGs X es t)(r:(assignEach es X.env).length=n)(g:(assignEach es X.env).findIdx? (·.1)=none):PG X (.Tuple es k c) (qP K n t):=j▸Jg o h r g
def Gc(t:aR):aR:=λρ R=>t ρ λds=>match ds with| [.int j]=>(-(2^62)<=j/\j<2^62)/\R (cQ 0 j.toNat)|_=>False
def GL(t:aR):aR:=λρ R=>t ρ λds=>match ds with| [.int i,.int j]=>(-(2^62)<=i/\i<2^62/\-(2^62)<=j/\j<2^62)/\R (cQ i (j-i).toNat)|_=>False
def RpL.one_inv{Φ:Hp}{d:D}{vs:List V}(h:RpL K Φ [d] vs):∃v,vs=[v]/\Rp K Φ d v:=by
 obtain⟨j,g⟩:=h
 match vs,j,g with
 | [v],_,g=>exact⟨v,rfl,g 0 v d rfl rfl⟩
def RpL.two_inv{Φ:Hp}{d e:D}{vs:List V}(h:RpL K Φ [d,e] vs):∃v w,vs=[v,w]/\Rp K Φ d v/\Rp K Φ e w:=by
 obtain⟨j,g⟩:=h
 match vs,j,g with
 | [v,w],_,g=>exact⟨v,w,rfl,g 0 v d rfl rfl,g 1 w e rfl rfl⟩
def ir(z:Gl X "range")(A:X.mg "range"=none)(y:PAD K X [a] f)(B:starEach [a] X.env=[(false,eval a X.env)]:=by rfl):PID K X l (.Call (.Name "range" p) [a] [] c) (Gc f):=
 ⟨λx=>(vi z A (y.pa x) B).imp λI H G w=>by obtain⟨o,Φ,ρ,R,E,t,k⟩:=w;exact⟨o,Φ,ρ,_,E,t,λds h u vs r g F _=>by
  match ds,r with
  | [.int j],r=>
   obtain⟨v,rfl,C⟩:=F.one_inv;obtain rfl:=C.i
   exact⟨j,rfl,r.1.1,r.1.2,k _ h u _ r.2 g qk⟩⟩⟩
def BL(B:Gl X "range")(C:X.mg "range"=none)(A:PAD K X [a,b] f)(F:starEach [a,b] X.env=[(false,eval a X.env),(false,eval b X.env)]:=by rfl)(x:starEach [b] X.env=[(false,eval b X.env)]:=by rfl):PID K X l (.Call (.Name "range" p) [a,b] [] c) (GL f):=
 ⟨λz=>(Dx B C (A.pa z) F x).imp λM H L y=>by obtain⟨o,Φ,ρ,R,E,t,k⟩:=y;exact⟨o,Φ,ρ,_,E,t,λds h u vs r g J _=>by
  match ds,r with
  | [.int i,.int j],r=>
   obtain⟨v,w,rfl,G,I⟩:=J.two_inv;obtain rfl:=G.i;obtain rfl:=I.i
   exact⟨i,j,rfl,r.1,k _ h u _ r.2 g qk⟩⟩⟩
end
abbrev dG:=D->bz->(bz->Prop)->Prop
abbrev fV:=List D->bz->(bz->Prop)->Prop
inductive lG(K:Frag)(g:dG)(v:V)(σ:St)(H:Hp)(Q:St->Hp->Prop):Prop|mk (H0:Hp) (Φ:Hp) (ρ:bz) (d:D) (R:bz->Prop) (_:EnvD K H0 Φ H σ ρ) (_:Rp K Φ d v) (_:g d ρ R) (_:∀ρ' σ',R ρ'->EnvD K H0 Φ H σ' ρ'->Q σ' H)
inductive lGs(K:Frag)(g:fV)(vs:List V)(σ:St)(H:Hp)(Q:St->Hp->Prop):Prop|mk (H0:Hp) (Φ:Hp) (ρ:bz) (ds:List D) (R:bz->Prop) (_:EnvD K H0 Φ H σ ρ) (_:RpL K Φ ds vs) (_:g ds ρ R) (_:∀ρ' σ',R ρ'->EnvD K H0 Φ H σ' ρ'->Q σ' H)
structure PGD(K:Frag)(X:Cx)(e:Expr)(g:dG):Prop where pg:X.K=K->PG X e (lG K g)
structure PGDs(K:Frag)(X:Cx)(es:List Expr)(g:fV):Prop where pg:X.K=K->PGs X es (lGs K g)
def PG.imp{X:Cx}{e:Expr}{t t':TG}(h:PG X e t)(k:∀v c H Q,t' v c H Q->t v c H Q):PG X e t':=λa s c H v u Q I r f=>h a s c H v u Q I r (k v c H Q f)
def PGs.imp{X:Cx}{e:List Expr}{t t':fF}(h:PGs X e t)(k:∀v c H Q,t' v c H Q->t v c H Q):PGs X e t':=λa s c H v u Q I r f=>h a s c H v u Q I r (k v c H Q f)
section
variable{K:Frag}{X:Cx}{e:Expr}{es:List Expr}{a:Pos}{g:dG}{gs:fV}
def qx(i:Nat):dG:=λd ρ R=>R (ρ.set i (some (.v d)))
def bh{i:Nat}{x:Str}(f:X.N.Nodup)(j:X.N[i]?=some x)(l:eh X.env.scope x)(h:X.fn x=true\/X.env.scope.names.lookup x=some .local:=by nofun):PGD K X (.Name x a) (qx i):=
 ⟨λ_=>(kN f j l h).imp λv p H Q c=>by obtain⟨o,Φ,ρ,d,R,E,r,g,k⟩:=c;exact k _ _ g (E.set r i)⟩
def qE:fV:=λds ρ R=>match ds with| []=>R ρ|_=>False
def oy(t:dG)(u:fV):fV:=λds ρ R=>match ds with|d::r=>t d ρ λc=>u r c R| []=>False
def eG:PGDs K X [] qE:=⟨λ_=>pgs_nil.imp λv h H Q c=>by
 obtain⟨f,Φ,ρ,ds,R,E,r,g,k⟩:=c
 cases ds with
 |nil=>exact⟨Lk.mp r.1,k _ _ g E⟩
 |cons=>exact g.elim⟩
def bR(p:PGD K X e g)(w:PGDs K X es gs)(y:(assignEach (e::es) X.env).map (·.2)=assign e X.env::(assignEach es X.env).map (·.2):=by rfl):PGDs K X (e::es) (oy g gs):=
 ⟨λj=>(lR (p.pg j) (w.pg j) y).imp λvs B H Q o=>by
  obtain⟨h,Φ,ρ,ds,R,E,r,g,k⟩:=o
  cases ds with
  |nil=>exact g.elim
  |cons d ds=>
   cases vs with
   |nil=>exact absurd r.1 (by simp)
   |cons v vs=>
    refine⟨v,vs,rfl,h,Φ,ρ,d,_,E,r.2 0 v d rfl rfl,g,λc A g' l=>⟨h,Φ,c,ds,R,l,⟨by have:=r.1;simpa using this,λi u f z x=>r.2 (i+1) u f z x⟩,g',k⟩⟩⟩
end
def fG(cap:List (Option Nat))(ρ:bz):bz:=cap.map λo=>o.bind λi=>(ρ[i]?).join
def qg{a:Type}{o:Option (Option a)}{x:a}(h:o.join=some x):o=some (some x):=by
 cases o with
 |none=>cases h
 |some o=>cases o with
  |none=>cases h
  |some y=>cases h;rfl
def jQ{a:Type}{cap:List (Option Nat)}{l:List (Option a)}{i:Nat}{x:a}(h:(cap.map λo=>o.bind λi=>(l[i]?).join)[i]?=some (some x)):∃j,cap[i]?=some (some j)/\l[j]?=some (some x):=by
 rw[J7]at h
 cases e:cap[i]? with
 |none=>rw[e]at h;cases h
 |some o=>
  rw[e]at h
  cases o with
  |none=>cases h
  |some j=>exact⟨j,rfl,qg (by simpa using h)⟩
def EnvD.cap{K:Frag}{o Φ H:Hp}{f:St}{ρ:bz}{cap:List (Option Nat)}(E:EnvD K o Φ H f ρ)(inj:∀i j k:Nat,cap[i]?=some (some k)->cap[j]?=some (some k)->i=j):EnvD K o Φ H (eN cap f) (fG cap ρ):=by
 have st:∀{i j:Nat}{v:V},cap[i]?=some (some j)->f[j]?=some (some v)->(eN cap f)[i]?=some (some v):=λg l=>by unfold eN;rw[J7,g];simp[l]
 have y:∀{i j:Nat}{v:V},cap[i]?=some (some j)->(eN cap f)[i]?=some (some v)->f[j]?=some (some v):=λg l=>by obtain⟨x,a,c⟩:=jQ l;rw[g]at a;cases a;exact c
 refine⟨E.fz,by unfold eN fG;simp,λi d h=>?_,λi ds h=>?_,λi j ds es p A B C F=>?_,E.tb⟩
 ·obtain⟨j,a,c⟩:=jQ h;obtain⟨v,e,r⟩:=E.sl j d c;exact⟨v,st a e,r⟩
 ·obtain⟨j,a,c⟩:=jQ h;obtain⟨p,vs,e,q⟩:=E.ow j ds c;exact⟨p,vs,st a e,q⟩
 ·obtain⟨w,a,c⟩:=jQ A;obtain⟨x,u,z⟩:=jQ B;have:=E.ne w x ds es p c z (y a C) (y u F);subst this;exact inj i j w a u
structure GK(k:Nat)(g:dG):Prop where p:∀d ρ R,g d ρ R->g d ρ λρ1=>ρ1.length=ρ.length/\ρ1.drop k=ρ.drop k/\R ρ1
structure GKs(k:Nat)(g:fV):Prop where p:∀ds ρ R,g ds ρ R->g ds ρ λρ1=>ρ1.length=ρ.length/\ρ1.drop k=ρ.drop k/\R ρ1
def Ie{k i:Nat}(h:i<k):GK k (qx i):=⟨λd ρ R r=>⟨by simp,by rw[List.drop_set_of_lt h],r⟩⟩
def EV{k:Nat}:GKs k qE:=⟨λds ρ R r=>by
 cases ds with
 |nil=>exact⟨rfl,rfl,r⟩
 |cons=>exact r⟩
def GW{t:dG}{u:fV}(c:∀d ρ R a,(∀x,R x->a x)->t d ρ R->t d ρ a)(e:∀d ρ R a,(∀x,R x->a x)->u d ρ R->u d ρ a):∀d ρ R a,(∀x,R x->a x)->oy t u d ρ R->oy t u d ρ a:=by
 intro ds ρ R a h r
 cases ds with
 |nil=>exact r
 |cons d ds=>exact c d ρ _ _ (λx f=>e ds x _ _ h f) r
structure GM(k:Nat)(g:dG):Prop where
 k:GK k g
 m:∀d ρ R R',(∀x,R x->R' x)->g d ρ R->g d ρ R'
structure GMs(k:Nat)(g:fV):Prop where
 k:GKs k g
 m:∀d ρ R R',(∀x,R x->R' x)->g d ρ R->g d ρ R'
def bE{k i:Nat}(h:i<k):GM k (qx i):=⟨Ie h,λd ρ R a h r=>h _ r⟩
def iG{k:Nat}:GMs k qE:=⟨EV,λds ρ R a h r=>by
 cases ds with
 |nil=>exact h _ r
 |cons=>exact r⟩
def eo{k:Nat}{t:dG}{u:fV}(a:GM k t)(c:GMs k u):GMs k (oy t u):=⟨⟨λds ρ R r=>by
 cases ds with
 |nil=>exact r
 |cons d ds=>
  have h:t d ρ λf=>u ds f R:=r;refine a.m _ _ _ _ (λg q=>?_) (a.k.p d ρ _ h)
  exact c.m _ _ _ _ (λj e=>⟨e.1.trans q.1,e.2.1.trans q.2.1,e.2.2⟩) (c.k.p ds g R q.2.2)⟩,GW a.m c.m⟩
def rH:cB:=λ_ R=>R true
structure PIfD(K:Frag)(X:Cx)(ifs:List Expr)(t:cB):Prop where p:X.K=K->jx X ifs (lT K t)
def qM{K:Frag}{X:Cx}:PIfD K X [] rH:=⟨λ_ a s e H Q I c=>by obtain⟨f,Φ,ρ,R,E,t,k⟩:=c;exact vB a s e H Q I (k true Φ H t (.refl E.fz))⟩
def ki{K:Frag}{X:Cx}{c:Expr}{t:cB}(h:PTD K X c t):PIfD K X [c] t:=⟨λa=>Co (h.pt a)⟩
def EnvD.side{K:Frag}{a Φ H:Hp}{f:St}{ρ:bz}{p:Addr}{o u:HO}(E:EnvD K a Φ H f ρ)(g:a p=some u)(j:Φ p=none):EnvD K a Φ (au H p o) f ρ:=
 ⟨λb w e=>by rw[ba (dc e j)];exact E.fz b w e,E.len,E.sl,λi ds h=>by
  obtain⟨q,vs,e,c,l,v,r⟩:=E.ow i ds h
  exact⟨q,vs,e,c,l,by rwa[ba λz=>by rw[z,g]at c;cases c],r⟩,E.ne,E.tb⟩
def EnvD.base{K:Frag}{a Φ H:Hp}{f:St}{ρ:bz}{p:Addr}{u:HO}(E:EnvD K a Φ H f ρ)(g:H p=none):EnvD K (au a p u) Φ H f ρ:=
 ⟨E.fz,E.len,E.sl,λi ds h=>by
  obtain⟨q,vs,e,o,j,c,l⟩:=E.ow i ds h
  exact⟨q,vs,e,by rwa[ba (dc c g)],j,c,l⟩,E.ne,E.tb⟩
def pL(f:aR)(cap:List (Option Nat))(g:dG)(c:cB)(e:TD):aR:=λρ R=>f ρ λds=>ds.length<sizeLine/\∃P:Nat->Option D->Prop,
 (∀i d,ds[i]?=some d->g d (fG cap ρ) λa=>c a λb=>(b=true->e a λy=>P i (some y))/\(b=false->P i none))/\∀ys:List (Option D),ys.length=ds.length->(∀i y,ys[i]?=some y->P i y)->R (ys.filterMap id)
def Be(ys:List (Option D))(y:D):(ys++[some y]).filterMap id=ys.filterMap id++[y]:=by simp
def HX(ys:List (Option D)):(ys++[none]).filterMap id=ys.filterMap id:=by simp
def HW(ys:List (Option D)):(ys.filterMap id).length<=ys.length:=List.length_filterMap_le _ _
def fE{f:Type}{ys:List f}{y:f}{P:Nat->f->Prop}{n:Nat}(l:ys.length=n)(h:∀i z,ys[i]?=some z->P i z)(j:P n y):∀i z,(ys++[y])[i]?=some z->P i z:=by
 intro i z a;rcases KP i ys.length with c|c
 ·rw[JV c]at a;exact h i z a
 ·rw[JU c]at a
  have g:i-ys.length=0:=by
   rcases Nat.eq_zero_or_pos (i-ys.length)with e|e
   ·exact e
   ·rw[KI (by simp only[Kb,Ls];omega)]at a;cases a
  rw[g]at a;cases a
  have:i=n:=by omega
  subst this;exact j
def gb(k:Nat)(cap:List (Option Nat)):Bool:=(cap.take k).all (·.isNone)&&decide ((cap.filterMap id).Nodup)
def ym{k:Nat}{cap:List (Option Nat)}(h:gb k cap=true){i:Nat}(a:i<k){o:Option Nat}(e:cap[i]?=some o):o=none:=by
 unfold gb at h;rw[LQ]at h;have:=Ln.mp h.1 o (J0 (i:=i) (by rwa[Mx a]))
 cases o with
 |none=>rfl
 |some _=>cases this
def yq{k:Nat}{cap:List (Option Nat)}(h:gb k cap=true):∀i j n:Nat,cap[i]?=some (some n)->cap[j]?=some (some n)->i=j:=by
 unfold gb at h;rw[LQ]at h;have nd:=K9 h.2;clear h
 induction cap with
 |nil=>intro i j n a;simp at a
 |cons o cap p=>
  intro i j n a c
  have g:(cap.filterMap id).Nodup:=by
   cases o with
   |none=>simpa using nd
   |some m=>have e : (some m :: cap).filterMap id = m :: cap.filterMap id:= rfl
            rw [e]at nd; exact (Kp.mp nd).2
  have one:∀{i:Nat},o=some n->cap[i]?=some (some n)->False:=λ{i} l f=>by
   subst l;have e:(some n::cap).filterMap id=n::cap.filterMap id:=rfl;rw[e]at nd;exact (Kp.mp nd).1 (Mc.mpr ⟨some n,J0 f,rfl⟩)
  cases i with
  |zero=>cases j with
   |zero=>rfl
   |succ j=>exact (one (by simpa using a) (by simpa using c)).elim
  |succ i=>cases j with
   |zero=>exact (one (by simpa using c) (by simpa using a)).elim
   |succ j=>exact KO Nat.succ (p g i j n (by simpa using a) (by simpa using c))
section
variable{K:Frag}{X:Cx}{w a r:Expr}{F:List Expr}{scope:Scope}{B:Pos}{N':List Str}{cap:List (Option Nat)}{l:aR}{g:dG}{A:cB}{f:TD}
def tT{k:Nat}(OB:gb k cap=true)(hk:GM k g){σ:St}{H:Hp}{Q:VK}{Y Φ:Hp}{ρ:bz}{R W:List D->Prop}(E:EnvD K Y Φ H σ ρ)(t:l ρ W)
  (conv:∀ds,W ds->ds.length<sizeLine/\∃P:Nat->Option D->Prop,(∀i d,ds[i]?=some d->g d (fG cap ρ) λz=>A z λb=>(b=true->f z λy=>P i (some y))/\(b=false->P i none))/\∀ys:List (Option D),ys.length=ds.length->(∀i y,ys[i]?=some y->P i y)->R (ys.filterMap id))
  (kk:∀ds h G p vs,R ds->Gr Φ H h G->H p=none->h p=none->G p=some (.lst vs)->RpL K h ds vs->Q (.ref p) G):gB (lI K l) cap (lG K g) (lT K A) (lE K f) σ H Q:=by
 refine⟨Y,Φ,ρ,W,E,t,λds I H1 J hW g1 S C hD=>?_⟩
 obtain⟨hlen,P,hp,hr⟩:=conv ds hW
 have E1:=E.gr g1;have SQ:I C=none:=g1.s.free hD;have C0:EnvD K (au Y C (.lst [])) I (au H1 C (.lst [])) (eN cap σ) (fG cap ρ):=((E1.base (u:=.lst []) hD).side (o:=.lst []) br SQ).cap (yq OB);refine⟨λi m σ' G=>m=ds.length-i/\i<=ds.length/\∃(h:Hp)(vs:List V)(ys:List (Option D)),EnvD K (au Y C (.lst [])) h G σ' (fG cap ρ)/\Gr I H1 h G/\h C=none/\G C=some (.lst vs)/\RpL K h (ys.filterMap id) vs/\ys.length=i/\∀j y,ys[j]?=some y->P j y,⟨ds.length,by simp,LA _,I,[],[],C0,.fresh g1.s hD _,SQ,br,.nil,rfl,λj y hj=>by simp at hj⟩,?_⟩;rintro i m σ' G ⟨rfl,hi,h,vs,ys,Ei,L,Th,RQ,OK,Z,hy⟩;by_cases Ox:i<ds.length
 ·refine .inr ⟨S.go i G (L.f.trans L.s) Ox,λσ2 U=>∃(h:Hp)(vs:List V)(ys:List (Option D)),EnvD K (au Y C (.lst [])) h U σ2 (fG cap ρ)/\Gr I H1 h U/\h C=none/\U C=some (.lst vs)/\RpL K h (ys.filterMap id) vs/\ys.length=i+1/\∀j y,ys[j]?=some y->P j y,λσ2 U h2=>⟨ds.length-(i+1),by omega,rfl,Ox,h2⟩,λx U y=>?_⟩;obtain⟨O,M,rx⟩:=S.yl i h G x U _ L.f L.s (bK Ox) y;have E3:=Ei.gr M;refine⟨_,O,fG cap ρ,_,_,E3,rx,hk.k.p _ _ _ (hp i _ (bK Ox)),λz σ3 Oa E4=>?_⟩;obtain⟨PB,hd1,t1⟩:=Oa
  have wk:∀(j:Nat) x,(fG cap ρ)[j]?=some (some x)->z[j]?=some (some x):=λj x hj=>by
   rcases KP j k with c|c
   ·obtain⟨n,h1,_⟩:=jQ hj;cases ym OB c h1
   ·have e1:(fG cap ρ)[j]?=((fG cap ρ).drop k)[j-k]?:=by rw[Nj];congr 1;omega
    have e2:z[j]?=(z.drop k)[j-k]?:=by rw[Nj];congr 1;omega
    rwa[e2,hd1,←e1]
  have Vn:O C=none:=M.o _ _ RQ Th;refine⟨_,O,z,_,E4,t1,λb T H4 rb N=>?_⟩;have E5:=(E4.gr N);have Ss:=N.h _ _ (M.h _ _ RQ);have hD4:T C=none:=N.o _ _ (M.h _ _ RQ) Vn
  cases b with
  |false=>
   refine j5 ?_;refine⟨T,vs,ys++[none],E5.weak PB.symm wk,(L.trans M).trans N,hD4,Ss,?_,by rw[JW,Z];rfl,fE Z hy (rb.2 rfl)⟩;rw[HX];exact (OK.same M.f).same N.f
  |true=>
   refine jP ?_;refine⟨_,T,z,_,E5,rb.1 rfl,λd Φ5 H5 v rd g5 rv=>?_⟩;have E6:=E5.gr g5;have Vo:=g5.h _ _ Ss;have Vp:Φ5 C=none:=g5.o _ _ Ss hD4;have gg:=((L.trans M).trans N).trans g5;refine⟨vs,Vo,?_,Φ5,vs++[v],ys++[some d],(E6.weak PB.symm wk).side br Vp,?_,Vp,br,?_,by rw[JW,Z];rfl,fE Z hy rd⟩
   ·have:=HW ys;rw[OK.1];omega
   ·exact⟨gg.f,wN gg.h hD _,λb u e=>by rw[ba (dc e Vp)];exact gg.s b u e,λp u hp hn k=>gg.o p u hp hn k⟩
   ·rw[Be];exact (((OK.same M.f).same N.f).same g5.f).append (.one rv)
 ·have e:i=ds.length:=by omega
  subst e;exact .inl ⟨S.stop G (L.f.trans L.s),kk _ h G C vs (hr ys Z hy) (g1.trans L) (g1.h.free hD) Th RQ OK⟩
def qQ{k:Nat}(e:gb k cap=true)(j:GM k g){c:St}{H:Hp}{Q:VK}(h:lF K (pL l cap g A f) c H Q):gB (lI K l) cap (lG K g) (lT K A) (lE K f) c H Q:=by obtain⟨p,Φ,ρ,R,E,t,o⟩:=h;exact tT e j E t (λds h=>h) o
def rX{k:Nat}(p:X.calm=true)(S:CompScope X.N X.env.scope scope N' cap)(o:gb k cap=true)(z:GM k g)(y:PID K X w a l)
  (v:∀(cl:List (Str×Addr))(e:List Addr)(C:Addr)(h:Shared)(c:Hp),PGD K (bU X scope N' cl C h c e) w g) (G:∀(cl:List (Str×Addr))(e:List Addr)(C:Addr)(h:Shared)(c:Hp),PIfD K (bU X scope N' cl C h c e) F A)
  (u:∀(cl:List (Str×Addr))(e:List Addr)(C:Addr)(h:Shared)(c:Hp),PD K (bU X scope N' cl C h c e) r f) (E:∀x,foldedSetIterable a X.env x=pure x:=by intro _;rfl):PF K X (.ListComp r [⟨w,a,F,0⟩] scope B) (pL l cap g A f):=
 ⟨λj=>(tH p S (y.pi j) (λcl e C h c=>(v cl e C h c).pg j) (λcl e C h c=>(G cl e C h c).p j) (λcl e C h c=>(u cl e C h c).pe j) E).imp λ_ _ _=>qQ o z⟩
def pd(l:aR)(cap:List (Option Nat))(g:dG)(f:TD):aR:=λρ R=>l ρ λds=>ds.length<sizeLine/\∃P:Nat->D->Prop,
 (∀i d,ds[i]?=some d->g d (fG cap ρ) λc=>f c (P i))/\∀ys:List D,ys.length=ds.length->(∀i y,ys[i]?=some y->P i y)->R ys
def Jl(P:Nat->D->Prop):Nat->Option D->Prop:=λi o=>match o with|some y=>P i y|none=>False
def u0{P:Nat->D->Prop}:∀(ys:List (Option D)),(∀(i:Nat) y,ys[i]?=some y->∃z,y=some z)->∃c:List D,ys=c.map some
 | [],_=>⟨[],rfl⟩
 |y::ys,h=>by obtain⟨z,rfl⟩:=h 0 y rfl;obtain⟨c,rfl⟩:=u0 (P:=P) ys λi y e=>h (i+1) y e;exact⟨z::c,rfl⟩
def AR{ds:List D}{ρ:bz}{R:List D->Prop}(h:ds.length<sizeLine/\∃P:Nat->D->Prop,(∀i d,ds[i]?=some d->g d (fG cap ρ) λc=>f c (P i))/\∀ys:List D,ys.length=ds.length->(∀i y,ys[i]?=some y->P i y)->R ys){k:Nat}(x:GM k g) :
  ds.length<sizeLine/\∃P:Nat->Option D->Prop,(∀i d,ds[i]?=some d->g d (fG cap ρ) λc=>rH c λb=>(b=true->f c λy=>P i (some y))/\(b=false->P i none))/\∀ys:List (Option D),ys.length=ds.length->(∀i y,ys[i]?=some y->P i y)->R (ys.filterMap id):=by
 obtain⟨p,P,u,v⟩:=h;refine⟨p,Jl P,λi d hd=>x.m _ _ _ _ (λc q=>⟨λ_=>q,λe=>by cases e⟩) (u i d hd),λys C o=>?_⟩
 obtain⟨j,rfl⟩:=u0 (P:=P) ys λi y e=>by
  have:=o i y e
  cases y with
  |none=>exact this.elim
  |some z=>exact⟨z,rfl⟩
 rw[List.filterMap_map]
 have e:j.filterMap (id ∘ some)=j:=by simp
 rw[e];refine v j (by simpa using C) λi y e=>?_;exact o i (some y) (by rw[J7,e];rfl)
def sV{k:Nat}(j:gb k cap=true)(c:GM k g){e:St}{H:Hp}{Q:VK}(h:lF K (pd l cap g f) e H Q):gB (lI K l) cap (lG K g) (lT K rH) (lE K f) e H Q:=by obtain⟨p,Φ,ρ,R,E,t,o⟩:=h;exact tT j c E t (λds h=>AR h c) o
def de{k:Nat}(p:X.calm=true)(S:CompScope X.N X.env.scope scope N' cap)(o:gb k cap=true)(z:GM k g)(y:PID K X w a l)
  (v:∀(cl:List (Str×Addr))(e:List Addr)(C:Addr)(h:Shared)(c:Hp),PGD K (bU X scope N' cl C h c e) w g)
  (u:∀(cl:List (Str×Addr))(e:List Addr)(C:Addr)(h:Shared)(c:Hp),PD K (bU X scope N' cl C h c e) r f) (E:∀x,foldedSetIterable a X.env x=pure x:=by intro _;rfl):PF K X (.ListComp r [⟨w,a,[],0⟩] scope B) (pd l cap g f):=
 ⟨λj=>(tH p S (y.pi j) (λcl e C h c=>(v cl e C h c).pg j) (λcl e C h c=>(qM (K:=K)).p j) (λcl e C h c=>(u cl e C h c).pe j) E).imp λ_ _ _=>sV o z⟩
end
structure EndsD where
 nx:bz->Prop
 rt:D->Prop
 bk:bz->Prop:=λ_=>False
 ct:bz->Prop:=λ_=>False
abbrev dz:=EndsD->bz->Prop
def qv(K:Frag)(g h:Hp)(P:bz->Prop)(Q:St->Hp->Prop):Prop:=∀c a f e,P c->Gr g h a f->EnvD K h a f e c->Q e f
structure EndOk(K:Frag)(Φ0 H0:Hp)(De:EndsD)(E:Ends):Prop where
 nx:qv K Φ0 H0 De.nx E.nx
 rt:∀d Φ' H' v,De.rt d->Gr Φ0 H0 Φ' H'->Rp K Φ' d v->E.rt v H'
 bk:qv K Φ0 H0 De.bk E.bk
 ct:qv K Φ0 H0 De.ct E.ct
inductive lS(K:Frag)(t:dz)(E:Ends)(σ:St)(H:Hp):Prop|mk (Φ0:Hp) (H0:Hp) (Φ:Hp) (ρ:bz) (De:EndsD) (_:Gr Φ0 H0 Φ H) (_:EnvD K H0 Φ H σ ρ) (_:t De ρ) (_:EndOk K Φ0 H0 De E)
structure PSD(K:Frag)(X:Cx)(st:Stmt)(t:dz):Prop where ps:X.K=K->PS X st (lS K t)
structure PSsD(K:Frag)(X:Cx)(st:List Stmt)(t:dz):Prop where ps:X.K=K->PSs X st (lS K t)
section
variable{K:Frag}{X:Cx}{st:Stmt}{l:List Stmt}{t u:dz}{e a:Expr}{o:TD}{tf:aR}{f:Pos}{w:cB}
def A3:dz:=λc ρ=>c.nx ρ
def Gb(t u:dz):dz:=λc ρ=>t { c with nx:=u c } ρ
def HQ(t u:dz):dz:=λg ρ=>∃I:bz->Prop,t { g with nx:=I } ρ/\∀c,I c->u g c
def cJ:PSsD K X [] A3:=⟨λ_=>pss_nil.imp λE j H c=>by obtain⟨h,r,Φ,ρ,p,g,V,t,k⟩:=c;exact k.nx ρ Φ H j t g V⟩
def bI(z:PSD K X st t)(A:PSsD K X l u):PSsD K X (st::l) (Gb t u):=⟨λr=>(oP (z.ps r) (A.ps r)).imp λE F H x=>by obtain⟨c,p,Φ,ρ,v,g,V,t,k⟩:=x;exact
 ⟨c,p,Φ,ρ,_,g,V,t,⟨λj h C B t' g' y=>⟨c,p,h,j,v,g',y,t',k⟩,k.rt,k.bk,k.ct⟩⟩⟩
def fJ(A:PSD K X st t)(B:PSsD K X l u):PSsD K X (st::l) (HQ t u):=⟨λv=>(oP (A.ps v) (B.ps v)).imp λE G H y=>by obtain⟨h,r,Φ,ρ,x,g,V,⟨I,t,c⟩,k⟩:=y;exact
 ⟨h,r,Φ,ρ,_,g,V,t,⟨λj p F C t' g' z=>⟨h,r,p,j,x,g',z,c j t',k⟩,k.rt,k.bk,k.ct⟩⟩⟩
def aL(c:PSD K X st t):PSsD K X [st] t:=⟨λg=>vD (c.ps g)⟩
def CT:dz:=λ_ _=>False
def G1:PSD K X st CT:=⟨λ_=>ps_never.imp λE r H c=>by obtain⟨h,p,Φ,ρ,j,g,V,t,k⟩:=c;exact t⟩
def mh(i:Nat)(o:TD):dz:=λc ρ=>o ρ λd=>c.nx (ρ.set i (some (.v d)))
def yi{i:Nat}{E:Ends}{p:St}{H:Hp}(h:lS K (mh i o) E p H):i5 (lE K o) (iF i) E p H:=by obtain⟨A,x,Φ,ρ,B,g,V,t,k⟩:=h;exact⟨x,Φ,ρ,_,V,t,λd c y v r j z=>k.nx _ c y _ r (g.trans j) ((V.gr j).set z i)⟩
def dA{i:Nat}{x:Str}{c:Pos}(h:X.N.Nodup)(r:X.N[i]?=some x)(y:eh X.env.scope x)(j:PD K X e o)(v:swapsWith e (some (.Name x c)) f.line X.env=pure false:=by rfl)(p:X.fn x=true\/X.env.scope.names.lookup x=some .local:=by nofun) :
  PSD K X (.Assign [.Name x c] e f) (mh i o):=⟨λg=>(rT h r y (j.pe g) v p).imp λ_ _ _=>yi⟩
def vA(i:Nat)(tf:aR):dz:=λc ρ=>tf ρ λds=>c.nx (ρ.set i (some (.own ds)))
def Fp{i:Nat}{E:Ends}{x:St}{H:Hp}(h:lS K (vA i tf) E x H):lF K tf x H λv C=>iF i v x C E.nx:=by obtain⟨M,F,Φ,ρ,N,g,V,t,k⟩:=h;refine⟨F,Φ,ρ,_,V,t,λds c G p vs r y A L J rl=>k.nx _ c G _ r (g.trans y) ((V.gr y).setOwn rl (g.h.free A) L J (λj es I z=>?_) i)⟩;obtain⟨q,O,e,_,_,B,_⟩:=V.ow j _ I;rw[e]at z;cases z;rw[A]at B;cases B
def Iy{i:Nat}{x:Str}{c:Pos}(j:X.N.Nodup)(v:X.N[i]?=some x)(z:eh X.env.scope x)(p:PF K X e tf)(y:swapsWith e (some (.Name x c)) f.line X.env=pure false:=by rfl)(r:X.fn x=true\/X.env.scope.names.lookup x=some .local:=by nofun) :
  PSD K X (.Assign [.Name x c] e f) (vA i tf):=⟨λg=>(rT j v z (p.pe g) y r).imp λ_ _ _ h=>Fp h⟩
def Ey(o:TD):dz:=λc ρ=>o ρ c.rt
def bp(z:PD K X e o):PSD K X (.Return (some e) f) (Ey o):=
 ⟨λy=>(vS (z.pe y)).imp λE F H p=>by obtain⟨B,h,Φ,ρ,C,g,V,t,k⟩:=p;exact⟨h,Φ,ρ,_,V,t,λd c j v r x A=>k.rt d c j v r (g.trans x) A⟩⟩
def Af(c:cB)(t u:dz):dz:=λg ρ=>c ρ λb=>(b=true->t g ρ)/\(b=false->u g ρ)
def cH{c:Expr}{a b:List Stmt}(C:PTD K X c w)(A:PSsD K X a t)(B:PSsD K X b u):PSD K X (.If c a b f) (Af w t u):=
 ⟨λx=>(tQ (C.pt x) (A.ps x) (B.ps x)).imp λE G H z=>by obtain⟨h,v,Φ,ρ,y,g,V,t,k⟩:=z;exact⟨v,Φ,ρ,_,V,t,λc j F r p=>by
  cases c with
  |true=>refine jP ?_;exact⟨h,v,j,ρ,y,g.trans p,V.gr p,r.1 rfl,k⟩
  |false=>refine j5 ?_;exact⟨h,v,j,ρ,y,g.trans p,V.gr p,r.2 rfl,k⟩⟩⟩
def Hx(c:cB)(tb:dz):dz:=λp ρ=>∃I:Nat->bz->Prop,(∃m,I m ρ)/\∀m g,I m g->c g λb=>(b=true->tb { p with nx:=λh=>∃j,j<m/\I j h,ct:=λh=>∃j,j<m/\I j h,bk:=p.nx } g)/\(b=false->p.nx g)
def DR{c:Expr}{x:List Stmt}{tb:dz}(hp:PassesOwn (model X.prog X.w) X.A X.env X.xe)(hc:PTD K X c w)(Z:PSsD K X x tb):PSD K X (.While c x [] f) (Hx w tb):=
 ⟨λR=>(vm hp (hc.pt R) (Z.ps R)).imp λE S H U=>by
  obtain⟨y,B,Φ,ρ,De,g,V,⟨I,⟨m,Y⟩,hw⟩,k⟩:=U;refine⟨λm S H=>∃p j,Gr y B p H/\EnvD K B p H S j/\I m j,⟨m,Φ,ρ,g,V,Y⟩,?_⟩;rintro m Q H' ⟨p,j,g',M,hi⟩;refine⟨B,p,j,_,M,hw m j hi,λb G T r J=>?_⟩
  cases b with
  |false=>refine j5 ?_;exact k.nx j G T Q (r.2 rfl) (g'.trans J) (M.gr J)
  |true=>
   refine jP ?_;refine⟨λv F=>∃C,C<m/\∃p j,Gr y B p F/\EnvD K B p F v j/\I C j,λv F h=>h,y,B,G,j,_,g'.trans J,M.gr J,r.1 rfl,⟨?_,k.rt,k.nx,?_⟩⟩
   ·rintro A z F v ⟨C,P,L⟩ O N;exact⟨C,P,z,A,O,N,L⟩
   ·rintro A z F v ⟨C,P,L⟩ O N
    exact⟨C,P,z,A,O,N,L⟩⟩
def zv(p:aR)(j:dG)(tb:dz):dz:=λg ρ=>p ρ λds=>∃I:Nat->bz->Prop,I 0 ρ/\(∀i d c,ds[i]?=some d->I i c->j d c λh=>tb { g with nx:=I (i+1),ct:=I (i+1),bk:=g.nx } h)/\∀c,I ds.length c->g.nx c
def fj{tg z:Expr}{F:List Stmt}{ti:aR}{gd:dG}{tb:dz}(hp:PassesOwn (model X.prog X.w) X.A X.env X.xe)(hc:X.calm=true)(hi:PID K X tg z ti)(hg:PGD K X tg gd)(hb:PSsD K X F tb)
  (hs:∀x,foldedSetIterable z X.env x=pure x:=by intro _;rfl):PSD K X (.For tg z F [] f) (zv ti gd tb):=
 ⟨λhK=>(ue hp hc (hi.pi hK) (hg.pg hK) (hb.ps hK) hs).imp λE σ H Oa=>by
  obtain⟨Z,L,Φ,ρ,De,g,V,t,k⟩:=Oa;refine⟨L,Φ,ρ,_,V,t,λds M H1 J OC g1 S=>?_⟩;obtain⟨I,h0,OS,Pn⟩:=OC;refine⟨λi m σ G=>m=ds.length-i/\i<=ds.length/\∃c h,Gr Z L c G/\Same M c/\EnvD K L c G σ h/\I i h,⟨ds.length,by simp,LA _,M,ρ,g.trans g1,Same.refl _,V.gr g1,h0⟩,?_⟩;rintro i m σ' G ⟨rfl,hi,c,h,g',U,R,hI⟩;by_cases Ox:i<ds.length
  ·refine .inr ⟨S.go i G (U.trans R.fz) Ox,λσ2 P=>∃c h,Gr Z L c P/\Same M c/\EnvD K L c P σ2 h/\I (i+1) h,λσ2 P h2=>⟨ds.length-(i+1),by omega,rfl,Ox,h2⟩,λx P y=>?_⟩;obtain⟨N,B,rx⟩:=S.yl i c G x P _ U R.fz (bK Ox) y;refine⟨L,N,h,_,_,R.gr B,rx,OS i _ h (bK Ox) hI,λρ2 σ3 t2 V3=>?_⟩;refine⟨N,L,N,ρ2,_,?_,V3,t2,⟨?_,?_,?_,?_⟩⟩
   ·exact⟨Same.refl _,(g'.trans B).h,B.s,λp u hp hn _=>hn⟩
   ·intro A j Q O Y C T;exact⟨j,A,(g'.trans B).join C,(U.trans B.f).trans C.f,T,Y⟩
   ·intro d j Q v r C rv;exact k.rt d j Q v r ((g'.trans B).join C) rv
   ·intro A j Q O Y C T;exact k.nx A j Q O Y ((g'.trans B).join C) T
   ·intro A j Q O Y C T;exact⟨j,A,(g'.trans B).join C,(U.trans B.f).trans C.f,T,Y⟩
  ·have e:i=ds.length:=by omega
   subst e
   exact .inl ⟨S.stop G (U.trans R.fz),k.nx h c G σ' (Pn h hI) g' R⟩⟩
end
section
variable{K:Frag}{X:Cx}{l a f e:Expr}{w:List Expr}{scope:Scope}{c B F:Pos}{N':List Str}{cap:List (Option Nat)}{z:aR}{g:dG}{A:cB}{j:TD}{i:Nat}{y:Str}
def uE{tf:aR}{E:Ends}{u:St}{H:Hp}(o:∀{u:St}{H:Hp}{Q:VK},lF K tf u H Q->gB (lI K z) cap (lG K g) (lT K A) (lE K j) u H Q)(h:lS K (mh i (nH tf)) E u H):i5 (gB (lI K z) cap (lG K g) (lT K A) (lE K j)) (iF i) E u H:=by obtain⟨N,J,Φ,ρ,O,gg,V,t,L⟩:=h;exact o ⟨J,Φ,ρ,_,V,t,λds M I p vs r x C v G rr=>L.nx _ _ I _ r (gg.trans (x.freeze C v G)) ((V.gr (x.freeze C v G)).set ((rr.same (dY v _)).lst br) i)⟩
def sX{k:Nat}(E:X.calm=true)(H:X.N.Nodup)(Q:X.N[i]?=some y)(P:eh X.env.scope y)(S:CompScope X.N X.env.scope scope N' cap)(v:gb k cap=true)(N:GM k g)(M:PID K X l a z)
  (L:∀(cl:List (Str×Addr))(p:List Addr)(C:Addr)(r:Shared)(o:Hp),PGD K (bU X scope N' cl C r o p) l g)
  (I:∀(cl:List (Str×Addr))(p:List Addr)(C:Addr)(r:Shared)(o:Hp),PD K (bU X scope N' cl C r o p) f j) (G:swapsWith (.ListComp f [⟨l,a,[],0⟩] scope c) (some (.Name y B)) F.line X.env=pure true:=by rfl)
  (O:∀x,foldedSetIterable a X.env x=pure x:=by intro _;rfl) (J:X.fn y=true\/X.env.scope.names.lookup y=some .local:=by nofun) :
  PSD K X (.Assign [.Name y B] (.ListComp f [⟨l,a,[],0⟩] scope c) F) (mh i (nH (pd z cap g j))):=
 ⟨λu=>(k8 E H Q P S (M.pi u) (λcl p C r o=>(L cl p C r o).pg u) (λcl p C r o=>(qM (K:=K)).p u) (λcl p C r o=>(I cl p C r o).pe u) G O J).imp λ_ _ _ h=>uE (λq=>sV v N q) h⟩
def wV{k:Nat}(E:X.calm=true)(H:X.N.Nodup)(R:X.N[i]?=some y)(Q:eh X.env.scope y)(S:CompScope X.N X.env.scope scope N' cap)(v:gb k cap=true)(N:GM k g)(M:PID K X l a z)
  (L:∀(cl:List (Str×Addr))(p:List Addr)(C:Addr)(r:Shared)(o:Hp),PGD K (bU X scope N' cl C r o p) l g) (P:∀(cl:List (Str×Addr))(p:List Addr)(C:Addr)(r:Shared)(o:Hp),PIfD K (bU X scope N' cl C r o p) w A)
  (I:∀(cl:List (Str×Addr))(p:List Addr)(C:Addr)(r:Shared)(o:Hp),PD K (bU X scope N' cl C r o p) f j) (G:swapsWith (.ListComp f [⟨l,a,w,0⟩] scope c) (some (.Name y B)) F.line X.env=pure true:=by rfl)
  (O:∀x,foldedSetIterable a X.env x=pure x:=by intro _;rfl) (J:X.fn y=true\/X.env.scope.names.lookup y=some .local:=by nofun) :
  PSD K X (.Assign [.Name y B] (.ListComp f [⟨l,a,w,0⟩] scope c) F) (mh i (nH (pL z cap g A j))):=
 ⟨λu=>(k8 E H R Q S (M.pi u) (λcl p C r o=>(L cl p C r o).pg u) (λcl p C r o=>(P cl p C r o).p u) (λcl p C r o=>(I cl p C r o).pe u) G O J).imp λ_ _ _ h=>uE (λq=>qQ v N q) h⟩
def BB{h r Φ H:Hp}{p:Addr}{o:HO}(g:Gr h r Φ H)(x:r p=none)(v:Φ p=none):Gr h r Φ (au H p o):=
 ⟨g.f,wN g.h x _,λb u e=>by rw[ba (dc e v)];exact g.s b u e,λp u C v k=>g.o p u C v k⟩
def vH(i:Nat)(j:TD):dz:=λh ρ=>match ρ[i]? with|some (some (.ob (.lst ds)))=>j ρ λd=>ds.length<sizeLine/\NF (ds++[d]) λes=>h.nx (ρ.set i (some (.own es)))|_=>False
def uM{h u o:Pos}{x:Str}(i:Nat)(he:PD K X e j)(Q:((backTo u (starEach [e] X.env)).all (λx=>!x.1)&&(backToKw u (keywordEach [] X.env)).all (λx=>x.1.isSome)&&decide (([e]:List Expr).length+([]:List Keyword).length+(if ([]:List Keyword).isEmpty then 0 else 1)<30))=true)
  (L:starEach [e] X.env=(false,eval e X.env)::starEach [] X.env) (Z:X.N[i]?=some x:=by rfl) (hv:cV X.env.scope x:=by nofun) (hd:ab x:=by decide) (S:ad x:=by decide)
  (O:attributeBase (.Name x o) "append" X.env (eval (.Name x o) X.env)=eval (.Name x o) X.env:=by rfl) (P:(h.endLine==u.line)=true:=by rfl) (hs:swapsWith (.Call (.Attribute (.Name x o) "append" h) [e] [] u) none c.line X.env=pure false:=by rfl) :
  PSD K X (.Expr (.Call (.Attribute (.Name x o) "append" h) [e] [] u) c) (vH i j):=
 ⟨λY=>(jL (jR Lz MB MC pM (pv i Z hv hd S) (eZ (he.pe Y) pa_nil L) O Q P L ag) hs).imp λE σ H R=>by
  obtain⟨Φ0,N,Φ,ρ,De,g,V,t,k⟩:=R;unfold vH at t;split at t
  ·next ds ho=>
   obtain⟨p,vs,M,U,hn,I,rl⟩:=V.owl i ds ho;refine⟨_,M,.inl ⟨rfl,vs,SqL.of I⟩,N,Φ,ρ,_,V,t,λd J H1 v r C rv=>?_⟩;have T:=C.h _ _ I;have G:=C.o _ _ I hn;refine⟨p,vs,v,rfl,rfl,T,by rw[rl.1];exact r.1,k.nx _ J _ σ r.2.get (BB (g.trans C) U G) ((V.gr C).put ho M ((rl.same C.f).append (.one rv)))⟩
  ·exact t.elim⟩
end
def jM(N:List Str)(ds:List D):bz:=ds.map (λd=>some (.v d))++List.replicate (N.length-ds.length) none
def Aw{K:Frag}{Φ H:Hp}{N:List Str}{ds:List D}{vs:List V}(sm:Same Φ H)(tb:TabF K Φ)(r:RpL K Φ ds vs):EnvD K H Φ H (e9 N vs) (jM N ds):=by
 have own:∀{i:Nat}{x:Sl},(jM N ds)[i]?=some (some x)->∃d,ds[i]?=some d/\x=.v d:=λ{i x} h=>by
  unfold jM at h;rcases KP i (ds.map λd=>some (Sl.v d)).length with c|c
  ·rw[JV c,J7]at h
   cases e:ds[i]? with
   |none=>rw[e]at h;cases h
   |some d=>rw[e]at h;cases h;exact⟨d,rfl,rfl⟩
  ·rw[JU c,Lj]at h;split at h
   ·cases h
   ·cases h
 refine⟨sm,by unfold e9 jM;simp[r.1],λi d h=>?_,λi es h=>?_,λi j es fs p h=>?_,tb⟩
 ·obtain⟨d',f,a⟩:=own h;cases a;obtain⟨v,g,l⟩:=r.at f;refine⟨v,?_,l⟩;unfold e9;rw[JV (by rw[JT];exact aE g),J7,g];rfl
 ·obtain⟨d',f,a⟩:=own h;cases a
 ·obtain⟨d',f,a⟩:=own h;cases a
section
variable{P:Program}{w:World}{K:Frag}{mg:Str->Option Value}{base:Heap}
def Fun.okD{x qual:Str}{st:Stmt}{f:Addr}{e:FuncData}{N ps:List Str}{k:Nat}{sp:cu}(F:Fun K x qual st f e)(S:FnScope N ps (av st))(len:∀ds R,sp ds R->ds.length=ps.length)
  (o:∀(a:Value)(A:Around)(outer:List Env)(s:Shared)(H:Hp)(E:XK)(ds:List D)(R:D->Prop),Room k (A.deeper (envOfC qual (av st) s.heap.objs.size f a))->sp ds R->
   ∃t,PSsD K (iT aI P w K mg base N qual (av st) f a A outer s H E).nox (gy st) t/\t { nx:=λ_=>R .non,rt:=R } (jM N ds)):FnOk P w K mg base aI (k+1) f e ps (lSp K sp):=by
 refine F.ok S (λvs H Q E ⟨Φ,ds,R,sm,tb,rl,h,_⟩=>by rw[rl.1];exact len ds R h) (λa A outer s H vs Q E u ⟨Φ,ds,R,sm,tb,rl,h,j⟩=>?_);obtain⟨t,v,p⟩:=o a A outer s H E ds R u h;exact⟨lS K t,v.ps rfl,Φ,H,Φ,jM N ds,_,.refl sm,Aw sm tb rl,p,⟨λy c l z r g V=>j .non c l .non r g .non,j,λ_ _ _ _ h=>h.elim,λ_ _ _ _ h=>h.elim⟩⟩
end
def xn(K:Frag)(b:Bool)(a:Addr):It:=match b with|true=>qZ K a|false=>qO K a
section
variable{K:Frag}{X:Cx}{z e a b:Expr}{es:List Expr}{f p B:Pos}{t A:TD}{j:aR}
def Ae{l:Expr}{j:TE}(F:X.K=K)(J:PE X l j):PI X z l (λw H R=>j w H λx r=>∃q a,x=.ref a/\(∃xs,SqB K q r a xs)/\R (xn K q a) r):=by
 subst F;intro g s w H R I h;refine aH (J g s w H _ I h) λv c E=>?_;obtain⟨x,r,u,N,M⟩:=E;obtain⟨bb,a,e,⟨xs,C⟩,q⟩:=M;subst e;cases N
 have y:∀b∈[c.heap.objs.size],eR X g r b:=λb G=>by
  have e:b=c.heap.objs.size:=by simpa using G
  subst e;exact u.fpOk (J3 _) (u.hok.fresh (J3 _))
 cases bb with
 |true=>
  obtain⟨its,O,p,L⟩:=u.list C;refine ML p.isList ?_;exact⟨c.heap.objs.size,[c.heap.objs.size],_,_,r,rfl,u.kept (t':=c.toks) λb o e=>J4 _ e,Fn a _,⟨_,Ke _ rfl,rfl,rfl⟩,y,q⟩
 |false=>
  obtain⟨its,O,p,L⟩:=u.tuple C;refine Md (show c.heap.IsTuple a its.toArray from p) ?_;exact⟨c.heap.objs.size,[c.heap.objs.size],_,_,r,rfl,u.kept (t':=c.toks) λb o e=>J4 _ e,GJ a _,⟨_,Ke _ rfl,rfl,rfl⟩,y,q⟩
def Ew{Φ:Hp}{ds:List D}{vs:List V}{a:Addr}{q:Bool}(h:SqB K q Φ a vs)(r:RpL K Φ ds vs):SteadyD K (xn K q a) Φ ds:=by
 cases q with
 |true=>exact BG h r
 |false=>exact Je h r
def vL(t:TD):aR:=λρ R=>t ρ λd=>match d with|.lst ds=>R ds|.tup ds=>R ds|.fzl ds=>R ds|_=>False
def Hd{d:D}{R:List D->Prop}(h:match d with|.lst ds=>R ds|.tup ds=>R ds|.fzl ds=>R ds|_=>False):∃ds,df d=some ds/\R ds:=by
 cases d with
 |lst ds=>exact⟨ds,rfl,h⟩
 |tup ds=>exact⟨ds,rfl,h⟩
 |fzl ds=>exact⟨ds,rfl,h⟩
 |_=>exact h.elim
def cb(h:PD K X e t):PID K X z e (vL t):=⟨λo=>(Ae o (h.pe o)).imp λI H G x=>by obtain⟨u,Φ,ρ,R,E,t,k⟩:=x;exact⟨u,Φ,ρ,_,E,t,λd c w v r g F=>by
 obtain⟨ds,y,r⟩:=Hd r;obtain⟨q,a,vs,rfl,l,C⟩:=F.seq y
 exact⟨q,a,rfl,⟨vs,SqB.same g.s l⟩,k _ c w _ r g (Ew l C)⟩⟩⟩
def A6{a:Expr}{A:TA}{es:List Expr}{k:Nat}(G:X.K=K)(L:Gl X "enumerate")(O:X.mg "enumerate"=none)(J:PA X [a] A)(Q:starEach [a] X.env=[(false,eval a X.env)]) :
  PI X (.Tuple es k B) (.Call (.Name "enumerate" p) [a] [] f) (λx H R=>A x H λvs o=>∃b a xs,vs=[.ref a]/\SqB K b o a xs/\R (nG K b a) o):=by
 subst G;intro g s x H R I h;refine Call_ (il I L O boot_enumerate (K4 (aH (J f g s x H _ I h) λus v F=>?_) Q rfl));obtain⟨vs,o,w,T,S⟩:=F;obtain⟨b,l,xs,e,P,q⟩:=S;subst e
 cases T with
 |cons r rr=>
  cases rr;cases r;obtain⟨its,Y,p,U⟩:=w.sqb P;refine DT p λh' C M hsz N=>wpAny_pyIter_enum C ?_;have E:Inv X g x o { v with heap:=h' }:=w.kept (t':=v.toks) N;have y:∀c,v.heap.objs.size<=c->eR X g o c:=λc u=>w.fpOk u (w.hok.fresh u)
  exact⟨v.heap.objs.size+1,[v.heap.objs.size+1,v.heap.objs.size],_,_,o,rfl,E,BE b l _ _ (Nat.succ_ne_self _),⟨⟨_,C⟩,M⟩,λc u=>by
   rcases Kd.mp u with rfl|u
   ·exact y _ (Nat.le_succ _)
   ·rw[J5.mp u];exact y _ (J3 _),q⟩
def CO{a b:Expr}{A:TA}{es:List Expr}{k:Nat}(M:X.K=K)(O:Gl X "zip")(Q:X.mg "zip"=none)(N:PA X [a,b] A)(S:starEach [a,b] X.env=[(false,eval a X.env),(false,eval b X.env)])(C:starEach [b] X.env=[(false,eval b X.env)]) :
  PI X (.Tuple es k B) (.Call (.Name "zip" p) [a,b] [] f) (λy H R=>A y H λvs l=>∃v w a1 a2 xs ys,vs=[.ref a1,.ref a2]/\SqB K v l a1 xs/\SqB K w l a2 ys/\R (qf K v a1 w a2) l):=by
 subst M;intro g s y H R I h;refine Call_ (il I O Q boot_zip (K4 (aH (N f g s y H _ I h) λus x ⟨vs,l,o,r1,q1⟩=>?_) (by rw[S,C]) (by rw[C];rfl)));obtain⟨v,w,T,U,xs,ys,e,G,J,q⟩:=q1;subst e
 cases r1 with
 |cons r rr=>
  cases rr with
  |cons r' rr=>
   cases rr;cases r;cases r';obtain⟨Sn,Ur,Y,_⟩:=o.sqb G;obtain⟨O8,Us,Z,_⟩:=o.sqb J;refine AX Y Z λh' E z2 z3 z4 z5 P=>wpAny_pyIter_zip E ?_;have F:Inv X g y l { x with heap:=h' }:=o.kept (t':=x.toks) P;have L:∀c,x.heap.objs.size<=c->eR X g l c:=λc u=>o.fpOk u (o.hok.fresh u);generalize x.heap.objs.size=n at *;refine⟨n+4,[n+4,n+2,n+3,n,n+1],_,_,l,rfl,F,DE v w T U (n+4) (n+2) (n+3) n (n+1) (zr n),⟨E,z2,⟨_,_,z3⟩,z4,z5⟩,λc u=>L c ?_,q⟩;simp only[Kd,LD,N0]at u;rcases u with rfl|rfl|rfl|rfl|rfl
   ·exact MT _ _
   ·exact MT _ _
   ·exact MT _ _
   ·exact J3 _
   ·exact MT _ _
def An(t:aR):aR:=λρ R=>t ρ λds=>match ds with| [.lst xs]=>R (ip xs)| [.tup xs]=>R (ip xs)| [.fzl xs]=>R (ip xs)|_=>False
def gL{F:List Expr}{G:Nat}(L:Gl X "enumerate")(M:X.mg "enumerate"=none)(J:PAD K X [a] j)(N:starEach [a] X.env=[(false,eval a X.env)]:=by rfl):PID K X (.Tuple F G B) (.Call (.Name "enumerate" p) [a] [] f) (An j):=
 ⟨λw=>(A6 w L M (J.pa w) N).imp λS H C y=>by obtain⟨x,Φ,ρ,R,E,t,k⟩:=y;exact⟨x,Φ,ρ,_,E,t,λds l o vs r g h _=>by
  have c:∀{d:D}{xs:List D},RpL K l [d] vs->df d=some xs->R (ip xs)->∃b a xs,vs=[.ref a]/\SqB K b o a xs/\C (nG K b a) o:=λ{d xs} h O r=>by obtain⟨v,rfl,P⟩:=h.one_inv;obtain⟨q,a,Q,rfl,u,I⟩:=P.seq O;exact⟨q,a,Q,rfl,SqB.same g.s u,k _ l o _ r g (Ip u I)⟩
  match ds,r with
  | [.lst xs],r=>exact c h rfl r
  | [.tup xs],r=>exact c h rfl r
  | [.fzl xs],r=>exact c h rfl r⟩⟩
def BA(t:aR):aR:=λρ R=>t ρ λds=>match ds with| [d,e]=>∃xs ys,df d=some xs/\df e=some ys/\R (fU xs ys)|_=>False
def kj{F:List Expr}{G:Nat}(M:Gl X "zip")(N:X.mg "zip"=none)(L:PAD K X [a,b] j)(O:starEach [a,b] X.env=[(false,eval a X.env),(false,eval b X.env)]:=by rfl)(y:starEach [b] X.env=[(false,eval b X.env)]:=by rfl):PID K X (.Tuple F G B) (.Call (.Name "zip" p) [a,b] [] f) (BA j):=
 ⟨λo=>(CO o M N (L.pa o) O y).imp λσ H R' C=>by obtain⟨u,Φ,ρ,R,E,t,k⟩:=C;exact⟨u,Φ,ρ,_,E,t,λds c x vs r g Z _=>by
  match ds,r with
  | [d,e],⟨xs,ys,P,Q,r⟩=>
   obtain⟨v,w,rfl,U,Y⟩:=Z.two_inv;obtain⟨S,a1,ws,rfl,h,I⟩:=U.seq P;obtain⟨T,a2,us,rfl,l,J⟩:=Y.seq Q
   exact⟨S,T,a1,a2,ws,us,rfl,SqB.same g.s h,SqB.same g.s l,k _ c x _ r g (Cr h l I J)⟩⟩⟩
variable{gs:fV}
def uN(n:Nat)(t:fV):dG:=λd ρ R=>match d with|.tup ds=>ds.length=n/\t ds ρ R|.lst ds=>ds.length=n/\t ds ρ R|_=>False
def PG.or{z:Expr}{t t':TG}(h:PG X z t)(h':PG X z t'):PG X z (λv l H Q=>t v l H Q\/t' v l H Q):=by
 intro c s l H v u Q I r g;rcases g with g|g
 ·exact h c s l H v u Q I r g
 ·exact h' c s l H v u Q I r g
def eu{k n:Nat}(u:X.calm=true)(h:PGDs K X es gs)(w:(assignEach es X.env).length=n:=by rfl)(o:(assignEach es X.env).findIdx? (·.1)=none:=by rfl):PGD K X (.Tuple es k f) (uN n gs):=
 ⟨λc=>((wC c u (h.pg c) w o).or (w8 c u (h.pg c) w o)).imp λv y H Q x=>by
  obtain⟨l,Φ,ρ,d,R,E,r,g,k⟩:=x
  cases d with
  |tup ds=>cases r with|tup h1 h2 h3=>exact .inl ⟨_,_,rfl,.of (E.fz _ _ h1),by rw[h2];exact g.1,l,Φ,ρ,ds,R,E,⟨h2,h3⟩,g.2,k⟩
  |lst ds=>cases r with|lst h1 h2 h3=>exact .inr ⟨_,_,rfl,.of (E.fz _ _ h1),by rw[h2];exact g.1,l,Φ,ρ,ds,R,E,⟨h2,h3⟩,g.2,k⟩
  |_=>exact g.elim⟩
def iA{k n:Nat}{t:fV}(h:GMs k t):GM k (uN n t):=⟨⟨λd ρ R r=>by
 cases d with
 |tup ds=>exact⟨r.1,h.k.p ds ρ R r.2⟩
 |lst ds=>exact⟨r.1,h.k.p ds ρ R r.2⟩
 |_=>exact r⟩,λd ρ R c g r=>by
 cases d with
 |tup ds=>exact⟨r.1,h.m ds ρ R c g r.2⟩
 |lst ds=>exact⟨r.1,h.m ds ρ R c g r.2⟩
 |_=>exact r⟩
def Es{Φ H:Hp}{d:D}{v:V}{T:String}{r:Bool}(s:Same Φ H)(h:RpQ K Φ H d v)(e:lu d T=some r):IsiV K H v T r:=by
 have sp:∀{c:Prop}[Decidable c]{x:Bool}{y:Option Bool},(if c then some x else y)=some r->(c/\x=r)\/y=some r:=λ{c _ x y} h=>by
  by_cases l:c
  ·rw[J9 l]at h;cases h;exact .inl ⟨l,rfl⟩
  ·rw[JZ l]at h;exact .inr h
 cases d with
 |int i=>
  cases h.int;rcases sp e with⟨rfl,rfl⟩|e
  ·exact .int_int _
  rcases sp e with⟨rfl,rfl⟩|e
  ·exact .int_bool _
  rcases sp e with⟨rfl,rfl⟩|e
  ·exact .int_tuple _
  rcases sp e with⟨rfl,rfl⟩|e
  ·exact .int_str _
  cases e
 |bl i=>
  cases h.bl;rcases sp e with⟨rfl,rfl⟩|e
  ·exact .bl_int _
  rcases sp e with⟨rfl,rfl⟩|e
  ·exact .bl_bool _
  rcases sp e with⟨rfl,rfl⟩|e
  ·exact .bl_tuple _
  cases e
 |str i=>
  cases h.str;rcases sp e with⟨rfl,rfl⟩|e
  ·exact .str_str _
  rcases sp e with⟨rfl,rfl⟩|e
  ·exact .str_tuple _
  cases e
 |non=>cases e
 |tup ds=>
  obtain⟨a,vs,rfl,g,_,o⟩:=h.tup s;rcases sp e with⟨rfl,rfl⟩|e
  ·exact .tup_tuple g
  rcases sp e with⟨rfl,rfl⟩|e
  ·exact .tup_int g
  cases e
 |lst ds=>
  obtain⟨a,vs,rfl,g,o⟩:=h.lst s;rcases sp e with⟨rfl,rfl⟩|e
  ·exact .lst_tuple (.of g)
  rcases sp e with⟨rfl,rfl⟩|e
  ·exact .lst_list (.of g)
  cases e
 |fzl ds=>cases e
 |obj C fs=>cases e
 |map u=>cases e
 |exc _ _=>cases e
def A8(T:String)(t:TD):TD:=λρ R=>t ρ λd=>∃r,lu d T=some r/\R (.bl r)
def ia{T:String}{h:Str}{c:Pos}(I:Gl X "isinstance")(J:X.mg "isinstance"=none)(G:PQ K X a t)(F:PE X (.Name h c) (tC (.ty T)))
  (w:starEach [a,.Name h c] X.env=(false,eval a X.env)::starEach [.Name h c] X.env) (o:starEach [.Name h c] X.env=(false,eval (.Name h c) X.env)::starEach [] X.env):PD K X (.Call (.Name "isinstance" p) [a,.Name h c] [] f) (A8 T t):=
 ⟨λu=>(uw (AU u) I J boot_isinstance (eZ (G.pe u) (eZ F pa_nil o) w) (by decide) (by decide) w (ay o ag)).imp λN H Q C=>by obtain⟨x,Φ,ρ,R,E,t,k⟩:=C;exact⟨x,Φ,ρ,_,E,t,λd l y v r g M=>by
  obtain⟨rr,L,r⟩:=r
  exact⟨v,T,rr,rfl,Es g.s M L,k _ l y _ r g (.bl _)⟩⟩⟩
def AY(i:Int):lu (.int i) "int"=some true:=rfl
def GP(i:Int):lu (.int i) "bool"=some false:=rfl
def iM(xs:List D):lu (.tup xs) "tuple"=some true:=rfl
end
def bP{a:Type}{f:a->D}{ns:List a}{i:Nat}{x:D}(h:(ns.map f)[i]?=some x):∃k,x=f k/\ns[i]?=some k:=by
 rw[J7]at h
 cases e:ns[i]? with
 |none=>rw[e]at h;cases h
 |some k=>rw[e]at h;cases h;exact⟨k,rfl,rfl⟩
def cR{a:Type}{f:a->D}{ns:List a}{i:Nat}{n:a}{k:Int}(h:ns[i]?=some n)(e:k=(i:Int)):cE (ns.map f) k=some (f n):=gc (by rw[J7,h];rfl) e
def A5{ns:List Int}{k:Int}(c:0<=k)(h:k<(ns.length:Int)):∃v:Int,cE (ns.map D.int) k=some (.int v):=by
 have a:k.toNat<ns.length:=by omega
 exact⟨_,cR (bK a) (by omega)⟩
def uK:cu:=λds R=>∃ns:List Int,ds=[.fzl (ns.map D.int)]/\ns.length<=63/\R (.bl true)
def uG(K:Frag):Sp:=λvs H Q _=>∃(a:Addr)(ns:List Int),vs=[.ref a]/\SqL K H a (ns.map V.int)/\ns.length<=63/\TabF K H/\∀c,Q (.bl true) c
def Iw{K:Frag}:∀vs H Q E,uG K vs H Q E->lSp K uK vs H Q E:=by rintro vs H Q E ⟨a,ns,rfl,c,e,tb,q⟩;refine⟨H,[.fzl (ns.map D.int)],λd=>d=.bl true,Same.refl _,tb,.one ((RpL.ints ns).fzl c),⟨ns,rfl,e,rfl⟩,λd h j v r g f=>?_⟩;subst r;obtain rfl:=f.b;exact q _
def az(r:aw):D:=.tup [.tup (r.1.map D.int),.int r.2]
def HR{c e:Type}(f:c->e)(xs:List c)(lo a:Option Int):iH (xs.map f) lo a=(iH xs lo a).map f:=by unfold iH;rw[JT,List.map_take,List.map_drop]
def qy(k:Nat)(z:Int):(List.replicate k [D.int z]).flatten=(List.replicate k z).map D.int:=by
 induction k with
 |zero=>rfl
 |succ k a=>rw[K7,KN,a];rfl
section
variable{g:dG}{a:TD}{ρ:bz}{R:List D->Prop}
def sW{ds:List D}(h:List D)(r:h.length=ds.length)(f:ds.length<sizeLine)(Q:Nat->D->Prop)(j:∀i y,Q i y->h[i]?=some y)(l:∀i d,ds[i]?=some d->g d ρ λe=>a e (Q i))(k:R h) :
  ds.length<sizeLine/\∃P:Nat->D->Prop,(∀i d,ds[i]?=some d->g d ρ λe=>a e (P i))/\∀ys:List D,ys.length=ds.length->(∀i y,ys[i]?=some y->P i y)->R ys:=by
 refine⟨f,Q,l,λys p o=>?_⟩
 have:ys=h:=by
  refine Lf λi=>?_;rcases KP i ys.length with c|c
  ·rw[bK c,j i _ (o i _ (bK c))]
  ·rw[KI c,KI (by omega)]
 rwa[this]
def fN{j:Type}{f:j->D}{xs:List j}(h:j->D)(l:xs.length<sizeLine)(p:∀x∈xs,g (f x) ρ λc=>a c λy=>y=h x)(k:R (xs.map h)) :
  (xs.map f).length<sizeLine/\∃P:Nat->D->Prop,(∀i d,(xs.map f)[i]?=some d->g d ρ λc=>a c (P i))/\∀ys:List D,ys.length=(xs.map f).length->(∀i y,ys[i]?=some y->P i y)->R ys:=by
 refine sW (xs.map h) (by simp) (by rwa[JT]) (λi=>match xs[i]? with|some x=>λy=>y=h x|none=>λ_=>False) (λi y q=>?_) (λi d hd=>?_) k
 ·rw[J7]
  cases e:xs[i]? with
  |none=>rw[e]at q;exact q.elim
  |some x=>rw[e]at q;rw[q];rfl
 ·obtain⟨x,rfl,o⟩:=bP hd
  have e:(match xs[i]? with|some x=>λy=>y=h x|none=>λ_=>False:D->Prop)=λy=>y=h x:=by rw[o]
  rw[e];exact p x (J0 o)
def km{lo:Int}{n:Nat}(h:Nat->D)(e:n<sizeLine)(j:∀i,i<n->g (.int (lo+(i:Nat))) ρ λc=>a c λy=>y=h i)(k:R ((List.range n).map h)) :
  (cQ lo n).length<sizeLine/\∃P:Nat->D->Prop,(∀i d,(cQ lo n)[i]?=some d->g d ρ λc=>a c (P i))/\∀ys:List D,ys.length=(cQ lo n).length->(∀i y,ys[i]?=some y->P i y)->R ys:=
 fN (f:=λi:Nat=>D.int (lo+(i:Nat))) (xs:=List.range n) h (by rwa[Km]) (λx l=>j x (Kt.mp l)) k
def jT{c e:Type}(f:c->D)(h:e->D)(xs:List c)(ys:List e):fU (xs.map f) (ys.map h)=(List.zip xs ys).map λp=>.tup [f p.1,h p.2]:=by unfold fU;rw[List.zipWith_map,NL];rfl
def rZ{e j:Type}{f:e->D}{h:j->D}{xs:List e}{ys:List j}(w:e->j->D)(o:xs.length<sizeLine)(u:∀x∈xs,∀y∈ys,g (.tup [f x,h y]) ρ λc=>a c λz=>z=w x y)(k:R (List.zipWith w xs ys)) :
  (fU (xs.map f) (ys.map h)).length<sizeLine/\∃P:Nat->D->Prop,(∀i d,(fU (xs.map f) (ys.map h))[i]?=some d->g d ρ λc=>a c (P i))/\∀l:List D,l.length=(fU (xs.map f) (ys.map h)).length->(∀i y,l[i]?=some y->P i y)->R l:=by
 rw[jT];refine fN (λp:e×j=>w p.1 p.2) ?_ (λp r=>u p.1 (LZ r).1 p.2 (LZ r).2) ?_
 ·rw[NP];omega
 ·rwa[NL]
end
end L2
namespace L2
def ff{p:Prop}(h:false=true):p:=by cases h
def tf{p:Prop}(h:true=false):p:=by cases h
end L2
namespace L2
end L2
namespace L2
def gF{a:Type}(f:a->D)(es:List a)(d:a):es.map f++[f d]=(es++[d]).map f:=by simp
def qI{a:Type}(f:a->D)(es fs:List a):es.map f++fs.map f=(es++fs).map f:=by simp
end L2
namespace L2
open PySem PySem.Spec PyProof.Rows
section
variable{g:dG}{a:TD}{ρ:bz}{R:List D->Prop}
def jV{j:Type}{f:j->D}{xs:List j}(h:j->Int)(e:xs.length<sizeLine)(l:∀x∈xs,g (f x) ρ λc=>a c λy=>y=.int (h x))(k:R ((xs.map h).map D.int)) :
  (xs.map f).length<sizeLine/\∃P:Nat->D->Prop,(∀i d,(xs.map f)[i]?=some d->g d ρ λc=>a c (P i))/\∀ys:List D,ys.length=(xs.map f).length->(∀i y,ys[i]?=some y->P i y)->R ys:=
 fN (λx=>D.int (h x)) e l (by rw[KQ]at k;exact k)
end
section
variable{K:Frag}{X:Cx}
def CA(h:X.K=K):p7 X (tF K):=h▸IG
end
section
variable{K:Frag}{X:Cx}{Φ H:Hp}{a e:Expr}{o:TD}{C:Addr}{j:Str}{l:Pos}
def xy{g:Str}{d:D}:∀{vs:List (Str×V)}{fs:List (Str×D)},vs.map (·.1)=fs.map (·.1)->(∀(i:Nat)(v:Str×V)(e:Str×D),vs[i]?=some v->fs[i]?=some e->Rp K Φ e.2 v.2)->fs.lookup g=some d->∃v,vs.lookup g=some v/\Rp K Φ d v
 | [],[],_,_,h=>by cases h
 | [],_::_,h,_,_=>by cases h
 |_::_,[],h,_,_=>by cases h
 |(x,v)::vs,(y,f)::fs,h,w,p=>by
  rw[Kn,Kn]at h;obtain⟨r,z⟩:=MQ h;have r:x=y:=r;subst r;rw[Kq]at p ⊢
  cases c:g==x with
  |true=>
   rw[c]at p;cases p;exact⟨v,rfl,w 0 _ _ rfl rfl⟩
  |false=>
   rw[c]at p;exact xy z (λi u e B A=>w (i+1) u e B A) p
def EW(nm:Str)(f:Str)(t:TD):TD:=λρ R=>t ρ λx=>match x with|.obj Ti fs=>Ti=nm/\∃d,fs.lookup f=some d/\R d|_=>False
def lK{c:TE}(f:X.K=K)(h:PE X a c)(g:attributeBase a j X.env (eval a X.env)=eval a X.env):PE X (.Attribute a j l) (uJ K c j):=f▸IB h g
def aT{nm:Str}(c:Cls K C)(M:NoAttr K C j)(F:nsIn K mainGlobals nm=some (some (.ref C)))(G:PQ K X a o)(I:attributeBase a j X.env (eval a X.env)=eval a X.env:=by rfl):PD K X (.Attribute a j l) (EW nm j o):=
 ⟨λu=>(lK u (G.pe u) I).imp λP H Q y=>by obtain⟨w,Φ,ρ,R,E,t,k⟩:=y;exact⟨w,Φ,ρ,_,E,t,λd h x v r g f=>by
  cases d with
  |obj O fs=>
   obtain⟨rfl,d,J,r⟩:=r;rcases f with f|⟨_,_,_,e,_⟩
   ·cases f with
    |obj p z A B=>
     rw[F]at p;cases p;obtain⟨v,L,N⟩:=xy A B J;exact⟨_,_,_,_,v,rfl,g.s _ _ z,c,M,L,k d h x v r g N⟩
   ·cases e
  |_=>exact r.elim⟩⟩
end
section
variable{K:Frag}{X:Cx}{a:Expr}{c p:Pos}
def zb(t:TA):TE:=λf H Q=>t f H λvs e=>∃j:Int,vs=[.int j]/\∀r,e r=none->Q (.ref r) (au e r (.rng 0 j))
def Ft{u:TA}(x:Gl X "range")(y:X.mg "range"=none)(w:PA X [a] u)(z:starEach [a] X.env=[(false,eval a X.env)]:=by rfl):PE X (.Call (.Name "range" p) [a] [] c) (zb u):=by
 intro f s C H R I h;refine Call_ (il I x y boot_range (K4 (aH (w c f s C H _ I h) λus g v=>?_) z rfl));obtain⟨vs,E,l,B,A⟩:=v;obtain⟨j,e,q⟩:=A;subst e
 cases B with
 |cons r rr=>
  cases rr;obtain⟨t,rfl⟩:=r;refine call_range_1 ⟨.ref g.heap.objs.size,_,l.laid (a:=g.heap.objs.size) (o:=.rng 0 j) (t':=g.toks+1+1) (λb o e=>J4 _ e) (J3 _) ⟨_,_,_,Ke _ rfl⟩,rfl,q _ (l.hok.fresh (J3 _))⟩
def iq(n:Nat):List V:=(List.range n).map λi=>V.int (i:Nat)
def oQ(n:Nat):(iq n).length=n:=by unfold iq;simp
def sO{e f:Type}{F:e->f->Prop}:∀{xs:List e}{ys:List f},xs.length=ys.length->(∀(i:Nat) x y,xs[i]?=some x->ys[i]?=some y->F x y)->Paired F xs ys
 | [],[],_,_=>.nil
 |x::xs,y::ys,g,h=>.cons (h 0 x y rfl rfl) (sO (by simpa using g) λi u v j l=>h (i+1) u v j l)
def ya{n i:Nat}{v:V}(h:(iq n)[i]?=some v):v=.int (i:Nat):=by
 have e:i<n:=by have:=aE h;rwa [oQ]at this
 unfold iq at h;rw[J7,LO e]at h;cases h;rfl
def Gp{Φ:Hp}(n:Nat):RpL K Φ (cQ 0 n) (iq n):=⟨by rw[oQ,gm],λi v d e hd=>by
 rw[ya e,(gR hd).2,KW]
 exact .int _⟩
end
section
variable{P:Program}{w:World}{K:Frag}{mg:Str->Option Value}{base:Heap}
def Fun.okL{x qual:Str}{st:Stmt}{f:Addr}{c:FuncData}{N ps:List Str}{k:Nat}{sp:Sp}(F:Fun K x qual st f c)(S:FnScope N ps (av st))(len:∀vs H Q E,sp vs H Q E->vs.length=ps.length)
  (g:∀(a:Value)(A:Around)(outer:List Env)(s:Shared)(H:Hp)(vs:List V)(Q:VK)(E:XK),c.code=a->Room k (A.deeper (envOfC qual (av st) s.heap.objs.size f a))->sp vs H Q E->
   ∃t,PSs (iT aI P w K mg base N qual (av st) f a A outer s H E).nox (gy st) t/\t { nx:=λ_ e=>Q .non e,rt:=Q } (e9 N vs) H):FnOk P w K mg base aI (k+1) f c ps sp:=by
 obtain⟨v,y,kV,o,z,u,a,ct,r,rfl,lk,j⟩:=F.ex;refine wj lk j S len λA outer s H vs Q E p l=>?_;obtain⟨t,h,q⟩:=g a A outer s H vs Q E rfl p l;exact⟨t,h.nox,q⟩
end
def vw{K:Frag}{x:Str}(a:nsIn K mainGlobals x=some none):qz K x=none:=by unfold qz;simp only[a]
end L2
namespace L2
open PySem PySem.W PyProof.Rows
section
variable{a:Nat->Int}{N:Nat}
variable(c:∀i j,i<N->j<N->a i=a j->i=j)
include c
end
end L2
namespace L2
open PySem PySem.Spec PySem.W PyProof.Rows PySem.Calls
end L2
namespace L2
open PySem PySem.Spec PySem.W PyProof.Rows PySem.Calls
end L2
namespace L2
open PySem PySem.Spec PyProof.Rows
def gM:aC->D
 |.inl i=>.int i
 |.inr s=>.str s
def FK{K:Frag}{Φ:Hp}{k:aC}{v:V}(r:Rp K Φ (gM k) v):v=kV k:=by
 cases k with
 |inl i=>obtain rfl:=r.i;rfl
 |inr s=>obtain rfl:=r.s;rfl
def AN{K:Frag}{Φ H:Hp}{k:aC}{v:V}(r:RpQ K Φ H (gM k) v):v=kV k:=by
 cases k with
 |inl i=>exact RpQ.int r
 |inr s=>exact RpQ.str r
def t9{K:Frag}{Φ:Hp}{a:List aC}{vs:List V}(r:RpL K Φ (a.map gM) vs):vs=a.map kV:=by
 refine Lf λi=>?_;rw[J7]
 cases h:a[i]? with
 |none=>
  have f:=Mu.mp h;exact KI (by rwa[r.1,JT])
 |some k=>
  obtain⟨v,c,e⟩:=r.at (i:=i) (d:=gM k) (by rw[J7,h];rfl);rw[c,FK e];rfl
def jA(k:aC)(a:List aC):Bool:=a.any λj=>decide (j=k)
def Cf(k:aC)(a:List aC):jA k a=true↔k∈a:=by unfold jA;rw[MS];exact⟨λ⟨j,c,e⟩=>K9 e▸c,λh=>⟨k,h,KZ rfl⟩⟩
def ve(k:aC):iP (kV k)=true:=by cases k<;>rfl
def Hw(j k:aC):iJ (kV j) (kV k)=decide (j=k):=by
 cases j with
 |inl a=>
  cases k with
  |inl b=>show (a==b)=_;by_cases h:a=b<;>simp[h]
  |inr b=>show false=_;simp
 |inr a=>
  cases k with
  |inl b=>show false=_;simp
  |inr b=>show (a==b)=_;by_cases h:a=b<;>simp[h]
def EC(k:aC)(a:List aC):jK (kV k) (a.map kV)=jA k a:=by unfold jK jA;rw[N6];exact List.any_congr rfl λj=>Hw j k
def Jd(a:Bool):cT:=λe f R=>∃(k:aC)(c:List aC),e=gM k/\df f=some (c.map gM)/\R (.bl (a != jA k c))
section
variable{K:Frag}{X:Cx}
def Cz:OpD K X (compareOp .In) (Jd false):=⟨λo c s E H x y u v Q I B C g=>by
 obtain⟨Φ,F,G,R,sm,p,r,⟨k,f,rfl,e,h⟩,A⟩:=g;cases AN p;obtain⟨a,vs,rfl,q,rl⟩:=r.seq sm e;cases t9 rl;refine DD c s E H _ _ u v Q I B C ⟨a,_,rfl,by rwa[o],ve k,?_,?_⟩
 ·rw[Ln];intro z w;obtain⟨j,_,rfl⟩:=Kf.mp w;exact ve j
 ·have l:(if false=true then !jK (kV k) (f.map kV) else jK (kV k) (f.map kV))=(false != jA k f):=by rw[EC];simp
  rw[l]
  exact A _ Φ H _ h (.refl sm) (.bl _)⟩
end
end L2
namespace L2
open PySem PySem.Spec PySem.W PyProof.Rows PySem.Calls
end L2
namespace L2
open PySem PySem.Spec PyProof.Rows
section
variable{K:Frag}{X:Cx}{a:Expr}{f p z A:Pos}{w:aR}
def Hq(G:X.calm=true):eB X (.type "list") (λxs H Q=>∃p j,xs=[.ref p]/\H p=some (.rng 0 j)/\-(2^62)<=j/\j<=1000/\∀l,H l=none->Q (.ref l) (au H l (.lst (iq j.toNat)))):=by
 intro B s U H xs us Q I r h;obtain⟨p,j,rfl,N,S,Y,q⟩:=h;obtain⟨u,rfl,T⟩:=hV r;cases T;obtain⟨t,u,v,M⟩:=(show ObjOk X.prog X.w H s.heap p (.rng 0 j)from I.hok p _ N)
 have L:Builtin.Range.rangeSize 0 j 1=(j.toNat:Int):=by rw[rangeSize_one];split<;>omega
 refine call_list_range (I.ok.hd G) M (small_one (by decide) (by decide) S (by omega)) L (by omega) λh' E g c kp J C=>?_
 have O:Vals (iq j.toNat) g.toList:=sO (by rw[oQ,Mr,C.1]) λi x y P R=>by rw[ya P];obtain⟨t,rfl⟩:=C.2 i y (by simpa using R);exact⟨t,by simp⟩
 have F:Inv X B U (au H s.heap.objs.size (.lst (iq j.toNat))) { s with heap:=h',toks:=E }:=
  I.laid (t':=E) (λb o e=>kp b o e) (J3 _) (show ObjOk X.prog X.w _ _ _ (.lst (iq j.toNat))from ⟨by rw[oQ,Mq];omega,g.toList,c,O,by simpa using J⟩)
 exact⟨.ref s.heap.objs.size,_,F,rfl,q _ (I.hok.fresh (J3 _))⟩
def II(t:aR):aR:=λρ R=>t ρ λds=>match ds with| [.int j]=>(-(2^62)<=j/\j<=1000)/\R (cQ 0 j.toNat)|_=>False
def vp(x:X.calm=true)(G:Gl X "list")(F:X.mg "list"=none)(C:Gl X "range")(B:X.mg "range"=none)(M:PAD K X [a] w)(N:starEach [a] X.env=[(false,eval a X.env)]:=by rfl) :
  PF K X (.Call (.Name "list" p) [.Call (.Name "range" z) [a] [] A] [] f) (II w):=
 ⟨λL=>(lg (Hq x) G F boot_list (eZ (Ft C B (M.pa L) N) pa_nil bt) (by decide) (by decide) bt ag).imp λT H Q u=>by
  obtain⟨h,Φ,ρ,R,E,t,k⟩:=u
  exact⟨h,Φ,ρ,_,E,t,λds S o vs r g rl _=>by
   match ds,r with
   | [.int j],r=>
    obtain⟨v,rfl,P⟩:=rl.one_inv;obtain rfl:=P.i;refine⟨j,rfl,λO I=>⟨O,j,rfl,br,r.1.1,r.1.2,λl e=>?_⟩⟩;have c:=Gr.fresh g.s I (.rng 0 j);have J:=Gr.fresh c.s e (.lst (iq j.toNat));have y:o l=none:=c.h.free e
    exact k _ _ _ l _ r.2 ((g.trans c).trans J) (g.h.free y) (c.s.free e) br (Gp _)⟩⟩
end
section
variable{K:Frag}{x:Str}
def vh:D->Prop
 |.int _=>True
 |.bl _=>True
 |.str _=>True
 |.non=>True
 |_=>False
def Rp.flat{Φ a:Hp}{d:D}{v:V}(h:Rp K Φ d v)(c:vh d):Rp K a d v:=by
 cases h with
 |int i=>exact .int i
 |bl b=>exact .bl b
 |str x=>exact .str x
 |non=>exact .non
 |_=>exact c.elim
end
def FW{K:Frag}(h:nsIn K mainGlobals "least_grown"=some none/\nsIn K mainGlobals "greatest_first"=some none):sS K=[]:=by unfold sS;rw[Mb,vw h.1,Mb,vw h.2];rfl
structure Cl(P:Program)(w:World)(K:Frag)(mg:Str->Option Value)(base:Heap)(n:Nat)(x:Str)(ps:List Str)(z:cu):Prop where
 ex:∃(f:Addr)(fd:FuncData),FnOk P w K mg base aI n f fd ps (lSp K z)/\Binds K fd ps []/\keepIn K (.ref f)=true/\mg x=some (.ref f)
section
variable{P:Program}{w:World}{K:Frag}{mg:Str->Option Value}{base:Heap}{n m:Nat}{x:Str}{ps:List Str}{z:cu}{X:Cx}{e:Expr}{es:List Expr}{o p:Pos}{u:aR}{st:Stmt}{f:Addr}{j:FuncData}{h:Heap}
def Cl.mono(C:Cl P w K mg base n x ps z)(k:n<=m:=by decide):Cl P w K mg base m x ps z:=by obtain⟨f,j,F,r⟩:=C.ex;exact⟨f,j,F.mono k,r⟩
def Cl.of(F:Fun K x x st f j)(b:Binds K j ps [])(m:mg x=some (.ref f))(H:FnOk P w K mg base aI n f j ps (lSp K z)):Cl P w K mg base n x ps z:=⟨f,j,H,b,F.kp,m⟩
def bj(C:Cl X.prog X.w K X.mg X.base n x ps z)(y:Room n X.A)(v:Gl X x)
  (l:PAD K X (e::es) u) (r:starEach (e::es) X.env=(false,eval e X.env)::starEach es X.env) (a:(backTo o (starEach es X.env)).any (·.1)=false) (c:ab x:=by decide) :
  PD K X (.Call (.Name x p) (e::es) [] o) (n5 z u):=⟨λg=>by
 subst g;obtain⟨f,j,F,b,k,m⟩:=C.ex
 exact (G4 F y v m k b ku l r a c).pe rfl⟩
def dE(P:Params)(x:Str)(n:Nat)(v:Value):DictEntry:=⟨PyData.keyHash P x,.str x n,v⟩
def cO(n:Str)(a:Nat)(q:Str)(b c:Nat)(l m:Int)(k:Int)(r:Nat)(g:Int)(t:Nat)(x y:Value)(z:Nat)(i:Int)(d:Nat):Obj:=⟨.type "code",none,.fields #[.str n a,.str q b,.str "/claim/cut.py" c,.int l 0,.int m 0,.int 0 0,.int 0 0,.int k 0,.ref r,.bool true,.int g 0,.ref t,.none,x,y,.ref z,.int i 0,.int l 0,.str "/claim/cut.py" d],#[]⟩
def fO(s:Stmt)(n q m:Str)(i c:Nat):Obj:=⟨.type "function",none,.func (fnOf n q (je s) (gy s) (av s) .none .none .none (.str m i) none (.ref c) .none),#[]⟩
def Has(K:Frag)(s:Stmt)(x:Str):Prop:=∃f m i c,nsIn K mainGlobals x=some (some (.ref f))/\K.lookup f=some (fO s x x m i c)/\codeIn K (.ref c) x=true
def Has.of{s:Stmt}{m:Str}{i c:Nat}(a:nsIn K mainGlobals x=some (some (.ref f)))(l:K.lookup f=some (fO s x x m i c))(k:codeIn K (.ref c) x=true):Has K s x:=⟨f,m,i,c,a,l,k⟩
def Has.fn(a:Has K st x)(X:K.In h)(G:h.Ns mainGlobals mg):∃f j,Fun K x x st f j/\mg x=some (.ref f)/\∃m i c,j=fnOf x x (je st) (gy st) (av st) .none .none .none (.str m i) none (.ref c) .none:=by obtain⟨f,m,i,c,a,l,k⟩:=a;exact⟨f,_,uT l k (by unfold keepIn;simp only[l];rfl),mg_of X G a,m,i,c,rfl⟩
def qW{A:Type}{p:List A->Prop}(h:∀a0,p [a0]):∀us:List A,us.length=1->p us
 | [a0],_=>h a0
def rD{A:Type}{p:List A->Prop}(h:∀a0 a1,p [a0,a1]):∀us:List A,us.length=2->p us
 | [a0,a1],_=>h a0 a1
def ql{A:Type}{p:List A->Prop}(h:∀a0 a1 a2,p [a0,a1,a2]):∀us:List A,us.length=3->p us
 | [a0,a1,a2],_=>h a0 a1 a2
def sC{A:Type}{p:List A->Prop}(h:∀a0 a1 a2 a3,p [a0,a1,a2,a3]):∀us:List A,us.length=4->p us
 | [a0,a1,a2,a3],_=>h a0 a1 a2 a3
inductive HasM(K:Frag)(st:Stmt)(C:Addr)(m q:Str):Prop|mk (f:Addr) (j:FuncData) (_:findIn K (.ref C) m=some (some (.ref f))) (_:isFn K (.ref f)=true) (_:keepIn K (.ref f)=true) (_:Fun K m q st f j)
def HasM.of{C:Addr}{m q:Str}{A:Value}{B y:Option Addr}{v:Array (Option Value)}{kV g E r ct:Value}(a:findIn K (.ref C) m=some (some (.ref f)))(i:isFn K (.ref f)=true)(l:K.lookup f=some ⟨A,B,.func (fnOf m q (je st) (gy st) (av st) .none kV g E y r ct),v⟩)(c:codeIn K r q=true)(k:keepIn K (.ref f)=true):HasM K st C m q:=⟨f,_,a,i,k,uT l c k⟩
abbrev rW(st:Stmt)(x q:Str)(ps:List Str):Prop:=∀(kV a l:Value)(g:Option Addr)(c ct:Value)(us:List Value),us.length=ps.length->bindArgs (fnOf x q (je st) (gy st) (av st) .none kV a l g c ct) ⟨us,[]⟩=pure (ps.zip us)
def Fun.bd{q:Str}(F:Fun K x q st f j)(b:rW st x q ps:=by intro _ _ _ _ _ _;first|exact qW λ_=>rfl|exact rD λ_ _=>rfl|exact ql λ_ _ _=>rfl|exact sC λ_ _ _ _=>rfl|exact us_0 rfl|exact us_5 λ_ _ _ _ _=>rfl|exact us_6 λ_ _ _ _ _ _=>rfl|exact us_7 λ_ _ _ _ _ _ _=>rfl|exact us_8 λ_ _ _ _ _ _ _ _=>rfl):Binds K j ps []:=F.binds b
def Fun.cl(F:Fun K x x st f j)(m:mg x=some (.ref f))(H:FnOk P w K mg base aI n f j ps (lSp K z))
  (b:rW st x x ps:=by intro _ _ _ _ _ _;first|exact qW λ_=>rfl|exact rD λ_ _=>rfl|exact ql λ_ _ _=>rfl|exact sC λ_ _ _ _=>rfl|exact us_0 rfl|exact us_5 λ_ _ _ _ _=>rfl|exact us_6 λ_ _ _ _ _ _=>rfl|exact us_7 λ_ _ _ _ _ _ _=>rfl|exact us_8 λ_ _ _ _ _ _ _ _=>rfl):Cl P w K mg base n x ps z:=.of F (F.binds b) m H
end
section
variable{K:Frag}{X:Cx}{n:Nat}{x:Str}{ps:List Str}{z:cu}{e:Expr}{es:List Expr}{c p:Pos}{j:aR}
def RpQ.up{Φ f:Hp}{d:D}{v:V}(h:RpQ K Φ f d v)(g:Same Φ f):Rp K f d v:=by
 rcases h with h|⟨a,vs,ds,rfl,rfl,l,rl⟩
 ·exact h.same g
 ·exact .lst l rl.1 (rl.same g).2
def A4(sp:cu)(t:aR):TD:=λρ R=>t ρ λds=>sp ds λd=>vh d/\R d
def pY(C:Cl X.prog X.w K X.mg X.base n x ps z)(P:Room n X.A)(M:Gl X x)
  (J:PAQ K X (e::es) j) (L:starEach (e::es) X.env=(false,eval e X.env)::starEach es X.env) (A:(backTo c (starEach es X.env)).any (·.1)=false) (G:ab x:=by decide) :
  PD K X (.Call (.Name x p) (e::es) [] c) (A4 z j):=⟨λI=>by
 subst I;obtain⟨f,Z,F,b,k,m⟩:=C.ex;refine (p9 F P M m k b .nil ku (J.pa rfl) G L A).imp λσ H Q B=>?_;obtain⟨w,Φ,ρ,R,E,t,k⟩:=B;refine⟨w,Φ,ρ,_,E,t,λds a y vs r g rl=>?_⟩;refine⟨y,ds,_,λ_ _ h=>h,(E.tb.same g.f).same g.s,?_,r,λd Y o v l g' U=>?_⟩
 ·rw[Kz];exact⟨rl.1,λi v d S hd=>RpQ.up (rl.2 i v d S hd) g.s⟩
 ·exact k d a o v l.2 ⟨g.f,g.h.trans g'.h,λb u h=>g'.h b u (g.s b u h),λq u O N T=>g.o q u O N T⟩ (U.flat l.1)⟩
end
end L2
namespace L2
open PySem PySem.Spec PySem.W PyProof.Rows PySem.Calls
end L2
namespace L2
open PySem PySem.Spec PyProof.Rows
def vv(val:Nat->Int):∀k,argBest (λi j=>decide (val i>val j)) k<=k/\∀j,j<=k->val j<=val (argBest (λi j=>decide (val i>val j)) k)
 |0=>⟨J3 _,λj a=>by rw[Nat.le_zero.mp a];exact LG _⟩
 |k+1=>by
  obtain⟨f,e⟩:=vv val k;show (if decide (val (k+1)>val (argBest _ k)) then k+1 else argBest _ k)<=k+1/\∀j,j<=k+1->val j<=val (if decide (val (k+1)>val (argBest _ k)) then k+1 else argBest _ k);by_cases c:val (k+1)>val (argBest (λi j=>decide (val i>val j)) k)
  ·rw[J9 (KZ c)];refine⟨J3 _,λj a=>?_⟩;rcases Nat.lt_or_eq_of_le a with h|h
   ·have:=e j (by omega);omega
   ·rw[h];exact LG _
  ·rw[JZ λz=>c (K9 z)];refine⟨by omega,λj a=>?_⟩;rcases Nat.lt_or_eq_of_le a with h|h
   ·exact e j (by omega)
   ·rw[h];omega
section
variable{prog:Program}{w:World}{A:Around}{E:Value->Shared->Prop}{s:Shared}
def D9{l:Addr}{its:Array Value}{val:Nat->Int}{Q:Value->Shared->Prop}(z:A.handled=none)(f:s.heap.IsList l its)(r:0<its.size)(u:∀(i:Nat)(v:Value),its[i]?=some v->∃t,v=.int (val i) t)
  (h:∀(i:Nat)(v:Value)(h':Heap)(g:Nat),its[i]?=some v->(∀j,j<its.size->val j<=val i)->(∀b o,s.heap.get? b=some o->h'.get? b=some o)->Q v { s with heap:=h',toks:=g }) :
  wpAny (model prog w) A (call (.builtin "max") [.ref l]) Q E s:=by
 have p:l<s.heap.objs.size:=by obtain⟨_,e,_⟩:=f;exact Kk e
 refine call_max_walk (ML f ?_);refine⟨_,[_,l],[_],_,_,_,_,rfl,Walks.list (A:=A.in1) z _ l (KD p) its,⟨⟨_,Ke _ rfl,rfl,rfl⟩,f.push _⟩,λc a=>?_,r,CmpOf.ints_gt val u,λv h' g y B=>?_⟩
 ·show c<(s.heap.push _).objs.size;rw[KS];rcases Kd.mp a with rfl|a
  ·exact L9 _
  ·rw[J5.mp a];exact L5 p
 ·obtain⟨C,x⟩:=vv val (its.size-1);exact h _ v h' g y (λj F=>x j (by omega)) (old_kept B)
end
section
variable{K:Frag}{X:Cx}
def BP:cu:=λds R=>∃xs:List Int,ds=[.lst (xs.map D.int)]/\xs≠[]/\∀m∈xs,(∀x∈xs,x<=m)->R (.int m)
def zG(E:X.calm=true):CallD K X (.builtin "max") BP:=⟨λO y s S H xs us Q I rr B=>by
 obtain⟨Φ,ds,R,sm,F,⟨ns,rfl,A,h⟩,k⟩:=B;obtain⟨v,rfl,r⟩:=fM F;obtain⟨a,vs,rfl,L,M⟩:=r.lst sm;have ev:=xT M;subst ev;obtain⟨u,rfl,N⟩:=hV rr;cases (show u=Value.ref a from N);obtain⟨_,its,n,z,J⟩:=(show ObjOk X.prog X.w H s.heap a (.lst (ns.map V.int))from I.hok a _ L)
 have c:its.length=ns.length:=by rw[←z.length,JT]
 have at_:∀(i:Nat)(v:Value),its.toArray[i]?=some v->i<ns.length/\RelV (.int (ns.getD i 0)) v:=λi v f=>by
  rw[List.getElem?_toArray]at f;have o:=aE f
  have g:ns[i]?=some (ns.getD i 0):=by rw[J6,KU (by omega)];rfl
  obtain⟨u,p,j⟩:=z.get (i:=i) (x:=.int (ns.getD i 0)) (by rw[J7,g];rfl);rw[f]at p;cases p;exact⟨by omega,j⟩
 refine D9 (its:=its.toArray) (val:=λi=>ns.getD i 0) (I.ok.hd E) ⟨_,J,rfl,n,rfl⟩ (by rw[Ka,c];exact List.length_pos_iff.mpr A) (λi v f=>(at_ i v f).2) λi v h' P f C kp=>?_;obtain⟨o,j⟩:=at_ i v f
 have g:ns[i]?=some (ns.getD i 0):=by rw[J6,KU o];rfl
 refine⟨.int (ns.getD i 0),H,I.kept kp,j,k _ Φ H _ (h _ (J0 g) λm G=>?_) (.refl sm) (.int _)⟩;obtain⟨w,l⟩:=KY G;have:=C w (by rw[Ka,c];exact aE l)
 have e:ns.getD w 0=m:=by rw[J6,l];rfl
 rw[e]at this
 exact this⟩
end
inductive Fl where|v (d:D)|l (xs:List D)|al (p:Addr)
inductive Om where|lst (xs:List D)|map (Oc:List (aC×D))|mpT (Oc:List (List aC×D))|obj (nm:Str) (fs:List (Str×Fl))|ptr|tl (ps:List (Addr×Option (List D)))|pr (xs:List D) (d:D)
def Om.solid:Om->Bool
 |.ptr=>false
 |.tl _=>false
 |.pr _ _=>false
 |_=>true
inductive Sm where|v (d:D)|ob (a:Option Addr) (o:Om)
abbrev Sm.own(xs:List D):Sm:=.ob none (.lst xs)
abbrev aq:=List (Option Sm)
def gG{c:Type}(K:Frag)(Φ:Hp)(a:c×D)(b:c×V):Prop:=a.1=b.1/\Rp K Φ a.2 b.2
inductive FlsR(K:Frag)(Φ H:Hp):List (Str×Fl)->List (Str×V)->List Addr->Prop where
 |nil:FlsR K Φ H [] [] []
 |v {f:Str} {d:D} {v:V} {fs:List (Str×Fl)} {vs:List (Str×V)} {qs:List Addr}:Rp K Φ d v->FlsR K Φ H fs vs qs->FlsR K Φ H ((f,.v d)::fs) ((f,v)::vs) qs
 |l {f:Str} {ds:List D} {ws:List V} {q:Addr} {fs:List (Str×Fl)} {vs:List (Str×V)} {qs:List Addr}:H q=some (.lst ws)->RpL K Φ ds ws->FlsR K Φ H fs vs qs->FlsR K Φ H ((f,.l ds)::fs) ((f,.ref q)::vs) (q::qs)
 |al {f:Str} {p:Addr} {fs:List (Str×Fl)} {vs:List (Str×V)} {qs:List Addr}:FlsR K Φ H fs vs qs->FlsR K Φ H ((f,.al p)::fs) ((f,.ref p)::vs) qs
inductive TlS(K:Frag)(Φ H:Hp):List (Addr×Option (List D))->List Addr->Prop where
 |nil:TlS K Φ H [] []
 |ptr {q:Addr} {ps:List (Addr×Option (List D))} {F:List Addr}:TlS K Φ H ps F->TlS K Φ H ((q,none)::ps) F
 |own {q:Addr} {ds:List D} {ws:List V} {ps:List (Addr×Option (List D))} {F:List Addr}:H q=some (.lst ws)->RpL K Φ ds ws->TlS K Φ H ps F->TlS K Φ H ((q,some ds)::ps) (q::F)
inductive OmS(K:Frag)(Φ H:Hp):Om->Addr->List Addr->Prop where
 |lst {ds:List D} {vs:List V} {p:Addr}:H p=some (.lst vs)->RpL K Φ ds vs->OmS K Φ H (.lst ds) p [p]
 |map {Oc:List (aC×D)} {ws:List (aC×V)} {p:Addr}:H p=some (.dK ws)->Paired (gG K Φ) Oc ws->OmS K Φ H (.map Oc) p [p]
 |mpT {Oc:List (List aC×D)} {ws:List (List aC×V)} {p:Addr}:H p=some (.dT ws)->Paired (gG K Φ) Oc ws->OmS K Φ H (.mpT Oc) p [p]
 |obj {nm:Str} {fs:List (Str×Fl)} {C dx:Addr} {vs:List (Str×V)} {p:Addr} {qs:List Addr}:nsIn K mainGlobals nm=some (some (.ref C))->H p=some (.ins C dx vs)->FlsR K Φ H fs vs qs->(p::qs).Nodup->OmS K Φ H (.obj nm fs) p (p::qs)
 |ptr {p:Addr}:OmS K Φ H .ptr p []
 |tl {ps:List (Addr×Option (List D))} {p:Addr} {F:List Addr}:Φ p=some (.tup (ps.map λq=>V.ref q.1))->TlS K Φ H ps F->F.Nodup->OmS K Φ H (.tl ps) p F
 |pr {ds:List D} {d:D} {p q:Addr} {v:V} {ws:List V}:Φ p=some (.tup [.ref q,v])->H q=some (.lst ws)->RpL K Φ ds ws->Rp K Φ d v->OmS K Φ H (.pr ds d) p [q]
section
variable{K:Frag}{H f Φ a:Hp}{fs:List (Str×Fl)}{vs:List (Str×V)}{c F F':List Addr}{o:Om}{p:Addr}
def pB{e g:Type}{F G:e->g->Prop}(h:∀x y,F x y->G x y):∀{l:List e}{m:List g},Paired F l m->Paired G l m
 |_,_,.nil=>.nil
 |_,_,.cons r t=>.cons (h _ _ r) (pB h t)
def FlsR.keep(s:Same Φ a)(h:FlsR K Φ H fs vs c)(k:∀b∈c,∀u,H b=some u->f b=some u):FlsR K a f fs vs c:=by
 induction h with
 |nil=>exact .nil
 |v r _ e=>exact .v (r.same s) (e k)
 |l g j _ e=>exact .l (k _ J2 _ g) (j.same s) (e λb w=>k b (J1 _ w))
 |al _ e=>exact .al (e k)
def FlsR.at(h:FlsR K Φ H fs vs c):∀b∈c,∃u,H b=some (.lst u):=by
 induction h with
 |nil=>intro b e;cases e
 |v r _ g=>exact g
 |l j w _ g=>
  intro b e;rcases Kd.mp e with rfl|e
  ·exact⟨_,j⟩
  ·exact g b e
 |al _ g=>exact g
def FlsR.names(h:FlsR K Φ H fs vs c):vs.map (·.1)=fs.map (·.1):=by
 induction h with
 |nil=>rfl
 |v r _ e=>rw[Kn,Kn,e]
 |l g j _ e=>rw[Kn,Kn,e]
 |al _ e=>rw[Kn,Kn,e]
def TlS.keep{ps:List (Addr×Option (List D))}(s:Same Φ a)(h:TlS K Φ H ps F)(k:∀b∈F,∀u,H b=some u->f b=some u):TlS K a f ps F:=by
 induction h with
 |nil=>exact .nil
 |ptr _ e=>exact .ptr (e k)
 |own g j _ e=>exact .own (k _ J2 _ g) (j.same s) (e λb l=>k b (J1 _ l))
def TlS.at{ps:List (Addr×Option (List D))}(h:TlS K Φ H ps F):∀b∈F,∃l,H b=some (.lst l):=by
 induction h with
 |nil=>intro b e;cases e
 |ptr _ g=>exact g
 |own j r _ g=>
  intro b e;rcases Kd.mp e with rfl|e
  ·exact⟨_,j⟩
  ·exact g b e
def TlS.out{q:Addr}{ds:List D}:∀{ps:List (Addr×Option (List D))}{F:List Addr}{k:Nat},TlS K Φ H ps F->ps[k]?=some (q,some ds)->∃e F',H q=some (.lst e)/\RpL K Φ ds e/\TlS K Φ H (ps.set k (q,none)) F'/\F.Perm (q::F')
 |_,_,k,.nil,h=>by simp at h
 |_,_,0,.ptr _,h=>by simp at h
 |_,_,k+1,.ptr t,h=>by obtain⟨e,F',g,j,r,u⟩:=TlS.out t h;exact⟨e,F',g,j,.ptr r,u⟩
 |_,_,0,.own g j t,h=>by cases h;exact⟨_,_,g,j,.ptr t,.refl _⟩
 |_,_,k+1,.own (q:=l) g j t,h=>by obtain⟨e,F',v,w,x,y⟩:=TlS.out t h;exact⟨e,l::F',v,w,.own g j x,(y.cons l).trans (List.Perm.swap q l F')⟩
def OmS.keep(s:Same Φ a)(h:OmS K Φ H o p F)(k:∀b∈F,∀u,H b=some u->f b=some u):OmS K a f o p F:=by
 cases h with
 |lst e g=>exact .lst (k _ J2 _ e) (g.same s)
 |map e g=>exact .map (k _ J2 _ e) (pB (λ_ _ r=>⟨r.1,r.2.same s⟩) g)
 |mpT e g=>exact .mpT (k _ J2 _ e) (pB (λ_ _ r=>⟨r.1,r.2.same s⟩) g)
 |obj l e g j=>exact .obj l (k _ J2 _ e) (g.keep s λb w=>k b (J1 _ w)) j
 |ptr=>exact .ptr
 |tl e g j=>exact .tl (s _ _ e) (g.keep s k) j
 |pr e g j v=>exact .pr (s _ _ e) (k _ J2 _ g) (j.same s) (v.same s)
def OmS.mem(h:OmS K Φ H o p F)(e:o.solid=true:=by rfl):p∈F:=by cases h<;>first|exact J2|cases e
def OmS.at(h:OmS K Φ H o p F):∀b∈F,∃u,H b=some u/\ng u:=by
 intro b g
 cases h with
 |lst e j=>rw[J5.mp g];exact⟨_,e,trivial⟩
 |map e j=>rw[J5.mp g];exact⟨_,e,trivial⟩
 |mpT e j=>rw[J5.mp g];exact⟨_,e,trivial⟩
 |obj w e j r=>
  rcases Kd.mp g with rfl|g
  ·exact⟨_,e,trivial⟩
  ·obtain⟨v,l⟩:=j.at b g;exact⟨_,l,trivial⟩
 |ptr=>cases g
 |tl e j r=>
  obtain⟨v,l⟩:=j.at b g;exact⟨_,l,trivial⟩
 |pr e j r x=>rw[J5.mp g];exact⟨_,j,trivial⟩
def OmS.tl_inv{ps:List (Addr×Option (List D))}(h:OmS K Φ H (.tl ps) p F):Φ p=some (.tup (ps.map λq=>V.ref q.1))/\TlS K Φ H ps F/\F.Nodup:=by
 cases h with
 |tl e g j=>exact⟨e,g,j⟩
def OmS.lst_inv{ds:List D}(h:OmS K Φ H (.lst ds) p F):F=[p]/\∃vs,H p=some (.lst vs)/\RpL K Φ ds vs:=by
 cases h with
 |lst e g=>exact⟨rfl,_,e,g⟩
def OmS.map_inv{e:List (aC×D)}(h:OmS K Φ H (.map e) p F):F=[p]/\∃g,H p=some (.dK g)/\Paired (gG K Φ) e g:=by
 cases h with
 |map j l=>exact⟨rfl,_,j,l⟩
def OmS.mpT_inv{e:List (List aC×D)}(h:OmS K Φ H (.mpT e) p F):F=[p]/\∃g,H p=some (.dT g)/\Paired (gG K Φ) e g:=by
 cases h with
 |mpT j l=>exact⟨rfl,_,j,l⟩
def OmS.obj_inv{nm:Str}(h:OmS K Φ H (.obj nm fs) p F):∃C e vs c,F=p::c/\nsIn K mainGlobals nm=some (some (.ref C))/\H p=some (.ins C e vs)/\FlsR K Φ H fs vs c/\(p::c).Nodup:=by
 cases h with
 |obj g j l r=>exact⟨_,_,_,_,rfl,g,j,l,r⟩
def OmS.gr(g:Gr Φ H a f)(h:OmS K Φ H o p F):OmS K a f o p F:=h.keep g.f λb _ u e=>g.h b u e
end
structure EnvM'(K:Frag)(H0 Φ H:Hp)(σ:St)(ρ:aq)(fp:Nat->List Addr):Prop where
 fz:Same Φ H
 len:σ.length=ρ.length
 sl:∀(i:Nat)(d:D),ρ[i]?=some (some (.v d))->∃v,σ[i]?=some (some v)/\Rp K Φ d v
 ow:∀(i:Nat)(a:Option Addr)(o:Om),ρ[i]?=some (some (.ob a o))->∃p,σ[i]?=some (some (.ref p))/\(∀q,a=some q->q=p)/\OmS K Φ H o p (fp i)
 no:∀(i:Nat)(a:Option Addr)(o:Om),ρ[i]?=some (some (.ob a o))->∀b∈fp i,H0 b=none/\Φ b=none
 dj:∀(i j:Nat)(a a':Option Addr)(o o':Om),ρ[i]?=some (some (.ob a o))->ρ[j]?=some (some (.ob a' o'))->i≠j->∀b∈fp i,b∉fp j
 tb:TabF K Φ
def EnvM(K:Frag)(a Φ H:Hp)(e:St)(ρ:aq):Prop:=∃c,EnvM' K a Φ H e ρ c
section
variable{K:Frag}{l H B Φ A G:Hp}{f I:St}{ρ C:aq}{w:Nat->List Addr}{F F':List Addr}{o o':Om}{p:Addr}{d:D}{v:V}{i:Nat}{a:Option Addr}
def EnvM.fz(E:EnvM K l Φ H f ρ):Same Φ H:=let ⟨_,E⟩:=E;E.fz
def EnvM.tb(E:EnvM K l Φ H f ρ):TabF K Φ:=let ⟨_,E⟩:=E;E.tb
def EnvM.len(E:EnvM K l Φ H f ρ):f.length=ρ.length:=let ⟨_,E⟩:=E;E.len
def EnvM.sl(E:EnvM K l Φ H f ρ)(h:ρ[i]?=some (some (.v d))):∃v,f[i]?=some (some v)/\Rp K Φ d v:=let ⟨_,E⟩:=E;E.sl i d h
def EnvM'.gr(E:EnvM' K l Φ H f ρ w)(g:Gr Φ H A B):EnvM' K l A B f ρ w:=
 ⟨g.s,E.len,λi d h=>let ⟨v,e,r⟩:=E.sl i d h;⟨v,e,r.same g.f⟩,λi a o h=>let ⟨p,e,ha,r⟩:=E.ow i a o h;⟨p,e,ha,r.gr g⟩,
  λi a o h b c=>by
   obtain⟨p,_,_,r⟩:=E.ow i a o h;obtain⟨u,j,k⟩:=r.at b c
   exact⟨(E.no i a o h b c).1,g.o b u j (E.no i a o h b c).2 k⟩,E.dj,E.tb.same g.f⟩
def EnvM.gr(E:EnvM K l Φ H f ρ)(g:Gr Φ H A B):EnvM K l A B f ρ:=let ⟨w,E⟩:=E;⟨w,E.gr g⟩
def EnvM.re(m:Nat->Nat)(E:EnvM K l Φ H f ρ)(z:I.length=C.length)(h:∀(i:Nat)(x:Sm),C[i]?=some (some x)->ρ[m i]?=some (some x)/\I[i]?=f[m i]?)
  (inj:∀(i j:Nat)(a a':Option Addr)(o o':Om),C[i]?=some (some (.ob a o))->C[j]?=some (some (.ob a' o'))->m i=m j->i=j):EnvM K l Φ H I C:=by
 obtain⟨w,E⟩:=E;refine⟨λi=>w (m i),E.fz,z,λi d hd=>?_,λi a o g=>?_,λi a o g=>E.no _ a o (h i _ g).1,λi j a a' o o' u y c=>E.dj _ _ a a' o o' (h i _ u).1 (h j _ y).1 λe=>c (inj i j a a' o o' u y e),E.tb⟩
 ·obtain⟨v,e,r⟩:=E.sl _ d (h i _ hd).1;exact⟨v,by rwa[(h i _ hd).2],r⟩
 ·obtain⟨p,e,r⟩:=E.ow _ a o (h i _ g).1;exact⟨p,by rwa[(h i _ g).2],r⟩
def EnvM.take{u:St}{r:aq}(E:EnvM K l Φ H (f++u) (ρ++r))(g:ρ.length=f.length):EnvM K l Φ H f ρ:=
 E.re id g.symm (λi x h=>by
  have c:=aE h
  exact⟨by rwa[id,JV c],by rw[id,JV (by omega)]⟩) λi j _ _ _ _ _ _ e=>e
def EnvM'.take{z:St}{u:aq}(E:EnvM' K l Φ H (f++z) (ρ++u) w)(g:ρ.length=f.length):EnvM' K l Φ H f ρ w:=by
 have up:∀{i:Nat}{x:Sm},ρ[i]?=some (some x)->(ρ++u)[i]?=some (some x):=λh=>by rwa[JV (aE h)]
 have c:∀{i:Nat}{x:Sm}{y:Option V},ρ[i]?=some (some x)->(f++z)[i]?=some y->f[i]?=some y:=λh e=>by rwa [JV (by rw[←g];exact aE h)]at e
 exact⟨E.fz,g.symm,λi d h=>let ⟨v,e,r⟩:=E.sl i d (up h);⟨v,c h e,r⟩,λi a o h=>let ⟨p,e,r⟩:=E.ow i a o (up h);⟨p,c h e,r⟩,λi a o h=>E.no i a o (up h),λi j a a' o o' J L=>E.dj i j a a' o o' (up J) (up L),E.tb⟩
def EnvM.store{v:V}{x:Sm}(E:EnvM K l Φ H (f++[some v]) (ρ++[some x]))(i:Nat):EnvM K l Φ H (f.set i (some v)) (ρ.set i (some x)):=by
 have r:f.length=ρ.length:=by have:=E.len;simpa using this
 refine E.re (λj=>if j=i then ρ.length else j) (by rw[JX,JX,r]) (λj y g=>?_) λj k a a' o o' g u e=>?_
 ·by_cases c:j=i
  ·subst c
   have h:j<ρ.length:=by have:=aE g;rwa [JX]at this
   rw[Kj h]at g;cases g;rw[J9 rfl,Kj (by omega),JU (J3 _),JU (by omega),Kw,r,Kw];exact⟨rfl,rfl⟩
  ·rw[Kh (K5 c)]at g;have h:=aE g;rw[JZ c,Kh (K5 c),JV h,JV (by omega)];exact⟨g,rfl⟩
 ·have J:j<ρ.length:=by have:=aE g;rwa [JX]at this
  have z:k<ρ.length:=by have:=aE u;rwa [JX]at this
  have e:(if j=i then ρ.length else j)=(if k=i then ρ.length else k):=e;split at e<;>split at e<;>omega
def EnvM.snocV(E:EnvM K l Φ H f ρ)(r:Rp K Φ d v):EnvM K l Φ H (f++[some v]) (ρ++[some (.v d)]):=by
 obtain⟨w,E⟩:=E
 have g:∀{i:Nat}{a:Option Addr}{o:Om},(ρ++[some (Sm.v d)])[i]?=some (some (.ob a o))->ρ[i]?=some (some (.ob a o)):=λ{i a o} h=>by
  rcases KP i ρ.length with c|c
  ·rwa [JV c]at h
  ·rw[JU c]at h
   cases e:i-ρ.length with
   |zero=>rw[e]at h;cases h
   |succ n=>rw[e]at h;cases h
 refine⟨w,E.fz,by rw[JW,JW,E.len];rfl,λi d' h=>?_,λi a o h=>?_,λi a o h=>E.no i a o (g h),λi j a a' o o' x y=>E.dj i j a a' o o' (g x) (g y),E.tb⟩
 ·rcases KP i ρ.length with c|c
  ·rw[JV c]at h;obtain⟨u,e,r⟩:=E.sl i d' h;exact⟨u,by rwa[JV (by rw[E.len];exact c)],r⟩
  ·rw[JU c]at h
   cases e:i-ρ.length with
   |zero=>
    rw[e]at h;cases h;exact⟨v,by rw[JU (by rwa[E.len]),E.len,e];rfl,r⟩
   |succ n=>rw[e]at h;cases h
 ·obtain⟨p,e,r⟩:=E.ow i a o (g h);have x:=aE (g h);exact⟨p,by rwa[JV (by rw[E.len];exact x)],r⟩
def EnvM.snocO(E:EnvM K l Φ H f ρ)(Y:Same l H)(g:Gr Φ H A B)(Z:OmS K A B o p F)(R:∀b∈F,H b=none/\A b=none):EnvM K l A B (f++[some (.ref p)]) (ρ++[some (.ob none o)]):=by
 obtain⟨w,E⟩:=E
 have P:∀b∈F,∀(i:Nat)(a:Option Addr)(o:Om),ρ[i]?=some (some (.ob a o))->b∉w i:=λb y i a o h z=>by obtain⟨q,_,_,r⟩:=E.ow i a o h;obtain⟨u,T,_⟩:=r.at b z;rw[(R b y).1]at T;cases T
 have N:=E.gr g
 have M:∀{i:Nat}{x:Sm},(ρ++[some (Sm.ob none o)])[i]?=some (some x)->(i<ρ.length/\ρ[i]?=some (some x))\/(i=ρ.length/\x=.ob none o):=λ{i x} h=>by
  rcases KP i ρ.length with c|c
  ·rw[JV c]at h;exact .inl ⟨c,h⟩
  ·rw[JU c]at h
   cases e:i-ρ.length with
   |zero=>rw[e]at h;cases h;exact .inr ⟨by omega,rfl⟩
   |succ n=>rw[e]at h;cases h
 refine⟨λi=>if i=ρ.length then F else w i,N.fz,by rw[JW,JW,E.len];rfl,λi d h=>?_,λi a o' h=>?_,λi a o' h b y=>?_,λi j a a' U X O J c b y L=>?_,N.tb⟩
 ·rcases M h with⟨c,h⟩|⟨_,h⟩
  ·obtain⟨v,e,r⟩:=N.sl i d h;exact⟨v,by rwa[JV (by rw[E.len];exact c)],r⟩
  ·cases h
 ·rcases M h with⟨c,h⟩|⟨c,h⟩
  ·obtain⟨q,e,r⟩:=N.ow i a o' h;exact⟨q,by rwa[JV (by rw[E.len];exact c)],by rwa[JZ (by omega)]⟩
  ·cases h;subst c;refine⟨p,by rw[JU (by rw[E.len];exact J3 _),E.len,Kw];rfl,(λq e=>by cases e),by rwa[J9 rfl]⟩
 ·rcases M h with⟨c,h⟩|⟨c,h⟩
  ·rw[JZ (by omega)]at y;exact N.no i a o' h b y
  ·rw[J9 c]at y;exact⟨Y.free (R b y).1,(R b y).2⟩
 ·rcases M O with⟨S,O⟩|⟨S,O⟩
  ·rw[JZ (by omega)]at y;rcases M J with⟨Q,J⟩|⟨Q,J⟩
   ·rw[JZ (by omega)]at L;exact E.dj i j a a' U X O J c b y L
   ·rw[J9 Q]at L;exact P b L i a U O y
  ·rw[J9 S]at y;rcases M J with⟨Q,J⟩|⟨Q,J⟩
   ·rw[JZ (by omega)]at L;exact P b y j a' X J L
   ·omega
def EnvM'.put(E:EnvM' K l Φ H f ρ w)(P:ρ[i]?=some (some (.ob a o)))(Z:f[i]?=some (some (.ref p)))(U:∀b u,H b=some u->b∉w i->B b=some u)(hO:OmS K Φ B o' p F')(T:∀b∈F',b∈w i\/(H b=none/\l b=none/\Φ b=none)) :
  EnvM' K l Φ B f (ρ.set i (some (.ob a o'))) (λj=>if j=i then F' else w j):=by
 have Ox:=aE P
 have O:∀{j:Nat}{x:Sm},(ρ.set i (some (Sm.ob a o')))[j]?=some (some x)->(j=i/\x=.ob a o')\/(j≠i/\ρ[j]?=some (some x)):=λ{j x} h=>by
  rcases cU h with⟨e,_,e1⟩|⟨e,h⟩
  ·cases e1;exact .inl ⟨e,rfl⟩
  ·exact .inr ⟨e,h⟩
 have X:∀b∈F',∀(j:Nat)(a':Option Addr)(y:Om),ρ[j]?=some (some (.ob a' y))->j≠i->b∉w j:=λb g j a' y J c z=>by
  rcases T b g with h|⟨h,_⟩
  ·exact E.dj j i a' a y o J P c b z h
  ·obtain⟨q,_,_,r⟩:=E.ow j a' y J;obtain⟨u,R,_⟩:=r.at b z;rw[h]at R;cases R
 refine⟨λb u e=>U b u (E.fz b u e) λz=>?_,by rw[JX,E.len],λj d h=>?_,λj a' y h=>?_,λj a' y h b g=>?_,λj k a1 a2 Y y J L c b g N=>?_,E.tb⟩
 ·rw[(E.no i a o P b z).2]at e;cases e
 ·rcases O h with⟨_,h⟩|⟨_,h⟩
  ·cases h
  ·exact E.sl j d h
 ·rcases O h with⟨c,h⟩|⟨c,h⟩
  ·cases h;subst c;obtain⟨q,e,S,_⟩:=E.ow j a o P;rw[Z]at e;cases e;exact⟨p,Z,S,by rwa[J9 rfl]⟩
  ·obtain⟨q,e,S,r⟩:=E.ow j a' y h;refine⟨q,e,S,?_⟩;rw[JZ c];exact r.keep (Same.refl _) λb g u R=>U b u R λz=>E.dj j i a' a y o h P c b g z
 ·rcases O h with⟨c,h⟩|⟨c,h⟩
  ·rw[J9 c]at g;rcases T b g with z|⟨_,z⟩
   ·exact E.no i a o P b z
   ·exact z
  ·rw[JZ c]at g;exact E.no j a' y h b g
 ·rcases O J with⟨Q,J⟩|⟨Q,J⟩
  ·rw[J9 Q]at g;rcases O L with⟨M,L⟩|⟨M,L⟩
   ·omega
   ·rw[JZ M]at N;exact X b g k a2 y L M N
  ·rw[JZ Q]at g;rcases O L with⟨M,L⟩|⟨M,L⟩
   ·rw[J9 M]at N;exact X b N j a1 Y J Q g
   ·rw[JZ M]at N;exact E.dj j k a1 a2 Y y J L c b g N
def EnvM'.grput(E:EnvM' K l Φ H f ρ w)(g:Gr G l Φ H)(h:ρ[i]?=some (some (.ob a o)))(c:∀b u,H b=some u->b∉w i->B b=some u):Gr G l Φ B:=
 ⟨g.f,λb u e=>c b u (g.h b u e) (λz=>by rw[(E.no i a o h b z).1]at e;cases e),λb u e=>c b u (g.s b u e) (λz=>by rw[(E.no i a o h b z).2]at e;cases e),λp u j r k=>g.o p u j r k⟩
def EnvM.list{ds:List D}(E:EnvM K l Φ H f ρ)(g:Gr G l Φ H)(h:ρ[i]?=some (some (.ob a (.lst ds)))):∃q vs,f[i]?=some (some (.ref q))/\H q=some (.lst vs)/\l q=none/\Φ q=none/\RpL K Φ ds vs /\
  ∀(es:List D)(c:List V),RpL K Φ es c->EnvM K l Φ (au H q (.lst c)) f (ρ.set i (some (.ob a (.lst es))))/\Gr G l Φ (au H q (.lst c)):=by
 obtain⟨w,E⟩:=E;obtain⟨q,e,_,r⟩:=E.ow i a _ h;have y:=r.mem;have j:=E.no i a _ h q y;obtain⟨_,vs,L,M⟩:=r.lst_inv;refine⟨q,vs,e,L,j.1,j.2,M,λes c J=>?_⟩
 have x:∀b u,H b=some u->b∉w i->au H q (.lst c) b=some u:=λb u e O=>by
  rwa[ba λz=>O (by rw[z];exact y)]
 exact⟨⟨_,E.put h e x (F':=[q]) (.lst br J) λb N=>.inl (by rwa[J5.mp N])⟩,E.grput g h x⟩
end
def qd:Option Sm->Option Sl
 |some (.v d)=>some (.v d)
 |some (.ob _ (.lst xs))=>some (.own xs)
 |some (.ob _ (.map a))=>some (.dct (a.map (·.1)))
 |some (.ob _ (.mpT a))=>some (.dcT (a.map (·.1)))
 |_=>none
abbrev dN(ρ:aq):bz:=ρ.map qd
def lz{c:Type}{K:Frag}{Φ:Hp}:∀{a:List (c×D)}{b:List (c×V)},Paired (gG K Φ) a b->b.map (·.1)=a.map (·.1)
 |_,_,.nil=>rfl
 |_,_,.cons r t=>by rw[Kn,Kn,lz t,r.1]
def EnvM.toD{K:Frag}{F Φ H:Hp}{C:St}{ρ:aq}(E:EnvM K F Φ H C ρ):EnvD K F Φ H C (dN ρ):=by
 obtain⟨L,E⟩:=E
 have at_:∀{i:Nat}{x:Sl},(dN ρ)[i]?=some (some x)->∃y,ρ[i]?=some (some y)/\qd (some y)=some x:=λ{i x} h=>by
  rw[J7]at h
  cases e:ρ[i]? with
  |none=>rw[e]at h;cases h
  |some y=>
   rw[e]at h
   cases y with
   |none=>cases h
   |some y=>exact⟨y,rfl,Kv h⟩
 have ow:∀{i:Nat}{o:Ow},(dN ρ)[i]?=some (some (.ob o))->∃a f p u,ρ[i]?=some (some (.ob a f))/\C[i]?=some (some (.ref p))/\p∈L i/\H p=some u/\OwR K Φ o u:=λ{i o} h=>by
  obtain⟨y,z,e⟩:=at_ h
  cases y with
  |v d=>cases e
  |ob a f=>
   obtain⟨p,B,_,r⟩:=E.ow i a f z;refine⟨a,f,p,?_⟩
   cases f with
   |lst ds=>obtain⟨_,vs,g,l⟩:=r.lst_inv;cases e;exact⟨_,z,B,r.mem,g,l⟩
   |map I=>obtain⟨_,vs,g,l⟩:=r.map_inv;cases e;exact⟨_,z,B,r.mem,g,lz l⟩
   |mpT I=>obtain⟨_,vs,g,l⟩:=r.mpT_inv;cases e;exact⟨_,z,B,r.mem,g,lz l⟩
   |obj nm fs=>cases e
   |ptr=>cases e
   |tl ps=>cases e
   |pr ds d=>cases e
 refine⟨E.fz,by rw[JT,E.len],λi d h=>?_,λi o h=>?_,λi j o w p O P S T=>?_,E.tb⟩
 ·obtain⟨y,z,e⟩:=at_ h
  cases y with
  |v d'=>cases e;exact E.sl i d z
  |ob a f=>cases f<;>cases e
 ·obtain⟨a,f,p,u,g,l,A,M,N⟩:=ow h;exact⟨p,u,l,(E.no i a f g p A).1,(E.no i a f g p A).2,M,N⟩
 ·obtain⟨a,f,U,u,g,l,A,_,_⟩:=ow O;obtain⟨a',J,X,u',Q,G,R,_,_⟩:=ow P;rw[S]at l;cases l;rw[T]at G;cases G;rcases Mj (i=j)with c|c
  ·exact c
  ·exact absurd R (E.dj i j a a' f J g Q c p A)
def GI(h:Heap)(e:Addr)(vs:Array Value)(T:Option Addr)(f:Value):Prop:=match T with
 |none=>vs[1]?=some .none
 |some T=>vs[1]?=some (.ref T)/\T≠e/\∃a c,h.get? T=some a/\a.data=.fields c/\c[3]?=some f
structure Fly(h:Heap)(e:Addr)(T:Option Addr)(fl cls:Value)(dx:Option Addr):Prop where
 ex:∃oe vs,h.get? e=some oe/\oe.data=.fields vs/\oe.cls=cls/\oe.dict=dx/\GI h e vs T fl
structure XD where
 nm:Str
 at_:Option D
def Bi(K:Frag)(H:Hp)(at_:Option D)(a:Option Addr):Prop:=match at_ with
 |none=>a=none
 |some d=>∃p v,a=some p/\H p=some (.xd [("at",v)])/\Rp K (λ_=>none) d v
structure XSt(X:Cx)(pins:List (Addr×Obj))(σ:St)(H:Hp)(xd:XD)(e:Value)(s:Shared):Prop where
 inv:Inv X pins σ H s
 ex:∃(ea C:Addr)(T dx:Option Addr),e=.ref ea/\Fly s.heap ea T .none (.ref C) dx/\X.mg xd.nm=some (.ref C)/\Bi X.K H xd.at_ dx/\(X.s₀.heap.get? ea=none/\H ea=none/\∀p∈X.pn++pins,p.1≠ea)/\∀T',T=some T'->X.s₀.heap.get? T'=none/\H T'=none/\∀p∈X.pn++pins,p.1≠T'
def XeOk(K:Frag)(X:Cx)(j l:Hp)(r:XD->aq->Prop):Prop:=∀p f c h g e o a,r p f->Gr j l c h->EnvM K l c h g f->XSt X a g h p e o->X.xe e o
structure StM(K:Frag)(X:Cx)(Φ0 H0 Φ H:Hp)(σ τ:St)(ρ κ:aq)(Rx:XD->aq->Prop):Prop where
 g:Gr Φ0 H0 Φ H
 l:ρ.length=σ.length
 E:EnvM K H0 Φ H (σ++τ) (ρ++κ)
 x:XeOk K X Φ0 H0 Rx
inductive Ar where|t (s:Sm)|s (i:Nat)
abbrev TX:=aq->(Sm->aq->Prop)->(XD->aq->Prop)->Prop
abbrev dg:=aq->(Bool->aq->Prop)->(XD->aq->Prop)->Prop
abbrev dk:=aq->(List Ar->aq->Prop)->(XD->aq->Prop)->Prop
def eA(as:List Ar):aq:=as.filterMap λa=>match a with|.t s=>some (some s)|.s _=>none
inductive ArV(σ:St):List Ar->List V->St->Prop where
 |nil:ArV σ [] [] []
 |t {s:Sm} {v:V} {as:List Ar} {vs:List V} {ts:St}:ArV σ as vs ts->ArV σ (.t s::as) (v::vs) (some v::ts)
 |s {i:Nat} {v:V} {as:List Ar} {vs:List V} {ts:St}:σ[i]?=some (some v)->ArV σ as vs ts->ArV σ (.s i::as) (v::vs) ts
inductive lXm(K:Frag)(X:Cx)(t:TX)(σ:St)(H:Hp)(Q:VK):Prop|mk (Φ0:Hp) (H0:Hp) (Φ:Hp) (τ:St) (ρ:aq) (κ:aq) (R:Sm->aq->Prop) (Rx:XD->aq->Prop) (_:StM K X Φ0 H0 Φ H σ τ ρ κ Rx) (_:t ρ R Rx) (_:∀sm ρ' Φ' H' v,R sm ρ'->StM K X Φ0 H0 Φ' H' σ (τ++[some v]) ρ' (κ++[some sm]) Rx->Same Φ Φ'->Q v H')
inductive lXb(K:Frag)(X:Cx)(t:dg)(σ:St)(H:Hp)(Q:Bool->Hp->Prop):Prop|mk (Φ0:Hp) (H0:Hp) (Φ:Hp) (τ:St) (ρ:aq) (κ:aq) (R:Bool->aq->Prop) (Rx:XD->aq->Prop) (_:StM K X Φ0 H0 Φ H σ τ ρ κ Rx) (_:t ρ R Rx) (_:∀b ρ' Φ' H',R b ρ'->StM K X Φ0 H0 Φ' H' σ τ ρ' κ Rx->Same Φ Φ'->Q b H')
inductive lXa(K:Frag)(X:Cx)(n:Nat)(t:dk)(σ:St)(H:Hp)(Q:List V->Hp->Prop):Prop|mk (Φ0:Hp) (H0:Hp) (Φ:Hp) (τ:St) (ρ:aq) (κ:aq) (R:List Ar->aq->Prop) (Rx:XD->aq->Prop) (_:StM K X Φ0 H0 Φ H σ τ ρ κ Rx) (_:t ρ R Rx) (_:∀as ρ' Φ' H' vs ts,R as ρ'->as.length=n->ArV σ as vs ts->StM K X Φ0 H0 Φ' H' σ (τ++ts) ρ' (κ++eA as) Rx->Same Φ Φ'->Q vs H')
structure PX(K:Frag)(X:Cx)(e:Expr)(t:TX):Prop where pe:X.K=K->PE X e (lXm K X t)
structure PXB(K:Frag)(X:Cx)(e:Expr)(t:dg):Prop where pt:X.K=K->PT X e (lXb K X t)
structure PXW(K:Frag)(X:Cx)(e:Expr)(t:dg):Prop where pw:X.K=K->PW X e (lXb K X t)
structure PXA(K:Frag)(X:Cx)(es:List Expr)(t:dk):Prop where pa:X.K=K->PA X es (lXa K X es.length t)
section
variable{K:Frag}{X:Cx}{a l Φ x H z:Hp}{j f A:St}{ρ c B:aq}{y:XD->aq->Prop}{d:D}{v:V}
def StM.gr(S:StM K X a l Φ H j f ρ c y)(g:Gr Φ H x z):StM K X a l x z j f ρ c y:=⟨S.g.trans g,S.l,S.E.gr g,S.x⟩
def StM.env(S:StM K X a l Φ H j f ρ c y):EnvM K l Φ H j ρ:=S.E.take S.l
def StM.lk(S:StM K X a l Φ H j f ρ c y):c.length=f.length:=by have:=S.E.len;rw[JW,JW]at this;have:=S.l;omega
def StM.pop(S:StM K X a l Φ H j (f++A) ρ (c++B) y)(e:c.length=f.length):StM K X a l Φ H j f ρ c y:=⟨S.g,S.l,by
 have E:=S.E;rw[←Kc,←Kc]at E
 exact E.take (by rw[JW,JW,S.l,e]),S.x⟩
def StM.pushV(S:StM K X a l Φ H j f ρ c y)(r:Rp K Φ d v):StM K X a l Φ H j (f++[some v]) ρ (c++[some (.v d)]) y:=⟨S.g,S.l,by
 rw[←Kc,←Kc]
 exact S.E.snocV r,S.x⟩
def StM.pushO{o:Om}{p:Addr}{F:List Addr}(S:StM K X a l Φ H j f ρ c y)(g:Gr Φ H x z)(h:OmS K x z o p F)(e:∀b∈F,H b=none/\x b=none):StM K X a l x z j (f++[some (.ref p)]) ρ (c++[some (.ob none o)]) y:=⟨S.g.trans g,S.l,by
 rw[←Kc,←Kc]
 exact S.E.snocO S.g.h g h e,S.x⟩
def StM.at(S:StM K X a l Φ H j f ρ c y){i:Nat}(h:c[i]?=some (some (.v d))):∃v,f[i]?=some (some v)/\Rp K Φ d v:=by have g:=aE h;obtain⟨v,e,r⟩:=S.E.sl (i:=ρ.length+i) (d:=d) (by rwa[JU (by omega),Ll]);rw[S.l,JU (by omega),Ll]at e;exact⟨v,e,r⟩
def StM.last(S:StM K X a l Φ H j (f++[some v]) ρ (c++[some (.v d)]) y):Rp K Φ d v:=by
 have g:=S.lk;rw[JW,JW]at g
 have g:c.length=f.length:=by simpa using g
 obtain⟨u,e,r⟩:=S.at (i:=c.length) (d:=d) (by rw[JU (J3 _),Kw];rfl);rw[g,JU (J3 _),Kw]at e;cases e;exact r
def StM.last2{e:D}{w:V}(S:StM K X a l Φ H j ((f++[some v])++[some w]) ρ ((c++[some (.v d)])++[some (.v e)]) y):Rp K Φ d v/\Rp K Φ e w:=by
 refine⟨?_,S.last⟩;have g:=S.lk;simp only[JW,Kb,Ls]at g
 have g:c.length=f.length:=by omega
 exact (S.pop (by simp only[JW,Kb,Ls];omega)).last
end
section
variable{K:Frag}{X:Cx}{e a b c:Expr}{es:List Expr}{f p:Pos}{t l tb:TX}{B:dk}{A C:dg}
def xD(t:TD):TX:=λρ R _=>t (dN ρ) λd=>R (.v d) ρ
def ah{t:TD}(h:PD K X e t):PX K X e (xD t):=⟨λx=>(h.pe x).imp λG H Q w=>by
 obtain⟨z,u,Φ,I,ρ,F,R,E,S,t,k⟩:=w
 exact⟨u,Φ,dN ρ,_,S.env.toD,t,λd j o v r g y=>k _ ρ j o v r ((S.gr g).pushV y) g.f⟩⟩
def xF(t:aR):TX:=λρ R _=>t (dN ρ) λds=>R (.own ds) ρ
def dB{t:aR}(h:PF K X e t):PX K X e (xF t):=⟨λx=>(h.pe x).imp λJ H Q v=>by
 obtain⟨F,u,Φ,L,ρ,I,R,G,S,t,k⟩:=v
 exact⟨u,Φ,dN ρ,_,S.env.toD,t,λds j o p vs r g w z E rr=>k _ ρ j o _ r (S.pushO g (.lst E rr) λb y=>by rw[J5.mp y];exact⟨w,z⟩) g.f⟩⟩
def xB(t:cB):dg:=λρ R _=>t (dN ρ) λb=>R b ρ
def bY{t:cB}(h:PTD K X e t):PXB K X e (xB t):=⟨λw=>(h.pt w).imp λE H Q v=>by
 obtain⟨x,u,Φ,F,ρ,z,R,y,S,t,k⟩:=v
 exact⟨u,Φ,dN ρ,_,S.env.toD,t,λb j o r g=>k b ρ j o r (S.gr g) g.f⟩⟩
def xV(k:D->aq->Prop):Sm->aq->Prop:=λs ρ=>match s with|.v d=>k d ρ|_=>False
def xV.get{k:D->aq->Prop}{s:Sm}{ρ:aq}(h:xV k s ρ):∃d,s=.v d/\k d ρ:=by
 cases s with
 |v d=>exact⟨d,rfl,h⟩
 |ob _ _=>exact h.elim
def jZ(r:cT)(l tb:TX):TX:=λρ R j=>l ρ (xV λx g=>tb g (xV λy h=>r x y λd=>R (.v d) h) j) j
def oG{r:cT}{O:St}{H:Hp}{Q:VK}(h:lXm K X (jZ r l tb) O H Q):jk (lR2 K r) (lXm K X l) (lXm K X tb) O H Q:=by obtain⟨j,M,Φ,τ,ρ,κ,R,N,S,t,k⟩:=h;refine⟨j,M,Φ,τ,ρ,κ,_,N,S,t,λs1 J G H1 v z T U=>?_⟩;obtain⟨x,rfl,z⟩:=z.get;refine⟨j,M,G,_,J,_,_,N,T,z,λs2 L I H2 w E o Y=>?_⟩;obtain⟨y,rfl,E⟩:=E.get;obtain⟨rx,ry⟩:=o.last2;refine⟨I,x,y,_,o.g.s,.inl rx,.inl ry,E,λd F P u Z g ru=>?_⟩;rw[Kc,Kc]at o;exact k _ L F P u Z (((o.pop S.lk).gr g).pushV ru) ((U.trans Y).trans g.f)
def dH{h:Operator}{r:cT}(u:OpD K X (binaryOp h) r)(j:PX K X a l)(o:PX K X b tb):PX K X (.BinOp a h b f) (jZ r l tb):=
 ⟨λg=>(qT (u.o g) (j.pe g) (o.pe g)).imp λ_ _ _=>oG⟩
def IA{h:CmpOp}{r:cT}(v:OpD K X (compareOp h) r)(j:PX K X a l)(o:PX K X b tb)(u:behindInMarks h b=false):PX K X (.Compare a [h] [b] f) (jZ r l tb):=
 ⟨λg=>(xf (v.o g) (j.pe g) (o.pe g) u).imp λ_ _ _=>oG⟩
def tW(t:TX):dg:=λρ R h=>t ρ (xV λd g=>match d with|.bl b=>R b g|_=>False) h
def Hf{r:cT}{y:St}{H:Hp}{Q:Bool->Hp->Prop}(h:lXb K X (tW (jZ r l tb)) y H Q):pV (jk (lR2 K r) (lXm K X l) (lXm K X tb)) y H Q:=by
 obtain⟨j,z,Φ,L,ρ,J,R,F,S,t,k⟩:=h;refine oG ⟨j,z,Φ,L,ρ,J,_,F,S,t,λM u o E v g w G=>?_⟩;obtain⟨x,rfl,g⟩:=g.get;have I:=w.last;obtain⟨b,rfl,g⟩:=jG g;obtain rfl:=I.b;exact⟨b,rfl,k b u o E g (w.pop S.lk) G⟩
def Aj{h:CmpOp}{r:cT}(v:OpD K X (compareOp h) r)(j:PX K X a l)(o:PX K X b tb)(u:behindInMarks h b=false):PXB K X (.Compare a [h] [b] f) (tW (jZ r l tb)):=
 ⟨λg=>(xW (v.o g) (j.pe g) (o.pe g) u).imp λ_ _ _=>Hf⟩
def zP(t u:dg):dg:=λρ R h=>t ρ (λc g=>(c=true->u g R h)/\(c=false->R false g)) h
def zt(t u:dg):dg:=λρ R h=>t ρ (λc g=>(c=true->R true g)/\(c=false->u g R h)) h
def PXW.toB(h:PXW K X e A):PXB K X e A:=⟨λg=>(h.pw g).pt⟩
def x9(h:PXB K X a A):PXW K X (.BoolOp .And [a] f) A:=⟨λg=>uq (h.pt g)⟩
def EU(h:PXB K X a A):PXW K X (.BoolOp .Or [a] f) A:=⟨λg=>wI (h.pt g)⟩
def mY(N:PXB K X a A)(O:PXW K X (.BoolOp .And (b::es) f) C):PXW K X (.BoolOp .And (a::b::es) f) (zP A C):=
 ⟨λy=>(vR (N.pt y) (O.pw y)).imp λT H Q J=>by
  obtain⟨g,u,Φ,F,ρ,E,R,v,S,t,k⟩:=J;refine⟨g,u,Φ,F,ρ,E,_,v,S,t,λc j h I z w x=>?_⟩
  cases c with
  |true=>rw[J9 rfl];exact⟨g,u,h,F,j,E,R,v,w,z.1 rfl,λb r o G P L M=>k b r o G P L (x.trans M)⟩
  |false=>rw[JZ (by decide)];exact k _ j h I (z.2 rfl) w x⟩
def Jq(N:PXB K X a A)(O:PXW K X (.BoolOp .Or (b::es) f) C):PXW K X (.BoolOp .Or (a::b::es) f) (zt A C):=
 ⟨λy=>(vX (N.pt y) (O.pw y)).imp λT H Q J=>by
  obtain⟨g,u,Φ,F,ρ,E,R,v,S,t,k⟩:=J;refine⟨g,u,Φ,F,ρ,E,_,v,S,t,λc j h I z w x=>?_⟩
  cases c with
  |true=>rw[J9 rfl];exact k _ j h I (z.1 rfl) w x
  |false=>rw[JZ (by decide)];exact⟨g,u,h,F,j,E,R,v,w,z.2 rfl,λb r o G P L M=>k b r o G P L (x.trans M)⟩⟩
def Dy(t:TX):dg:=λρ R h=>t ρ (xV λd g=>qi d λb=>R b g) h
def t7(L:PX K X a l)(M:∀g,isTrue a X.env g=(do let v ←g;standAt a.pos;holding [v] (truthy v))):PXB K X a (Dy l):=
 ⟨λw=>(we (L.pe w) M).imp λT H Q E=>by
  obtain⟨r,y,Φ,O,ρ,N,R,F,S,t,k⟩:=E;refine⟨r,y,Φ,O,ρ,N,_,F,S,t,λP h u z v o j G=>?_⟩;obtain⟨x,rfl,o⟩:=o.get;obtain⟨b,I,J⟩:=vy (R:=λb=>R b h) j.g.s (.inl j.last) o;rw[w]
  exact⟨b,I,k b h u z J (j.pop S.lk) G⟩⟩
def Fy:dk:=λρ R _=>R [] ρ
def yQ(t:TX)(u:dk):dk:=λρ R j=>t ρ (λs g=>u g (λas h=>R (.t s::as) h) j) j
def Hh(i:Nat)(u:dk):dk:=λρ R h=>u ρ (λas g=>R (.s i::as) g) h
def bo:PXA K X [] Fy:=⟨λ_=>pa_nil.imp λu H Q g=>by
 obtain⟨h,j,Φ,v,ρ,r,R,o,S,t,k⟩:=g
 exact k [] ρ Φ H [] [] t rfl .nil (by rwa[Kz,show eA []=[]from rfl,Kz]) (Same.refl _)⟩
def aJ(J:PX K X e t)(M:PXA K X es B)(N:starEach (e::es) X.env=(false,eval e X.env)::starEach es X.env):PXA K X (e::es) (yQ t B):=
 ⟨λy=>(eZ (J.pe y) (M.pa y) N).imp λσ H Q E=>by
  obtain⟨g,u,Φ,Z,ρ,Y,R,w,S,t,k⟩:=E;refine⟨g,u,Φ,Z,ρ,Y,_,w,S,t,λs1 o h H1 v P F G=>?_⟩;refine⟨g,u,h,_,o,_,_,w,F,P,λas r j z vs U T L O x I=>?_⟩;refine k _ r j z (v::vs) (some v::U) T (by rw[Kb,Kb,L]) (.t O) ?_ (G.trans I);rw[Kc,Kc]at x
  exact x⟩
def bV(i:Nat){x:Str}(N:PXA K X es B)(O:starEach (.Name x f::es) X.env=(false,eval (.Name x f) X.env)::starEach es X.env)(J:X.N[i]?=some x:=by rfl)(h:cV X.env.scope x:=by nofun)(hd:ab x:=by decide)
  (z:ad x:=by decide):PXA K X (.Name x f::es) (λρ R g=>(∃a o,ρ[i]?=some (some (.ob a o)))/\Hh i B ρ R g):=
 ⟨λI=>(eZ (pv i J h hd z) (N.pa I) O).imp λσ H Q y=>by
  obtain⟨j,v,Φ,Y,ρ,U,R,g,S,⟨⟨a,o,M⟩,t⟩,k⟩:=y;obtain⟨Z,E⟩:=S.env;obtain⟨q,e,_⟩:=E.ow i a o M;refine⟨_,e,j,v,Φ,Y,ρ,U,_,g,S,t,λas u r w vs T P L h F G=>?_⟩
  exact k _ u r w (.ref q::vs) T P (by rw[Kb,Kb,L]) (.s e h) F G⟩
def ie:List Ar->Option (List D)
 | []=>some []
 |.t (.v d)::as=>(ie as).map (d::·)
 |_=>none
def xaD(k:List D->aq->Prop):List Ar->aq->Prop:=λas ρ=>match ie as with|some ds=>k ds ρ|none=>False
def xaD.get{k:List D->aq->Prop}{as:List Ar}{ρ:aq}(h:xaD k as ρ):∃ds,ie as=some ds/\k ds ρ:=by
 unfold xaD at h;split at h
 ·next ds e=>exact⟨ds,e,h⟩
 ·exact h.elim
def nF:∀{as:List Ar}{ds:List D},ie as=some ds->eA as=ds.map (λd=>some (.v d))/\as.length=ds.length
 | [],ds,h=>by cases h;exact⟨rfl,rfl⟩
 |.t (.v d)::as,ds,h=>by
  have h':(ie as).map (d::·)=some ds:=h
  cases e:ie as with
  |none=>rw[e]at h';cases h'
  |some es=>
   rw[e]at h';cases h';obtain⟨g,j⟩:=nF e;exact⟨by show some (Sm.v d)::eA as=_;rw[g];rfl,by rw[Kb,Kb,j]⟩
 |.t (.ob _ _)::_,_,h=>by cases h
 |.s _::_,_,h=>by cases h
def AG{w:St}:∀{as:List Ar}{ds:List D}{vs:List V}{g:St},ie as=some ds->ArV w as vs g->g=vs.map some:=by
 intro as ds vs g h j
 induction j generalizing ds with
 |nil=>rfl
 | @t u v as vs g j r=>
  cases u with
  |v d=>
   have h':(ie as).map (d::·)=some ds:=h
   cases e:ie as with
   |none=>rw[e]at h';cases h'
   |some es=>rw[r e];rfl
  |ob a o=>cases h
 |s=>cases h
def StM.vals{h F Φ H:Hp}{z E y:St}{ρ j:aq}{I:XD->aq->Prop}{as:List Ar}{ds:List D}{vs:List V}(S:StM K X h F Φ H z (E++y) ρ (j++eA as) I)(L:j.length=E.length)(hd:ie as=some ds)(M:ArV z as vs y):RpL K Φ ds vs:=by
 have o:=AG hd M;obtain⟨u,N⟩:=nF hd
 have g:vs.length=ds.length:=by have:=S.lk;rw[JW,JW,o,u,JT,JT]at this;omega
 refine⟨g,λi v d J G=>?_⟩;obtain⟨w,x,r⟩:=S.at (i:=j.length+i) (d:=d) (by rw[JU (by omega),Ll,u,J7,G];rfl);rw[L,JU (by omega),Ll,o,J7,J]at x;cases x;exact r
def yy(t:dk):TX:=λρ R h=>t ρ (xaD λds g=>R (.v (.tup ds)) g) h
def vo{x1}(h:PXA K X es B)(y:Nat.ble es.length 1000=true:=by rfl):PX K X (.Tuple es x1 f) (yy B):=
 ⟨λF=>(rC (h.pa F)).imp λP H Q x=>by
  obtain⟨r,w,Φ,M,ρ,L,R,z,S,t,k⟩:=x;refine⟨r,w,Φ,M,ρ,L,_,z,S,t,λas u J N vs O o G I j E=>?_⟩;obtain⟨ds,hd,o⟩:=o.get;have rl:=j.vals S.lk hd I;refine⟨by rw[rl.1,←(nF hd).2,G];exact nq y,λp v=>?_⟩;have g:=Gr.new j.g.s v (.tup vs)
  exact k _ u _ _ _ o (((j.pop S.lk).gr g).pushV ((rl.same (dY (j.g.s.free v) _)).tup br)) (E.trans g.f)⟩
def zA(t:dk):TX:=λρ R h=>t ρ (xaD λds g=>R (.own ds) g) h
def Im(h:PXA K X es B)(y:Nat.ble es.length 1000=true:=by rfl):PX K X (.List es f) (zA B):=
 ⟨λF=>(tL (h.pa F)).imp λT H Q x=>by
  obtain⟨u,w,Φ,N,ρ,M,R,z,S,t,k⟩:=x;refine⟨u,w,Φ,N,ρ,M,_,z,S,t,λas v L O vs P r I J j E=>?_⟩;obtain⟨ds,hd,r⟩:=r.get;have rl:=j.vals S.lk hd J;refine⟨by rw[rl.1,←(nF hd).2,I];exact nq y,λp o=>?_⟩;have g:=Gr.fresh j.g.s o (.lst vs)
  exact k _ v _ _ _ r ((j.pop S.lk).pushO g (.lst br rl) λb G=>by rw[J5.mp G];exact⟨o,j.g.s.free o⟩) E⟩
def En(t:TX):TX:=λρ R h=>t ρ (λs g=>match s with|.ob none (.lst ds)=>R (.v (.lst ds)) g|_=>False) h
def StM.fzl{I M Φ H:Hp}{R L:St}{ρ x:aq}{U:XD->aq->Prop}{v:V}{ds:List D}(S:StM K X I M Φ H R (L++[some v]) ρ (x++[some (.ob none (.lst ds))]) U):∃G,StM K X I M G H R (L++[some v]) ρ (x++[some (.v (.lst ds))]) U/\Same Φ G:=by
 have hk:x.length=L.length:=by have:=S.lk;rw[JW,JW]at this;simpa using this
 obtain⟨fp,E⟩:=S.E
 have O:(ρ++(x++[some (Sm.ob none (.lst ds))]))[ρ.length+x.length]?=some (some (.ob none (.lst ds))):=by rw[←Kc,JU (by rw[JW];omega),JW,Kw];rfl
 obtain⟨p,e,_,r⟩:=E.ow _ _ _ O;have hp:=r.mem;have no:=E.no _ _ _ O
 have ev:v=.ref p:=by
  rw[←Kc,JU (by rw[JW,S.l];omega),JW,S.l,hk,Kw]at e;cases e;rfl
 subst ev;obtain⟨_,vs,Y,h2⟩:=r.lst_inv
 next=>
  have hn:=(no p hp).2;have h0:=(no p hp).1;have F:=dY hn (.lst vs);refine⟨au Φ p (.lst vs),⟨S.g.freeze h0 hn Y,S.l,?_,S.x⟩,F⟩
  have E0:EnvM K M (au Φ p (.lst vs)) H (R++L) (ρ++x):=by
   refine⟨fp,λb u J=>?_,by rw[JW,JW,S.l,hk],λj d hd=>?_,λj a o Q=>?_,λj a o Q b Z=>?_,λj k a a' o o' g Ql c=>?_,E.tb.same F⟩
   ·by_cases c:b=p
    ·subst c;rw[br]at J;cases J;exact Y
    ·rw[ba c]at J;exact E.fz b u J
   ·have g:=aE hd;obtain⟨w,y,N⟩:=E.sl j d (by rwa[←Kc,JV g]);rw[←Kc,JV (by rw[JW]at g ⊢;have:=S.l;omega)]at y;exact⟨w,y,N.same F⟩
   ·have g:=aE Q;obtain⟨w,y,ha,N⟩:=E.ow j a o (by rwa[←Kc,JV g]);rw[←Kc,JV (by rw[JW]at g ⊢;have:=S.l;omega)]at y;exact⟨w,y,ha,N.keep F λ_ _ _ h=>h⟩
   ·have g:=aE Q
    have T:(ρ++(x++[some (Sm.ob none (.lst ds))]))[j]?=some (some (.ob a o)):=by rwa[←Kc,JV g]
    have c:b≠p:=λz=>E.dj j _ a _ o _ T O (by rw[JW]at g;omega) b Z (by rwa[z]);rw[ba c];exact E.no j a o T b Z
   ·have Uu:=aE g;have P:=aE Ql;exact E.dj j k a a' o o' (by rwa[←Kc,JV Uu]) (by rwa[←Kc,JV P]) c
  rw[←Kc,←Kc];exact E0.snocV ((h2.same F).lst br)
def wJ(h:PX K X e t):PX K X e (En t):=⟨λI=>(h.pe I).imp λO H Q x=>by
 obtain⟨j,u,Φ,M,ρ,L,R,y,S,t,k⟩:=x;refine⟨j,u,Φ,M,ρ,L,_,y,S,t,λN r J w v g z F=>?_⟩;split at g
 ·next ds=>
  obtain⟨o,E,G⟩:=z.fzl;exact k _ r o w v g E (F.trans G)
 ·exact g.elim⟩
end
def cf(H:Hp)(B:List Addr):Hp:=λb=>if b∈B then none else H b
def tK{H:Hp}{B:List Addr}{b:Addr}(h:b∈B):cf H B b=none:=J9 h
def ij{H:Hp}{B:List Addr}{b:Addr}(h:b∉B):cf H B b=H b:=JZ h
def uc{H:Hp}{B:List Addr}{b:Addr}{u:HO}(h:cf H B b=some u):b∉B/\H b=some u:=by
 unfold cf at h;split at h
 ·cases h
 ·next c=>exact⟨c,h⟩
def Hj{H:Hp}{B:List Addr}:Same (cf H B) H:=λb u e=>(uc e).2
abbrev en:=List Sm->(Sm->List Om->Prop)->(XD->List Om->Prop)->Prop
inductive ArgM(K:Frag)(Φ H:Hp):List Sm->List V->List (List Addr)->Prop where
 |nil:ArgM K Φ H [] [] []
 |v {d:D} {v:V} {as:List Sm} {vs:List V} {Fs:List (List Addr)}:Rp K Φ d v->ArgM K Φ H as vs Fs->ArgM K Φ H (.v d::as) (v::vs) ([]::Fs)
 |o {a:Option Addr} {o:Om} {p:Addr} {F:List Addr} {as:List Sm} {vs:List V} {Fs:List (List Addr)}:OmS K Φ H o p F->ArgM K Φ H as vs Fs->ArgM K Φ H (.ob a o::as) (.ref p::vs) (F::Fs)
inductive OutM(K:Frag)(Φ H:Hp):List Sm->List V->List Om->List (List Addr)->Prop where
 |nil:OutM K Φ H [] [] [] []
 |v {d:D} {v:V} {as:List Sm} {vs:List V} {os:List Om} {Fs:List (List Addr)}:OutM K Φ H as vs os Fs->OutM K Φ H (.v d::as) (v::vs) os ([]::Fs)
 |o {a:Option Addr} {o o':Om} {p:Addr} {F:List Addr} {as:List Sm} {vs:List V} {os:List Om} {Fs:List (List Addr)}:OmS K Φ H o' p F->OutM K Φ H as vs os Fs->OutM K Φ H (.ob a o::as) (.ref p::vs) (o'::os) (F::Fs)
inductive ResM(K:Frag)(Φ H:Hp):Sm->V->List Addr->Prop where
 |v {d:D} {v:V}:Rp K Φ d v->ResM K Φ H (.v d) v []
 |o {a:Option Addr} {o:Om} {p:Addr} {F:List Addr}:(∀q,a=some q->q=p)->OmS K Φ H o p F->ResM K Φ H (.ob a o) (.ref p) F
inductive lSpM(K:Frag)(sp:en)(vs:List V)(H:Hp)(Q:VK)(E_:XK):Prop|mk (Φ:Hp) (as:List Sm) (Fs:List (List Addr)) (R:Sm->List Om->Prop) (Rx:XD->List Om->Prop) (_:Same Φ H) (_:TabF K Φ) (_:ArgM K Φ H as vs Fs) (_:Fs.flatten.Nodup) (_:(∀b∈Fs.flatten,Φ b=none)) (_:sp as R Rx) (_:∀sm os Φ' H' v F OP,R sm os->Gr Φ (cf H Fs.flatten) Φ' H'->ResM K Φ' H' sm v F->OutM K Φ' H' as vs os OP->(F++OP.flatten).Nodup->(∀b∈F++OP.flatten,cf H Fs.flatten b=none/\Φ' b=none)->Q v H')
def OmS.nodup{K:Frag}{Φ H:Hp}{o:Om}{p:Addr}{F:List Addr}(h:OmS K Φ H o p F):F.Nodup:=by
 cases h with
 |lst _ _=>simp
 |map _ _=>simp
 |mpT _ _=>simp
 |obj _ _ _ h=>exact h
 |ptr=>exact .nil
 |tl _ _ h=>exact h
 |pr _ _ _ _=>simp
def ArgM.len{K:Frag}{Φ H:Hp}{as:List Sm}{vs:List V}{c:List (List Addr)}(h:ArgM K Φ H as vs c):vs.length=as.length/\c.length=as.length:=by
 induction h with
 |nil=>exact⟨rfl,rfl⟩
 |v _ _ a=>exact⟨by simp[a.1],by simp[a.2]⟩
 |o _ _ a=>exact⟨by simp[a.1],by simp[a.2]⟩
section
variable{K:Frag}{w H G Φ l C:Hp}{A:St}{ρ y:aq}{f:Nat->List Addr}{F F' B:List Addr}{o o':Om}{p:Addr}{d:D}{v:V}{i:Nat}{a:Option Addr}
def gS(new:Nat->Option (Om×List Addr))(f:Nat->List Addr):Nat->List Addr:=λi=>match new i with|some q=>q.2|none=>f i
def EnvM'.lend{new:Nat->Option (Om×List Addr)}(E:EnvM' K w Φ H A ρ f)(s0:Same w H)(hB:∀b,b∈B->∃i a o q,new i=some q/\ρ[i]?=some (some (.ob a o))/\b∈f i)(hB2:∀i q,new i=some q->∀b∈f i,b∈B)(g:Gr Φ (cf H B) l G)
  (hl:y.length=ρ.length) (hv:∀(i:Nat)(d:D),y[i]?=some (some (.v d))->ρ[i]?=some (some (.v d)))
  (P:∀(i:Nat)(a:Option Addr)(o:Om),y[i]?=some (some (.ob a o))->(new i=none/\ρ[i]?=some (some (.ob a o)))\/∃R F',new i=some (o,F')/\ρ[i]?=some (some (.ob a R)))
  (hn:∀(i:Nat)(q:Om×List Addr),new i=some q->∃p,A[i]?=some (some (.ref p))/\OmS K l G q.1 p q.2) (hF:∀(i:Nat)(q:Om×List Addr),new i=some q->∀b∈q.2,cf H B b=none/\l b=none)
  (hd:∀(i j:Nat)(q r:Om×List Addr),new i=some q->new j=some r->i≠j->∀b∈q.2,b∉r.2):EnvM' K w l G A y (gS new f):=by
 have B0:∀b∈B,w b=none:=λb I=>let ⟨i,a,o,_,_,h,X⟩:=hB b I;(E.no i a o h b X).1
 have out:∀{i:Nat}{a:Option Addr}{o:Om},new i=none->ρ[i]?=some (some (.ob a o))->∀b∈f i,b∉B:=λ{i a o} S h b I z=>by
  obtain⟨j,a',o2,q,T,J,X⟩:=hB b z
  have c:i≠j:=λe=>by rw[e,T]at S;cases S
  exact E.dj i j a a' o o2 h J c b I X
 have N:∀{i:Nat},new i=none->gS new f i=f i:=λh=>by unfold gS;rw[h]
 have O:∀{i:Nat}{q:Om×List Addr},new i=some q->gS new f i=q.2:=λh=>by unfold gS;rw[h]
 refine⟨g.s,by rw[hl];exact E.len,λi d h=>?_,λi a o h=>?_,λi a o h b I=>?_,λi j a a' o o' S T c b I M=>?_,E.tb.same g.f⟩
 ·obtain⟨v,e,r⟩:=E.sl i d (hv i d h);exact⟨v,e,r.same g.f⟩
 ·rcases P i a o h with⟨x,J⟩|⟨R,F',x,J⟩
  ·obtain⟨p,e,U,r⟩:=E.ow i a o J;refine⟨p,e,U,?_⟩;rw[N x];exact r.keep g.f λb I u Y=>g.h b u (by rwa[ij (out x J b I)])
  ·obtain⟨p,e,U,_⟩:=E.ow i a R J;obtain⟨p',e',r⟩:=hn i _ x;rw[e]at e';cases e';exact⟨p,e,U,by rwa[O x]⟩
 ·rcases P i a o h with⟨x,J⟩|⟨R,F',x,J⟩
  ·rw[N x]at I;obtain⟨p,_,_,r⟩:=E.ow i a o J;obtain⟨u,Y,k⟩:=r.at b I;exact⟨(E.no i a o J b I).1,g.o b u (by rwa[ij (out x J b I)]) (E.no i a o J b I).2 k⟩
  ·rw[O x]at I;obtain⟨Z,z2⟩:=hF i _ x b I;refine⟨?_,z2⟩;rcases Mj (b∈B)with c|c
   ·exact B0 b c
   ·rw[ij c]at Z
    cases e:w b with
    |none=>rfl
    |some u=>rw[s0 b u e]at Z;cases Z
 ·have no:∀{i j:Nat}{q:Om×List Addr}{a:Option Addr}{o:Om},new i=some q->new j=none->ρ[j]?=some (some (.ob a o))->b∈q.2->b∈f j->False:=λ{i j q a o} x J h3 h4 h5=>by
   obtain⟨p,_,_,r⟩:=E.ow j a o h3;obtain⟨u,Y,_⟩:=r.at b h5;have:=(hF i q x b h4).1;rw[ij (out J h3 b h5),Y]at this;cases this
  rcases P i a o S with⟨x,J⟩|⟨R,F',x,J⟩
  ·rw[N x]at I;rcases P j a' o' T with⟨L,Q⟩|⟨o1,F1,L,Q⟩
   ·rw[N L]at M;exact E.dj i j a a' o o' J Q c b I M
   ·rw[O L]at M;exact no L x J M I
  ·rw[O x]at I;rcases P j a' o' T with⟨L,Q⟩|⟨o1,F1,L,Q⟩
   ·rw[N L]at M;exact no x L Q I M
   ·rw[O L]at M;exact hd i j _ _ x L c b I M
def Gr.lend(c:Gr C w Φ H)(g:Gr Φ (cf H B) l G)(j:∀b∈B,w b=none):Gr C w l G:=by
 have up:∀{b:Addr}{u:HO},w b=some u->cf H B b=some u:=λ{b u} e=>by
  rw[ij λz=>by rw[j b z]at e;cases e];exact c.h b u e
 exact⟨c.f.trans g.f,λb u e=>g.h b u (up e),g.s,λb u h r k=>g.o b u (up h) (c.o b u h r k) k⟩
def EnvM'.snocG(E:EnvM' K w Φ H A ρ f){sm:Sm}(R:ResM K Φ H sm v F)(Q:∀b∈F,w b=none/\Φ b=none)(hd:∀b∈F,∀(i:Nat)(a:Option Addr)(o:Om),ρ[i]?=some (some (.ob a o))->b∉f i):EnvM K w Φ H (A++[some v]) (ρ++[some sm]):=by
 cases R with
 |v r=>exact EnvM.snocV ⟨f,E⟩ r
 | @o a0 o p F M S=>
  have I:∀{i:Nat}{x:Sm},(ρ++[some (Sm.ob a0 o)])[i]?=some (some x)->(i<ρ.length/\ρ[i]?=some (some x))\/(i=ρ.length/\x=.ob a0 o):=λ{i x} h=>by
   rcases KP i ρ.length with c|c
   ·rw[JV c]at h;exact .inl ⟨c,h⟩
   ·rw[JU c]at h
    cases e:i-ρ.length with
    |zero=>rw[e]at h;cases h;exact .inr ⟨by omega,rfl⟩
    |succ n=>rw[e]at h;cases h
  refine⟨λi=>if i=ρ.length then F else f i,E.fz,by rw[JW,JW,E.len];rfl,λi d h=>?_,λi a o' h=>?_,λi a o' h b g=>?_,λi j a a' O P J u c b g z=>?_,E.tb⟩
  ·rcases I h with⟨c,h⟩|⟨_,h⟩
   ·obtain⟨v,e,r⟩:=E.sl i d h;exact⟨v,by rwa[JV (by rw[E.len];exact c)],r⟩
   ·cases h
  ·rcases I h with⟨c,h⟩|⟨c,h⟩
   ·obtain⟨q,e,r⟩:=E.ow i a o' h;exact⟨q,by rwa[JV (by rw[E.len];exact c)],by rwa[JZ (by omega)]⟩
   ·cases h;subst c;refine⟨p,by rw[JU (by rw[E.len];exact J3 _),E.len,Kw];rfl,M,by rwa[J9 rfl]⟩
  ·rcases I h with⟨c,h⟩|⟨c,h⟩
   ·rw[JZ (by omega)]at g;exact E.no i a o' h b g
   ·rw[J9 c]at g;exact Q b g
  ·rcases I J with⟨N,J⟩|⟨N,J⟩
   ·rw[JZ (by omega)]at g;rcases I u with⟨L,u⟩|⟨L,u⟩
    ·rw[JZ (by omega)]at z;exact E.dj i j a a' O P J u c b g z
    ·rw[J9 L]at z;exact hd b z i a O J g
   ·rw[J9 N]at g;rcases I u with⟨L,u⟩|⟨L,u⟩
    ·rw[JZ (by omega)]at z;exact hd b g j a' P u z
    ·omega
end
def fB(ρ:aq):List Ar->Option (List Sm)
 | []=>some []
 |.t s::as=>(fB ρ as).map (s::·)
 |.s i::as=>match ρ[i]? with
  |some (some (.ob _ o))=>(fB ρ as).map (.ob none o::·)
  |_=>none
def bf(o:Om):Option Sm->Option Sm
 |some (.ob a _)=>some (.ob a o)
 |x=>x
def setA:aq->Nat->Om->aq
 | [],_,_=>[]
 |x::ρ,0,o=>bf o x::ρ
 |x::ρ,i+1,o=>x::setA ρ i o
def kq:∀(ρ:aq)(i:Nat)(o:Om),setA ρ i o=(match ρ[i]? with
  |some (some (.ob a _))=>ρ.set i (some (.ob a o))
  |_=>ρ)
 | [],_,_=>rfl
 |some (.ob _ _)::_,0,_=>rfl
 |some (.v _)::_,0,_=>rfl
 |none::_,0,_=>rfl
 |x::ρ,i+1,o=>by
  show x::setA ρ i o=_;rw[kq ρ i o,NM]
  match ρ[i]? with
  |some (some (.ob _ _))=>rfl
  |some (some (.v _))=>rfl
  |some none=>rfl
  |none=>rfl
def aK(ρ:aq):List Ar->List Om->aq
 | [],_=>ρ
 |.t (.v _)::as,os=>aK ρ as os
 |.t (.ob _ _)::as,_::os=>aK ρ as os
 |.t (.ob _ _)::as,[]=>aK ρ as []
 |.s i::as,o::os=>aK (setA ρ i o) as os
 |.s _::as,[]=>aK ρ as []
def eM:List Ar->List Nat
 | []=>[]
 |.t _::as=>eM as
 |.s i::as=>i::eM as
def xH(as:List Ar):Bool:=decide (eM as).Nodup
def newA:Nat->List Ar->List Om->List (List Addr)->Nat->Option (Om×List Addr)
 |n,.t (.v _)::as,os,_::a,i=>newA (n+1) as os a i
 |n,.t (.ob _ _)::as,o::os,F::a,i=>if i=n then some (o,F) else newA (n+1) as os a i
 |n,.s j::as,o::os,F::a,i=>if i=j then some (o,F) else newA n as os a i
 |_,_,_,_,_=>none
section
variable{K:Frag}{A H Φ:Hp}{g:St}{ρ:aq}{f:Nat->List Addr}
def dX(f:Nat->List Addr):Nat->List Ar->List (List Addr)
 |_,[]=>[]
 |n,.t (.v _)::as=>[]::dX f (n+1) as
 |n,.t (.ob _ _)::as=>f n::dX f (n+1) as
 |n,.s j::as=>f j::dX f n as
def dR:Nat->List Ar->List Nat
 |_,[]=>[]
 |n,.t (.v _)::as=>dR (n+1) as
 |n,.t (.ob _ _)::as=>n::dR (n+1) as
 |n,.s j::as=>j::dR n as
def fpA_mem:∀{n:Nat}{as:List Ar}{b:Addr},b∈(dX f n as).flatten↔∃i∈dR n as,b∈f i
 |n,[],b=>by simp[dX,dR]
 |n,.t (.v _)::as,b=>by simp only[dX,dR,KN,Ms];exact fpA_mem
 |n,.t (.ob _ _)::as,b=>by simp only[dX,dR,KN,Ks,Kd,fpA_mem (n:=n+1) (as:=as),exists_eq_or_imp]
 |n,.s j::as,b=>by simp only[dX,dR,KN,Ks,Kd,fpA_mem (n:=n) (as:=as),exists_eq_or_imp]
def jS:∀{n:Nat}{as:List Ar}{i:Nat},i∈dR n as->i∈eM as\/(n<=i/\i<n+(eA as).length)
 |n,[],i,h=>by cases h
 |n,.t (.v d)::as,i,h=>by
  have h:i∈dR (n+1) as:=h;rcases jS h with z|z
  ·exact .inl z
  ·refine .inr ⟨by omega,?_⟩;show i<n+((eA as).length+1);omega
 |n,.t (.ob a o)::as,i,h=>by
  rcases Kd.mp h with rfl|h
  ·refine .inr ⟨J3 _,?_⟩;show i<i+((eA as).length+1);omega
  ·rcases jS h with z|z
   ·exact .inl z
   ·refine .inr ⟨by omega,?_⟩;show i<n+((eA as).length+1);omega
 |n,.s j::as,i,h=>by
  rcases Kd.mp h with rfl|h
  ·exact .inl J2
  ·rcases jS h with z|z
   ·exact .inl (J1 _ z)
   ·exact .inr z
def nD:∀{n:Nat}{as:List Ar},(eM as).Nodup->(∀i∈eM as,i<n)->(dR n as).Nodup
 |n,[],_,_=>by simp[dR]
 |n,.t (.v d)::as,h,c=>nD (n:=n+1) h λi e=>L5 (c i e)
 |n,.t (.ob a o)::as,h,c=>by
  refine Kp.mpr ⟨λz=>?_,nD (n:=n+1) h λi e=>L5 (c i e)⟩;rcases jS z with z|z
  ·exact Lw _ (c n z)
  ·omega
 |n,.s j::as,h,c=>by
  obtain⟨l,p⟩:=Kp.mp h;refine Kp.mpr ⟨λz=>?_,nD p λi e=>c i (J1 _ e)⟩;rcases jS z with z|z
  ·exact l z
  ·have:=c j J2;omega
def kz{s:Sm}{as:List Ar}{a:List Sm}(h:fB ρ (.t s::as)=some a):∃q,fB ρ as=some q/\a=s::q:=by obtain⟨q,e,h⟩:=MO.mp h;exact⟨q,e,h.symm⟩
def ma{i:Nat}{as:List Ar}{c:List Sm}(h:fB ρ (.s i::as)=some c):∃a o q,ρ[i]?=some (some (.ob a o))/\fB ρ as=some q/\c=.ob none o::q:=by
 unfold fB at h;split at h
 ·next a o ho=>
  obtain⟨q,e,h⟩:=MO.mp h;exact⟨a,o,q,ho,e,h.symm⟩
 ·cases h
def OutM.cv{d:D}{as:List Sm}{v:V}{vs:List V}{os:List Om}{a:List (List Addr)}(h:OutM K Φ H (.v d::as) (v::vs) os a):∃c,a=[]::c/\OutM K Φ H as vs os c:=by
 cases h with
 |v h=>exact⟨_,rfl,h⟩
def OutM.co{a:Option Addr}{o:Om}{as:List Sm}{v:V}{vs:List V}{os:List Om}{c:List (List Addr)}(h:OutM K Φ H (.ob a o::as) (v::vs) os c):∃p o' j F e,v=.ref p/\os=o'::j/\c=F::e/\OmS K Φ H o' p F/\OutM K Φ H as vs j e:=by
 cases h with
 |o l h=>exact⟨_,_,_,_,_,rfl,rfl,rfl,l,h⟩
def i6{a:Type}{l m:List a}{n:Nat}{y:a}(h:∀(j:Nat) x,(y::l)[j]?=some x->m[n+j]?=some x)(j:Nat)(x:a)(c:l[j]?=some x):m[n+1+j]?=some x:=by rw[show n+1+j=n+(j+1)by omega];exact h (j+1) x c
def BJ{σx:St}{c:aq}(E:EnvM' K A Φ H σx c f)(J:∀(i:Nat)(x:Sm),ρ[i]?=some (some x)->c[i]?=some (some x))(F:∀(i:Nat)(v:V),g[i]?=some (some v)->σx[i]?=some (some v)) :
  ∀{n:Nat}{as:List Ar}{y:List Sm}{vs:List V}{u:St},(∀(j:Nat) x,(eA as)[j]?=some x->c[n+j]?=some x)->(∀(j:Nat) x,u[j]?=some x->σx[n+j]?=some x)->fB ρ as=some y->ArV g as vs u->ArgM K Φ H y vs (dX f n as):=by
 intro n as y vs u h l B C
 induction C generalizing n y with
 |nil=>cases B;exact .nil
 | @t L v as vs u C z=>
  obtain⟨q,e,rfl⟩:=kz B
  cases L with
  |v d=>
   obtain⟨w,p,r⟩:=E.sl n d (h 0 _ rfl);obtain rfl:=Kv (Kv ((l 0 _ rfl).symm.trans p));exact .v r (z (n:=n+1) (i6 h) (i6 l) e)
  |ob a o=>
   obtain⟨w,p,_,r⟩:=E.ow n a o (h 0 _ rfl);obtain rfl:=Kv (Kv ((l 0 _ rfl).symm.trans p));exact .o r (z (n:=n+1) (i6 h) (i6 l) e)
 | @s i v as vs u G C z=>
  obtain⟨a,o,q,I,e,rfl⟩:=ma B;obtain⟨w,p,_,r⟩:=E.ow i a o (J i _ I);obtain rfl:=Kv (Kv ((F i _ G).symm.trans p));exact .o r (z h l e)
def oR{σx:St}{c:aq}(u:∀(i:Nat)(x:Sm),ρ[i]?=some (some x)->c[i]?=some (some x)) :
  ∀{n:Nat}{as:List Ar}{r:List Sm},(∀(j:Nat) x,(eA as)[j]?=some x->c[n+j]?=some x)->fB ρ as=some r->∀i∈dR n as,∃a o,c[i]?=some (some (.ob a o))
 |n,[],r,_,p,i,h=>by cases h
 |n,.t (.v d)::as,r,l,p,i,h=>by obtain⟨q,e,rfl⟩:=kz p;exact oR (σx:=σx) u (n:=n+1) (i6 l) e i h
 |n,.t (.ob a o)::as,r,l,p,i,h=>by
  obtain⟨q,e,rfl⟩:=kz p;rcases Kd.mp h with rfl|h
  ·exact⟨a,o,l 0 _ rfl⟩
  ·exact oR (σx:=σx) u (n:=n+1) (i6 l) e i h
 |n,.s j::as,r,l,p,i,h=>by
  obtain⟨a,o,q,v,e,rfl⟩:=ma p;rcases Kd.mp h with rfl|h
  ·exact⟨a,o,u _ _ v⟩
  ·exact oR (σx:=σx) u (n:=n) (as:=as) l e i h
def pF{σx:St}{v:aq}(E:EnvM' K A Φ H σx v f):∀{n:Nat}{as:List Ar},(dR n as).Nodup->(∀i∈dR n as,∃a o,v[i]?=some (some (.ob a o)))->(dX f n as).flatten.Nodup
 |n,[],_,_=>by simp[dX]
 |n,.t (.v d)::as,h,p=>by show ([]++(dX f (n+1) as).flatten).Nodup;rw[Ms];exact pF E (n:=n+1) h p
 |n,.t (.ob a o)::as,h,p=>by show (f n++(dX f (n+1) as).flatten).Nodup;obtain⟨y,z⟩:=Kp.mp h;obtain⟨a',o',u⟩:=p n J2;obtain⟨_,_,_,r⟩:=E.ow n a' o' u;refine Lg.mpr ⟨r.nodup,pF E (n:=n+1) z λi l=>p i (J1 _ l),λb B c C e=>?_⟩;subst e;obtain⟨i,l,w⟩:=fpA_mem.mp C;obtain⟨a2,F,x⟩:=p i (J1 _ l);exact E.dj n i a' a2 o' F u x (λe=>y (e▸l)) b B w
 |n,.s j::as,h,p=>by show (f j++(dX f n as).flatten).Nodup;obtain⟨y,z⟩:=Kp.mp h;obtain⟨a',o',u⟩:=p j J2;obtain⟨_,_,_,r⟩:=E.ow j a' o' u;refine Lg.mpr ⟨r.nodup,pF E z λi l=>p i (J1 _ l),λb B c C e=>?_⟩;subst e;obtain⟨i,l,w⟩:=fpA_mem.mp C;obtain⟨a2,F,x⟩:=p i (J1 _ l);exact E.dj j i a' a2 o' F u x (λe=>y (e▸l)) b B w
def kR:∀{n:Nat}{as:List Ar}{os:List Om}{e:List (List Addr)}{i:Nat}{q:Om×List Addr},newA n as os e i=some q->i∈dR n as
 |n,[],_,_,_,_,h=>by cases h
 |n,.t (.v d)::as,os,[],i,q,h=>by cases h
 |n,.t (.v d)::as,os,F::e,i,q,h=>kR (n:=n+1) h
 |n,.t (.ob a o)::as,[],e,i,q,h=>by cases e<;>cases h
 |n,.t (.ob a o)::as,_::_,[],i,q,h=>by cases h
 |n,.t (.ob a o)::as,o'::os,F::e,i,q,h=>by
  have h:(if i=n then some (o',F) else newA (n+1) as os e i)=some q:=h;split at h
  ·next c=>rw[c];exact J2
  ·exact J1 _ (kR h)
 |n,.s j::as,[],e,i,q,h=>by cases e<;>cases h
 |n,.s j::as,_::_,[],i,q,h=>by cases h
 |n,.s j::as,o'::os,F::e,i,q,h=>by
  have h:(if i=j then some (o',F) else newA n as os e i)=some q:=h;split at h
  ·next c=>rw[c];exact J2
  ·exact J1 _ (kR h)
def OutS(K:Frag)(Φ H:Hp)(σx:St)(ps:List Nat)(a:Nat->Option (Om×List Addr))(G:List Addr):Prop:=
 (∀i∈ps,∃q,a i=some q)/\∀(i:Nat)(q:Om×List Addr),a i=some q->(∃p,σx[i]?=some (some (.ref p))/\OmS K Φ H q.1 p q.2)/\(∀b∈q.2,b∈G)/\∀(j:Nat)(r:Om×List Addr),a j=some r->i≠j->∀b∈q.2,b∉r.2
def OutS.cons{σx:St}{ps:List Nat}{y v:Nat->Option (Om×List Addr)}{F G:List Addr}{m:Nat}{o:Om}{p:Addr}(x:OutS K Φ H σx ps y G)(u:∀i,v i=if i=m then some (o,F) else y i)(I:σx[m]?=some (some (.ref p)))(C:OmS K Φ H o p F)(J:(F++G).Nodup):OutS K Φ H σx (m::ps) v (F++G):=by
 have l:=(Lg.mp J).2.2;refine⟨λi E=>?_,λi q h=>?_⟩
 ·rw[u];split
  ·exact⟨_,rfl⟩
  ·next c=>exact x.1 i ((Kd.mp E).resolve_left c)
 ·rw[u]at h;split at h
  ·next c=>
   subst c;cases h;refine⟨⟨p,I,C⟩,λb a=>Ks.mpr (.inl a),λj r e c b a w=>?_⟩;rw[u,JZ (K5 c)]at e;exact l b a b ((x.2 j r e).2.1 b w) rfl
  ·next c=>
   obtain⟨L,z,M⟩:=x.2 i q h;refine⟨L,λb a=>Ks.mpr (.inr (z b a)),λj r e B b a w=>?_⟩;rw[u]at e;split at e
   ·next c3=>
    cases e;exact l b w b (z b a) rfl
   ·exact M j r e B b a w
def D1{σx:St}(L:∀(i:Nat)(v:V),g[i]?=some (some v)->σx[i]?=some (some v)) :
  ∀{n:Nat}{as:List Ar}{y:List Sm}{vs:List V}{w:St}{os:List Om}{l:List (List Addr)},(∀(j:Nat) x,w[j]?=some x->σx[n+j]?=some x)->fB ρ as=some y->ArV g as vs w->OutM K Φ H y vs os l->(dR n as).Nodup->l.flatten.Nodup->OutS K Φ H σx (dR n as) (newA n as os l) l.flatten:=by
 intro n as y vs w os l z J G
 induction G generalizing n y os l with
 |nil=>
  intro c _ _;exact⟨λi E=>(by cases E),λi q h=>(by cases h)⟩
 | @t N v as vs w G B=>
  intro c C r;obtain⟨q,e,rfl⟩:=kz J
  cases N with
  |v d=>
   obtain⟨I,rfl,u⟩:=c.cv;exact B (n:=n+1) (i6 z) e u C r
  |ob a o=>
   obtain⟨p,o',M,F,I,rfl,rfl,rfl,u,c⟩:=c.co;exact (B (n:=n+1) (i6 z) e c (Kp.mp C).2 (Lg.mp r).2.1).cons (λ_=>rfl) (z 0 _ rfl) u r
 | @s O v as vs w E G B=>
  intro c C r;obtain⟨a,o,q,_,e,rfl⟩:=ma J;obtain⟨p,o',M,F,I,rfl,rfl,rfl,u,c⟩:=c.co;exact (B z e c (Kp.mp C).2 (Lg.mp r).2.1).cons (λ_=>rfl) (L _ _ E) u r
def Bu{ρ:aq}{i j:Nat}{o:Om}{x:Option Sm}(h:(setA ρ i o)[j]?=some x)(c:j≠i):ρ[j]?=some x:=by
 rw[kq]at h;split at h
 ·rwa [Kh (K5 c)]at h
 ·exact h
def vP{ρ:aq}{i:Nat}{o:Om}:(setA ρ i o).length=ρ.length:=by
 rw[kq];split
 ·rw[JX]
 ·rfl
def cz:∀{as:List Ar}{ρ:aq}{os:List Om},(aK ρ as os).length=ρ.length
 | [],_,_=>rfl
 |.t (.v _)::as,ρ,os=>cz (as:=as)
 |.t (.ob _ _)::as,ρ,_::os=>cz (as:=as)
 |.t (.ob _ _)::as,ρ,[]=>cz (as:=as)
 |.s i::as,ρ,o::os=>by show (aK (setA ρ i o) as os).length=_;rw[cz,vP]
 |.s _::as,ρ,[]=>cz (as:=as)
def iL:∀{as:List Ar}{ρ:aq}{os:List Om}{i:Nat}{x:Option Sm},i∉eM as->(aK ρ as os)[i]?=some x->ρ[i]?=some x
 | [],_,_,_,_,_,h=>h
 |.t (.v _)::as,ρ,os,i,x,a,h=>iL (as:=as) (os:=os) a h
 |.t (.ob _ _)::as,ρ,_::os,i,x,a,h=>iL (as:=as) (os:=os) a h
 |.t (.ob _ _)::as,ρ,[],i,x,a,h=>iL (as:=as) (os:=[]) a h
 |.s j::as,ρ,o::os,i,x,a,h=>by have h':=iL (as:=as) (λz=>a (J1 _ z)) (show (aK (setA ρ j o) as os)[i]?=some x from h);exact Bu h' λe=>a (by rw[e];exact J2)
 |.s j::as,ρ,[],i,x,a,h=>iL (as:=as) (os:=[]) (λz=>a (J1 _ z)) h
def kY{ρ:aq}{i j:Nat}{o:Om}(c:j≠i):(setA ρ i o)[j]?=ρ[j]?:=by
 rw[kq];split
 ·rw[Kh (K5 c)]
 ·rfl
def qB{P:aq}:∀{as:List Ar}{ρ:aq}{y:List Sm}{vs:List V}{G:St}{os:List Om}{w:List (List Addr)}{n i:Nat}{x:Sm},fB P as=some y->ArV g as vs G->OutM K Φ H y vs os w->i∈eM as->i<n->(eM as).Nodup->(aK ρ as os)[i]?=some (some x)->(∀j∈eM as,∃a o,ρ[j]?=some (some (.ob a o)))->
  ∃a r q,x=.ob a q.1/\newA n as os w i=some q/\ρ[i]?=some (some (.ob a r)):=by
 intro as ρ y vs G os w n i x U O
 induction O generalizing ρ y os w n i x with
 |nil=>intro _ h;cases h
 | @t s0 v as vs G O E=>
  intro l h M nd C u;obtain⟨q,e,rfl⟩:=kz U
  cases s0 with
  |v d=>
   obtain⟨Q,rfl,L⟩:=l.cv;exact E (n:=n+1) e L h (by omega) nd C u
  |ob a1 o1=>
   obtain⟨p,o',R,F,Q,rfl,rfl,rfl,L,l⟩:=l.co;obtain⟨a,r,q,I,J,B⟩:=E (n:=n+1) (ρ:=ρ) e l h (by omega) nd C u;exact⟨a,r,q,I,(JZ (KD M)).trans J,B⟩
 | @s j v as vs G _ O E=>
  intro l h M nd C u;obtain⟨_,o,q,_,e,rfl⟩:=ma U;obtain⟨p,o',R,F,Q,rfl,rfl,rfl,L,l⟩:=l.co;obtain⟨S,Y⟩:=Kp.mp nd;have T:(aK (setA ρ j o') as R)[i]?=some (some x):=C;by_cases c:i=j
  ·subst c;obtain⟨a,r,N⟩:=u i J2;have:=iL S T;rw[kq]at this;rw[N]at this;simp only at this;rw[Kj (aE N)]at this;cases this;exact⟨a,r,(o',F),rfl,J9 rfl,N⟩
  ·have X:=(Kd.mp h).resolve_left c
   obtain⟨a,r,q,I,J,B⟩:=E (ρ:=setA ρ j o') (n:=n) e l X M Y T λk Z=>by
    rw[kY λz=>S (by rwa[←z])];exact u k (J1 _ Z)
   exact⟨a,r,q,I,(JZ c).trans J,by rw[kY c]at B;exact B⟩
def qK:∀{as:List Ar}{c:List Sm},fB ρ as=some c->∀j∈eM as,∃a o,ρ[j]?=some (some (.ob a o))
 | [],_,_,j,h=>by cases h
 |.t s::as,c,l,j,h=>by obtain⟨q,e,rfl⟩:=kz l;exact qK e j h
 |.s i::as,c,l,j,h=>by
  obtain⟨a,o,q,p,e,rfl⟩:=ma l;rcases Kd.mp h with rfl|h
  ·exact⟨a,o,p⟩
  ·exact qK e j h
end
section
variable{K:Frag}{X:Cx}{e:Expr}{es:List Expr}{l p:Pos}{y:dk}
inductive CallM(sp:en)(R:Sm->aq->Prop)(Rx:XD->aq->Prop)(as:List Ar)(ρ:aq):Prop|mk (OI:List Sm) (_:fB ρ as=some OI) (_:xH as=true) (_:sp OI (λsm os=>R sm (aK ρ as os)) (λxd os=>Rx xd (aK ρ as os)))
def Ed(sp:en)(y:dk):TX:=λρ R a=>y ρ (CallM sp R a) a
def StM.lend{Φ0 H0 Φ H:Hp}{M P C:St}{ρ f:aq}{Rx:XD->aq->Prop}{as:List Ar}{OI:List Sm}{vs:List V}(S:StM K X Φ0 H0 Φ H M (P++C) ρ (f++eA as) Rx)(hl:f.length=P.length)(Q:fB ρ as=some OI)(Z:ArV M as vs C)(hs:xH as=true) :
  ∃U,ArgM K Φ H OI vs U/\U.flatten.Nodup/\(∀b∈U.flatten,Φ b=none)/\∀sm os I R v F O,Gr Φ (cf H U.flatten) I R->ResM K I R sm v F->OutM K I R OI vs os O->(F++O.flatten).Nodup->(∀b∈F++O.flatten,cf H U.flatten b=none/\I b=none)->
   StM K X Φ0 H0 I R M (P++[some v]) (aK ρ as os) (f++[some sm]) Rx:=by
 have nd:(eM as).Nodup:=K9 hs;obtain⟨T,E⟩:=S.E;have lS:=S.l
 have Ox:(eA as).length=C.length:=by have:=S.lk;rw[JW,JW]at this;omega
 have a1:∀(i:Nat)(x:Sm),ρ[i]?=some (some x)->(ρ++(f++eA as))[i]?=some (some x):=λi x h=>by rwa[JV (aE h)]
 have a2:∀(i:Nat)(v:V),M[i]?=some (some v)->(M++(P++C))[i]?=some (some v):=λi x h=>by rwa[JV (aE h)]
 have a3:∀(j:Nat) x,(eA as)[j]?=some x->(ρ++(f++eA as))[ρ.length+f.length+j]?=some x:=λj x h=>by rwa[JU (by omega),JU (by omega),show ρ.length+f.length+j-ρ.length-f.length=j by omega]
 have a4:∀(j:Nat) x,C[j]?=some x->(M++(P++C))[ρ.length+f.length+j]?=some x:=λj x h=>by rwa[JU (by omega),JU (by omega),show ρ.length+f.length+j-M.length-P.length=j by omega]
 have sl:=qK Q
 have slt:∀i∈eM as,i<ρ.length:=λi w=>let ⟨_,_,h⟩:=sl i w;aE h
 have pn:(dR (ρ.length+f.length) as).Nodup:=nD nd λi w=>by have:=slt i w;omega
 have po:=oR (σx:=M) a1 a3 Q;refine⟨dX T (ρ.length+f.length) as,BJ E a1 a2 a3 a4 Q Z,pF E pn po,λb A=>?_,λsm os I R v F O g QX Ry hnd Pp=>?_⟩
 ·obtain⟨i,w,L⟩:=fpA_mem.mp A;obtain⟨a,o,Y⟩:=po i w;exact (E.no i a o Y b L).2
 obtain⟨To,Rm,nd3⟩:=Lg.mp hnd;obtain⟨n1,n2⟩:=D1 (n:=ρ.length+f.length) a2 a4 Q Z Ry pn Rm
 have B0:∀b∈(dX T (ρ.length+f.length) as).flatten,H0 b=none:=λb A=>by obtain⟨i,w,L⟩:=fpA_mem.mp A;obtain⟨a,o,Y⟩:=po i w;exact (E.no i a o Y b L).1
 have pl:∀{i:Nat},i<ρ.length+f.length->i∉eM as->newA (ρ.length+f.length) as os O i=none:=λ{i} w hn=>by
  cases e:newA (ρ.length+f.length) as os O i with
  |none=>rfl
  |some q=>
   rcases jS (kR e)with z|z
   ·exact absurd z hn
   ·omega
 have E2:EnvM' K H0 I R (M++(P++C)) (aK ρ as os++(f++List.replicate C.length none)) (gS (newA (ρ.length+f.length) as os O) T):=by
  have cs:∀{i:Nat}{x:Sm},(aK ρ as os++(f++List.replicate C.length none))[i]?=some (some x)->(i<ρ.length/\(aK ρ as os)[i]?=some (some x))\/(ρ.length<=i/\i<ρ.length+f.length/\f[i-ρ.length]?=some (some x)):=λ{i x} h=>by
   rcases KP i ρ.length with c|c
   ·rw[JV (by rwa[cz])]at h;exact .inl ⟨c,h⟩
   ·rw[JU (by rwa[cz]),cz]at h;rcases KP (i-ρ.length) f.length with J|J
    ·rw[JV J]at h;exact .inr ⟨c,by omega,h⟩
    ·rw[JU J,Lj]at h;split at h
     ·cases h
     ·cases h
  have kx:∀{i:Nat}{x:Sm},ρ.length<=i->i<ρ.length+f.length->f[i-ρ.length]?=some (some x)->(ρ++(f++eA as))[i]?=some (some x):=λ{i x} G J h=>by rwa[JU G,JV (by omega)]
  refine E.lend S.g.h (B:=(dX T (ρ.length+f.length) as).flatten) (new:=newA (ρ.length+f.length) as os O) (λb A=>?_) (λi q N b A=>fpA_mem.mpr ⟨i,kR N,A⟩) g (by rw[JW,JW,JW,JW,Kg,cz,Ox]) (λi d h=>?_) (λi a o h=>?_) (λi q N=>(n2 i q N).1) (λi q N b A=>Pp b (Ks.mpr (.inr ((n2 i q N).2.1 b A)))) λi j q r N OE c b A=>(n2 i q N).2.2 j r OE c b A
  ·obtain⟨i,w,L⟩:=fpA_mem.mp A;obtain⟨a,o,Y⟩:=po i w;obtain⟨q,N⟩:=n1 i w;exact⟨i,a,o,q,N,Y,L⟩
  ·rcases cs h with⟨c,h⟩|⟨G,J,h⟩
   ·rcases Mj (i∈eM as)with z|z
    ·obtain⟨a,o0,q,e1,_⟩:=qB (n:=ρ.length+f.length) Q Z Ry z (by omega) nd h sl;cases e1
    ·exact a1 _ _ (iL z h)
   ·exact kx G J h
  ·rcases cs h with⟨c,h⟩|⟨G,J,h⟩
   ·rcases Mj (i∈eM as)with z|z
    ·obtain⟨a',o0,q,e1,e2,e3⟩:=qB (n:=ρ.length+f.length) Q Z Ry z (by omega) nd h sl;cases e1;exact .inr ⟨o0,q.2,e2,a1 _ _ e3⟩
    ·exact .inl ⟨pl (by omega) z,a1 _ _ (iL z h)⟩
   ·exact .inl ⟨pl J λz=>by have:=slt i z;omega,kx G J h⟩
 have g0:=S.g.lend g B0
 have E3:=E2.snocG QX (λb A=>by
   obtain⟨z1,z2⟩:=Pp b (Ks.mpr (.inl A));refine⟨?_,z2⟩;rcases Mj (b∈(dX T (ρ.length+f.length) as).flatten)with c|c
   ·exact B0 b c
   ·rw[ij c]at z1
    exact S.g.h.free z1) λb A i a o w L=>by
  unfold gS at L
  cases e:newA (ρ.length+f.length) as os O i with
  |some q=>
   rw[e]at L;exact nd3 b A b ((n2 i q e).2.1 b L) rfl
  |none=>
   rw[e]at L;obtain⟨p,_,_,r⟩:=E2.ow i a o w;unfold gS at r;rw[e]at r;obtain⟨z1,z2⟩:=Pp b (Ks.mpr (.inl A))
   have own:∃o',(ρ++(f++eA as))[i]?=some (some (.ob a o')):=by
    rcases KP i ρ.length with c|c
    ·rw[JV (by rwa[cz])]at w;rcases Mj (i∈eM as)with z|z
     ·obtain⟨a',o0,q,_,e2,_⟩:=qB (n:=ρ.length+f.length) Q Z Ry z (by omega) nd w sl;rw[e]at e2;cases e2
     ·exact⟨o,a1 _ _ (iL z w)⟩
    ·rw[JU (by rwa[cz]),cz]at w;rcases KP (i-ρ.length) f.length with J|J
     ·rw[JV J]at w;exact⟨o,by rwa[JU c,JV J]⟩
     ·rw[JU J,Lj]at w;split at w
      ·cases w
      ·cases w
   obtain⟨o',Qv⟩:=own;obtain⟨p',_,_,r'⟩:=E.ow i a o' Qv;obtain⟨u,hu,_⟩:=r'.at b L
   have c:b∉(dX T (ρ.length+f.length) as).flatten:=λz=>by
    obtain⟨j,hj,hbj⟩:=fpA_mem.mp z;obtain⟨q,N⟩:=n1 j hj
    have cj:i≠j:=λz=>by rw[z,N]at e;cases e
    obtain⟨a2',o2,Vv⟩:=po j hj;exact E.dj i j a a2' o' o2 Qv Vv cj b L hbj
   rw[ij c,hu]at z1;cases z1
 refine⟨g0,by rw[cz];exact lS,?_,S.x⟩;refine E3.re (λi=>if i<ρ.length+f.length then i else ρ.length+f.length+C.length) (by simp only[JW,Kb,Ls,cz];omega) (λi x hx=>?_) λi j a a' o o' w hj e=>?_
 ·rcases KP i (ρ.length+f.length)with c|c
  ·rw[J9 c];constructor
   ·rcases KP i ρ.length with G|G
    ·rw[JV (by rwa[cz])]at hx;rwa[JV (by simp only[JW,cz];omega),JV (by rw[cz];exact G)]
    ·rw[JU (by rwa[cz]),cz,JV (by omega)]at hx;rwa[JV (by simp only[JW,cz];omega),JU (by rw[cz];exact G),cz,JV (by omega)]
   ·rcases KP i M.length with G|G
    ·rw[JV G,JV (by simp only[JW];omega),JV G]
    ·rw[JU G,JV (by omega),JV (by simp only[JW];omega),JU G,JV (by omega)]
  ·have w:i=ρ.length+f.length:=by have:=aE hx;simp only[JW,Kb,Ls,cz]at this;omega
   subst w;rw[JZ (by omega)];rw[JU (by rw[cz];omega),JU (by rw[cz];omega),cz,show ρ.length+f.length-ρ.length-f.length=0 by omega]at hx;cases hx;constructor
   ·rw[JU (by simp only[JW,Kg,cz];omega)];simp only[JW,Kg,cz];rw[show ρ.length+f.length+C.length-(ρ.length+(f.length+C.length))=0 by omega];rfl
   ·rw[JU (by omega),JU (by omega),JU (by simp only[JW];omega)];simp only[JW];rw[show ρ.length+f.length-M.length-P.length=0 by omega,show ρ.length+f.length+C.length-(M.length+(P.length+C.length))=0 by omega]
 ·have hi1:=aE w;have Uu:=aE hj;simp only[JW,Kb,Ls,cz]at hi1 Uu;have e:(if i<ρ.length+f.length then i else ρ.length+f.length+C.length)=(if j<ρ.length+f.length then j else ρ.length+f.length+C.length):=e;split at e<;>split at e<;>omega
structure ClM(P:Program)(w:World)(K:Frag)(mg:Str->Option Value)(base:Heap)(n:Nat)(x:Str)(ps:List Str)(z:en):Prop where
 ex:∃(f:Addr)(fd:FuncData),FnOk P w K mg base aI n f fd ps (lSpM K z)/\Binds K fd ps []/\keepIn K (.ref f)=true/\mg x=some (.ref f)
def bL{n:Nat}{x:Str}{ps:List Str}{z:en}(C:ClM X.prog X.w K X.mg X.base n x ps z)(hr:Room n X.A)(hg:Gl X x)
  (ha:PXA K X (e::es) y) (he:starEach (e::es) X.env=(false,eval e X.env)::starEach es X.env) (I:(backTo l (starEach es X.env)).any (·.1)=false) (M:ab x:=by decide) :
  PX K X (.Call (.Name x p) (e::es) [] l) (Ed z y):=⟨λc=>by
 obtain⟨f,Y,F,b,k,m⟩:=C.ex;refine (p9 (dvs:=[]) (ds:=[]) (E:=E0) (c▸F:FnOk X.prog X.w X.K X.mg X.base aI n f Y ps (lSpM K z)) hr hg m (c▸k) (c▸b) .nil ku (ha.pa c) M he I).imp λσ H Q L=>?_;obtain⟨j,A,Φ,τ,ρ,κ,R,T,S,t,k⟩:=L;refine⟨j,A,Φ,τ,ρ,κ,_,T,S,t,λas ρ1 o H1 vs ts h hl hv g U=>?_⟩;obtain⟨G,O,P,h⟩:=h;obtain⟨w,Z,g2,g3,g4⟩:=g.lend S.lk O hv P;rw[Kz]
 exact⟨o,G,w,_,_,g.g.s,g.E.tb,Z,g2,g3,h,λsm os a u v F J r gr B ho hn N=>k sm _ a u v r (g4 sm os a u v F J gr B ho hn N) (U.trans gr.f)⟩⟩
end
structure EndsM where
 nx:aq->Prop
 rt:Sm->aq->Prop
 bk:aq->Prop:=λ_=>False
 ct:aq->Prop:=λ_=>False
 ex:XD->aq->Prop:=λ_ _=>False
abbrev bF:=EndsM->aq->Prop
def qt(K:Frag)(g h:Hp)(P:aq->Prop)(Q:St->Hp->Prop):Prop:=∀c a f e,P c->Gr g h a f->EnvM K h a f e c->Q e f
structure EndOkM(K:Frag)(X:Cx)(Φ0 H0:Hp)(De:EndsM)(E:Ends):Prop where
 nx:qt K Φ0 H0 De.nx E.nx
 rt:∀sm ρ' Φ' H' v σ',De.rt sm ρ'->Gr Φ0 H0 Φ' H'->EnvM K H0 Φ' H' (σ'++[some v]) (ρ'++[some sm])->E.rt v H'
 bk:qt K Φ0 H0 De.bk E.bk
 ct:qt K Φ0 H0 De.ct E.ct
 ex:XeOk K X Φ0 H0 De.ex
inductive lM(K:Frag)(X:Cx)(t:bF)(E:Ends)(σ:St)(H:Hp):Prop|mk (Φ0:Hp) (H0:Hp) (Φ:Hp) (ρ:aq) (De:EndsM) (_:Gr Φ0 H0 Φ H) (_:EnvM K H0 Φ H σ ρ) (_:t De ρ) (_:EndOkM K X Φ0 H0 De E)
structure PSM(K:Frag)(X:Cx)(st:Stmt)(t:bF):Prop where ps:X.K=K->PS X st (lM K X t)
structure PSsM(K:Frag)(X:Cx)(st:List Stmt)(t:bF):Prop where ps:X.K=K->PSs X st (lM K X t)
section
variable{K:Frag}{X:Cx}{a c Φ H:Hp}{e:St}{ρ:aq}{f:XD->aq->Prop}{v:V}{sm:Sm}
def dJ(g:Gr a c Φ H)(V:EnvM K c Φ H e ρ)(x:XeOk K X a c f):StM K X a c Φ H e [] ρ [] f:=⟨g,V.len.symm,by rw[Kz,Kz];exact V,x⟩
def StM.env1(S:StM K X a c Φ H e ([]++[some v]) ρ ([]++[some sm]) f):EnvM K c Φ H (e++[some v]) (ρ++[some sm]):=S.E
end
section
variable{K:Frag}{X:Cx}{st:Stmt}{p:List Stmt}{t u:bF}{e a:Expr}{l:TX}{f:Pos}{w:dg}
def Ap:bF:=λc ρ=>c.nx ρ
def FC(t u:bF):bF:=λc ρ=>t { c with nx:=u c } ρ
inductive mCut(t u:bF)(De:EndsM)(ρ:aq):Prop|mk (I:aq->Prop) (_:t { De with nx:=I } ρ) (_:∀ρ',I ρ'->u De ρ')
def cq:PSsM K X [] Ap:=⟨λ_=>pss_nil.imp λE j H c=>by obtain⟨h,r,Φ,ρ,o,g,V,t,k⟩:=c;exact k.nx ρ Φ H j t g V⟩
def ar(z:PSM K X st t)(A:PSsM K X p u):PSsM K X (st::p) (FC t u):=⟨λr=>(oP (z.ps r) (A.ps r)).imp λE F H x=>by obtain⟨c,o,Φ,ρ,v,g,V,t,k⟩:=x;exact
 ⟨c,o,Φ,ρ,_,g,V,t,⟨λj h C B t' g' y=>⟨c,o,h,j,v,g',y,t',k⟩,k.rt,k.bk,k.ct,k.ex⟩⟩⟩
def cI(A:PSM K X st t)(B:PSsM K X p u):PSsM K X (st::p) (mCut t u):=⟨λv=>(oP (A.ps v) (B.ps v)).imp λE G H y=>by obtain⟨h,r,Φ,ρ,x,g,V,⟨I,t,c⟩,k⟩:=y;exact
 ⟨h,r,Φ,ρ,_,g,V,t,⟨λj o F C t' g' z=>⟨h,r,o,j,x,g',z,c j t',k⟩,k.rt,k.bk,k.ct,k.ex⟩⟩⟩
def aQ(c:PSM K X st t):PSsM K X [st] t:=⟨λg=>vD (c.ps g)⟩
def jD(i:Nat)(l:TX):bF:=λg ρ=>l ρ (λs c=>g.nx (c.set i (some s))) g.ex
def FU{i:Nat}{E:Ends}{x:St}{H:Hp}(h:lM K X (jD i l) E x H):i5 (lXm K X l) (iF i) E x H:=by obtain⟨c,z,Φ,ρ,y,g,V,t,k⟩:=h;exact⟨c,z,Φ,[],ρ,[],_,y.ex,dJ g V k.ex,t,λs B j A v r o _=>k.nx _ j A _ r o.g (o.env1.store i)⟩
def aM{i:Nat}{x:Str}{c:Pos}(h:X.N.Nodup)(r:X.N[i]?=some x)(y:eh X.env.scope x)(j:PX K X e l)(v:swapsWith e (some (.Name x c)) f.line X.env=pure false:=by rfl)(o:X.fn x=true\/X.env.scope.names.lookup x=some .local:=by nofun) :
  PSM K X (.Assign [.Name x c] e f) (jD i l):=⟨λg=>(rT h r y (j.pe g) v o).imp λ_ _ _=>FU⟩
def Au(l:TX):bF:=λg ρ=>l ρ (λ_ c=>g.nx c) g.ex
def fW(B:PX K X e l)(C:swapsWith e none f.line X.env=pure false:=by rfl):PSM K X (.Expr e f) (Au l):=
 ⟨λA=>(jL (B.pe A) C).imp λE G H z=>by
  obtain⟨c,x,Φ,ρ,o,g,V,t,k⟩:=z
  exact⟨c,x,Φ,[],ρ,[],_,o.ex,dJ g V k.ex,t,λs F h y v r j _=>k.nx _ h y G r j.g j.env⟩⟩
def Az(l:TX):bF:=λc ρ=>l ρ c.rt c.ex
def cw(C:PX K X e l):PSM K X (.Return (some e) f) (Az l):=
 ⟨λB=>(vS (C.pe B)).imp λE F H A=>by
  obtain⟨c,y,Φ,ρ,x,g,V,t,k⟩:=A
  exact⟨c,y,Φ,[],ρ,[],_,x.ex,dJ g V k.ex,t,λs j h z v r o _=>k.rt s j h z v F r o.g o.env1⟩⟩
def wm(i:Nat):TX:=λρ R _=>match ρ[i]? with|some (some (.ob none o))=>R (.ob none o) (ρ.set i none)|_=>False
def jY(i:Nat){x:Str}(N:X.N[i]?=some x:=by rfl)(P:cV X.env.scope x:=by nofun)(hd:ab x:=by decide)
  (I:ad x:=by decide):PX K X (.Name x f) (wm i):=⟨λ_=>(pv i N P hd I).imp λU H Q G=>by
 obtain⟨T,Z,Φ,Y,ρ,r,R,Rx,S,t,k⟩:=G;unfold wm at t;split at t
 ·next o h=>
  have A:=aE h;have hl:=S.l;obtain⟨fp,E⟩:=S.env;obtain⟨q,e,_⟩:=E.ow i none o h;refine⟨_,e,k _ _ Φ H _ t ⟨S.g,by rwa[JX],?_,S.x⟩ (Same.refl _)⟩;have hk:=S.lk;refine S.E.re (λj=>if j=ρ.length+r.length then i else j) (by simp only[JW,JX,Kb,Ls];omega) (λj x g=>?_) λB C a a' o1 o2 L M v=>?_
  ·have O:=aE g;simp only[JW,JX,Kb,Ls]at O;rcases KP j ρ.length with c|c
   ·rw[JV (by rwa[JX])]at g;rw[JZ (by omega),JV c,JV (by omega),JV (by omega)];rcases cU g with⟨_,_,z⟩|⟨_,z⟩
    ·cases z
    ·exact⟨z,rfl⟩
   ·rw[JU (by rwa[JX]),JX]at g;rcases KP j (ρ.length+r.length)with J|J
    ·rw[JV (by omega)]at g;rw[JZ (by omega)];constructor
     ·rwa[JU c]
     ·rw[JU (by omega),JV (by omega),JU (by omega)]
    ·have y:j=ρ.length+r.length:=by omega
     subst y;rw[JU (by omega),show ρ.length+r.length-ρ.length-r.length=0 by omega]at g;cases g;rw[J9 rfl,JV A,JU (by omega),JU (by omega),show ρ.length+r.length-U.length-Y.length=0 by omega,JV (by omega),e];exact⟨h,rfl⟩
  ·have no:∀{j:Nat}{a:Option Addr}{o:Om},(ρ.set i none++(r++[some (Sm.ob none o)]))[j]?=some (some (.ob a o))->True:=λ_=>trivial
   have F:∀{j:Nat}{x:Sm},(ρ.set i none++(r++[some (Sm.ob none o)]))[j]?=some (some x)->j≠i:=λ{j x} g y=>by subst y;rw[JV (by rwa[JX]),Kj A]at g;cases g
   have n1:=F L;have n2:=F M;have v:(if B=ρ.length+r.length then i else B)=(if C=ρ.length+r.length then i else C):=v;split at v<;>split at v<;>omega
 ·exact t.elim⟩
def As(c:dg)(t u:bF):bF:=λh ρ=>c ρ (λb g=>(b=true->t h g)/\(b=false->u h g)) h.ex
def b7{c:Expr}{a b:List Stmt}(F:PXB K X c w)(B:PSsM K X a t)(C:PSsM K X b u):PSM K X (.If c a b f) (As w t u):=
 ⟨λz=>(tQ (F.pt z) (B.ps z) (C.ps z)).imp λE I H A=>by
  obtain⟨h,y,Φ,ρ,x,g,V,t,k⟩:=A;refine⟨h,y,Φ,[],ρ,[],_,x.ex,dJ g V k.ex,t,λc o j G r v _=>?_⟩
  cases c with
  |true=>refine jP ?_;exact⟨h,y,j,o,x,v.g,v.env,r.1 rfl,k⟩
  |false=>refine j5 ?_;exact⟨h,y,j,o,x,v.g,v.env,r.2 rfl,k⟩⟩
abbrev gq:=D->aq->(aq->Prop)->Prop
abbrev jE:=List D->aq->(aq->Prop)->Prop
inductive lGM(K:Frag)(g:gq)(v:V)(σ:St)(H:Hp)(Q:St->Hp->Prop):Prop|mk (H0:Hp) (Φ:Hp) (ρ:aq) (d:D) (R:aq->Prop) (_:EnvM K H0 Φ H σ ρ) (_:Rp K Φ d v) (_:g d ρ R) (_:∀ρ' σ',R ρ'->EnvM K H0 Φ H σ' ρ'->Q σ' H)
inductive lGMs(K:Frag)(g:jE)(vs:List V)(σ:St)(H:Hp)(Q:St->Hp->Prop):Prop|mk (H0:Hp) (Φ:Hp) (ρ:aq) (ds:List D) (R:aq->Prop) (_:EnvM K H0 Φ H σ ρ) (_:RpL K Φ ds vs) (_:g ds ρ R) (_:∀ρ' σ',R ρ'->EnvM K H0 Φ H σ' ρ'->Q σ' H)
structure PGM(K:Frag)(X:Cx)(e:Expr)(g:gq):Prop where pg:X.K=K->PG X e (lGM K g)
structure PGMs(K:Frag)(X:Cx)(es:List Expr)(g:jE):Prop where pg:X.K=K->PGs X es (lGMs K g)
end
section
variable{K:Frag}{X:Cx}{e:Expr}{es:List Expr}{a:Pos}{g:gq}{gs:jE}
def BH(i:Nat):gq:=λd ρ R=>R (ρ.set i (some (.v d)))
def cD{i:Nat}{x:Str}(f:X.N.Nodup)(j:X.N[i]?=some x)(l:eh X.env.scope x)(h:X.fn x=true\/X.env.scope.names.lookup x=some .local:=by nofun):PGM K X (.Name x a) (BH i):=
 ⟨λ_=>(kN f j l h).imp λv p H Q c=>by obtain⟨o,Φ,ρ,d,R,E,r,g,k⟩:=c;exact k _ _ g ((E.snocV r).store i)⟩
def Hs:jE:=λds ρ R=>match ds with| []=>R ρ|_=>False
def zd(t:gq)(u:jE):jE:=λds ρ R=>match ds with|d::r=>t d ρ λc=>u r c R| []=>False
def iI:PGMs K X [] Hs:=⟨λ_=>pgs_nil.imp λv h H Q c=>by
 obtain⟨f,Φ,ρ,ds,R,E,r,g,k⟩:=c
 cases ds with
 |nil=>exact⟨Lk.mp r.1,k _ _ g E⟩
 |cons=>exact g.elim⟩
def eC(p:PGM K X e g)(w:PGMs K X es gs)(y:(assignEach (e::es) X.env).map (·.2)=assign e X.env::(assignEach es X.env).map (·.2):=by rfl):PGMs K X (e::es) (zd g gs):=
 ⟨λj=>(lR (p.pg j) (w.pg j) y).imp λvs B H Q o=>by
  obtain⟨h,Φ,ρ,ds,R,E,r,g,k⟩:=o
  cases ds with
  |nil=>exact g.elim
  |cons d ds=>
   cases vs with
   |nil=>exact absurd r.1 (by simp)
   |cons v vs=>
    refine⟨v,vs,rfl,h,Φ,ρ,d,_,E,r.2 0 v d rfl rfl,g,λc A g' l=>⟨h,Φ,c,ds,R,l,⟨by have:=r.1;simpa using this,λi u f z x=>r.2 (i+1) u f z x⟩,g',k⟩⟩⟩
def Fk(n:Nat)(t:jE):gq:=λd ρ R=>match d with|.tup ds=>ds.length=n/\t ds ρ R|.lst ds=>ds.length=n/\t ds ρ R|_=>False
def w6(K:Frag)(n:Nat)(t:fF):TG:=λv c H Q=>rJ K n t v c H Q\/qP K n t v c H Q
def FQ{k n:Nat}{t:fF}(l:X.K=K)(o:X.calm=true)(h:PGs X es t)(p:(assignEach es X.env).length=n)(j:(assignEach es X.env).findIdx? (·.1)=none):PG X (.Tuple es k a) (w6 K n t):=λc s w H v u Q I r f=>by
 rcases f with f|f
 ·exact wC l o h p j c s w H v u Q I r f
 ·exact w8 l o h p j c s w H v u Q I r f
def iR{k n:Nat}(o:X.calm=true)(h:PGMs K X es gs)(p:(assignEach es X.env).length=n:=by rfl)(j:(assignEach es X.env).findIdx? (·.1)=none:=by rfl):PGM K X (.Tuple es k a) (Fk n gs):=
 ⟨λf=>(FQ f o (h.pg f) p j:PG X (.Tuple es k a) (w6 K n (lGMs K gs))).imp λv u H Q l=>by
  obtain⟨c,Φ,ρ,d,R,E,r,g,k⟩:=l
  cases d with
  |tup ds=>cases r with|tup h1 h2 h3=>exact .inl ⟨_,_,rfl,.of (E.fz _ _ h1),by rw[h2];exact g.1,c,Φ,ρ,ds,R,E,⟨h2,h3⟩,g.2,k⟩
  |lst ds=>cases r with|lst h1 h2 h3=>exact .inr ⟨_,_,rfl,.of (E.fz _ _ h1),by rw[h2];exact g.1,c,Φ,ρ,ds,R,E,⟨h2,h3⟩,g.2,k⟩
  |_=>exact g.elim⟩
end
section
variable{K:Frag}{X:Cx}{t u:bF}{e a:Expr}{l:TX}{f:Pos}{o:dg}
def Jp(l:TX)(g:gq):bF:=λh ρ=>l ρ (xV λd c=>g d c h.nx) h.ex
def xA{c:Expr}{A:gq}(L:PX K X e l)(M:PGM K X c A)(N:swapsWithSole [c] e f.line X.env=pure false:=by rfl)(O:swappedStores [c] e X.env=pure none:=by rfl)
  (J:(assignEach [c] X.env).map (·.2)=[assign c X.env]:=by rfl):PSM K X (.Assign [c] e f) (Jp l A):=
 ⟨λB=>(nr (L.pe B) (M.pg B) N O J).imp λE Q H G=>by
  obtain⟨p,z,Φ,ρ,C,g,V,t,k⟩:=G;refine⟨p,z,Φ,[],ρ,[],_,C.ex,dJ g V k.ex,t,λs x h F v r j _=>?_⟩;obtain⟨d,rfl,r⟩:=r.get
  exact⟨z,h,x,d,_,j.env,j.last,r,λw y P I=>k.nx w h F y P j.g I⟩⟩
def Bb(c:dg)(tb:bF):bF:=λr ρ=>∃I:Nat->aq->Prop,(∃m,I m ρ)/\∀m j,I m j->c j (λb p=>(b=true->tb { r with nx:=λg=>∃h,h<m/\I h g,ct:=λg=>∃h,h<m/\I h g,bk:=r.nx } p)/\(b=false->r.nx p)) r.ex
def Eb{c:Expr}{x:List Stmt}{tb:bF}(hp:PassesOwn (model X.prog X.w) X.A X.env X.xe)(hc:PXB K X c o)(hb:PSsM K X x tb):PSM K X (.While c x [] f) (Bb o tb):=
 ⟨λQ=>(vm hp (hc.pt Q) (hb.ps Q)).imp λE R H U=>by
  obtain⟨v,A,Φ,ρ,S,g,V,⟨I,⟨m,Z⟩,hw⟩,k⟩:=U;refine⟨λm R H=>∃p j,Gr v A p H/\EnvM K A p H R j/\I m j,⟨m,Φ,ρ,g,V,Z⟩,?_⟩;rintro m P H' ⟨p,j,g',Y,hi⟩;refine⟨v,A,p,[],j,[],_,S.ex,dJ g' Y k.ex,hw m j hi,λb G F T r J _=>?_⟩
  cases b with
  |false=>refine j5 ?_;exact k.nx G F T P (r.2 rfl) J.g J.env
  |true=>
   refine jP ?_;refine⟨λw C=>∃B,B<m/\∃p j,Gr v A p C/\EnvM K A p C w j/\I B j,λw C h=>h,v,A,F,G,_,J.g,J.env,r.1 rfl,⟨?_,k.rt,k.nx,?_,k.ex⟩⟩
   ·rintro z y C w ⟨B,O,L⟩ N M;exact⟨B,O,y,z,N,M,L⟩
   ·rintro z y C w ⟨B,O,L⟩ N M
    exact⟨B,O,y,z,N,M,L⟩⟩
abbrev i9:=aq->(List D->aq->Prop)->(XD->aq->Prop)->Prop
inductive lIM(K:Frag)(X:Cx)(t:i9)(σ:St)(H:Hp)(R':It->Hp->Prop):Prop|mk (Φ0:Hp) (H0:Hp) (Φ:Hp) (τ:St) (ρ:aq) (κ:aq) (R:List D->aq->Prop) (Rx:XD->aq->Prop) (_:StM K X Φ0 H0 Φ H σ τ ρ κ Rx) (_:t ρ R Rx) (_:∀ds ρ' Φ' H' J,R ds ρ'->StM K X Φ0 H0 Φ' H' σ τ ρ' κ Rx->Same Φ Φ'->SteadyD K J Φ' ds->R' J H')
structure PIM(K:Frag)(X:Cx)(tg e:Expr)(t:i9):Prop where pi:X.K=K->PI X tg e (lIM K X t)
def iD(t:aR):i9:=λρ R _=>t (dN ρ) λds=>R ds ρ
def eT{j:Expr}{t:aR}(h:PID K X j e t):PIM K X j e (iD t):=⟨λy=>(h.pi y).imp λE H A w=>by
 obtain⟨z,v,Φ,F,ρ,C,R,B,S,t,k⟩:=w
 exact⟨v,Φ,dN ρ,_,S.env.toD,t,λds c p J r g x=>k ds ρ c p J r (S.gr g) g.f x⟩⟩
def Ic(t:dk):i9:=λρ R g=>t ρ (xaD λds c=>match ds with| [.int j]=>(-(2^62)<=j/\j<2^62)/\R (cQ 0 j.toNat) c|_=>False) g
def xR{N:Expr}{y:dk}{p:Pos}(I:Gl X "range")(J:X.mg "range"=none)(G:PXA K X [a] y)(L:starEach [a] X.env=[(false,eval a X.env)]:=by rfl):PIM K X N (.Call (.Name "range" p) [a] [] f) (Ic y):=
 ⟨λF=>(vi I J (G.pa F) L).imp λY H Q B=>by
  obtain⟨g,z,Φ,P,ρ,O,R,C,S,t,k⟩:=B;refine⟨g,z,Φ,P,ρ,O,_,C,S,t,λas w h A vs U c T M x E=>?_⟩;obtain⟨ds,hd,c⟩:=c.get;have rl:=x.vals S.lk hd M
  match ds,c,rl with
  | [.int j],r,rl=>
   obtain⟨v,rfl,c⟩:=rl.one_inv;obtain rfl:=c.i
   exact⟨j,rfl,r.1.1,r.1.2,k _ w h A _ r.2 (x.pop S.lk) E qk⟩⟩
def XeOk.join{j v H p:Hp}{A:XD->aq->Prop}(x:XeOk K X j v A)(g:Gr j v p H):XeOk K X p v A:=λE y w B z e C c r g' V h=>x E y w B z e C c r (g.join g') V h
inductive ForM(gd:gq)(tb:bF)(De:EndsM)(ds:List D)(ρ0:aq):Prop|mk (I:Nat->aq->Prop) (_:I 0 ρ0) (_:∀(i:Nat)(d:D)(ρ':aq),ds[i]?=some d->I i ρ'->gd d ρ' λρ2=>tb { De with nx:=I (i+1),ct:=I (i+1),bk:=De.nx } ρ2) (_:∀ρ',I ds.length ρ'->De.nx ρ')
def Dm(j:i9)(h:gq)(tb:bF):bF:=λg ρ=>j ρ (λds c=>ForM h tb g ds c) g.ex
def eP{tg z:Expr}{F:List Stmt}{ti:i9}{gd:gq}{tb:bF}(hp:PassesOwn (model X.prog X.w) X.A X.env X.xe)(hc:X.calm=true)(hi:PIM K X tg z ti)(hg:PGM K X tg gd)(hb:PSsM K X F tb)
  (hs:∀x,foldedSetIterable z X.env x=pure x:=by intro _;rfl):PSM K X (.For tg z F [] f) (Dm ti gd tb):=
 ⟨λhK=>(ue hp hc (hi.pi hK) (hg.pg hK) (hb.ps hK) hs).imp λE σ H Oa=>by
  obtain⟨N,L,Φ,ρ,De,g,V,t,k⟩:=Oa;refine⟨N,L,Φ,[],ρ,[],_,De.ex,dJ g V k.ex,t,λds ρ0 O H1 J OC S1 _ Sd=>?_⟩;obtain⟨I,h0,OS,Pn⟩:=OC;refine⟨λi m σ G=>m=ds.length-i/\i<=ds.length/\∃c h,Gr N L c G/\Same O c/\EnvM K L c G σ h/\I i h,⟨ds.length,by simp,LA _,O,ρ0,S1.g,Same.refl _,S1.env,h0⟩,?_⟩;rintro i m σ' G ⟨rfl,hi,c,h,g',T,S,hI⟩;by_cases Z:i<ds.length
  ·refine .inr ⟨Sd.go i G (T.trans S.fz) Z,λY Q=>∃c h,Gr N L c Q/\Same O c/\EnvM K L c Q Y h/\I (i+1) h,λY Q h2=>⟨ds.length-(i+1),by omega,rfl,Z,h2⟩,λx Q y=>?_⟩;obtain⟨P,B,rx⟩:=Sd.yl i c G x Q _ T S.fz (bK Z) y;refine⟨L,P,h,_,_,S.gr B,rx,OS i _ h (bK Z) hI,λρ2 σ3 t2 V3=>?_⟩;refine⟨P,L,P,ρ2,_,?_,V3,t2,⟨?_,?_,?_,?_,k.ex.join (g'.trans B)⟩⟩
   ·exact⟨Same.refl _,(g'.trans B).h,B.s,λp u hp hn _=>hn⟩
   ·intro w j R A U C M;exact⟨j,w,(g'.trans B).join C,(T.trans B.f).trans C.f,M,U⟩
   ·intro sm w j R v A r C M;exact k.rt sm w j R v A r ((g'.trans B).join C) M
   ·intro w j R A U C M;exact k.nx w j R A U ((g'.trans B).join C) M
   ·intro w j R A U C M;exact⟨j,w,(g'.trans B).join C,(T.trans B.f).trans C.f,M,U⟩
  ·have e:i=ds.length:=by omega
   subst e
   exact .inl ⟨Sd.stop G (T.trans S.fz),k.nx h c G σ' (Pn h hI) g' S⟩⟩
end
def aO:List Sm->List Addr->aq
 | [],_=>[]
 |.v d::as,ps=>some (.v d)::aO as ps
 |.ob _ o::as,p::ps=>some (.ob (some p) o)::aO as ps
 |.ob _ _::as,[]=>none::aO as []
def gZ(N:List Str)(as:List Sm)(ps:List Addr):aq:=aO as ps++List.replicate (N.length-as.length) none
def aW:List Str->List Sm->List Addr->aq
 | [],as,ps=>aO as ps
 |_::N,[],ps=>none::aW N [] ps
 |_::N,.v d::as,ps=>some (.v d)::aW N as ps
 |_::N,.ob _ o::as,p::ps=>some (.ob (some p) o)::aW N as ps
 |_::N,.ob _ _::as,[]=>none::aW N as []
def lL:∀(N:List Str)(as:List Sm)(ps:List Addr),gZ N as ps=aW N as ps
 | [],as,ps=>by unfold gZ;rw[Ls,Nat.zero_sub,List.replicate_zero,Kz];rfl
 |n::N,[],ps=>by
  have:=lL N [] ps;unfold gZ at this ⊢;show List.replicate (N.length+1-0) none=none::aW N [] ps;rw[←this];rfl
 |n::N,.v d::as,ps=>by have:=lL N as ps;unfold gZ at this ⊢;rw[Kb,Kb,MW];exact KO (some (Sm.v d)::·) this
 |n::N,.ob a o::as,p::ps=>by have:=lL N as ps;unfold gZ at this ⊢;rw[Kb,Kb,MW];exact KO (some (Sm.ob (some p) o)::·) this
 |n::N,.ob _ _::as,[]=>by have:=lL N as [];unfold gZ at this ⊢;rw[Kb,Kb,MW];exact KO (none::·) this
def jy(k:List Om->Prop):List Sm->List Addr->Nat->aq->Prop
 | [],_,_,_=>k []
 |.v _::as,ps,i,ρ=>jy k as ps (i+1) ρ
 |.ob _ _::as,p::ps,i,ρ=>∃o,ρ[i]?=some (some (.ob (some p) o))/\jy (λos=>k (o::os)) as ps (i+1) ρ
 |.ob _ _::_,[],_,_=>False
def pS:List Sm->Nat
 | []=>0
 |.v _::as=>pS as
 |.ob _ _::as=>pS as+1
def gA:List Sm->List V->List Addr
 |.v _::as,_::vs=>gA as vs
 |.ob _ _::as,.ref p::vs=>p::gA as vs
 |_,_=>[]
section
variable{K:Frag}{Φ H f l g:Hp}
def BZ:∀{as:List Sm}{vs:List V}{c:List (List Addr)},ArgM K Φ H as vs c->(gA as vs).length=pS as:=by
 intro as vs c h
 induction h with
 |nil=>rfl
 |v _ _ a=>exact a
 |o _ _ a=>exact KO (·+1) a
def mK:∀{as:List Sm}{ps:List Addr},(aO as ps).length=as.length
 | [],_=>rfl
 |.v d::as,ps=>by show (aO as ps).length+1=_;rw[mK];rfl
 |.ob _ o::as,p::ps=>by show (aO as ps).length+1=_;rw[mK];rfl
 |.ob _ _::as,[]=>by show (aO as []).length+1=_;rw[mK];rfl
def mj:∀{as:List Sm}{vs:List V}{a:List (List Addr)},ArgM K Φ H as vs a->∀{i:Nat}{x:Sm},(aO as (gA as vs))[i]?=some (some x)->
  (∃d v,x=.v d/\vs[i]?=some v/\Rp K Φ d v)\/∃o p F,x=.ob (some p) o/\vs[i]?=some (.ref p)/\a[i]?=some F/\OmS K Φ H o p F:=by
 intro as vs a h
 induction h with
 |nil=>intro i x h;simp[aO]at h
 | @v d _ _ _ _ r t c=>
  intro i x h
  cases i with
  |zero=>cases h;exact .inl ⟨d,_,rfl,rfl,r⟩
  |succ i=>exact c (i:=i) h
 | @o _ o p F _ _ _ r t c=>
  intro i x h
  cases i with
  |zero=>cases h;exact .inr ⟨o,p,F,rfl,rfl,rfl,r⟩
  |succ i=>exact c (i:=i) h
def wF:∀{a:List (List Addr)},a.flatten.Nodup->∀{i j:Nat}{F G:List Addr},a[i]?=some F->a[j]?=some G->i≠j->∀b∈F,b∉G
 | [],_,i,j,F,G,h,_,_,_,_=>by simp at h
 |L::a,nd,i,j,F,G,r,u,c,b,p=>by
  obtain⟨n1,n2,n3⟩:=Lg.mp (show (L++a.flatten).Nodup from nd);intro o
  cases i with
  |zero=>
   cases r
   cases j with
   |zero=>exact c rfl
   |succ j=>exact n3 b p b (NG.mpr ⟨G,J0 (i:=j) (by simpa using u),o⟩) rfl
  |succ i=>
   cases j with
   |zero=>
    cases u;exact n3 b o b (NG.mpr ⟨F,J0 (i:=i) (by simpa using r),p⟩) rfl
   |succ j=>exact wF n2 (by simpa using r) (by simpa using u) (λe=>c (by rw[e])) b p o
def DF{N:List Str}{as:List Sm}{vs:List V}{u:List (List Addr)}(sm:Same Φ H)(tb:TabF K Φ)(w:ArgM K Φ H as vs u)(nd:u.flatten.Nodup)(M:∀b∈u.flatten,Φ b=none):EnvM K (cf H u.flatten) Φ H (e9 N vs) (gZ N as (gA as vs)):=by
 have y:∀{i:Nat}{x:Sm},(gZ N as (gA as vs))[i]?=some (some x)->(aO as (gA as vs))[i]?=some (some x):=λ{i x} h=>by
  unfold gZ at h;rcases KP i (aO as (gA as vs)).length with c|c
  ·rwa [JV c]at h
  ·rw[JU c,Lj]at h;split at h<;>cases h
 have I:∀{i:Nat}{v:V},vs[i]?=some v->(e9 N vs)[i]?=some (some v):=λ{i v} h=>by unfold e9;rw[JV (by rw[JT];exact aE h),J7,h];rfl
 obtain⟨O,R⟩:=w.len;refine⟨λi=>u.getD i [],sm,by unfold e9 gZ;rw[JW,JW,JT,Kg,Kg,mK,O],λi d h=>?_,λi a o h=>?_,λi a o h b B=>?_,λi j a a' o o' J L c b B=>?_,tb⟩
 ·rcases mj w (y h)with⟨d',v,e,C,r⟩|⟨o,p,F,e,_⟩
  ·cases e;exact⟨v,I C,r⟩
  ·cases e
 ·rcases mj w (y h)with⟨d',v,e,C,r⟩|⟨o',p,F,e,C,E,r⟩
  ·cases e
  ·cases e;refine⟨p,I C,(λq e=>by cases e;rfl),?_⟩;rwa[J6,E]
 ·rcases mj w (y h)with⟨d',v,e,_⟩|⟨o',p,F,e,C,E,r⟩
  ·cases e
  ·rw[J6,E]at B;have G:b∈u.flatten:=NG.mpr ⟨F,J0 E,B⟩;exact⟨tK G,M b G⟩
 ·rcases mj w (y J)with⟨d',v,e,_⟩|⟨S,U,P,e,_,z,_⟩
  ·cases e
  ·rcases mj w (y L)with⟨d',v,e,_⟩|⟨T,X,Q,e,_,A,_⟩
   ·cases e
   ·rw[J6,z]at B;rw[J6,A];exact wF nd z A c b B
def yF{x:Nat->List Addr}{S:St}{ρ:aq}{k:List Om->Prop}(E:EnvM' K g f l S ρ x):∀{as:List Sm}{vs:List V}{C:List (List Addr)}{i:Nat}{k:List Om->Prop},ArgM K Φ H as vs C->jy k as (gA as vs) i ρ->
  ∃os w,OutM K f l as vs os w/\k os/\w.flatten.Nodup/\(∀b∈w.flatten,g b=none/\f b=none)/\∀b∈w.flatten,∃j a o,i<=j/\j<i+as.length/\ρ[j]?=some (some (.ob a o))/\b∈x j:=by
 intro as vs C i k h
 induction h generalizing i k with
 |nil=>exact λh=>⟨[],[],.nil,h,by simp,λb u=>(by cases u),λb u=>(by cases u)⟩
 |v r t M=>
  intro h;obtain⟨os,w,G,I,J,L,A⟩:=M (k:=k) (i:=i+1) h;refine⟨os,[]::w,.v G,I,by simpa using J,λb u=>L b (by simpa using u),λb u=>?_⟩;obtain⟨j,a,o,N,O,y⟩:=A b (by simpa using u);exact⟨j,a,o,by omega,by rw[Kb];omega,y⟩
 | @o _ T p F as vs C r t M=>
  intro h;obtain⟨o',B,h⟩:=(show ∃o,ρ[i]?=some (some (.ob (some p) o))/\jy (λos=>k (o::os)) as (gA as vs) (i+1) ρ from h);obtain⟨os,w,G,I,J,L,A⟩:=M (k:=λos=>k (o'::os)) (i:=i+1) h;obtain⟨q,e,P,rr⟩:=E.ow i _ o' B;cases P p rfl;refine⟨o'::os,x i::w,.o rr G,I,?_,λb u=>?_,λb u=>?_⟩
  ·refine Lg.mpr ⟨rr.nodup,J,λb u c Q e=>?_⟩;subst e;obtain⟨j,a,o,N,O,y,R⟩:=A b Q;exact E.dj i j _ a o' o B y (by omega) b u R
  ·rcases Ks.mp (show b∈x i++w.flatten from u)with z|z
   ·exact E.no i _ o' B b z
   ·exact L b z
  ·rcases Ks.mp (show b∈x i++w.flatten from u)with z|z
   ·exact⟨i,_,o',J3 _,by rw[Kb];omega,B,z⟩
   ·obtain⟨j,a,o,N,O,y⟩:=A b z;exact⟨j,a,o,by omega,by rw[Kb];omega,y⟩
end
section
variable{P:Program}{w:World}{K:Frag}{mg:Str->Option Value}{base:Heap}
def Fun.okM{x qual:Str}{st:Stmt}{f:Addr}{Z:FuncData}{N ps:List Str}{k:Nat}{sp:en}(F:Fun K x qual st f Z)(S:FnScope N ps (av st))(len:∀as R C,sp as R C->as.length=ps.length)
  (O6:∀(L:Value)(A:Around)(outer:List Env)(s:Shared)(H:Hp)(E:XK)(as:List Sm)(R:Sm->List Om->Prop)(C:XD->List Om->Prop)(Y:List Addr),Z.code=L->Room k (A.deeper (envOfC qual (av st) s.heap.objs.size f L))->sp as R C->Y.length=pS as->
   ∃t,PSsM K (iT aI P w K mg base N qual (av st) f L A outer s H E).nox (gy st) t/\let ke:EndsM:={ nx:=λρ=>jy (R (.v .non)) as Y 0 ρ,rt:=λsm ρ=>jy (R sm) as Y 0 ρ };t ke (aW N as Y)):FnOk P w K mg base aI (k+1) f Z ps (lSpM K sp):=by
 refine F.okL S (λvs H Q E ⟨Φ,as,J,R,C,sm,tb,O,nd,hn,h,_⟩=>by rw[O.len.1];exact len as R C h) (λL A outer s H vs Q E Ot hr ⟨Φ,as,J,R,C,sm,tb,O,nd,hn,h,kk⟩=>?_);obtain⟨t,ht,hq⟩:=O6 L A outer s H E as R C (gA as vs) Ot hr h (BZ O);dsimp only at hq;rw[←lL]at hq;have al:=len as R C h
 have nl:ps.length<=N.length:=by have:=KO List.length S.pre;rw[K8]at this;omega
 have M:∀sm l p B v y,jy (R sm) as (gA as vs) 0 l->Gr Φ (cf H J.flatten) p B->EnvM K (cf H J.flatten) p B (y++[some v]) (l++[some sm])->Q v B:=λI l p B v y hk g V=>by
  obtain⟨fp,G⟩:=V
  have hl:y.length=l.length:=by have:=G.len;simpa using this
  obtain⟨os,OP,h1,h2,h3,h4,h5⟩:=yF (k:=R I) (G.take hl.symm) O hk
  have X:(l++[some I])[l.length]?=some (some I):=by rw[JU (J3 _),Kw];rfl
  cases I with
  |v d=>
   obtain⟨u,U,r⟩:=G.sl _ d X;rw[←hl,JU (J3 _),Kw]at U;cases U;exact kk (.v d) os p B v [] OP h2 g (.v r) h1 (by simpa using h3) (λb T=>h4 b (by simpa using T))
  |ob a o=>
   obtain⟨u,U,hau,r⟩:=G.ow _ a o X;rw[←hl,JU (J3 _),Kw]at U;cases U;refine kk (.ob a o) os p B _ (fp l.length) OP h2 g (.o hau r) h1 ?_ λb T=>?_
   ·refine Lg.mpr ⟨r.nodup,h3,λb T c hc e=>?_⟩;subst e;obtain⟨j,a2,o2,_,_,j3,j4⟩:=h5 b hc;have hj:=aE j3;exact G.dj _ j a a2 o o2 X (by rwa[JV hj]) (by omega) b T j4
   ·rcases Ks.mp T with z|z
    ·exact G.no _ a o X b z
    ·exact h4 b z
 have g0:Gr Φ (cf H J.flatten) Φ H:=⟨Same.refl _,Hj,sm,λ_ _ _ h _=>h⟩;refine⟨lM K _ t,ht.ps rfl,Φ,cf H J.flatten,Φ,_,_,g0,DF sm tb O nd hn,hq,⟨λl p B y r g V=>?_,λI l p B v y r g V=>M I l p B v y r g V,λ_ _ _ _ h=>h.elim,λ_ _ _ _ h=>h.elim,λ_ _ _ _ _ _ _ _ h=>h.elim⟩⟩;exact M (.v .non) l p B .non y r g (V.snocV .non)
def Fun.clM{x:Str}{st:Stmt}{f:Addr}{a:FuncData}{ps:List Str}{n:Nat}{z:en}(F:Fun K x x st f a)(m:mg x=some (.ref f))(H:FnOk P w K mg base aI n f a ps (lSpM K z))
  (b:rW st x x ps:=by intro _ _ _ _ _ _;first|exact qW λ_=>rfl|exact rD λ_ _=>rfl|exact ql λ_ _ _=>rfl|exact sC λ_ _ _ _=>rfl|exact us_0 rfl|exact us_5 λ_ _ _ _ _=>rfl|exact us_6 λ_ _ _ _ _ _=>rfl|exact us_7 λ_ _ _ _ _ _ _=>rfl|exact us_8 λ_ _ _ _ _ _ _ _=>rfl):ClM P w K mg base n x ps z:=⟨f,a,H,F.binds b,F.kp,m⟩
def ClM.mono{n m:Nat}{x:Str}{ps:List Str}{z:en}(C:ClM P w K mg base n x ps z)(k:n<=m:=by decide):ClM P w K mg base m x ps z:=by obtain⟨f,a,F,r⟩:=C.ex;exact⟨f,a,F.mono k,r⟩
end
section
variable{K:Frag}{X:Cx}{e a b:Expr}{A G:TX}{B l C y I:Pos}{x:Str}{i:Nat}
def ownL(ρ:aq)(i:Nat)(k:Option Addr->List D->Prop):Prop:=match ρ[i]? with|some (some (.ob a (.lst ds)))=>k a ds|_=>False
def ownL.get{ρ:aq}{i:Nat}{k:Option Addr->List D->Prop}(h:ownL ρ i k):∃a ds,ρ[i]?=some (some (.ob a (.lst ds)))/\k a ds:=by
 unfold ownL at h;split at h
 ·next a ds e=>exact⟨a,ds,e,h⟩
 ·exact h.elim
def StM.list{c h Φ H:Hp}{g v:St}{ρ u:aq}{o:XD->aq->Prop}{a:Option Addr}{ds:List D}(S:StM K X c h Φ H g v ρ u o)(F:ρ[i]?=some (some (.ob a (.lst ds)))):∃q vs,g[i]?=some (some (.ref q))/\H q=some (.lst vs)/\RpL K Φ ds vs /\
  ∀(es:List D)(f:List V),RpL K Φ es f->StM K X c h Φ (au H q (.lst f)) g v (ρ.set i (some (.ob a (.lst es)))) u o:=by
 have j:=aE F;obtain⟨q,vs,e,w,L,M,z,E⟩:=S.E.list (i:=i) (a:=a) (ds:=ds) S.g (by rwa[JV j]);rw[JV (by rwa[←S.l])]at e;refine⟨q,vs,e,w,z,λes f r=>?_⟩;obtain⟨p,J⟩:=E es f r;refine⟨J,by rw[JX];exact S.l,?_,S.x⟩;rw[LI _ _ j]at p;exact p
def AH(i:Nat)(A:TX):bF:=λf ρ=>ownL ρ i λ_ _=>A ρ (xV λd c=>ownL c i λa ds=>ds.length<sizeLine/\NF (ds++[d]) λes=>f.nx (c.set i (some (.ob a (.lst es))))) f.ex
def gp(i:Nat)(Y:PX K X e A)(M:((backTo C (starEach [e] X.env)).all (λx=>!x.1)&&(backToKw C (keywordEach [] X.env)).all (λx=>x.1.isSome)&&decide (([e]:List Expr).length+([]:List Keyword).length+(if ([]:List Keyword).isEmpty then 0 else 1)<30))=true)
  (h:starEach [e] X.env=(false,eval e X.env)::starEach [] X.env) (U:X.N[i]?=some x:=by rfl) (hv:cV X.env.scope x:=by nofun) (hd:ab x:=by decide) (O:ad x:=by decide)
  (J:attributeBase (.Name x y) "append" X.env (eval (.Name x y) X.env)=eval (.Name x y) X.env:=by rfl) (L:(l.endLine==C.line)=true:=by rfl) (hs:swapsWith (.Call (.Attribute (.Name x y) "append" l) [e] [] C) none B.line X.env=pure false:=by rfl) :
  PSM K X (.Expr (.Call (.Attribute (.Name x y) "append" l) [e] [] C) B) (AH i A):=
 ⟨λT=>(jL (jR Lz MB MC pM (pv i U hv hd O) (eZ (Y.pe T) pa_nil h) J M L h ag) hs).imp λE σ H N=>by
  obtain⟨c,F,Φ,ρ,z,g,V,t,k⟩:=N;obtain⟨a,ds,Z,t⟩:=ownL.get t;have S:=dJ g V k.ex;obtain⟨q,vs,u,hp,rl,_⟩:=S.list Z;refine⟨_,u,.inl ⟨rfl,vs,SqL.of hp⟩,c,F,Φ,[],ρ,[],_,z.ex,S,t,λs ρ1 f H1 v r j _=>?_⟩;obtain⟨d,rfl,r⟩:=r.get;obtain⟨a1,Uw,Q,hl,r⟩:=ownL.get r;obtain⟨q1,R,w,P,p,k1⟩:=j.list Q;rw[u]at w;cases w;have o:=k1 _ _ (p.append (.one j.last))
  exact⟨q,R,v,rfl,rfl,P,by rwa[p.1],k.nx _ f _ σ r.get o.g o.env⟩⟩
def RpL.eraseIdx{Φ:Hp}{ds:List D}{vs:List V}(h:RpL K Φ ds vs)(j:Nat):RpL K Φ (ds.eraseIdx j) (vs.eraseIdx j):=by rw[M0,M0];exact (h.take j).append (h.drop (j+1))
def CP{j n:Nat}(h:j<n):seqIndex? (j:Int) n=some j:=by unfold seqIndex?;simp;omega
def zX(i:Nat)(A G:TX):bF:=λg ρ=>A ρ (xV λd c=>ownL c i λ_ _=>G c (xV λh f=>match h with|.int n=>ownL f i λa ds=>∃j,fL ds.length n=some j/\NF (ds.set j d) λes=>g.nx (f.set i (some (.ob a (.lst es))))|_=>False) g.ex) g.ex
def jX(i:Nat)(he:PX K X e A)(hk:PX K X b G)(hN:X.N[i]?=some x:=by rfl)(hv:cV X.env.scope x:=by nofun)(hd:ab x:=by decide)(R:ad x:=by decide)
  (ha:∀v,assign (.Subscript (.Name x y) b I) X.env v=(do
   let ov ←holding [v] (eval (.Name x y) X.env)
   let iv ←holding [v,ov] (eval b X.env)
   standAt I
   holding [v,ov,iv] (setItem ov iv v)
   release [v,ov,iv] []):=by intro _;rfl)
  (hs:swapsWithSole [.Subscript (.Name x y) b I] e B.line X.env=pure false:=by rfl) (hw:swappedStores [.Subscript (.Name x y) b I] e X.env=pure none:=by rfl)
  (Z:(assignEach [.Subscript (.Name x y) b I] X.env).map (·.2)=[assign (.Subscript (.Name x y) b I) X.env]:=by rfl) :
  PSM K X (.Assign [.Subscript (.Name x y) b I] e B) (zX i A G):=
 ⟨λP=>(nr (he.pe P) (vW (pv i hN hv hd R) (hk.pe P) sy ha) hs hw Z).imp λE σ H Q=>by
  obtain⟨f,z,Φ,ρ,u,g,V,t,k⟩:=Q;refine⟨f,z,Φ,[],ρ,[],_,u.ex,dJ g V k.ex,t,λs p h H1 v r F _=>?_⟩;obtain⟨d,rfl,r⟩:=r.get;obtain⟨a1,Uw,U,r⟩:=ownL.get r;obtain⟨q,vs,N,_⟩:=F.list U;refine⟨_,N,f,z,h,_,p,_,_,u.ex,F,r,λs2 ρ2 o H2 w c J _=>?_⟩;obtain⟨kk,rfl,c⟩:=c.get;obtain⟨rd,rk⟩:=J.last2;obtain⟨n,rfl,c⟩:=jI c;obtain rfl:=rk.i;obtain⟨a2,Ux,T,j,hj,c⟩:=ownL.get c;obtain⟨q2,Y,O,S,M,k2⟩:=J.list T;rw[N]at O;cases O;have L:=k2 _ _ (M.set rd j)
  exact⟨q,Y,n,j,rfl,rfl,S,by rwa[M.1],k.nx _ o _ σ c.get L.g L.env⟩⟩
def Bs(i:Nat)(f:Int->Int->Int)(G A:TX):bF:=λh ρ=>(ownL ρ i λ_ _=>True)/\G ρ (xV λp c=>match p with|.int n=>ownL c i λa ds=>∃(j:Nat)(v:Int),n=(j:Int)/\ds[j]?=some (.int v)/\A c (xV λd g=>match d with|.int m=>ownL g i λa2 o=>j<o.length/\NF (o.set j (.int (f v m))) λes=>h.nx (g.set i (some (.ob a2 (.lst es))))|_=>False) h.ex|_=>False) h.ex
def yw{op:Operator}{f:Int->Int->Int}(i:Nat)(N:sT X op (uv f))(hk:PX K X b G)(he:PX K X e A)(hN:X.N[i]?=some x:=by rfl)(hv:cV X.env.scope x:=by nofun)(hd:ab x:=by decide)(Ot:ad x:=by decide)
  (ha:∀r p new,augStore b r p new=(do holding [new,r,p] (setItem r p new);release [new,r,p] [];pure .next):=by intros;rfl) :
  PSM K X (.AugAssign (.Subscript (.Name x y) b I) op e B) (Bs i f G A):=
 ⟨λL=>(Ah (pv i hN hv hd Ot) (hk.pe L) (CA L) (he.pe L) N sy ha).imp λE σ H Oa=>by
  obtain⟨o,T,Φ,ρ,R,g,V,⟨M,t⟩,k⟩:=Oa;obtain⟨a,ds,M,_⟩:=ownL.get M;have S:=dJ g V k.ex;obtain⟨q,vs,J,hp,rl,_⟩:=S.list M;refine⟨_,J,o,T,Φ,[],ρ,[],_,R.ex,S,t,λs1 Q O H1 w c F _=>?_⟩;obtain⟨kk,rfl,c⟩:=c.get;have rk:=F.last;obtain⟨n,rfl,c⟩:=jI c;obtain rfl:=rk.i;obtain⟨a1,Uw,QY,j,v,rfl,hj,c⟩:=ownL.get c;obtain⟨q1,Tq,e2,Pd,Sv,_⟩:=F.list QY;rw[J]at e2;cases e2;obtain⟨u,hu,ru⟩:=Sv.at hj;obtain rfl:=ru.i;refine⟨q,Tq,_,j,_,rfl,rfl,.of Pd,rfl,hu,o,T,O,_,Q,_,_,R.ex,F,c,λs2 ρ2 P H2 z h U _=>?_⟩;obtain⟨d,rfl,h⟩:=h.get;have rd:=U.last;obtain⟨m,rfl,h⟩:=jI h;obtain rfl:=rd.i;obtain⟨a2,Ux,Ph,hjl,h⟩:=ownL.get h;obtain⟨q2,Vw,e3,Pc,Z,k2⟩:=U.list Ph;rw[J]at e3;cases e3;have Y:=k2 _ _ (Z.set (.int (f v m)) j)
  exact⟨v,m,rfl,rfl,q,Vw,_,j,rfl,rfl,Pc,e7 (by rwa[Z.1]),k.nx _ P _ σ h.get Y.g Y.env⟩⟩
def D0(i:Nat)(A:TX):bF:=λf ρ=>ownL ρ i λ_ _=>A ρ (λs c=>match s with|.ob _ (.lst zs)=>ownL c i λa ds=>ds.length+zs.length<=sizeLine/\NF (ds++zs) λes=>f.nx (c.set i (some (.ob a (.lst es))))|.v (.lst zs)=>ownL c i λa ds=>ds.length+zs.length<=sizeLine/\NF (ds++zs) λes=>f.nx (c.set i (some (.ob a (.lst es))))|_=>False) f.ex
def zC(i:Nat)(he:PX K X e A)(OX:((backTo C (starEach [e] X.env)).all (λx=>!x.1)&&(backToKw C (keywordEach [] X.env)).all (λx=>x.1.isSome)&&decide (([e]:List Expr).length+([]:List Keyword).length+(if ([]:List Keyword).isEmpty then 0 else 1)<30))=true)
  (O:starEach [e] X.env=(false,eval e X.env)::starEach [] X.env) (hN:X.N[i]?=some x:=by rfl) (hv:cV X.env.scope x:=by nofun) (hd:ab x:=by decide) (Ot:ad x:=by decide)
  (OF:attributeBase (.Name x y) "extend" X.env (eval (.Name x y) X.env)=eval (.Name x y) X.env:=by rfl) (OG:(l.endLine==C.line)=true:=by rfl) (hs:swapsWith (.Call (.Attribute (.Name x y) "extend" l) [e] [] C) none B.line X.env=pure false:=by rfl) :
  PSM K X (.Expr (.Call (.Attribute (.Name x y) "extend" l) [e] [] C) B) (D0 i A):=
 ⟨λhK=>(jL (jR Lz PySem.F.slot_list_extend PySem.F.type_list_extend Av (pv i hN hv hd Ot) (eZ (he.pe hK) pa_nil O) OF OX OG O ag) hs).imp λE Z H Oa=>by
  obtain⟨L,H0,Φ,ρ,M,g,V,t,k⟩:=Oa;obtain⟨a,ds,ho,t⟩:=ownL.get t;have S:=dJ g V k.ex;obtain⟨q,vs,T,hp,rl,_⟩:=S.list ho;refine⟨_,T,.inl ⟨rfl,vs,SqL.of hp⟩,L,H0,Φ,[],ρ,[],_,M.ex,S,t,λs f w N v r h _=>?_⟩
  have j:∀{c:List D}{u:List L2.V}{p:Addr},v=.ref p->N p=some (.lst u)->RpL K w c u->(ownL f i λa ds=>ds.length+c.length<=sizeLine/\NF (ds++c) λes=>M.nx (f.set i (some (.ob a (.lst es)))))->vj (.ref q) [v] N λx H'=>E.nx Z H':=λ{c u p} ev J Y r=>by
   obtain⟨a1,Uw,QY,hl,r⟩:=ownL.get r;obtain⟨q1,Tq,U,Pd,Q,k1⟩:=h.list QY;rw[T]at U;cases U;have P:=k1 _ _ (Q.append Y);exact⟨q,p,Tq,u,rfl,by rw[ev],Pd,J,by rwa[Q.1,Y.1],k.nx _ w _ Z r.get P.g P.env⟩
  cases s with
  |v d=>
   have rd:=h.last
   cases d with
   |lst c=>cases rd with|lst z F h3=>exact j rfl (h.g.s _ _ z) ⟨F,h3⟩ r
   |_=>exact r.elim
  |ob a0 o=>
   cases o with
   |lst c=>
    obtain⟨fp,E1⟩:=h.E;obtain⟨p,R,_,rr⟩:=E1.ow f.length a0 (.lst c) (by rw[JU (J3 _),Kw];rfl);rw[h.l,JU (J3 _),Kw]at R;cases R;obtain⟨_,u,z,F⟩:=rr.lst_inv;exact j rfl z F r
   |_=>exact r.elim⟩
def bc:Option Sm->Option Sm
 |some (.ob none (.lst ds))=>some (.v (.lst ds))
 |some (.ob none (.map c))=>some (.v (.map c))
 |x=>x
def aY:Nat->aq->aq
 |_,[]=>[]
 |0,x::ρ=>bc x::ρ
 |i+1,x::ρ=>x::aY i ρ
def uD:∀(i:Nat)(ρ:aq),aY i ρ=(match ρ[i]? with
  |some (some (.ob none (.lst ds)))=>ρ.set i (some (.v (.lst ds)))
  |some (some (.ob none (.map c)))=>ρ.set i (some (.v (.map c)))
  |_=>ρ)
 |0,[]=>rfl
 |_+1,[]=>rfl
 |0,some (.ob none (.lst _))::_=>rfl
 |0,some (.ob none (.map _))::_=>rfl
 |0,some (.ob none (.mpT _))::_=>rfl
 |0,some (.ob none (.obj _ _))::_=>rfl
 |0,some (.ob none .ptr)::_=>rfl
 |0,some (.ob none (.tl _))::_=>rfl
 |0,some (.ob none (.pr _ _))::_=>rfl
 |0,some (.ob (some _) _)::_=>rfl
 |0,some (.v _)::_=>rfl
 |0,none::_=>rfl
 |i+1,x::ρ=>by
  show x::aY i ρ=_;rw[uD i ρ,NM]
  match ρ[i]? with
  |some (some (.ob none (.lst _)))=>rfl
  |some (some (.ob none (.map _)))=>rfl
  |some (some (.ob none (.mpT _)))=>rfl
  |some (some (.ob none (.obj _ _)))=>rfl
  |some (some (.ob none .ptr))=>rfl
  |some (some (.ob none (.tl _)))=>rfl
  |some (some (.ob none (.pr _ _)))=>rfl
  |some (some (.ob (some _) _))=>rfl
  |some (some (.v _))=>rfl
  |some none=>rfl
  |none=>rfl
def Rp.map_of{Φ:Hp}{g:List (aC×D)}{j:List (aC×V)}{p:Addr}(h:Φ p=some (.dK j))(r:Paired (gG K Φ) g j):Rp K Φ (.map g) (.ref p):=by
 refine .map h ?_ ?_
 ·clear h
  induction r with
  |nil=>rfl
  |cons q _ f=>rw[Kn,Kn,f,q.1]
 ·clear h
  induction r with
  |nil=>intro i w d c;simp at c
  |cons q _ f=>
   intro i w d c hd
   cases i with
   |zero=>cases c;cases hd;exact q.2
   |succ i=>exact f i w d c hd
def EnvM.frz1f{N O Φ H:Hp}{U:St}{ρ:aq}{o:Om}{P:D}(E:EnvM K O Φ H U ρ)(g:Gr N O Φ H){i:Nat}(R:ρ[i]?=some (some (.ob none o)))
  (hr:∀p F,OmS K Φ H o p F->∃u,H p=some u/\∀f,Same Φ f->f p=some u->Rp K f P (.ref p)) (hs:o.solid=true:=by rfl):∃f,Gr N O f H/\EnvM K O f H U (ρ.set i (some (.v P)))/\Same Φ f:=by
 obtain⟨Z,E⟩:=E;obtain⟨p,e,_,r⟩:=E.ow i none _ R;have hp:=r.mem hs;have no:=E.no i none _ R p hp;obtain⟨u,S,h2⟩:=hr p _ r;have M:=dY no.2 u
 have w:∀{j:Nat}{x:Sm},(ρ.set i (some (Sm.v P)))[j]?=some (some x)->(j=i/\x=.v P)\/(j≠i/\ρ[j]?=some (some x)):=λ{j x} h=>by
  rcases cU h with⟨e,_,Y⟩|⟨e,h⟩
  ·cases Y;exact .inl ⟨e,rfl⟩
  ·exact .inr ⟨e,h⟩
 refine⟨au Φ p u,g.freeze no.1 no.2 S,⟨Z,λb u' Q=>?_,by rw[JX,E.len],λj d h=>?_,λj a o h=>?_,λj a o h b T=>?_,λj k a a' o o' J L c=>?_,E.tb.same M⟩,M⟩
 ·by_cases c:b=p
  ·subst c;rw[br]at Q;cases Q;exact S
  ·rw[ba c]at Q;exact E.fz b u' Q
 ·rcases w h with⟨c,h⟩|⟨_,h⟩
  ·cases h;subst c;exact⟨_,e,h2 _ M br⟩
  ·obtain⟨v,hv,rv⟩:=E.sl j d h;exact⟨v,hv,rv.same M⟩
 ·rcases w h with⟨_,h⟩|⟨_,h⟩
  ·cases h
  ·obtain⟨q,hq,ha,rq⟩:=E.ow j a o h;exact⟨q,hq,ha,rq.keep M λ_ _ _ h=>h⟩
 ·rcases w h with⟨_,h⟩|⟨c,h⟩
  ·cases h
  ·have:b≠p:=λz=>E.dj j i a none o _ h R c b T (by rwa[z]);rw[ba this];exact E.no j a o h b T
 ·rcases w J with⟨_,J⟩|⟨_,J⟩
  ·cases J
  rcases w L with⟨_,L⟩|⟨_,L⟩
  ·cases L
  exact E.dj j k a a' o o' J L c
def EnvM.frz1{f h Φ H:Hp}{r:St}{ρ:aq}{o:Om}{j:D}(E:EnvM K h Φ H r ρ)(g:Gr f h Φ H){i:Nat}(v:ρ[i]?=some (some (.ob none o)))
  (w:∀p F,OmS K Φ H o p F->∃u,H p=some u/\∀c,Same Φ c->c p=some u->Rp K c j (.ref p)) (z:o.solid=true:=by rfl):∃c,Gr f h c H/\EnvM K h c H r (ρ.set i (some (.v j))):=
 let ⟨c,g',E',_⟩:=E.frz1f g v w z
 ⟨c,g',E'⟩
def EnvM.frz{f j Φ H:Hp}{v:St}{ρ:aq}(E:EnvM K j Φ H v ρ)(g:Gr f j Φ H)(i:Nat):∃c,Gr f j c H/\EnvM K j c H v (aY i ρ):=by
 rw[uD];split
 ·next ds ho=>
  refine E.frz1 g ho λp F r=>?_;obtain⟨_,vs,o,u⟩:=r.lst_inv;exact⟨_,o,λc s h=>(u.same s).lst h⟩
 ·next Oc ho=>
  refine E.frz1 g ho λp F r=>?_;obtain⟨_,w,o,u⟩:=r.map_inv;exact⟨_,o,λc s h=>Rp.map_of h (pB (λ_ _ r=>⟨r.1,r.2.same s⟩) u)⟩
 ·exact⟨Φ,g,E⟩
def DM(i:Nat)(t:bF):bF:=λc ρ=>t c (aY i ρ)
def iz{c:List Stmt}{t:bF}(i:Nat)(h:PSsM K X c t):PSsM K X c (DM i t):=⟨λv=>(h.ps v).imp λE w H r=>by
 obtain⟨j,p,Φ,ρ,o,g,V,t,k⟩:=r;obtain⟨f,g',u⟩:=V.frz g i
 exact⟨j,p,f,aY i ρ,o,g',u,t,k⟩⟩
end
section
variable{K:Frag}{X:Cx}{j a c:Expr}{scope:Scope}{e u v:Pos}{N':List Str}{cap:List (Option Nat)}{f:aR}{g:dG}{o:cB}{l:TD}{i:Nat}{y:Str}
def G6{tf:aR}{E:Ends}{x:St}{H:Hp}(w:∀{x:St}{H:Hp}{Q:VK},lF K tf x H Q->gB (lI K f) cap (lG K g) (lT K o) (lE K l) x H Q)(h:lM K X (jD i (xF tf)) E x H):i5 (gB (lI K f) cap (lG K g) (lT K o) (lE K l)) (iF i) E x H:=by obtain⟨M,B,Φ,ρ,N,gg,V,t,J⟩:=h;exact w ⟨B,Φ,dN ρ,_,V.toD,t,λds L A p vs r z C G I rr=>J.nx _ _ A _ r (gg.trans z) ((V.snocO gg.h z (.lst I rr) λb F=>by rw[J5.mp F];exact⟨C,G⟩).store i)⟩
def EA{k:Nat}(B:X.calm=true)(F:X.N.Nodup)(O:X.N[i]?=some y)(N:eh X.env.scope y)(S:CompScope X.N X.env.scope scope N' cap)(A:gb k cap=true)(L:GM k g)(J:PID K X j a f)
  (I:∀(cl:List (Str×Addr))(r:List Addr)(C:Addr)(w:Shared)(p:Hp),PGD K (bU X scope N' cl C w p r) j g)
  (G:∀(cl:List (Str×Addr))(r:List Addr)(C:Addr)(w:Shared)(p:Hp),PD K (bU X scope N' cl C w p r) c l) (E:swapsWith (.ListComp c [⟨j,a,[],0⟩] scope e) (some (.Name y u)) v.line X.env=pure true:=by rfl)
  (M:∀x,foldedSetIterable a X.env x=pure x:=by intro _;rfl) (H:X.fn y=true\/X.env.scope.names.lookup y=some .local:=by nofun) :
  PSM K X (.Assign [.Name y u] (.ListComp c [⟨j,a,[],0⟩] scope e) v) (jD i (xF (pd f cap g l))):=
 ⟨λz=>(k8 B F O N S (J.pi z) (λcl r C w p=>(I cl r C w p).pg z) (λcl r C w p=>(qM (K:=K)).p z) (λcl r C w p=>(G cl r C w p).pe z) E M H).imp λ_ _ _ h=>G6 (λq=>sV A L q) h⟩
end
def zM(z:cu):en:=λas R _=>∃ds,as=ds.map Sm.v/\z ds λd=>R (.v d) []
def FT{H:Hp}:cf H []=H:=funext λb=>JZ (by simp)
def vE{K:Frag}{Φ H:Hp}:∀{ds:List D}{vs:List V},RpL K Φ ds vs->ArgM K Φ H (ds.map Sm.v) vs (ds.map λ_=>[])
 | [],[],_=>.nil
 | [],_::_,h=>by cases h.1
 |_::_,[],h=>by cases h.1
 |d::ds,v::vs,h=>.v (h.2 0 v d rfl rfl) (vE ⟨by have:=h.1;simpa using this,λi u e c a=>h.2 (i+1) u e c a⟩)
def sL{a:Type}:∀(ds:List a),(ds.map λ_=>([]:List Addr)).flatten=[]
 | []=>rfl
 |_::ds=>by simp
def lJ{K:Frag}{z:cu}:∀vs H Q E,lSp K z vs H Q E->lSpM K (zM z) vs H Q E:=λvs H Q E h=>by
 obtain⟨Φ,ds,R,sm,tb,rl,x,k⟩:=h;refine⟨Φ,ds.map Sm.v,ds.map λ_=>[],λs os=>∃d,s=.v d/\R d,λ_ _=>False,sm,tb,vE rl,by rw[sL];exact List.nodup_nil,λb c=>(by rw[sL]at c;cases c),⟨ds,rfl,?_⟩,λs os a f v F o r g j w u p=>?_⟩
 ·have e:R=λd=>∃d',(Sm.v d:Sm)=.v d'/\R d':=funext λd=>propext ⟨λh=>⟨d,rfl,h⟩,λ⟨d',e,h⟩=>by cases e;exact h⟩;rwa[←e]
 ·obtain⟨d,rfl,r⟩:=r
  cases j with
  |v l=>
   rw[sL,FT]at g;exact k d a f v r g l
def pinned:Option Sm->Option Sm
 |some (.v d)=>some (.v d)
 |some (.ob (some p) o)=>some (.ob (some p) o)
 |_=>none
def jU(cap:List (Option Nat))(ρ:aq):aq:=cap.map λo=>o.bind λi=>pinned (ρ[i]?).join
def jm:List (Option Nat)->aq->aq->(aq->Prop)->Prop
 | [],_,ρ,k=>k ρ
 |none::cap,_::ρc,ρ,k=>jm cap ρc ρ k
 |some i::cap,x::ρc,ρ,k=>match ρ[i]? with
  |some (some (.ob (some p) _))=>∃o,x=some (.ob (some p) o)/\jm cap ρc (setA ρ i o) k
  |_=>jm cap ρc ρ k
 |_::_,[],_,_=>False
def gQ(cap:List (Option Nat)):List Nat:=cap.filterMap id
def qH{cap:List (Option Nat)}{j i:Nat}(h:cap[j]?=some (some i)):i∈gQ cap:=Mc.mpr ⟨some i,J0 h,rfl⟩
def oX:∀{cap:List (Option Nat)}{ρc ρ:aq}{k:aq->Prop},(gQ cap).Nodup->jm cap ρc ρ k->∃g,k g/\g.length=ρ.length/\(∀(i:Nat)(x:Sm),g[i]?=some (some x)->(∃(j:Nat)(p:Addr)(a o:Om),cap[j]?=some (some i)/\ρ[i]?=some (some (.ob (some p) a))/\ρc[j]?=some (some (.ob (some p) o))/\x=.ob (some p) o)\/(ρ[i]?=some (some x)/\∀(j:Nat)(p:Addr)(a:Om),cap[j]?=some (some i)->ρ[i]?≠some (some (.ob (some p) a)))) /\
  ∀(j i:Nat)(p:Addr)(a:Om),cap[j]?=some (some i)->ρ[i]?=some (some (.ob (some p) a))->∃o:Om,ρc[j]?=some (some (.ob (some p) o))
 | [],ρc,ρ,k,_,h=>⟨ρ,h,rfl,λi x M=>.inr ⟨M,λj p a f=>(by simp at f)⟩,λj i p a f=>(by simp at f)⟩
 |none::cap,x::ρc,ρ,k,nd,h=>by
  obtain⟨g,z,A,B,C⟩:=oX (cap:=cap) (ρc:=ρc) (ρ:=ρ) (k:=k) nd h;refine⟨g,z,A,λi y E=>?_,λj i p a f v=>?_⟩
  ·rcases B i y E with⟨j,p,a,o,l,r,H,I⟩|⟨l,r⟩
   ·exact .inl ⟨j+1,p,a,o,l,r,H,I⟩
   ·refine .inr ⟨l,λj p a f=>?_⟩
    cases j with
    |zero=>cases f
    |succ j=>exact r j p a f
  ·cases j with
   |zero=>cases f
   |succ j=>exact C j i p a f v
 |some w::cap,x::ρc,ρ,k,nd,h=>by
  obtain⟨L,J⟩:=Kp.mp (show (w::gQ cap).Nodup from nd);have h':(match ρ[w]? with|some (some (.ob (some p) _))=>∃o,x=some (.ob (some p) o)/\jm cap ρc (setA ρ w o) k|_=>jm cap ρc ρ k):=h;by_cases u:∃p a,ρ[w]?=some (some (.ob (some p) a))
  ·obtain⟨p,a,u⟩:=u;rw[u]at h';obtain⟨o,rfl,h'⟩:=h';obtain⟨g,z,A,B,C⟩:=oX J h';have ne:∀{j i:Nat},cap[j]?=some (some i)->i≠w:=λf e=>L (e▸qH f);refine⟨g,z,by rw[A,vP],λi y E=>?_,λj i G F f v=>?_⟩
   ·rcases B i y E with⟨j,G,F,o',l,r,H,I⟩|⟨l,r⟩
    ·rw[kY (ne l)]at r;exact .inl ⟨j+1,G,F,o',l,r,H,I⟩
    ·by_cases c:i=w
     ·subst c;rw[kq]at l;rw[u]at l;simp only at l;rw[Kj (aE u)]at l;cases l;exact .inl ⟨0,p,a,o,rfl,u,rfl,rfl⟩
     ·rw[kY c]at l r;refine .inr ⟨l,λj G F f=>?_⟩
      cases j with
      |zero=>cases f;exact absurd rfl c
      |succ j=>exact r j G F f
   ·cases j with
    |zero=>cases f;rw[u]at v;cases v;exact⟨o,rfl⟩
    |succ j=>exact C j i G F f (by rwa[kY (ne f)])
  ·have K:jm cap ρc ρ k:=by
    split at h'
    ·next p a e=>exact absurd ⟨p,a,e⟩ u
    ·exact h'
   obtain⟨g,z,A,B,C⟩:=oX J K;refine⟨g,z,A,λi y E=>?_,λj i p a f v=>?_⟩
   ·rcases B i y E with⟨j,p,a,o,l,r,H,I⟩|⟨l,r⟩
    ·exact .inl ⟨j+1,p,a,o,l,r,H,I⟩
    ·refine .inr ⟨l,λj p a f=>?_⟩
     cases j with
     |zero=>cases f;exact λe=>u ⟨p,a,e⟩
     |succ j=>exact r j p a f
   ·cases j with
    |zero=>cases f;exact absurd ⟨p,a,v⟩ u
    |succ j=>exact C j i p a f v
 |none::_,[],_,_,_,h=>h.elim
 |some _::_,[],_,_,_,h=>h.elim
section
variable{K:Frag}{X:Cx}{z H B Φ A:Hp}{c:St}{ρ:aq}{cap:List (Option Nat)}
def xg{i:Nat}{x:Sm}(h:(jU cap ρ)[i]?=some (some x)):∃j,cap[i]?=some (some j)/\ρ[j]?=some (some x)/\pinned (some x)=some x:=by
 unfold jU at h;rw[J7]at h
 cases e:cap[i]? with
 |none=>rw[e]at h;cases h
 |some o=>
  rw[e]at h
  cases o with
  |none=>cases h
  |some j=>
   have h':pinned (ρ[j]?).join=some x:=Kv h
   cases f:(ρ[j]?).join with
   |none=>rw[f]at h';cases h'
   |some y=>
    rw[f]at h'
    cases y with
    |v d=>cases h';exact⟨j,rfl,qg f,rfl⟩
    |ob a o=>
     cases a with
     |none=>cases h'
     |some p=>cases h';exact⟨j,rfl,qg f,rfl⟩
def wZ{i j:Nat}{v:V}(a:cap[i]?=some (some j))(e:c[j]?=some (some v)):(eN cap c)[i]?=some (some v):=by unfold eN;rw[J7,a];simp[e]
def EnvM.side{p:Addr}{u u':HO}(E:EnvM K z Φ H c ρ)(j:z p=some u)(l:Φ p=none):EnvM K (au z p u') Φ (au H p u') c ρ:=by
 obtain⟨g,E⟩:=E
 have ne:∀{i:Nat}{a:Option Addr}{o:Om},ρ[i]?=some (some (.ob a o))->∀b∈g i,b≠p:=λh b f e=>by have:=(E.no _ _ _ h b f).1;rw[e,j]at this;cases this
 exact⟨g,λb w e=>by rw[ba (dc e l)];exact E.fz b w e,E.len,E.sl,λi a o h=>let ⟨q,e,ha,r⟩:=E.ow i a o h;⟨q,e,ha,r.keep (Same.refl _) λb f w v=>by rwa[ba (ne h b f)]⟩,
  λi a o h b f=>by rw[ba (ne h b f)];exact E.no i a o h b f,E.dj,E.tb⟩
structure StN(K:Frag)(Φ0 z Φ H:Hp)(c τ:St)(ρ κ:aq):Prop where
 g:Gr Φ0 z Φ H
 l:ρ.length=c.length
 E:EnvM K z Φ H (c++τ) (ρ++κ)
def nox:XD->aq->Prop:=λ_ _=>False
def StM.n{a z:Hp}{f:St}{e:aq}{g:XD->aq->Prop}(S:StM K X a z Φ H c f ρ e g):StN K a z Φ H c f ρ e:=⟨S.g,S.l,S.E⟩
def StN.m{a z:Hp}{f:St}{e:aq}(S:StN K a z Φ H c f ρ e):StM K X a z Φ H c f ρ e nox:=⟨S.g,S.l,S.E,λ_ _ _ _ _ _ _ _ h=>h.elim⟩
inductive lNm(K:Frag)(t:TX)(c:St)(H:Hp)(Q:VK):Prop|mk (Φ0:Hp) (z:Hp) (Φ:Hp) (τ:St) (ρ:aq) (κ:aq) (R:Sm->aq->Prop) (_:StN K Φ0 z Φ H c τ ρ κ) (_:t ρ R nox) (_:∀sm ρ' A B v,R sm ρ'->StN K Φ0 z A B c (τ++[some v]) ρ' (κ++[some sm])->Same Φ A->Q v B)
inductive lNb(K:Frag)(t:dg)(c:St)(H:Hp)(Q:Bool->Hp->Prop):Prop|mk (Φ0:Hp) (z:Hp) (Φ:Hp) (τ:St) (ρ:aq) (κ:aq) (R:Bool->aq->Prop) (_:StN K Φ0 z Φ H c τ ρ κ) (_:t ρ R nox) (_:∀b ρ' A B,R b ρ'->StN K Φ0 z A B c τ ρ' κ->Same Φ A->Q b B)
def lNm.m{t:TX}{Q:VK}(h:lNm K t c H Q):lXm K X t c H Q:=by obtain⟨a,z,Φ,l,ρ,j,R,S,t,k⟩:=h;exact⟨a,z,Φ,l,ρ,j,R,nox,S.m,t,λsm e A B v r g f=>k sm e A B v r g.n f⟩
def lNb.m{t:dg}{Q:Bool->Hp->Prop}(h:lNb K t c H Q):lXb K X t c H Q:=by obtain⟨a,z,Φ,l,ρ,j,R,S,t,k⟩:=h;exact⟨a,z,Φ,l,ρ,j,R,nox,S.m,t,λb e A B r g f=>k b e A B r g.n f⟩
def tP(p:i9)(cap:List (Option Nat))(j:gq)(l:dg)(o:TX):TX:=λρ R h=>p ρ (λds e=>ds.length<sizeLine/\∃I:Nat->List D->aq->Prop,I 0 [] (jU cap e) /\
 (∀i d ys ρc,ds[i]?=some d->I i ys ρc->j d ρc λf=>l f (λb a=>(b=true->o a (xV λy g=>I (i+1) (ys++[y]) g) nox)/\(b=false->I (i+1) ys a)) nox) /\
 ∀ys ρc,I ds.length ys ρc->jm cap ρc e λa=>R (.own ys) a) h
def Fu:dg:=λρ R _=>R true ρ
structure PIfM(K:Frag)(X:Cx)(ifs:List Expr)(t:dg):Prop where p:X.K=K->jx X ifs (lXb K X t)
def Di:PIfM K X [] Fu:=⟨λ_ a s c H Q I e=>by obtain⟨f,z,Φ,j,ρ,h,R,g,S,t,k⟩:=e;exact vB a s c H Q I (k true ρ Φ H t S (Same.refl _))⟩
end
section
variable{K:Frag}{X:Cx}{L f w:Expr}{l:List Expr}{scope:Scope}{A:Pos}{N':List Str}{cap:List (Option Nat)}{G:i9}{O:gq}{N:dg}{M:TX}
def vI{n:Nat}:∀{cap:List (Option Nat)},(gQ cap).Nodup->∀{i j:Nat},cap[i]?=some (some n)->cap[j]?=some (some n)->i=j:=by
 intro cap
 induction cap with
 |nil=>intro _ i j h;simp at h
 |cons o cap r=>
  intro nd i j a c
  have e:(gQ cap).Nodup:=by
   cases o with
   |none=>exact nd
   |some m=>exact (Kp.mp (show (m::gQ cap).Nodup from nd)).2
  have one:∀{i:Nat},o=some n->cap[i]?=some (some n)->False:=λ{i} p g=>by subst p;exact (Kp.mp (show (n::gQ cap).Nodup from nd)).1 (qH g)
  cases i with
  |zero=>cases j with
   |zero=>rfl
   |succ j=>exact (one (by simpa using a) (by simpa using c)).elim
  |succ i=>cases j with
   |zero=>exact (one (by simpa using c) (by simpa using a)).elim
   |succ j=>exact KO Nat.succ (r e (by simpa using a) (by simpa using c))
def BW(OB:(gQ cap).Nodup){σ:St}{H:Hp}{Q:VK}{Φ0 H0 Φ:Hp}{ρ:aq}{R:Sm->aq->Prop}{Rx:XD->aq->Prop}{τ:St}{κ:aq}(S:StM K X Φ0 H0 Φ H σ τ ρ κ Rx)(t:tP G cap O N M ρ R Rx)
  (k:∀sm ρ' g H' v,R sm ρ'->StM K X Φ0 H0 g H' σ (τ++[some v]) ρ' (κ++[some sm]) Rx->Same Φ g->Q v H'):gB (lIM K X G) cap (lGM K O) (lNb K N) (lNm K M) σ H Q:=by
 refine⟨Φ0,H0,Φ,τ,ρ,κ,_,Rx,S,t,λds P Φ1 H1 J OC S1 f1 Sd T hD=>?_⟩;obtain⟨hlen,I,h0,OS,Pn⟩:=OC;obtain⟨fp,Ex⟩:=S1.E;have E:=Ex.take S1.l
 have up:∀{i:Nat}{x:Sm},P[i]?=some (some x)->(P++κ)[i]?=some (some x):=λh=>by rwa[JV (aE h)]
 have ups:∀{i:Nat}{x:V},σ[i]?=some (some x)->(σ++τ)[i]?=some (some x):=λh=>by rwa[JV (aE h)]
 let Qy:Nat->Prop:=λi=>(∃j:Nat,cap[j]?=some (some i))/\∃p o,P[i]?=some (some (.ob (some p) o))
 obtain⟨B,hB⟩:∃B:List Addr,∀b,b∈B↔∃i,Qy i/\b∈fp i:=by
  refine⟨((gQ cap).filter λi=>match P[i]? with|some (some (.ob (some _) _))=>true|_=>false).flatMap fp,λb=>?_⟩;rw[MU];constructor
  ·rintro⟨i,hi,C⟩;obtain⟨hi,hp⟩:=KL.mp hi;refine⟨i,⟨?_,?_⟩,C⟩
   ·obtain⟨o,ho,e⟩:=Mc.mp hi
    cases o with
    |none=>cases e
    |some i'=>cases e;exact KY ho
   ·split at hp
    ·next p o e=>exact⟨p,o,e⟩
    ·cases hp
  ·rintro⟨i,⟨⟨j,hj⟩,p,o,hp⟩,C⟩;exact⟨i,KL.mpr ⟨qH hj,by rw[hp]⟩,C⟩
 have hDB:T∉B:=λh=>by obtain⟨i,⟨_,p,o,ho⟩,C⟩:=(hB T).mp h;obtain⟨_,_,_,r⟩:=E.ow i _ o ho;obtain⟨u,hu,_⟩:=r.at T C;rw[hD]at hu;cases hu
 have SQ:Φ1 T=none:=S1.g.s.free hD
 have hDm:cf H1 B T=none:=by rwa[ij hDB]
 have m2:∀{b:Addr}{u:HO},cf H1 B b=some u->b≠T:=λh=>dc h hDm
 have C0:EnvM K (au (cf H1 B) T (.lst [])) Φ1 (au H1 T (.lst [])) (eN cap σ) (jU cap P):=by
  have no:∀{i:Nat}{a:Option Addr}{o:Om},(jU cap P)[i]?=some (some (.ob a o))->∃j:Nat,cap[i]?=some (some j)/\P[j]?=some (some (.ob a o))/\Qy j:=λ{i a o} h=>by
   obtain⟨j,Y,Z,h3⟩:=xg h
   cases a with
   |none=>cases h3
   |some p=>exact⟨j,Y,Z,⟨i,Y⟩,p,o,Z⟩
  have inB:∀{i j:Nat}{a:Option Addr}{o:Om},P[j]?=some (some (.ob a o))->Qy j->∀b∈fp j,b∈B/\b≠T:=λ{i j a o} h hl b C=>⟨(hB b).mpr ⟨j,hl,C⟩,λe=>hDB (e▸(hB b).mpr ⟨j,hl,C⟩)⟩;have cj:∀{i j n:Nat},cap[i]?=some (some n)->cap[j]?=some (some n)->i=j:=λY Z=>vI OB Y Z;refine⟨λi=>match cap[i]? with|some (some j)=>fp j|_=>[],λb u e=>?_,by unfold eN jU;rw[JT,JT],λi d h=>?_,λi a o h=>?_,λi a o h b C=>?_,λi j a a' o o' hi hj c b C Ov=>?_,S1.E.tb⟩
  ·rw[ba (dc e SQ)];exact S1.g.s b u e
  ·obtain⟨j,Y,Z,_⟩:=xg h;obtain⟨v,hv,r⟩:=E.sl j d Z;exact⟨v,wZ Y hv,r⟩
  ·obtain⟨j,Y,Z,hl⟩:=no h;obtain⟨p,hp,ha,r⟩:=E.ow j a o Z;refine⟨p,wZ Y hp,ha,?_⟩;rw[Y]
   exact r.keep (Same.refl _) λb C u hu=>by rwa[ba (inB (i:=i) Z hl b C).2]
  ·obtain⟨j,Y,Z,hl⟩:=no h;rw[Y]at C;obtain⟨U,z2⟩:=inB (i:=i) Z hl b C;exact⟨by rw[ba z2];exact tK U,(E.no j a o Z b C).2⟩
  ·obtain⟨i',Y,Z,_⟩:=no hi;obtain⟨j',h3,h4,_⟩:=no hj;rw[Y]at C;rw[h3]at Ov;exact E.dj i' j' a a' o o' Z h4 (λe=>c (by subst e;exact cj Y h3)) b C Ov
 refine⟨λi m σ' H'=>m=ds.length-i/\i<=ds.length/\∃(g:Hp)(ρc:aq)(vs:List V)(ys:List D),EnvM K (au (cf H1 B) T (.lst vs)) g H' σ' ρc/\Gr Φ1 (cf H1 B) g H'/\g T=none/\H' T=some (.lst vs)/\RpL K g ys vs/\ys.length<=i/\I i ys ρc,⟨ds.length,by simp,LA _,Φ1,_,[],[],C0,⟨Same.refl _,λb u e=>by rw[ba (m2 e)];exact (uc e).2,λb u e=>by rw[ba (dc e SQ)];exact S1.g.s b u e,λ_ _ _ h _=>h⟩,SQ,br,.nil,LA _,h0⟩,?_⟩;rintro i m σ' H' ⟨rfl,hi,g,ρc,vs,ys,Ei,gi,Th,RQ,OK,OY,hI⟩;by_cases Ox:i<ds.length
 ·refine .inr ⟨Sd.go i H' (gi.f.trans gi.s) Ox,λσ2 H2=>∃(g:Hp)(ρc:aq)(vs:List V)(ys:List D),EnvM K (au (cf H1 B) T (.lst vs)) g H2 σ2 ρc/\Gr Φ1 (cf H1 B) g H2/\g T=none/\H2 T=some (.lst vs)/\RpL K g ys vs/\ys.length<=i+1/\I (i+1) ys ρc,λσ2 H2 Z=>⟨ds.length-(i+1),by omega,rfl,Ox,Z⟩,λx H2 y=>?_⟩;obtain⟨Φ3,g3,rx⟩:=Sd.yl i g H' x H2 _ gi.f gi.s (bK Ox) y;have E3:=Ei.gr g3;refine⟨_,Φ3,ρc,_,_,E3,rx,OS i _ ys ρc (bK Ox) hI,λρ1 σ3 t1 E4=>?_⟩;have Vn:Φ3 T=none:=g3.o _ _ RQ Th;have Vx:=g3.h _ _ RQ
  have gt:Gr Φ3 (au (cf H1 B) T (.lst vs)) Φ3 H2:=⟨Same.refl _,λb u e=>by
   by_cases c:b=T
   ·subst c;rw[br]at e;cases e;exact Vx
   ·rw[ba c]at e;exact g3.h b u (gi.h b u e),g3.s,λ_ _ _ h _=>h⟩
  have join:∀{Φ5 H5:Hp},Gr Φ3 (au (cf H1 B) T (.lst vs)) Φ5 H5->Gr Φ1 (cf H1 B) Φ5 H5/\Φ5 T=none/\H5 T=some (.lst vs):=λ{Φ5 H5} g5=>by
   refine⟨⟨(gi.f.trans g3.f).trans g5.f,λb u e=>g5.h b u (by rwa[ba (m2 e)]),g5.s,λb u Y Z kk=>?_⟩,g5.o _ _ br Vn trivial,g5.h _ _ br⟩;have U:=gi.o b u Y Z kk;have z2:=g3.o b u (gi.h b u Y) U kk;exact g5.o b u (by rwa[ba (m2 Y)]) z2 kk
  refine⟨Φ3,_,Φ3,[],ρ1,[],_,⟨gt,E4.len.symm,by rwa[Kz,Kz]⟩,t1,λb ρ2 Φ4 H4 rb S4 f4=>?_⟩
  cases b with
  |false=>
   refine j5 ?_;obtain⟨j1,j2,j3⟩:=join S4.g;exact⟨Φ4,ρ2,vs,ys,(S4.m (X:=X)).env,j1,j2,j3,(OK.same g3.f).same f4,by omega,rb.2 rfl⟩
  |true=>
   refine jP ?_;refine⟨Φ3,_,Φ4,[],ρ2,[],_,S4,rb.1 rfl,λs ρ3 Φ5 H5 v rs S5' f5=>?_⟩;have S5:=S5'.m (X:=X);obtain⟨d,rfl,rs⟩:=rs.get;obtain⟨j1,j2,j3⟩:=join S5.g;have rl5:=(OK.same g3.f).same (f4.trans f5);refine⟨vs,j3,by rw[OK.1];omega,Φ5,ρ3,vs++[v],ys++[d],?_,?_,j2,br,rl5.append (.one S5.last),by rw[JW];exact Nat.succ_le_succ OY,rs⟩
   ·have:=S5.env.side (p:=T) (u:=.lst vs) (u':=.lst (vs++[v])) br j2;rw[IV]at this;exact this
   ·exact⟨j1.f,λb u e=>by rw[ba (m2 e)];exact j1.h b u e,λb u e=>by rw[ba (dc e j2)];exact j1.s b u e,λb u Y Z kk=>j1.o b u Y Z kk⟩
 ·have e:i=ds.length:=by omega
  subst e;refine .inl ⟨Sd.stop H' (gi.f.trans gi.s),?_⟩;obtain⟨ρ2,hR,PJ,h3,h4⟩:=oX OB (Pn ys ρc hI);obtain⟨fc,Ec⟩:=Ei;have inj:∀{i j n:Nat},cap[i]?=some (some n)->cap[j]?=some (some n)->i=j:=λY Z=>vI OB Y Z
  have ex:∀i,Qy i->∃(j:Nat)(p:Addr)(o0 o:Om),cap[j]?=some (some i)/\P[i]?=some (some (.ob (some p) o0))/\ρc[j]?=some (some (.ob (some p) o)):=λi hl=>by obtain⟨⟨j,hj⟩,p,o0,ho⟩:=hl;obtain⟨o,h⟩:=h4 j i p o0 hj ho;exact⟨j,p,o0,o,hj,ho,h⟩
  have cho:∀i,∃y:Option (Om×List Addr),(∀q,y=some q->∃(j:Nat)(p:Addr)(o0:Om),cap[j]?=some (some i)/\P[i]?=some (some (.ob (some p) o0))/\ρc[j]?=some (some (.ob (some p) q.1))/\q.2=fc j)/\(y=none↔¬ Qy i):=λi=>by
   by_cases h:Qy i
   ·obtain⟨j,p,o0,o,U,z2,z3⟩:=ex i h;exact⟨some (o,fc j),λq hq=>by cases hq;exact⟨j,p,o0,U,z2,z3,rfl⟩,λe=>(by cases e),λn=>absurd h n⟩
   ·exact⟨none,λq hq=>(by cases hq),λ_=>h,λ_=>rfl⟩
  obtain⟨new,Ts⟩:=Classical.axiomOfChoice cho;have OT:=λi=>(Ts i).1;have P0:=λi=>(Ts i).2
  have Dfc:∀{j:Nat}{a:Option Addr}{o:Om},ρc[j]?=some (some (.ob a o))->∀b∈fc j,b≠T/\cf H1 B b=none/\g b=none:=λ{j a o} h b C=>by
   obtain⟨U,z2⟩:=Ec.no j a o h b C
   have c:b≠T:=λe=>by rw[e,br]at U;cases U
   rw[ba c]at U;exact⟨c,U,z2⟩
  have adr:∀{j i:Nat}{p:Addr}{o0 o:Om},P[i]?=some (some (.ob (some p) o0))->ρc[j]?=some (some (.ob (some p) o))->σ[i]?=some (some (.ref p))/\OmS K g H' o p (fc j):=λ{j i p o0 o} Y Z=>by obtain⟨q1,e1,a1,_⟩:=E.ow i _ o0 Y;obtain⟨q2,e2,a2,r⟩:=Ec.ow j _ o Z;cases a1 p rfl;cases a2 p rfl;exact⟨e1,r⟩
  have lnt:∀{i:Nat},P.length<=i->new i=none:=λ{i} c=>(P0 i).mpr λhl=>by
   obtain⟨_,p,o,ho⟩:=hl;have:=aE ho;omega
  have cs:∀{i:Nat}{x:Sm},(ρ2++κ)[i]?=some (some x)->(i<P.length/\ρ2[i]?=some (some x))\/(P.length<=i/\(P++κ)[i]?=some (some x)):=λ{i x} h=>by
   rcases KP i P.length with c|c
   ·rw[JV (by omega)]at h;exact .inl ⟨c,h⟩
   ·rw[JU (by omega),PJ]at h;exact .inr ⟨c,by rwa[JU c]⟩
  have E2:EnvM' K H0 g H' (σ++τ) (ρ2++κ) (gS new fp):=by
   refine Ex.lend S1.g.h (B:=B) (λb C=>?_) (λi q hq b C=>(hB b).mpr ⟨i,(La λz=>by rw[(P0 i).mpr z]at hq;cases hq),C⟩) gi (by rw[JW,JW,PJ]) (λi d h=>?_) (λi a o h=>?_) (λi q hq=>?_) (λi q hq b C=>?_) λi j q r hq hr c b C Ov=>?_
   ·obtain⟨i,hl,OU⟩:=(hB b).mp C;obtain⟨_,p,o,ho⟩:=id hl
    cases e:new i with
    |none=>exact absurd hl ((P0 i).mp e)
    |some q=>exact⟨i,_,o,q,e,up ho,OU⟩
   ·rcases cs h with⟨_,h⟩|⟨_,h⟩
    ·rcases h3 i _ h with⟨_,_,_,_,_,_,_,z⟩|⟨z,_⟩
     ·cases z
     ·exact up z
    ·exact h
   ·rcases cs h with⟨_,h⟩|⟨c,h⟩
    ·rcases h3 i _ h with⟨j,p,o0,o',U,z2,z3,z4⟩|⟨U,z2⟩
     ·cases z4
      cases e:new i with
      |none=>exact absurd ⟨⟨j,U⟩,p,o0,z2⟩ ((P0 i).mp e)
      |some q=>
       obtain⟨j',p',o1,y1,y2,y3,y4⟩:=OT i q e;cases inj U y1;rw[z3]at y3;cases y3;exact .inr ⟨o0,q.2,rfl,up z2⟩
     ·refine .inl ⟨(P0 i).mpr λhl=>?_,up U⟩;obtain⟨⟨j,hj⟩,p,o0,ho⟩:=hl;exact z2 j p o0 hj ho
    ·exact .inl ⟨lnt c,h⟩
   ·obtain⟨j,p,o0,U,z2,z3,z4⟩:=OT i q hq;obtain⟨y1,y2⟩:=adr z2 z3;exact⟨p,ups y1,by rwa[z4]⟩
   ·obtain⟨j,p,o0,U,z2,z3,z4⟩:=OT i q hq;rw[z4]at C;exact (Dfc z3 b C).2
   ·obtain⟨j1,p1,o1,U,z2,z3,z4⟩:=OT i q hq;obtain⟨j2,p2,o2,y1,y2,y3,y4⟩:=OT j r hr;rw[z4]at C;rw[y4]at Ov;exact Ec.dj j1 j2 _ _ _ _ z3 y3 (λe=>c (by rw[e,y1]at U;cases U;rfl)) b C Ov
  have B0:∀b∈B,H0 b=none:=λb C=>by obtain⟨i,⟨_,p,o,ho⟩,OU⟩:=(hB b).mp C;exact (E.no i _ o ho b OU).1
  have g0:=S1.g.lend gi B0
  have E3:=E2.snocG (sm:=.own ys) (F:=[T]) (.o (λq e=>by cases e) (.lst RQ OK)) (λb C=>by rw[J5.mp C];exact⟨S1.g.h.free hD,Th⟩) λb C i a o ho OU=>by
   rw[J5.mp C]at OU;unfold gS at OU
   cases e:new i with
   |some q=>
    rw[e]at OU;obtain⟨j,p,o0,U,z2,z3,z4⟩:=OT i q e;have OU:T∈q.2:=OU;rw[z4]at OU;exact (Dfc z3 T OU).1 rfl
   |none=>
    rw[e]at OU
    have old:(P++κ)[i]?=some (some (.ob a o)):=by
     rcases cs ho with⟨_,ho⟩|⟨_,ho⟩
     ·rcases h3 i _ ho with⟨j,p,o0,o',U,z2,_⟩|⟨U,_⟩
      ·exact absurd ⟨⟨j,U⟩,p,o0,z2⟩ ((P0 i).mp e)
      ·exact up U
     ·exact ho
    obtain⟨_,_,_,r⟩:=Ex.ow i a o old;obtain⟨u,hu,_⟩:=r.at T OU;rw[hD]at hu;cases hu
  rw[Kc,Kc]at E3;exact k _ ρ2 g H' _ hR ⟨g0,by rw[PJ];exact S1.l,E3,S1.x⟩ (f1.trans gi.f)
def Cp{i:Nat}{y:Str}{B u:Pos}(S:X.calm=true)(Y:X.N.Nodup)(hy:X.N[i]?=some y)(hx:eh X.env.scope y)(U:CompScope X.N X.env.scope scope N' cap)(P:(gQ cap).Nodup)(hi:PIM K X L f G)
  (hg:∀(cl:List (Str×Addr))(c:List Addr)(C:Addr)(e:Shared)(a:Hp),PGM K (bU X scope N' cl C e a c) L O) (ht:∀(cl:List (Str×Addr))(c:List Addr)(C:Addr)(e:Shared)(a:Hp),PIfM K (bU X scope N' cl C e a c) l N)
  (Z:∀(cl:List (Str×Addr))(c:List Addr)(C:Addr)(e:Shared)(a:Hp),PX K (bU X scope N' cl C e a c) w M) (T:swapsWith (.ListComp w [⟨L,f,l,0⟩] scope A) (some (.Name y B)) u.line X.env=pure true:=by rfl)
  (hs:∀x,foldedSetIterable f X.env x=pure x:=by intro _;rfl) (hf:X.fn y=true\/X.env.scope.names.lookup y=some .local:=by nofun) :
  PSM K X (.Assign [.Name y B] (.ListComp w [⟨L,f,l,0⟩] scope A) u) (jD i (tP G cap O N M)):=
 ⟨λo=>(k8 S Y hy hx U (hi.pi o) (λcl c C e a=>(hg cl c C e a).pg o) (λcl c C e a j s F H Q I h=>(ht cl c C e a).p o j s F H Q I (lNb.m h)) (λcl c C e a=>((Z cl c C e a).pe o).imp λ_ _ _ h=>lNm.m h) T hs hf).imp λE F H R=>by
  obtain⟨Φ0,a,Φ,ρ,De,g,V,t,k⟩:=R
  exact BW P (dJ g V k.ex) t λsm ρ1 p J v r z _=>k.nx _ p J _ r z.g (z.env1.store i)⟩
end
def jc{a:List Addr}(h:a.length=0):a=[]:=Lk.mp h
def eK{c:List Addr}(h:c.length=1):∃a,c=[a]:=by
 match c,h with
 | [a],_=>exact⟨a,rfl⟩
section
variable{K:Frag}{X:Cx}{a b:Expr}{c:Pos}{e tb:TX}
def ph(g:PX K X a e)(h:PX K X b tb)(j:oK b):PX K X (.Subscript a b c) (jZ pN e tb):=
 ⟨λf=>(sG (xC f) (g.pe f) (h.pe f) j).imp λ_ _ _=>oG⟩
end
section
variable{o:Type}[DecidableEq o]{K:Frag}{Φ:Hp}
def bG(a:List (o×D))(k:o):Option D:=(a.find? λc=>decide (c.1=k)).map (·.2)
def i4(c:List (o×D))(k:o)(d:D):List (o×D):=if c.any (λa=>decide (a.1=k)) then c.map (λa=>if a.1=k then (a.1,d) else a) else c++[(k,d)]
def rO:∀{e:List (o×D)}{f:List (o×V)},Paired (gG K Φ) e f->∀k,(bG e k=none/\fC f k=none)\/∃d v,bG e k=some d/\fC f k=some v/\Rp K Φ d v
 |_,_,.nil,k=>.inl ⟨rfl,rfl⟩
 |_,_,.cons (a:=x) (b:=y) (l₁:=l) r t,k=>by
  by_cases c:x.1=k
  ·refine .inr ⟨x.2,y.2,?_,?_,r.2⟩
   ·unfold bG;rw[LB (by simpa using c)];rfl
   ·exact nQ (by rwa[←r.1])
  ·have g:bG (x::l) k=bG l k:=by unfold bG;rw[Ld (by simpa using c)]
   rw[g,mU (by rwa[←r.1])];exact rO t k
def vJ:∀{c:List (o×D)}{e:List (o×V)},Paired (gG K Φ) c e->∀k,(e.any λa=>decide (a.1=k))=c.any λa=>decide (a.1=k)
 |_,_,.nil,k=>rfl
 |_,_,.cons r t,k=>by rw[L1,L1,vJ t k,r.1]
def xr{a c:Type}{F:a->c->Prop}{f:a->a}{g:c->c}(h:∀x y,F x y->F (f x) (g y)):∀{l:List a}{m:List c},Paired F l m->Paired F (l.map f) (m.map g)
 |_,_,.nil=>.nil
 |_,_,.cons r t=>.cons (h _ _ r) (xr h t)
def Ia{a:List (o×D)}{c:List (o×V)}(h:Paired (gG K Φ) a c)(k:o){d:D}{v:V}(r:Rp K Φ d v):Paired (gG K Φ) (i4 a k d) (fY c k v):=by
 unfold i4 fY;rw[vJ h k];split
 ·refine xr (λx y q=>?_) h;rw[←q.1];split
  ·exact⟨rfl,r⟩
  ·exact q
 ·exact Paired.snoc h ⟨rfl,r⟩
def rN(a:List (o×D))(k:o):(bG a k).isSome=a.any λf=>decide (f.1=k):=by
 unfold bG
 induction a with
 |nil=>rfl
 |cons x r e=>
  rw[L1];by_cases c:x.1=k
  ·rw[LB (by simpa using c),KZ c];rfl
  ·rw[Ld (by simpa using c),Ku c,e];rfl
def EI{a:List (o×D)}{k:o}{d:D}(h:bG a k=none):i4 a k d=a++[(k,d)]:=by have:=rN a k;rw[h]at this;unfold i4;rw[←this];rfl
def CJ(f:List (o×D))(k j:o)(d:D):bG (i4 f k d) j=if j=k then some d else bG f j:=by
 unfold i4;split
 ·next h=>
  have:∀l:List (o×D),bG (l.map λa=>if a.1=k then (a.1,d) else a) j=if j=k then (bG l k).map (λ_=>d) else bG l j:=by
   intro l
   induction l with
   |nil=>unfold bG;simp
   |cons x r v=>
    rw[Kn];by_cases c:x.1=k
    ·rw[J9 c];by_cases p:j=k
     ·rw[J9 p];subst p;unfold bG;rw[LB (by simpa using c),LB (by simpa using c)];rfl
     ·rw[JZ p]at v ⊢;have g:¬ x.1=j:=λe=>p (e▸c▸rfl);unfold bG at v ⊢;rwa[Ld (by simpa using g),Ld (by simpa using g)]
    ·rw[JZ c];by_cases g:x.1=j
     ·have p:¬ j=k:=λe=>c (g.trans e);rw[JZ p];unfold bG;rw[LB (by simpa using g),LB (by simpa using g)]
     ·have w:bG (x::List.map (λa=>if a.1=k then (a.1,d) else a) r) j=bG (List.map (λa=>if a.1=k then (a.1,d) else a) r) j:=by unfold bG;rw[Ld (by simpa using g)]
      have z:bG (x::r) j=bG r j:=by unfold bG;rw[Ld (by simpa using g)]
      have A:bG (x::r) k=bG r k:=by unfold bG;rw[Ld (by simpa using c)]
      rw[w,v,z,A]
  rw[this];split
  ·have:=rN f k;rw[h]at this
   cases e:bG f k with
   |none=>rw[e]at this;cases this
   |some y=>rfl
  ·rfl
 ·next h=>
  have u:bG f k=none:=by
   cases e:bG f k with
   |none=>rfl
   |some y=>have:=rN f k;rw[e]at this;exact absurd this.symm h
  unfold bG at u ⊢;rw[List.find?_append];by_cases c:j=k
  ·subst c;rw[J9 rfl]
   cases e:f.find? λa=>decide (a.1=j)with
   |none=>simp
   |some y=>rw[e]at u;cases u
  ·rw[JZ c]
   cases e:f.find? λa=>decide (a.1=j)with
   |none=>rw[Ld (by simpa using λe=>c e.symm)];rfl
   |some y=>rfl
def zq{a c:Type}{F:a->c->Prop}:∀{l:List a}{m:List c},Paired F l m->l.length=m.length:=MP
end
section
variable{K:Frag}{X:Cx}{e a b ev:Expr}{c l:TD}{f A B:Pos}{x:Str}{i:Nat}
def zV(o:Om):TX:=λρ R _=>R (.ob none o) ρ
def Gy:PX K X (.Dict [] [] f) (zV (.mpT [])):=⟨λv=>pe_dnewT.imp λy H Q h=>by
 obtain⟨o,r,Φ,z,ρ,w,R,u,S,t,k⟩:=h;intro p g
 exact k _ ρ Φ _ _ t (S.pushO (Gr.fresh S.g.s g _) (.mpT br .nil) λb j=>by rw[J5.mp j];exact⟨g,S.g.s.free g⟩) (Same.refl _)⟩
def EnvM.dictT{j o Φ H:Hp}{y:St}{ρ:aq}{a:Option Addr}{C:List (List aC×D)}(E:EnvM K o Φ H y ρ)(g:Gr j o Φ H)(w:ρ[i]?=some (some (.ob a (.mpT C)))):∃q p,y[i]?=some (some (.ref q))/\H q=some (.dT p)/\Paired (gG K Φ) C p /\
  ∀(v:List (List aC×D))(h:List (List aC×V)),Paired (gG K Φ) v h->EnvM K o Φ (au H q (.dT h)) y (ρ.set i (some (.ob a (.mpT v))))/\Gr j o Φ (au H q (.dT h)):=by
 obtain⟨G,E⟩:=E;obtain⟨q,e,_,r⟩:=E.ow i a _ w;have N:=r.mem;obtain⟨_,p,I,J⟩:=r.mpT_inv;refine⟨q,p,e,I,J,λv h O=>?_⟩
 have F:∀b u,H b=some u->b∉G i->au H q (.dT h) b=some u:=λb u e M=>by
  rwa[ba λz=>M (by rw[z];exact N)]
 exact⟨⟨_,E.put w e F (F':=[q]) (.mpT br O) λb L=>.inl (by rwa[J5.mp L])⟩,E.grput g w F⟩
def ownT(ρ:aq)(i:Nat)(k:Option Addr->List (List aC×D)->Prop):Prop:=match ρ[i]? with|some (some (.ob a (.mpT Oc)))=>k a Oc|_=>False
def ownT.get{ρ:aq}{i:Nat}{k:Option Addr->List (List aC×D)->Prop}(h:ownT ρ i k):∃a g,ρ[i]?=some (some (.ob a (.mpT g)))/\k a g:=by
 unfold ownT at h;split at h
 ·next a ds e=>exact⟨a,ds,e,h⟩
 ·exact h.elim
def rY{Φ:Hp}{g:List aC}{v:V}(r:Rp K Φ (.tup (g.map gM)) v):∃q,v=.ref q/\Φ q=some (.tup (g.map kV)):=by
 cases r with
 |tup h j o=>
  cases t9 ⟨j,o⟩;exact⟨_,rfl,h⟩
def uP(g:Bool)(i:Nat)(c:TD):dg:=λρ R _=>c (dN ρ) λd=>∃h:List aC,d=.tup (h.map gM)/\ownT ρ i λ_ j=>R (g != (bG j h).isSome) ρ
def Eo{j:Bool}{F:St}{H:Hp}{Q:Bool->Hp->Prop}(h:lXb K X (uP j i c) F H Q):lE K c F H λy u=>l7 i F u λx G=>∃a o,x=.ref a/\DGet G a y o/\Q (j != o.isSome) G:=by
 obtain⟨Z,L,Φ,τ,ρ,κ,R,Rx,S,t,k⟩:=h;refine⟨L,Φ,dN ρ,_,S.env.toD,t,λd E u v r g U=>?_⟩;obtain⟨z,rfl,r⟩:=r;obtain⟨a,M,O,r⟩:=ownT.get r;obtain⟨p,rfl,P⟩:=rY U;have w:=S.gr g;obtain⟨q,Y,N,T,C,_⟩:=w.env.dictT w.g O;refine⟨_,N,q,_,rfl,DGet.t T (g.s _ _ P),?_⟩
 have e:(fC Y z).isSome=(bG M z).isSome:=by rcases rO C z with⟨I,J⟩|⟨d,v,I,J,_⟩<;>rw[I,J]<;>rfl
 rw[e];exact k _ ρ E u r w g.f
def BI(b:Bool):(false != b)=b:=by cases b<;>rfl
def HG{t:TD}{u:St}{H:Hp}{Q p:VK}(h:lE K t u H Q)(y:∀v j,Q v j->p v j):lE K t u H p:=by obtain⟨w,Φ,ρ,R,E,t,k⟩:=h;exact⟨w,Φ,ρ,R,E,t,λd o j v r g z=>y _ _ (k d o j v r g z)⟩
def Ek{j:Nat}{p:St}{H:Hp}{Q o:VK}(h:l7 j p H Q)(r:∀v g,Q v g->o v g):l7 j p H o:=let ⟨v,e,q⟩:=h;⟨v,e,r _ _ q⟩
def HI(i:Nat)(J:X.A.units+64<cLine)(C:PD K X e c)(y:X.N[i]?=some x:=by rfl)(F:cV X.env.scope x:=by nofun)(hd:ab x:=by decide)(j:ad x:=by decide)
  (E:behindInMarks .In (.Name x A)=false:=by rfl):PXB K X (.Compare e [.In] [.Name x A] f) (uP false i c):=
 ⟨λu=>(IR (ES (by omega) (C.pe u) (pv i y F hd j)) E).imp λL H Q h=>HG (Eo h) λv G q=>Ek q λw I z=>by
  obtain⟨a,o,p,r,g⟩:=z;rw[BI]at g
  exact⟨a,o,p,r,_,rfl,g⟩⟩
def zy(i:Nat)(c:TD)(l:TD):bF:=λj ρ=>l (dN ρ) λd=>c (dN ρ) λp=>∃h:List aC,p=.tup (h.map gM)/\ownT ρ i λa g=>g.length<sizeLine/\NF (i4 g h d) λo=>j.nx (ρ.set i (some (.ob a (.mpT o))))
def zf(i:Nat)(hu:X.A.units+64<cLine)(S:PD K X e c)(R:PD K X ev l)(Q:X.N[i]?=some x:=by rfl)(U:cV X.env.scope x:=by nofun)(hd:ab x:=by decide)(O:ad x:=by decide)
  (T:swapsWith ev (some (.Subscript (.Name x A) e B)) f.line X.env=pure false:=by rfl):PSM K X (.Assign [.Subscript (.Name x A) e B] ev f) (λC ρ=>(ownT ρ i λ_ _=>True)/\zy i c l C ρ):=
 ⟨λM=>(Dg (by omega) (pv i Q U hd O) (S.pe M) (R.pe M) T).imp λE σ H N=>by
  obtain⟨Φ0,F,Φ,ρ,C,g,V,⟨h,t⟩,k⟩:=N;obtain⟨a,Oc,h,_⟩:=ownT.get h;refine⟨F,Φ,dN ρ,_,V.toD,t,λd y H1 v r1 r rv=>?_⟩;have p:=V.gr r;obtain⟨q,ws,J,hq,rel,_⟩:=p.dictT (g.trans r) h;refine⟨_,J,F,y,dN ρ,_,p.toD,r1,λkd z H2 w j o rw=>?_⟩;obtain⟨Z,rfl,j⟩:=j;obtain⟨a2,Vy,G,hl,j⟩:=ownT.get j;rw[h]at G;cases G;obtain⟨pk,rfl,u⟩:=rY rw;obtain⟨q2,ws2,L,P,I,Y⟩:=(p.gr o).dictT ((g.trans r).trans o) h;rw[J]at L;cases L;obtain⟨z1,z2⟩:=Y _ _ (Ia I Z (rv.same o.f))
  exact⟨q,_,rfl,DPut.t P (o.s _ _ u) (by rwa[←zq I]),k.nx _ z _ σ j.get z2 z1⟩⟩
end
end L2
namespace PySem.SeqAt
open AutoSeq1 (wpAny_loadPart')
open MeetsSeq MeetsSeq2 MeetsSeq3 SeqRoads2
end PySem.SeqAt
namespace L2
open PySem PySem.Spec PyProof.Rows
open Builtin Builtin.ObjectAttr
end L2
namespace L2
open PySem PySem.Spec PyProof.Rows
end L2
namespace L2
open PySem PySem.Spec PyProof.Rows
section
variable{K:Frag}{l H Φ:Hp}{g:St}{ρ:aq}{f:Nat->List Addr}{o o' w u:Om}{p q:Addr}{i j:Nat}{a a' b A:Option Addr}
def EnvM'.two(E:EnvM' K l Φ H g ρ f)(Uy:i≠j)(hi:ρ[i]?=some (some (.ob a o)))(hj:ρ[j]?=some (some (.ob a' o'))){U X:Addr}{N O:List Addr}(si:g[i]?=some (some (.ref U)))(sj:g[j]?=some (some (.ref X)))
  (ai:∀q,b=some q->q=U) (aj:∀q,A=some q->q=X) (Oi:OmS K Φ H w U N) (Oj:OmS K Φ H u X O) (sub:∀x,x∈N\/x∈O->x∈f i\/x∈f j) (R:∀x∈N,x∉O) :
  EnvM K l Φ H g ((ρ.set i (some (.ob b w))).set j (some (.ob A u))):=by
 have P:∀{m:Nat}{x:Sm},((ρ.set i (some (Sm.ob b w))).set j (some (Sm.ob A u)))[m]?=some (some x)->(m=j/\x=.ob A u)\/(m≠j/\m=i/\x=.ob b w)\/(m≠j/\m≠i/\ρ[m]?=some (some x)):=λ{m x} h=>by
  rcases cU h with⟨e,_,e1⟩|⟨e,h⟩
  ·cases e1;exact .inl ⟨e,rfl⟩
  ·rcases cU h with⟨e',_,e1⟩|⟨e',h⟩
   ·cases e1;exact .inr (.inl ⟨e,e',rfl⟩)
   ·exact .inr (.inr ⟨e,e',h⟩)
 have T:∀x,x∈N\/x∈O->∀(m:Nat)(c:Option Addr)(J:Om),ρ[m]?=some (some (.ob c J))->m≠i->m≠j->x∉f m:=λx I m c J S v B z=>by
  rcases sub x I with h|h
  ·exact E.dj m i c a J o S hi v x z h
  ·exact E.dj m j c a' J o' S hj B x z h
 have no:∀x,x∈N\/x∈O->l x=none/\Φ x=none:=λx I=>by
  rcases sub x I with h|h
  ·exact E.no i a o hi x h
  ·exact E.no j a' o' hj x h
 refine⟨λm=>if m=j then O else if m=i then N else f m,E.fz,by rw[JX,JX,E.len],λm d h=>?_,λm c J h=>?_,λm c J h x I=>?_,λm k c Z J Y S hk cc x I Rn=>?_,E.tb⟩
 ·rcases P h with⟨_,C⟩|⟨_,_,C⟩|⟨_,_,C⟩
  ·cases C
  ·cases C
  ·exact E.sl m d C
 ·rcases P h with⟨v,C⟩|⟨v,B,C⟩|⟨v,B,C⟩
  ·cases C;exact⟨X,by rwa[v],aj,by rwa[J9 v]⟩
  ·cases C;exact⟨U,by rwa[B],ai,by rwa[JZ v,J9 B]⟩
  ·obtain⟨p,e,ha,r⟩:=E.ow m c J C;exact⟨p,e,ha,by rwa[JZ v,JZ B]⟩
 ·rcases P h with⟨v,C⟩|⟨v,B,C⟩|⟨v,B,C⟩
  ·rw[J9 v]at I;exact no x (.inr I)
  ·rw[JZ v,J9 B]at I;exact no x (.inl I)
  ·rw[JZ v,JZ B]at I;exact E.no m c J C x I
 ·have M:x∈(if m=j then O else if m=i then N else f m):=I;have F:x∈(if k=j then O else if k=i then N else f k):=Rn;rcases P S with⟨v,Q⟩|⟨v,B,Q⟩|⟨v,B,Q⟩
  ·rw[J9 v]at M;rcases P hk with⟨y,L⟩|⟨y,G,L⟩|⟨y,G,L⟩
   ·exact cc (v.trans y.symm)
   ·rw[JZ y,J9 G]at F;exact R x F M
   ·rw[JZ y,JZ G]at F;exact T x (.inr M) k Z Y L G y F
  ·rw[JZ v,J9 B]at M;rcases P hk with⟨y,L⟩|⟨y,G,L⟩|⟨y,G,L⟩
   ·rw[J9 y]at F;exact R x M F
   ·exact cc (B.trans G.symm)
   ·rw[JZ y,JZ G]at F;exact T x (.inl M) k Z Y L G y F
  ·rw[JZ v,JZ B]at M;rcases P hk with⟨y,L⟩|⟨y,G,L⟩|⟨y,G,L⟩
   ·rw[J9 y]at F;exact T x (.inr F) m c J Q B v M
   ·rw[JZ y,J9 G]at F;exact T x (.inl F) m c J Q B v M
   ·rw[JZ y,JZ G]at F;exact E.dj m k c Z J Y Q L cc x M F
def Gm{ps:List (Addr×Option (List D))}{k:Nat}{x y:Option (List D)}(h:ps[k]?=some (q,x)):((ps.set k (q,y)).map λq=>V.ref q.1)=ps.map λq=>V.ref q.1:=by
 refine Lf λm=>?_;rw[J7,J7];by_cases c:k=m
 ·subst c;rw[Kj (aE h),h];rfl
 ·rw[Kh c]
def EnvM.opn{ps:List (Addr×Option (List D))}{k:Nat}{ds:List D}(E:EnvM K l Φ H g ρ)(C:i≠j)(r:ρ[i]?=some (some (.ob (some q) .ptr)))(v:ρ[j]?=some (some (.ob a' (.tl ps))))(y:ps[k]?=some (q,some ds)) :
  EnvM K l Φ H g ((ρ.set i (some (.ob (some q) (.lst ds)))).set j (some (.ob a' (.tl (ps.set k (q,none)))))):=by
 obtain⟨f,E⟩:=E;obtain⟨p,O,e,R⟩:=E.ow i _ _ r;have F:=e q rfl;subst F;obtain⟨t,P,B,N⟩:=E.ow j _ _ v;obtain⟨Q,G,I⟩:=N.tl_inv;obtain⟨S,F',J,L,M,z⟩:=G.out y;have nd:=z.nodup_iff.mp I;rw[Kp]at nd;refine E.two C r v O P e B (.lst J L) (.tl (by rwa[Gm y]) M nd.2) (λx c=>.inr (z.mem_iff.mpr ?_)) λx c=>?_
 ·rcases c with h|h
  ·rw[J5.mp h];exact J2
  ·exact J1 _ h
 ·rw[J5.mp c];exact nd.1
def EnvM.pnt(E:EnvM K l Φ H g ρ)(i:Nat)(p:Addr):EnvM K l Φ H (g.set i (some (.ref p))) (ρ.set i (some (.ob (some p) .ptr))):=by
 obtain⟨f,E⟩:=E
 have F:∀{m:Nat}{x:Sm},(ρ.set i (some (Sm.ob (some p) .ptr)))[m]?=some (some x)->(m=i/\i<ρ.length/\x=.ob (some p) .ptr)\/(m≠i/\ρ[m]?=some (some x)):=λ{m x} h=>by
  rcases cU h with⟨e,O,S⟩|⟨e,h⟩
  ·cases S;exact .inl ⟨e,O,rfl⟩
  ·exact .inr ⟨e,h⟩
 refine⟨λm=>if m=i then [] else f m,E.fz,by rw[JX,JX,E.len],λm d h=>?_,λm c G h=>?_,λm c G h x C=>?_,λm k c z G P U T R x C Q=>?_,E.tb⟩
 ·rcases F h with⟨_,_,h⟩|⟨c,h⟩
  ·cases h
  ·obtain⟨v,e,r⟩:=E.sl m d h;exact⟨v,by rwa[Kh (K5 c)],r⟩
 ·rcases F h with⟨y,O,B⟩|⟨z,B⟩
  ·cases B;exact⟨p,by rw[y];exact Kj (by rwa[E.len]),λq e=>by cases e;rfl,by rw[J9 y];exact .ptr⟩
  ·obtain⟨q,e,r⟩:=E.ow m c G B;exact⟨q,by rwa[Kh (K5 z)],by rwa[JZ z]⟩
 ·rcases F h with⟨y,_,B⟩|⟨z,B⟩
  ·rw[J9 y]at C;cases C
  ·rw[JZ z]at C;exact E.no m c G B x C
 ·have I:x∈(if m=i then [] else f m):=C;have J:x∈(if k=i then [] else f k):=Q;rcases F U with⟨y,_,N⟩|⟨y,N⟩
  ·rw[J9 y]at I;cases I
  rcases F T with⟨L,_,M⟩|⟨L,M⟩
  ·rw[J9 L]at J;cases J
  rw[JZ y]at I;rw[JZ L]at J;exact E.dj m k c z G P N M R x I J
end
section
variable{K:Frag}{X:Cx}{t:bF}{c e:Pos}
def B3(i:Nat)(tb:TX):TX:=λρ R g=>(∃a ds,ρ[i]?=some (some (.ob a (.lst ds))))/\tb ρ (xV λk f=>∃a ds n d,f[i]?=some (some (.ob a (.lst ds)))/\k=.int n/\cE ds n=some d/\R (.v d) f) g
def Dk{y:Str}{b:Expr}{tb:TX}(i:Nat)(T:X.N[i]?=some y)(L:PX K X b tb)(N:oK b)
  (P:cV X.env.scope y:=by nofun) (hd:ab y:=by decide) (A:ad y:=by decide) :
  PX K X (.Subscript (.Name y e) b c) (B3 i tb):=
 ⟨λl=>(sG (Cu l) (pv i T P hd A) (L.pe l) N).imp λσ H Q z=>by
  obtain⟨g,w,Φ,τ,ρ,κ,R,B,S,⟨⟨a,ds,J⟩,t⟩,k⟩:=z;obtain⟨fp,E⟩:=S.env;obtain⟨q,s,_,_⟩:=E.ow i _ _ J;refine⟨.ref q,s,g,w,Φ,τ,ρ,κ,_,B,S,t,λsm j h x v r f G=>?_⟩;obtain⟨kd,rfl,a1,Uw,n,d,C,rfl,F,r⟩:=r.get;have M:=f.last;obtain rfl:=M.i;obtain⟨I,p⟩:=f.env;obtain⟨q1,o,_,U⟩:=p.ow i _ _ C;rw[s]at o;cases o;obtain⟨_,ws,Z,w2⟩:=U.lst_inv;obtain⟨u,O,Y⟩:=oW w2 F
  exact⟨q,ws,n,u,rfl,rfl,SqL.of Z,O,k _ j h x u r ((f.pop S.lk).pushV Y) G⟩⟩
end
def Jr:Fl->Option D
 |.v d=>some d
 |.l xs=>some (.lst xs)
 |.al _=>none
def fb:List (Str×Fl)->Option (List (Str×D))
 | []=>some []
 |(f,x)::r=>match Jr x,fb r with
  |some d,some ds=>some ((f,d)::ds)
  |_,_=>none
def xp:Option Sm->Option Sl
 |some (.ob _ (.obj nm fs))=>(fb fs).map λds=>.v (.obj nm ds)
 |x=>qd x
abbrev eV(ρ:aq):bz:=ρ.map xp
def vK:HO->Bool
 |.lst _=>true
 |.dK _=>true
 |.dT _=>true
 |.ins _ _ _=>true
 |_=>false
def CN{u:HO}(h:ng u):vK u=true:=by cases u<;>first|rfl|exact h.elim
inductive NoL:D->Prop where
 |int (i:Int):NoL (.int i)
 |bl (b:Bool):NoL (.bl b)
 |str (x:Str):NoL (.str x)
 |non:NoL .non
 |tup {ds:List D}:(∀d∈ds,NoL d)->NoL (.tup ds)
def ei(Φ H:Hp)(A:List Addr):Hp:=λb=>match Φ b with
 |some u=>some u
 |none=>if b∈A then H b else none
def fX(Φ a:Hp):Hp:=λb=>match Φ b with
 |some u=>some u
 |none=>match a b with
  |some u=>if vK u then none else some u
  |none=>none
section
variable{K:Frag}{J H I Φ B:Hp}{G:St}{ρ:aq}{F:Nat->List Addr}{A:List Addr}{d:D}{v:V}{b:Addr}{u:HO}
def IC(h:Φ b=some u):ei Φ H A b=some u:=by unfold ei;rw[h]
def vU(a:b∈A)(h:H b=some u)(s:Same Φ H):ei Φ H A b=some u:=by
 unfold ei
 cases e:Φ b with
 |some w=>have:=s _ _ e;rw[h]at this;cases this;rfl
 |none=>simp only;rwa[J9 a]
def rL(h:ei Φ H A b=some u):Φ b=some u\/(b∈A/\H b=some u):=by
 unfold ei at h
 cases e:Φ b with
 |some w=>rw[e]at h;exact .inl h
 |none=>
  rw[e]at h;simp only at h;split at h
  ·next c=>exact .inr ⟨c,h⟩
  ·cases h
def view_same:Same Φ (ei Φ H A):=λ_ _ h=>IC h
def r6(s:Same Φ H):Same (ei Φ H A) H:=λb u h=>(rL h).elim (s b u) (·.2)
def yB(h:Φ b=some u):fX Φ B b=some u:=by unfold fX;rw[h]
def EB{vs:List V}(s:Same Φ B)(h:B b=some (.tup vs)):fX Φ B b=some (.tup vs):=by
 unfold fX
 cases e:Φ b with
 |some w=>have:=s _ _ e;rw[h]at this;cases this;rfl
 |none=>simp only;rw[h];rfl
def jC(s:Same Φ H)(g:Gr (ei Φ H A) H B I):Gr Φ H (fX Φ B) I:=by
 refine⟨λb u e=>yB e,g.h,λb u e=>?_,λp u j h k=>?_⟩
 ·unfold fX at e
  cases c:Φ b with
  |some w=>rw[c]at e;cases e;exact g.h _ _ (s _ _ c)
  |none=>
   rw[c]at e;simp only at e
   cases a:B b with
   |none=>rw[a]at e;cases e
   |some w=>
    rw[a]at e;simp only at e;split at e
    ·cases e
    ·cases e;exact g.s _ _ a
 ·unfold fX;rw[h];simp only
  cases a:B p with
  |none=>rfl
  |some w=>
   have f:=g.s _ _ a;rw[g.h _ _ j]at f;cases f;simp only;rw[J9 (CN k)]
def Rp.thawN(s:Same Φ B)(f:NoL d)(r:Rp K B d v):Rp K (fX Φ B) d v:=by
 induction f generalizing v with
 |int i=>obtain rfl:=r.i;exact .int i
 |bl b=>obtain rfl:=r.b;exact .bl b
 |str x=>obtain rfl:=r.s;exact .str x
 |non=>obtain rfl:=r.n;exact .non
 |tup _ h=>
  cases r with
  |tup a c e=>exact .tup (EB s a) c λi v d g hd=>h d (J0 hd) (e i v d g hd)
def oh:Option (Option Sm)->Bool
 |some (some (.ob _ (.obj _ _)))=>true
 |_=>false
def i8(F:Nat->List Addr)(ρ:aq):List Addr:=(List.range ρ.length).flatMap λi=>if oh (ρ[i]?) then F i else []
def CK{i:Nat}{a:Option Addr}{nm:Str}{fs:List (Str×Fl)}(h:ρ[i]?=some (some (.ob a (.obj nm fs))))(c:b∈F i):b∈i8 F ρ:=by unfold i8;refine MU.mpr ⟨i,Kt.mpr (aE h),?_⟩;rwa[h,J9 (show oh (some (some (Sm.ob a (Om.obj nm fs))))=true from rfl)]
def za(h:b∈i8 F ρ):∃i a nm fs,ρ[i]?=some (some (.ob a (.obj nm fs)))/\b∈F i:=by
 unfold i8 at h;obtain⟨i,_,h⟩:=MU.mp h;by_cases c:oh (ρ[i]?)=true
 ·rw[J9 c]at h;unfold oh at c;split at c
  ·next a nm fs e=>exact⟨i,a,nm,fs,e,h⟩
  ·cases c
 ·rw[JZ c]at h;cases h
def xI{fs:List (Str×Fl)}{ds:List (Str×D)}{vs:List (Str×V)}{E:List Addr}(a:fb fs=some ds)(h:FlsR K Φ H fs vs E)(C:Same Φ B)(x:∀b∈E,∀u,H b=some u->B b=some u) :
  vs.map (·.1)=ds.map (·.1)/\∀(i:Nat)(v:Str×V)(d:Str×D),vs[i]?=some v->ds[i]?=some d->Rp K B d.2 v.2:=by
 induction h generalizing ds with
 |nil=>cases a;exact⟨rfl,λi v d g=>by simp at g⟩
 |v r _ j=>
  rename_i f o Q c y z _;have a:(match some o,fb c with|some d,some ds=>some ((f,d)::ds)|_,_=>none)=some ds:=a
  cases e:fb c with
  |none=>rw[e]at a;cases a
  |some es=>
   rw[e]at a;cases a;obtain⟨p,w⟩:=j e x;refine⟨by rw[Kn,Kn,p],λi v d g hd=>?_⟩
   cases i with
   |zero=>cases g;cases hd;exact r.same C
   |succ i=>exact w i v d g hd
 |l p w _ j=>
  rename_i f o R P c y z _;have a:(match some (D.lst o),fb c with|some d,some ds=>some ((f,d)::ds)|_,_=>none)=some ds:=a
  cases e:fb c with
  |none=>rw[e]at a;cases a
  |some es=>
   rw[e]at a;cases a;obtain⟨M,N⟩:=j e λb L=>x b (J1 _ L);refine⟨by rw[Kn,Kn,M],λi v d g hd=>?_⟩
   cases i with
   |zero=>
    cases g;cases hd;have r:=w.same C;exact .lst (x _ J2 _ p) r.1 r.2
   |succ i=>exact N i v d g hd
 |al _ j=>
  rename_i f O c y z _;have a:(match (none:Option D),fb c with|some d,some ds=>some ((f,d)::ds)|_,_=>none)=some ds:=a;cases a
def EnvM'.view(E:EnvM' K J Φ H G ρ F):EnvD K J (ei Φ H (i8 F ρ)) H G (eV ρ):=by
 have R:Same Φ (ei Φ H (i8 F ρ)):=view_same
 have at_:∀{i:Nat}{x:Sl},(eV ρ)[i]?=some (some x)->∃y,ρ[i]?=some (some y)/\xp (some y)=some x:=λ{i x} h=>by
  rw[J7]at h
  cases e:ρ[i]? with
  |none=>rw[e]at h;cases h
  |some y=>
   rw[e]at h
   cases y with
   |none=>cases h
   |some y=>exact⟨y,rfl,Kv h⟩
 have ow:∀{i:Nat}{o:Ow},(eV ρ)[i]?=some (some (.ob o))->∃a f p u,ρ[i]?=some (some (.ob a f))/\(∀nm fs,f≠.obj nm fs)/\G[i]?=some (some (.ref p))/\p∈F i/\H p=some u/\OwR K Φ o u:=λ{i o} h=>by
  obtain⟨y,L,e⟩:=at_ h
  cases y with
  |v d=>cases e
  |ob a f=>
   obtain⟨p,M,_,r⟩:=E.ow i a f L;refine⟨a,f,p,?_⟩
   cases f with
   |lst ds=>obtain⟨_,vs,g,l⟩:=r.lst_inv;cases e;exact⟨_,L,(λ_ _ z=>by cases z),M,r.mem,g,l⟩
   |map Y=>obtain⟨_,vs,g,l⟩:=r.map_inv;cases e;exact⟨_,L,(λ_ _ z=>by cases z),M,r.mem,g,lz l⟩
   |mpT Y=>obtain⟨_,vs,g,l⟩:=r.mpT_inv;cases e;exact⟨_,L,(λ_ _ z=>by cases z),M,r.mem,g,lz l⟩
   |obj nm fs=>
    have e:(fb fs).map (λds=>Sl.v (.obj nm ds))=some (.ob o):=e
    cases O:fb fs with
    |none=>rw[O]at e;cases e
    |some ds=>rw[O]at e;cases e
   |ptr=>cases e
   |tl ps=>cases e
   |pr _ _=>cases e
 refine⟨r6 E.fz,by rw[JT,E.len],λi d h=>?_,λi o h=>?_,λi j o w p hi hj si sj=>?_,E.tb.same R⟩
 ·obtain⟨y,L,e⟩:=at_ h
  cases y with
  |v d'=>cases e;obtain⟨v,M,r⟩:=E.sl i d L;exact⟨v,M,r.same R⟩
  |ob a f=>
   cases f with
   |obj nm fs=>
    have e:(fb fs).map (λds=>Sl.v (.obj nm ds))=some (.v d):=e
    cases O:fb fs with
    |none=>rw[O]at e;cases e
    |some ds=>
     rw[O]at e;cases e;obtain⟨p,M,_,r⟩:=E.ow i a _ L;obtain⟨C,dx,vs,qs,X,c1,c2,c3,_⟩:=r.obj_inv;have U:∀b∈F i,∀u,H b=some u->ei Φ H (i8 F ρ) b=some u:=λb T u hu=>vU (CK L T) hu E.fz;obtain⟨N,P⟩:=xI O c3 R λb T=>U b (by rw[X];exact J1 _ T);exact⟨.ref p,M,.obj c1 (U p (by rw[X];exact J2) _ c2) N P⟩
   |_=>cases e
 ·obtain⟨a,f,p,u,g,Z,l,Q,h4,S⟩:=ow h;have n1:=E.no i a f g p Q;refine⟨p,u,l,n1.1,?_,h4,?_⟩
  ·cases e:ei Φ H (i8 F ρ) p with
   |none=>rfl
   |some w=>
    rcases rL e with z|⟨z,_⟩
    ·rw[n1.2]at z;cases z
    ·obtain⟨j,a',nm,fs,N,P⟩:=za z
     have Uy:i≠j:=λc=>by subst c;rw[g]at N;cases N;exact Z _ _ rfl
     exact absurd P (E.dj i j a a' f _ g N Uy p Q)
  ·cases o with
   |lst ds=>cases u with
    |lst vs=>exact RpL.same R S
    |_=>exact S.elim
   |_=>cases u<;>exact S
 ·obtain⟨a,f,p1,u,g,_,l,Q,_,_⟩:=ow hi;obtain⟨a',Qr,p2,u',N,_,P,k3,_,_⟩:=ow hj;rw[si]at l;cases l;rw[sj]at P;cases P;rcases Mj (i=j)with c|c
  ·exact c
  ·exact absurd k3 (E.dj i j a a' f Qr g N c p Q)
end
section
variable{K:Frag}{X:Cx}{e:Expr}
def EF(t:TD):TX:=λρ R _=>t (eV ρ) λd=>NoL d/\R (.v d) ρ
def cG{t:TD}(h:PD K X e t):PX K X e (EF t):=⟨λj=>(h.pe j).imp λy H Q f=>by
 obtain⟨o,a,Φ,z,ρ,x,R,u,S,t,k⟩:=f;obtain⟨w,E⟩:=S.env;refine⟨a,_,eV ρ,_,E.view,t,λd p c v r g l=>?_⟩;have g':=jC E.fz g
 exact k _ ρ _ c v r.2 ((S.gr g').pushV (l.thawN (view_same.trans g.f) r.1)) g'.f⟩
def sF(t:aR):TX:=λρ R _=>t (eV ρ) λds=>(∀d∈ds,NoL d)/\R (.own ds) ρ
def xx{t:aR}(h:PF K X e t):PX K X e (sF t):=⟨λy=>(h.pe y).imp λL H Q o=>by
 obtain⟨F,j,Φ,M,ρ,J,R,G,S,t,k⟩:=o;obtain⟨I,E⟩:=S.env;refine⟨j,_,eV ρ,_,E.view,t,λds c l p vs r g B a A rl=>?_⟩;have g':=jC E.fz g;have f:=view_same.trans g.f
 have u:fX Φ c p=none:=by
  unfold fX
  cases x:Φ p with
  |some w=>rw[f _ _ x]at a;cases a
  |none=>simp only;rw[a]
 refine k _ ρ _ l _ r.2 (S.pushO g' (.lst A ⟨rl.1,λi v d C hd=>(rl.2 i v d C hd).thawN f (r.1 d (J0 hd))⟩) λb z=>by rw[J5.mp z];exact⟨B,u⟩) g'.f⟩
end
def da(f:Str)(x:Fl):List (Str×Fl)->List (Str×Fl)
 | []=>[(f,x)]
 |(g,y)::r=>if g=f then (g,x)::r else (g,y)::da f x r
section
variable{K:Frag}{Φ H a:Hp}{fs:List (Str×Fl)}{vs:List (Str×V)}{o:List Addr}{f:Str}{ds es:List D}{j:List V}{d:D}{v:V}
def FlsR.look(h:FlsR K Φ H fs vs o)(nd:o.Nodup)(p:fs.lookup f=some (.l ds)):∃q j,vs.lookup f=some (.ref q)/\q∈o/\H q=some (.lst j)/\RpL K Φ ds j /\
  ∀(a:Hp)(es:List D)(w:List V),(∀b∈o,b≠q->∀u,H b=some u->a b=some u)->a q=some (.lst w)->RpL K Φ es w->FlsR K Φ a (da f (.l es) fs) vs o:=by
 induction h with
 |nil=>cases p
 |v r t G=>
  rename_i g P T J L M;rw[Kq]at p
  cases c:f==g with
  |true=>rw[c]at p;cases p
  |false=>
   rw[c]at p;obtain⟨q,j,N,B,C,E,F⟩:=G nd p;refine⟨q,j,by rwa[Kq,c],B,C,E,λa es w x y A=>?_⟩;show FlsR K Φ a (if g=f then _ else _) _ _;rw[JZ λe=>by rw[e,KC]at c;cases c];exact .v r (F a es w x y A)
 |l a1 a2 t G=>
  rename_i g P R O J L M;rw[Kp]at nd;rw[Kq]at p
  cases c:f==g with
  |true=>
   rw[c]at p;cases p;refine⟨O,R,by rw[Kq,c],J2,a1,a2,λa es w x y A=>?_⟩;show FlsR K Φ a (if g=f then _ else _) _ _;rw[J9 (eq_of_beq c).symm];exact .l y A (t.keep (Same.refl _) λb I u Q=>x b (J1 _ I) (λz=>nd.1 (z▸I)) u Q)
  |false=>
   rw[c]at p;obtain⟨q,j,N,B,C,E,F⟩:=G nd.2 p;refine⟨q,j,by rwa[Kq,c],J1 _ B,C,E,λa es w x y A=>?_⟩;show FlsR K Φ a (if g=f then _ else _) _ _;rw[JZ λe=>by rw[e,KC]at c;cases c];exact .l (x O J2 (λz=>nd.1 (z▸B)) _ a1) a2 (F a es w (λb I=>x b (J1 _ I)) y A)
 |al t G=>
  rename_i g S J L M;rw[Kq]at p
  cases c:f==g with
  |true=>rw[c]at p;cases p
  |false=>
   rw[c]at p;obtain⟨q,j,N,B,C,E,F⟩:=G nd p;refine⟨q,j,by rwa[Kq,c],B,C,E,λa es w x y A=>?_⟩;show FlsR K Φ a (if g=f then _ else _) _ _;rw[JZ λe=>by rw[e,KC]at c;cases c];exact .al (F a es w x y A)
def jg(f:Str)(fs:List (Str×Fl)):Bool:=match fs.lookup f with
 |none=>true
 |some (.v _)=>true
 |_=>false
def FlsR.setV(h:FlsR K Φ H fs vs o)(e:jg f fs=true)(r:Rp K Φ d v):FlsR K Φ H (da f (.v d) fs) (cM f v vs) o:=by
 induction h with
 |nil=>exact .v r .nil
 |v A t p=>
  rename_i g y E u w x;show FlsR K Φ H (if g=f then _ else _) (if g=f then _ else _) _;by_cases c:g=f
  ·rw[J9 c,J9 c];exact .v r t
  ·rw[JZ c,JZ c];refine .v A (p ?_);unfold jg at e ⊢;rw[Kq,show (f==g)=false from M9 λz=>c z.symm]at e;exact e
 |l a1 a2 t p=>
  rename_i g y F C u w x;show FlsR K Φ H (if g=f then _ else _) (if g=f then _ else _) _;by_cases c:g=f
  ·subst c;unfold jg at e;rw[Kq,KC]at e;cases e
  ·rw[JZ c,JZ c];refine .l a1 a2 (p ?_);unfold jg at e ⊢;rw[Kq,show (f==g)=false from M9 λz=>c z.symm]at e;exact e
 |al t p=>
  rename_i g B u w x;show FlsR K Φ H (if g=f then _ else _) (if g=f then _ else _) _;by_cases c:g=f
  ·subst c;unfold jg at e;rw[Kq,KC]at e;cases e
  ·rw[JZ c,JZ c];refine .al (p ?_);unfold jg at e ⊢;rw[Kq,show (f==g)=false from M9 λz=>c z.symm]at e;exact e
def FlsR.setL{q:Addr}(h:FlsR K Φ H fs vs o)(u:fs.lookup f=none)(E:H q=some (.lst j))(r:RpL K Φ ds j):FlsR K Φ H (da f (.l ds) fs) (cM f (.ref q) vs) (o++[q]):=by
 have p:∀{g:Str}{y:Fl}{r:List (Str×Fl)},List.lookup f ((g,y)::r)=none->g≠f/\r.lookup f=none:=λ{g y r} e=>by
  rw[Kq]at e
  cases c:f==g with
  |true=>rw[c]at e;cases e
  |false=>rw[c]at e;exact⟨(λz=>by rw[z,KC]at c;cases c),e⟩
 induction h with
 |nil=>exact .l E r .nil
 |v F t w=>
  rename_i g C J x A B;obtain⟨c,u⟩:=p u;show FlsR K Φ H (if g=f then _ else _) (if g=f then _ else _) _;rw[JZ c,JZ c];exact .v F (w u)
 |l a1 a2 t w=>
  rename_i g C L I x A B;obtain⟨c,u⟩:=p u;show FlsR K Φ H (if g=f then _ else _) (if g=f then _ else _) _;rw[JZ c,JZ c];exact .l a1 a2 (w u)
 |al t w=>
  rename_i g G x A B;obtain⟨c,u⟩:=p u;show FlsR K Φ H (if g=f then _ else _) (if g=f then _ else _) _;rw[JZ c,JZ c];exact .al (w u)
def FlsR.len(h:FlsR K Φ H fs vs o):vs.length=fs.length:=by have:=KO List.length h.names;rwa [JT,JT]at this
end
section
variable{K:Frag}{X:Cx}{c h Φ H:Hp}{j l:St}{ρ o:aq}{w:XD->aq->Prop}{a:Option Addr}{nm f:Str}{fs:List (Str×Fl)}{ds:List D}{i:Nat}{C:Addr}
def EnvM.flist(E:EnvM K h Φ H j ρ)(g:Gr c h Φ H)(M:nsIn K mainGlobals nm=some (some (.ref C)))(A:ρ[i]?=some (some (.ob a (.obj nm fs))))(T:fs.lookup f=some (.l ds)):∃p y vs q x,j[i]?=some (some (.ref p))/\H p=some (.ins C y vs)/\vs.lookup f=some (.ref q)/\H q=some (.lst x)/\RpL K Φ ds x /\
  ∀(es:List D)(v:List V),RpL K Φ es v->EnvM K h Φ (au H q (.lst v)) j (ρ.set i (some (.ob a (.obj nm (da f (.l es) fs)))))/\Gr c h Φ (au H q (.lst v)):=by
 obtain⟨L,E⟩:=E;obtain⟨p,e,_,r⟩:=E.ow i a _ A;obtain⟨C',y,vs,qs,J,G,I,R,nd⟩:=r.obj_inv;rw[M]at G;cases G;rw[Kp]at nd;obtain⟨q,x,Y,O,Z,l4,l5⟩:=R.look nd.2 T
 have F:q∈L i:=by rw[J];exact J1 _ O
 have B:p≠q:=λz=>nd.1 (z▸O);refine⟨p,y,vs,q,x,e,I,Y,Z,l4,λes v P=>?_⟩
 have N:∀b u,H b=some u->b∉L i->au H q (.lst v) b=some u:=λb u e U=>by
  rwa[ba λz=>U (by rw[z];exact F)]
 refine⟨⟨_,E.put A e N (F':=p::qs) (.obj M ((ba B).trans I) (l5 _ es v (λb S Q u hu=>by rwa[ba Q]) br P) (Kp.mpr nd)) λb S=>.inl (by rwa[J])⟩,E.grput g A N⟩
def StM.flist(S:StM K X c h Φ H j l ρ o w)(G:nsIn K mainGlobals nm=some (some (.ref C)))(J:ρ[i]?=some (some (.ob a (.obj nm fs))))(I:fs.lookup f=some (.l ds)):∃p v vs q u,j[i]?=some (some (.ref p))/\H p=some (.ins C v vs)/\vs.lookup f=some (.ref q)/\H q=some (.lst u)/\RpL K Φ ds u /\
  ∀(es:List D)(g:List V),RpL K Φ es g->StM K X c h Φ (au H q (.lst g)) j l (ρ.set i (some (.ob a (.obj nm (da f (.l es) fs))))) o w:=by
 have x:=aE J;obtain⟨p,v,vs,q,u,e,z,A,B,E,F⟩:=S.E.flist (i:=i) S.g G (by rwa[JV x]) I;rw[JV (by rwa[←S.l])]at e;refine⟨p,v,vs,q,u,e,z,A,B,E,λes g r=>?_⟩;obtain⟨y,L⟩:=F es g r;refine⟨L,by rw[JX];exact S.l,?_,S.x⟩;rw[LI _ _ x]at y;exact y
def EnvM.fsetV{d:D}{v:V}(E:EnvM K h Φ H j ρ)(g:Gr c h Φ H)(J:nsIn K mainGlobals nm=some (some (.ref C)))(y:ρ[i]?=some (some (.ob a (.obj nm fs))))(P:jg f fs=true)(r:Rp K Φ d v):∃p x vs,j[i]?=some (some (.ref p))/\H p=some (.ins C x vs)/\vs.length=fs.length /\
  EnvM K h Φ (au H p (.ins C x (cM f v vs))) j (ρ.set i (some (.ob a (.obj nm (da f (.v d) fs)))))/\Gr c h Φ (au H p (.ins C x (cM f v vs))):=by
 obtain⟨I,E⟩:=E;obtain⟨p,e,_,S⟩:=E.ow i a _ y;obtain⟨T,x,vs,R,G,B,O,F,nd⟩:=S.obj_inv;rw[J]at B;cases B
 have N:p∈I i:=by rw[G];exact J2
 have L:∀b u,H b=some u->b∉I i->au H p (.ins C x (cM f v vs)) b=some u:=λb u e Q=>by
  rwa[ba λz=>Q (by rw[z];exact N)]
 have A:=nd;rw[Kp]at A;refine⟨p,x,vs,e,O,F.len,⟨_,E.put y e L (F':=p::R) (.obj J br ((F.setV P r).keep (Same.refl _) λb M u U=>by rwa[ba (show b≠p from λz=>A.1 (by rw[←z];exact M))]) nd) λb M=>.inl (by rwa[G])⟩,E.grput g y L⟩
end
def oJ(ρ:aq)(i:Nat)(nm f:Str)(k:Option Addr->List (Str×Fl)->List D->Prop):Prop:=∃a fs ds,ρ[i]?=some (some (.ob a (.obj nm fs)))/\fs.lookup f=some (.l ds)/\k a fs ds
section
variable{K:Frag}{X:Cx}{e a b:Expr}{z:TX}{t tb:TD}{u h o y l A:Pos}{x nm f:Str}{C:Addr}
def EJ(i:Nat)(nm f:Str)(t:TD):bF:=λc ρ=>oJ ρ i nm f λa fs ds=>t (eV ρ) λd=>NoL d/\ds.length<sizeLine/\NF (da f (.l (ds++[d])) fs) λg=>c.nx (ρ.set i (some (.ob a (.obj nm g))))
def rV(i:Nat)(c:Cls K C)(nA:NoAttr K C f)(O:nsIn K mainGlobals nm=some (some (.ref C)))(he:PD K X e t)(OX:((backTo y (starEach [e] X.env)).all (λx=>!x.1)&&(backToKw y (keywordEach [] X.env)).all (λx=>x.1.isSome)&&decide (([e]:List Expr).length+([]:List Keyword).length+(if ([]:List Keyword).isEmpty then 0 else 1)<30))=true)
  (w:starEach [e] X.env=(false,eval e X.env)::starEach [] X.env) (hN:X.N[i]?=some x:=by rfl) (hv:cV X.env.scope x:=by nofun) (hd:ab x:=by decide) (Ot:ad x:=by decide)
  (Sw:attributeBase (.Name x h) f X.env (eval (.Name x h) X.env)=eval (.Name x h) X.env:=by rfl)
  (U:attributeBase (.Attribute (.Name x h) f l) "append" X.env (eval (.Attribute (.Name x h) f l) X.env)=eval (.Attribute (.Name x h) f l) X.env:=by rfl) (Y:(o.endLine==y.line)=true:=by rfl) (hs:swapsWith (.Call (.Attribute (.Attribute (.Name x h) f l) "append" o) [e] [] y) none u.line X.env=pure false:=by rfl) :
  PSM K X (.Expr (.Call (.Attribute (.Attribute (.Name x h) f l) "append" o) [e] [] y) u) (EJ i nm f t):=
 ⟨λP=>(jL (jR Lz MB MC pM (lK P (pv i hN hv hd Ot) Sw) (eZ (he.pe P) pa_nil w) U OX Y w ag) hs).imp λE σ H Oa=>by
  obtain⟨Φ0,T,Φ,ρ,De,g,V,⟨a0,O7,Vz,R,Q,t⟩,k⟩:=Oa;have S:=dJ g V k.ex;obtain⟨p,dx,vs,q,ws,L,M,N,h3,rl,_⟩:=S.flist O R Q;obtain⟨fp,E0⟩:=id V;refine⟨_,L,p,C,dx,vs,.ref q,rfl,M,c,nA,N,.inl ⟨rfl,ws,SqL.of h3⟩,T,_,eV ρ,_,E0.view,t,λd Φ1 H1 v r j rv=>?_⟩;have S1:=S.gr (jC E0.fz j);obtain⟨p',VA,VB,q',Z,B,F,G,Rz,I,k1⟩:=S1.flist O R Q;rw[L]at B;cases B;rw[j.h _ _ M]at F;cases F;rw[N]at G;cases G;have J:=k1 _ _ (I.append (.one (rv.thawN (view_same.trans j.f) r.1)))
  exact⟨q,Z,v,rfl,rfl,Rz,by rw[I.1];exact r.2.1,k.nx _ _ _ σ r.2.2.get J.g J.env⟩⟩
def zZ(i:Nat)(nm f:Str)(t:TD):TX:=λρ R _=>oJ ρ i nm f λa fs ds=>t (eV ρ) λn=>∃(j:Nat)(d:D),n=.int (j:Int)/\j<2^62/\ds[j]?=some d/\NF (da f (.l (ds.eraseIdx j)) fs) λc=>R (.v d) (ρ.set i (some (.ob a (.obj nm c))))
def xu(i:Nat)(c:Cls K C)(nA:NoAttr K C f)(O:nsIn K mainGlobals nm=some (some (.ref C)))(he:PD K X e t)(OX:((backTo y (starEach [e] X.env)).all (λx=>!x.1)&&(backToKw y (keywordEach [] X.env)).all (λx=>x.1.isSome)&&decide (([e]:List Expr).length+([]:List Keyword).length+(if ([]:List Keyword).isEmpty then 0 else 1)<30))=true)
  (B:starEach [e] X.env=(false,eval e X.env)::starEach [] X.env) (hN:X.N[i]?=some x:=by rfl) (g:cV X.env.scope x:=by nofun) (hd:ab x:=by decide) (Ot:ad x:=by decide)
  (Sw:attributeBase (.Name x h) f X.env (eval (.Name x h) X.env)=eval (.Name x h) X.env:=by rfl)
  (Z:attributeBase (.Attribute (.Name x h) f l) "pop" X.env (eval (.Attribute (.Name x h) f l) X.env)=eval (.Attribute (.Name x h) f l) X.env:=by rfl) (OG:(o.endLine==y.line)=true:=by rfl):PX K X (.Call (.Attribute (.Attribute (.Name x h) f l) "pop" o) [e] [] y) (zZ i nm f t):=
 ⟨λP=>(jR Lz PySem.F.slot_list_pop PySem.F.type_list_pop yO (lK P (pv i hN g hd Ot) Sw) (eZ (he.pe P) pa_nil B) Z OX OG B ag).imp λσ H Q Oa=>by
  obtain⟨Φ0,Y,Φ,τ,ρ,κ,R,Rx,S,⟨a0,O7,Vz,U,T,t⟩,k⟩:=Oa;obtain⟨p,dx,vs,q,ws,J,M,N,h3,rl,_⟩:=S.flist O U T;obtain⟨fp,E0⟩:=S.env;refine⟨_,J,p,C,dx,vs,.ref q,rfl,M,c,nA,N,.inl ⟨rfl,ws,SqL.of h3⟩,Y,_,eV ρ,_,E0.view,t,λn Φ1 H1 v r L w=>?_⟩;obtain⟨j,d,rfl,h62,hj,r⟩:=r;obtain rfl:=w.i;have g':=jC E0.fz L;have S1:=S.gr g';obtain⟨p',VA,VB,q',OL,E,F,G,Rz,I,k1⟩:=S1.flist O U T;rw[J]at E;cases E;rw[L.h _ _ M]at F;cases F;rw[N]at G;cases G;obtain⟨v,g,w⟩:=I.at hj;have S2:=k1 _ _ (I.eraseIdx j)
  exact⟨q,OL,_,j,v,rfl,rfl,Rz,by omega,by omega,CP (aE g),g,k _ _ _ _ v r.get (S2.pushV w) g'.f⟩⟩
def Fo(i:Nat)(nm f:Str)(z:TX)(tb:TD):bF:=λg ρ=>z ρ (xV λd c=>oJ c i nm f λa fs ds=>tb (eV c) λr=>∃n j,r=.int n/\fL ds.length n=some j/\NF (da f (.l (ds.set j d)) fs) λp=>g.nx (c.set i (some (.ob a (.obj nm p))))) g.ex
def i7(i:Nat)(c:Cls K C)(nA:NoAttr K C f)(Z:nsIn K mainGlobals nm=some (some (.ref C)))(he:PX K X e z)(hk:PD K X b tb)(hN:X.N[i]?=some x:=by rfl)(hv:cV X.env.scope x:=by nofun)(hd:ab x:=by decide)(Ot:ad x:=by decide)
  (Sw:attributeBase (.Name x h) f X.env (eval (.Name x h) X.env)=eval (.Name x h) X.env:=by rfl)
  (ha:∀v,assign (.Subscript (.Attribute (.Name x h) f l) b A) X.env v=(do
   let ov ←holding [v] (eval (.Attribute (.Name x h) f l) X.env)
   let iv ←holding [v,ov] (eval b X.env)
   standAt A
   holding [v,ov,iv] (setItem ov iv v)
   release [v,ov,iv] []):=by intro _;rfl)
  (hs:swapsWithSole [.Subscript (.Attribute (.Name x h) f l) b A] e u.line X.env=pure false:=by rfl) (hw:swappedStores [.Subscript (.Attribute (.Name x h) f l) b A] e X.env=pure none:=by rfl)
  (F:(assignEach [.Subscript (.Attribute (.Name x h) f l) b A] X.env).map (·.2)=[assign (.Subscript (.Attribute (.Name x h) f l) b A) X.env]:=by rfl) :
  PSM K X (.Assign [.Subscript (.Attribute (.Name x h) f l) b A] e u) (Fo i nm f z tb):=
 ⟨λG=>(nr (he.pe G) (vW (lK G (pv i hN hv hd Ot) Sw) (hk.pe G) sy ha) hs hw F).imp λE σ H Oa=>by
  obtain⟨L,N,Φ,ρ,De,g,V,t,k⟩:=Oa;refine⟨L,N,Φ,[],ρ,[],_,De.ex,dJ g V k.ex,t,λs M Φ1 H1 v r B _=>?_⟩;obtain⟨d,rfl,a0,O7,Vz,ho,hf,r⟩:=r.get;have rv:=B.last;obtain⟨p,dx,vs,q,ws,T,F,Y,h3,rl,_⟩:=B.flist Z ho hf;obtain⟨fp,E0⟩:=B.env;refine⟨_,T,p,C,dx,vs,.ref q,rfl,F,c,nA,Y,N,_,eV M,_,E0.view,r,λn Φ2 H2 w I U J=>?_⟩;obtain⟨n,j,rfl,hj,I⟩:=I;obtain rfl:=J.i;have g':=jC E0.fz U;have S2:=B.gr g';obtain⟨p',VA,VB,q',OL,O,P,Q,Rz,R,k1⟩:=S2.flist Z ho hf;rw[T]at O;cases O;rw[U.h _ _ F]at P;cases P;rw[Y]at Q;cases Q;have S:=k1 _ _ (R.set (rv.same g'.f) j)
  exact⟨q,OL,n,j,rfl,rfl,Rz,by rwa[R.1],k.nx _ _ _ σ I.get S.g S.env⟩⟩
def DP(i:Nat)(nm f:Str)(z:TX):bF:=λg ρ=>z ρ (xV λd c=>∃a fs,c[i]?=some (some (.ob a (.obj nm fs)))/\jg f fs=true/\fs.length<1000/\NF (da f (.v d) fs) λj=>g.nx (c.set i (some (.ob a (.obj nm j))))) g.ex
def ft(i:Nat)(c:Cls K C)(nA:NoAttr K C f)(R:nsIn K mainGlobals nm=some (some (.ref C)))(U:PX K X e z)(S:X.N[i]?=some x:=by rfl)(hv:cV X.env.scope x:=by nofun)(hd:ab x:=by decide)(M:ad x:=by decide)
  (Z:swapsWith e (some (.Attribute (.Name x h) f l)) u.line X.env=pure false:=by rfl):PSM K X (.Assign [.Attribute (.Name x h) f l] e u) (DP i nm f z):=
 ⟨λw=>(sI (f:=f) (pv i S hv hd M) (U.pe w) Z).imp λE σ H L=>by
  obtain⟨B,J,Φ,ρ,G,g,V,t,k⟩:=L;refine⟨B,J,Φ,[],ρ,[],_,G.ex,dJ g V k.ex,t,λs ρ1 F H1 v r j _=>?_⟩;obtain⟨d,rfl,a0,O7,Y,T,hl,r⟩:=r.get;obtain⟨p,N,vs,O,P,Q,I,g'⟩:=j.env.fsetV (f:=f) j.g R Y T j.last
  exact⟨_,O,p,C,N,vs,rfl,P,w▸c,w▸nA,by rwa[Q],k.nx _ F _ σ r.get g' I⟩⟩
end
def FlsR.lookN{K:Frag}{Φ H:Hp}{fs:List (Str×Fl)}{vs:List (Str×V)}{u:List Addr}{f:Str}(h:FlsR K Φ H fs vs u)(j:fs.lookup f=none):vs.lookup f=none:=by
 have a:∀{p:Type}{g:Str}{y:p}{r:List (Str×p)},List.lookup f ((g,y)::r)=none->(f==g)=false/\r.lookup f=none:=λ{p g y r} e=>by
  rw[Kq]at e
  cases c:f==g with
  |true=>rw[c]at e;cases e
  |false=>rw[c]at e;exact⟨rfl,e⟩
 induction h with
 |nil=>rfl
 |v r t o=>obtain⟨c,j⟩:=a j;rw[Kq,c];exact o j
 |l a1 a2 t o=>obtain⟨c,j⟩:=a j;rw[Kq,c];exact o j
 |al t o=>obtain⟨c,j⟩:=a j;rw[Kq,c];exact o j
structure MthM(P:Program)(w:World)(K:Frag)(mg:Str->Option Value)(base:Heap)(n:Nat)(C:Addr)(m:Str)(ps:List Str)(z:en):Prop where
 ex:∃(f:Addr)(fd:FuncData),FnOk P w K mg base aI n f fd ps (lSpM K z)/\Binds K fd ps []/\Meth K C m f
structure MkM(P:Program)(w:World)(K:Frag)(mg:Str->Option Value)(base:Heap)(n:Nat)(C:Addr)(ps:List Str)(z:en):Prop where
 ex:∃(f:Addr)(fd:FuncData),FnOk P w K mg base aI n f fd ps (lSpM K z)/\Binds K fd ps []/\Mk K C f
section
variable{K:Frag}{X:Cx}{e:Expr}{es:List Expr}{g p j w:Pos}{l:dk}{C:Addr}{nm m x:Str}
def DH(i:Nat)(nm m:Str)(z:en)(l:dk):TX:=λρ R f=>(∃a fs,ρ[i]?=some (some (.ob a (.obj nm fs)))/\fs.lookup m=none)/\l ρ (λas c=>CallM z R f (.s i::as) c) f
def eX(i:Nat){n:Nat}{ps:List Str}{z:en}{pl:Sem Bool}(M:MthM X.prog X.w K X.mg X.base n C m ps z)(hr:Room n X.A)(c:Cls K C)(hC:nsIn K mainGlobals nm=some (some (.ref C)))
  (ha:PXA K X (e::es) l) (he:starEach (e::es) X.env=(false,eval e X.env)::starEach es X.env) (Z:(backTo g (starEach es X.env)).any (·.1)=false)
  (ht:eval (.Call (.Attribute (.Name x w) m j) (e::es) [] g) X.env=(do
   let ov ←eval (.Name x w) X.env
   standAt j.atName
   let (f,first) ←holding [ov] (getMethod ov m pl)
   callWith g f first (backTo g (starEach (e::es) X.env)) (backToKw g (keywordEach [] X.env))):=by rfl)
  (hN:X.N[i]?=some x:=by rfl) (A:cV X.env.scope x:=by nofun) (hd:ab x:=by decide) (Ot:ad x:=by decide) :
  PX K X (.Call (.Attribute (.Name x w) m j) (e::es) [] g) (DH i nm m z l):=⟨λh=>by
 obtain⟨f,fd,F,b,hm⟩:=M.ex;refine (uB (dvs:=[]) (ds:=[]) (E:=E0) (pl:=pl) (pv i hN A hd Ot) (h▸c) (h▸hm) (h▸F:FnOk X.prog X.w X.K X.mg X.base aI n f fd ps (lSpM K z)) hr (h▸b) .nil ku (ha.pa h) he Z ht).imp λσ H Q Oa=>?_;obtain⟨G,T,Φ,τ,ρ,κ,R,Rx,S,⟨⟨a,fs,y,O⟩,t⟩,k⟩:=Oa;obtain⟨fp,E⟩:=S.env;obtain⟨q,N,_,ro⟩:=E.ow i a _ y;obtain⟨C',dx,vs,qs,eF,L,c2,c3,nd⟩:=ro.obj_inv;rw[hC]at L;cases L;refine⟨_,N,q,dx,vs,rfl,c2,c3.lookN O,G,T,Φ,τ,ρ,κ,_,Rx,S,t,λas ρ1 I H1 us ts B O A u f1=>?_⟩;obtain⟨Y,QX,Qm,B⟩:=B;obtain⟨P,g1,g2,g3,g4⟩:=u.lend (as:=.s i::as) S.lk QX (.s N A) Qm;rw[Kz]
 exact⟨I,Y,P,_,_,u.g.s,u.E.tb,g1,g2,g3,B,λsm os o J v F OP r gr U y hn Pp=>k sm _ o J v r (g4 sm os o J v F OP gr U y hn Pp) (f1.trans gr.f)⟩⟩
def y8(nm:Str)(z:en)(l:dk):TX:=λρ R c=>l ρ (xaD λds a=>z (.ob none (.obj nm [])::ds.map Sm.v) (λsm os=>match sm,os with|.v .non,[o]=>R (.ob none o) a|_,_=>False) (λ_ _=>False)) c
def wD{Φ H:Hp}:∀{ds:List D}{vs:List V},RpL K Φ ds vs->ArgM K Φ H (ds.map Sm.v) vs (ds.map λ_=>[])
 | [],[],_=>.nil
 | [],_::_,h=>by cases h.1
 |_::_,[],h=>by cases h.1
 |d::ds,v::vs,h=>.v (h.2 0 v d rfl rfl) (wD ⟨by have:=h.1;simpa using this,λi c d' a hd=>h.2 (i+1) c d' a hd⟩)
def uf{Φ H:Hp}:∀{ds:List D}{vs:List V}{os:List Om}{a:List (List Addr)},OutM K Φ H (ds.map Sm.v) vs os a->os=[]/\a.flatten=[]
 | [],_,_,_,.nil=>⟨rfl,rfl⟩
 |_::ds,_,_,_,.v h=>by obtain⟨c,f⟩:=uf (ds:=ds) h;exact⟨c,by rw[KN,f];rfl⟩
def oS{a c:Type}:∀(ds:List a),(ds.map λ_=>([]:List c)).flatten=[]
 | []=>rfl
 |_::ds=>by rw[Kn,KN,oS ds];rfl
def uY{n:Nat}{ps:List Str}{z:en}(M:MkM X.prog X.w K X.mg X.base n C ps z)(hr:Room (n+1) X.A)(hg:Gl X x)(hm:X.mg x=some (.ref C))(hC:nsIn K mainGlobals x=some (some (.ref C)))
  (ha:PXA K X (e::es) l) (he:starEach (e::es) X.env=(false,eval e X.env)::starEach es X.env) (OO:(backTo g (starEach es X.env)).any (·.1)=false) (PH:ab x:=by decide) :
  PX K X (.Call (.Name x p) (e::es) [] g) (y8 x z l):=⟨λJ=>by
 obtain⟨f,fd,F,b,mk⟩:=M.ex;refine (GN (dvs:=[]) (ds:=[]) (E:=E0) (J▸mk) (J▸F:FnOk X.prog X.w X.K X.mg X.base aI n f fd ps (lSpM K z)) hr hg hm (J▸b) .nil ku (ha.pa J) PH he OO).imp λσ H Q Oa=>?_;obtain⟨U,H0,Φ,τ,ρ,κ,R,Rx,S,t,k⟩:=Oa;refine⟨U,H0,Φ,τ,ρ,κ,_,Rx,S,t,λas Y I a vs ts T hl hv h f1=>?_⟩;obtain⟨ds,hd,T⟩:=T.get;have rl:=h.vals S.lk hd hv;intro y A P N OH;rw[Kz]
 have B:∀b u,a b=some u->au (au a A (.own y)) y (.ins C A []) b=some u:=λb u e=>by rwa[ba (dc e P),ba (dc e N)]
 refine⟨I,_,_,_,_,λb u e=>B b u (h.g.s b u e),h.E.tb,.o (.obj hC br .nil (by simp)) (wD rl),?_,λb L=>?_,T,λsm os G Z v F OP r gr OE ho hn Pp=>?_⟩
 ·rw[KN,oS];simp
 ·rw[KN,oS,Kz,J5]at L;rw[L];exact h.g.s.free P
 ·split at r
  ·next o=>
   cases OE with
   |v rv=>
    obtain rfl:=rv.n
    cases ho with
    |o QY Ph=>
     rename_i F' OP;obtain⟨_,eF⟩:=uf Ph
     have O:(([y]:List Addr)::ds.map λ_=>([]:List Addr)).flatten=[y]:=by rw[KN,oS];rfl
     rw[O]at gr Pp
     have up:∀b u,a b=some u->cf (au (au a A (.own y)) y (.ins C A [])) [y] b=some u:=λb u e=>by rw[ij λz=>dc e P (J5.mp z)];exact B b u e
     have g':Gr I a G Z:=⟨gr.f,λb u e=>gr.h b u (up b u e),gr.s,λb u h1 h2 k=>gr.o b u (up b u h1) h2 k⟩;refine⟨rfl,k _ Y G Z _ r ((h.pop S.lk).pushO g' QY λb L=>?_) (f1.trans gr.f)⟩;obtain⟨z1,z2⟩:=Pp b (by rw[Ms,KN];exact Ks.mpr (.inl L));refine⟨?_,z2⟩;by_cases c:b=y
     ·rwa[c]
     ·rw[ij (by simpa using c),ba c]at z1;by_cases c2:b=A
      ·rwa[c2]
      ·rwa [ba c2]at z1
  ·exact r.elim⟩
end
section
variable{K:Frag}{y H B Φ A:Hp}{w:St}{ρ:aq}{l:Nat->List Addr}{F':List Addr}{o o':Om}{p:Addr}{d:D}{v:V}{i:Nat}{a:Option Addr}
def EnvM'.put2(E:EnvM' K y Φ H w ρ l)(L:ρ[i]?=some (some (.ob a o)))(S:w[i]?=some (some (.ref p)))(P:∀b u,H b=some u->b∉l i->B b=some u)(hO:OmS K Φ B o' p F')(O:∀b∈F',b∈l i\/(y b=none/\Φ b=none/\∀(j:Nat)(a':Option Addr)(g:Om),ρ[j]?=some (some (.ob a' g))->b∉l j)) :
  EnvM' K y Φ B w (ρ.set i (some (.ob a o'))) (λj=>if j=i then F' else l j):=by
 have Z:=aE L
 have J:∀{j:Nat}{x:Sm},(ρ.set i (some (Sm.ob a o')))[j]?=some (some x)->(j=i/\x=.ob a o')\/(j≠i/\ρ[j]?=some (some x)):=λ{j x} h=>by
  rcases cU h with⟨e,_,T⟩|⟨e,h⟩
  ·cases T;exact .inl ⟨e,rfl⟩
  ·exact .inr ⟨e,h⟩
 have Q:∀b∈F',∀(j:Nat)(a':Option Addr)(g:Om),ρ[j]?=some (some (.ob a' g))->j≠i->b∉l j:=λb f j a' g C c z=>by
  rcases O b f with h|⟨_,_,h⟩
  ·exact E.dj j i a' a g o C L c b z h
  ·exact h j a' g C z
 refine⟨λb u e=>P b u (E.fz b u e) λz=>?_,by rw[JX,E.len],λj d h=>?_,λj a' g h=>?_,λj a' g h b f=>?_,λj k a1 a2 R g C F c b f I=>?_,E.tb⟩
 ·rw[(E.no i a o L b z).2]at e;cases e
 ·rcases J h with⟨_,h⟩|⟨_,h⟩
  ·cases h
  ·exact E.sl j d h
 ·rcases J h with⟨c,h⟩|⟨c,h⟩
  ·cases h;subst c;obtain⟨q,e,N,_⟩:=E.ow j a o L;rw[S]at e;cases e;exact⟨p,S,N,by rwa[J9 rfl]⟩
  ·obtain⟨q,e,N,r⟩:=E.ow j a' g h;refine⟨q,e,N,?_⟩;rw[JZ c];exact r.keep (Same.refl _) λb f u U=>P b u U λz=>E.dj j i a' a g o h L c b f z
 ·rcases J h with⟨c,h⟩|⟨c,h⟩
  ·rw[J9 c]at f;rcases O b f with z|⟨X,Y,_⟩
   ·exact E.no i a o L b z
   ·exact⟨X,Y⟩
  ·rw[JZ c]at f;exact E.no j a' g h b f
 ·rcases J C with⟨M,C⟩|⟨M,C⟩
  ·rw[J9 M]at f;rcases J F with⟨G,F⟩|⟨G,F⟩
   ·omega
   ·rw[JZ G]at I;exact Q b f k a2 g F G I
  ·rw[JZ M]at f;rcases J F with⟨G,F⟩|⟨G,F⟩
   ·rw[J9 G]at I;exact Q b I j a1 R C M f
   ·rw[JZ G]at I;exact E.dj j k a1 a2 R g C F c b f I
def EnvM.fsetL{nm f:Str}{fs:List (Str×Fl)}{ds:List D}{C:Addr}{a':Option Addr}(E:EnvM K y Φ H (w++[some v]) (ρ++[some (.ob a' (.lst ds))]))(hl:ρ.length=w.length)(g:Gr A y Φ H)(X:nsIn K mainGlobals nm=some (some (.ref C)))(J:ρ[i]?=some (some (.ob a (.obj nm fs))))(Q:fs.lookup f=none):∃p F vs,w[i]?=some (some (.ref p))/\H p=some (.ins C F vs)/\vs.length=fs.length /\
  EnvM K y Φ (au H p (.ins C F (cM f v vs))) w (ρ.set i (some (.ob a (.obj nm (da f (.l ds) fs)))))/\Gr A y Φ (au H p (.ins C F (cM f v vs))):=by
 obtain⟨l,E⟩:=E
 have M:(ρ++[some (Sm.ob a' (.lst ds))])[ρ.length]?=some (some (.ob a' (.lst ds))):=by rw[JU (J3 _),Kw];rfl
 obtain⟨q,eq,_,rq⟩:=E.ow _ _ _ M
 have ev:v=.ref q:=by rw[hl,JU (J3 _),Kw]at eq;cases eq;rfl
 subst ev;obtain⟨P,ws,q1,q2⟩:=rq.lst_inv
 have hq:q∈l ρ.length:=by rw[P];exact J5.mpr rfl
 have I:=E.no _ _ _ M q hq
 have up:∀{j:Nat}{x:Sm},ρ[j]?=some (some x)->(ρ++[some (Sm.ob a' (.lst ds))])[j]?=some (some x):=λh=>by rwa[JV (aE h)]
 have G:∀(j:Nat)(a2:Option Addr)(R:Om),ρ[j]?=some (some (.ob a2 R))->q∉l j:=λj a2 R Z z=>E.dj j ρ.length a2 a' R _ (up Z) M (by have:=aE Z;omega) q z hq;have L:EnvM' K y Φ H w ρ l:=E.take hl;obtain⟨p,e,_,ro⟩:=L.ow i a _ J;obtain⟨C',F,vs,S,O,T,c2,U,nd⟩:=ro.obj_inv;rw[X]at T;cases T
 have Tw:p∈l i:=by rw[O];exact J2
 have Y:∀b u,H b=some u->b∉l i->au H p (.ins C F (cM f (.ref q) vs)) b=some u:=λb u e hn=>by
  rwa[ba λz=>hn (by rw[z];exact Tw)]
 have QV:=nd;rw[Kp]at QV
 have Vj:q∉p::S:=by rw[←O];exact G i a _ J
 have N:(p::(S++[q])).Nodup:=by rw[←List.cons_append,Lg];exact⟨nd,by simp,λb r c Q z=>by rw[J5.mp Q]at z;exact Vj (z▸r)⟩
 refine⟨p,F,vs,e,c2,U.len,⟨_,L.put2 J e Y (F':=p::(S++[q])) (.obj X br ((U.setL Q q1 q2).keep (Same.refl _) λb r u hu=>?_) N) λb r=>?_⟩,L.grput g J Y⟩
 ·rw[ba (show b≠p from λz=>?_)]
  ·exact hu
  ·rw[Kp]at N;exact N.1 (by rwa[←z])
 ·rw[←List.cons_append]at r;rcases Ks.mp r with r|r
  ·exact .inl (by rwa[O])
  ·rw[J5.mp r];exact .inr ⟨I.1,I.2,G⟩
end
section
variable{K:Frag}{X:Cx}{e a:Expr}{L:TX}{t:TD}{B A o J G:Pos}{x nm f:Str}{C:Addr}
def HL(i:Nat)(nm f:Str)(L:TX):bF:=λg ρ=>L ρ (λs c=>match s with|.ob _ (.lst ds)=>(∃a fs,c[i]?=some (some (.ob a (.obj nm fs)))/\fs.lookup f=none/\fs.length<1000/\NF (da f (.l ds) fs) λh=>g.nx (c.set i (some (.ob a (.obj nm h)))))|_=>False) g.ex
def iy(i:Nat)(c:Cls K C)(nA:NoAttr K C f)(Q:nsIn K mainGlobals nm=some (some (.ref C)))(T:PX K X e L)(R:X.N[i]?=some x:=by rfl)(Z:cV X.env.scope x:=by nofun)(hd:ab x:=by decide)(I:ad x:=by decide)
  (Y:swapsWith e (some (.Attribute (.Name x A) f G)) B.line X.env=pure false:=by rfl):PSM K X (.Assign [.Attribute (.Name x A) f G] e B) (HL i nm f L):=
 ⟨λj=>(sI (f:=f) (pv i R Z hd I) (T.pe j) Y).imp λE σ H F=>by
  obtain⟨l,z,Φ,ρ,w,g,V,t,k⟩:=F;refine⟨l,z,Φ,[],ρ,[],_,w.ex,dJ g V k.ex,t,λs ρ1 u H1 v r h _=>?_⟩;split at r
  ·next a1 ds=>
   obtain⟨a0,O7,U,S,hl,r⟩:=r;obtain⟨p,M,vs,N,O,P,y,g'⟩:=EnvM.fsetL (f:=f) h.E h.l h.g Q U S;exact⟨_,N,p,C,M,vs,rfl,O,j▸c,j▸nA,by rwa[P],k.nx _ u _ σ r.get g' y⟩
  ·exact r.elim⟩
def yD:V->List V->Hp->VK->Prop:=λx vs H Q=>∃(l:Addr)(xs:List V)(ns:List Int)(i:Int)(k:Nat),x=.ref l/\vs=[.int i]/\H l=some (.lst xs)/\xs=ns.map V.int/\ns[k]?=some i/\(∀m<k,ns[m]?≠some i)/\Q .non (au H l (.lst (xs.eraseIdx k)))
def BO:mO X "list.remove" yD:=by
 intro U s σ H x vs v us Q I rx rv h;obtain⟨l,xs,ns,i,k,rfl,rfl,P,ex,R,Z,q⟩:=h;cases rx;obtain⟨u,rfl,ru⟩:=rv.one;obtain⟨t,rfl⟩:=ru;obtain⟨z,its,n,r,S,e⟩:=I.lstM P;have Tz:k<ns.length:=aE R
 have g:∀(m:Nat)(y:Value),its[m]?=some y->∃j t',ns[m]?=some j/\y=.int j t':=λm y p=>by
  have c:m<xs.length:=by rw[S];exact aE p
  obtain⟨w,T,O⟩:=r.get (KU c);rw[p]at T;cases T
  have Rl:m<ns.length:=by rw[ex,JT]at c;exact c
  have:xs[m]=V.int ns[m]:=by subst ex;simp
  rw[this]at O;obtain⟨t',rfl⟩:=O;exact⟨_,t',KU Rl,rfl⟩
 have hsz:its.toArray.size=xs.length:=by rw[Ka,S]
 have M:k<its.toArray.size:=by rwa[hsz,ex,JT]
 refine L8 F.slot_list_remove ⟨_,e,rfl⟩ F.entry_list_remove (F.args_list_remove_2 _ _)
  (MeetsSeq.list_remove l its.toArray n (.int i t) (λy=>match y with|.int j _=>j==i|_=>false) (λy p=>?_) k M ?_ (λm c Y=>?_) (by rwa[hsz])) ⟨e,?_⟩
 ·rw[List.mem_toArray]at p;obtain⟨m,c⟩:=KY p;obtain⟨j,t',_,rfl⟩:=g m y c;exact MeetsSeq.EqGives.int j i t' t
 ·obtain⟨j,t',E,N⟩:=g k _ (KU (by rw[Ka]at M;exact M));rw[R]at E;cases E;show (match its.toArray[k]with|.int j _=>j==i|_=>false)=true;rw[List.getElem_toArray,N];exact KC i
 ·obtain⟨j,t',E,N⟩:=g m _ (KU (by rw[Ka]at c;exact c));show (match its.toArray[m]with|.int j _=>j==i|_=>false)=false;rw[List.getElem_toArray,N];exact M9 λz=>Z m Y (by rw[E,z])
 ·refine⟨.non,_,I.lset (Oz:=its.eraseIdx k) P e ?_ (r.eraseIdx k) ?_,rfl,q⟩
  ·show its.toArray.eraseIdxIfInBounds k=(its.eraseIdx k).toArray;rw[MZ]
  ·have:=rF xs k;omega
def nK{c g:Type}(f:c->g):∀(ns:List c)(m:Nat),(ns.map f).eraseIdx m=(ns.eraseIdx m).map f
 | [],_=>rfl
 |_::_,0=>rfl
 |n::ns,m+1=>by show f n::(ns.map f).eraseIdx m=f n::(ns.eraseIdx m).map f;rw[nK f ns m]
def wu{Φ:Hp}:∀{ns:List Int}{vs:List V},RpL K Φ (ns.map D.int) vs->vs=ns.map V.int
 | [],[],_=>rfl
 | [],_::_,h=>by cases h.1
 |_::_,[],h=>by cases h.1
 |n::ns,v::vs,h=>by have c:=h.2 0 v (.int n) rfl rfl;obtain rfl:=c.i;rw[wu (ns:=ns) (vs:=vs) ⟨by have:=h.1;simpa using this,λi j d' g hd=>h.2 (i+1) j d' g hd⟩];rfl
def Ba(i:Nat)(nm f:Str)(t:TD):bF:=λc ρ=>oJ ρ i nm f λa fs ds=>t (eV ρ) λd=>∃(ns:List Int)(j:Int)(k:Nat),d=.int j/\ds=ns.map D.int/\ns[k]?=some j/\(∀m<k,ns[m]?≠some j)/\NF (da f (.l ((ns.eraseIdx k).map D.int)) fs) λg=>c.nx (ρ.set i (some (.ob a (.obj nm g))))
def Ea(i:Nat)(c:Cls K C)(nA:NoAttr K C f)(T:nsIn K mainGlobals nm=some (some (.ref C)))(he:PD K X e t)(OX:((backTo J (starEach [e] X.env)).all (λx=>!x.1)&&(backToKw J (keywordEach [] X.env)).all (λx=>x.1.isSome)&&decide (([e]:List Expr).length+([]:List Keyword).length+(if ([]:List Keyword).isEmpty then 0 else 1)<30))=true)
  (w:starEach [e] X.env=(false,eval e X.env)::starEach [] X.env) (hN:X.N[i]?=some x:=by rfl) (h:cV X.env.scope x:=by nofun) (hd:ab x:=by decide) (Ot:ad x:=by decide)
  (Sw:attributeBase (.Name x A) f X.env (eval (.Name x A) X.env)=eval (.Name x A) X.env:=by rfl)
  (OF:attributeBase (.Attribute (.Name x A) f G) "remove" X.env (eval (.Attribute (.Name x A) f G) X.env)=eval (.Attribute (.Name x A) f G) X.env:=by rfl) (OG:(o.endLine==J.line)=true:=by rfl) (hs:swapsWith (.Call (.Attribute (.Attribute (.Name x A) f G) "remove" o) [e] [] J) none B.line X.env=pure false:=by rfl) :
  PSM K X (.Expr (.Call (.Attribute (.Attribute (.Name x A) f G) "remove" o) [e] [] J) B) (Ba i nm f t):=
 ⟨λU=>(jL (jR Lz PySem.F.slot_list_remove PySem.F.type_list_remove BO (lK U (pv i hN h hd Ot) Sw) (eZ (he.pe U) pa_nil w) OF OX OG w ag) hs).imp λE σ H Oa=>by
  obtain⟨Φ0,H0,Φ,ρ,De,g,V,⟨a0,O7,Vz,Z,Y,t⟩,k⟩:=Oa;have S:=dJ g V k.ex;obtain⟨p,dx,vs,q,ws,N,Q,R,h3,rl,_⟩:=S.flist T Z Y;obtain⟨fp,E0⟩:=id V;refine⟨_,N,p,C,dx,vs,.ref q,rfl,Q,c,nA,R,.inl ⟨rfl,ws,SqL.of h3⟩,H0,_,eV ρ,_,E0.view,t,λd l H1 v r P rv=>?_⟩;obtain⟨ns,j,m,rfl,rfl,hm,Pp,r⟩:=r;obtain rfl:=rv.i;have S1:=S.gr (jC E0.fz P);obtain⟨p',VA,VB,q',u,y,z,F,Rz,Ro,k1⟩:=S1.flist T Z Y;rw[N]at y;cases y;rw[P.h _ _ Q]at z;cases z;rw[R]at F;cases F;have O:=wu Ro
  have rE:RpL K (fX Φ l) ((ns.eraseIdx m).map D.int) (u.eraseIdx m):=by
   rw[O];have:(ns.map L2.V.int).eraseIdx m=(ns.eraseIdx m).map L2.V.int:=nK _ ns m;rw[this];refine⟨by simp,λi v d h hd=>?_⟩;rw[J7]at h hd
   cases M:(ns.eraseIdx m)[i]? with
   |none=>rw[M]at h;cases h
   |some n=>rw[M]at h hd;cases h;cases hd;exact .int n
  have I:=k1 _ _ rE
  exact⟨q,u,ns,j,m,rfl,rfl,Rz,O,hm,Pp,k.nx _ _ _ σ r.get I.g I.env⟩⟩
end
section
variable{K:Frag}{B H Φ A:Hp}{F:St}{ρ:aq}{w:Nat->List Addr}{a:Option Addr}{nm:Str}{fs:List (Str×Fl)}{ds:List (Str×D)}{k:Nat}
def EnvM'.fzO(E:EnvM' K B Φ H F ρ w)(g:Gr A B Φ H)(M:ρ[k]?=some (some (.ob a (.obj nm fs))))(Z:fb fs=some ds):∃p f,F[k]?=some (some (.ref p))/\(∀q,a=some q->q=p)/\Rp K f (.obj nm ds) (.ref p)/\Gr A B f H/\Same Φ f/\EnvM' K B f H F (ρ.set k (some (.v (.obj nm ds)))) w:=by
 obtain⟨p,J,Y,r⟩:=E.ow k a _ M;obtain⟨C,dx,vs,qs,P,T,U,X,_⟩:=r.obj_inv;have G:Same Φ (ei Φ H (w k)):=view_same;have N:∀b∈w k,∀u,H b=some u->ei Φ H (w k) b=some u:=λb y u hu=>vU y hu E.fz;obtain⟨k1,k2⟩:=xI Z X G λb y=>N b (by rw[P];exact J1 _ y);have Q:Rp K (ei Φ H (w k)) (.obj nm ds) (.ref p):=.obj T (N p (by rw[P];exact J2) _ U) k1 k2
 have R:∀{b:Addr},Φ b=none->b∉w k->ei Φ H (w k) b=none:=λ{b} l I=>by
  cases e:ei Φ H (w k) b with
  |none=>rfl
  |some u=>
   rcases rL e with z|⟨z,_⟩
   ·rw[l]at z;cases z
   ·exact absurd z I
 have O:∀{j:Nat}{x:Sm},(ρ.set k (some (Sm.v (.obj nm ds))))[j]?=some (some x)->(j=k/\x=.v (.obj nm ds))\/(j≠k/\ρ[j]?=some (some x)):=λ{j x} h=>by
  rcases cU h with⟨e,_,J⟩|⟨e,h⟩
  ·cases J;exact .inl ⟨e,rfl⟩
  ·exact .inr ⟨e,h⟩
 have L:∀{j:Nat}{a':Option Addr}{o:Om},(ρ.set k (some (Sm.v (.obj nm ds))))[j]?=some (some (.ob a' o))->j≠k/\ρ[j]?=some (some (.ob a' o)):=λ{j a' o} h=>by
  rcases O h with⟨_,z⟩|z
  ·cases z
  ·exact z
 refine⟨p,_,J,Y,Q,⟨g.f.trans G,g.h,r6 E.fz,λb u l I kk=>R (g.o b u l I kk) λz=>by rw[(E.no k a _ M b z).1]at l;cases l⟩,G,?_⟩;refine⟨r6 E.fz,by rw[JX,E.len],λj d h=>?_,λj a' o h=>?_,λj a' o h b y=>?_,λj j2 a1 a2 o1 o2 l I c=>E.dj j j2 a1 a2 o1 o2 (L l).2 (L I).2 c,E.tb.same G⟩
 ·rcases O h with⟨c,z⟩|⟨c,z⟩
  ·cases z;subst c;exact⟨_,J,Q⟩
  ·obtain⟨v,e,r⟩:=E.sl j d z;exact⟨v,e,r.same G⟩
 ·obtain⟨c,z⟩:=L h;obtain⟨q,e,S,r'⟩:=E.ow j a' o z;exact⟨q,e,S,r'.keep G λ_ _ _ h=>h⟩
 ·obtain⟨c,z⟩:=L h;exact⟨(E.no j a' o z b y).1,R (E.no j a' o z b y).2 (E.dj j k a' a o _ z M c b y)⟩
def FlsR.setA{vs:List (Str×V)}{z:List Addr}{f:Str}{p:Addr}{d:D}(h:FlsR K Φ H fs vs z)(j:fs.lookup f=some (.al p))(r:Rp K Φ d (.ref p)):FlsR K Φ H (da f (.v d) fs) vs z:=by
 induction h with
 |nil=>cases j
 |v E t o=>
  rename_i g C J u x y;rw[Kq]at j
  cases c:f==g with
  |true=>rw[c]at j;cases j
  |false=>
   rw[c]at j;show FlsR K Φ H (if g=f then _ else _) _ _;rw[JZ λe=>by rw[e,KC]at c;cases c];exact .v E (o j)
 |l a1 a2 t o=>
  rename_i g C L I u x y;rw[Kq]at j
  cases c:f==g with
  |true=>rw[c]at j;cases j
  |false=>
   rw[c]at j;show FlsR K Φ H (if g=f then _ else _) _ _;rw[JZ λe=>by rw[e,KC]at c;cases c];exact .l a1 a2 (o j)
 |al t o=>
  rename_i g G u x y;rw[Kq]at j
  cases c:f==g with
  |true=>
   rw[c]at j;cases j;show FlsR K Φ H (if g=f then _ else _) _ _;rw[J9 (eq_of_beq c).symm];exact .v r t
  |false=>
   rw[c]at j;show FlsR K Φ H (if g=f then _ else _) _ _;rw[JZ λe=>by rw[e,KC]at c;cases c];exact .al (o j)
def FlsR.newA{vs:List (Str×V)}{G:List Addr}{f:Str}{p:Addr}(h:FlsR K Φ H fs vs G)(o:fs.lookup f=none):FlsR K Φ H (da f (.al p) fs) (cM f (.ref p) vs) G:=by
 have j:∀{g:Str}{y:Fl}{r:List (Str×Fl)},List.lookup f ((g,y)::r)=none->g≠f/\r.lookup f=none:=λ{g y r} e=>by
  rw[Kq]at e
  cases c:f==g with
  |true=>rw[c]at e;cases e
  |false=>rw[c]at e;exact⟨(λz=>by rw[z,KC]at c;cases c),e⟩
 induction h with
 |nil=>exact .al .nil
 |v J t u=>
  rename_i g I N x C E;obtain⟨c,o⟩:=j o;show FlsR K Φ H (if g=f then _ else _) (if g=f then _ else _) _;rw[JZ c,JZ c];exact .v J (u o)
 |l a1 a2 t u=>
  rename_i g I O M x C E;obtain⟨c,o⟩:=j o;show FlsR K Φ H (if g=f then _ else _) (if g=f then _ else _) _;rw[JZ c,JZ c];exact .l a1 a2 (u o)
 |al t u=>
  rename_i g L x C E;obtain⟨c,o⟩:=j o;show FlsR K Φ H (if g=f then _ else _) (if g=f then _ else _) _;rw[JZ c,JZ c];exact .al (u o)
def EnvM.seal{j:Nat}{p:Addr}{l f:Str}{h:List (Str×Fl)}(E:EnvM K B Φ H F ρ)(g:Gr A B Φ H)(v:j≠k)(M:ρ[k]?=some (some (.ob (some p) (.obj nm fs))))(L:fb fs=some ds)(U:ρ[j]?=some (some (.ob a (.obj l h))))(N:h.lookup f=some (.al p)) :
  ∃c,Gr A B c H/\EnvM K B c H F ((ρ.set k (some (.v (.obj nm ds)))).set j (some (.ob a (.obj l (da f (.v (.obj nm ds)) h))))):=by
 obtain⟨w,E⟩:=E;obtain⟨X,c,S,J,Q,g',Y,o⟩:=E.fzO g M L;cases J p rfl
 have r:(ρ.set k (some (Sm.v (.obj nm ds))))[j]?=some (some (.ob a (.obj l h))):=by rwa[Kh (K5 v)]
 obtain⟨q,G,_,P⟩:=o.ow j a _ r;obtain⟨C,R,vs,O,I,x,y,z,nd⟩:=P.obj_inv;exact⟨c,g',_,o.put r G (λb u e _=>e) (F':=q::O) (.obj x y (z.setA N Q) nd) λb T=>.inl (by rwa[I])⟩
end
section
variable{K:Frag}{X:Cx}{e a:Expr}{es:List Expr}{J:TX}{I:TD}{G:aR}{l O A L N p:Pos}{x y nm f m:Str}{C:Addr}{B:List Stmt}{t:bF}
def EO(j k:Nat)(f:Str)(t:bF):bF:=λh ρ=>∃a p nm fs ds g c,ρ[k]?=some (some (.ob (some p) (.obj nm fs)))/\fb fs=some ds/\ρ[j]?=some (some (.ob a (.obj g c)))/\c.lookup f=some (.al p)/\t h ((ρ.set k (some (.v (.obj nm ds)))).set j (some (.ob a (.obj g (da f (.v (.obj nm ds)) c)))))
def Hk(j k:Nat)(f:Str)(h:PSsM K X B t)(z:j≠k:=by decide):PSsM K X B (EO j k f t):=⟨λR=>(h.ps R).imp λE U H v=>by
 obtain⟨o,u,Φ,ρ,r,g,V,⟨a,p,nm,fs,ds,T,S,F,M,P,Q,t⟩,k⟩:=v;obtain⟨c,g',w⟩:=V.seal g z F M P Q
 exact⟨o,u,c,_,r,g',w,t,k⟩⟩
def BR(i k:Nat)(nm f:Str):bF:=λc ρ=>∃a fs a' o,ρ[i]?=some (some (.ob a (.obj nm fs)))/\ρ[k]?=some (some (.ob a' o))/\fs.lookup f=none/\fs.length<1000/\∀p,(∀q,a'=some q->q=p)->NF (da f (.al p) fs) λg=>c.nx ((ρ.set k (some (.ob (some p) o))).set i (some (.ob a (.obj nm g))))
def yf(i v:Nat)(c:Cls K C)(nA:NoAttr K C f)(hC:nsIn K mainGlobals nm=some (some (.ref C)))(hN:X.N[i]?=some x:=by rfl)(hv:cV X.env.scope x:=by nofun)(hd:ab x:=by decide)(Ot:ad x:=by decide)
  (R:X.N[v]?=some y:=by rfl) (U:cV X.env.scope y:=by nofun) (S:ab y:=by decide) (VE:ad y:=by decide) (F:i≠v:=by decide)
  (hs:swapsWith (.Name y N) (some (.Attribute (.Name x O) f L)) l.line X.env=pure false:=by rfl):PSM K X (.Assign [.Attribute (.Name x O) f L] (.Name y N) l) (BR i v nm f):=
 ⟨λhK=>(sI (f:=f) (pv i hN hv hd Ot) (pv v R U S VE) hs).imp λE σ H Oa=>by
  obtain⟨Φ0,H0,Φ,ρ,De,g,⟨P,V⟩,⟨a,fs,a',o,T,Ph,hc,hl,t⟩,k⟩:=Oa;obtain⟨p,e,_,ro⟩:=V.ow i a _ T;obtain⟨q,M,Tv,ro2⟩:=V.ow _ a' _ Ph;obtain⟨C',dx,vs,qs,eF,Z,c2,c3,nd⟩:=ro.obj_inv;rw[hC]at Z;cases Z
  have Tw:p∈P i:=by rw[eF];exact J2
  have hH:∀b u,H b=some u->b∉P i->au H p (.ins C dx (cM f (.ref q) vs)) b=some u:=λb u e hn=>by
   rwa[ba λz=>hn (by rw[z];exact Tw)]
  have Y:=nd;rw[Kp]at Y;refine⟨_,M,_,e,p,C,dx,vs,rfl,c2,hK▸c,hK▸nA,by rwa[c3.len],?_⟩;refine k.nx _ Φ _ σ (t q Tv).get (V.grput g T hH) ?_;have V2:=V.put T e hH (F':=p::qs) (o':=.obj nm (da f (.al q) fs)) (.obj hC br ((c3.newA hc).keep (Same.refl _) λb hb u hu=>by rwa[ba (show b≠p from λz=>Y.1 (by rw[←z];exact hb))]) nd) λb hb=>.inl (by rwa[eF])
  have Q:(ρ.set i (some (Sm.ob a (.obj nm (da f (.al q) fs)))))[v]?=some (some (Sm.ob a' o)):=by rwa[Kh F]
  rw[List.set_comm _ _ (K5 F)];obtain⟨fz,len,sl,ow,no,dj,tb⟩:=V2;refine⟨λj=>if j=i then p::qs else P j,fz,by rw[JX,len],λj d h=>?_,λj a1 r h=>?_,λj a1 r h=>?_,λj j2 a1 a2 r o2 hj Vv=>?_,tb⟩
  ·rcases cU h with⟨_,_,z⟩|⟨_,z⟩
   ·cases z
   ·exact sl j d z
  ·rcases cU h with⟨w,_,z⟩|⟨_,z⟩
   ·cases z;subst w;obtain⟨q',e',_,r'⟩:=ow _ a' _ Q;rw[M]at e';cases e';exact⟨q,M,(λ_ z=>by cases z;rfl),r'⟩
   ·exact ow j a1 r z
  ·rcases cU h with⟨w,_,z⟩|⟨_,z⟩
   ·cases z;subst w;exact no _ a' _ Q
   ·exact no j a1 r z
  ·have up:∀{j:Nat}{a1:Option Addr}{r:Om},((ρ.set i (some (Sm.ob a (.obj nm (da f (.al q) fs))))).set v (some (Sm.ob (some q) o)))[j]?=some (some (.ob a1 r))->∃a3,(ρ.set i (some (Sm.ob a (.obj nm (da f (.al q) fs)))))[j]?=some (some (.ob a3 r)):=λ{j a1 r} h=>by
    rcases cU h with⟨w,_,z⟩|⟨_,z⟩
    ·cases z;subst w;exact⟨a',Q⟩
    ·exact⟨a1,z⟩
   obtain⟨_,z1⟩:=up hj;obtain⟨_,z2⟩:=up Vv
   exact dj j j2 _ _ r o2 z1 z2⟩
def Ih(t:TX):TX:=λρ R g=>t ρ (λs c=>match s with|.ob _ (.obj nm fs)=>(∃ds,fb fs=some ds/\R (.v (.obj nm ds)) c)|_=>False) g
def GQ(h:PX K X e J):PX K X e (Ih J):=⟨λZ=>(h.pe Z).imp λσ H Q M=>by
 obtain⟨u,z,Φ,τ,ρ,g,R,T,S,t,k⟩:=M;refine⟨u,z,Φ,τ,ρ,g,_,T,S,t,λs1 c Φ1 F v j o Y=>?_⟩;split at j
 ·next a nm fs=>
  obtain⟨ds,hf,j⟩:=j;obtain⟨fp,E⟩:=o.E
  have P:(c++(g++[some (Sm.ob a (.obj nm fs))]))[c.length+g.length]?=some (some (.ob a (.obj nm fs))):=by rw[←Kc,JU (by rw[JW];omega),JW,Kw];rfl
  obtain⟨p,r,_,_,_,g',sf,w⟩:=E.fzO o.g P hf
  have U:(c++(g++[some (Sm.ob a (.obj nm fs))])).set (c.length+g.length) (some (.v (.obj nm ds)))=c++(g++[some (.v (.obj nm ds))]):=by rw[Ml _ _ (by omega),Ml _ _ (by omega),show c.length+g.length-c.length-g.length=0 by omega];rfl
  rw[U]at w;exact k _ c r F v j ⟨g',o.l,⟨_,w⟩,o.x⟩ (Y.trans sf)
 ·exact j.elim⟩
structure MthD(P:Program)(w:World)(K:Frag)(mg:Str->Option Value)(base:Heap)(n:Nat)(C:Addr)(m:Str)(ps:List Str)(z:cu):Prop where
 ex:∃(f:Addr)(fd:FuncData),FnOk P w K mg base aI n f fd ps (lSp K z)/\Binds K fd ps []/\Meth K C m f
def xj{Φ:Hp}{g:Str}:∀{vs:List (Str×V)}{fs:List (Str×D)},vs.map (·.1)=fs.map (·.1)->fs.lookup g=none->vs.lookup g=none
 | [],_,_,_=>rfl
 |_::_,[],h,_=>by cases h
 |(x,v)::vs,(y,f)::fs,h,j=>by
  rw[Kn,Kn]at h;obtain⟨o,r⟩:=MQ h;have o:x=y:=o;subst o;rw[Kq]at j ⊢
  cases c:g==x with
  |true=>rw[c]at j;cases j
  |false=>rw[c]at j;exact xj (Φ:=Φ) r j
def AS(nm m:Str)(z:cu)(I:TD)(G:aR):TD:=λρ R=>I ρ λx=>match x with|.obj Ti fs=>Ti=nm/\fs.lookup m=none/\G ρ λds=>z (.obj Ti fs::ds) R|_=>False
def me{n:Nat}{ps:List Str}{z:cu}{pl:Sem Bool}(M:MthD X.prog X.w K X.mg X.base n C m ps z)(hr:Room n X.A)(c:Cls K C)(hC:nsIn K mainGlobals nm=some (some (.ref C)))
  (hx:PD K X a I) (ha:PAD K X (e::es) G) (he:starEach (e::es) X.env=(false,eval e X.env)::starEach es X.env) (OO:(backTo l (starEach es X.env)).any (·.1)=false)
  (ht:eval (.Call (.Attribute a m A) (e::es) [] l) X.env=(do
   let ov ←eval a X.env
   standAt A.atName
   let (f,first) ←holding [ov] (getMethod ov m pl)
   callWith l f first (backTo l (starEach (e::es) X.env)) (backToKw l (keywordEach [] X.env))):=by rfl) :
  PD K X (.Call (.Attribute a m A) (e::es) [] l) (AS nm m z I G):=⟨λh=>by
 obtain⟨f,fd,F,b,hm⟩:=M.ex;refine (uB (dvs:=[]) (ds:=[]) (E:=E0) (pl:=pl) (hx.pe h) (h▸c) (h▸hm) (h▸F:FnOk X.prog X.w X.K X.mg X.base aI n f fd ps (lSp K z)) hr (h▸b) .nil ku (ha.pa h) he OO ht).imp λσ H Q Oa=>?_;obtain⟨U,Φ,ρ,R,E,t,k⟩:=Oa;refine⟨U,Φ,ρ,_,E,t,λd j H1 v r g w=>?_⟩
 cases d with
 |obj Ti fs=>
  obtain⟨rfl,hl,r⟩:=r;have P:=w
  cases w with
  |obj Y h1 h2 h3=>
   rw[hC]at Y;cases Y;refine⟨_,_,_,rfl,g.s _ _ h1,xj (Φ:=j) h2 hl,U,j,ρ,_,E.gr g,r,λds T H2 vs r2 o rl _=>?_⟩;refine⟨T,_::ds,R,o.s,(E.tb.same g.f).same o.f,?_,r2,λd S H' v rd g' w=>k d S H' v rd ((g.trans o).trans g') w⟩;rw[Kz];refine⟨by rw[Kb,Kb,rl.1],λi u d Z hd=>?_⟩
   cases i with
   |zero=>cases Z;cases hd;exact P.same o.f
   |succ i=>exact rl.2 i u d Z hd
 |_=>exact r.elim⟩
end
def qa(K:Frag)(a:Addr)(n:Nat):It:=
 ⟨λi H=>i<n/\∃xs,SqL K H a xs/\xs.length=n,λi H x c=>c=H/\∀xs,SqL K H a xs->xs[n-1-i]?=some x,λi H=>i=n⟩
def Gk{P:Program}{w:World}{K:Frag}{tg:Expr}(a j:Addr)(n:Nat):Turn P w K tg (qa K a n) [j] j (λi h=>h.IsRevIter j a ((n:Int)-1-(i:Int))) where
 mem:=by simp
 obj:=λi h st b g=>by
  have e:b=j:=by simpa using g
  subst e;obtain⟨o,e,c,d⟩:=st;exact⟨o,e,λv z=>by rw[d]at z;cases z⟩
 keep:=λi h h' st k=>st.at λo e=>k j (by simp) o e
 item:=by
  intro X M N L O i f s R H E I r st l;subst M N L;obtain⟨hi,xs,Q,hn⟩:=l;obtain⟨its,rv,p,hz⟩:=I.list Q;have hx:xs[n-1-i]?=some (xs[n-1-i]'(by omega)):=KU (by omega);obtain⟨u,Z,ru⟩:=rv.get hx;obtain⟨B,C,Y,F,G,J⟩:=r j (by simp)
  have A:(n:Int)-1-(i:Int)=((n-1-i:Nat):Int):=by omega
  have T:((n-1-i:Nat):Int)-1=(n:Int)-1-((i+1:Nat):Int):=by omega
  have dJ:=st;rw[A]at dJ;refine wpAny_pyNext_rev_item dJ p.isList (x:=u) (by simpa using Z) λh' y sb=>?_;rw[T]at y;have S:Inv X f R H { s with heap:=h' }:=I.turned (t':=s.toks) (λb o g e=>(sb.2 b g).trans e) B C F G J;obtain⟨o,e,c,d⟩:=id y;exact⟨u,rfl,pK (s:={ s with heap:=h' }) e c d (by decide) ⟨_,H,S,ru,⟨rfl,λys hy=>by rwa[I.list_inj hy Q]⟩,y,λb g=>(r b g).1⟩⟩
 done:=by
  intro X M N L O i f s R H E I r st l;subst M N L;have l:i=n:=l;subst l;obtain⟨B,C,Y,F,G,J⟩:=r j (by simp)
  have A:(i:Int)-1-(i:Int) = -1:=by omega
  rw[A]at st;exact wpAny_pyNext_rev_end (I.ok.hd O) st λh' U=>⟨rfl,I.turned (t':=s.toks) (λb o g e=>U b o g e) B C F G J⟩
 self:=λ_ _ _ _ _ st h=>wpAny_pyIter_revIter st h
section
variable{K:Frag}{X:Cx}{f a:Expr}{c p:Pos}
def vC(K:Frag)(g:TA):TI:=λh H R=>g h H λvs e=>∃l xs,vs=[.ref l]/\SqL K e l xs/\R (qa K l xs.length) e
def Jh{w:TA}(B:Gl X "reversed")(C:X.mg "reversed"=none)(z:PA X [a] w)(F:starEach [a] X.env=[(false,eval a X.env)]):PI X f (.Call (.Name "reversed" p) [a] [] c) (vC X.K w):=by
 intro j s M H R I h;refine Call_ (il I B C boot_reversed (K4 (aH (z c j s M H _ I h) λus g y=>?_) F rfl));obtain⟨vs,x,u,J,G⟩:=y;obtain⟨l,xs,e,E,q⟩:=G;subst e
 cases J with
 |cons r rr=>
  cases rr;cases r;obtain⟨its,L,p,N⟩:=u.list E;refine call_reversed_list p.isList ?_;have v:(g.heap.push (revObj l ((its.toArray.size:Int)-1))).IsRevIter g.heap.objs.size l ((its.toArray.size:Int)-1):=⟨_,Ke _ rfl,rfl,rfl⟩;refine wpAny_pyIter_revIter (s:={ g with heap:=g.heap.push (revObj l ((its.toArray.size:Int)-1)) }) v ?_;refine⟨g.heap.objs.size,[g.heap.objs.size],_,_,x,rfl,u.kept (t':=g.toks) λb o e=>J4 _ e,Gk l _ xs.length,?_,λb A=>?_,q⟩
  ·have e:((its.toArray.size:Nat):Int)-1=(xs.length:Int)-1-((0:Nat):Int):=by rw[Ka,←L.length];omega
   rw[e]at v;rwa[e]
  ·have e:b=g.heap.objs.size:=by simpa using A
   subst e;exact u.fpOk (J3 _) (u.hok.fresh (J3 _))
def yK{e:TA}(h:X.K=K)(j:Gl X "reversed")(l:X.mg "reversed"=none)(g:PA X [a] e)(o:starEach [a] X.env=[(false,eval a X.env)]):PI X f (.Call (.Name "reversed" p) [a] [] c) (vC K e):=h▸Jh j l g o
def BX{Φ:Hp}{ds:List D}{vs:List V}{l:Addr}(h:SqL K Φ l vs)(r:RpL K Φ ds vs):SteadyD K (qa K l vs.length) Φ ds.reverse:=
 ⟨λi H s g=>⟨by rw[r.1];simpa using g,vs,s.seq h,rfl⟩,λi j H x u d o s hd y=>by
  obtain⟨e,y⟩:=y;subst e
  have g:i<ds.length:=by have:=aE hd;simpa using this
  rw[List.getElem?_reverse g]at hd;have:=y vs ((o.trans s).seq h);rw[r.1]at this
  exact⟨j,.refl s,(r.2 _ x d this hd).same o⟩,λH s=>by
  show ds.reverse.length=vs.length
  rw[Lr,r.1]⟩
def BD(t:aR):aR:=λρ R=>t ρ λds=>match ds with| [d]=>(match d with|.lst xs=>R xs.reverse|_=>False)|_=>False
def sU{t:aR}(z:Gl X "reversed")(A:X.mg "reversed"=none)(h:PAD K X [a] t)(B:starEach [a] X.env=[(false,eval a X.env)]:=by rfl):PID K X f (.Call (.Name "reversed" p) [a] [] c) (BD t):=⟨λl=>(yK l z A (h.pa l) B).imp λI H F w=>by
 obtain⟨o,Φ,ρ,R,E,t,k⟩:=w
 exact⟨o,Φ,ρ,_,E,t,λds e u vs r g rl G=>by
  match ds,r with
  | [],r=>exact r.elim
  |_::_::_,r=>exact r.elim
  | [d],r=>
   obtain⟨v,rfl,C⟩:=rl.one_inv
   cases d with
   |lst xs=>
    cases C with
    |lst j x y=>exact⟨_,_,rfl,.of (g.s _ _ j),k _ e u _ r g (BX (.of j) ⟨x,y⟩)⟩
   |_=>exact r.elim⟩⟩
end
section
variable{P:Program}{w:World}{K:Frag}{mg:Str->Option Value}{base:Heap}{n m:Nat}{C:Addr}{x:Str}{ps:List Str}
def MthM.mono{z:en}(M:MthM P w K mg base n C x ps z)(k:n<=m:=by decide):MthM P w K mg base m C x ps z:=by obtain⟨f,a,F,r⟩:=M.ex;exact⟨f,a,F.mono k,r⟩
def MkM.mono{z:en}(M:MkM P w K mg base n C ps z)(k:n<=m:=by decide):MkM P w K mg base m C ps z:=by obtain⟨f,a,F,r⟩:=M.ex;exact⟨f,a,F.mono k,r⟩
def MthD.mono{z:cu}(M:MthD P w K mg base n C x ps z)(k:n<=m:=by decide):MthD P w K mg base m C x ps z:=by obtain⟨f,a,F,r⟩:=M.ex;exact⟨f,a,F.mono k,r⟩
end
section
variable{K:Frag}{X:Cx}{l a e:Expr}{c:List Expr}{scope:Scope}{f z A:Pos}{N':List Str}{cap:List (Option Nat)}{j:aR}{g:dG}{u:cB}{o:TD}{i:Nat}{y:Str}{C:Addr}
def Fz{tf:aR}{E:Ends}{B:St}{H:Hp}(x:∀{B:St}{H:Hp}{Q:VK},lF K tf B H Q->gB (lI K j) cap (lG K g) (lT K u) (lE K o) B H Q)(h:lM K X (jD i (sF tf)) E B H):i5 (gB (lI K j) cap (lG K g) (lT K u) (lE K o)) (iF i) E B H:=by
 obtain⟨Z,M,Φ,ρ,De,gg,V,t,Y⟩:=h;obtain⟨fp,I⟩:=id V;refine x ⟨M,_,eV ρ,_,I.view,t,λds G N p vs r J T F S rl=>?_⟩;have g':=jC I.fz J;have L:=view_same.trans J.f
 have O:fX Φ G p=none:=by
  unfold fX
  cases P:Φ p with
  |some w=>rw[L _ _ P]at F;cases F
  |none=>simp only;rw[F]
 exact Y.nx _ _ N _ r.2 (gg.trans g') ((V.snocO gg.h g' (.lst S ⟨rl.1,λi v d U hd=>(rl.2 i v d U hd).thawN L (r.1 d (J0 hd))⟩) λb R=>by rw[J5.mp R];exact⟨T,O⟩).store i)
def Dz{k:Nat}(E:X.calm=true)(G:X.N.Nodup)(Q:X.N[i]?=some y)(P:eh X.env.scope y)(S:CompScope X.N X.env.scope scope N' cap)(B:gb k cap=true)(M:GM k g)(L:PID K X l a j)
  (J:∀(cl:List (Str×Addr))(r:List Addr)(C:Addr)(v:Shared)(p:Hp),PGD K (bU X scope N' cl C v p r) l g) (O:∀(cl:List (Str×Addr))(r:List Addr)(C:Addr)(v:Shared)(p:Hp),PIfD K (bU X scope N' cl C v p r) c u)
  (H:∀(cl:List (Str×Addr))(r:List Addr)(C:Addr)(v:Shared)(p:Hp),PD K (bU X scope N' cl C v p r) e o) (F:swapsWith (.ListComp e [⟨l,a,c,0⟩] scope f) (some (.Name y z)) A.line X.env=pure true:=by rfl)
  (N:∀x,foldedSetIterable a X.env x=pure x:=by intro _;rfl) (I:X.fn y=true\/X.env.scope.names.lookup y=some .local:=by nofun) :
  PSM K X (.Assign [.Name y z] (.ListComp e [⟨l,a,c,0⟩] scope f) A) (jD i (sF (pL j cap g u o))):=
 ⟨λw=>(k8 E G Q P S (L.pi w) (λcl r C v p=>(J cl r C v p).pg w) (λcl r C v p=>(O cl r C v p).p w) (λcl r C v p=>(H cl r C v p).pe w) F N I).imp λ_ _ _ h=>Fz (λq=>qQ B M q) h⟩
end
section
variable{K:Frag}{X:Cx}{a b:Expr}{f p A B:Pos}{z:aR}
def B2(e:TA):TE:=λg H Q=>e g H λvs c=>∃i j:Int,vs=[.int i,.int j]/\∀r,c r=none->Q (.ref r) (au c r (.rng i j))
def HC{v:TA}(y:Gl X "range")(C:X.mg "range"=none)(x:PA X [a,b] v)(E:starEach [a,b] X.env=[(false,eval a X.env),(false,eval b X.env)]:=by rfl)(u:starEach [b] X.env=[(false,eval b X.env)]:=by rfl):PE X (.Call (.Name "range" p) [a,b] [] f) (B2 v):=by
 intro c s L H R I h;refine Call_ (il I y C boot_range (K4 (aH (x f c s L H _ I h) λus g w=>?_) (by rw[E,u]) (by rw[u];rfl)));obtain⟨vs,M,l,G,F⟩:=w;obtain⟨i,j,e,q⟩:=F;subst e
 cases G with
 |cons r rr=>
  cases rr with
  |cons J rr=>
   cases rr;obtain⟨t,rfl⟩:=r;obtain⟨N,rfl⟩:=J;refine call_range_2 ⟨.ref g.heap.objs.size,_,l.laid (a:=g.heap.objs.size) (o:=.rng i j) (t':=g.toks+1) (λb o e=>J4 _ e) (J3 _) ⟨_,_,_,Ke _ rfl⟩,rfl,q _ (l.hok.fresh (J3 _))⟩
def gY(lo:Int)(n:Nat):List V:=(List.range n).map λi=>V.int (lo+(i:Nat))
def nX(lo:Int)(n:Nat):(gY lo n).length=n:=by unfold gY;simp
def ui{lo:Int}{n i:Nat}{v:V}(h:(gY lo n)[i]?=some v):v=.int (lo+(i:Nat)):=by
 have c:i<n:=by have:=aE h;rwa [nX]at this
 unfold gY at h;rw[J7,LO c]at h;cases h;rfl
def HD{Φ:Hp}(lo:Int)(n:Nat):RpL K Φ (cQ lo n) (gY lo n):=⟨by rw[nX,gm],λi v d c hd=>by
 rw[ui c,(gR hd).2]
 exact .int _⟩
def B9(G:X.calm=true):eB X (.type "list") (λxs H Q=>∃p i j,xs=[.ref p]/\H p=some (.rng i j)/\(-(2^62)<=i/\i<2^62/\-(2^62)<=j/\j<2^62)/\j-i<=1000/\∀l,H l=none->Q (.ref l) (au H l (.lst (gY i (j-i).toNat)))):=by
 intro w s σ H xs us Q I r h;obtain⟨p,i,j,rfl,N,⟨S,T,U,Y⟩,jj,q⟩:=h;obtain⟨u,rfl,Z⟩:=hV r;cases Z;obtain⟨t,u,v,M⟩:=(show ObjOk X.prog X.w H s.heap p (.rng i j)from I.hok p _ N)
 have L:Builtin.Range.rangeSize i j 1=((j-i).toNat:Int):=by rw[rangeSize_one];split<;>omega
 refine call_list_range (I.ok.hd G) M (small_one S T U Y) L (by omega) λh' E g c kp J C=>?_
 have O:Vals (gY i (j-i).toNat) g.toList:=sO (by rw[nX,Mr,C.1]) λk x y P R=>by rw[ui P];obtain⟨t,rfl⟩:=C.2 k y (by simpa using R);exact⟨t,by simp⟩
 have F:Inv X w σ (au H s.heap.objs.size (.lst (gY i (j-i).toNat))) { s with heap:=h',toks:=E }:=
  I.laid (t':=E) (λb o e=>kp b o e) (J3 _) (show ObjOk X.prog X.w _ _ _ (.lst (gY i (j-i).toNat))from ⟨by rw[nX,Mq];omega,g.toList,c,O,by simpa using J⟩)
 exact⟨.ref s.heap.objs.size,_,F,rfl,q _ (I.hok.fresh (J3 _))⟩
def DW(t:aR):aR:=λρ R=>t ρ λds=>match ds with| [.int i,.int j]=>((-(2^62)<=i/\i<2^62/\-(2^62)<=j/\j<2^62)/\j-i<=1000)/\R (cQ i (j-i).toNat)|_=>False
def IX(y:X.calm=true)(J:Gl X "list")(I:X.mg "list"=none)(G:Gl X "range")(F:X.mg "range"=none)(O:PAD K X [a,b] z)(P:starEach [a,b] X.env=[(false,eval a X.env),(false,eval b X.env)]:=by rfl)(u:starEach [b] X.env=[(false,eval b X.env)]:=by rfl) :
  PF K X (.Call (.Name "list" p) [.Call (.Name "range" A) [a,b] [] B] [] f) (DW z):=
 ⟨λN=>(lg (B9 y) J I boot_list (eZ (HC G F (O.pa N) P u) pa_nil bt) (by decide) (by decide) bt ag).imp λZ H Q x=>by
  obtain⟨h,Φ,ρ,R,E,t,k⟩:=x
  exact⟨h,Φ,ρ,_,E,t,λds Y o vs r g rl _=>by
   match ds,r with
   | [.int i,.int j],r=>
    obtain⟨v,w,rfl,T,U⟩:=rl.two_inv;obtain rfl:=T.i;obtain rfl:=U.i;refine⟨i,j,rfl,λS L=>⟨S,i,j,rfl,br,r.1.1,r.1.2,λl e=>?_⟩⟩;have c:=Gr.fresh g.s L (.rng i j);have M:=Gr.fresh c.s e (.lst (gY i (j-i).toNat));have C:o l=none:=c.h.free e
    exact k _ _ _ l _ r.2 ((g.trans c).trans M) (g.h.free C) (c.s.free e) br (HD _ _)⟩⟩
end
section
variable{K:Frag}{X:Cx}
def Hm:cT:=λx y R=>match x with
 |.int i=>(match y with|.int j=>R (.bl (i==j))|.non=>R (.bl false)|_=>False)
 |_=>False
def yV(z:X.A.units+64<cLine):OpD K X (compareOp .Eq) Hm:=⟨λw c s A H x y u v Q I o e f=>by
 obtain⟨Φ,r,g,R,sm,l,a,h,k⟩:=f;obtain⟨i,rfl,h⟩:=jI h;cases l.int;obtain⟨t,rfl⟩:=o
 cases g with
 |int j=>
  cases a.int;obtain⟨p,rfl⟩:=e;exact (PySem.SeqAt.RcAt.int_int i t j p) X.prog X.w _ _ ⟨.bl (i==j),H,I,rfl,k _ Φ H _ h (.refl sm) (.bl _)⟩
 |non=>
  cases a.non;cases e;exact (PySem.SeqAt.RcAt.int_none i t) X.prog X.w _ _ ⟨.bl false,H,I,rfl,k _ Φ H _ h (.refl sm) (.bl _)⟩
 |_=>exact h.elim⟩
end
section
variable{K:Frag}{X:Cx}{e:Expr}{c:TD}{f h:Pos}{x:Str}
def yM(i:Nat)(c:TD):TX:=λρ R _=>ownT ρ i λ_ _=>c (dN ρ) λd=>∃a:List aC,d=.tup (a.map gM)/\ownT ρ i λ_ g=>∃y,bG g a=some y/\R (.v y) ρ
def yS(i:Nat)(hu:X.A.units+64<cLine)(M:PD K X e c)(P:qA e)(L:X.N[i]?=some x:=by rfl)(T:cV X.env.scope x:=by nofun)(hd:ab x:=by decide)(F:ad x:=by decide) :
  PX K X (.Subscript (.Name x h) e f) (yM i c):=
 ⟨λJ=>(Fv (by omega) (pv i L T hd F) (M.pe J) P).imp λσ H Q E=>by
  obtain⟨Φ0,B,Φ,τ,ρ,κ,R,Rx,S,t,k⟩:=E;obtain⟨a,Oc,z,t⟩:=ownT.get t;obtain⟨q,ws,G,O,l,_⟩:=S.env.dictT S.g z;refine⟨_,G,B,Φ,dN ρ,_,S.env.toD,t,λd o C v r g Z=>?_⟩;obtain⟨U,rfl,r⟩:=r;obtain⟨a2,Vy,u,y,A,r⟩:=ownT.get r;rw[z]at u;cases u;obtain⟨p,rfl,N⟩:=rY Z;rcases rO l U with⟨j,_⟩|⟨d,w,j,I,Y⟩
  ·rw[A]at j;cases j
  ·rw[A]at j;cases j
   refine⟨q,w,rfl,by rw[←I];exact DGet.t (g.h _ _ O) (g.s _ _ N),k _ ρ o C w r ((S.gr g).pushV (Y.same g.f)) g.f⟩⟩
end
section
variable{K:Frag}{w H A Φ u:Hp}{f:St}{ρ:aq}{l:Nat->List Addr}{p q:Addr}{i k:Nat}
def EnvM.noadr{a:Option Addr}{o:Om}(E:EnvM K w Φ H f ρ)(L:ρ[i]?=some (some (.ob a o))):EnvM K w Φ H f (ρ.set i (some (.ob none o))):=by
 obtain⟨l,E⟩:=E
 have B:∀{m:Nat}{x:Sm},(ρ.set i (some (Sm.ob none o)))[m]?=some (some x)->(m=i/\x=.ob none o)\/(m≠i/\ρ[m]?=some (some x)):=λ{m x} h=>by
  rcases cU h with⟨e,_,C⟩|⟨e,h⟩
  ·cases C;exact .inl ⟨e,rfl⟩
  ·exact .inr ⟨e,h⟩
 have g:∀{m:Nat}{c:Option Addr}{j:Om},(ρ.set i (some (Sm.ob none o)))[m]?=some (some (.ob c j))->∃y,ρ[m]?=some (some (.ob y j)):=λ{m c j} h=>by
  rcases B h with⟨z,v⟩|⟨_,v⟩
  ·cases v;exact⟨_,by rwa[z]⟩
  ·exact⟨_,v⟩
 refine⟨l,E.fz,by rw[JX,E.len],λm d h=>?_,λm c j h=>?_,λm c j h=>?_,λm k c y j F N M=>?_,E.tb⟩
 ·rcases B h with⟨_,h⟩|⟨_,h⟩
  ·cases h
  ·exact E.sl m d h
 ·rcases B h with⟨z,v⟩|⟨_,v⟩
  ·cases v;obtain⟨p,e,_,r⟩:=E.ow i a o L;exact⟨p,by rwa[z],(λq e=>by cases e),by rwa[z]⟩
  ·exact E.ow m c j v
 ·obtain⟨y,h'⟩:=g h;exact E.no m y j h'
 ·obtain⟨C,I⟩:=g N;obtain⟨G,J⟩:=g M;exact E.dj m k C G j F I J
def EnvM.outT{ps:List (Addr×Option (List D))}{ds:List D}{v:V}(E:EnvM K w Φ H (f++[some v]) (ρ++[some (.ob none (.tl ps))]))(i:Nat)(g:i<ρ.length)(h:ps[k]?=some (q,some ds)) :
  EnvM K w Φ H (f.set i (some (.ref q))++[some v]) (ρ.set i (some (.own ds))++[some (.ob none (.tl (ps.set k (q,none))))]):=by
 have r:f.length=ρ.length:=by have:=E.len;simpa using this
 have c:=(E.pnt i q).opn (i:=i) (j:=ρ.length) (k:=k) (a':=none) (ps:=ps) (q:=q) (ds:=ds) (by omega)
  (by rw[Kj (by rw[JW];omega)]) (by rw[Kh (by omega),JU (J3 _),Kw];rfl) h
 rw[LI _ _ (by omega),LI _ _ g,LI _ _ (by rwa[JX]),Ml _ _ (by rw[JX,JX];exact J3 _),List.set_set,JX,Kw]at c;have e:=c.noadr (i:=i) (a:=some q) (o:=.lst ds) (by rw[JV (by rwa[JX]),Kj g]);rw[LI _ _ (by rwa[JX]),List.set_set]at e;exact e
def EnvM.gath{v1 v2 v3:V}{G I J:List D}(E:EnvM K w Φ H (f++[some v1,some v2,some v3]) (ρ++[some (.own G),some (.own I),some (.own J)]))(X:ρ.length=f.length)(g:Gr Φ H u A)(hp:u p=some (.tup [v1,v2,v3])) :
  ∃a o B,EnvM K w u A (f++[some (.ref p)]) (ρ++[some (.ob none (.tl [(a,some G),(o,some I),(B,some J)]))]):=by
 obtain⟨l,E⟩:=E.gr g
 have P:(ρ++[some (Sm.own G),some (.own I),some (.own J)])[ρ.length]?=some (some (.ob none (.lst G))):=by rw[JU (J3 _),Kw];rfl
 have Q:(ρ++[some (Sm.own G),some (.own I),some (.own J)])[ρ.length+1]?=some (some (.ob none (.lst I))):=by rw[JU (by omega),Ll];rfl
 have R:(ρ++[some (Sm.own G),some (.own I),some (.own J)])[ρ.length+2]?=some (some (.ob none (.lst J))):=by rw[JU (by omega),Ll];rfl
 obtain⟨a,e1,_,r1⟩:=E.ow _ _ _ P;obtain⟨o,e2,_,r2⟩:=E.ow _ _ _ Q;obtain⟨B,e3,_,r3⟩:=E.ow _ _ _ R;rw[X,JU (J3 _),Kw]at e1;rw[X,JU (by omega),Ll]at e2 e3;cases e1;cases e2;cases e3;obtain⟨f1,w1,a1,b1⟩:=r1.lst_inv;obtain⟨f2,w2,a2,b2⟩:=r2.lst_inv;obtain⟨f3,w3,a3,b3⟩:=r3.lst_inv;have n12:a≠o:=λe=>E.dj _ _ _ _ _ _ P Q (by omega) a (by rw[f1];exact J5.mpr rfl) (by rw[f2,e];exact J5.mpr rfl);have n13:a≠B:=λe=>E.dj _ _ _ _ _ _ P R (by omega) a (by rw[f1];exact J5.mpr rfl) (by rw[f3,e];exact J5.mpr rfl);have n23:o≠B:=λe=>E.dj _ _ _ _ _ _ Q R (by omega) o (by rw[f2];exact J5.mpr rfl) (by rw[f3,e];exact J5.mpr rfl)
 have TB:∀b∈[a,o,B],b∈l ρ.length\/b∈l (ρ.length+1)\/b∈l (ρ.length+2):=λb L=>by rw[f1,f2,f3];simpa using L
 have M:∀{m:Nat}{x:Sm},(ρ++[some (Sm.ob none (.tl [(a,some G),(o,some I),(B,some J)]))])[m]?=some (some x)->(m<ρ.length/\ρ[m]?=some (some x))\/(m=ρ.length/\x=.ob none (.tl [(a,some G),(o,some I),(B,some J)])):=λ{m x} h=>by
  rcases KP m ρ.length with c|c
  ·rw[JV c]at h;exact .inl ⟨c,h⟩
  ·rw[JU c]at h
   cases e:m-ρ.length with
   |zero=>rw[e]at h;cases h;exact .inr ⟨by omega,rfl⟩
   |succ n=>rw[e]at h;cases h
 have up:∀{m:Nat}{x:Sm},ρ[m]?=some (some x)->(ρ++[some (Sm.own G),some (.own I),some (.own J)])[m]?=some (some x):=λ{m x} h=>by rwa[JV (aE h)]
 have dn:∀{m:Nat}{y:Option V},m<ρ.length->(f++[some (V.ref a),some (.ref o),some (.ref B)])[m]?=some y->(f++[some (V.ref p)])[m]?=some y:=λ{m y} c e=>by rw[JV (by omega)]at e ⊢;exact e
 refine⟨a,o,B,λm=>if m=ρ.length then [a,o,B] else l m,E.fz,by rw[JW,JW,X];rfl,λm d h=>?_,λm c F h=>?_,λm c F h b L=>?_,λm n c c' F Qr hm hn hc b L Ov=>?_,E.tb⟩
 ·rcases M h with⟨c,j⟩|⟨_,j⟩
  ·obtain⟨v,e,r⟩:=E.sl m d (up j);exact⟨v,dn c e,r⟩
  ·cases j
 ·rcases M h with⟨C,j⟩|⟨C,j⟩
  ·obtain⟨v,e,ha,r⟩:=E.ow m c F (up j);exact⟨v,dn C e,ha,by rwa[JZ (by omega)]⟩
  ·cases j;refine⟨p,by rw[C,X,JU (J3 _),Kw];rfl,(λ_ z=>by cases z),?_⟩;rw[J9 C];exact .tl hp (.own a1 b1 (.own a2 b2 (.own a3 b3 .nil))) (by simp[n12,n13,n23])
 ·rcases M h with⟨C,j⟩|⟨C,j⟩
  ·rw[JZ (by omega)]at L;exact E.no m c F (up j) b L
  ·rw[J9 C]at L;rcases TB b L with h|h|h
   ·exact E.no _ _ _ P b h
   ·exact E.no _ _ _ Q b h
   ·exact E.no _ _ _ R b h
 ·have U:b∈(if m=ρ.length then [a,o,B] else l m):=L;have N:b∈(if n=ρ.length then [a,o,B] else l n):=Ov
  have T:∀(Y:Nat)(c:Option Addr)(F:Om),Y<ρ.length->ρ[Y]?=some (some (.ob c F))->b∈l Y->b∈[a,o,B]->False:=λY c F Uz Z hx hy=>by
   rcases TB b hy with h|h|h
   ·exact E.dj _ _ _ _ _ _ (up Z) P (by omega) b hx h
   ·exact E.dj _ _ _ _ _ _ (up Z) Q (by omega) b hx h
   ·exact E.dj _ _ _ _ _ _ (up Z) R (by omega) b hx h
  rcases M hm with⟨C,j⟩|⟨C,j⟩
  ·rw[JZ (by omega)]at U;rcases M hn with⟨O,S⟩|⟨O,S⟩
   ·rw[JZ (by omega)]at N;exact E.dj m n c c' F Qr (up j) (up S) hc b U N
   ·rw[J9 O]at N;exact T m c F C j U N
  ·rw[J9 C]at U;rcases M hn with⟨O,S⟩|⟨O,S⟩
   ·rw[JZ (by omega)]at N;exact T n c' Qr O S N U
   ·omega
end
section
variable{K:Frag}{X:Cx}{e a b:Expr}{es:List Expr}{w y tb:TX}{A:dk}{f u o j z:Pos}
def GY(A:dk):TX:=λρ R p=>A ρ (λas c=>∃g h l,as=[.t (.own g),.t (.own h),.t (.own l)]/\∀r v x,R (.ob none (.tl [(r,some g),(v,some h),(x,some l)])) c) p
def Dn{k:Nat}(h:PXA K X es A)(P1:Nat.ble es.length 1000=true:=by rfl):PX K X (.Tuple es k f) (GY A):=
 ⟨λY=>(rC (h.pa Y)).imp λσ H Q P=>by
  obtain⟨x,I,Φ,F,ρ,C,R,T,S,t,k⟩:=P;refine⟨x,I,Φ,F,ρ,C,_,T,S,t,λas v B O vs ts r1 hl c l U=>?_⟩;obtain⟨z1,z2,z3,rfl,r⟩:=r1
  cases c with|t c=>cases c with|t c=>cases c with|t c=>
  cases c;rename_i J L M;refine⟨by rw[Mq];show 3<=16777216;decide,λp Z=>?_⟩;have g:=Gr.new l.g.s Z (.tup [J,L,M]);have lk:C.length=F.length:=S.lk;have l2:=l.l;have E:=l.E
  have N:EnvM K I B O ((σ++F)++[some J,some L,some M]) ((v++C)++[some (.own z1),some (.own z2),some (.own z3)]):=by rwa[Kc,Kc]
  obtain⟨q1,q2,q3,G⟩:=N.gath (p:=p) (by rw[JW,JW];omega) g br;rw[Kc,Kc]at G
  exact k _ v _ _ _ (r q1 q2 q3) ⟨l.g.trans g,l2,G,l.x⟩ (U.trans g.f)⟩
def DS(h l p:Nat)(w:TX):bF:=λg ρ=>w ρ (λs c=>∃B C E r v x,s=.ob none (.tl [(B,some r),(C,some v),(E,some x)])/\(h<c.length/\l<c.length/\p<c.length)/\g.nx (((c.set h (some (.own r))).set l (some (.own v))).set p (some (.own x)))) g.ex
def CW{k:Nat}{n1 n2 n3:Str}(B C F:Nat)(hc:X.calm=true)(x:X.N.Nodup)(h1:X.N[B]?=some n1)(h2:X.N[C]?=some n2)(h3:X.N[F]?=some n3)(l1:eh X.env.scope n1)(l2:eh X.env.scope n2)(l3:eh X.env.scope n3)(he:PX K X e w)
  (f1:X.fn n1=true\/X.env.scope.names.lookup n1=some .local:=by nofun) (f2:X.fn n2=true\/X.env.scope.names.lookup n2=some .local:=by nofun) (f3:X.fn n3=true\/X.env.scope.names.lookup n3=some .local:=by nofun)
  (hs:swapsWithSole [.Tuple [.Name n1 u,.Name n2 o,.Name n3 j] k z] e f.line X.env=pure false:=by rfl) (hw:swappedStores [.Tuple [.Name n1 u,.Name n2 o,.Name n3 j] k z] e X.env=pure none:=by rfl)
  (ha:(assignEach [.Tuple [.Name n1 u,.Name n2 o,.Name n3 j] k z] X.env).map (·.2)=[assign (.Tuple [.Name n1 u,.Name n2 o,.Name n3 j] k z) X.env]:=by rfl)
  (c1:(assignEach [.Name n1 u,.Name n2 o,.Name n3 j] X.env).map (·.2)=assign (.Name n1 u) X.env::(assignEach [.Name n2 o,.Name n3 j] X.env).map (·.2):=by rfl) (c2:(assignEach [.Name n2 o,.Name n3 j] X.env).map (·.2)=assign (.Name n2 o) X.env::(assignEach [.Name n3 j] X.env).map (·.2):=by rfl) (c3:(assignEach [.Name n3 j] X.env).map (·.2)=assign (.Name n3 j) X.env::(assignEach [] X.env).map (·.2):=by rfl)
  (hn:(assignEach [.Name n1 u,.Name n2 o,.Name n3 j] X.env).length=3:=by rfl) (Z:(assignEach [.Name n1 u,.Name n2 o,.Name n3 j] X.env).findIdx? (·.1)=none:=by rfl) :
  PSM K X (.Assign [.Tuple [.Name n1 u,.Name n2 o,.Name n3 j] k z] e f) (DS B C F w):=
 ⟨λhK=>(nr (he.pe hK) (wR hc (lR (kN x h1 l1 f1) (lR (kN x h2 l2 f2) (lR (kN x h3 l3 f3) pgs_nil c3) c2) c1) hn Z) hs hw ha).imp λE σ H Oa=>by
  obtain⟨G,J,Φ,ρ,S,g,V,t,k⟩:=Oa;refine⟨G,J,Φ,[],ρ,[],_,S.ex,dJ g V k.ex,t,λs l h L v r p _=>?_⟩;obtain⟨M,N,O,P,Q,R,rfl,⟨y1,y2,y3⟩,r⟩:=r;have I:EnvM K J h L (σ++[some v]) (l++[some (.ob none (.tl [(M,some P),(N,some Q),(O,some R)]))]):=p.E;have hl:=p.l;obtain⟨fp,c⟩:=id I;obtain⟨tp,s,_,rr⟩:=c.ow l.length none _ (by rw[JU (J3 _),Kw];rfl);rw[hl,JU (J3 _),Kw]at s;cases s;obtain⟨hp,_,_⟩:=rr.tl_inv;have T:=I.outT B y1 (k:=0) (q:=M) (ds:=P) rfl;have U:=T.outT C (by rwa[JX]) (k:=1) (q:=N) (ds:=Q) rfl;have Y:=U.outT F (by rwa[JX,JX]) (k:=2) (q:=O) (ds:=R) rfl;refine⟨tp,_,rfl,SqT.of (c.fz _ _ hp),rfl,_,_,rfl,_,_,rfl,_,_,rfl,rfl,?_⟩
  exact k.nx _ h L _ r p.g (Y.take (by rwa[JX,JX,JX,JX,JX,JX]))⟩
def Ef(t:TX):TX:=λρ R g=>t ρ (xV λd c=>∃ds,df d=some ds/\R (.own ds) c) g
def Hu{p:Pos}(T:Gl X "list")(U:X.mg "list"=none)(O:PX K X e w)(F:starEach [e] X.env=(false,eval e X.env)::starEach [] X.env):PX K X (.Call (.Name "list" p) [e] [] f) (Ef w):=
 ⟨λE=>(lg uR T U boot_list (eZ (O.pe E) pa_nil F) (by decide) (by decide) F ag).imp λσ H Q J=>by
  obtain⟨h,G,Φ,τ,ρ,κ,R,L,S,t,k⟩:=J;refine⟨h,G,Φ,τ,ρ,κ,_,L,S,t,λs1 B x I v r1 c N=>?_⟩;obtain⟨d,rfl,ds,M,r⟩:=r1.get;have rv:RpQ K x I d v:=.inl c.last;obtain⟨a,vs,rfl,Y,Z⟩:=rv.seq c.g.s M;refine⟨a,vs,rfl,E▸Y,λl g=>?_⟩;have C:=Gr.fresh c.g.s g (.lst vs)
  exact k _ B _ _ _ r ((c.pop S.lk).pushO C (.lst br Z) λb P=>by rw[J5.mp P];exact⟨g,c.g.s.free g⟩) (N.trans C.f)⟩
def Gu(y tb:TX):TX:=λρ R h=>y ρ (xV λd g=>match d with|.bl c=>(c=true->tb g R h)/\(c=false->R (.v (.bl false)) g)|_=>False) h
def Iu{op}(h:PX K X a y):PX K X (.BoolOp op [a] f) y:=⟨λc=>uU (h.pe c)⟩
def EH(U:PX K X a y)(Y:PX K X (.BoolOp .And (b::es) f) tb):PX K X (.BoolOp .And (a::b::es) f) (Gu y tb):=
 ⟨λI=>(xG (U.pe I) (Y.pe I)).imp λσ H Q O=>by
  obtain⟨h,E,Φ,L,ρ,J,R,F,S,t,k⟩:=O;refine⟨h,E,Φ,L,ρ,J,_,F,S,t,λs1 p l N v g r G=>?_⟩;obtain⟨x,rfl,g⟩:=g.get;have rx:=r.last;obtain⟨c,rfl,g⟩:=jG g;obtain rfl:=rx.b;refine⟨c,rfl,?_⟩
  cases c with
  |true=>rw[J9 rfl];exact⟨h,E,l,L,p,J,R,F,r.pop S.lk,g.1 rfl,λsm C B M v' Z P T=>k sm C B M v' Z P (G.trans T)⟩
  |false=>rw[JZ (by decide)];exact k _ p l N _ (g.2 rfl) ((r.pop S.lk).pushV (.bl _)) G⟩
end
def dr{K:W.Frag}{X:Cx}:OpD K X (binaryOp .Mult) (zI IntMulOk λi j=>.int (i*j)):=pT Er
def zO:cT:=λx y R=>match x,y with
 |.lst xs,.int k=>(-(2^63)<=k/\k<2^63/\xs.length*k.toNat<=sizeLine)/\NF (List.replicate k.toNat xs).flatten λa=>R (.lst a)
 |_,_=>False
def G5{K:W.Frag}{X:Cx}:OpD K X (binaryOp .Mult) zO:=⟨λE c s C H x y v u Q I A B g=>by
 obtain⟨Φ,l,o,R,sm,w,z,h,k⟩:=g
 cases l with
 |lst xs=>
  cases o with
  |int j=>
   obtain⟨a,vs,rfl,r,e⟩:=w.lst sm;cases z.int;exact uu c s C H _ _ v u Q I A B ⟨a,j,vs,rfl,rfl,r,h.1.1,h.1.2.1,by rw[e.1];exact h.1.2.2,λp f=>k _ _ _ _ h.2.get (.new sm f _) (((e.rep _).same (dY (sm.free f) _)).lst br)⟩
  |_=>exact h.elim
 |_=>exact h.elim⟩
def cP{K:W.Frag}{X:Cx}:OpD K X (binaryOp .Add) (jd λi j=>.int (i+j)):=xk IM
def yh:cT:=λx y R=>match x,y with
 |.lst xs,.lst ys=>xs.length+ys.length<=sizeLine/\NF (xs++ys) λa=>R (.lst a)
 |_,_=>False
def rM{K:W.Frag}{X:Cx}:OpD K X (binaryOp .Add) yh:=⟨λG c s F H x y v u Q I B C j=>by
 obtain⟨Φ,l,o,R,sm,z,A,h,k⟩:=j
 cases l with
 |lst xs=>
  cases o with
  |lst ys=>
   obtain⟨a,vs,rfl,r,e⟩:=z.lst sm;obtain⟨b,E,rfl,w,f⟩:=A.lst sm;exact zQ c s F H _ _ v u Q I B C ⟨a,b,vs,E,rfl,rfl,r,w,by rw[e.1,f.1];exact h.1,λp g=>k _ _ _ _ h.2.get (.new sm g _) (((e.append f).same (dY (sm.free g) _)).lst br)⟩
  |_=>exact h.elim
 |_=>exact h.elim⟩
def GD:cT:=λx y R=>match x,y with
 |.tup xs,.tup ys=>xs.length+ys.length<=sizeLine/\NF (xs++ys) λa=>R (.tup a)
 |_,_=>False
def kU{K:W.Frag}{X:Cx}:OpD K X (binaryOp .Add) GD:=⟨λP c s M H x y v u Q I F G o=>by
 obtain⟨Φ,z,A,R,sm,B,C,h,k⟩:=o
 cases z with
 |tup xs=>
  cases A with
  |tup ys=>
   obtain⟨a,vs,rfl,N,r,f⟩:=B.tup sm;obtain⟨b,L,rfl,O,w,j⟩:=C.tup sm
   exact Du c s M H _ _ v u Q I F G ⟨a,b,vs,L,rfl,rfl,sm _ _ r,sm _ _ w,by rw[f.1,j.1];exact h.1,λp l J q=>by
    obtain⟨e,g,E⟩:=Gr.adoptT sm J q
    exact k _ e l _ h.2.get g (((f.append j).same g.f).tup E)⟩
  |_=>exact h.elim
 |_=>exact h.elim⟩
def yE:cT:=λx y R=>match x,y with
 |.tup xs,.int k=>(xs≠[]/\0<=k/\k<=1000/\k.toNat*xs.length<=1000)/\NF (List.replicate k.toNat xs).flatten λa=>R (.tup a)
 |_,_=>False
def uI{K:W.Frag}{X:Cx}:OpD K X (binaryOp .Mult) yE:=⟨λO c s M H x y v u Q I G J w=>by
 obtain⟨Φ,A,B,R,sm,C,E,h,k⟩:=w
 cases A with
 |tup xs=>
  cases B with
  |int j=>
   obtain⟨a,vs,rfl,N,z,f⟩:=C.tup sm;cases E.int;have r:vs≠[]:=λe=>h.1.1 (Lk.mp (by rw[←f.1,e];rfl))
   exact G9 c s M H _ _ v u Q I G J ⟨a,j,vs,rfl,rfl,sm _ _ z,r,h.1.2.1,h.1.2.2.1,by rw[f.1];exact h.1.2.2.2,λp o L q=>by
    obtain⟨l,g,F⟩:=Gr.adoptT sm L q
    exact k _ l o _ h.2.get g (((f.rep _).same g.f).tup F)⟩
  |_=>exact h.elim
 |_=>exact h.elim⟩
end L2
namespace Kx
open PySem L2
section
local macro_rules|`(tactic|rfl')=>`(tactic|dsimp only[aW,aO,aK,setA,bf,aY,bc,List.set])
variable{P:Program}{w:World}{K:Frag}{mg:Str->Option Value}{base:Heap}{n:Nat}{f:Addr}{J:FuncData}
def top(i:Nat):Stmt:=PySem.Challenge.pw_cutyard_k31_rays_back.main.body.getD i (.Pass ⟨0,0,0,0⟩)
abbrev yo:Stmt:=top 0
abbrev nZ:Stmt:=top 5
def sc_common_of_two:FnScope ["one","other","greater","lesser","rest"] ["one","other"] (av nZ):=by ac_rfl
abbrev nV:Stmt:=top 6
def sc_common:FnScope ["numbers","divisor","number"] ["numbers"] (av nV):=by ac_rfl
abbrev pb:Stmt:=top 7
def Js:FnScope ["top","bottom"] ["top","bottom"] (av pb):=by ac_rfl
abbrev lP:Stmt:=top 9
def DY:FnScope ["n","place"] ["n","place"] (av lP):=by ac_rfl
abbrev la:Stmt:=top 10
def Cv:FnScope ["entries","spot"] ["entries","spot"] (av la):=by ac_rfl
abbrev kL:Stmt:=top 11
def zY:FnScope ["row"] ["row"] (av kL):=by ac_rfl
abbrev k7:Stmt:=top 12
def sc_evened:FnScope ["row","divisor"] ["row"] (av k7):=by ac_rfl
abbrev jN:Stmt:=top 14
def sc_givens:FnScope ["plan","bounds","n","least_rows","most_rows"] ["plan"] (av jN):=by ac_rfl
abbrev k6:Stmt:=top 16
def FA:FnScope ["entries","unknown"] ["entries","unknown"] (av k6):=by ac_rfl
abbrev l0:Stmt:=top 17
def EL:FnScope ["entries"] ["entries"] (av l0):=by ac_rfl
abbrev oZ:Stmt:=top 18
def sc_first_most_marks:FnScope ["bounds","marks","number","pair"] ["bounds"] (av oZ):=by ac_rfl
abbrev oq:Stmt:=top 21
def Dr:FnScope ["pair"] ["pair"] (av oq):=by ac_rfl
abbrev mR:Stmt:=top 22
def sc_greatest_sum:FnScope ["bounds","entries","total","pair","entry"] ["bounds","entries"] (av mR):=by ac_rfl
abbrev kX:Stmt:=top 23
def sc_least_sum:FnScope ["bounds","entries","total"] ["bounds","entries"] (av kX):=by ac_rfl
abbrev pE:Stmt:=top 24
def sc_crossed_unknown:FnScope ["bounds","staying","unknown"] ["bounds","staying"] (av pE):=by ac_rfl
abbrev oz:Stmt:=top 25
def sc_hopeless_row:FnScope ["bounds","rows","place","row","total"] ["bounds","rows"] (av oz):=by ac_rfl
abbrev og:Stmt:=top 26
def sc_idle_row:FnScope ["bounds","rows","place","row","total"] ["bounds","rows"] (av og):=by ac_rfl
abbrev kS:Stmt:=top 27
def sc_single_row:FnScope ["rows","place","row"] ["rows"] (av kS):=by ac_rfl
abbrev nv:Stmt:=top 28
def sc_uneven_row:FnScope ["rows","place","row"] ["rows"] (av nv):=by ac_rfl
abbrev mP:Stmt:=top 29
def sc_doubled_row:FnScope ["rows","came","place","row","earlier"] ["rows"] (av mP):=by ac_rfl
abbrev mX:Stmt:=top 30
def sc_fixed_unknown:FnScope ["bounds","staying","unknown"] ["bounds","staying"] (av mX):=by ac_rfl
abbrev lW:Stmt:=top 31
def IE:FnScope ["rows","unknown"] ["rows","unknown"] (av lW):=by ac_rfl
abbrev lV:Stmt:=top 32
def AQ:FnScope ["rows","unknown"] ["rows","unknown"] (av lV):=by ac_rfl
abbrev pz:Stmt:=top 33
def sc_sinking_unknown:FnScope ["bounds","rows","goal","staying","unknown"] ["bounds","rows","goal","staying"] (av pz):=by ac_rfl
abbrev pC:Stmt:=top 34
def sc_rising_unknown:FnScope ["bounds","rows","goal","staying","unknown","pair"] ["bounds","rows","goal","staying"] (av pC):=by ac_rfl
abbrev pG:Stmt:=top 35
def sc_hanging_unknown:FnScope ["bounds","rows","goal","staying","unknown"] ["bounds","rows","goal","staying"] (av pG):=by ac_rfl
abbrev nz:Stmt:=top 37
def sc_row_struck:FnScope ["ledger","place"] ["ledger"] (av nz):=by ac_rfl
abbrev ox:Stmt:=top 38
def sc_unknown_struck:FnScope ["ledger","unknown"] ["ledger"] (av ox):=by ac_rfl
abbrev kK:Stmt:=top 39
def sc_hopeless_shares:FnScope ["ledger","unknown","place","entries","shares"] ["ledger"] (av kK):=by ac_rfl
abbrev mG:Stmt:=top 40
def sc_strike:FnScope ["ledger","shares"] ["ledger"] (av mG):=by ac_rfl
abbrev kQ:Stmt:=top 41
def Hc:FnScope ["numbers","places"] ["numbers","places"] (av kQ):=by ac_rfl
abbrev l9:Stmt:=top 42
def sc_slim_plan:FnScope ["ledger","rows"] ["ledger"] (av l9):=by ac_rfl
abbrev n6:Stmt:=top 43
def sc_spread:FnScope ["numbers","places","n","spot","place","number"] ["numbers","places","n"] (av n6):=by ac_rfl
abbrev l8:Stmt:=top 44
def sc_least_meeting:FnScope ["unknown","least","rows","spot","needs"] ["unknown","least","rows","spot"] (av l8):=by ac_rfl
abbrev nu:Stmt:=top 47
def EN:FnScope [Wz] [Wz] (av nu):=by ac_rfl
abbrev kP:Stmt:=top 48
def GT:FnScope [Wz,WT] [Wz,WT] (av kP):=by ac_rfl
abbrev oY:Stmt:=top 49
def sc__law_pool:FnScope [WE,"_law_seed","_law_cell","_law_rest"] [WE] (av oY):=by ac_rfl
abbrev mL:Stmt:=top 50
def sc__law_draw:FnScope [Wr,Wt,"_law_digit","_law_step","_law_mixed"] [Wr,Wt] (av mL):=by ac_rfl
abbrev mq:Stmt:=top 51
def Ij:FnScope [Ww,Ws] [Ww,Ws] (av mq):=by ac_rfl
abbrev nc:Stmt:=top 52
def sc__law_bounds:FnScope [Wr,Wx,WM,"_law_rate",WC,"_law_goal",WV,WD,WI,"_law_pick",WJ] [Wr,Wx,WM] (av nc):=by ac_rfl
abbrev pI:Stmt:=top 53
def sc__law_rows:FnScope [Wr,Wt,Ws,WV,Wv,WY,Ww,WG,WH,"_law_manner",WK] [Wr,Wt,Ws,WV] (av pI):=by ac_rfl
abbrev mI:Stmt:=top 54
def sc__law_small:FnScope [Wr,Wx,Wt,WM,WC,"_law_goal",WV,Ws,WI,WJ,WW,Wv,Ww] [Wr,Wx,Wt,WM] (av mI):=by ac_rfl
abbrev ju:Stmt:=top 55
def sc__law_far:FnScope [Wr,Wu,Ws,WL,Wt,W4,WC,WN,WI,WJ,Wv,Ww,WK,WQ,W8] [Wr,Wu,Ws] (av ju):=by ac_rfl
abbrev oU:Stmt:=top 56
def sc__law_plan_is:FnScope [Wu,Wx,"_law_pair","_law_row"] [Wu,Wx] (av oU):=by ac_rfl
abbrev lN:Stmt:=top 57
def sc__law_fields:FnScope [WB,Wx,W0] [WB,Wx] (av lN):=by ac_rfl
abbrev ky:Stmt:=top 58
def sc__law_givens:FnScope [Wu,Wx,Wv,WD,WI,WJ] [Wu] (av ky):=by ac_rfl
abbrev lU:Stmt:=top 59
def sc__law_window:FnScope [WC,WW,"_law_spots",WI,WJ,"_law_top","_law_longer",Ws] [WC,WW] (av lU):=by ac_rfl
abbrev kB:Stmt:=top 60
def sc__law_rays:FnScope [Wt,W9,W3] [Wt] (av kB):=by ac_rfl
abbrev kT:Stmt:=top 61
def A9:FnScope [Wv,WA] [Wv,WA] (av kT):=by ac_rfl
abbrev kH:Stmt:=top 62
def Cj:FnScope [Wu,WB,WA,Wz] [Wu,WB,WA,Wz] (av kH):=by ac_rfl
abbrev lj:Stmt:=top 63
def sc_law:FnScope [WE,Wr,Wx,Wu,Ws,WB,Wv,Wz,WA] [WE] (av lj):=by ac_rfl
abbrev pQ:Stmt:=fR (top 19) 0
def IY:FnScope ["self","plan"] ["self","plan"] (av pQ):=by ac_rfl
abbrev ny:Stmt:=fR (top 19) 1
def Ag:FnScope ["self","shares","divisor"] ["self","shares","divisor"] (av ny):=by ac_rfl
abbrev nh:Stmt:=fR (top 19) 2
def C9:FnScope ["self","place"] ["self","place"] (av nh):=by ac_rfl
abbrev pO:Stmt:=fR (top 19) 3
def sc_Ledger__turn_to_bound:FnScope ["self","place","row","mark","unknown","entry","pair","bound"] ["self","place"] (av pO):=by ac_rfl
abbrev mW:Stmt:=fR (top 19) 4
def sc_Ledger__even_row:FnScope ["self","place","row"] ["self","place"] (av mW):=by ac_rfl
abbrev nt:Stmt:=fR (top 19) 5
def Fx:FnScope ["self","unknown","entry"] ["self","unknown","entry"] (av nt):=by ac_rfl
abbrev mH:Stmt:=fR (top 19) 6
def sc_Ledger__fix:FnScope ["self","unknown","number","place","row","entry","shares","worth"] ["self","unknown","number"] (av mH):=by ac_rfl
abbrev ka:Stmt:=fR (top 19) 7
def sc_Ledger__hang:FnScope ["self","unknown","places","place"] ["self","unknown"] (av ka):=by ac_rfl
abbrev mE:Stmt:=fR (top 19) 8
def I0:FnScope ["self","unknown","least","rows"] ["self","unknown","least","rows"] (av mE):=by ac_rfl
abbrev oa:Stmt:=fR (top 45) 0
def sc_Struck____init__:FnScope ["self","plan","ledger","shares","mark"] ["self","plan"] (av oa):=by ac_rfl
abbrev zx:Stmt:=fR (top 45) 1
abbrev mv:Stmt:=fR (top 45) 2
def sc_Struck__ray_back:FnScope ["self","ray","numbers","gone","level_rows"] ["self","ray"] (av mv):=by ac_rfl
abbrev AO:Stmt:=fR (top 45) 3
structure TxtLedger(K:Frag)(mg:Str->Option Value)(C:Addr):Prop where
 cl:Cls K C
 n_bounds:NoAttr K C "bounds"
 n_rows:NoAttr K C "rows"
 n_goal:NoAttr K C "goal"
 n_staying:NoAttr K C "staying"
 n_told:NoAttr K C "told"
 n_lines:NoAttr K C "lines"
 n_least_marks:NoAttr K C "least_marks"
 n_most_marks:NoAttr K C "most_marks"
 n_row_marks:NoAttr K C "row_marks"
 n_goal_shares:NoAttr K C "goal_shares"
 n_extra:NoAttr K C "extra"
 n_gone:NoAttr K C "gone"
 mgC:mg "Ledger"=some (.ref C)
 ns:nsIn K mainGlobals "Ledger"=some (some (.ref C))
structure TxtStruck(K:Frag)(mg:Str->Option Value)(C:Addr):Prop where
 cl:Cls K C
 n_ledger:NoAttr K C "ledger"
 n_breadth:NoAttr K C "breadth"
 n_kind:NoAttr K C "kind"
 n_paper:NoAttr K C "paper"
 n_slim:NoAttr K C "slim"
 n_kept:NoAttr K C "kept"
 n_extra:NoAttr K C "extra"
 mgC:mg "Struck"=some (.ref C)
 ns:nsIn K mainGlobals "Struck"=some (some (.ref C))
abbrev bN(x:Int):Prop:=x.natAbs<2^60000
def iY{a b:Int}(c:bN a)(e:bN b):IntMulOk a b:=CF (m:=60000) (n:=60000) (by decide) (by decide) c e (by decide)
def toB{R:D->Prop}{a b:Bool}(q:R (.bl a))(e:b=a):R (.bl b):=e▸q
def fw{x:Int}{m:Nat}(h:x.natAbs<=2^m)(a:m<60000):bN x:=LV h (Ly (by decide) a)
def c8{a:Type}{xs:List a}{i:Nat}{d:a}(h:i<xs.length):xs.getD i d∈xs:=by rw[J6,bK h];exact LU h
def bZ{a:Type}{xs:List a}{i:Nat}{d:a}(h:i<xs.length):xs[i]?=some (xs.getD i d):=by rw[J6,bK h];rfl
def fq{a:Type}{xs:List a}{i:Nat}{x d:a}(h:xs[i]?=some x):xs.getD i d=x:=by rw[J6,h];rfl
inductive z_left(ds:List D)(R:D->Prop):Prop|mk (d1 d2:D) (xs ys:List Int) (_:ds=[d1,d2]) (_:df d1=some (xs.map D.int)) (_:df d2=some (ys.map D.int)) (_:xs.length<=1000) (_:(∀x∈xs,bN x)) (_:(∀y∈ys,bN y)) (_:R (.int (aB xs ys)))
def yk(F:Fun K "left" "left" la f J)(v:mg "sum"=none)(j:mg "zip"=none):FnOk P w K mg base aI (n+1) f J ["entries","spot"] (lSp K z_left):=by
 refine F.okD Cv (λds R h=>?_) (λz A outer s H E ds R B h=>?_)
 ·obtain⟨e,g,xs,ys,rfl,_⟩:=h;rfl
 obtain⟨e,g,xs,ys,rfl,l,o,p,r,u,q⟩:=h;refine⟨_,(aL (bp (bM (xU rfl) rfl v NV (aN (PD.q (PF.d (de (k:=2) (N':=["entry","number"]) (cap:=[none,none]) rfl (.ok (show bX ["entries","spot"] (av la) _ ["entry","number"] [none,none]=true by lia)) (by lia) (iA (n:=2) (eo (bE (by decide)) (eo (bE (by decide)) iG))) (kj rfl j (af (dv 0) (af (dv 1) ak ae) ae)) (λ_ _ _ _ _=>(eu (n:=2) rfl (bR (bh (i:=0) (show List.Nodup (["entry","number"]:List Str)by lia) rfl Wq) (bR (bh (i:=1) (show List.Nodup (["entry","number"]:List Str)by lia) rfl Wq) eG)))) (λ_ _ _ _ _=>(aU dr (aa 0) (aa 1)))))) aX bC) bC ag))),?_⟩;refine⟨_,_,l,o,?_⟩;refine rZ (λx y=>D.int (x*y)) (bq p) (λx a y c=>⟨rfl,iY (r x a) (u y c),rfl⟩) ?_;exact⟨List.zipWith (λx y=>x*y) xs ys,by rw[NH];rfl,q⟩
def cC(n k:Nat):List Int:=(List.range n).map λo=>if o=k then 1 else 0
inductive z_unit(ds:List D)(R:D->Prop):Prop|mk (n k:Nat) (_:ds=[.int (n:Int),.int (k:Int)]) (_:n<=1000) (_:R (.tup ((cC n k).map D.int)))
def Ez(F:Fun K "unit" "unit" lP f J)(a:mg "tuple"=none)(g:mg "range"=none):FnOk P w K mg base aI (n+1) f J ["n","place"] (lSp K z_unit):=by
 refine F.okD DY (λds R h=>?_) (λl A outer s H E ds R j h=>?_)
 ·obtain⟨m,k,rfl,_⟩:=h;rfl
 obtain⟨m,k,rfl,r,q⟩:=h;refine⟨_,(aL (bp (b9 cN rfl a J8 (aN (PD.q (PF.d (de (k:=1) (N':=["other","place"]) (cap:=[none,some 1]) rfl (.ok (show bX ["n","place"] (av lP) _ ["other","place"] [none,some 1]=true by lia)) (by lia) (bE (by decide)) (ir rfl g (af (dv 0) ak ae)) (λ_ _ _ _ _=>(bh (i:=0) (show List.Nodup (["other","place"]:List Str)by lia) rfl Wq)) (λ_ _ _ _ _=>(oF (aV (dw j.units) (aa 0) (aa 1) (aD _)) ao ao))))) aX bC) bC ag))),?_⟩;refine⟨⟨by omega,by omega⟩,?_⟩;refine km (λo=>D.int (if o=k then 1 else 0)) (bq (by omega)) (λi p=>?_) ?_
 ·by_cases c:i=k
  ·subst c;refine⟨λ_=>by rw[J9 rfl];rfl,λh=>?_⟩;have:((0+(i:Int))==(i:Int))=false:=h;rw[KW]at this;simp at this
  ·refine⟨λh=>?_,λ_=>by rw[JZ c];rfl⟩;have:((0+(i:Int))==(k:Int))=true:=h;have:=eq_of_beq this;omega
 have e:(List.range ((m:Int)).toNat).map (λo=>D.int (if o=k then 1 else 0))=(cC m k).map D.int:=by unfold cC;rw[KQ,K0];rfl
 rwa[e]
def lh(r:aw):aw:=(r.1.map (- ·),-r.2)
inductive z_turned(ds:List D)(R:D->Prop):Prop|mk (r:aw) (_:ds=[az r]) (_:r.1.length<=1000) (_:R (az (lh r)))
def AE(F:Fun K "turned" "turned" kL f J)(a:mg "tuple"=none):FnOk P w K mg base aI (n+1) f J ["row"] (lSp K z_turned):=by
 refine F.okD zY (λds R h=>?_) (λe A outer s H E ds R g h=>?_)
 ·obtain⟨r,rfl,_⟩:=h;rfl
 obtain⟨r,rfl,c,q⟩:=h;refine⟨_,(aL (bp (bx (af (b9 cN rfl a J8 (aN (PD.q (PF.d (de (k:=1) (N':=["entry"]) (cap:=[none]) rfl (.ok (show bX ["row"] (av kL) _ ["entry"] [none]=true by lia)) (by lia) (bE (by decide)) (cb (aA (aa 0))) (λ_ _ _ _ _=>(bh (i:=0) (show List.Nodup (["entry"]:List Str)by lia) rfl Wq)) (λ_ _ _ _ _=>(eI (aa 0)))))) aX bC) bC ag) (af (eI (PD.q (aA (aa 0)))) ak iS) bt)))),?_⟩;refine⟨_,rfl,?_⟩;refine jV (f:=D.int) (λx=>-x) (bq c) (λx _=>rfl) ?_;exact⟨_,rfl,q⟩
abbrev Bd:=Int×Option Int
def oI:Option Int->D
 |none=>.non
 |some m=>.int m
def aS(b:Bd):D:=.tup [.int b.1,oI b.2]
def ax(bs:List Bd)(k:Nat):Bd:=bs.getD k (0,none)
def fA(bs:List Bd)(k:Nat):aw:=(cC bs.length k,(ax bs k).1)
def cX(bs:List Bd)(k:Nat):aw:=lh (cC bs.length k,((ax bs k).2.getD 0))
def cY(bs:List Bd)(k:Nat):Bool:=(ax bs k).2.isSome
def cS(bs:List Bd)(rs:List aw):List aw:=(List.range bs.length).map (fA bs)++((List.range bs.length).filter (cY bs)).map (cX bs)++rs
def cF(bs:List Bd)(rs:List aw)(gs:List Int):D:=.tup [.tup (bs.map aS),.tup (rs.map az),.tup (gs.map D.int)]
def iZ(c:Nat->Bool)(h:Nat->D)(i:Nat):Option D->Prop
 |some y=>y=h i/\c i=true
 |none=>c i=false
def j6{c:Nat->Bool}{h:Nat->D}{n:Nat}{ys:List (Option D)}(u:ys.length=n)(r:∀i y,ys[i]?=some y->iZ c h i y):ys.filterMap id=((List.range n).filter c).map h:=by
 have e:ys=(List.range n).map λi=>if c i then some (h i) else none:=by
  refine Lf λi=>?_;rw[J7];by_cases p:i<n
  ·rw[LO p,bK (show i<ys.length by omega)];have q:=r i _ (bK (show i<ys.length by omega))
   cases e:ys[i]'(by omega)with
   |none=>
    rw[e]at q;have g:c i=false:=q;show some none=some (if c i=true then _ else _);rw[g];rfl
   |some y=>
    rw[e]at q;have g:y=h i/\c i=true:=q;show some (some y)=some (if c i=true then _ else _);rw[g.2,g.1];rfl
  ·rw[KI (by omega),KI (by rw[Km];omega)];rfl
 have j:∀l:List Nat,(l.map λi=>if c i then some (h i) else none).filterMap id=(l.filter c).map h:=by
  intro l
  induction l with
  |nil=>rfl
  |cons x l o=>
   rw[Kn]
   cases e:c x with
   |true=>rw[J9 rfl,List.filterMap_cons_some (f:=id) (a:=some (h x)) (b:=h x) rfl,MJ e,Kn,o]
   |false=>rw[JZ (by decide),List.filterMap_cons_none (f:=id) (a:=none) rfl,MK (by rw[e];decide),o]
 rw[e,j]
def fZ{bs:List Bd}{k:Nat}{i:Int}(h:k<bs.length)(e:i=(k:Int)):cE (bs.map aS) i=some (aS (ax bs k)):=cR (i:=k) (bZ h) e
def nM(n k:Nat):(cC n k).length=n:=by unfold cC;rw[JT,Km]
inductive z_givens(ds:List D)(R:D->Prop):Prop|mk (bs:List Bd) (rs:List aw) (g:D) (_:ds=[.tup [.tup (bs.map aS),.tup (rs.map az),g]]) (_:bs.length<=8) (_:rs.length<=30) (_:R (.tup ((cS bs rs).map az)))
def Br(F:Fun K "givens" "givens" jN f J)(v:Cl P w K mg base n "turned" ["row"] z_turned)(u:Cl P w K mg base n "unit" ["n","place"] z_unit)(x:mg "len"=none)(p:mg "range"=none)(o:mg "tuple"=none):FnOk P w K mg base aI (n+1) f J ["plan"] (lSp K z_givens):=by
 refine F.okD sc_givens (λds R h=>?_) (λM A outer s H E ds R c h=>?_)
 ·obtain⟨bs,rs,g,rfl,_⟩:=h;rfl
 obtain⟨bs,rs,g,rfl,O,L,q⟩:=h
 refine⟨_,(bI (dA (i:=1) sc_givens.nd rfl (Or.inr rfl) (aA (aa 0)))
   (bI (dA (i:=2) sc_givens.nd rfl (Or.inr rfl) (bM cZ rfl x KH (aN (aa 1) aX ae) ae ag))
   (bI (sX (i:=3) (k:=1) (N':=["place","n","bounds"]) (cap:=[none,some 2,some 1]) rfl sc_givens.nd rfl Wq (.ok (show bX ["plan","bounds","n","least_rows","most_rows"] (av jN) _ ["place","n","bounds"] [none,some 2,some 1]=true by lia)) (by lia) (bE (by decide)) (ir rfl p (af (dv 2) ak ae)) (λ_ _ _ _ _=>(bh (i:=0) (show List.Nodup (["place","n","bounds"]:List Str)by lia) rfl Wq)) (λ_ _ _ _ _=>(bx (af (bj u c rfl (af (dv 1) (af (dv 0) ak ae) ae) ae (ay ae ag)) (af (aA (PD.q (bD (aa 2) (aa 0) (λ_ _=>rfl)))) ak aG) bt))))
   (bI (wV (i:=4) (k:=1) (N':=["place","n","bounds"]) (cap:=[none,some 2,some 1]) rfl sc_givens.nd rfl Wq (.ok (show bX ["plan","bounds","n","least_rows","most_rows"] (av jN) _ ["place","n","bounds"] [none,some 2,some 1]=true by lia)) (by lia) (bE (by decide)) (ir rfl p (af (dv 2) ak ae)) (λ_ _ _ _ _=>(bh (i:=0) (show List.Nodup (["place","n","bounds"]:List Str)by lia) rfl Wq)) (λ_ _ _ _ _=>(ki (aV ef (PD.q (aA (PD.q (bD (aa 2) (aa 0) (λ_ _=>rfl))))) (PD.q bA) (aD _)))) (λ_ _ _ _ _=>(bj v c rfl (af (bx (af (bj u c rfl (af (dv 1) (af (dv 0) ak ae) ae) ae (ay ae ag)) (af (aA (PD.q (bD (aa 2) (aa 0) (λ_ _=>rfl)))) ak aG) bt)) ak bJ) bJ ag)))
   (aL (bp (aU kU (PD.q (aU kU (PD.q (b9 cN rfl o J8 (aN (aa 3) aX ae) ae ag)) (PD.q (b9 cN rfl o J8 (aN (aa 4) aX ae) ae ag)))) (PD.q (aA (aa 0)))))))))),?_⟩
 have r:((bs.map aS).length:Int)=(bs.length:Int):=by rw[JT]
 have C:(((bs.map aS).length:Nat):Int).toNat=bs.length:=by omega
 refine⟨_,rfl,⟨by omega,by omega⟩,?_⟩;refine km (λk=>az (fA bs k)) (bq (by omega)) (λk G=>⟨bs.length,k,by rw[r,KW],by omega,_,fZ (by omega) (KW _),_,rfl,rfl⟩) ?_;refine⟨⟨by omega,by omega⟩,by rw[gm];exact bq (by omega),iZ (cY bs) (λk=>az (cX bs k)),λk d hd=>?_,λys j I=>?_⟩
 ·obtain⟨G,rfl⟩:=gR hd
  have l:k<bs.length:=by omega
  refine⟨_,fZ l (KW _),_,rfl,?_⟩
  cases a:(ax bs k).2 with
  |none=>
   refine⟨λh=>(by cases h),λ_=>?_⟩;show cY bs k=false;unfold cY;rw[a];rfl
  |some m=>
   have e:cX bs k=lh (cC bs.length k,m):=by unfold cX;rw[a];rfl
   refine⟨λ_=>?_,λh=>(by cases h)⟩;refine⟨bs.length,k,by rw[r,KW],by omega,_,fZ l (KW _),_,(KO (λz=>cE [D.int (ax bs k).1,oI z] 1) a).trans rfl,(cC bs.length k,m),rfl,by rw[nM];omega,?_⟩;refine⟨KO az e.symm,?_⟩;unfold cY;rw[a];rfl
 rw[gm]at j;rw[j6 j I,C]
 have y:(List.range bs.length).map (λk=>az (fA bs k))=((List.range bs.length).map (fA bs)).map az:=by rw[KQ];rfl
 have B:((List.range bs.length).filter (cY bs)).map (λk=>az (cX bs k))=(((List.range bs.length).filter (cY bs)).map (cX bs)).map az:=by rw[KQ];rfl
 have N:((List.range bs.length).filter (cY bs)).length<=bs.length:=by
  have:=Lh (cY bs) (List.range bs.length)
  rwa [Km]at this
 rw[y,B];refine⟨?_,_,qI az _ _,_,rfl,?_,_,qI az _ _,q⟩
 ·rw[JT,JT,JT,JT,Km];exact hG (by omega)
 ·rw[JT,JT,JW,JT,JT,Km];exact hG (by omega)
abbrev Gn:=Nat×Int×List aw
def kr(g:Gn):D:=.tup [.int (g.1:Nat),.int g.2.1,.tup (g.2.2.map az)]
structure Led where
 bs:List Bd
 rs:List aw
 gl:List Int
 st:List Nat
 td:Int
 ln:List D
 lm:List D
 mm:List D
 rm:List D
 gs:List D
 ex:Int
 gn:List Gn
def bg(n:Nat):D:=.int (n:Nat)
def dZ(s:Led):List (Str×Fl):=[("bounds",.l (s.bs.map aS)),("rows",.l (s.rs.map az)),("goal",.v (.tup (s.gl.map D.int))),("staying",.l (s.st.map bg)),("told",.v (.int s.td)),("lines",.l s.ln),("least_marks",.l s.lm),("most_marks",.l s.mm),("row_marks",.l s.rm),("goal_shares",.l s.gs),("extra",.v (.int s.ex)),("gone",.l (s.gn.map kr))]
abbrev bQ(s:Led):Om:=.obj "Ledger" (dZ s)
def iN(s:Led):D:=.obj "Ledger" [("bounds",.lst (s.bs.map aS)),("rows",.lst (s.rs.map az)),("goal",.tup (s.gl.map D.int)),("staying",.lst (s.st.map bg)),("told",.int s.td),("lines",.lst s.ln),("least_marks",.lst s.lm),("most_marks",.lst s.mm),("row_marks",.lst s.rm),("goal_shares",.lst s.gs),("extra",.int s.ex),("gone",.lst (s.gn.map kr))]
def fe(a:D)(d:Int):D:=.tup [.str "cut",a,.int d]
def gC(s:Led)(a:D)(d:Int):Led:={ s with ln:=s.ln++[fe a d] }
def dq:∀d∈([]:List D),NoL d:=λd h=>by cases h
def bB{d:D}{ds:List D}(h:NoL d)(t:∀e∈ds,NoL e):∀e∈d::ds,NoL e:=λe a=>by
 rcases Kd.mp a with rfl|a
 ·exact h
 ·exact t e a
def mT{a:D}{d:Int}(h:NoL a):NoL (fe a d):=.tup (bB (.str _) (bB h (bB (.int _) dq)))
inductive y_Ledger__put_line(as:List Sm)(R:Sm->List Om->Prop)(Rx:XD->List Om->Prop):Prop|mk (a:Option Addr) (s:Led) (sh:D) (d:Int) (_:as=[.ob a (bQ s),.v sh,.v (.int d)]) (_:NoL sh) (_:s.ln.length<1000) (_:R (.v (.int (s.td+(s.ln.length:Nat)))) [bQ (gC s sh d)])
def Ja(F:Fun K "put_line" "Ledger.put_line" ny f J){j:Addr}(c:TxtLedger K mg j)(p:mg "len"=none):FnOk P w K mg base aI (n+1) f J ["self","shares","divisor"] (lSpM K y_Ledger__put_line):=by
 refine F.okM Ag (λas R o h=>?_) (λu A outer s H E as R o G v y h l=>?_)
 ·obtain⟨a,s,g,d,rfl,_⟩:=h;rfl
 obtain⟨a,s,g,d,rfl,r,x,q⟩:=h;obtain⟨C,rfl⟩:=eK l
 refine⟨_,(ar (rV 0 c.cl c.n_lines c.ns (bx (af jv (af (dv 1) (af (dv 2) ak ae) ae) aF)) (di bJ) bJ)
   (aQ (cw (cG (aU du (PD.q (aU cP (PD.q (aT c.cl c.n_told c.ns (aa 0))) (PD.q (bM cZ rfl p KH (aN (PD.q (aT c.cl c.n_lines c.ns (aa 0))) aX aP) aP ag)))) (PD.q ao)))))),?_⟩
 intro B;refine⟨_,_,s.ln,rfl,rfl,mT r,bq (by omega),dZ (gC s g d),rfl,?_⟩;refine⟨rfl,_,rfl,rfl,_,rfl,?_⟩;refine⟨.int _,_,rfl,?_⟩
 have e:s.td+(((gC s g d).ln.length:Nat):Int)-1=s.td+(s.ln.length:Nat):=by show s.td+(((s.ln++[fe g d]).length:Nat):Int)-1=_;rw[JW,KA];omega
 exact (KO (λz=>R (Sm.v (D.int z)) [bQ (gC s g d)]) e).mpr q
inductive y_Ledger__drop_row(as:List Sm)(R:Sm->List Om->Prop)(Rx:XD->List Om->Prop):Prop|mk (a:Option Addr) (s:Led) (p:Nat) (_:as=[.ob a (bQ s),.v (.int (p:Nat))]) (_:p<s.rs.length) (_:p<s.rm.length) (_:p<1000) (_:R (.v .non) [bQ { s with rs:=s.rs.eraseIdx p,rm:=s.rm.eraseIdx p }])
def Bv(F:Fun K "drop_row" "Ledger.drop_row" nh f J){e:Addr}(c:TxtLedger K mg e):FnOk P w K mg base aI (n+1) f J ["self","place"] (lSpM K y_Ledger__drop_row):=by
 refine F.okM C9 (λas R j h=>?_) (λo A outer s H E as R j B r x h g=>?_)
 ·obtain⟨a,s,p,rfl,_⟩:=h;rfl
 obtain⟨a,s,p,rfl,u,l,v,q⟩:=h;obtain⟨z,rfl⟩:=eK g
 refine⟨_,(ar (fW (xu 0 c.cl c.n_rows c.ns (dv 1) (di ae) ae))
   (aQ (fW (xu 0 c.cl c.n_row_marks c.ns (dv 1) (di ae) ae)))),?_⟩
 intro y;refine⟨_,_,s.rs.map az,rfl,rfl,p,_,rfl,by omega,bK (by rwa[JT]),dZ { s with rs:=s.rs.eraseIdx p },by rw[nK];rfl,?_⟩;refine⟨_,_,s.rm,rfl,rfl,p,_,rfl,by omega,bK l,dZ { s with rs:=s.rs.eraseIdx p,rm:=s.rm.eraseIdx p },rfl,?_⟩;exact⟨_,rfl,q⟩
inductive z_common_of_two(ds:List D)(R:D->Prop):Prop|mk (a b:Int) (_:ds=[.int a,.int b]) (_:R (.int (Int.gcd a b)))
def zj(F:Fun K "common_of_two" "common_of_two" nZ f J)(o:mg "abs"=none):FnOk P w K mg base aI (n+1) f J ["one","other"] (lSp K z_common_of_two):=by
 refine F.okD sc_common_of_two (λds R h=>?_) (λI A outer s H E ds R C h=>?_)
 ·obtain⟨a,b,rfl,_⟩:=h;rfl
 obtain⟨a,b,rfl,q⟩:=h
 refine⟨_,(bI (dA (i:=2) sc_common_of_two.nd rfl Wq (bM nR rfl o Mm (aN (aa 0) aX ae) ae ag))
   (bI (dA (i:=3) sc_common_of_two.nd rfl Wq (bM nR rfl o Mm (aN (aa 1) aX ae) ae ag))
   (bI (DR Ki (aV (gj C.units) (aa 3) (PD.q ao) (aD _)) (bI (dA (i:=4) sc_common_of_two.nd rfl Wq (aU jb (aa 2) (aa 3)))
   (bI (dA (i:=2) sc_common_of_two.nd rfl Wq (dv 3))
   (aL (dA (i:=3) sc_common_of_two.nd rfl Wq (dv 4))))))
   (aL (bp (dv 2)))))),?_⟩
 refine⟨λm ρ=>∃(g l:Int)(p:Option Sl),ρ=[some (.v (.int a)),some (.v (.int b)),some (.v (.int g)),some (.v (.int l)),p]/\m=l.toNat/\0<=g/\0<=l/\Int.gcd g l=Int.gcd a b,⟨_,_,_,_,rfl,rfl,by split<;>omega,by split<;>omega,?_⟩,?_⟩
 ·have j:∀x:Int,(if x<0 then -x else x)=(x.natAbs:Int):=λx=>by split<;>omega
  rw[j,j];unfold Int.gcd;simp
 rintro m ρ ⟨g,l,p,rfl,rfl,z,B,e⟩;refine⟨λh=>?_,λh=>?_⟩
 ·have G:l≠0:=λr=>by rw[r]at h;cases h
  have c:0<l:=by omega
  have j:=Nl g c;have y:=NQ g (b:=l) (by omega);exact⟨c,(g % l).toNat,by omega,l,g % l,_,rfl,rfl,B,y,(yU z c).trans e⟩
 ·have v:l=0:=by have:(!(l==0))=false:=h;simp at this;exact this
  subst v
  have u:g=(Int.gcd a b:Int):=by rw[←e];simp;omega
  rwa[u]
inductive z_common(ds:List D)(R:D->Prop):Prop|mk (ns:List Int) (_:ds=[.tup (ns.map D.int)]) (_:R (.int (bw ns)))
def Dj(F:Fun K "common" "common" nV f J)(c:Cl P w K mg base n "common_of_two" ["one","other"] z_common_of_two):FnOk P w K mg base aI (n+1) f J ["numbers"] (lSp K z_common):=by
 refine F.okD sc_common (λds R h=>?_) (λj A outer s H E ds R g h=>?_)
 ·obtain⟨ns,rfl,_⟩:=h;rfl
 obtain⟨ns,rfl,q⟩:=h
 refine⟨_,(bI (dA (i:=1) sc_common.nd rfl Wq ao)
   (bI (fj Ki rfl (cb (dv 0)) (bh (i:=2) sc_common.nd rfl Wq) (aL (dA (i:=1) sc_common.nd rfl Wq (bj c g rfl (af (dv 2) (af (dv 1) ak ae) ae) ae (ay ae ag)))))
   (aL (bp (dv 1))))),?_⟩
 refine⟨λi ρ=>∃a:Option Sl,ρ=[some (.v (.tup (ns.map D.int))),some (.v (.int (bw (ns.take i)))),a],⟨_,rfl⟩,?_,?_⟩
 ·rintro i d ρ hd ⟨a,rfl⟩;obtain⟨k,rfl,e⟩:=bP hd;refine⟨_,_,rfl,some (.v (.int k)),?_⟩;rw[hX e,CH];rfl
 ·rintro ρ ⟨a,rfl⟩;rwa[JT,LF]
inductive z_up(ds:List D)(R:D->Prop):Prop|mk (a d:Int) (_:ds=[.int a,.int d]) (_:1<=d) (_:d<2^9000) (_:R (.int (-(-a/d))))
def EZ(F:Fun K "up" "up" pb f J) :FnOk P w K mg base aI (n+1) f J ["top","bottom"] (lSp K z_up):=by
 refine F.okD Js (λds R h=>?_) (λe A outer s H E ds R j h=>?_)
 ·obtain⟨a,d,rfl,_⟩:=h;rfl
 obtain⟨a,d,rfl,g,c,q⟩:=h
 refine⟨_,(fJ (cH (aV iE (aa 1) (PD.q ao) (aD _)) (aL G1) cJ)
   (aL (bp (eI (PD.q (aU qu (PD.q (eI (aa 0))) (aa 1))))))),?_⟩
 refine⟨λρ=>ρ=[some (.v (.int a)),some (.v (.int d))],⟨λh=>absurd (dP h) (by omega),λ_=>rfl⟩,?_⟩;rintro ρ rfl;exact⟨CDivB.of (by omega) c,q⟩
def gh(r:aw):aw:=if bw r.1=0 then r else (r.1.map (·/bw r.1),-(-r.2/bw r.1))
inductive z_evened(ds:List D)(R:D->Prop):Prop|mk (r:aw) (_:ds=[az r]) (_:r.1.length<=1000) (_:0<=bw r.1) (_:bw r.1<2^9000) (_:R (az (gh r)))
def Gz(F:Fun K "evened" "evened" k7 f J)(u:Cl P w K mg base n "common" ["numbers"] z_common)(p:Cl P w K mg base n "up" ["top","bottom"] z_up)(j:mg "tuple"=none):FnOk P w K mg base aI (n+1) f J ["row"] (lSp K z_evened):=by
 refine F.okD sc_evened (λds R h=>?_) (λv A outer s H E ds R a h=>?_)
 ·obtain⟨r,rfl,_⟩:=h;rfl
 obtain⟨r,rfl,l,y,c,q⟩:=h
 refine⟨_,(bI (dA (i:=1) sc_evened.nd rfl (Or.inr rfl) (bj u a rfl (af (aA (aa 0)) ak aG) aG ag))
   (fJ (cH (aV (dw a.units) (aa 1) (PD.q ao) (aD _)) (aL (bp (dv 0))) cJ)
   (aL (bp (bx (af (b9 cN rfl j J8 (aN (PD.q (PF.d (de (k:=1) (N':=["entry","divisor"]) (cap:=[none,some 1]) rfl (.ok (show bX ["row","divisor"] (av k7) _ ["entry","divisor"] [none,some 1]=true by lia)) (by lia) (bE (by decide)) (cb (aA (aa 0))) (λ_ _ _ _ _=>(bh (i:=0) (show List.Nodup (["entry","divisor"]:List Str)by lia) rfl Wq)) (λ_ _ _ _ _=>(aU qu (aa 0) (aa 1)))))) aX bC) bC ag) (af (bj p a rfl (af (aA (aa 0)) (af (dv 1) ak ae) aG) aG (ay ae ag)) ak bt) bt)))))),?_⟩
 refine⟨_,rfl,r.1,rfl,?_⟩;refine⟨λρ=>bw r.1≠0/\ρ=[some (.v (az r)),some (.v (.int (bw r.1)))],⟨λh=>?_,λh=>⟨?_,rfl⟩⟩,?_⟩
 ·have e:bw r.1=0:=eq_of_beq h
  have:gh r=r:=by unfold gh;rw[J9 e]
  rw[this]at q;exact q
 ·intro e;have h':(bw r.1==0)=false:=h;rw[e]at h';cases h'
 rintro ρ ⟨g,rfl⟩
 have o:0<bw r.1:=by omega
 refine⟨_,rfl,?_⟩;refine jV (f:=D.int) (λx=>x/bw r.1) (bq l) (λx _=>⟨CDivB.of o c,rfl⟩) ?_;refine⟨_,rfl,r.2,bw r.1,rfl,by omega,c,?_⟩
 have:gh r=(r.1.map (·/bw r.1),-(-r.2/bw r.1)):=by unfold gh;rw[JZ g]
 rw[this]at q;exact q
inductive z_without(ds:List D)(R:D->Prop):Prop|mk (es:List Int) (u:Nat) (_:ds=[.tup (es.map D.int),.int (u:Nat)]) (_:es.length<=1000) (_:R (.tup ((es.set u 0).map D.int)))
def Bx(F:Fun K "without" "without" k6 f J)(g:mg "tuple"=none)(j:mg "enumerate"=none):FnOk P w K mg base aI (n+1) f J ["entries","unknown"] (lSp K z_without):=by
 refine F.okD FA (λds R h=>?_) (λr A outer s H E ds R p h=>?_)
 ·obtain⟨es,u,rfl,_⟩:=h;rfl
 obtain⟨es,u,rfl,o,q⟩:=h;refine⟨_,(aL (bp (b9 cN rfl g J8 (aN (PD.q (PF.d (de (k:=2) (N':=["place","entry","unknown"]) (cap:=[none,none,some 1]) rfl (.ok (show bX ["entries","unknown"] (av k6) _ ["place","entry","unknown"] [none,none,some 1]=true by lia)) (by lia) (iA (n:=2) (eo (bE (by decide)) (eo (bE (by decide)) iG))) (gL rfl j (af (dv 0) ak ae)) (λ_ _ _ _ _=>(eu (n:=2) rfl (bR (bh (i:=0) (show List.Nodup (["place","entry","unknown"]:List Str)by lia) rfl Wq) (bR (bh (i:=1) (show List.Nodup (["place","entry","unknown"]:List Str)by lia) rfl Wq) eG)))) (λ_ _ _ _ _=>(oF (aV (dw p.units) (aa 0) (aa 2) (aD _)) ao (dv 1)))))) aX bC) bC ag))),?_⟩;refine sW ((es.set u 0).map D.int) (by rw[eY,JT,JT,JX]) (by rw[eY,JT];exact bq o) (λi y=>((es.set u 0).map D.int)[i]?=some y) (λi y h=>h) (λi d hd=>?_) q;obtain⟨e,l,rfl⟩:=gH hd;obtain⟨x,rfl,a⟩:=bP l;by_cases c:i=u
 ·subst c;refine⟨rfl,λ_=>?_,λh=>?_⟩
  ·show ((es.set i 0).map D.int)[i]?=some (D.int 0);rw[J7,Kj (aE a)];rfl
  ·have h':((i:Int)==(i:Int))=false:=h;rw[KC]at h';cases h'
 ·refine⟨rfl,λh=>?_,λ_=>?_⟩
  ·have h':((i:Int)==(u:Int))=true:=h;have:=eq_of_beq h';omega
  ·show ((es.set u 0).map D.int)[i]?=some (D.int x);rw[J7,Kh (λe=>c e.symm),a];rfl
def dF(es:List Int):List Nat:=(List.range es.length).filter λi=>decide (es.getD i 0≠0)
def Et{es:List Int}{ys:List (Option D)}(a:ys.length=es.length)(c:∀i y,ys[i]?=some y->iZ (λi=>decide (es.getD i 0≠0)) (λi=>bg i) i y):ys.filterMap id=(dF es).map bg:=j6 a c
inductive z_only_unknown(ds:List D)(R:D->Prop):Prop|mk (es:List Int) (u:Nat) (_:ds=[.tup (es.map D.int)]) (_:es.length<=1000) (_:(dF es)[0]?=some u) (_:R (bg u))
def AB(F:Fun K "only_unknown" "only_unknown" l0 f J)(c:mg "enumerate"=none):FnOk P w K mg base aI (n+1) f J ["entries"] (lSp K z_only_unknown):=by
 refine F.okD EL (λds R h=>?_) (λr A outer s H E ds R j h=>?_)
 ·obtain⟨es,u,rfl,_⟩:=h;rfl
 obtain⟨es,u,rfl,v,l,q⟩:=h;refine⟨_,(aL (bp (aA (PD.q (PF.d (rX (k:=2) (N':=["place","entry"]) (cap:=[none,none]) rfl (.ok (show bX ["entries"] (av l0) _ ["place","entry"] [none,none]=true by lia)) (by lia) (iA (n:=2) (eo (bE (by decide)) (eo (bE (by decide)) iG))) (gL rfl c (af (dv 0) ak ae)) (λ_ _ _ _ _=>(eu (n:=2) rfl (bR (bh (i:=0) (show List.Nodup (["place","entry"]:List Str)by lia) rfl Wq) (bR (bh (i:=1) (show List.Nodup (["place","entry"]:List Str)by lia) rfl Wq) eG)))) (λ_ _ _ _ _=>(ki (aV (gj j.units) (aa 1) (PD.q ao) (aD _)))) (λ_ _ _ _ _=>(dv 0)))))))),?_⟩;refine⟨by rw[eY,JT];exact bq (by omega),iZ (λi=>decide (es.getD i 0≠0)) (λi=>bg i),λi d hd=>?_,λys a p=>?_⟩
 ·obtain⟨e,g,rfl⟩:=gH hd;obtain⟨x,rfl,o⟩:=bP g;have ex:es.getD i 0=x:=fq o;refine⟨rfl,λh=>⟨rfl,?_⟩,λh=>?_⟩
  ·show decide (es.getD i 0≠0)=true;rw[ex]
   exact KZ λe=>by rw[e]at h;cases h
  ·show decide (es.getD i 0≠0)=false;rw[ex];refine Ku λe=>?_;have h':(!(x==0))=false:=h
   have:(x==0)=true:=by simpa using h'
   exact e (eq_of_beq this)
 rw[eY,JT]at a;rw[Et a p];exact⟨_,cR (i:=0) l rfl,q⟩
def jq(bs:List Bd):Nat:=(bs.filter λb=>b.2.isSome).length
def gE(bs:List Bd)(i:Nat):D:=if (ax bs i).2.isSome then .int (bs.length+jq (bs.take i):Nat) else .non
def pq(bs:List Bd):List D:=(List.range bs.length).map (gE bs)
def tU{bs:List Bd}{i:Nat}{b:Bd}(h:bs[i]?=some b):jq (bs.take (i+1))=jq (bs.take i)+if b.2.isSome then 1 else 0:=by unfold jq;rw[hX h,MD,JW];congr 1;cases e:b.2.isSome<;>simp[e]
inductive y_first_most_marks(as:List Sm)(R:Sm->List Om->Prop)(Rx:XD->List Om->Prop):Prop|mk (bs:List Bd) (_:as=[.v (.tup (bs.map aS))]) (_:bs.length<=1000) (_:R (.ob none (.lst (pq bs))) [])
def yp(F:Fun K "first_most_marks" "first_most_marks" oZ f J)(p:mg "len"=none):FnOk P w K mg base aI (n+1) f J ["bounds"] (lSpM K y_first_most_marks):=by
 refine F.okM sc_first_most_marks (λas R o h=>?_) (λr A outer s H E as R o z u x h l=>?_)
 ·obtain⟨bs,rfl,_⟩:=h;rfl
 obtain⟨bs,rfl,v,q⟩:=h;obtain rfl:=jc l
 refine⟨_,(ar (aM (i:=1) sc_first_most_marks.nd rfl Wq (dB (dh ak)))
   (ar (aM (i:=2) sc_first_most_marks.nd rfl Wq (ah (bM cZ rfl p KH (aN (aa 0) aX ae) ae ag)))
   (ar (eP Ki rfl (eT (cb (dv 0))) (cD (i:=3) sc_first_most_marks.nd rfl Wq) (aQ (b7 (bY (aV gX (PD.q (aA (aa 3))) (PD.q bA) (aD _))) (aQ (gp 1 (ah bA) (di aF) aF)) (ar (gp 1 (ah (dv 2)) (di ae) ae)
   (aQ (aM (i:=2) sc_first_most_marks.nd rfl Wq (ah (aU cP (aa 2) (PD.q ao)))))))))
   (aQ (cw (jY 1)))))),?_⟩
 intro y;refine⟨λi ρ=>∃e:Option Sm,ρ=[some (.v (.tup (bs.map aS))),some (.own ((List.range i).map (gE bs))),some (.v (.int (bs.length+jq (bs.take i):Nat))),e],⟨none,?_⟩,?_,?_⟩
 ·show [_,_,_,_]=_
  have:(((bs.map aS).length:Nat):Int)=((bs.length+jq (bs.take 0):Nat):Int):=by rw[JT];rfl
  rw[←this];rfl
 ·rintro i d ρ hd ⟨e,rfl⟩;obtain⟨b,rfl,a⟩:=bP hd;have g:ax bs i=b:=fq a
  have j:(List.range (i+1)).map (gE bs)=(List.range i).map (gE bs)++[gE bs i]:=by rw[Me,Lc];rfl
  have hsz:((List.range i).map (gE bs)).length<sizeLine:=by have:=aE a;rw[JT,Km];exact bq (by omega)
  refine⟨oI b.2,rfl,?_⟩
  cases c:b.2 with
  |none=>
   refine⟨λ_=>?_,λh=>(by cases h)⟩;refine⟨hsz,_,rfl,some (.v (aS b)),?_⟩;rw[j,tU a,c]
   have:gE bs i=.non:=by unfold gE;rw[g,c];rfl
   rw[this];rfl
  |some m=>
   refine⟨λh=>(by cases h),λ_=>?_⟩;refine⟨hsz,_,rfl,some (.v (aS b)),?_⟩;rw[j,tU a,c]
   have:gE bs i=.int (bs.length+jq (bs.take i):Nat):=by unfold gE;rw[g,c];rfl
   rw[this];rfl
 ·rintro ρ ⟨e,rfl⟩;rwa[JT]
def eQ(s:Led)(u:Nat)(e:Int):D:=if 0<e then .tup [s.mm.getD u .non,.int e] else .tup [s.lm.getD u .non,.int (-e)]
inductive z_Ledger__bound_share(ds:List D)(R:D->Prop):Prop|mk (s:Led) (u:Nat) (e:Int) (_:ds=[iN s,bg u,.int e]) (_:u<s.mm.length) (_:u<s.lm.length) (_:R (eQ s u e))
def Dw(F:Fun K "bound_share" "Ledger.bound_share" nt f J){c:Addr}(a:TxtLedger K mg c):FnOk P w K mg base aI (n+1) f J ["self","unknown","entry"] (lSp K z_Ledger__bound_share):=by
 refine F.okD Fx (λds R h=>?_) (λo A outer s H E ds R p h=>?_)
 ·obtain⟨s,u,e,rfl,_⟩:=h;rfl
 obtain⟨s,u,e,rfl,g,j,q⟩:=h
 refine⟨_,(fJ (cH (aV fm (aa 2) (PD.q ao) (aD _)) (aL (bp (bx (af (bD (PD.q (aT a.cl a.n_most_marks a.ns (aa 0))) (aa 1) (λ_ _=>rfl)) (af (dv 2) ak ae) aG)))) cJ)
   (aL (bp (bx (af (bD (PD.q (aT a.cl a.n_least_marks a.ns (aa 0))) (aa 1) (λ_ _=>rfl)) (af (eI (aa 2)) ak iS) aG))))),?_⟩
 refine⟨λρ=>¬ 0<e/\ρ=[some (.v (iN s)),some (.v (bg u)),some (.v (.int e))],⟨λh=>?_,λh=>⟨?_,rfl⟩⟩,?_⟩
 ·have h:=dP h;unfold eQ at q;rw[J9 h]at q;exact⟨rfl,_,rfl,s.mm.getD u .non,gc (bZ g) rfl,q⟩
 ·exact Li h
 rintro ρ ⟨l,rfl⟩;unfold eQ at q;rw[JZ l]at q;exact⟨rfl,_,rfl,s.lm.getD u .non,gc (bZ j) rfl,q⟩
def gx(s:Led)(u:Nat)(l:Int)(rs:List aw):Led:={ s with st:=s.st.erase u,gn:=s.gn++[(u,l,rs)] }
def Am{st:List Nat}{u:Nat}(h:u∈st):∃k,st[k]?=some u/\(∀m<k,st[m]?≠some u)/\st.eraseIdx k=st.erase u:=by
 induction st with
 |nil=>cases h
 |cons x st o=>
  by_cases c:x=u
  ·subst c;exact⟨0,rfl,λm a=>absurd a (K3 _),by rw[List.erase_cons_head];rfl⟩
  ·obtain⟨k,g,j,l⟩:=o ((Kd.mp h).resolve_left λe=>c e.symm);refine⟨k+1,g,λm a=>?_,?_⟩
   ·cases m with
    |zero=>intro e;exact c (Kv e)
    |succ m=>exact j m (by omega)
   ·rw[List.erase_cons_tail (by simpa using c),←l];rfl
def qD(rs:List aw):∀d∈rs.map az,NoL d:=λd hd=>by obtain⟨r,_,rfl⟩:=Kf.mp hd;exact .tup (bB (.tup λe a=>by obtain⟨x,_,rfl⟩:=Kf.mp a;exact .int x) (bB (.int _) dq))
def nY(r:aw):NoL (az r):=qD [r] _ (by simp)
def mF(st:List Nat):st.map bg=(st.map λn:Nat=>(n:Int)).map D.int:=by rw[KQ];rfl
inductive y_Ledger__let_go(as:List Sm)(R:Sm->List Om->Prop)(Rx:XD->List Om->Prop):Prop|mk (a:Option Addr) (s:Led) (u:Nat) (l:Int) (rs:List aw) (_:as=[.ob a (bQ s),.v (bg u),.v (.int l),.v (.lst (rs.map az))]) (_:u∈s.st) (_:s.gn.length<1000) (_:R (.v .non) [bQ (gx s u l rs)])
def D7(F:Fun K "let_go" "Ledger.let_go" mE f J){j:Addr}(c:TxtLedger K mg j)(r:mg "tuple"=none):FnOk P w K mg base aI (n+1) f J ["self","unknown","least","rows"] (lSpM K y_Ledger__let_go):=by
 refine F.okM I0 (λas R p h=>?_) (λG A outer s H E as R p Q I M h o=>?_)
 ·obtain⟨a,s,u,l,rs,rfl,_⟩:=h;rfl
 obtain⟨a,s,u,l,rs,rfl,C,L,q⟩:=h;obtain⟨O,rfl⟩:=eK o
 refine⟨_,(ar (rV 0 c.cl c.n_gone c.ns (bx (af (dv 1) (af (dv 2) (af (b9 cN rfl r J8 (aN (aa 3) aX ae) ae ag) ak bt) ae) ae)) (di bJ) bJ)
   (aQ (Ea 0 c.cl c.n_staying c.ns (dv 1) (di ae) ae))),?_⟩
 intro N;refine⟨_,_,s.gn.map kr,rfl,rfl,.tup (bB (.int _) (bB (.int _) (bB (.tup (qD rs)) dq))),by rw[JT];exact bq (by omega),dZ { s with gn:=s.gn++[(u,l,rs)] },by rw[show s.gn.map kr++[D.tup [bg u,D.int l,D.tup (rs.map az)]]=(s.gn++[(u,l,rs)]).map kr from by rw[Lc];rfl];rfl,?_⟩;obtain⟨k,v,y,z⟩:=Am C;refine⟨_,_,s.st.map bg,rfl,rfl,s.st.map (λn:Nat=>(n:Int)),u,k,rfl,mF s.st,by rw[J7,v];rfl,λm B e=>?_,dZ (gx s u l rs),?_,?_⟩
 ·rw[J7]at e
  cases g:s.st[m]? with
  |none=>rw[g]at e;cases e
  |some x=>
   rw[g]at e;have:(x:Int)=(u:Int):=Kv e;exact y m B (by rw[g];congr 1;omega)
 ·rw[nK,z,←mF];rfl
 ·exact⟨_,rfl,q⟩
def gI(d:D):D:=.tup [.tup [d,.int 1]]
def kD{d:D}(h:NoL d):NoL (gI d):=.tup (bB (.tup (bB h (bB (.int _) dq))) dq)
def gu(s:Led):D:=.int (s.td+(s.ln.length:Nat))
def jo(s:Led)(p:Nat)(r:aw):Led:={ s with ln:=s.ln++[fe (gI (s.rm.getD p .non)) (bw r.1)],rm:=s.rm.set p (gu s),rs:=s.rs.set p (gh r) }
inductive y_Ledger__even_row(as:List Sm)(R:Sm->List Om->Prop)(Rx:XD->List Om->Prop):Prop|mk (a:Option Addr) (s:Led) (p:Nat) (r:aw) (_:as=[.ob a (bQ s),.v (bg p)]) (_:s.rs[p]?=some r) (_:p<s.rm.length) (_:(∀d∈s.rm,NoL d)) (_:s.ln.length<1000) (_:r.1.length<=1000) (_:0<=bw r.1) (_:bw r.1<2^9000) (_:R (.v .non) [bQ (jo s p r)])
def Dh(F:Fun K "even_row" "Ledger.even_row" mW f J){j:Addr}(c:TxtLedger K mg j)(v:Cl P w K mg base n "evened" ["row"] z_evened)(L:Cl P w K mg base n "common" ["numbers"] z_common)(z:MthM P w K mg base n j "put_line" ["self","shares","divisor"] y_Ledger__put_line):FnOk P w K mg base aI (n+1) f J ["self","place"] (lSpM K y_Ledger__even_row):=by
 refine F.okM sc_Ledger__even_row (λas R B h=>?_) (λM A outer s H E as R B S N g h x=>?_)
 ·obtain⟨a,s,p,r,rfl,_⟩:=h;rfl
 obtain⟨a,s,p,r,rfl,l,e,u,I,y,C,G,q⟩:=h;obtain⟨Q,rfl⟩:=eK x
 refine⟨_,(ar (aM (i:=2) sc_Ledger__even_row.nd rfl Wq (cG (bD (PD.q (aT c.cl c.n_rows c.ns (aa 0))) (aa 1) (λ_ _=>rfl))))
   (ar (i7 0 c.cl c.n_row_marks c.ns (eX 0 z g c.cl c.ns (aJ (cG (bx (af (bx (af (bD (PD.q (aT c.cl c.n_row_marks c.ns (aa 0))) (aa 1) (λ_ _=>rfl)) (af ao ak aF) aG)) ak bJ))) (aJ (ah (bj L g rfl (af (aA (aa 2)) ak aG) aG ag)) bo bt) bJ) bJ (ay bt ag)) (dv 1))
   (aQ (i7 0 c.cl c.n_rows c.ns (ah (bj v g rfl (af (dv 2) ak ae) ae ag)) (dv 1))))),?_⟩
 intro O;have o:s.rm.getD p .non∈s.rm:=c8 e;refine⟨rfl,_,rfl,az r,cR l rfl,nY r,?_⟩;refine⟨⟨_,_,rfl,rfl⟩,rfl,_,rfl,s.rm.getD p .non,gc (bZ e) rfl,kD (u _ o),_,rfl,r.1,rfl,_,rfl,rfl,_,s,_,_,rfl,kD (u _ o),I,?_⟩;rfl';refine⟨_,_,s.rm,rfl,rfl,_,p,rfl,e7 e,dZ { s with ln:=s.ln++[fe (gI (s.rm.getD p .non)) (bw r.1)],rm:=s.rm.set p (gu s) },rfl,?_⟩;refine⟨r,rfl,y,C,G,_,_,s.rs.map az,rfl,rfl,_,p,rfl,e7 (by rw[JT];exact aE l),dZ (jo s p r),by rw[←LJ];rfl,?_⟩;exact⟨_,rfl,q⟩
def fi(a d:Int):Int:=-(-a/d)
def cm(s:Led)(p u:Nat)(r:aw):Led:=
 if 0<r.1.getD u 0/\(ax s.bs u).1<fi r.2 ((r.1.getD u 0).natAbs:Int) then { s with bs:=s.bs.set u (fi r.2 ((r.1.getD u 0).natAbs:Int),(ax s.bs u).2),ln:=s.ln++[fe (gI (s.rm.getD p .non)) (r.1.getD u 0)],lm:=s.lm.set u (gu s) }
 else if r.1.getD u 0<0/\(∀m,(ax s.bs u).2=some m->-fi r.2 ((r.1.getD u 0).natAbs:Int)<m) then { s with bs:=s.bs.set u ((ax s.bs u).1,some (-fi r.2 ((r.1.getD u 0).natAbs:Int))),ln:=s.ln++[fe (gI (s.rm.getD p .non)) (-r.1.getD u 0)],mm:=s.mm.set u (gu s) }
 else s
def cg(s:Led)(p:Nat):Led:={ s with rs:=s.rs.eraseIdx p,rm:=s.rm.eraseIdx p }
def kZ(s:Led)(p u:Nat)(r:aw):Led:=cg (cm s p u r) p
def vf(s:Led)(p u:Nat)(r:aw):(cm s p u r).rs=s.rs/\(cm s p u r).rm=s.rm:=by
 unfold cm;split
 ·exact⟨rfl,rfl⟩
 ·split<;>exact⟨rfl,rfl⟩
inductive y_Ledger__turn_to_bound(as:List Sm)(R:Sm->List Om->Prop)(Rx:XD->List Om->Prop):Prop|mk (a:Option Addr) (s:Led) (p u:Nat) (r:aw) (_:as=[.ob a (bQ s),.v (bg p)]) (_:s.rs[p]?=some r) (_:p<s.rm.length) (_:p<1000) (_:(∀d∈s.rm,NoL d)) (_:s.ln.length<1000) (_:r.1.length<=1000) (_:(dF r.1)[0]?=some u) (_:u<s.bs.length) (_:u<s.lm.length) (_:u<s.mm.length) (_:(∀x∈r.1,x.natAbs<2^9000)) (_:R (.v .non) [bQ (kZ s p u r)])
def Ga(F:Fun K "turn_to_bound" "Ledger.turn_to_bound" pO f J){L:Addr}(c:TxtLedger K mg L)(Y:Cl P w K mg base n "only_unknown" ["entries"] z_only_unknown)(mB:Cl P w K mg base n "up" ["top","bottom"] z_up)(Og:MthM P w K mg base n L "drop_row" ["self","place"] y_Ledger__drop_row)(Q:MthM P w K mg base n L "put_line" ["self","shares","divisor"] y_Ledger__put_line)(iw:mg "abs"=none):FnOk P w K mg base aI (n+1) f J ["self","place"] (lSpM K y_Ledger__turn_to_bound):=by
 refine F.okM sc_Ledger__turn_to_bound (λas R Rx h=>?_) (λOh A outer s H E as R Rx qs Ot v h Z=>?_)
 ·obtain⟨a,s,p,u,r,rfl,_⟩:=h;rfl
 obtain⟨a,s,p,u,r,rfl,S,U,Pd,hm,I,OK,X,Sz,Qa,T,h9,q⟩:=h;obtain⟨pa,rfl⟩:=eK Z
 refine⟨_,(ar (aM (i:=2) sc_Ledger__turn_to_bound.nd rfl Wq (cG (bD (PD.q (aT c.cl c.n_rows c.ns (aa 0))) (aa 1) (λ_ _=>rfl))))
   (ar (aM (i:=3) sc_Ledger__turn_to_bound.nd rfl Wq (cG (bD (PD.q (aT c.cl c.n_row_marks c.ns (aa 0))) (aa 1) (λ_ _=>rfl))))
   (ar (aM (i:=4) sc_Ledger__turn_to_bound.nd rfl Wq (ah (bj Y v rfl (af (aA (aa 2)) ak aG) aG ag)))
   (ar (aM (i:=5) sc_Ledger__turn_to_bound.nd rfl Wq (ah (bD (PD.q (aA (aa 2))) (aa 4) (λ_ _=>rfl))))
   (ar (aM (i:=6) sc_Ledger__turn_to_bound.nd rfl Wq (cG (bD (PD.q (aT c.cl c.n_bounds c.ns (aa 0))) (aa 4) (λ_ _=>rfl))))
   (ar (aM (i:=7) sc_Ledger__turn_to_bound.nd rfl Wq (ah (bj mB v rfl (af (aA (aa 2)) (af (bM nR rfl iw Mm (aN (aa 5) aX ae) ae ag) ak bt) aG) aG (ay bt ag))))
   (cI (b7 (bY (PWD.td (fK (aV fm (aa 5) (PD.q ao) (aD _)) (ik (aV fm (aa 7) (PD.q (aA (aa 6))) (aD _)))))) (ar (i7 0 c.cl c.n_bounds c.ns (ah (bx (af (dv 7) (af (aA (aa 6)) ak aG) ae))) (dv 4))
   (aQ (i7 0 c.cl c.n_least_marks c.ns (eX 0 Q v c.cl c.ns (aJ (ah (bx (af (bx (af (dv 3) (af ao ak aF) ae)) ak bJ))) (aJ (ah (dv 5)) bo ae) bJ) bJ (ay ae ag)) (dv 4)))) (aQ (b7 (bY (PWD.td (fK (aV iE (aa 5) (PD.q ao) (aD _)) (ik (PWD.td (fv (aV gX (PD.q (aA (aa 6))) (PD.q bA) (aD _)) (jl (aV iE (PD.q (eI (aa 7))) (PD.q (aA (aa 6))) (aD _))))))))) (ar (i7 0 c.cl c.n_bounds c.ns (ah (bx (af (aA (aa 6)) (af (eI (aa 7)) ak iS) aG))) (dv 4))
   (aQ (i7 0 c.cl c.n_most_marks c.ns (eX 0 Q v c.cl c.ns (aJ (ah (bx (af (bx (af (dv 3) (af ao ak aF) ae)) ak bJ))) (aJ (ah (eI (aa 5))) bo iS) bJ) bJ (ay iS ag)) (dv 4)))) cq)))
   (aQ (fW (eX 0 Og v c.cl c.ns (aJ (ah (dv 1)) bo ae) ae ag)))))))))),?_⟩
 intro ke;have y:NoL (s.rm.getD p .non):=hm _ (c8 U);have TC:u∈dF r.1:=J0 X;obtain⟨B,N⟩:=KL.mp TC;have B:u<r.1.length:=Kt.mp B;have OH:r.1.getD u 0≠0:=K9 N;refine⟨rfl,_,rfl,az r,cR S rfl,nY r,?_⟩;refine⟨rfl,_,rfl,s.rm.getD p .non,gc (bZ U) rfl,y,?_⟩;refine⟨_,rfl,r.1,u,rfl,OK,X,?_⟩;refine⟨_,rfl,_,cR (i:=u) (bZ (d:=0) B) rfl,?_⟩;refine⟨rfl,_,rfl,aS (ax s.bs u),fZ Sz rfl,.tup (bB (.int _) (bB (by cases (ax s.bs u).2<;>constructor) dq)),?_⟩
 have VH:(if r.1.getD u 0<0 then -r.1.getD u 0 else r.1.getD u 0)=((r.1.getD u 0).natAbs:Int):=by split<;>omega
 have VI:(((r.1.getD u 0).natAbs:Nat):Int)<2^9000:=by exact_mod_cast h9 _ (c8 B)
 refine⟨_,rfl,r.2,((r.1.getD u 0).natAbs:Int),KO (λz=>[D.int r.2,D.int z]) VH,by omega,VI,?_⟩;generalize o:r.1.getD u 0=e at *;generalize hb:(-(-r.2/((e.natAbs:Nat):Int)))=b at *;have l:fi r.2 ((e.natAbs:Nat):Int)=b:=hb;refine⟨λρ=>ρ=[some (.ob (some pa) (bQ (cm s p u r))),some (.v (bg p)),some (.v (az r)),some (.v (s.rm.getD p .non)),some (.v (bg u)),some (.v (.int e)),some (.v (aS (ax s.bs u))),some (.v (.int b))],?_,?_⟩
 ·have hs1:s.ln.length<1000:=I;by_cases j:0<e
  ·refine⟨λ_=>⟨_,rfl,?_⟩,λh=>absurd j (Li h)⟩;by_cases C:(ax s.bs u).1<b
   ·refine⟨λ_=>?_,λh=>absurd C (Li h)⟩
    have g:cm s p u r={ s with bs:=s.bs.set u (b,(ax s.bs u).2),ln:=s.ln++[fe (gI (s.rm.getD p .non)) e],lm:=s.lm.set u (gu s) }:=by unfold cm;rw[o,l,J9 ⟨j,C⟩]
    refine⟨_,rfl,_,_,s.bs.map aS,rfl,rfl,_,u,rfl,e7 (by rwa[JT]),dZ { s with bs:=s.bs.set u (b,(ax s.bs u).2) },by rw[show D.tup [D.int b,oI (ax s.bs u).2]=aS (b,(ax s.bs u).2)from rfl,←LJ];rfl,?_⟩;refine⟨⟨_,_,rfl,rfl⟩,_,rfl,rfl,_,{ s with bs:=s.bs.set u (b,(ax s.bs u).2) },_,_,rfl,kD y,I,?_⟩;rfl';refine⟨_,_,s.lm,rfl,rfl,_,u,rfl,e7 Qa,dZ (cm s p u r),by rw[g];rfl,rfl⟩
   ·refine⟨λh=>absurd (dP h) C,λ_=>?_⟩;refine⟨λh=>absurd (dP h) (by omega),λ_=>⟨ff,λ_=>?_⟩⟩
    have g:cm s p u r=s:=by unfold cm;rw[o,l,JZ (λh=>C h.2),JZ (λh=>by omega)]
    rw[g];rfl
  ·refine⟨λh=>absurd (dP h) j,λ_=>⟨ff,λ_=>?_⟩⟩;refine⟨λ_=>⟨oI (ax s.bs u).2,rfl,?_⟩,λh=>absurd (Li h) (by omega)⟩
   cases x:(ax s.bs u).2 with
   |none=>
    refine⟨λ_=>⟨λ_=>?_,tf⟩,tf⟩
    have M:∀m,(ax s.bs u).2=some m->-b<m:=λm h=>by rw[x]at h;cases h
    have g:cm s p u r={ s with bs:=s.bs.set u ((ax s.bs u).1,some (-b)),ln:=s.ln++[fe (gI (s.rm.getD p .non)) (-e)],mm:=s.mm.set u (gu s) }:=by unfold cm;rw[o,l,JZ (λh=>j h.1),J9 ⟨by omega,M⟩]
    refine⟨_,rfl,_,_,s.bs.map aS,rfl,rfl,_,u,rfl,e7 (by rwa[JT]),dZ { s with bs:=s.bs.set u ((ax s.bs u).1,some (-b)) },by rw[show D.tup [D.int (ax s.bs u).1,D.int (-b)]=aS ((ax s.bs u).1,some (-b))from rfl,←LJ];rfl,?_⟩;refine⟨⟨_,_,rfl,rfl⟩,_,rfl,rfl,_,{ s with bs:=s.bs.set u ((ax s.bs u).1,some (-b)) },_,_,rfl,kD y,I,?_⟩;rfl';refine⟨_,_,s.mm,rfl,rfl,_,u,rfl,e7 T,dZ (cm s p u r),by rw[g];rfl,rfl⟩
   |some m=>
    refine⟨ff,λ_=>⟨D.int m,(KO (λz=>cE [D.int (ax s.bs u).1,oI z] 1) x).trans rfl,?_⟩⟩;by_cases G:-b<m
    ·refine⟨λ_=>?_,λh=>absurd G (Li h)⟩
     have M:∀O,(ax s.bs u).2=some O->-b<O:=λO h=>by rw[x]at h;cases h;exact G
     have g:cm s p u r={ s with bs:=s.bs.set u ((ax s.bs u).1,some (-b)),ln:=s.ln++[fe (gI (s.rm.getD p .non)) (-e)],mm:=s.mm.set u (gu s) }:=by unfold cm;rw[o,l,JZ (λh=>j h.1),J9 ⟨by omega,M⟩]
     refine⟨_,rfl,_,_,s.bs.map aS,rfl,rfl,_,u,rfl,e7 (by rwa[JT]),dZ { s with bs:=s.bs.set u ((ax s.bs u).1,some (-b)) },by rw[show D.tup [D.int (ax s.bs u).1,D.int (-b)]=aS ((ax s.bs u).1,some (-b))from rfl,←LJ];rfl,?_⟩;refine⟨⟨_,_,rfl,rfl⟩,_,rfl,rfl,_,{ s with bs:=s.bs.set u ((ax s.bs u).1,some (-b)) },_,_,rfl,kD y,I,?_⟩;rfl';refine⟨_,_,s.mm,rfl,rfl,_,u,rfl,e7 T,dZ (cm s p u r),by rw[g];rfl,rfl⟩
    ·refine⟨λh=>absurd (dP h) G,λ_=>?_⟩
     have g:cm s p u r=s:=by unfold cm;rw[o,l,JZ (λh=>j h.1),JZ (λh=>G (h.2 m x))]
     rw[g];rfl
 rintro ρ rfl;obtain⟨t1,t2⟩:=vf s p u r;exact⟨⟨_,_,rfl,rfl⟩,_,rfl,rfl,_,cm s p u r,p,rfl,by rw[t1];exact aE S,by rwa[t2],Pd,_,rfl,q⟩
abbrev bS(rs:List aw)(p:Nat):aw:=rs.getD p ([],0)
def jn(u:Nat)(n:Int)(s:Led)(p:Nat):Led:=
 if (bS s.rs p).1.getD u 0=0 then s else { s with ln:=s.ln++[fe (.tup [.tup [s.rm.getD p .non,.int 1],eQ s u ((bS s.rs p).1.getD u 0)]) 1],rm:=s.rm.set p (gu s),rs:=s.rs.set p ((bS s.rs p).1.set u 0,(bS s.rs p).2-(bS s.rs p).1.getD u 0*n) }
def dU(s:Led)(u:Nat)(n:Int)(i:Nat):Led:=(List.range i).foldl (jn u n) s
def oo(s:Led)(u:Nat)(n:Int)(i:Nat):dU s u n (i+1)=jn u n (dU s u n i) i:=by unfold dU;rw[Me,L6];rfl
def b8(u:Nat)(n:Int)(s:Led):Led:=if s.gl.getD u 0=0 then s else { s with gs:=s.gs++[eQ s u (s.gl.getD u 0)],ex:=s.ex+s.gl.getD u 0*n }
def gk(s:Led)(u:Nat)(n:Int):Led:=gx (b8 u n (dU s u n s.rs.length)) u n []
structure FixI(s:Led)(i:Nat)(t:Led):Prop where
 rl:t.rs.length=s.rs.length
 ml:t.rm.length=s.rm.length
 ll:t.ln.length<=s.ln.length+i
 at_:∀j,i<=j->t.rs[j]?=s.rs[j]?
 nl:(∀d∈s.rm,NoL d)->∀d∈t.rm,NoL d
 eq:t.bs=s.bs/\t.gl=s.gl/\t.st=s.st/\t.td=s.td/\t.lm=s.lm/\t.mm=s.mm/\t.gs=s.gs/\t.ex=s.ex/\t.gn=s.gn
def j9(s:Led)(u:Nat)(n:Int):∀i,FixI s i (dU s u n i)
 |0=>⟨rfl,rfl,J3 _,λ_ _=>rfl,λh=>h,rfl,rfl,rfl,rfl,rfl,rfl,rfl,rfl,rfl⟩
 |i+1=>by
  have h:=j9 s u n i;rw[oo];generalize dU s u n i=t at h;unfold jn;split
  ·exact⟨h.rl,h.ml,by have:=h.ll;omega,λj a=>h.at_ j (by omega),h.nl,h.eq⟩
  ·refine⟨by rw[JX];exact h.rl,by rw[JX];exact h.ml,by rw[JW,KA];have:=h.ll;omega,λj a=>?_,λc d hd=>?_,h.eq⟩
   ·show (t.rs.set i _)[j]?=_;rw[Kh (by omega)];exact h.at_ j (by omega)
   ·rcases Mv hd with hd|rfl
    ·exact h.nl c d hd
    ·exact .int _
def mD{s:Led}{u:Nat}{e:Int}(a:∀d∈s.mm,NoL d)(c:∀d∈s.lm,NoL d)(g:u<s.mm.length)(h:u<s.lm.length):NoL (eQ s u e):=by
 unfold eQ;split
 ·exact .tup (bB (a _ (c8 g)) (bB (.int _) dq))
 ·exact .tup (bB (c _ (c8 h)) (bB (.int _) dq))
structure FixP(s:Led)(u:Nat)(n:Int):Prop where
 us:u∈s.st
 um:u<s.mm.length
 ul:u<s.lm.length
 ug:u<s.gl.length
 ml:s.rm.length=s.rs.length
 rl:s.rs.length<=100
 ll:s.ln.length<800
 gl:s.gs.length<1000
 nl:s.gn.length<1000
 bn:bN n
 rr:∀r∈s.rs,u<r.1.length/\r.1.length<=1000/\∀x∈r.1,bN x
 gg:∀x∈s.gl,bN x
 n1:∀d∈s.rm,NoL d
 n2:∀d∈s.mm,NoL d
 n3:∀d∈s.lm,NoL d
inductive y_Ledger__fix(as:List Sm)(R:Sm->List Om->Prop)(Rx:XD->List Om->Prop):Prop|mk (a:Option Addr) (s:Led) (u:Nat) (n:Int) (_:as=[.ob a (bQ s),.v (bg u),.v (.int n)]) (_:FixP s u n) (_:R (.v .non) [bQ (gk s u n)])
def CU(F:Fun K "fix" "Ledger.fix" mH f J){C:Addr}(g:TxtLedger K mg C)(Jx:Cl P w K mg base n "without" ["entries","unknown"] z_without)(OA:MthM P w K mg base n C "let_go" ["self","unknown","least","rows"] y_Ledger__let_go)(Of:MthM P w K mg base n C "put_line" ["self","shares","divisor"] y_Ledger__put_line)(pU:MthD P w K mg base n C "bound_share" ["self","unknown","entry"] z_Ledger__bound_share)(bT:mg "range"=none)(bu:mg "len"=none):FnOk P w K mg base aI (n+1) f J ["self","unknown","number"] (lSpM K y_Ledger__fix):=by
 refine F.okM sc_Ledger__fix (λas R Rx h=>?_) (λOh A outer s H E as R Rx qs Ot l h OD=>?_)
 ·obtain⟨a,s,u,m,rfl,_⟩:=h;rfl
 obtain⟨a,s,u,m,rfl,j,q⟩:=h;obtain⟨pa,rfl⟩:=eK OD
 refine⟨_,(ar (eP Ki rfl (xR rfl bT (aJ (cG (bM cZ rfl bu KH (aN (PD.q (aT g.cl g.n_rows g.ns (aa 0))) aX aP) aP ag)) bo bt)) (cD (i:=3) sc_Ledger__fix.nd rfl Wq) (ar (aM (i:=4) sc_Ledger__fix.nd rfl Wq (cG (bD (PD.q (aT g.cl g.n_rows g.ns (aa 0))) (aa 3) (λ_ _=>rfl))))
   (ar (aM (i:=5) sc_Ledger__fix.nd rfl Wq (ah (bD (PD.q (aA (aa 4))) (aa 1) (λ_ _=>rfl))))
   (aQ (b7 (bY (aV (gj l.units) (aa 5) (PD.q ao) (aD _))) (ar (aM (i:=6) sc_Ledger__fix.nd rfl Wq (cG (bx (af (bx (af (bD (PD.q (aT g.cl g.n_row_marks g.ns (aa 0))) (aa 3) (λ_ _=>rfl)) (af ao ak aF) aG)) (af (me pU l g.cl g.ns (dv 0) (af (dv 1) (af (dv 5) ak ae) ae) ae (ay ae ag)) ak bt) bJ))))
   (ar (i7 0 g.cl g.n_row_marks g.ns (eX 0 Of l g.cl g.ns (aJ (ah (dv 6)) (aJ (ah ao) bo aF) ae) ae (ay aF ag)) (dv 3))
   (aQ (i7 0 g.cl g.n_rows g.ns (ah (bx (af (bj Jx l rfl (af (aA (aa 4)) (af (dv 1) ak ae) aG) aG (ay ae ag)) (af (aU du (PD.q (aA (aa 4))) (PD.q (aU dr (aa 5) (aa 2)))) ak bW) bt))) (dv 3))))) cq)))))
   (ar (aM (i:=7) sc_Ledger__fix.nd rfl Wq (cG (bD (PD.q (aT g.cl g.n_goal g.ns (aa 0))) (aa 1) (λ_ _=>rfl))))
   (cI (b7 (bY (aV (gj l.units) (aa 7) (PD.q ao) (aD _))) (ar (rV 0 g.cl g.n_goal_shares g.ns (me pU l g.cl g.ns (dv 0) (af (dv 1) (af (dv 7) ak ae) ae) ae (ay ae ag)) (di bt) bt)
   (aQ (ft 0 g.cl g.n_extra g.ns (cG (aU cP (PD.q (aT g.cl g.n_extra g.ns (aa 0))) (PD.q (aU dr (aa 7) (aa 2)))))))) cq)
   (aQ (fW (eX 0 OA l g.cl g.ns (aJ (ah (dv 1)) (aJ (ah (dv 2)) (aJ (ah (PF.d (dh ak))) bo wx) ae) ae) ae (ay ae (ay wx ag)))))))),?_⟩
 intro ke;have OK:=j.rl;refine⟨rfl,_,rfl,.int _,⟨by rw[JT];omega,by rw[JT];omega⟩,λi ρ=>∃L M N B:Option Sm,ρ=[some (.ob (some pa) (bQ (dU s u m i))),some (.v (bg u)),some (.v (.int m)),L,M,N,B,none],⟨_,_,_,_,rfl⟩,?_,?_⟩
 ·rintro i d ρ hd ⟨L,M,N,B,rfl⟩;obtain⟨hi,rfl⟩:=gR hd
  have X:i<s.rs.length:=by rw[JT]at hi;omega
  have I:=j9 s u m i;have e1:=oo s u m i;generalize dU s u m i=t at *
  have O:t.rs[i]?=some s.rs[i]:=by rw[I.at_ i (J3 _)];exact bK X
  have Y:bS t.rs i=s.rs[i]:=fq O;obtain⟨Z,VJ,Rc⟩:=j.rr s.rs[i] (LU X)
  have Q:i<t.rm.length:=by rwa[I.ml,j.ml]
  obtain⟨q1,U,q3,q4,y,z,q7,q8,q9⟩:=I.eq
  have p:u<t.mm.length:=by rw[z];exact j.um
  have o:u<t.lm.length:=by rw[y];exact j.ul
  have x:NoL (t.rm.getD i .non):=I.nl j.n1 _ (c8 Q);have G:∀e,NoL (eQ t u e):=λe=>mD (by rw[z];exact j.n2) (by rw[y];exact j.n3) p o;have hll:=I.ll;have hlr:=j.ll;refine⟨rfl,_,rfl,az s.rs[i],cR O (KW _),nY _,?_⟩;refine⟨_,rfl,_,cR (i:=u) (bZ (d:=0) Z) rfl,?_⟩;have Rr:bN (s.rs[i].1.getD u 0):=Rc _ (c8 Z);generalize l:s.rs[i]=r at *;generalize v:r.1.getD u 0=e at *;by_cases c:e=0
  ·have e2:dU s u m (i+1)=t:=by rw[e1];unfold jn;rw[Y,v,J9 c]
   refine⟨λh=>?_,λ_=>⟨some (.v (.int (0+(i:Nat)))),some (.v (az r)),some (.v (.int e)),B,by rw[e2];rfl⟩⟩;rw[c]at h;cases h
  ·refine⟨λ_=>?_,λh=>?_⟩
   ·refine⟨rfl,_,rfl,t.rm.getD i .non,gc (bZ Q) (KW _),rfl,rfl,t,u,e,rfl,p,o,.tup (bB (.tup (bB x (bB (.int _) dq))) (bB (G e) dq)),?_⟩;refine⟨⟨_,_,rfl,rfl⟩,_,rfl,rfl,_,t,_,_,rfl,.tup (bB (.tup (bB x (bB (.int _) dq))) (bB (G e) dq)),by omega,?_⟩;rfl';refine⟨_,_,t.rm,rfl,rfl,_,i,rfl,by rw[KW];exact e7 Q,dZ { t with ln:=t.ln++[fe (.tup [.tup [t.rm.getD i .non,.int 1],eQ t u e]) 1],rm:=t.rm.set i (gu t) },rfl,?_⟩;refine⟨_,rfl,r.1,u,rfl,VJ,_,rfl,iY Rr j.bn,_,_,t.rs.map az,rfl,rfl,_,i,rfl,by rw[KW,JT];exact e7 (aE O),dZ (jn u m t i),?_,?_⟩
    ·unfold jn;rw[Y,v,JZ c];rw[show D.tup [D.tup ((r.1.set u 0).map D.int),D.int (r.2-e*m)]=az (r.1.set u 0,r.2-e*m)from rfl,←LJ];rfl
    ·exact⟨some (.v (.int (0+(i:Nat)))),some (.v (az r)),some (.v (.int e)),some (.v (.tup [.tup [t.rm.getD i .non,.int 1],eQ t u e])),by rw[e1];rfl⟩
   ·have h':(!(e==0))=false:=h
    have:(e==0)=true:=by simpa using h'
    exact absurd (eq_of_beq this) c
 ·rintro ρ ⟨L,M,N,B,rfl⟩
  have eL:(cQ 0 (((s.rs.map az).length:Nat):Int).toNat).length=s.rs.length:=by rw[gm,JT];omega
  rw[eL];have I:=j9 s u m s.rs.length;have e0:gk s u m=gx (b8 u m (dU s u m s.rs.length)) u m []:=rfl;generalize dU s u m s.rs.length=t at *;obtain⟨q1,U,q3,q4,y,z,q7,q8,q9⟩:=I.eq
  have p:u<t.mm.length:=by rw[z];exact j.um
  have o:u<t.lm.length:=by rw[y];exact j.ul
  have hg:u<t.gl.length:=by rw[U];exact j.ug
  have G:∀e,NoL (eQ t u e):=λe=>mD (by rw[z];exact j.n2) (by rw[y];exact j.n3) p o;have S:bN (t.gl.getD u 0):=j.gg _ (by rw[←U];exact c8 hg);refine⟨rfl,_,rfl,_,cR (i:=u) (bZ (d:=0) hg) rfl,.int _,?_⟩;refine⟨λρ=>ρ=[some (.ob (some pa) (bQ (b8 u m t))),some (.v (bg u)),some (.v (.int m)),L,M,N,B,some (.v (.int (t.gl.getD u 0)))],?_,?_⟩
  ·generalize v:t.gl.getD u 0=e at *;by_cases c:e=0
   ·refine⟨λh=>?_,λ_=>?_⟩
    ·rw[c]at h;cases h
    ·have:b8 u m t=t:=by unfold b8;rw[v,J9 c]
     rw[this];rfl
   ·refine⟨λ_=>?_,λh=>?_⟩
    ·refine⟨_,_,t.gs,rfl,rfl,rfl,rfl,t,u,e,rfl,p,o,G e,by rw[q7];exact bq (by have:=j.gl;omega),dZ { t with gs:=t.gs++[eQ t u e] },rfl,?_⟩;refine⟨rfl,_,rfl,iY S j.bn,.int _,_,_,rfl,rfl,(by show 12<1000;decide),dZ (b8 u m t),?_,rfl⟩;unfold b8;rw[v,JZ c];rfl
    ·have h':(!(e==0))=false:=h
     have:(e==0)=true:=by simpa using h'
     exact absurd (eq_of_beq this) c
  rintro ρ rfl
  have OS:(b8 u m t).st=t.st:=by unfold b8;split<;>rfl
  have T:(b8 u m t).gn=t.gn:=by unfold b8;split<;>rfl
  rw[e0]at q;exact⟨⟨_,_,rfl,rfl⟩,_,rfl,rfl,_,b8 u m t,u,m,[],rfl,by rw[OS,q3];exact j.us,by rw[T,q9];exact j.nl,_,rfl,q⟩
def bO(s:Led)(u:Nat):List Nat:=(List.range s.rs.length).filter λi=>decide ((bS s.rs i).1.getD u 0≠0)
def hZ(s:Led)(u:Nat):Led:=(bO s u).reverse.foldl cg (gx s u (ax s.bs u).1 ((bO s u).map (bS s.rs)))
def uh:∀{e:List Nat}{n i p:Nat},e.Pairwise (λx y=>y<x)->(∀x∈e,x<n)->e[i]?=some p->p+i<n
 | [],n,i,p,_,_,h=>by cases h
 |q::t,n,0,p,_,a,h=>by cases h;exact a _ J2
 |q::t,n,i+1,p,c,a,h=>by
  rw[ME]at c;have:=uh (n:=q) c.2 (λx g=>c.1 x g) (show t[i]?=some p from h);have:=a q J2;omega
def uL(s:Led)(u:Nat):(bO s u).reverse.Pairwise (λx y=>y<x):=by rw[NW];exact Mh.filter _
def qc{s:Led}{u x:Nat}(h:x∈bO s u):x<s.rs.length:=Kt.mp (KL.mp h).1
def qh(s:Led):∀(ps:List Nat),ps.Pairwise (λx y=>y<x)->(∀x∈ps,x<s.rs.length)->s.rm.length=s.rs.length->(ps.foldl cg s).rs.length=s.rs.length-ps.length/\(ps.foldl cg s).rm.length=s.rs.length-ps.length
 | [],_,_,a=>⟨rfl,a⟩
 |p::ps,c,h,a=>by
  rw[ME]at c;have g:=h p J2;have e:(cg s p).rs.length=s.rs.length-1:=Lq g
  have l:(cg s p).rm.length=s.rs.length-1:=by rw[←a];exact Lq (by rwa[a])
  have:=qh (cg s p) ps c.2 (λx j=>by rw[e];have:=c.1 x j;omega) (by rw[e,l]);rw[e]at this;show (ps.foldl cg (cg s p)).rs.length=_/\(ps.foldl cg (cg s p)).rm.length=_;rw[this.1,this.2,Kb];omega
structure HangP(s:Led)(u:Nat):Prop where
 us:u∈s.st
 ub:u<s.bs.length
 ml:s.rm.length=s.rs.length
 rl:s.rs.length<=100
 nl:s.gn.length<1000
 rr:∀r∈s.rs,u<r.1.length
inductive y_Ledger__hang(as:List Sm)(R:Sm->List Om->Prop)(Rx:XD->List Om->Prop):Prop|mk (a:Option Addr) (s:Led) (u:Nat) (_:as=[.ob a (bQ s),.v (bg u)]) (_:HangP s u) (_:R (.v .non) [bQ (hZ s u)])
def Hz(F:Fun K "hang" "Ledger.hang" ka f J){o:Addr}(c:TxtLedger K mg o)(I:MthM P w K mg base n o "let_go" ["self","unknown","least","rows"] y_Ledger__let_go)(N:MthM P w K mg base n o "drop_row" ["self","place"] y_Ledger__drop_row)(iW:mg "reversed"=none)(U:mg "enumerate"=none):FnOk P w K mg base aI (n+1) f J ["self","unknown"] (lSpM K y_Ledger__hang):=by
 refine F.okM sc_Ledger__hang (λas R O h=>?_) (λOh A outer s H E as R O qs Ot y h M=>?_)
 ·obtain⟨a,s,u,rfl,_⟩:=h;rfl
 obtain⟨a,s,u,rfl,g,q⟩:=h;obtain⟨pa,rfl⟩:=eK M
 refine⟨_,(ar (Dz (i:=2) (k:=2) (N':=["place","row","unknown"]) (cap:=[none,none,some 1]) rfl sc_Ledger__hang.nd rfl Wq (.ok (show bX ["self","unknown","places","place"] (av ka) _ ["place","row","unknown"] [none,none,some 1]=true by lia)) (by lia) (iA (n:=2) (eo (bE (by decide)) (eo (bE (by decide)) iG))) (gL rfl U (af (aT c.cl c.n_rows c.ns (aa 0)) ak aP)) (λ_ _ _ _ _=>(eu (n:=2) rfl (bR (bh (i:=0) (show List.Nodup (["place","row","unknown"]:List Str)by lia) rfl Wq) (bR (bh (i:=1) (show List.Nodup (["place","row","unknown"]:List Str)by lia) rfl Wq) eG)))) (λ_ _ _ _ _=>(ki (aV (gj y.units) (PD.q (bD (PD.q (aA (aa 1))) (aa 2) (λ_ _=>rfl))) (PD.q ao) (aD _)))) (λ_ _ _ _ _=>(dv 0)))
   (iz 2 (ar (fW (eX 0 I y c.cl c.ns (aJ (ah (dv 1)) (aJ (cG (aA (PD.q (bD (PD.q (aT c.cl c.n_bounds c.ns (aa 0))) (aa 1) (λ_ _=>rfl))))) (aJ (wJ (xx (de (k:=1) (N':=["place","self"]) (cap:=[none,some 0]) rfl (.ok (show bX ["self","unknown","places","place"] (av ka) _ ["place","self"] [none,some 0]=true by lia)) (by lia) (bE (by decide)) (cb (dv 2)) (λ_ _ _ _ _=>(bh (i:=0) (show List.Nodup (["place","self"]:List Str)by lia) rfl Wq)) (λ_ _ _ _ _=>(bD (PD.q (aT c.cl c.n_rows c.ns (aa 1))) (aa 0) (λ_ _=>rfl)))))) bo bC) aG) ae) ae (ay aG (ay bC ag))))
   (aQ (eP Ki rfl (eT (sU rfl iW (af (dv 2) ak ae))) (cD (i:=3) sc_Ledger__hang.nd rfl Wq) (aQ (fW (eX 0 N y c.cl c.ns (aJ (ah (dv 3)) bo ae) ae ag)))))))),?_⟩
 intro ke;have OK:=g.rl
 have hps:(bO s u).length<=s.rs.length:=by
  have:=Lh (λi=>decide ((bS s.rs i).1.getD u 0≠0)) (List.range s.rs.length)
  rwa [Km]at this
 refine⟨rfl,_,rfl,by rw[eY,JT];exact bq (by omega),iZ (λi=>decide ((bS s.rs i).1.getD u 0≠0)) (λi=>bg i),λi d hd=>?_,λys B hy=>?_⟩
 ·obtain⟨e,Z,rfl⟩:=gH hd;obtain⟨r,rfl,j⟩:=bP Z;have ex:bS s.rs i=r:=fq j;have T:=g.rr r (J0 j);refine⟨rfl,_,rfl,_,cR (i:=u) (bZ (d:=0) T) rfl,λh=>⟨rfl,?_⟩,λh=>?_⟩
  ·show decide ((bS s.rs i).1.getD u 0≠0)=true;rw[ex]
   exact KZ λe=>by rw[e]at h;cases h
  ·show decide ((bS s.rs i).1.getD u 0≠0)=false;rw[ex];refine Ku λe=>?_;have h':(!(r.1.getD u 0==0))=false:=h
   have:(r.1.getD u 0==0)=true:=by simpa using h'
   exact e (eq_of_beq this)
 rw[eY,JT]at B;rw[show ys.filterMap id=(bO s u).map bg from j6 B hy];refine⟨λd hd=>by obtain⟨x,_,rfl⟩:=Kf.mp hd;exact .int _,?_⟩;rfl';refine⟨⟨_,_,rfl,rfl⟩,rfl,_,rfl,_,fZ g.ub rfl,_,rfl,.int _,fN (f:=bg) (λp=>az (bS s.rs p)) (bq (by omega)) (λp l=>⟨rfl,_,rfl,_,cR (bZ (qc l)) rfl,rfl⟩) ?_⟩;refine⟨λd hd=>?_,_,rfl,rfl,_,s,u,(ax s.bs u).1,(bO s u).map (bS s.rs),by rw[KQ];rfl,g.us,g.nl,?_⟩
 ·obtain⟨x,_,rfl⟩:=Kf.mp hd;exact nY _
 rfl';have X:hZ s u=(bO s u).reverse.foldl cg (gx s u (ax s.bs u).1 ((bO s u).map (bS s.rs))):=rfl;have v:(gx s u (ax s.bs u).1 ((bO s u).map (bS s.rs))).rs=s.rs:=rfl;have S:(gx s u (ax s.bs u).1 ((bO s u).map (bS s.rs))).rm=s.rm:=rfl;generalize gx s u (ax s.bs u).1 ((bO s u).map (bS s.rs))=t at *;have G:=uL s u;have C:∀x∈(bO s u).reverse,x<s.rs.length:=λx j=>qc (Ma.mp j);refine⟨λi ρ=>∃z:Option Sm,ρ=[some (.ob (some pa) (bQ (((bO s u).reverse.take i).foldl cg t))),some (.v (bg u)),some (.v (.lst ((bO s u).map bg))),z],⟨_,rfl⟩,?_,?_⟩
 ·rintro i d ρ hd ⟨z,rfl⟩;rw[←NI]at hd;obtain⟨p,rfl,l⟩:=bP hd;have hpi:=uh G C l;have L:=qh t ((bO s u).reverse.take i) (G.sublist (List.take_sublist _ _)) (λx j=>by rw[v];exact C x (List.mem_of_mem_take j)) (by rw[v,S];exact g.ml)
  have Q:((bO s u).reverse.take i).length=i:=by rw[K8];have:=aE l;omega
  rw[v,Q]at L
  have Y:((bO s u).reverse.take (i+1)).foldl cg t=cg (((bO s u).reverse.take i).foldl cg t) p:=by rw[hX l,L6];rfl
  generalize ((bO s u).reverse.take i).foldl cg t=t2 at *;refine⟨⟨_,_,rfl,rfl⟩,_,rfl,rfl,_,t2,p,rfl,by omega,by omega,by omega,?_⟩;rfl';exact⟨some (.v (bg p)),by rw[Y];rfl⟩
 ·rintro ρ ⟨z,rfl⟩;rw[Lr,JT,←Lr,LF,←X];exact⟨_,rfl,q⟩
def gP(bs:List Bd)(rs:List aw)(gs:List Int):Led:=⟨bs,rs,gs,List.range bs.length,((cS bs rs).length:Nat),[],(List.range bs.length).map bg,pq bs,cQ ((cS bs rs).length-(rs.length:Nat)) rs.length,[],0,[]⟩
def pW(bs:List Bd)(rs:List aw):rs.length<=(cS bs rs).length/\(cS bs rs).length<=2*bs.length+rs.length:=by
 unfold cS;have:=Lh (cY bs) (List.range bs.length);rw[Km]at this;simp only[JW,JT,Km];omega
def Ck(n:Nat):cQ 0 n=(List.range n).map bg:=by unfold cQ;refine List.map_congr_left λi _=>?_;rw[KW];rfl
inductive y_Ledger____init__(as:List Sm)(R:Sm->List Om->Prop)(Rx:XD->List Om->Prop):Prop|mk (a:Option Addr) (bs:List Bd) (rs:List aw) (gs:List Int) (_:as=[.ob a (.obj "Ledger" []),.v (cF bs rs gs)]) (_:bs.length<=8) (_:rs.length<=30) (_:R (.v .non) [bQ (gP bs rs gs)])
def Iq(F:Fun K "__init__" "Ledger.__init__" pQ f J){v:Addr}(c:TxtLedger K mg v)(z:ClM P w K mg base n "first_most_marks" ["bounds"] y_first_most_marks)(u:Cl P w K mg base n "givens" ["plan"] z_givens)(e:mg "list"=none)(j:mg "len"=none)(l:mg "range"=none):FnOk P w K mg base aI (n+1) f J ["self","plan"] (lSpM K y_Ledger____init__):=by
 refine F.okM IY (λas R B h=>?_) (λM A outer s H E as R B U N r h x=>?_)
 ·obtain⟨a,bs,rs,gs,rfl,_⟩:=h;rfl
 obtain⟨a,bs,rs,gs,rfl,I,y,q⟩:=h;obtain⟨T,rfl⟩:=eK x
 refine⟨_,(ar (iy 0 c.cl c.n_bounds c.ns (dB (lr rfl e (PD.q (aA (aa 1))) aG)))
   (ar (iy 0 c.cl c.n_rows c.ns (dB (lr rfl e (PD.q (aA (aa 1))) aG)))
   (ar (ft 0 c.cl c.n_goal c.ns (ah (aA (aa 1))))
   (ar (iy 0 c.cl c.n_staying c.ns (dB (vp rfl rfl e rfl l (af (bM cZ rfl j KH (aN (PD.q (aA (aa 1))) aX aG) aG ag) ak bt))))
   (ar (ft 0 c.cl c.n_told c.ns (ah (bM cZ rfl j KH (aN (PD.q (bj u r rfl (af (dv 1) ak ae) ae ag)) aX bt) bt ag)))
   (ar (iy 0 c.cl c.n_lines c.ns (dB (dh ak)))
   (ar (iy 0 c.cl c.n_least_marks c.ns (dB (vp rfl rfl e rfl l (af (bM cZ rfl j KH (aN (PD.q (aA (aa 1))) aX aG) aG ag) ak bt))))
   (ar (iy 0 c.cl c.n_most_marks c.ns (bL z r rfl (aJ (ah (aA (aa 1))) bo aG) aG ag))
   (ar (iy 0 c.cl c.n_row_marks c.ns (xx (IX rfl rfl e rfl l (af (aU du (PD.q (aT c.cl c.n_told c.ns (aa 0))) (PD.q (bM cZ rfl j KH (aN (PD.q (aA (aa 1))) aX aG) aG ag))) (af (aT c.cl c.n_told c.ns (aa 0)) ak aP) bW))))
   (ar (iy 0 c.cl c.n_goal_shares c.ns (dB (dh ak)))
   (ar (ft 0 c.cl c.n_extra c.ns (ah ao))
   (aQ (iy 0 c.cl c.n_gone c.ns (dB (dh ak))))))))))))))),?_⟩
 intro S;have Q:=pW bs rs
 have O:((bs.map aS).length:Int)=(bs.length:Int):=by rw[JT]
 have p:(((bs.map aS).length:Nat):Int).toNat=bs.length:=by rw[JT];omega
 refine⟨_,rfl,_,rfl,_,_,rfl,rfl,(by decide),_,rfl,?_⟩;refine⟨_,rfl,_,rfl,_,_,rfl,rfl,(by show 1<1000;decide),_,rfl,?_⟩;refine⟨_,rfl,_,_,rfl,rfl,(by show 2<1000;decide),_,rfl,?_⟩;refine⟨_,rfl,⟨by omega,by omega⟩,_,_,rfl,rfl,(by show 3<1000;decide),_,rfl,?_⟩;refine⟨bs,rs,_,rfl,I,y,_,_,rfl,rfl,(by show 4<1000;decide),_,rfl,?_⟩;refine⟨_,_,rfl,rfl,(by show 5<1000;decide),_,rfl,?_⟩;refine⟨_,rfl,⟨by omega,by omega⟩,_,_,rfl,rfl,(by show 6<1000;decide),_,rfl,?_⟩;refine⟨_,rfl,_,rfl,rfl,bs,rfl,by omega,_,_,rfl,rfl,(by show 7<1000;decide),_,rfl,?_⟩;rfl'
 have g:((((cS bs rs).map az).length:Nat):Int)=((cS bs rs).length:Nat):=by rw[JT]
 have o:(((rs.map az).length:Nat):Int)=(rs.length:Nat):=by rw[JT]
 refine⟨rfl,_,rfl,_,rfl,rfl,_,rfl,⟨⟨by omega,by omega,by omega,by omega⟩,by omega⟩,λd hd=>?_,_,_,rfl,rfl,(by show 8<1000;decide),_,rfl,?_⟩
 ·obtain⟨i,L⟩:=KY hd;rw[(gR L).2];exact .int _
 refine⟨_,_,rfl,rfl,(by show 9<1000;decide),_,rfl,?_⟩;refine⟨_,_,rfl,rfl,(by show 10<1000;decide),_,rfl,?_⟩;refine⟨_,_,rfl,rfl,(by show 11<1000;decide),dZ (gP bs rs gs),?_,?_⟩
 ·have C:cQ 0 (((bs.map aS).length:Nat):Int).toNat=(List.range bs.length).map bg:=by rw[p,Ck]
  have G:cQ (((((cS bs rs).map az).length:Nat):Int)-(((rs.map az).length:Nat):Int)) ((((((cS bs rs).map az).length:Nat):Int)-(((((cS bs rs).map az).length:Nat):Int)-(((rs.map az).length:Nat):Int))).toNat)=cQ ((cS bs rs).length-(rs.length:Nat)) rs.length:=by rw[g,o];congr 1;omega
  rw[C,G,g];rfl
 ·exact⟨_,rfl,q⟩
def oE(b:Bd):Bool:=match b.2 with|some m=>decide (m<b.1)|none=>false
inductive z_is_crossed(ds:List D)(R:D->Prop):Prop|mk (b:Bd) (_:ds=[aS b]) (_:R (.bl (oE b)))
def G8(F:Fun K "is_crossed" "is_crossed" oq f J) :FnOk P w K mg base aI (n+1) f J ["pair"] (lSp K z_is_crossed):=by
 refine F.okD Dr (λds R h=>?_) (λa A outer s H E ds R c h=>?_)
 ·obtain⟨b,rfl,_⟩:=h;rfl
 obtain⟨b,rfl,q⟩:=h;refine⟨_,(aL (bp (jz (dS ef (PD.q (aA (aa 0))) (PD.q bA) (aD _)) (oA (dS fm (PD.q (aA (aa 0))) (PD.q (aA (aa 0))) (aD _)))))),?_⟩;obtain⟨l,m⟩:=b
 cases m with
 |none=>exact⟨_,rfl,ff,λ_=>q⟩
 |some m=>exact⟨_,rfl,λ_=>⟨_,rfl,_,rfl,q⟩,tf⟩
def hJ(b:Bd)(e:Int):Int:=if 0<e then e*b.2.getD 0 else if e<0 then e*b.1 else 0
def gO(b:Bd)(e:Int):Bool:=!(decide (0<e)&&b.2.isNone)
def iu(bs:List Bd)(es:List Int):Bool:=(List.zipWith gO bs es).all id
def gw(bs:List Bd)(es:List Int):Option Int:=if iu bs es then some (List.zipWith hJ bs es).sum else none
abbrev lB(b:Bd):Prop:=bN b.1/\∀m,b.2=some m->bN m
def vY{c e j:Type}{f:c->e->j}{as:List c}{bs:List e}{i:Nat}{a:c}{b:e}(g:as[i]?=some a)(h:bs[i]?=some b):List.zipWith f (as.take (i+1)) (bs.take (i+1))=List.zipWith f (as.take i) (bs.take i)++[f a b]:=by
 rw[hX g,hX h,List.zipWith_append (by rw[K8,K8];have:=aE g;have:=aE h;omega)];rfl
def vF{a c e:Type}{f:a->c->e}{as:List a}{bs:List c}{n:Nat}(h:n=min as.length bs.length):List.zipWith f (as.take n) (bs.take n)=List.zipWith f as bs:=by
 rw[←List.take_zipWith,Mg (by rw[List.length_zipWith];omega)]
def rf{bs:List Bd}{es:List Int}{i:Nat}{b:Bd}{e:Int}(a:bs[i]?=some b)(c:es[i]?=some e)(h:iu (bs.take i) (es.take i)=true)(g:gO b e=true):iu (bs.take (i+1)) (es.take (i+1))=true:=by unfold iu at h ⊢;rw[vY a c,List.all_append,h];simp[g]
def DL{bs:List Bd}{es:List Int}{i:Nat}{b:Bd}{e:Int}(a:bs[i]?=some b)(c:es[i]?=some e)(g:gO b e=false):iu bs es=false:=by unfold iu;rw[List.all_eq_false];refine⟨gO b e,J0 (i:=i) (by rw[Mi,a,c]),?_⟩;rw[g];decide
def qw{bs:List Bd}{es:List Int}{i:Nat}{b:Bd}{e x:Int}(a:bs[i]?=some b)(c:es[i]?=some e)(g:hJ b e=x):(List.zipWith hJ (bs.take i) (es.take i)).sum+x=(List.zipWith hJ (bs.take (i+1)) (es.take (i+1))).sum:=by rw[vY a c,List.sum_append,g];simp
inductive z_greatest_sum(ds:List D)(R:D->Prop):Prop|mk (d1 d2:D) (bs:List Bd) (es:List Int) (_:ds=[d1,d2]) (_:df d1=some (bs.map aS)) (_:df d2=some (es.map D.int)) (_:(∀b∈bs,lB b)) (_:(∀x∈es,bN x)) (_:R (oI (gw bs es)))
def HF(F:Fun K "greatest_sum" "greatest_sum" mR f J)(G:mg "zip"=none):FnOk P w K mg base aI (n+1) f J ["bounds","entries"] (lSp K z_greatest_sum):=by
 refine F.okD sc_greatest_sum (λds R h=>?_) (λS A outer s H E ds R T h=>?_)
 ·obtain⟨p,r,bs,es,rfl,_⟩:=h;rfl
 obtain⟨p,r,bs,es,rfl,I,L,M,N,q⟩:=h
 refine⟨_,(bI (dA (i:=2) sc_greatest_sum.nd rfl Wq ao)
   (bI (fj Ki rfl (kj rfl G (af (dv 0) (af (dv 1) ak ae) ae)) (eu (n:=2) rfl (bR (bh (i:=3) sc_greatest_sum.nd rfl Wq) (bR (bh (i:=4) sc_greatest_sum.nd rfl Wq) eG))) (aL (cH (aV fm (aa 4) (PD.q ao) (aD _)) (fJ (cH (aV gX (PD.q (aA (aa 3))) (PD.q bA) (aD _)) (aL (bp bA)) cJ)
   (aL (dA (i:=2) sc_greatest_sum.nd rfl Wq (aU cP (aa 2) (PD.q (aU dr (aa 4) (PD.q (aA (aa 3))))))))) (aL (cH (aV iE (aa 4) (PD.q ao) (aD _)) (aL (dA (i:=2) sc_greatest_sum.nd rfl Wq (aU cP (aa 2) (PD.q (aU dr (aa 4) (PD.q (aA (aa 3)))))))) cJ)))))
   (aL (bp (dv 2))))),?_⟩
 refine⟨_,_,I,L,λi ρ=>∃u v:Option Sl,ρ=[some (.v p),some (.v r),some (.v (.int (List.zipWith hJ (bs.take i) (es.take i)).sum)),u,v]/\iu (bs.take i) (es.take i)=true,⟨_,_,rfl,rfl⟩,?_,?_⟩
 ·rintro i d ρ hd ⟨u,v,rfl,j⟩;rw[jT]at hd;obtain⟨⟨b,e⟩,rfl,Q⟩:=bP hd;obtain⟨c,a⟩:=Mt.mp Q;have bb:=M b (J0 c);have y:=N e (J0 a);refine⟨rfl,?_⟩;by_cases g:0<e
  ·refine⟨λ_=>?_,λh=>absurd g (Li h)⟩;obtain⟨l,m⟩:=b
   cases m with
   |none=>
    have z:gw bs es=none:=by unfold gw;rw[DL c a (by unfold gO;simp[g])];rfl
    rw[z]at q;exact⟨λ_=>False,⟨_,rfl,λ_=>q,tf⟩,λρ h=>h.elim⟩
   |some m=>
    refine⟨λρ=>ρ=[some (.v p),some (.v r),some (.v (.int (List.zipWith hJ (bs.take i) (es.take i)).sum)),some (.v (aS (l,some m))),some (.v (.int e))],⟨_,rfl,ff,λ_=>rfl⟩,?_⟩;rintro ρ rfl;refine⟨_,rfl,iY y (bb.2 m rfl),some (.v (aS (l,some m))),some (.v (.int e)),?_,rf c a j (by unfold gO;simp)⟩;rw[←qw c a (x:=e*m) (by unfold hJ;rw[J9 g];rfl)];rfl
  ·refine⟨λh=>absurd (dP h) g,λ_=>?_⟩;by_cases o:e<0
   ·refine⟨λ_=>?_,λh=>absurd o (Li h)⟩;refine⟨_,rfl,iY y bb.1,some (.v (aS b)),some (.v (.int e)),?_,rf c a j (by unfold gO;simp[g])⟩;rw[←qw c a (x:=e*b.1) (by unfold hJ;rw[JZ g,J9 o])];rfl
   ·refine⟨λh=>absurd (dP h) o,λ_=>⟨some (.v (aS b)),some (.v (.int e)),?_,rf c a j (by unfold gO;simp[g])⟩⟩;rw[←qw c a (x:=0) (by unfold hJ;rw[JZ g,JZ o]),NJ];rfl
 ·rintro ρ ⟨u,v,rfl,j⟩
  have O:(fU (bs.map aS) (es.map D.int)).length=min bs.length es.length:=by rw[jT,JT,NP]
  rw[O]at j ⊢
  have B:iu bs es=true:=by unfold iu at j ⊢;rw[vF rfl]at j;exact j
  have C:gw bs es=some (List.zipWith hJ bs es).sum:=by unfold gw;rw[J9 B]
  rw[C]at q;rwa[vF rfl]
def js(bs:List Bd)(es:List Int):Option Int:=(gw bs (es.map (- ·))).map (- ·)
inductive z_least_sum(ds:List D)(R:D->Prop):Prop|mk (d1:D) (bs:List Bd) (es:List Int) (_:ds=[d1,.tup (es.map D.int)]) (_:df d1=some (bs.map aS)) (_:es.length<=1000) (_:(∀b∈bs,lB b)) (_:(∀x∈es,bN x)) (_:R (oI (js bs es)))
def HJ(F:Fun K "least_sum" "least_sum" kX f J)(u:Cl P w K mg base n "greatest_sum" ["bounds","entries"] z_greatest_sum):FnOk P w K mg base aI (n+1) f J ["bounds","entries"] (lSp K z_least_sum):=by
 refine F.okD sc_least_sum (λds R h=>?_) (λv A outer s H E ds R o h=>?_)
 ·obtain⟨a,bs,es,rfl,_⟩:=h;rfl
 obtain⟨a,bs,es,rfl,c,l,g,j,q⟩:=h
 refine⟨_,(bI (dA (i:=2) sc_least_sum.nd rfl Wq (bj u o rfl (af (dv 0) (af (PF.d (de (k:=1) (N':=["entry"]) (cap:=[none]) rfl (.ok (show bX ["bounds","entries","total"] (av kX) _ ["entry"] [none]=true by lia)) (by lia) (bE (by decide)) (cb (dv 1)) (λ_ _ _ _ _=>(bh (i:=0) (show List.Nodup (["entry"]:List Str)by lia) rfl Wq)) (λ_ _ _ _ _=>(eI (aa 0))))) ak bC) ae) ae (ay bC ag)))
   (aL (bp (oF (aV gX (aa 2) (PD.q bA) (aD _)) bA (eI (aa 2)))))),?_⟩
 refine jV (f:=D.int) (λx=>-x) (bq l) (λx _=>rfl) ?_;refine⟨_,_,bs,es.map (- ·),rfl,c,rfl,g,λx p=>?_,?_⟩
 ·obtain⟨y,r,rfl⟩:=Kf.mp p;show (-y).natAbs<_;rw[NX];exact j y r
 unfold js at q
 cases e:gw bs (es.map (- ·))with
 |none=>rw[e]at q;exact⟨λ_=>q,tf⟩
 |some t=>rw[e]at q;exact⟨ff,λ_=>q⟩
def oN:Option Nat->D
 |none=>.non
 |some p=>bg p
def l6{g:Type}{c:g->Bool}:∀{rs:List g}{i:Nat}{r:g},rs[i]?=some r->c r=true->(∀j a,j<i->rs[j]?=some a->c a=false)->rs.findIdx? c=some i
 | [],i,r,h,_,_=>by cases h
 |x::rs,0,r,h,e,_=>by cases h;rw[List.findIdx?_cons,e];rfl
 |x::rs,i+1,r,h,e,l=>by rw[List.findIdx?_cons,l 0 x (by omega) rfl,l6 (rs:=rs) (i:=i) h e (λj a p o=>l (j+1) a (by omega) o)];rfl
def nC{g:Type}{c:g->Bool}{rs:List g}(h:∀j e,j<rs.length->rs[j]?=some e->c e=false):rs.findIdx? c=none:=by rw[List.findIdx?_eq_none_iff];intro x l;obtain⟨j,a⟩:=KY l;exact h j x (aE a) a
def gN(bs:List Bd)(r:aw):Bool:=match gw bs r.1 with|some t=>decide (t<r.2)|none=>false
def eW(bs:List Bd)(r:aw):Bool:=match js bs r.1 with|some t=>decide (r.2<=t)|none=>false
def dQ{h:Type}{c:h->Bool}{rs:List h}{i:Nat}{r:h}(o:∀j a,j<i->rs[j]?=some a->c a=false)(p:rs[i]?=some r)(l:c r=false):∀j a,j<i+1->rs[j]?=some a->c a=false:=λj a u g=>by
 by_cases e:j=i
 ·rw[e,p]at g;cases g;exact l
 ·exact o j a (by omega) g
structure RowsP(bs:List Bd)(rs:List aw):Prop where
 bb:∀b∈bs,lB b
 rr:∀r∈rs,r.1.length<=1000/\∀x∈r.1,bN x
inductive z_hopeless_row(ds:List D)(R:D->Prop):Prop|mk (bs:List Bd) (rs:List aw) (_:ds=[.lst (bs.map aS),.lst (rs.map az)]) (_:RowsP bs rs) (_:R (oN (rs.findIdx? (gN bs))))
def Cb(F:Fun K "hopeless_row" "hopeless_row" oz f J)(I:Cl P w K mg base n "greatest_sum" ["bounds","entries"] z_greatest_sum)(z:mg "enumerate"=none):FnOk P w K mg base aI (n+1) f J ["bounds","rows"] (lSp K z_hopeless_row):=by
 refine F.okD sc_hopeless_row (λds R h=>?_) (λM A outer s H E ds R C h=>?_)
 ·obtain⟨bs,rs,rfl,_⟩:=h;rfl
 obtain⟨bs,rs,rfl,u,q⟩:=h
 refine⟨_,(bI (fj Ki rfl (gL rfl z (af (dv 1) ak ae)) (eu (n:=2) rfl (bR (bh (i:=2) sc_hopeless_row.nd rfl Wq) (bR (bh (i:=3) sc_hopeless_row.nd rfl Wq) eG))) (bI (dA (i:=4) sc_hopeless_row.nd rfl Wq (bj I C rfl (af (dv 0) (af (aA (aa 3)) ak aG) ae) ae (ay aG ag)))
   (aL (cH (PWD.td (fK (aV ef (aa 4) (PD.q bA) (aD _)) (ik (aV iE (aa 4) (PD.q (aA (aa 3))) (aD _))))) (aL (bp (dv 2))) cJ))))
   (aL (bp bA))),?_⟩
 refine⟨λi ρ=>∃l o p:Option Sl,ρ=[some (.v (.lst (bs.map aS))),some (.v (.lst (rs.map az))),l,o,p]/\∀j v,j<i->rs[j]?=some v->gN bs v=false,⟨_,_,_,rfl,λj _ B=>absurd B (K3 _)⟩,?_,?_⟩
 ·rintro i d ρ hd ⟨l,o,p,rfl,a⟩;obtain⟨x,G,rfl⟩:=gH hd;obtain⟨r,rfl,g⟩:=bP G;obtain⟨L,y⟩:=u.rr r (J0 g);refine⟨rfl,_,rfl,_,_,bs,r.1,rfl,rfl,rfl,u.bb,y,?_⟩
  cases e:gw bs r.1 with
  |none=>
   have c:gN bs r=false:=by unfold gN;rw[e]
   exact⟨ff,λ_=>⟨ff,λ_=>⟨_,_,_,rfl,dQ a g c⟩⟩⟩
  |some t=>
   refine⟨λ_=>⟨_,rfl,λh=>?_,λh=>?_⟩,tf⟩
   ·have c:gN bs r=true:=by unfold gN;rwa[e]
    rw[l6 g c a]at q;exact q
   ·have c:gN bs r=false:=by unfold gN;rwa[e]
    exact⟨_,_,_,rfl,dQ a g c⟩
 ·rintro ρ ⟨l,o,p,rfl,a⟩;rw[eY,JT]at a;rw[nC a]at q;exact q
inductive z_idle_row(ds:List D)(R:D->Prop):Prop|mk (bs:List Bd) (rs:List aw) (_:ds=[.lst (bs.map aS),.lst (rs.map az)]) (_:RowsP bs rs) (_:R (oN (rs.findIdx? (eW bs))))
def CD(F:Fun K "idle_row" "idle_row" og f J)(y:Cl P w K mg base n "least_sum" ["bounds","entries"] z_least_sum)(C:mg "enumerate"=none):FnOk P w K mg base aI (n+1) f J ["bounds","rows"] (lSp K z_idle_row):=by
 refine F.okD sc_idle_row (λds R h=>?_) (λM A outer s H E ds R I h=>?_)
 ·obtain⟨bs,rs,rfl,_⟩:=h;rfl
 obtain⟨bs,rs,rfl,u,q⟩:=h
 refine⟨_,(bI (fj Ki rfl (gL rfl C (af (dv 1) ak ae)) (eu (n:=2) rfl (bR (bh (i:=2) sc_idle_row.nd rfl Wq) (bR (bh (i:=3) sc_idle_row.nd rfl Wq) eG))) (bI (dA (i:=4) sc_idle_row.nd rfl Wq (bj y I rfl (af (dv 0) (af (aA (aa 3)) ak aG) ae) ae (ay aG ag)))
   (aL (cH (PWD.td (fK (aV ef (aa 4) (PD.q bA) (aD _)) (ik (aV nj (aa 4) (PD.q (aA (aa 3))) (aD _))))) (aL (bp (dv 2))) cJ))))
   (aL (bp bA))),?_⟩
 refine⟨λi ρ=>∃l o p:Option Sl,ρ=[some (.v (.lst (bs.map aS))),some (.v (.lst (rs.map az))),l,o,p]/\∀j v,j<i->rs[j]?=some v->eW bs v=false,⟨_,_,_,rfl,λj _ G=>absurd G (K3 _)⟩,?_,?_⟩
 ·rintro i d ρ hd ⟨l,o,p,rfl,a⟩;obtain⟨x,L,rfl⟩:=gH hd;obtain⟨r,rfl,g⟩:=bP L;obtain⟨z,B⟩:=u.rr r (J0 g);refine⟨rfl,_,rfl,_,bs,r.1,rfl,rfl,z,u.bb,B,?_⟩
  cases e:js bs r.1 with
  |none=>
   have c:eW bs r=false:=by unfold eW;rw[e]
   exact⟨ff,λ_=>⟨ff,λ_=>⟨_,_,_,rfl,dQ a g c⟩⟩⟩
  |some t=>
   refine⟨λ_=>⟨_,rfl,λh=>?_,λh=>?_⟩,tf⟩
   ·have c:eW bs r=true:=by unfold eW;rwa[e]
    rw[l6 g c a]at q;exact q
   ·have c:eW bs r=false:=by unfold eW;rwa[e]
    exact⟨_,_,_,rfl,dQ a g c⟩
 ·rintro ρ ⟨l,o,p,rfl,a⟩;rw[eY,JT]at a;rw[nC a]at q;exact q
def j7{c:Nat->Bool}:∀{st:List Nat}{i u:Nat},st[i]?=some u->c u=true->(∀j u',j<i->st[j]?=some u'->c u'=false)->st.find? c=some u
 | [],i,u,h,_,_=>by cases h
 |x::st,0,u,h,a,_=>by cases h;rw[LH,a]
 |x::st,i+1,u,h,a,e=>by rw[LH,e 0 x (by omega) rfl];exact j7 (st:=st) (i:=i) h a (λj u' l g=>e (j+1) u' (by omega) g)
def kM{c:Nat->Bool}{st:List Nat}(e:∀j u',j<st.length->st[j]?=some u'->c u'=false):st.find? c=none:=by rw[List.find?_eq_none];intro x g h;obtain⟨j,a⟩:=KY g;rw[e j x (aE a) a]at h;cases h
def mf(bs:List Bd)(u:Nat):Bool:=oE (ax bs u)
inductive z_crossed_unknown(ds:List D)(R:D->Prop):Prop|mk (bs:List Bd) (st:List Nat) (_:ds=[.lst (bs.map aS),.lst (st.map bg)]) (_:(∀u∈st,u<bs.length)) (_:R (oN (st.find? (mf bs))))
def Bk(F:Fun K "crossed_unknown" "crossed_unknown" pE f J)(p:Cl P w K mg base n "is_crossed" ["pair"] z_is_crossed):FnOk P w K mg base aI (n+1) f J ["bounds","staying"] (lSp K z_crossed_unknown):=by
 refine F.okD sc_crossed_unknown (λds R h=>?_) (λr A outer s H E ds R l h=>?_)
 ·obtain⟨bs,st,rfl,_⟩:=h;rfl
 obtain⟨bs,st,rfl,o,q⟩:=h
 refine⟨_,(bI (fj Ki rfl (cb (dv 1)) (bh (i:=2) sc_crossed_unknown.nd rfl Wq) (aL (cH (cA (PD.q (bj p l rfl (af (bD (aa 0) (aa 2) (λ_ _=>rfl)) ak aG) aG ag)) (λ_=>rfl)) (aL (bp (dv 2))) cJ)))
   (aL (bp bA))),?_⟩
 refine⟨λi ρ=>∃e:Option Sl,ρ=[some (.v (.lst (bs.map aS))),some (.v (.lst (st.map bg))),e]/\∀j u',j<i->st[j]?=some u'->mf bs u'=false,⟨_,rfl,λj _ g=>absurd g (K3 _)⟩,?_,?_⟩
 ·rintro i d ρ hd ⟨e,rfl,a⟩;obtain⟨u,rfl,c⟩:=bP hd;refine⟨_,fZ (o u (J0 c)) rfl,ax bs u,rfl,λh=>?_,λh=>?_⟩
  ·rw[j7 c h a]at q;exact q
  ·exact⟨_,rfl,dQ a c h⟩
 ·rintro ρ ⟨e,rfl,a⟩;rw[JT]at a;rw[kM a]at q;exact q
def fh(bs:List Bd)(u:Nat):Bool:=match (ax bs u).2 with|some m=>decide ((ax bs u).1=m)|none=>false
inductive z_fixed_unknown(ds:List D)(R:D->Prop):Prop|mk (bs:List Bd) (st:List Nat) (_:ds=[.lst (bs.map aS),.lst (st.map bg)]) (_:(∀u∈st,u<bs.length)) (_:R (oN (st.find? (fh bs))))
def BC(F:Fun K "fixed_unknown" "fixed_unknown" mX f J) :FnOk P w K mg base aI (n+1) f J ["bounds","staying"] (lSp K z_fixed_unknown):=by
 refine F.okD sc_fixed_unknown (λds R h=>?_) (λy A outer s H E ds R v h=>?_)
 ·obtain⟨bs,st,rfl,_⟩:=h;rfl
 obtain⟨bs,st,rfl,x,q⟩:=h
 refine⟨_,(bI (fj Ki rfl (cb (dv 1)) (bh (i:=2) sc_fixed_unknown.nd rfl Wq) (aL (cH (aV (yV v.units) (PD.q (aA (PD.q (bD (aa 0) (aa 2) (λ_ _=>rfl))))) (PD.q (aA (PD.q (bD (aa 0) (aa 2) (λ_ _=>rfl))))) (aD _)) (aL (bp (dv 2))) cJ)))
   (aL (bp bA))),?_⟩
 refine⟨λi ρ=>∃o:Option Sl,ρ=[some (.v (.lst (bs.map aS))),some (.v (.lst (st.map bg))),o]/\∀j u',j<i->st[j]?=some u'->fh bs u'=false,⟨_,rfl,λj _ r=>absurd r (K3 _)⟩,?_,?_⟩
 ·rintro i d ρ hd ⟨o,rfl,a⟩;obtain⟨u,rfl,g⟩:=bP hd;have p:=x u (J0 g);refine⟨_,fZ p rfl,_,rfl,_,fZ p rfl,oI (ax bs u).2,rfl,?_⟩
  cases l:(ax bs u).2 with
  |none=>
   have c:fh bs u=false:=by unfold fh;rw[l]
   exact⟨ff,λ_=>⟨_,rfl,dQ a g c⟩⟩
  |some m=>
   refine⟨λh=>?_,λh=>?_⟩
   ·have c:fh bs u=true:=by unfold fh;rw[l];exact KZ (eq_of_beq h)
    rw[j7 g c a]at q;exact q
   ·have c:fh bs u=false:=by
     unfold fh;rw[l];refine Ku λe=>?_;have h':((ax bs u).1==m)=false:=h;rw[e,KC]at h';cases h'
    exact⟨_,rfl,dQ a g c⟩
 ·rintro ρ ⟨o,rfl,a⟩;rw[JT]at a;rw[kM a]at q;exact q
def nO(rs:List aw)(u:Nat):Bool:=rs.any λr=>decide (0<r.1.getD u 0)
def iK(rs:List aw)(u:Nat):Bool:=rs.any λr=>decide (r.1.getD u 0<0)
inductive z_has_above(ds:List D)(R:D->Prop):Prop|mk (rs:List aw) (u:Nat) (_:ds=[.lst (rs.map az),bg u]) (_:rs.length<=1000) (_:(∀r∈rs,u<r.1.length)) (_:R (.bl (nO rs u)))
def CL(F:Fun K "has_above" "has_above" lW f J)(j:mg "any"=none):FnOk P w K mg base aI (n+1) f J ["rows","unknown"] (lSp K z_has_above):=by
 refine F.okD IE (λds R h=>?_) (λl A outer s H E ds R o h=>?_)
 ·obtain⟨rs,u,rfl,_⟩:=h;rfl
 obtain⟨rs,u,rfl,e,g,q⟩:=h;refine⟨_,(aL (bp (bM (vq rfl) rfl j NY (aN (PD.q (PF.d (de (k:=1) (N':=["row","unknown"]) (cap:=[none,some 1]) rfl (.ok (show bX ["rows","unknown"] (av lW) _ ["row","unknown"] [none,some 1]=true by lia)) (by lia) (bE (by decide)) (cb (dv 0)) (λ_ _ _ _ _=>(bh (i:=0) (show List.Nodup (["row","unknown"]:List Str)by lia) rfl Wq)) (λ_ _ _ _ _=>(dS fm (PD.q (bD (PD.q (aA (aa 0))) (aa 1) (λ_ _=>rfl))) (PD.q ao) (aD _)))))) aX bC) bC ag))),?_⟩;refine fN (f:=az) (λr=>D.bl (decide (0<r.1.getD u 0))) (bq e) (λr a=>⟨_,rfl,_,cR (i:=u) (bZ (d:=0) (g r a)) rfl,rfl⟩) ?_
 have c:((rs.map λr=>decide (0<r.1.getD u 0)).any id)=nO rs u:=by unfold nO;rw[N6];rfl
 refine⟨rs.map λr=>decide (0<r.1.getD u 0),by rw[KQ];rfl,?_⟩;exact (KO (λz=>R (.bl z)) c).mpr q
inductive z_has_below(ds:List D)(R:D->Prop):Prop|mk (rs:List aw) (u:Nat) (_:ds=[.lst (rs.map az),bg u]) (_:rs.length<=1000) (_:(∀r∈rs,u<r.1.length)) (_:R (.bl (iK rs u)))
def ID(F:Fun K "has_below" "has_below" lV f J)(j:mg "any"=none):FnOk P w K mg base aI (n+1) f J ["rows","unknown"] (lSp K z_has_below):=by
 refine F.okD AQ (λds R h=>?_) (λl A outer s H E ds R o h=>?_)
 ·obtain⟨rs,u,rfl,_⟩:=h;rfl
 obtain⟨rs,u,rfl,e,g,q⟩:=h;refine⟨_,(aL (bp (bM (vq rfl) rfl j NY (aN (PD.q (PF.d (de (k:=1) (N':=["row","unknown"]) (cap:=[none,some 1]) rfl (.ok (show bX ["rows","unknown"] (av lV) _ ["row","unknown"] [none,some 1]=true by lia)) (by lia) (bE (by decide)) (cb (dv 0)) (λ_ _ _ _ _=>(bh (i:=0) (show List.Nodup (["row","unknown"]:List Str)by lia) rfl Wq)) (λ_ _ _ _ _=>(dS iE (PD.q (bD (PD.q (aA (aa 0))) (aa 1) (λ_ _=>rfl))) (PD.q ao) (aD _)))))) aX bC) bC ag))),?_⟩;refine fN (f:=az) (λr=>D.bl (decide (r.1.getD u 0<0))) (bq e) (λr a=>⟨_,rfl,_,cR (i:=u) (bZ (d:=0) (g r a)) rfl,rfl⟩) ?_
 have c:((rs.map λr=>decide (r.1.getD u 0<0)).any id)=iK rs u:=by unfold iK;rw[N6];rfl
 refine⟨rs.map λr=>decide (r.1.getD u 0<0),by rw[KQ];rfl,?_⟩;exact (KO (λz=>R (.bl z)) c).mpr q
def fQ(bs:List Bd)(rs:List aw)(gl:List Int)(u:Nat):Bool:=!oE (ax bs u)&&decide (gl.getD u 0<=0)&&!nO rs u
structure StayP(bs:List Bd)(rs:List aw)(gl:List Int)(st:List Nat):Prop where
 sb:∀u∈st,u<bs.length
 sg:∀u∈st,u<gl.length
 rl:rs.length<=1000
 sr:∀u∈st,∀r∈rs,u<r.1.length
inductive z_sinking_unknown(ds:List D)(R:D->Prop):Prop|mk (bs:List Bd) (rs:List aw) (gl:List Int) (st:List Nat) (_:ds=[.lst (bs.map aS),.lst (rs.map az),.tup (gl.map D.int),.lst (st.map bg)]) (_:StayP bs rs gl st) (_:R (oN (st.find? (fQ bs rs gl))))
def D3(F:Fun K "sinking_unknown" "sinking_unknown" pz f J)(z:Cl P w K mg base n "is_crossed" ["pair"] z_is_crossed)(v:Cl P w K mg base n "has_above" ["rows","unknown"] z_has_above):FnOk P w K mg base aI (n+1) f J ["bounds","rows","goal","staying"] (lSp K z_sinking_unknown):=by
 refine F.okD sc_sinking_unknown (λds R h=>?_) (λB A outer s H E ds R r h=>?_)
 ·obtain⟨bs,rs,gl,st,rfl,_⟩:=h;rfl
 obtain⟨bs,rs,gl,st,rfl,e,q⟩:=h
 refine⟨_,(bI (fj Ki rfl (cb (dv 3)) (bh (i:=4) sc_sinking_unknown.nd rfl Wq) (aL (cH (PWD.td (fK (cW (cA (PD.q (bj z r rfl (af (bD (aa 0) (aa 4) (λ_ _=>rfl)) ak aG) aG ag)) (λ_=>rfl))) (fK (aV AL (PD.q (bD (aa 2) (aa 4) (λ_ _=>rfl))) (PD.q ao) (aD _)) (ik (cW (cA (PD.q (bj v r rfl (af (dv 1) (af (dv 4) ak ae) ae) ae (ay ae ag))) (λ_=>rfl))))))) (aL (bp (dv 4))) cJ)))
   (aL (bp bA))),?_⟩
 refine⟨λi ρ=>∃p:Option Sl,ρ=[some (.v (.lst (bs.map aS))),some (.v (.lst (rs.map az))),some (.v (.tup (gl.map D.int))),some (.v (.lst (st.map bg))),p]/\∀j u',j<i->st[j]?=some u'->fQ bs rs gl u'=false,⟨_,rfl,λj _ y=>absurd y (K3 _)⟩,?_,?_⟩
 ·rintro i d ρ hd ⟨p,rfl,a⟩;obtain⟨u,rfl,c⟩:=bP hd;have o:=J0 c;refine⟨_,fZ (e.sb u o) rfl,ax bs u,rfl,λh=>⟨_,cR (i:=u) (bZ (d:=0) (e.sg u o)) rfl,λg=>⟨rs,u,rfl,e.rl,e.sr u o,λl=>?_,λl=>?_⟩,λg=>⟨ff,λ_=>?_⟩⟩,λh=>⟨ff,λ_=>?_⟩⟩
  ·have x:fQ bs rs gl u=true:=by unfold fQ;rw[h,g,l];rfl
   rw[j7 c x a]at q;exact q
  ·exact⟨_,rfl,dQ a c (by unfold fQ;rw[l,LR])⟩
  ·exact⟨_,rfl,dQ a c (by unfold fQ;rw[g,LR,LP])⟩
  ·exact⟨_,rfl,dQ a c (by unfold fQ;rw[h,LP,LP])⟩
 ·rintro ρ ⟨p,rfl,a⟩;rw[JT]at a;rw[kM a]at q;exact q
def fT(bs:List Bd)(rs:List aw)(gl:List Int)(u:Nat):Bool:=(ax bs u).2.isSome&&!oE (ax bs u)&&decide (0<=gl.getD u 0)&&!iK rs u
inductive z_rising_unknown(ds:List D)(R:D->Prop):Prop|mk (bs:List Bd) (rs:List aw) (gl:List Int) (st:List Nat) (_:ds=[.lst (bs.map aS),.lst (rs.map az),.tup (gl.map D.int),.lst (st.map bg)]) (_:StayP bs rs gl st) (_:R (oN (st.find? (fT bs rs gl))))
def DC(F:Fun K "rising_unknown" "rising_unknown" pC f J)(B:Cl P w K mg base n "is_crossed" ["pair"] z_is_crossed)(C:Cl P w K mg base n "has_below" ["rows","unknown"] z_has_below):FnOk P w K mg base aI (n+1) f J ["bounds","rows","goal","staying"] (lSp K z_rising_unknown):=by
 refine F.okD sc_rising_unknown (λds R h=>?_) (λG A outer s H E ds R x h=>?_)
 ·obtain⟨bs,rs,gl,st,rfl,_⟩:=h;rfl
 obtain⟨bs,rs,gl,st,rfl,e,q⟩:=h
 refine⟨_,(bI (fj Ki rfl (cb (dv 3)) (bh (i:=4) sc_rising_unknown.nd rfl Wq) (bI (dA (i:=5) sc_rising_unknown.nd rfl Wq (bD (aa 0) (aa 4) (λ_ _=>rfl)))
   (aL (cH (PWD.td (fK (aV ef (PD.q (aA (aa 5))) (PD.q bA) (aD _)) (fK (cW (cA (PD.q (bj B x rfl (af (dv 5) ak ae) ae ag)) (λ_=>rfl))) (fK (aV nj (PD.q (bD (aa 2) (aa 4) (λ_ _=>rfl))) (PD.q ao) (aD _)) (ik (cW (cA (PD.q (bj C x rfl (af (dv 1) (af (dv 4) ak ae) ae) ae (ay ae ag))) (λ_=>rfl)))))))) (aL (bp (dv 4))) cJ))))
   (aL (bp bA))),?_⟩
 refine⟨λi ρ=>∃p r:Option Sl,ρ=[some (.v (.lst (bs.map aS))),some (.v (.lst (rs.map az))),some (.v (.tup (gl.map D.int))),some (.v (.lst (st.map bg))),p,r]/\∀j u',j<i->st[j]?=some u'->fT bs rs gl u'=false,⟨_,_,rfl,λj _ z=>absurd z (K3 _)⟩,?_,?_⟩
 ·rintro i d ρ hd ⟨p,r,rfl,a⟩;obtain⟨u,rfl,c⟩:=bP hd;have o:=J0 c;refine⟨_,fZ (e.sb u o) rfl,oI (ax bs u).2,rfl,?_⟩
  cases v:(ax bs u).2 with
  |none=>exact⟨ff,λ_=>⟨ff,λ_=>⟨_,_,rfl,dQ a c (by unfold fT;rw[v];rfl)⟩⟩⟩
  |some mm=>
   refine⟨λ_=>⟨ax bs u,rfl,λh=>⟨_,cR (i:=u) (bZ (d:=0) (e.sg u o)) rfl,λg=>⟨rs,u,rfl,e.rl,e.sr u o,λl=>?_,λl=>?_⟩,λg=>⟨ff,λ_=>?_⟩⟩,λh=>⟨ff,λ_=>?_⟩⟩,tf⟩
   ·have y:fT bs rs gl u=true:=by unfold fT;rw[v,h,g,l];rfl
    rw[j7 c y a]at q;exact q
   ·exact⟨_,_,rfl,dQ a c (by unfold fT;rw[l,LR])⟩
   ·exact⟨_,_,rfl,dQ a c (by unfold fT;rw[g,LR,LP])⟩
   ·exact⟨_,_,rfl,dQ a c (by unfold fT;rw[h,LR,LP,LP])⟩
 ·rintro ρ ⟨p,r,rfl,a⟩;rw[JT]at a;rw[kM a]at q;exact q
def fS(bs:List Bd)(rs:List aw)(gl:List Int)(u:Nat):Bool:=(ax bs u).2.isNone&&(gl.getD u 0==0)&&!iK rs u
inductive z_hanging_unknown(ds:List D)(R:D->Prop):Prop|mk (bs:List Bd) (rs:List aw) (gl:List Int) (st:List Nat) (_:ds=[.lst (bs.map aS),.lst (rs.map az),.tup (gl.map D.int),.lst (st.map bg)]) (_:StayP bs rs gl st) (_:R (oN (st.find? (fS bs rs gl))))
def Eu(F:Fun K "hanging_unknown" "hanging_unknown" pG f J)(z:Cl P w K mg base n "has_below" ["rows","unknown"] z_has_below):FnOk P w K mg base aI (n+1) f J ["bounds","rows","goal","staying"] (lSp K z_hanging_unknown):=by
 refine F.okD sc_hanging_unknown (λds R h=>?_) (λB A outer s H E ds R v h=>?_)
 ·obtain⟨bs,rs,gl,st,rfl,_⟩:=h;rfl
 obtain⟨bs,rs,gl,st,rfl,e,q⟩:=h
 refine⟨_,(bI (fj Ki rfl (cb (dv 3)) (bh (i:=4) sc_hanging_unknown.nd rfl Wq) (aL (cH (PWD.td (fK (aV gX (PD.q (aA (PD.q (bD (aa 0) (aa 4) (λ_ _=>rfl))))) (PD.q bA) (aD _)) (fK (aV (dw v.units) (PD.q (bD (aa 2) (aa 4) (λ_ _=>rfl))) (PD.q ao) (aD _)) (ik (cW (cA (PD.q (bj z v rfl (af (dv 1) (af (dv 4) ak ae) ae) ae (ay ae ag))) (λ_=>rfl))))))) (aL (bp (dv 4))) cJ)))
   (aL (bp bA))),?_⟩
 refine⟨λi ρ=>∃p:Option Sl,ρ=[some (.v (.lst (bs.map aS))),some (.v (.lst (rs.map az))),some (.v (.tup (gl.map D.int))),some (.v (.lst (st.map bg))),p]/\∀j u',j<i->st[j]?=some u'->fS bs rs gl u'=false,⟨_,rfl,λj _ y=>absurd y (K3 _)⟩,?_,?_⟩
 ·rintro i d ρ hd ⟨p,rfl,a⟩;obtain⟨u,rfl,c⟩:=bP hd;have o:=J0 c;refine⟨_,fZ (e.sb u o) rfl,oI (ax bs u).2,rfl,?_⟩
  cases r:(ax bs u).2 with
  |some mm=>exact⟨ff,λ_=>⟨ff,λ_=>⟨_,rfl,dQ a c (by unfold fS;rw[r];rfl)⟩⟩⟩
  |none=>
   refine⟨λ_=>⟨_,cR (i:=u) (bZ (d:=0) (e.sg u o)) rfl,λg=>⟨rs,u,rfl,e.rl,e.sr u o,λl=>?_,λl=>?_⟩,λg=>⟨ff,λ_=>?_⟩⟩,tf⟩
   ·have x:fS bs rs gl u=true:=by unfold fS;rw[r,g,l];rfl
    rw[j7 c x a]at q;exact q
   ·exact⟨_,rfl,dQ a c (by unfold fS;rw[l,LR])⟩
   ·exact⟨_,rfl,dQ a c (by unfold fS;rw[g,LR,LP])⟩
 ·rintro ρ ⟨p,rfl,a⟩;rw[JT]at a;rw[kM a]at q;exact q
def ed(r:aw):Bool:=decide (1<bw r.1)
inductive z_uneven_row(ds:List D)(R:D->Prop):Prop|mk (rs:List aw) (_:ds=[.lst (rs.map az)]) (_:R (oN (rs.findIdx? ed)))
def IS(F:Fun K "uneven_row" "uneven_row" nv f J)(y:Cl P w K mg base n "common" ["numbers"] z_common)(o:mg "enumerate"=none):FnOk P w K mg base aI (n+1) f J ["rows"] (lSp K z_uneven_row):=by
 refine F.okD sc_uneven_row (λds R h=>?_) (λz A outer s H E ds R u h=>?_)
 ·obtain⟨rs,rfl,_⟩:=h;rfl
 obtain⟨rs,rfl,q⟩:=h
 refine⟨_,(bI (fj Ki rfl (gL rfl o (af (dv 0) ak ae)) (eu (n:=2) rfl (bR (bh (i:=1) sc_uneven_row.nd rfl Wq) (bR (bh (i:=2) sc_uneven_row.nd rfl Wq) eG))) (aL (cH (aV fm (PD.q (bj y u rfl (af (aA (aa 2)) ak aG) aG ag)) (PD.q ao) (aD _)) (aL (bp (dv 1))) cJ)))
   (aL (bp bA))),?_⟩
 refine⟨λi ρ=>∃c e:Option Sl,ρ=[some (.v (.lst (rs.map az))),c,e]/\∀j l,j<i->rs[j]?=some l->ed l=false,⟨_,_,rfl,λj _ p=>absurd p (K3 _)⟩,?_,?_⟩
 ·rintro i d ρ hd ⟨c,e,rfl,a⟩;obtain⟨x,v,rfl⟩:=gH hd;obtain⟨r,rfl,g⟩:=bP v;refine⟨rfl,_,rfl,r.1,rfl,λh=>?_,λh=>?_⟩
  ·rw[l6 g h a]at q;exact q
  ·exact⟨_,_,rfl,dQ a g h⟩
 ·rintro ρ ⟨c,e,rfl,a⟩;rw[eY,JT]at a;rw[nC a]at q;exact q
def gJ(r:aw):Bool:=decide ((dF r.1).length=1)
inductive z_single_row(ds:List D)(R:D->Prop):Prop|mk (rs:List aw) (_:ds=[.lst (rs.map az)]) (_:(∀r∈rs,r.1.length<=1000)) (_:R (oN (rs.findIdx? gJ)))
def y9(F:Fun K "single_row" "single_row" kS f J)(C:mg "enumerate"=none)(B:mg "len"=none):FnOk P w K mg base aI (n+1) f J ["rows"] (lSp K z_single_row):=by
 refine F.okD sc_single_row (λds R h=>?_) (λO A outer s H E ds R v h=>?_)
 ·obtain⟨rs,rfl,_⟩:=h;rfl
 obtain⟨rs,rfl,M,q⟩:=h
 refine⟨_,(bI (fj Ki rfl (gL rfl C (af (dv 0) ak ae)) (eu (n:=2) rfl (bR (bh (i:=1) sc_single_row.nd rfl Wq) (bR (bh (i:=2) sc_single_row.nd rfl Wq) eG))) (aL (cH (aV (dw v.units) (PD.q (bM cZ rfl B KH (aN (PD.q (PF.d (rX (k:=1) (N':=["entry"]) (cap:=[none]) rfl (.ok (show bX ["rows","place","row"] (av kS) _ ["entry"] [none]=true by lia)) (by lia) (bE (by decide)) (cb (aA (aa 2))) (λ_ _ _ _ _=>(bh (i:=0) (show List.Nodup (["entry"]:List Str)by lia) rfl Wq)) (λ_ _ _ _ _=>(ki (aV (gj v.units) (aa 0) (PD.q ao) (aD _)))) (λ_ _ _ _ _=>(dv 0))))) aX bC) bC ag)) (PD.q ao) (aD _)) (aL (bp (dv 1))) cJ)))
   (aL (bp bA))),?_⟩
 refine⟨λi ρ=>∃o p:Option Sl,ρ=[some (.v (.lst (rs.map az))),o,p]/\∀j y,j<i->rs[j]?=some y->gJ y=false,⟨_,_,rfl,λj _ L=>absurd L (K3 _)⟩,?_,?_⟩
 ·rintro i d ρ hd ⟨o,p,rfl,a⟩;obtain⟨x,l,rfl⟩:=gH hd;obtain⟨r,rfl,c⟩:=bP l;have z:=M r (J0 c);refine⟨rfl,_,rfl,by rw[JT];exact bq z,iZ (λi=>decide (r.1.getD i 0≠0)) (λi=>D.int (r.1.getD i 0)),λk d hd=>?_,λys u N=>?_⟩
  ·obtain⟨x,rfl,l⟩:=bP hd;have ex:r.1.getD k 0=x:=fq l;refine⟨λh=>⟨?_,?_⟩,λh=>?_⟩
   ·show D.int x=D.int (r.1.getD k 0);rw[ex]
   ·show decide (r.1.getD k 0≠0)=true;rw[ex]
    exact KZ λe=>by rw[e]at h;cases h
   ·show decide (r.1.getD k 0≠0)=false;rw[ex];refine Ku λe=>?_;have h':(!(x==0))=false:=h
    have:(x==0)=true:=by simpa using h'
    exact e (eq_of_beq this)
  rw[JT]at u;have I:ys.filterMap id=(dF r.1).map (λi=>D.int (r.1.getD i 0)):=j6 u N
  have G:(ys.filterMap id).length=(dF r.1).length:=by rw[I,JT]
  refine⟨λh=>?_,λh=>?_⟩
  ·have h':((((ys.filterMap id).length:Nat):Int)==1)=true:=h
   have g:gJ r=true:=by
    unfold gJ;have:=eq_of_beq h';exact KZ (by omega)
   rw[l6 c g a]at q;exact q
  ·have h':((((ys.filterMap id).length:Nat):Int)==1)=false:=h
   have g:gJ r=false:=by unfold gJ;refine Ku λe=>?_;rw[G,e]at h';cases h'
   exact⟨_,_,rfl,dQ a c g⟩
 ·rintro ρ ⟨o,p,rfl,a⟩;rw[eY,JT]at a;rw[nC a]at q;exact q
structure Dbl(rs:List aw)(j i:Nat)(a b:aw):Prop where
 ji:j<i
 ja:rs[j]?=some a
 ib:rs[i]?=some b
 eq:a.1=b.1
 no:∀k l x y,k<l->l<i->rs[k]?=some x->rs[l]?=some y->x.1≠y.1
def kI(es:List Int):List aC:=es.map Sum.inl
def CQ{a b:List Int}(h:kI a=kI b):a=b:=List.map_inj_right (f:=(Sum.inl:Int->aC)) (λ_ _ e=>Sum.inl.inj e)|>.mp h
def oV(es:List Int):es.map D.int=(kI es).map gM:=by unfold kI;rw[KQ];rfl
structure Came(rs:List aw)(i:Nat)(Oc:List (List aC×D)):Prop where
 ln:Oc.length<=i
 at_:∀es,(bG Oc (kI es)=none/\∀j r,j<i->rs[j]?=some r->r.1≠es)\/∃j r,j<i/\rs[j]?=some r/\r.1=es/\bG Oc (kI es)=some (bg j)
 no:∀k l x y,k<l->l<i->rs[k]?=some x->rs[l]?=some y->x.1≠y.1
def Came.next{rs:List aw}{i:Nat}{g:List (List aC×D)}{r:aw}(h:Came rs i g)(p:rs[i]?=some r)(C:bG g (kI r.1)=none)(v:∀j x,j<i->rs[j]?=some x->x.1≠r.1):Came rs (i+1) (i4 g (kI r.1) (bg i)):=by
 refine⟨?_,λes=>?_,λk l x y z E a u=>?_⟩
 ·rw[EI C,JW,KA];have:=h.ln;omega
 ·rw[CJ];by_cases c:r.1=es
  ·subst c;exact .inr ⟨i,r,by omega,p,rfl,by rw[J9 rfl]⟩
  ·rw[JZ λe=>c (CQ e).symm];rcases h.at_ es with⟨o,A⟩|⟨j,x,B,a,e,o⟩
   ·refine .inl ⟨o,λj x B a=>?_⟩;by_cases e:j=i
    ·rw[e,p]at a;cases a;exact c
    ·exact A j x (by omega) a
   ·exact .inr ⟨j,x,by omega,a,e,o⟩
 ·by_cases e:l=i
  ·rw[e,p]at u;cases u;exact v k x (by omega) a
  ·exact h.no k l x y z (by omega) a u
inductive z_doubled_row(ds:List D)(R:D->Prop):Prop|mk (rs:List aw) (_:ds=[.lst (rs.map az)]) (_:rs.length<=1000) (_:(∀r∈rs,r.1.length<=30)) (_:((∀(k l:Nat)(x y:aw),k<l->rs[k]?=some x->rs[l]?=some y->x.1≠y.1)->R .non)) (_:∀j i a b,Dbl rs j i a b->R (bg (if a.2<b.2 then j else i)))
def Il(F:Fun K "doubled_row" "doubled_row" mP f J)(S:mg "enumerate"=none):FnOk P w K mg base aI (n+1) f J ["rows"] (lSpM K (zM z_doubled_row)):=by
 refine F.okM sc_doubled_row (λas R O h=>?_) (λOh A outer s H E as R O qs Ot z h N=>?_)
 ·obtain⟨_,rfl,rs,rfl,_⟩:=h;rfl
 obtain⟨_,rfl,rs,rfl,L,Z,X,Y⟩:=h;obtain rfl:=jc N
 refine⟨_,(ar (aM (i:=1) sc_doubled_row.nd rfl Wq Gy)
   (ar (eP Ki rfl (eT (gL rfl S (af (dv 0) ak ae))) (iR (n:=2) rfl (eC (cD (i:=2) sc_doubled_row.nd rfl Wq) (eC (cD (i:=3) sc_doubled_row.nd rfl Wq) iI))) (cI (b7 (HI 1 z.units (aA (aa 3))) (ar (aM (i:=4) sc_doubled_row.nd rfl Wq (yS 1 z.units (aA (aa 3)) (λ_ _=>rfl)))
   (aQ (cw (ah (oF (aV iE (PD.q (aA (PD.q (bD (aa 0) (aa 4) (λ_ _=>rfl))))) (PD.q (aA (aa 3))) (aD _)) (dv 4) (dv 2)))))) cq)
   (aQ (zf 1 z.units (aA (aa 3)) (dv 2)))))
   (aQ (cw (ah bA))))),?_⟩
 intro ke;refine⟨λi ρ=>∃(a:List (List aC×D))(C G o:Option Sm),ρ=[some (.v (.lst (rs.map az))),some (.ob none (.mpT a)),C,G,o]/\Came rs i a,⟨[],_,_,_,rfl,J3 _,λes=>.inl ⟨rfl,λj _ v=>absurd v (K3 _)⟩,λ_ _ _ _ _ L=>absurd L (K3 _)⟩,?_,?_⟩
 ·rintro i d ρ hd ⟨a,C,G,o,rfl,c⟩;obtain⟨x,B,rfl⟩:=gH hd;obtain⟨r,rfl,u⟩:=bP B;have Qq:=aE u;refine⟨rfl,?_⟩;rcases c.at_ r.1 with⟨g,T⟩|⟨j,x,v,I,e,g⟩
  ·refine⟨λρ=>ρ=[some (.v (.lst (rs.map az))),some (.ob none (.mpT a)),some (.v (bg i)),some (.v (az r)),o],⟨_,rfl,kI r.1,KO D.tup (oV r.1),?_⟩,?_⟩
   ·show ((false != (bG a (kI r.1)).isSome)=true->_)/\((false != (bG a (kI r.1)).isSome)=false->_);rw[g];exact⟨ff,λ_=>rfl⟩
   rintro ρ rfl;refine⟨trivial,_,rfl,kI r.1,KO D.tup (oV r.1),?_⟩;refine⟨bq (by have:=c.ln;omega),_,rfl,_,some (.v (bg i)),some (.v (az r)),o,rfl,c.next u g T⟩
  ·refine⟨λ_=>False,⟨_,rfl,kI r.1,KO D.tup (oV r.1),?_⟩,λρ h=>h.elim⟩;show ((false != (bG a (kI r.1)).isSome)=true->_)/\((false != (bG a (kI r.1)).isSome)=false->_);rw[g];refine⟨λ_=>⟨_,rfl,kI r.1,KO D.tup (oV r.1),bg j,g,?_⟩,tf⟩;have U:Dbl rs j i x r:=⟨v,I,u,e,c.no⟩;have p:=Y j i x r U;refine⟨_,cR (i:=j) I rfl,_,rfl,_,rfl,λh=>?_,λh=>?_⟩
   ·rw[J9 (dP h)]at p;exact p
   ·rw[JZ (Li h)]at p;exact p
 ·rintro ρ ⟨a,C,G,o,rfl,c⟩;rw[eY,JT]at c;exact X λk l x y Q B M=>c.no k l x y Q (aE M) B M
structure LedP(n:Nat)(s:Led):Prop where
 n8:n<=8
 bl:s.bs.length=n
 gl:s.gl.length=n
 ll:s.lm.length=n
 ml:s.mm.length=n
 sl:∀u∈s.st,u<n
 nd:s.st.Nodup
 rl:s.rs.length<=30
 rm:s.rm.length=s.rs.length
 rr:∀r∈s.rs,r.1.length=n/\(∀x∈r.1,x.natAbs<2^9000)/\0<=bw r.1/\bw r.1<2^9000
 bb:∀b∈s.bs,lB b
 gg:∀x∈s.gl,bN x
 ln:s.ln.length<700
 gs:s.gs.length<=8
 gn:s.gn.length<=8
 n1:∀d∈s.rm,NoL d
 n2:∀d∈s.mm,NoL d
 n3:∀d∈s.lm,NoL d
 n4:∀d∈s.ln,NoL d
def oO{x:Int}(h:x.natAbs<2^9000):bN x:=M4 h (Ly (by decide) (by decide))
def LedP.rows{n:Nat}{s:Led}(h:LedP n s):RowsP s.bs s.rs:=⟨h.bb,λr a=>⟨by rw[(h.rr r a).1];have:=h.n8;omega,λx c=>oO ((h.rr r a).2.1 x c)⟩⟩
def DZ(rs:List aw):Prop:=∀(k l:Nat)(x y:aw),k<l->rs[k]?=some x->rs[l]?=some y->x.1≠y.1
inductive RowSt(s:Led):Bool->Led->Prop where
 |idle {p:Nat}:s.rs.findIdx? (eW s.bs)=some p->RowSt s true (cg s p)
 |single {p u:Nat} {r:aw}:s.rs.findIdx? (eW s.bs)=none->s.rs.findIdx? gJ=some p->s.rs[p]?=some r->(dF r.1)[0]?=some u->RowSt s true (kZ s p u r)
 |uneven {p:Nat} {r:aw}:s.rs.findIdx? (eW s.bs)=none->s.rs.findIdx? gJ=none->s.rs.findIdx? ed=some p->s.rs[p]?=some r->RowSt s true (jo s p r)
 |doubled {j i:Nat} {a b:aw}:s.rs.findIdx? (eW s.bs)=none->s.rs.findIdx? gJ=none->s.rs.findIdx? ed=none->Dbl s.rs j i a b->RowSt s true (cg s (if a.2<b.2 then j else i))
 |no:s.rs.findIdx? (eW s.bs)=none->s.rs.findIdx? gJ=none->s.rs.findIdx? ed=none->DZ s.rs->RowSt s false s
def gW{a:Type}{c:a->Bool}{rs:List a}{p:Nat}(h:rs.findIdx? c=some p):∃r,rs[p]?=some r/\c r=true:=by obtain⟨g,e,_⟩:=List.findIdx?_eq_some_iff_getElem.mp h;exact⟨rs[p],KU g,e⟩
def jH(o:Option Nat):NoL (oN o):=by cases o<;>constructor
inductive y_row_struck(as:List Sm)(R:Sm->List Om->Prop)(Rx:XD->List Om->Prop):Prop|mk (a:Option Addr) (n:Nat) (s:Led) (_:as=[.ob a (bQ s)]) (_:LedP n s) (_:∀b s',RowSt s b s'->R (.v (.bl b)) [bQ s'])
def Bh(F:Fun K "row_struck" "row_struck" nz f J){B:Addr}(c:TxtLedger K mg B)(T:Cl P w K mg base n "idle_row" ["bounds","rows"] z_idle_row)(X:Cl P w K mg base n "single_row" ["rows"] z_single_row)(U:Cl P w K mg base n "uneven_row" ["rows"] z_uneven_row)(S:Cl P w K mg base n "doubled_row" ["rows"] z_doubled_row)(N:MthM P w K mg base n B "drop_row" ["self","place"] y_Ledger__drop_row)(OJ:MthM P w K mg base n B "turn_to_bound" ["self","place"] y_Ledger__turn_to_bound)(Y:MthM P w K mg base n B "even_row" ["self","place"] y_Ledger__even_row):FnOk P w K mg base aI (n+1) f J ["ledger"] (lSpM K y_row_struck):=by
 refine F.okM sc_row_struck (λas R Rx h=>?_) (λOh A outer s H E as R Rx qs Ot l h Z=>?_)
 ·obtain⟨a,k,s,rfl,_⟩:=h;rfl
 obtain⟨a,k,s,rfl,e,q⟩:=h;obtain⟨G,rfl⟩:=eK Z
 refine⟨_,(ar (aM (i:=1) sc_row_struck.nd rfl Wq (cG (bj T l rfl (af (aT c.cl c.n_bounds c.ns (aa 0)) (af (aT c.cl c.n_rows c.ns (aa 0)) ak aP) aP) aP (ay aP ag))))
   (cI (b7 (bY (aV ef (aa 1) (PD.q bA) (aD _))) (ar (fW (eX 0 N l c.cl c.ns (aJ (ah (dv 1)) bo ae) ae ag))
   (aQ (cw (ah dm)))) cq)
   (ar (aM (i:=1) sc_row_struck.nd rfl Wq (cG (bj X l rfl (af (aT c.cl c.n_rows c.ns (aa 0)) ak aP) aP ag)))
   (cI (b7 (bY (aV ef (aa 1) (PD.q bA) (aD _))) (ar (fW (eX 0 OJ l c.cl c.ns (aJ (ah (dv 1)) bo ae) ae ag))
   (aQ (cw (ah dm)))) cq)
   (ar (aM (i:=1) sc_row_struck.nd rfl Wq (cG (bj U l rfl (af (aT c.cl c.n_rows c.ns (aa 0)) ak aP) aP ag)))
   (cI (b7 (bY (aV ef (aa 1) (PD.q bA) (aD _))) (ar (fW (eX 0 Y l c.cl c.ns (aJ (ah (dv 1)) bo ae) ae ag))
   (aQ (cw (ah dm)))) cq)
   (ar (aM (i:=1) sc_row_struck.nd rfl Wq (cG (bj S l rfl (af (aT c.cl c.n_rows c.ns (aa 0)) ak aP) aP ag)))
   (cI (b7 (bY (aV ef (aa 1) (PD.q bA) (aD _))) (ar (fW (eX 0 N l c.cl c.ns (aJ (ah (dv 1)) bo ae) ae ag))
   (aQ (cw (ah dm)))) cq)
   (aQ (cw (ah dm))))))))))),?_⟩
 intro ke;have h8:=e.n8;have OK:=e.rl
 have U3:∀r∈s.rs,r.1.length<=1000:=λr l=>by rw[(e.rr r l).1];omega
 refine⟨rfl,_,rfl,rfl,_,rfl,s.bs,s.rs,rfl,e.rows,jH _,?_⟩
 cases o:s.rs.findIdx? (eW s.bs)with
 |some p=>
  obtain⟨r,g,_⟩:=gW o;refine⟨λ_=>False,⟨λ_=>?_,tf⟩,λρ h=>h.elim⟩;refine⟨⟨_,_,rfl,rfl⟩,_,rfl,rfl,_,s,p,rfl,aE g,by rw[e.rm];exact aE g,by have:=aE g;omega,?_⟩;rfl';exact⟨_,rfl,q _ _ (.idle o)⟩
 |none=>
  refine⟨λρ=>ρ=[some (.ob (some G) (bQ s)),some (.v .non)],⟨ff,λ_=>rfl⟩,?_⟩;rintro ρ rfl;refine⟨rfl,_,rfl,s.rs,rfl,U3,jH _,?_⟩
  cases u:s.rs.findIdx? gJ with
  |some p=>
   obtain⟨r,g,O⟩:=gW u;have I:=aE g;have PB:(dF r.1).length=1:=K9 O;have M:(dF r.1)[0]?=some ((dF r.1)[0]'(by omega)):=KU (by omega);obtain⟨rn,Q,v,z⟩:=e.rr r (J0 g)
   have SU:(dF r.1)[0]'(by omega)<k:=by have:=Kt.mp (KL.mp (J0 M)).1;omega
   refine⟨λ_=>False,⟨λ_=>?_,tf⟩,λρ h=>h.elim⟩;refine⟨⟨_,_,rfl,rfl⟩,_,rfl,rfl,_,s,p,_,r,rfl,g,by rwa[e.rm],by omega,e.n1,by have:=e.ln;omega,by omega,M,by rwa[e.bl],by rwa[e.ll],by rwa[e.ml],Q,?_⟩;rfl';exact⟨_,rfl,q _ _ (.single o u g M)⟩
  |none=>
   refine⟨λρ=>ρ=[some (.ob (some G) (bQ s)),some (.v .non)],⟨ff,λ_=>rfl⟩,?_⟩;rintro ρ rfl;refine⟨rfl,_,rfl,s.rs,rfl,jH _,?_⟩
   cases C:s.rs.findIdx? ed with
   |some p=>
    obtain⟨r,g,O⟩:=gW C;have I:=aE g;obtain⟨rn,Q,v,z⟩:=e.rr r (J0 g);refine⟨λ_=>False,⟨λ_=>?_,tf⟩,λρ h=>h.elim⟩;refine⟨⟨_,_,rfl,rfl⟩,_,rfl,rfl,_,s,p,r,rfl,g,by rwa[e.rm],e.n1,by have:=e.ln;omega,by omega,v,z,?_⟩;rfl';exact⟨_,rfl,q _ _ (.uneven o u C g)⟩
   |none=>
    refine⟨λρ=>ρ=[some (.ob (some G) (bQ s)),some (.v .non)],⟨ff,λ_=>rfl⟩,?_⟩;rintro ρ rfl;refine⟨rfl,_,rfl,s.rs,rfl,by omega,λr l=>by rw[(e.rr r l).1];omega,λPp=>⟨.non,?_⟩,λj i x y L=>⟨.int _,?_⟩⟩
    ·refine⟨λρ=>ρ=[some (.ob (some G) (bQ s)),some (.v .non)],⟨ff,λ_=>rfl⟩,?_⟩;rintro ρ rfl;exact⟨_,rfl,q _ _ (.no o u C Pp)⟩
    ·have I:(if x.2<y.2 then j else i)<s.rs.length:=by
      have:=aE L.ib;have:=L.ji;split<;>omega
     have hR:=RowSt.doubled (s:=s) o u C L;generalize (if x.2<y.2 then j else i)=p at *;refine⟨λ_=>False,⟨λ_=>?_,tf⟩,λρ h=>h.elim⟩;refine⟨⟨_,_,rfl,rfl⟩,_,rfl,rfl,_,s,p,rfl,I,by rwa[e.rm],by omega,?_⟩;rfl';exact⟨_,rfl,q _ _ hR⟩
inductive UnkSt(s:Led):Bool->Led->Prop where
 |fixed {u:Nat}:s.st.find? (fh s.bs)=some u->UnkSt s true (gk s u (ax s.bs u).1)
 |sink {u:Nat}:s.st.find? (fh s.bs)=none->s.st.find? (fQ s.bs s.rs s.gl)=some u->UnkSt s true (gk s u (ax s.bs u).1)
 |rise {u:Nat} {m:Int}:s.st.find? (fh s.bs)=none->s.st.find? (fQ s.bs s.rs s.gl)=none->s.st.find? (fT s.bs s.rs s.gl)=some u->(ax s.bs u).2=some m->UnkSt s true (gk s u m)
 |hang {u:Nat}:s.st.find? (fh s.bs)=none->s.st.find? (fQ s.bs s.rs s.gl)=none->s.st.find? (fT s.bs s.rs s.gl)=none->s.st.find? (fS s.bs s.rs s.gl)=some u->UnkSt s true (hZ s u)
 |no:s.st.find? (fh s.bs)=none->s.st.find? (fQ s.bs s.rs s.gl)=none->s.st.find? (fT s.bs s.rs s.gl)=none->s.st.find? (fS s.bs s.rs s.gl)=none->UnkSt s false s
def LedP.stay{n:Nat}{s:Led}(h:LedP n s):StayP s.bs s.rs s.gl s.st:=⟨λu a=>by rw[h.bl];exact h.sl u a,λu a=>by rw[h.gl];exact h.sl u a,by have:=h.rl;omega,λu a r c=>by rw[(h.rr r c).1];exact h.sl u a⟩
def LedP.fix{n:Nat}{s:Led}(h:LedP n s){u:Nat}{m:Int}(c:u∈s.st)(e:bN m):FixP s u m:=by
 have j:=h.sl u c;have:=h.n8;have:=h.rl;have:=h.ln;have:=h.gs;have:=h.gn;exact⟨c,by rwa[h.ml],by rwa[h.ll],by rwa[h.gl],h.rm,by omega,by omega,by omega,by omega,e,λr a=>⟨by rwa[(h.rr r a).1],by rw[(h.rr r a).1];omega,λx g=>oO ((h.rr r a).2.1 x g)⟩,h.gg,h.n1,h.n2,h.n3⟩
def LedP.hang{n:Nat}{s:Led}(h:LedP n s){u:Nat}(a:u∈s.st):HangP s u:=
 ⟨a,by rw[h.bl];exact h.sl u a,h.rm,by have:=h.rl;omega,by have:=h.gn;omega,λr c=>by rw[(h.rr r c).1];exact h.sl u a⟩
def LedP.low{n:Nat}{s:Led}(h:LedP n s){u:Nat}(a:u∈s.st):lB (ax s.bs u):=h.bb _ (c8 (by rw[h.bl];exact h.sl u a))
inductive y_unknown_struck(as:List Sm)(R:Sm->List Om->Prop)(Rx:XD->List Om->Prop):Prop|mk (a:Option Addr) (n:Nat) (s:Led) (_:as=[.ob a (bQ s)]) (_:LedP n s) (_:∀b s',UnkSt s b s'->R (.v (.bl b)) [bQ s'])
def CS(F:Fun K "unknown_struck" "unknown_struck" ox f J){B:Addr}(c:TxtLedger K mg B)(Q:Cl P w K mg base n "fixed_unknown" ["bounds","staying"] z_fixed_unknown)(T:Cl P w K mg base n "rising_unknown" ["bounds","rows","goal","staying"] z_rising_unknown)(O:Cl P w K mg base n "hanging_unknown" ["bounds","rows","goal","staying"] z_hanging_unknown)(S:Cl P w K mg base n "sinking_unknown" ["bounds","rows","goal","staying"] z_sinking_unknown)(N:MthM P w K mg base n B "fix" ["self","unknown","number"] y_Ledger__fix)(Y:MthM P w K mg base n B "hang" ["self","unknown"] y_Ledger__hang):FnOk P w K mg base aI (n+1) f J ["ledger"] (lSpM K y_unknown_struck):=by
 refine F.okM sc_unknown_struck (λas R Rx h=>?_) (λOh A outer s H E as R Rx qs Ot p h U=>?_)
 ·obtain⟨a,k,s,rfl,_⟩:=h;rfl
 obtain⟨a,k,s,rfl,g,q⟩:=h;obtain⟨y,rfl⟩:=eK U
 refine⟨_,(ar (aM (i:=1) sc_unknown_struck.nd rfl Wq (cG (bj Q p rfl (af (aT c.cl c.n_bounds c.ns (aa 0)) (af (aT c.cl c.n_staying c.ns (aa 0)) ak aP) aP) aP (ay aP ag))))
   (cI (b7 (bY (aV gX (aa 1) (PD.q bA) (aD _))) (aQ (aM (i:=1) sc_unknown_struck.nd rfl Wq (cG (bj S p rfl (af (aT c.cl c.n_bounds c.ns (aa 0)) (af (aT c.cl c.n_rows c.ns (aa 0)) (af (aT c.cl c.n_goal c.ns (aa 0)) (af (aT c.cl c.n_staying c.ns (aa 0)) ak aP) aP) aP) aP) aP (ay aP (ay aP (ay aP ag))))))) cq)
   (cI (b7 (bY (aV ef (aa 1) (PD.q bA) (aD _))) (ar (fW (eX 0 N p c.cl c.ns (aJ (ah (dv 1)) (aJ (cG (aA (PD.q (bD (PD.q (aT c.cl c.n_bounds c.ns (aa 0))) (aa 1) (λ_ _=>rfl))))) bo aG) ae) ae (ay aG ag)))
   (aQ (cw (ah dm)))) cq)
   (ar (aM (i:=1) sc_unknown_struck.nd rfl Wq (cG (bj T p rfl (af (aT c.cl c.n_bounds c.ns (aa 0)) (af (aT c.cl c.n_rows c.ns (aa 0)) (af (aT c.cl c.n_goal c.ns (aa 0)) (af (aT c.cl c.n_staying c.ns (aa 0)) ak aP) aP) aP) aP) aP (ay aP (ay aP (ay aP ag))))))
   (cI (b7 (bY (aV ef (aa 1) (PD.q bA) (aD _))) (ar (fW (eX 0 N p c.cl c.ns (aJ (ah (dv 1)) (aJ (cG (aA (PD.q (bD (PD.q (aT c.cl c.n_bounds c.ns (aa 0))) (aa 1) (λ_ _=>rfl))))) bo aG) ae) ae (ay aG ag)))
   (aQ (cw (ah dm)))) cq)
   (ar (aM (i:=1) sc_unknown_struck.nd rfl Wq (cG (bj O p rfl (af (aT c.cl c.n_bounds c.ns (aa 0)) (af (aT c.cl c.n_rows c.ns (aa 0)) (af (aT c.cl c.n_goal c.ns (aa 0)) (af (aT c.cl c.n_staying c.ns (aa 0)) ak aP) aP) aP) aP) aP (ay aP (ay aP (ay aP ag))))))
   (cI (b7 (bY (aV ef (aa 1) (PD.q bA) (aD _))) (ar (fW (eX 0 Y p c.cl c.ns (aJ (ah (dv 1)) bo ae) ae ag))
   (aQ (cw (ah dm)))) cq)
   (aQ (cw (ah dm)))))))))),?_⟩
 intro ke;have C:∀u∈s.st,u<s.bs.length:=g.stay.sb;refine⟨rfl,_,rfl,rfl,_,rfl,s.bs,s.st,rfl,C,jH _,?_⟩;refine⟨λρ=>∃o:Option Nat,ρ=[some (.ob (some y) (bQ s)),some (.v (oN o))]/\(∀u,o=some u->u∈s.st/\UnkSt s true (gk s u (ax s.bs u).1))/\(o=none->s.st.find? (fh s.bs)=none/\s.st.find? (fQ s.bs s.rs s.gl)=none),?_,?_⟩
 ·cases l:s.st.find? (fh s.bs)with
  |some u=>exact⟨ff,λ_=>⟨some u,rfl,λv x=>by cases x;exact⟨Ko l,.fixed l⟩,λh=>by cases h⟩⟩
  |none=>
   refine⟨λ_=>⟨rfl,_,rfl,rfl,_,rfl,rfl,_,rfl,rfl,_,rfl,s.bs,s.rs,s.gl,s.st,rfl,g.stay,jH _,s.st.find? (fQ s.bs s.rs s.gl),rfl,λv x=>⟨Ko x,.sink l x⟩,λh=>⟨rfl,h⟩⟩,tf⟩
 rintro ρ ⟨o,rfl,Z,X⟩
 cases o with
 |some u=>
  obtain⟨j,hU⟩:=Z u rfl;refine⟨λ_=>False,⟨λ_=>?_,tf⟩,λρ h=>h.elim⟩;refine⟨⟨_,_,rfl,rfl⟩,rfl,_,rfl,_,fZ (C u j) rfl,_,rfl,.int _,_,rfl,rfl,_,s,u,_,rfl,g.fix j (g.low j).1,?_⟩;rfl';exact⟨_,rfl,q _ _ hU⟩
 |none=>
  obtain⟨l,G⟩:=X rfl;refine⟨λρ=>ρ=[some (.ob (some y) (bQ s)),some (.v .non)],⟨ff,λ_=>rfl⟩,?_⟩;rintro ρ rfl;refine⟨rfl,_,rfl,rfl,_,rfl,rfl,_,rfl,rfl,_,rfl,s.bs,s.rs,s.gl,s.st,rfl,g.stay,jH _,?_⟩
  cases r:s.st.find? (fT s.bs s.rs s.gl)with
  |some u=>
   have j:=Ko r;have L:=NR r
   obtain⟨m,M⟩:∃m,(ax s.bs u).2=some m:=by
    cases e:(ax s.bs u).2 with
    |some m=>exact⟨m,rfl⟩
    |none=>unfold fT at L;rw[e]at L;cases L
   refine⟨λ_=>False,⟨λ_=>?_,tf⟩,λρ h=>h.elim⟩;refine⟨⟨_,_,rfl,rfl⟩,rfl,_,rfl,_,fZ (C u j) rfl,D.int m,(KO (λz=>cE [D.int (ax s.bs u).1,oI z] 1) M).trans rfl,.int _,_,rfl,rfl,_,s,u,m,rfl,g.fix j ((g.low j).2 m M),?_⟩;rfl';exact⟨_,rfl,q _ _ (.rise l G r M)⟩
  |none=>
   refine⟨λρ=>ρ=[some (.ob (some y) (bQ s)),some (.v .non)],⟨ff,λ_=>rfl⟩,?_⟩;rintro ρ rfl;refine⟨rfl,_,rfl,rfl,_,rfl,rfl,_,rfl,rfl,_,rfl,s.bs,s.rs,s.gl,s.st,rfl,g.stay,jH _,?_⟩
   cases I:s.st.find? (fS s.bs s.rs s.gl)with
   |some u=>
    have j:=Ko I;refine⟨λ_=>False,⟨λ_=>?_,tf⟩,λρ h=>h.elim⟩;refine⟨⟨_,_,rfl,rfl⟩,_,rfl,rfl,_,s,u,rfl,g.hang j,?_⟩;rfl';exact⟨_,rfl,q _ _ (.hang l G r I)⟩
   |none=>
    refine⟨λρ=>ρ=[some (.ob (some y) (bQ s)),some (.v .non)],⟨ff,λ_=>rfl⟩,?_⟩;rintro ρ rfl;exact⟨_,rfl,q _ _ (.no l G r I)⟩
def qR(s:Led)(p:Nat):D:=.tup (.tup [s.rm.getD p .non,.int 1]::(dF (bS s.rs p).1).map λu=>eQ s u ((bS s.rs p).1.getD u 0))
def bH(s:Led):D:=match s.st.find? (mf s.bs)with
 |some u=>.tup [.tup [s.lm.getD u .non,.int 1],.tup [s.mm.getD u .non,.int 1]]
 |none=>match s.rs.findIdx? (gN s.bs)with
  |none=>.non
  |some p=>qR s p
inductive z_hopeless_shares(ds:List D)(R:D->Prop):Prop|mk (n:Nat) (s:Led) (_:ds=[iN s]) (_:LedP n s) (_:R (bH s))
def C5(F:Fun K "hopeless_shares" "hopeless_shares" kK f J){v:Addr}(a:TxtLedger K mg v)(B:Cl P w K mg base n "crossed_unknown" ["bounds","staying"] z_crossed_unknown)(C:Cl P w K mg base n "hopeless_row" ["bounds","rows"] z_hopeless_row)(T:MthD P w K mg base n v "bound_share" ["self","unknown","entry"] z_Ledger__bound_share)(I:mg "tuple"=none)(L:mg "enumerate"=none):FnOk P w K mg base aI (n+1) f J ["ledger"] (lSp K z_hopeless_shares):=by
 refine F.okD sc_hopeless_shares (λds R h=>?_) (λU A outer s H E ds R l h=>?_)
 ·obtain⟨k,s,rfl,_⟩:=h;rfl
 obtain⟨k,s,rfl,c,q⟩:=h
 refine⟨_,(bI (dA (i:=1) sc_hopeless_shares.nd rfl Wq (bj B l rfl (af (aT a.cl a.n_bounds a.ns (aa 0)) (af (aT a.cl a.n_staying a.ns (aa 0)) ak aP) aP) aP (ay aP ag)))
   (fJ (cH (aV ef (aa 1) (PD.q bA) (aD _)) (aL (bp (bx (af (bx (af (bD (PD.q (aT a.cl a.n_least_marks a.ns (aa 0))) (aa 1) (λ_ _=>rfl)) (af ao ak aF) aG)) (af (bx (af (bD (PD.q (aT a.cl a.n_most_marks a.ns (aa 0))) (aa 1) (λ_ _=>rfl)) (af ao ak aF) aG)) ak bJ) bJ)))) cJ)
   (bI (dA (i:=2) sc_hopeless_shares.nd rfl Wq (bj C l rfl (af (aT a.cl a.n_bounds a.ns (aa 0)) (af (aT a.cl a.n_rows a.ns (aa 0)) ak aP) aP) aP (ay aP ag)))
   (fJ (cH (aV gX (aa 2) (PD.q bA) (aD _)) (aL (bp bA)) cJ)
   (bI (dA (i:=3) sc_hopeless_shares.nd rfl Wq (aA (PD.q (bD (PD.q (aT a.cl a.n_rows a.ns (aa 0))) (aa 2) (λ_ _=>rfl)))))
   (bI (wV (i:=4) (k:=2) (N':=["other","entry","ledger"]) (cap:=[none,none,some 0]) rfl sc_hopeless_shares.nd rfl Wq (.ok (show bX ["ledger","unknown","place","entries","shares"] (av kK) _ ["other","entry","ledger"] [none,none,some 0]=true by lia)) (by lia) (iA (n:=2) (eo (bE (by decide)) (eo (bE (by decide)) iG))) (gL rfl L (af (dv 3) ak ae)) (λ_ _ _ _ _=>(eu (n:=2) rfl (bR (bh (i:=0) (show List.Nodup (["other","entry","ledger"]:List Str)by lia) rfl Wq) (bR (bh (i:=1) (show List.Nodup (["other","entry","ledger"]:List Str)by lia) rfl Wq) eG)))) (λ_ _ _ _ _=>(ki (aV (gj l.units) (aa 1) (PD.q ao) (aD _)))) (λ_ _ _ _ _=>(me T l a.cl a.ns (dv 2) (af (dv 0) (af (dv 1) ak ae) ae) ae (ay ae ag))))
   (aL (bp (aU kU (PD.q (bx (af (bx (af (bD (PD.q (aT a.cl a.n_row_marks a.ns (aa 0))) (aa 2) (λ_ _=>rfl)) (af ao ak aF) aG)) ak bJ))) (PD.q (b9 cN rfl I J8 (aN (aa 4) aX ae) ae ag))))))))))),?_⟩
 have Z:=c.n8;refine⟨rfl,_,rfl,rfl,_,rfl,s.bs,s.st,rfl,c.stay.sb,?_⟩
 cases j:s.st.find? (mf s.bs)with
 |some u=>
  have Q:=Ko j;have hn:=c.sl u Q
  have:bH s=.tup [.tup [s.lm.getD u .non,.int 1],.tup [s.mm.getD u .non,.int 1]]:=by unfold bH;rw[j]
  rw[this]at q;exact⟨λ_=>False,⟨λ_=>⟨rfl,_,rfl,s.lm.getD u .non,gc (bZ (by rwa[c.ll])) rfl,rfl,_,rfl,s.mm.getD u .non,gc (bZ (by rwa[c.ml])) rfl,q⟩,tf⟩,λρ h=>h.elim⟩
 |none=>
  refine⟨λρ=>ρ=[some (.v (iN s)),some (.v .non),none,none,none],⟨ff,λ_=>rfl⟩,?_⟩;rintro ρ rfl;refine⟨rfl,_,rfl,rfl,_,rfl,s.bs,s.rs,rfl,c.rows,?_⟩
  cases o:s.rs.findIdx? (gN s.bs)with
  |none=>
   have:bH s=.non:=by unfold bH;rw[j,o]
   rw[this]at q;exact⟨λ_=>False,⟨λ_=>q,tf⟩,λρ h=>h.elim⟩
  |some p=>
   obtain⟨r,g,_⟩:=gW o;have G:bS s.rs p=r:=fq g;have Y:=aE g;obtain⟨rn,r9,_,_⟩:=c.rr r (J0 g)
   have:bH s=qR s p:=by unfold bH;rw[j,o]
   rw[this]at q;unfold qR at q;rw[G]at q;refine⟨λρ=>ρ=[some (.v (iN s)),some (.v .non),some (.v (bg p)),none,none],⟨ff,λ_=>rfl⟩,?_⟩;rintro ρ rfl;refine⟨rfl,_,rfl,_,cR g rfl,_,rfl,?_⟩;refine⟨by rw[eY,JT];exact bq (by omega),iZ (λi=>decide (r.1.getD i 0≠0)) (λu=>eQ s u (r.1.getD u 0)),λi d hd=>?_,λys y S=>?_⟩
   ·obtain⟨e,N,rfl⟩:=gH hd;obtain⟨x,rfl,z⟩:=bP N;have ex:r.1.getD i 0=x:=fq z
    have X:i<k:=by have:=aE z;omega
    refine⟨rfl,λh=>?_,λh=>?_⟩
    ·refine⟨rfl,rfl,s,i,x,rfl,by rwa[c.ml],by rwa[c.ll],?_,?_⟩
     ·show eQ s i x=eQ s i (r.1.getD i 0);rw[ex]
     ·show decide (r.1.getD i 0≠0)=true;rw[ex]
      exact KZ λe=>by rw[e]at h;cases h
    ·show decide (r.1.getD i 0≠0)=false;rw[ex];refine Ku λe=>?_;have h':(!(x==0))=false:=h
     have:(x==0)=true:=by simpa using h'
     exact e (eq_of_beq this)
   rw[eY,JT]at y;have M:ys.filterMap id=(dF r.1).map (λu=>eQ s u (r.1.getD u 0)):=j6 y S;rw[M]
   have O:(dF r.1).length<=8:=by
    have:=Lh (λi=>decide (r.1.getD i 0≠0)) (List.range r.1.length);rw[Km]at this;have:(dF r.1).length<=r.1.length:=this;omega
   refine⟨rfl,_,rfl,s.rm.getD p .non,gc (bZ (by rwa[c.rm])) rfl,by rw[JT];show 1+_<=_;have:=bq (n:=9) (by decide);omega,_,rfl,q⟩
def kC(xs:List D)(st:List Nat):List D:=st.map λu=>xs.getD u .non
inductive z_picked(ds:List D)(R:D->Prop):Prop|mk (d1:D) (xs:List D) (st:List Nat) (_:ds=[d1,.lst (st.map bg)]) (_:(d1=.tup xs\/d1=.lst xs)) (_:st.length<=1000) (_:(∀u∈st,u<xs.length)) (_:R (.tup (kC xs st)))
def ER(F:Fun K "picked" "picked" kQ f J)(g:mg "tuple"=none):FnOk P w K mg base aI (n+1) f J ["numbers","places"] (lSp K z_picked):=by
 refine F.okD Hc (λds R h=>?_) (λo A outer s H E ds R p h=>?_)
 ·obtain⟨j,xs,st,rfl,_⟩:=h;rfl
 obtain⟨j,xs,st,rfl,l,c,e,q⟩:=h;refine⟨_,(aL (bp (b9 cN rfl g J8 (aN (PD.q (PF.d (de (k:=1) (N':=["place","numbers"]) (cap:=[none,some 0]) rfl (.ok (show bX ["numbers","places"] (av kQ) _ ["place","numbers"] [none,some 0]=true by lia)) (by lia) (bE (by decide)) (cb (dv 1)) (λ_ _ _ _ _=>(bh (i:=0) (show List.Nodup (["place","numbers"]:List Str)by lia) rfl Wq)) (λ_ _ _ _ _=>(bD (aa 1) (aa 0) (λ_ _=>rfl)))))) aX bC) bC ag))),?_⟩;rcases l with rfl|rfl
 ·exact fN (f:=bg) (λu=>xs.getD u .non) (bq c) (λu a=>⟨_,gc (bZ (d:=D.non) (e u a)) rfl,rfl⟩) q
 ·exact fN (f:=bg) (λu=>xs.getD u .non) (bq c) (λu a=>⟨_,gc (bZ (d:=D.non) (e u a)) rfl,rfl⟩) q
def pk{a:Type}(d:a)(xs:List a)(st:List Nat):List a:=st.map λu=>xs.getD u d
def r8{a:Type}{f:a->D}{d:a}{xs:List a}{st:List Nat}(h:∀u∈st,u<xs.length):kC (xs.map f) st=(pk d xs st).map f:=by
 unfold kC pk;rw[KQ];refine List.map_congr_left λu c=>?_;show (xs.map f).getD u .non=f (xs.getD u d);have:=h u c;rw[J6,J6,J7,bK this];rfl
def gf(st:List Nat)(r:aw):aw:=(pk 0 r.1 st,r.2)
def lY(s:Led):D:=cF (pk (0,none) s.bs s.st) (s.rs.map (gf s.st)) (pk 0 s.gl s.st)
def uy{n:Nat}{s:Led}(h:LedP n s):s.st.length<=n:=by
 have a:s.st ⊆ List.range n:=λu c=>Kt.mpr (h.sl u c);have:=h.nd.length_le_of_subset a
 rwa [Km]at this
inductive z_slim_plan(ds:List D)(R:D->Prop):Prop|mk (n:Nat) (s:Led) (_:ds=[iN s]) (_:LedP n s) (_:R (lY s))
def C7(F:Fun K "slim_plan" "slim_plan" l9 f J){p:Addr}(a:TxtLedger K mg p)(o:Cl P w K mg base n "picked" ["numbers","places"] z_picked)(x:mg "tuple"=none):FnOk P w K mg base aI (n+1) f J ["ledger"] (lSp K z_slim_plan):=by
 refine F.okD sc_slim_plan (λds R h=>?_) (λC A outer s H E ds R l h=>?_)
 ·obtain⟨k,s,rfl,_⟩:=h;rfl
 obtain⟨k,s,rfl,c,q⟩:=h
 refine⟨_,(bI (sX (i:=1) (k:=1) (N':=["row","ledger"]) (cap:=[none,some 0]) rfl sc_slim_plan.nd rfl Wq (.ok (show bX ["ledger","rows"] (av l9) _ ["row","ledger"] [none,some 0]=true by lia)) (by lia) (bE (by decide)) (cb (aT a.cl a.n_rows a.ns (aa 0))) (λ_ _ _ _ _=>(bh (i:=0) (show List.Nodup (["row","ledger"]:List Str)by lia) rfl Wq)) (λ_ _ _ _ _=>(bx (af (bj o l rfl (af (aA (aa 0)) (af (aT a.cl a.n_staying a.ns (aa 1)) ak aP) aG) aG (ay aP ag)) (af (aA (aa 0)) ak aG) bt))))
   (aL (bp (bx (af (bj o l rfl (af (aT a.cl a.n_bounds a.ns (aa 0)) (af (aT a.cl a.n_staying a.ns (aa 0)) ak aP) aP) aP (ay aP ag)) (af (b9 cN rfl x J8 (aN (aa 1) aX ae) ae ag) (af (bj o l rfl (af (aT a.cl a.n_goal a.ns (aa 0)) (af (aT a.cl a.n_staying a.ns (aa 0)) ak aP) aP) aP (ay aP ag)) ak bt) bt) bt))))),?_⟩
 have G:=c.n8;have B:=uy c
 have y:∀u∈s.st,u<(s.bs.map aS).length:=λu g=>by rw[JT];exact c.stay.sb u g
 have z:∀u∈s.st,u<(s.gl.map D.int).length:=λu g=>by rw[JT];exact c.stay.sg u g
 refine⟨rfl,_,rfl,?_⟩;refine fN (f:=az) (λr=>az (gf s.st r)) (bq (by have:=c.rl;omega)) (λr v=>?_) ?_
 ·have j:∀u∈s.st,u<r.1.length:=λu g=>c.stay.sr u g r v;refine⟨_,rfl,rfl,_,rfl,_,r.1.map D.int,s.st,rfl,.inl rfl,by omega,λu g=>by rw[JT];exact j u g,_,rfl,?_⟩;show D.tup [D.tup (kC (r.1.map D.int) s.st),D.int r.2]=az (gf s.st r);rw[r8 (d:=0) j];rfl
 refine⟨rfl,_,rfl,rfl,_,rfl,_,s.bs.map aS,s.st,rfl,.inr rfl,by omega,y,?_⟩;refine⟨rfl,_,rfl,rfl,_,rfl,_,s.gl.map D.int,s.st,rfl,.inl rfl,by omega,z,?_⟩
 have e:D.tup [D.tup (kC (s.bs.map aS) s.st),D.tup (s.rs.map λr=>az (gf s.st r)),D.tup (kC (s.gl.map D.int) s.st)]=lY s:=by unfold lY cF;rw[r8 (d:=(0,none)) c.stay.sb,r8 (d:=0) c.stay.sg,KQ];rfl
 exact (KO R e).mpr q
def fo(sp:List Int)(ps:List (Nat×Int)):List Int:=ps.foldl (λsp p=>sp.set p.1 p.2) sp
def ee(n:Nat)(ps:List Nat)(xs:List Int):List Int:=fo (List.replicate n 0) (List.zip ps xs)
def uj(ps:List (Nat×Int)):∀sp:List Int,(fo sp ps).length=sp.length:=by
 induction ps with
 |nil=>intro sp;rfl
 |cons p ps a=>
  intro sp;show (fo (sp.set p.1 p.2) ps).length=_;rw[a,JX]
def GO(sp:List Int){ps:List (Nat×Int)}{i:Nat}{p:Nat×Int}(h:ps[i]?=some p):fo sp (ps.take (i+1))=(fo sp (ps.take i)).set p.1 p.2:=by rw[hX h];unfold fo;rw[L6];rfl
inductive y_spread(as:List Sm)(R:Sm->List Om->Prop)(Rx:XD->List Om->Prop):Prop|mk (d1 d2:D) (xs:List Int) (ps:List Nat) (n:Nat) (_:as=[.v d1,.v d2,.v (.int (n:Nat))]) (_:df d1=some (xs.map D.int)) (_:df d2=some (ps.map bg)) (_:n<=1000) (_:(∀p∈ps,p<n)) (_:R (.ob none (.lst ((ee n ps xs).map D.int))) [])
def Aa(F:Fun K "spread" "spread" n6 f J)(v:mg "zip"=none):FnOk P w K mg base aI (n+1) f J ["numbers","places","n"] (lSpM K y_spread):=by
 refine F.okM sc_spread (λas R r h=>?_) (λG A outer s H E as R r O I M h o=>?_)
 ·obtain⟨g,j,xs,ps,m,rfl,_⟩:=h;rfl
 obtain⟨g,j,xs,ps,m,rfl,y,z,L,B,q⟩:=h;obtain rfl:=jc o
 refine⟨_,(ar (aM (i:=3) sc_spread.nd rfl Wq (dB (IL (PD.q (PF.d (dh (af ao ak aF)))) (aa 2))))
   (ar (eP Ki rfl (eT (kj rfl v (af (dv 1) (af (dv 0) ak ae) ae))) (iR (n:=2) rfl (eC (cD (i:=4) sc_spread.nd rfl Wq) (eC (cD (i:=5) sc_spread.nd rfl Wq) iI))) (aQ (jX 3 (ah (dv 5)) (ah (dv 4)))))
   (aQ (cw (jY 3))))),?_⟩
 intro N;refine⟨⟨by omega,by omega,by have:=bq (n:=m) (by omega);show 1*_<=_;omega⟩,(List.replicate m 0).map D.int,by rw[show ((m:Nat):Int).toNat=m from K0 m];exact qy m 0,?_⟩;refine⟨_,_,z,y,λi ρ=>∃c e:Option Sm,ρ=[some (.v g),some (.v j),some (.v (.int (m:Nat))),some (.ob none (.lst ((fo (List.replicate m 0) ((List.zip ps xs).take i)).map D.int))),c,e],⟨_,_,rfl⟩,?_,?_⟩
 ·rintro i d ρ hd ⟨c,e,rfl⟩;rw[jT]at hd;obtain⟨⟨p,x⟩,rfl,l⟩:=bP hd;have C:p<m:=B p (LZ (J0 l)).1
  have a:(fo (List.replicate m 0) ((List.zip ps xs).take i)).length=m:=by rw[uj,Kg]
  have u:=GO (List.replicate m 0) l;refine⟨rfl,p,e7 (by rwa[JT,a]),_,rfl,some (.v (bg p)),some (.v (.int x)),?_⟩;rw[u,←LJ];rfl
 ·rintro ρ ⟨c,e,rfl⟩
  have a:(fU (ps.map bg) (xs.map D.int)).length=(List.zip ps xs).length:=by rw[jT,JT]
  rwa[a,LF]
def fP(u:Nat)(sp:List Int)(r:aw):Int:=fi (r.2-aB r.1 sp) (r.1.getD u 0)
def iX(u:Nat)(l:Int)(rs:List aw)(sp:List Int):Int:=(rs.map (fP u sp)).foldl max l
def pR:∀(xs:List Int)(l:Int),l<=xs.foldl max l/\(∀x∈xs,x<=xs.foldl max l)/\xs.foldl max l∈l::xs
 | [],l=>⟨LG _,λx h=>(by cases h),J2⟩
 |y::xs,l=>by
  obtain⟨e,g,j⟩:=pR xs (max l y);refine⟨Int.le_trans (Int.le_max_left l y) e,λx a=>?_,?_⟩
  ·rcases Kd.mp a with rfl|a
   ·exact Int.le_trans (Int.le_max_right l x) e
   ·exact g x a
  ·show xs.foldl max (max l y)∈l::y::xs;rcases Kd.mp j with h|h
   ·rw[h];rcases Int.le_total l y with c|c
    ·rw[Int.max_eq_right c];simp
    ·rw[Int.max_eq_left c];simp
   ·exact J1 _ (J1 _ h)
def x6{xs:List Int}{l m:Int}(e:m∈l::xs)(g:∀x∈l::xs,x<=m):m=xs.foldl max l:=by
 obtain⟨j,a,c⟩:=pR xs l;have:=g _ c;rcases Kd.mp e with rfl|h
 ·omega
 ·have:=a m h;omega
inductive z_least_meeting(ds:List D)(R:D->Prop):Prop|mk (u:Nat) (l:Int) (d3 d4:D) (rs:List aw) (sp:List Int) (_:ds=[bg u,.int l,d3,d4]) (_:(d3=.lst (rs.map az)\/d3=.tup (rs.map az))) (_:df d4=some (sp.map D.int)) (_:rs.length<=100) (_:(∀r∈rs,u<r.1.length/\r.1.length<=1000/\0<r.1.getD u 0/\(∀x∈r.1,x.natAbs<2^9000))) (_:(∀x∈sp,bN x)) (_:R (.int (iX u l rs sp)))
def BY(F:Fun K "least_meeting" "least_meeting" l8 f J)(L:Cl P w K mg base n "up" ["top","bottom"] z_up)(y:Cl P w K mg base n "left" ["entries","spot"] z_left)(I:mg "max"=none):FnOk P w K mg base aI (n+1) f J ["unknown","least","rows","spot"] (lSp K z_least_meeting):=by
 refine F.okD sc_least_meeting (λds R h=>?_) (λM A outer s H E ds R p h=>?_)
 ·obtain⟨u,l,B,C,rs,sp,rfl,_⟩:=h;rfl
 obtain⟨u,l,B,C,rs,sp,rfl,G,o,N,j,v,q⟩:=h
 refine⟨_,(bI (sX (i:=4) (k:=1) (N':=["row","unknown","spot"]) (cap:=[none,some 0,some 3]) rfl sc_least_meeting.nd rfl Wq (.ok (show bX ["unknown","least","rows","spot","needs"] (av l8) _ ["row","unknown","spot"] [none,some 0,some 3]=true by lia)) (by lia) (bE (by decide)) (cb (dv 2)) (λ_ _ _ _ _=>(bh (i:=0) (show List.Nodup (["row","unknown","spot"]:List Str)by lia) rfl Wq)) (λ_ _ _ _ _=>(bj L p rfl (af (aU du (PD.q (aA (aa 0))) (PD.q (bj y p rfl (af (aA (aa 0)) (af (dv 2) ak ae) aG) aG (ay ae ag)))) (af (bD (PD.q (aA (aa 0))) (aa 1) (λ_ _=>rfl)) ak aG) bW) bW (ay aG ag))))
   (aL (bp (bM (zG rfl) rfl I MX (aN (PD.q (aU rM (PD.q (PF.d (dh (af (dv 1) ak ae)))) (aa 4))) aX bW) bW ag)))),?_⟩
 rcases G with rfl|rfl
 ·refine jV (f:=az) (fP u sp) (bq (by omega)) (λr c=>?_) ?_
  ·obtain⟨a1,a2,a3,a4⟩:=j r c
   have e:r.1.getD u 0<2^9000:=by
    have z:((((r.1.getD u 0).natAbs:Nat)):Int)<2^9000:=by exact_mod_cast a4 _ (c8 a1)
    omega
   exact⟨_,rfl,_,rfl,_,_,r.1,sp,rfl,rfl,o,a2,λx a=>oO (a4 x a),v,_,rfl,_,cR (i:=u) (bZ (d:=0) a1) rfl,_,_,rfl,by omega,e,rfl⟩
  refine⟨by rw[JT,JT];have:=bq (n:=102) (by decide);show 1+_<=_;omega,(l::rs.map (fP u sp)).map D.int,rfl,l::rs.map (fP u sp),rfl,by simp,λm g a=>?_⟩;have:=x6 g a;rwa[this]
 ·refine jV (f:=az) (fP u sp) (bq (by omega)) (λr c=>?_) ?_
  ·obtain⟨a1,a2,a3,a4⟩:=j r c
   have e:r.1.getD u 0<2^9000:=by
    have z:((((r.1.getD u 0).natAbs:Nat)):Int)<2^9000:=by exact_mod_cast a4 _ (c8 a1)
    omega
   exact⟨_,rfl,_,rfl,_,_,r.1,sp,rfl,rfl,o,a2,λx a=>oO (a4 x a),v,_,rfl,_,cR (i:=u) (bZ (d:=0) a1) rfl,_,_,rfl,by omega,e,rfl⟩
  refine⟨by rw[JT,JT];have:=bq (n:=102) (by decide);show 1+_<=_;omega,(l::rs.map (fP u sp)).map D.int,rfl,l::rs.map (fP u sp),rfl,by simp,λm g a=>?_⟩;have:=x6 g a;rwa[this]
def gK(r:aw):aw:=(r.1,0)
def dW(sp:List Int)(g:Gn):List Int:=sp.set g.1 (iX g.1 0 (g.2.2.map gK) sp)
def gU(n:Nat)(s:Led)(a:List Int):List Int:=s.gn.reverse.foldl dW (ee n s.st a)
def fH(n:Nat)(s:Led):D:=.obj "Struck" [("ledger",iN s),("breadth",.int (n:Nat)),("kind",.str "slim"),("paper",.non),("slim",lY s),("kept",.tup (s.st.map bg)),("extra",.int s.ex)]
structure RayP(n:Nat)(s:Led)(Qj:List Int):Prop where
 n8:n<=8
 sl:∀u∈s.st,u<n
 gn:∀g∈s.gn,g.1<n/\g.2.2.length<=100/\∀r∈g.2.2,g.1<r.1.length/\r.1.length<=1000/\0<r.1.getD g.1 0/\∀x∈r.1,x.natAbs<2^9000
 sz:∀i,∀x∈(s.gn.reverse.take i).foldl dW (ee n s.st Qj),bN x
def FO(gs:List Gn):∀sp:List Int,(gs.foldl dW sp).length=sp.length:=by
 induction gs with
 |nil=>intro sp;rfl
 |cons g gs a=>
  intro sp;show (gs.foldl dW (dW sp g)).length=_;rw[a];exact JX
def wL(n:Nat)(ps:List Nat)(xs:List Int):(ee n ps xs).length=n:=by unfold ee;rw[uj,Kg]
inductive z_Struck__ray_back(ds:List D)(R:D->Prop):Prop|mk (n:Nat) (s:Led) (Qj:List Int) (_:ds=[fH n s,.tup (Qj.map D.int)]) (_:RayP n s Qj) (_:R (.tup ((gU n s Qj).map D.int)))
def Aq(F:Fun K "ray_back" "Struck.ray_back" mv f J){B:Addr}(a:TxtStruck K mg B){y:Addr}(j:TxtLedger K mg y)(G:ClM P w K mg base n "spread" ["numbers","places","n"] y_spread)(v:Cl P w K mg base n "least_meeting" ["unknown","least","rows","spot"] z_least_meeting)(T:mg "reversed"=none)(L:mg "tuple"=none):FnOk P w K mg base aI (n+1) f J ["self","ray"] (lSpM K (zM z_Struck__ray_back)):=by
 refine F.okM sc_Struck__ray_back (λas R I h=>?_) (λU A outer s H E as R I qs X u h z=>?_)
 ·obtain⟨_,rfl,m,s,c,rfl,_⟩:=h;rfl
 obtain⟨_,rfl,m,s,c,rfl,e,q⟩:=h;obtain rfl:=jc z
 refine⟨_,(ar (aM (i:=2) sc_Struck__ray_back.nd rfl Wq (bL G u rfl (aJ (ah (dv 1)) (aJ (ah (aT a.cl a.n_kept a.ns (aa 0))) (aJ (ah (aT a.cl a.n_breadth a.ns (aa 0))) bo aP) aP) ae) ae (ay aP (ay aP ag))))
   (ar (eP Ki rfl (eT (sU rfl T (af (aT j.cl j.n_gone j.ns (PD.q (aT a.cl a.n_ledger a.ns (aa 0)))) ak aP))) (cD (i:=3) sc_Struck__ray_back.nd rfl Wq) (ar (EA (i:=4) (k:=1) (N':=["row"]) (cap:=[none]) rfl sc_Struck__ray_back.nd rfl Wq (.ok (show bX ["self","ray","numbers","gone","level_rows"] (av mv) _ ["row"] [none]=true by lia)) (by lia) (bE (by decide)) (cb (aA (aa 3))) (λ_ _ _ _ _=>(bh (i:=0) (show List.Nodup (["row"]:List Str)by lia) rfl Wq)) (λ_ _ _ _ _=>(bx (af (aA (aa 0)) (af ao ak aF) aG))))
   (iz 4 (aQ (jX 2 (ah (pY v u rfl (aN (PD.q (aA (aa 3))) (aN (PD.q ao) (aN (aa 4) (aN (aa 2) aX ae) ae) aF) aG) aG (ay aF (ay ae (ay ae ag))))) (ah (aA (aa 3))))))))
   (aQ (cw (ah (b9 cN rfl L J8 (aN (aa 2) aX ae) ae ag)))))),?_⟩
 intro ke;have h8:=e.n8;refine⟨rfl,_,rfl,rfl,_,rfl,_,rfl,rfl,_,_,c,s.st,m,rfl,rfl,rfl,by omega,e.sl,?_⟩;rfl';refine⟨rfl,_,rfl,rfl,_,rfl,λi ρ=>∃l o:Option Sm,ρ=[some (.v (fH m s)),some (.v (.tup (c.map D.int))),some (.ob none (.lst (((s.gn.reverse.take i).foldl dW (ee m s.st c)).map D.int))),l,o],⟨_,_,rfl⟩,?_,?_⟩
 ·rintro i d ρ hd ⟨l,o,rfl⟩;rw[←NI]at hd;obtain⟨g,rfl,p⟩:=bP hd;obtain⟨Y,Z,N⟩:=e.gn g (Ma.mp (J0 p))
  have M:(s.gn.reverse.take (i+1)).foldl dW (ee m s.st c)=dW ((s.gn.reverse.take i).foldl dW (ee m s.st c)) g:=by rw[hX p,L6];rfl
  have O:((s.gn.reverse.take i).foldl dW (ee m s.st c)).length=m:=by rw[FO,wL]
  have S:=e.sz i;generalize (s.gn.reverse.take i).foldl dW (ee m s.st c)=sp at *;refine⟨_,rfl,?_⟩;refine fN (f:=az) (λr=>az (gK r)) (bq (by omega)) (λr _=>⟨_,rfl,rfl⟩) ?_;rfl';refine⟨_,rfl,g.1,0,_,_,g.2.2.map gK,sp,rfl,.inl (KO D.lst (by rw[KQ];rfl)),rfl,by rwa[JT],λr C=>?_,S,trivial,_,rfl,g.1,e7 (by rwa[JT,O]),_,rfl,some (.v (kr g)),some (.v (.lst (g.2.2.map λr=>az (gK r)))),?_⟩
  ·obtain⟨x,Q,rfl⟩:=Kf.mp C;exact N x Q
  ·rw[M];unfold dW;rw[←LJ];rfl
 ·rintro ρ ⟨l,o,rfl⟩;rwa[Lr,JT,←Lr,LF]
structure Way(P:Led->Prop)(μ:Led->Nat):Prop where
 ok:∀t,P t->∃n,LedP n t
 row:∀t t',P t->bH t=.non->RowSt t true t'->P t'/\μ t'<μ t
 unk:∀t t',P t->bH t=.non->RowSt t false t->UnkSt t true t'->P t'/\μ t'<μ t
def md{n:Nat}{s:Led}(a:LedP n s):NoL (bH s):=by
 unfold bH
 cases h:s.st.find? (mf s.bs)with
 |some u=>
  have e:=a.sl u (Ko h);exact .tup (bB (.tup (bB (a.n3 _ (c8 (by rwa[a.ll]))) (bB (.int _) dq))) (bB (.tup (bB (a.n2 _ (c8 (by rwa[a.ml]))) (bB (.int _) dq))) dq))
 |none=>
  cases j:s.rs.findIdx? (gN s.bs)with
  |none=>exact .non
  |some p=>
   obtain⟨r,c,_⟩:=gW j;have g:bS s.rs p=r:=fq c;obtain⟨o,_⟩:=a.rr r (J0 c);refine .tup (bB (.tup (bB (a.n1 _ (c8 (by rw[a.rm];exact aE c))) (bB (.int _) dq))) λd hd=>?_);obtain⟨u,e,rfl⟩:=Kf.mp hd
   have l:u<n:=by have:=Kt.mp (KL.mp e).1;rw[g]at this;omega
   exact mD a.n2 a.n3 (by rwa[a.ml]) (by rwa[a.ll])
def Da{s t:Led}(h:RowSt s false t):t=s:=by cases h;rfl
def yg{s t:Led}(h:UnkSt s false t):t=s:=by cases h;rfl
inductive y_strike(as:List Sm)(R:Sm->List Om->Prop)(Rx:XD->List Om->Prop):Prop|mk (a:Option Addr) (s:Led) (P:Led->Prop) (μ:Led->Nat) (_:as=[.ob a (bQ s)]) (_:P s) (_:Way P μ) (_:∀t,P t->(fu (bH t)=false\/(RowSt t false t/\UnkSt t false t))->R (.v (bH t)) [bQ t])
def E7(F:Fun K "strike" "strike" mG f J)(L:Cl P w K mg base n "hopeless_shares" ["ledger"] z_hopeless_shares)(O:ClM P w K mg base n "row_struck" ["ledger"] y_row_struck)(M:ClM P w K mg base n "unknown_struck" ["ledger"] y_unknown_struck):FnOk P w K mg base aI (n+1) f J ["ledger"] (lSpM K y_strike):=by
 refine F.okM sc_strike (λas R Q h=>?_) (λU A outer s H E as R Q Z X u h N=>?_)
 ·obtain⟨a,s,z,y,rfl,_⟩:=h;rfl
 obtain⟨a,s,z,y,rfl,G,g,q⟩:=h;obtain⟨T,rfl⟩:=eK N
 refine⟨_,(ar (aM (i:=1) sc_strike.nd rfl Wq (cG (bj L u rfl (af (dv 0) ak ae) ae ag)))
   (ar (Eb Ki (PXW.toB (mY (bY (aV gX (aa 1) (PD.q bA) (aD _))) (x9 (PXW.toB (Jq (t7 (bL O u rfl (bV 0 bo ae) ae ag) (λ_=>rfl)) (EU (t7 (bL M u rfl (bV 0 bo ae) ae ag) (λ_=>rfl)))))))) (aQ (aM (i:=1) sc_strike.nd rfl Wq (cG (bj L u rfl (af (dv 0) ak ae) ae ag)))))
   (aQ (cw (ah (dv 1)))))),?_⟩
 intro Y;obtain⟨S,C⟩:=g.ok s G;refine⟨S,s,rfl,C,md C,?_⟩;rfl';refine⟨λm ρ=>∃t,ρ=[some (.ob (some T) (bQ t)),some (.v (bH t))]/\z t/\m=y t,⟨y s,s,rfl,G,rfl⟩,?_⟩;rintro m ρ ⟨t,rfl,p,rfl⟩;obtain⟨n,I⟩:=g.ok t p
 cases l:fu (bH t)with
 |false=>
  refine⟨λh=>?_,λ_=>⟨ff,λ_=>⟨_,rfl,q t p (.inl l)⟩⟩⟩;have h':(fu (bH t) != false)=true:=h;rw[l]at h';cases h'
 |true=>
  have B:bH t=.non:=by
   cases e:bH t with
   |non=>rfl
   |_=>rw[e]at l;cases l
  refine⟨λ_=>?_,λh=>?_⟩
  ·refine⟨⟨_,_,rfl⟩,_,rfl,rfl,_,n,t,rfl,I,λb c r=>?_⟩;rfl'
   cases b with
   |true=>
    obtain⟨o,v⟩:=g.row t c p B r;obtain⟨n1,j⟩:=g.ok c o;exact⟨λ_=>⟨λ_=>⟨n1,c,rfl,j,md j,_,v,c,rfl,o,rfl⟩,tf⟩,tf⟩
   |false=>
    cases Da r;refine⟨ff,λ_=>⟨⟨_,_,rfl⟩,_,rfl,rfl,_,n,t,rfl,I,λb c x=>?_⟩⟩;rfl'
    cases b with
    |true=>
     obtain⟨o,v⟩:=g.unk t c p B r x;obtain⟨n1,j⟩:=g.ok c o;exact⟨λ_=>⟨n1,c,rfl,j,md j,_,v,c,rfl,o,rfl⟩,tf⟩
    |false=>
     cases yg x;exact⟨ff,λ_=>⟨_,rfl,q t p (.inr ⟨r,x⟩)⟩⟩
  ·have h':(fu (bH t) != false)=false:=h;rw[l]at h';cases h'
def qL(s:Led)(n:Nat)(k a sl kp:D)(ex:Int):List (Str×Fl):=[("ledger",.v (iN s)),("breadth",.v (.int (n:Nat))),("kind",.v k),("paper",.v a),("slim",.v sl),("kept",.v kp),("extra",.v (.int ex))]
def ua:en:=λas R _=>∃(a:Option Addr)(bs:List Bd)(rs:List aw)(gs:List Int)(P:Led->Prop)(c:Led->Nat),as=[.ob a (.obj "Struck" []),.v (cF bs rs gs)]/\bs.length<=8/\rs.length<=30/\P (gP bs rs gs)/\Way P c /\
 (∀t,P t->RowSt t false t->UnkSt t false t->bH t=.non->R (.v .non) [.obj "Struck" (qL t bs.length (.str "slim") .non (lY t) (.tup (t.st.map bg)) t.ex)]) /\
 (∀t,P t->fu (bH t)=false->R (.v .non) [.obj "Struck" (qL (gC t (bH t) 1) bs.length (.str "none") (.tup ((gC t (bH t) 1).ln++[.tup [.str "shut",gu t]])) .non (.tup []) 0)])
def D2(xs:List Int):NoL (.tup (xs.map D.int)):=.tup λd hd=>by obtain⟨x,_,rfl⟩:=Kf.mp hd;exact .int x
def yN(b:Bd):NoL (aS b):=.tup (bB (.int _) (bB (by cases b.2<;>constructor) dq))
def B1(bs:List Bd)(rs:List aw)(gs:List Int):NoL (cF bs rs gs):=.tup (bB (.tup λd hd=>by
 obtain⟨b,_,rfl⟩:=Kf.mp hd
 exact yN b) (bB (.tup (qD rs)) (bB (D2 gs) dq)))
def Ib(st:List Nat):NoL (.tup (st.map bg)):=.tup λd hd=>by obtain⟨x,_,rfl⟩:=Kf.mp hd;exact .int _
def zk(F:Fun K "__init__" "Struck.__init__" oa f J){O:Addr}(c:TxtStruck K mg O){r:Addr}(g:TxtLedger K mg r)(T:ClM P w K mg base (n+1) "strike" ["ledger"] y_strike)(L:Cl P w K mg base (n+1) "slim_plan" ["ledger"] z_slim_plan)(M:MkM P w K mg base n r ["self","plan"] y_Ledger____init__)(Q:MthM P w K mg base (n+1) r "put_line" ["self","shares","divisor"] y_Ledger__put_line)(X:mg "len"=none)(B:mg "tuple"=none):FnOk P w K mg base aI (n+2) f J ["self","plan"] (lSpM K ua):=by
 refine F.okM sc_Struck____init__ (λas R U h=>?_) (λOh A outer s H E as R U qs Ot o h N=>?_)
 ·obtain⟨a,bs,rs,gs,z,I,rfl,_⟩:=h;rfl
 obtain⟨a,bs,rs,gs,z,I,rfl,hb,hl,Y,C,q1,q2⟩:=h;obtain⟨pa,rfl⟩:=eK N
 refine⟨_,(ar (aM (i:=2) sc_Struck____init__.nd rfl Wq (uY M o rfl g.mgC g.ns (aJ (ah (dv 1)) bo ae) ae ag))
   (ar (aM (i:=3) sc_Struck____init__.nd rfl Wq (bL T o rfl (bV 2 bo ae) ae ag))
   (ar (yf 0 2 c.cl c.n_ledger c.ns)
   (ar (ft 0 c.cl c.n_breadth c.ns (ah (bM cZ rfl X KH (aN (PD.q (aA (aa 1))) aX aG) aG ag)))
   (cI (b7 (bY (aV gX (aa 3) (PD.q bA) (aD _))) (ar (ft 0 c.cl c.n_kind c.ns (ah jv))
   (ar (ft 0 c.cl c.n_paper c.ns (ah bA))
   (ar (ft 0 c.cl c.n_slim c.ns (cG (bj L o rfl (af (dv 2) ak ae) ae ag)))
   (ar (ft 0 c.cl c.n_kept c.ns (cG (b9 cN rfl B J8 (aN (PD.q (aT g.cl g.n_staying g.ns (aa 2))) aX aP) aP ag)))
   (aQ (ft 0 c.cl c.n_extra c.ns (cG (aT g.cl g.n_extra g.ns (aa 2))))))))) (ar (aM (i:=4) sc_Struck____init__.nd rfl Wq (eX 2 Q o g.cl g.ns (aJ (ah (dv 3)) (aJ (ah ao) bo aF) ae) ae (ay aF ag)))
   (ar (ft 0 c.cl c.n_kind c.ns (ah jv))
   (ar (ft 0 c.cl c.n_paper c.ns (cG (aU kU (PD.q (b9 cN rfl B J8 (aN (PD.q (aT g.cl g.n_lines g.ns (aa 2))) aX aP) aP ag)) (PD.q (bx (af (bx (af jv (af (dv 4) ak ae) aF)) ak bJ))))))
   (ar (ft 0 c.cl c.n_slim c.ns (ah bA))
   (ar (ft 0 c.cl c.n_kept c.ns (ah (bx ak)))
   (aQ (ft 0 c.cl c.n_extra c.ns (ah ao)))))))))
   (Hk 0 2 "ledger" cq)))))),?_⟩
 intro ke;refine⟨_,bs,rs,gs,rfl,hb,hl,?_⟩;refine⟨⟨_,_,rfl⟩,_,rfl,rfl,_,gP bs rs gs,z,I,rfl,Y,C,λt x hc=>?_⟩;rfl';obtain⟨n0,j⟩:=C.ok t x;have h8:=j.n8;have OS:=uy j;refine⟨_,_,_,_,rfl,rfl,rfl,(by decide),λp _=>⟨_,rfl,?_⟩⟩;rfl';refine⟨_,rfl,_,_,rfl,rfl,(by show 1<1000;decide),[("ledger",.al p),("breadth",.v (.int (bs.length:Nat)))],by rw[JT];rfl,?_⟩;rfl';refine⟨λρ=>∃(t':Led)(k y sl kp:D)(ex:Int)(G:Option Sm),ρ=[some (.ob (some pa) (.obj "Struck" [("ledger",.al p),("breadth",.v (.int (bs.length:Nat))),("kind",.v k),("paper",.v y),("slim",.v sl),("kept",.v kp),("extra",.v (.int ex))])),some (.v (cF bs rs gs)),some (.ob (some p) (bQ t')),some (.v (bH t)),G]/\R (.v .non) [.obj "Struck" (qL t' bs.length k y sl kp ex)],⟨λh=>?_,λh=>?_⟩,?_⟩
 ·have l:fu (bH t)=true:=by
   have h':(fu (bH t) != false)=true:=h
   cases e:fu (bH t)with
   |true=>rfl
   |false=>rw[e]at h';cases h'
  have S:bH t=.non:=by
   cases e:bH t with
   |non=>rfl
   |_=>rw[e]at l;cases l
  obtain⟨u,Z⟩:=hc.resolve_left (by rw[l];decide);refine⟨_,_,rfl,rfl,(by show 2<1000;decide),_,rfl,?_⟩;refine⟨_,_,rfl,rfl,(by show 3<1000;decide),_,rfl,?_⟩;refine⟨n0,t,rfl,j,B1 _ _ _,_,_,rfl,rfl,(by show 4<1000;decide),_,rfl,?_⟩;refine⟨rfl,_,rfl,Ib _,_,_,rfl,rfl,(by show 5<1000;decide),_,rfl,?_⟩;refine⟨rfl,_,rfl,.int _,_,_,rfl,rfl,(by show 6<1000;decide),_,rfl,?_⟩;exact⟨t,_,_,_,_,_,_,rfl,q1 t x u Z S⟩
 ·have l:fu (bH t)=false:=by
   have h':(fu (bH t) != false)=false:=h
   cases e:fu (bH t)with
   |false=>rfl
   |true=>rw[e]at h';cases h'
  refine⟨⟨_,_,rfl,rfl⟩,_,rfl,rfl,_,t,bH t,1,rfl,md j,by have:=j.ln;omega,?_⟩;rfl';refine⟨_,_,rfl,rfl,(by show 2<1000;decide),_,rfl,?_⟩
  have hll:(gC t (bH t) 1).ln.length<800:=by
   show (t.ln++[_]).length<800;rw[JW,KA];have:=j.ln;omega
  have v:∀d∈(gC t (bH t) 1).ln,NoL d:=λd hd=>by
   rcases Ks.mp (show d∈t.ln++[fe (bH t) 1]from hd)with hd|hd
   ·exact j.n4 d hd
   ·rw[J5.mp hd];exact mT (md j)
  refine⟨rfl,_,rfl,hG (by show (gC t (bH t) 1).ln.length+1<=1000;omega),_,rfl,.tup (λd hd=>?_),_,_,rfl,rfl,(by show 3<1000;decide),_,rfl,?_⟩
  ·rcases Ks.mp hd with hd|hd
   ·exact v d hd
   ·rw[J5.mp hd];exact .tup (bB (.str _) (bB (.int _) dq))
  refine⟨_,_,rfl,rfl,(by show 4<1000;decide),_,rfl,?_⟩;refine⟨_,_,rfl,rfl,(by show 5<1000;decide),_,rfl,?_⟩;refine⟨_,_,rfl,rfl,(by show 6<1000;decide),_,rfl,?_⟩;exact⟨gC t (bH t) 1,_,_,_,_,_,_,rfl,q2 t x l⟩
 rintro ρ ⟨t',k,y,sl,kp,ex,G,rfl,u⟩;exact⟨_,p,_,_,_,_,_,rfl,rfl,rfl,rfl,_,rfl,u⟩
def Pl(n:Nat)(o:Om):Prop:=∃(r a c:Int),o=.lst [.int r,.int a,.int c]/\0<=c/\c<=n
def Pl.mono{n m:Nat}{o:Om}(h:Pl n o)(j:n<=m):Pl m o:=by obtain⟨r,st,c,e,a,g⟩:=h;exact⟨r,st,c,e,a,by omega⟩
def cK{z:Int}(h:z<2^64):z<2^9000:=by
 have a:(2:Nat)^64<=2^9000:=Lb (by decide) (by omega)
 have c:(2:Int)^64<=2^9000:=by exact_mod_cast a
 omega
inductive y__law_pool(as:List Sm)(R:Sm->List Om->Prop)(Rx:XD->List Om->Prop):Prop|mk (ns:List Int) (_:as=[.v (.fzl (ns.map D.int))]) (_:ns.length<=63) (_:∀o,Pl 0 o->R (.ob none o) [])
def zU(F:Fun K Xb Xb oY f J)(p:mg "len"=none):FnOk P w K mg base aI (n+1) f J [WE] (lSpM K y__law_pool):=by
 refine F.okM sc__law_pool (λas R o h=>?_) (λu A outer s H E as R o L z C h l=>?_)
 ·obtain⟨ns,rfl,_⟩:=h;rfl
 obtain⟨ns,rfl,B,q⟩:=h;obtain rfl:=jc l
 refine⟨_,(ar (aM (i:=1) sc__law_pool.nd rfl Wq (ah ao))
   (ar (eP Ki rfl (eT (cb (PF.d (D6 (aa 0) zJ (Bc (PD.q ao)))))) (cD (i:=2) sc__law_pool.nd rfl Wq) (aQ (aM (i:=1) sc__law_pool.nd rfl Wq (ah (aU jb (PD.q (aU cP (PD.q (aU cP (PD.q (aU dr (aa 1) (PD.q ao))) (PD.q (aU jb (aa 2) (PD.q ao))))) (PD.q ao))) (PD.q ao))))))
   (ar (aM (i:=3) sc__law_pool.nd rfl Wq (ah ao))
   (cI (b7 (bY (PWD.td (fK (aV fm (PD.q (bM cZ rfl p KH (aN (aa 0) aX ae) ae ag)) (PD.q ao) (aD _)) (ik (aV nj (PD.q (aA (aa 0))) (PD.q (aU rB (PD.q ao) (PD.q ao))) (aD _)))))) (aQ (aM (i:=3) sc__law_pool.nd rfl Wq (ah (aA (aa 0))))) cq)
   (aQ (cw (dB (dh (af (dv 3) (af (dv 1) (af ao ak aF) ae) ae))))))))),?_⟩
 intro I;have e:∀r g:Int,Pl 0 (.lst [.int r,.int g,.int 0]):=λr g=>⟨r,g,0,rfl,by omega,by omega⟩;refine⟨(iH ns none (some 63)).map D.int,HR D.int ns none (some 63),?_⟩;refine⟨λi ρ=>∃(v:Int)(a:Option Sm),ρ=[some (.v (.fzl (ns.map D.int))),some (.v (.int v)),a,none],⟨_,_,rfl⟩,?_,?_⟩
 ·rintro i d ρ hd ⟨v,a,rfl⟩;obtain⟨x,rfl,G⟩:=bP hd;exact⟨nT (by decide) (by decide),(by decide:(0:Int)<1000000007),(by decide:(0:Int)<2147483647),_,some (.v (.int x)),rfl⟩
 rintro ρ ⟨v,a,rfl⟩;refine⟨λρ=>∃r:Int,ρ=[some (.v (.fzl (ns.map D.int))),some (.v (.int v)),a,some (.v (.int r))],⟨λh=>?_,λh=>?_⟩,?_⟩
 ·have h:=dP h;obtain⟨y,j⟩:=A5 (ns:=ns) (k:=0) (by decide) (by rw[JT]at h;exact h);exact⟨_,j,⟨by decide,by decide,by decide⟩,λ_=>⟨_,j,_,rfl⟩,λ_=>⟨_,rfl⟩⟩
 ·exact⟨λc=>(by cases c),λ_=>⟨_,rfl⟩⟩
 rintro ρ ⟨r,rfl⟩;exact q _ (e r v)
inductive y__law_draw(as:List Sm)(R:Sm->List Om->Prop)(Rx:XD->List Om->Prop):Prop|mk (a:Option Addr) (o:Om) (z:Int) (n:Nat) (_:as=[.ob a o,.v (.int z)]) (_:Pl n o) (_:n<2^20) (_:0<z) (_:z<2^9000) (_:∀(x:Int)(o':Om),0<=x->x<z->Pl (n+1) o'->R (.v (.int x)) [o'])
def IF(F:Fun K WR WR mL f J) :FnOk P w K mg base aI (n+1) f J [Wr,Wt] (lSpM K y__law_draw):=by
 refine F.okM sc__law_draw (λas R l h=>?_) (λC A outer s H E as R l N G L h g=>?_)
 ·obtain⟨a,o,z,n,rfl,_⟩:=h;rfl
 obtain⟨a,o,z,n,rfl,x,I,e,y,q⟩:=h;obtain⟨B,rfl⟩:=eK g
 refine⟨_,(cI (b7 (bY (aV fm (PD.q (aA (aa 0))) (PD.q ao) (aD _))) (ar (aM (i:=2) sc__law_draw.nd rfl Wq (ah (aU jb (PD.q (aA (aa 0))) (aa 1))))
   (ar (jX 0 (ah (aU qu (PD.q (aA (aa 0))) (aa 1))) (ah ao))
   (aQ (cw (ah (dv 2)))))) cq)
   (ar (yw 0 A7 (ah ao) (ah ao))
   (ar (aM (i:=3) sc__law_draw.nd rfl Wq (ah (aA (aa 0))))
   (ar (aM (i:=4) sc__law_draw.nd rfl Wq (ah (aU dr (PD.q (aU cP (PD.q (aU cP (PD.q (aU cP (PD.q (aA (aa 0))) (PD.q (aU dr (PD.q (aU dr (PD.q ao) (aa 3))) (aa 3))))) (PD.q (aU dr (PD.q ao) (aa 3))))) (PD.q ao))) (PD.q ao))))
   (aQ (cw (ah (aU jb (PD.q (aU jb (PD.q (aU dr (PD.q (aU jb (aa 4) (PD.q ao))) (PD.q ao))) (PD.q ao))) (aa 1))))))))),?_⟩
 intro M;obtain⟨r,st,c,rfl,j,v⟩:=x;refine⟨λρ=>ρ=[some (.ob (some B) (.lst [.int r,.int st,.int c])),some (.v (.int z)),none,none,none],⟨_,rfl,λh=>?_,λ_=>rfl⟩,?_⟩
 ·exact⟨_,rfl,e,_,rfl,CDivB.of e y,_,rfl,_,rfl,_,rfl,q _ _ (NQ _ (by omega)) (Nl _ e) ⟨_,st,c,rfl,j,by omega⟩⟩
 rintro ρ rfl;refine⟨trivial,2,c,rfl,rfl,(by show 2<3;decide),_,rfl,_,rfl,?_⟩
 have p:-(2^64)<c+1:=by omega
 have u:c+1<2^64:=by omega
 refine⟨_,rfl,ig (by decide) (by decide),nT p u,ig (by decide) (by decide),nT (by decide) (by decide),(by decide:(0:Int)<2147483647),nT (by decide) (by decide),(by decide:(0:Int)<1000000007),e,?_⟩;exact⟨_,rfl,q _ _ (NQ _ (by omega)) (Nl _ e) ⟨r,st,c+1,rfl,by omega,by omega⟩⟩
def BdS(n:Nat)(bs:List Bd):Prop:=bs.length=n/\∀b∈bs,b.1.natAbs<=5/\∀m,b.2=some m->m.natAbs<=8
inductive y__law_bounds(as:List Sm)(R:Sm->List Om->Prop)(Rx:XD->List Om->Prop):Prop|mk (a:Option Addr) (o:Om) (n m:Nat) (op:Int) (_:as=[.ob a o,.v (.int (n:Nat)),.v (.int op)]) (_:Pl m o) (_:m+100<2^20) (_:n<=8) (_:0<=op) (_:op<=4) (_:∀(bs:List Bd)(gs:List Int)(hs:List Bool)(o':Om)(q1 q2 q3:Addr),BdS n bs->gs.length=n->(∀g∈gs,g.natAbs<=2)->hs.length=n->Pl (m+100) o'->R (.ob none (.tl [(q1,some (bs.map aS)),(q2,some (gs.map D.int)),(q3,some (hs.map D.bl))])) [o'])
def fE{c:Type}{P:c->Prop}{xs:List c}{x:c}(h:∀y∈xs,P y)(e:P x):∀y∈xs++[x],P y:=λy a=>by
 rcases Ks.mp a with a|a
 ·exact h y a
 ·rwa[J5.mp a]
def BdS.snoc{n:Nat}{bs:List Bd}{b:Bd}(h:BdS n bs)(a:b.1.natAbs<=5)(c:∀m,b.2=some m->m.natAbs<=8):BdS (n+1) (bs++[b]):=⟨by rw[JW,h.1];rfl,fE h.2 ⟨a,c⟩⟩
def rg{xs:List Int}{i:Nat}{v:Int}{P:Int->Prop}(h:∀x∈xs,P x)(c:P v):∀x∈xs.set i v,P x:=λx a=>by
 rcases Mv a with a|rfl
 ·exact h x a
 ·exact c
abbrev BS(g:Addr)(k:Nat)(e rt:Int)(o:Om)(bs:List Bd)(gs:List Int)(c:List Bool)(h j l a:Option Sm):aq:=[some (.ob (some g) o),some (.v (.int (k:Nat))),some (.v (.int e)),some (.v (.int rt)),some (.own (bs.map aS)),some (.own (gs.map D.int)),some (.own (c.map D.bl)),h,j,l,a]
def zS(F:Fun K W5 W5 nc f J)(v:ClM P w K mg base n WR [Wr,Wt] y__law_draw)(bT:mg "range"=none)(eS:mg "int"=none)(iV:mg "max"=none):FnOk P w K mg base aI (n+1) f J [Wr,Wx,WM] (lSpM K y__law_bounds):=by
 refine F.okM sc__law_bounds (λas R Rx h=>?_) (λOh A outer s H E as R Rx qs Ot p h OD=>?_)
 ·obtain⟨a,o,k,m,u,rfl,_⟩:=h;rfl
 obtain⟨a,o,k,m,u,rfl,hp,hm,hk,h0,h4,q⟩:=h;obtain⟨N,rfl⟩:=eK OD
 refine⟨_,(ar (aM (i:=3) sc__law_bounds.nd rfl Wq (dH dr (bL v p rfl (bV 0 (aJ (ah ao) bo aF) ae) ae (ay aF ag)) (ah (b9 j8 rfl eS Lu (aN (PD.q (dS fm (aa 2) (PD.q ao) (aD _))) aX gD) gD ag))))
   (ar (aM (i:=4) sc__law_bounds.nd rfl Wq (dB (dh ak)))
   (ar (aM (i:=5) sc__law_bounds.nd rfl Wq (dB (dh ak)))
   (ar (aM (i:=6) sc__law_bounds.nd rfl Wq (dB (dh ak)))
   (ar (eP Ki rfl (eT (ir rfl bT (af (dv 1) ak ae))) (cD (i:=7) sc__law_bounds.nd rfl Wq) (ar (aM (i:=8) sc__law_bounds.nd rfl Wq (dH du (bL v p rfl (bV 0 (aJ (ah ao) bo aF) ae) ae (ay aF ag)) (ah ao)))
   (ar (aM (i:=9) sc__law_bounds.nd rfl Wq (bL v p rfl (bV 0 (aJ (ah ao) bo aF) ae) ae (ay aF ag)))
   (cI (gp 6 (EH (ah (dS fm (aa 3) (PD.q ao) (aD _))) (Iu (IA (dw p.units) (bL v p rfl (bV 0 (aJ (ah (aU dr (PD.q ao) (PD.q (bM (ur rfl) rfl iV MX (aN (PD.q ao) (aN (aa 3) aX ae) aF) aF (ay ae ag))))) bo bW) ae) ae (ay bW ag)) (ah ao) (aD _)))) (di xK) xK)
   (ar (aM (i:=10) sc__law_bounds.nd rfl Wq (ah (aU cP (aa 8) (PD.q (aU jb (aa 9) (PD.q ao))))))
   (ar (gp 5 (dH du (bL v p rfl (bV 0 (aJ (ah ao) bo aF) ae) ae (ay aF ag)) (ah ao)) (di bW) bW)
   (cI (b7 (bY (cA (PD.q (bD (aa 6) (aa 7) (λ_ _=>rfl))) (λ_=>rfl))) (ar (jX 5 (ah ao) (ah (dv 7)))
   (aQ (aM (i:=9) sc__law_bounds.nd rfl Wq (ah ao)))) cq)
   (cI (b7 (bY (aV iE (aa 9) (PD.q (aU dr (PD.q ao) (aa 2))) (aD _))) (aQ (aM (i:=10) sc__law_bounds.nd rfl Wq (ah bA))) (aQ (b7 (bY (aV (dw p.units) (aa 9) (PD.q ao) (aD _))) (aQ (aM (i:=10) sc__law_bounds.nd rfl Wq (ah (aU du (aa 8) (PD.q ao))))) cq)))
   (aQ (gp 4 (ah (bx (af (dv 8) (af (dv 10) ak ae) ae))) (di bJ) bJ))))))))))
   (aQ (cw (Dn (aJ (jY 4) (aJ (jY 5) (aJ (jY 6) bo ae) ae) ae))))))))),?_⟩
 intro ke;refine⟨⟨_,_,rfl⟩,_,rfl,rfl,_,_,3,m,rfl,hp,by omega,by decide,cK (by decide),λx o1 hx0 RB Pd=>?_⟩;rfl';obtain⟨rt,Y,r0,r2⟩:∃rt:Int,x*(if decide (0<u) then 1 else 0)=rt/\0<=rt/\rt<=2:=⟨_,rfl,by split<;>omega,by split<;>omega⟩;refine⟨ig (by omega) (by omega),?_⟩;simp only[Y];refine⟨⟨by omega,by omega⟩,λi ρ=>∃bs gs e o' u7 u8 u9 L,ρ=BS N k u rt o' bs gs e u7 u8 u9 L/\BdS i bs/\gs.length=i/\(∀g∈gs,g.natAbs<=2)/\e.length=i/\Pl (m+1+5*i) o',⟨[],[],[],o1,_,_,_,_,rfl,⟨rfl,λb j=>by cases j⟩,rfl,λg r=>(by cases r),rfl,Pd⟩,?_,?_⟩
 ·rintro i d ρ hd ⟨bs,gs,e,o2,u7,u8,u9,L,rfl,C,z,r,B,I⟩;obtain⟨hi,rfl⟩:=gR hd
  have P2:i<k:=by omega
  refine⟨⟨_,_,rfl⟩,_,rfl,rfl,_,_,5,_,rfl,I,by omega,by decide,cK (by decide),λl o3 a0 a1 P6=>?_⟩;rfl';refine⟨⟨_,_,rfl⟩,_,rfl,rfl,_,_,32,_,rfl,P6,by omega,by decide,cK (by decide),λO o4 b0 b1 Pk=>?_⟩;rfl'
  have hz:(e.map D.bl).length<sizeLine:=by rw[JT];exact bq (by omega)
  refine⟨λρ=>∃(j:Bool)(G:Om),ρ=BS N k u rt G bs gs (e++[j]) (some (.v (.int (0+(i:Nat))))) (some (.v (.int (l-2)))) (some (.v (.int O))) L/\Pl (m+1+5*i+3) G,⟨λc=>?_,λc=>⟨hz,_,gF D.bl e false,false,o4,rfl,Pk.mono (by omega)⟩⟩,?_⟩
  ·refine⟨⟨_,_,rfl⟩,ig (by decide) (by decide),_,rfl,rfl,_,_,_,_,rfl,Pk,by omega,?_,cK ?_,λx3 G c0 c1 Q=>?_⟩
   ·show (0:Int)<2*(if rt>1 then rt else 1);split<;>omega
   ·show 2*(if rt>1 then rt else 1)<2^64;split<;>omega
   rfl';exact⟨hz,_,gF D.bl e _,_,G,rfl,Q.mono (by omega)⟩
  rintro ρ ⟨j,G,rfl,Q⟩
  have X:(gs.map D.int).length<sizeLine:=by rw[JT];exact bq (by omega)
  refine⟨(by decide:(0:Int)<4),?_⟩;refine⟨⟨_,_,rfl⟩,_,rfl,rfl,_,_,5,_,rfl,Q,by omega,by decide,cK (by decide),λx4 Z d0 d1 R0=>?_⟩;rfl';refine⟨X,_,gF D.int gs _,?_⟩;rfl';have P4:cE ((e++[j]).map D.bl) (0+(i:Int))=some (.bl j):=cR (i:=i) (by rw[JU (by omega),B,Kw];rfl) (KW _)
  have T:(bs.map aS).length<sizeLine:=by rw[JT,C.1];exact bq (by omega)
  refine⟨λρ=>∃(y:List Int)(S:Int),ρ=BS N k u rt Z bs y (e++[j]) (some (.v (.int (0+(i:Nat))))) (some (.v (.int (l-2)))) (some (.v (.int S))) (some (.v (.int (l-2+O % 4))))/\y.length=i+1/\(∀g∈y,g.natAbs<=2),⟨_,P4,λc=>?_,λc=>⟨gs++[x4-2],O,rfl,by rw[JW,z];rfl,fE r (by omega)⟩⟩,?_⟩
  ·refine⟨i,by rw[KW];exact e7 (by rw[JT,JW];show i<gs.length+1;omega),_,(LJ ..).symm,?_⟩;exact⟨_,0,rfl,by rw[JX,JW,z];rfl,rg (fE r (by omega)) (by decide)⟩
  rintro ρ ⟨y,S,rfl,VN,U⟩;refine⟨λρ=>∃M:Option Int,ρ=BS N k u rt Z bs y (e++[j]) (some (.v (.int (0+(i:Nat))))) (some (.v (.int (l-2)))) (some (.v (.int S))) (some (.v (oI M)))/\∀mm,M=some mm->mm.natAbs<=8,⟨ig (by decide) (by decide),λc=>⟨none,rfl,λmm h=>by cases h⟩,λc=>⟨λc2=>⟨some (l-2-1),rfl,λmm h=>by cases h;omega⟩,λc2=>⟨some (l-2+O % 4),rfl,λmm h=>by cases h;omega⟩⟩⟩,?_⟩;rintro ρ ⟨M,rfl,VO⟩;exact⟨T,_,gF aS bs (l-2,M),_,_,_,Z,_,_,_,_,rfl,C.snoc (by show (l-2).natAbs<=5;omega) VO,VN,U,by rw[JW,B];rfl,R0.mono (by omega)⟩
 ·rintro ρ ⟨bs,gs,e,o2,u7,u8,u9,L,rfl,C,z,r,B,I⟩;rw[gm,K0]at C z B I;exact⟨_,_,_,rfl,λq1 q2 q3=>⟨_,rfl,q bs gs e o2 q1 q2 q3 C z r B (I.mono (by omega))⟩⟩
def mM:D->D
 |.lst l=>.tup l
 |d=>d
def vc{d:D}{l:List D}(h:mM d=.tup l):d=.tup l\/d=.lst l:=by
 cases d with
 |tup m=>exact .inl h
 |lst m=>refine .inr ?_;cases h;rfl
 |_=>cases h
inductive z__law_times(ds:List D)(R:D->Prop):Prop|mk (xs ys:List Int) (_:ds.map mM=[.tup (xs.map D.int),.tup (ys.map D.int)]) (_:xs.length<=1000) (_:(∀x∈xs,bN x)) (_:(∀y∈ys,bN y)) (_:R (.int (aB xs ys)))
def DN(F:Fun K WO WO mq f J)(z:mg "sum"=none)(p:mg "zip"=none):FnOk P w K mg base aI (n+1) f J [Ww,Ws] (lSp K z__law_times):=by
 refine F.okD Ij (λds R h=>?_) (λB A outer s H E ds R C h=>?_)
 ·obtain⟨xs,ys,e,_⟩:=h;have:=KO List.length e;rw[JT]at this;exact this
 obtain⟨xs,ys,e,r,u,v,q⟩:=h
 obtain⟨a,c,rfl⟩:∃a c,ds=[a,c]:=by
  have:=KO List.length e;rw[JT]at this
  match ds,this with
  | [a,c],_=>exact⟨a,c,rfl⟩
 have l:mM a=.tup (xs.map D.int):=(MQ e).1;have o:mM c=.tup (ys.map D.int):=(MQ (MQ e).2).1;refine⟨_,(aL (bp (bM (xU rfl) rfl z NV (aN (PD.q (PF.d (de (k:=2) (N':=[WH,WG]) (cap:=[none,none]) rfl (.ok (show bX [Ww,Ws] (av mq) _ [WH,WG] [none,none]=true by lia)) (by lia) (iA (n:=2) (eo (bE (by decide)) (eo (bE (by decide)) iG))) (kj rfl p (af (dv 0) (af (dv 1) ak ae) ae)) (λ_ _ _ _ _=>(eu (n:=2) rfl (bR (bh (i:=0) (show List.Nodup ([WH,WG]:List Str)by lia) rfl Wq) (bR (bh (i:=1) (show List.Nodup ([WH,WG]:List Str)by lia) rfl Wq) eG)))) (λ_ _ _ _ _=>(aU dr (aa 0) (aa 1)))))) aX bC) bC ag))),?_⟩;rcases vc l with rfl|rfl<;>rcases vc o with rfl|rfl
 all_goals
  refine⟨_,_,rfl,rfl,?_⟩;refine rZ (λx y=>D.int (x*y)) (bq r) (λx g y j=>⟨rfl,iY (u x g) (v y j),rfl⟩) ?_;exact⟨List.zipWith (λx y=>x*y) xs ys,by rw[NH];rfl,q⟩
def kA(n:Nat)(rs:List aw):Prop:=∀r∈rs,r.1.length=n/\(∀x∈r.1,x.natAbs<=3)/\r.2.natAbs<=400
inductive y__law_rows(as:List Sm)(R:Sm->List Om->Prop)(Rx:XD->List Om->Prop):Prop|mk (a:Option Addr) (o:Om) (n m:Nat) (mn:Int) (sp:List Int) (hs:List Bool) (_:as=[.ob a o,.v (.int mn),.v (.lst (sp.map D.int)),.v (.lst (hs.map D.bl))]) (_:Pl m o) (_:m+200<2^20) (_:n<=8) (_:0<=mn) (_:mn<=12) (_:sp.length=n) (_:hs.length=n) (_:(∀x∈sp,x.natAbs<=10)) (_:∀(rs:List aw)(o':Om),kA n rs->(rs.length:Int)<=mn->Pl (m+200) o'->R (.own (rs.map az)) [o'])
abbrev RS(g:Addr)(e:Int)(sp:List Int)(c:List Bool)(o:Om)(rs:List aw)(h j l p r a:Option Sm):aq:=[some (.ob (some g) o),some (.v (.int e)),some (.v (.lst (sp.map D.int))),some (.v (.lst (c.map D.bl))),some (.own (rs.map az)),h,j,l,p,r,a]
def nums12:List Int:=[0,0,0,0,0,0,-3,-2,-1,1,2,3]
def DQ{x:Int}(c:0<=x)(e:x<12):∃v:Int,cE (nums12.map D.int) x=some (.int v)/\v.natAbs<=3:=by
 obtain⟨k,rfl⟩:=Lm c
 have a:k<12:=by omega
 refine⟨nums12.getD k 0,cR (i:=k) (bZ (show k<nums12.length from a)) rfl,?_⟩
 have:∀j<12,(nums12.getD j 0).natAbs<=3:=by decide
 exact this k a
def Bp(F:Fun K Xc Xc pI f J)(u:ClM P w K mg base n WR [Wr,Wt] y__law_draw)(ix:Cl P w K mg base n WO [Ww,Ws] z__law_times)(bT:mg "range"=none)(eg:mg "list"=none)(iw:mg "abs"=none)(bu:mg "len"=none)(aZ:mg "tuple"=none):FnOk P w K mg base aI (n+1) f J [Wr,Wt,Ws,WV] (lSpM K y__law_rows):=by
 refine F.okM sc__law_rows (λas R Rx h=>?_) (λOh A outer s H E as R Rx qs Ot e h OD=>?_)
 ·obtain⟨a,o,k,m,I,sp,G,rfl,_⟩:=h;rfl
 obtain⟨a,o,k,m,I,sp,G,rfl,hp,hm,hk,h0,h12,Qm,RZ,hsz,q⟩:=h;obtain⟨Q,rfl⟩:=eK OD
 refine⟨_,(ar (aM (i:=4) sc__law_rows.nd rfl Wq (dB (dh ak)))
   (ar (eP Ki rfl (xR rfl bT (aJ (bL u e rfl (bV 0 (aJ (ah (aU cP (aa 1) (PD.q ao))) bo bW) ae) ae (ay bW ag)) bo bt)) (cD (i:=5) sc__law_rows.nd rfl Wq) (ar (aM (i:=6) sc__law_rows.nd rfl Wq (dB (dh ak)))
   (ar (eP Ki rfl (eT (cb (dv 3))) (cD (i:=7) sc__law_rows.nd rfl Wq) (ar (aM (i:=8) sc__law_rows.nd rfl Wq (ph (ah (bx (af ao (af ao (af ao (af ao (af ao (af ao (af (eI (PD.q ao)) (af (eI (PD.q ao)) (af (eI (PD.q ao)) (af ao (af ao (af ao ak aF) aF) aF) iS) iS) iS) aF) aF) aF) aF) aF) aF))) (bL u e rfl (bV 0 (aJ (ah ao) bo aF) ae) ae (ay aF ag)) (λ_ _=>rfl)))
   (cI (b7 (bY (cA (aa 7) (λ_=>rfl))) (aQ (aM (i:=8) sc__law_rows.nd rfl Wq (ah (bM nR rfl iw Mm (aN (aa 8) aX ae) ae ag)))) cq)
   (aQ (gp 6 (ah (dv 8)) (di ae) ae)))))
   (ar (aM (i:=9) sc__law_rows.nd rfl Wq (bL u e rfl (bV 0 (aJ (ah ao) bo aF) ae) ae (ay aF ag)))
   (cI (b7 (bY (PWD.td (fK (aV (dw e.units) (aa 9) (PD.q ao) (aD _)) (ik (aV fm (PD.q (bM cZ rfl bu KH (aN (aa 4) aX ae) ae ag)) (PD.q ao) (aD _)))))) (aQ (aM (i:=6) sc__law_rows.nd rfl Wq (Hu rfl eg (ph (Dk 4 rfl (bL u e rfl (bV 0 (aJ (ah (bM cZ rfl bu KH (aN (aa 4) aX ae) ae ag)) bo bt) ae) ae (ay bt ag)) (λ_ _=>rfl)) (ah ao) (λ_ _=>rfl)) aG))) cq)
   (ar (aM (i:=10) sc__law_rows.nd rfl Wq (dH du (ah (pY ix e rfl (aN (aa 6) (aN (aa 2) aX ae) ae) ae (ay ae ag))) (bL u e rfl (bV 0 (aJ (ah ao) bo aF) ae) ae (ay aF ag))))
   (cI (b7 (bY (aV (dw e.units) (aa 9) (PD.q ao) (aD _))) (aQ (aM (i:=10) sc__law_rows.nd rfl Wq (dH du (bL u e rfl (bV 0 (aJ (ah ao) bo aF) ae) ae (ay aF ag)) (ah ao)))) cq)
   (aQ (gp 4 (ah (bx (af (b9 cN rfl aZ J8 (aN (aa 6) aX ae) ae ag) (af (dv 10) ak ae) bt))) (di bJ) bJ)))))))))
   (aQ (cw (jY 4))))),?_⟩
 intro ke;refine⟨⟨_,_,rfl⟩,_,rfl,rfl,_,_,_,_,rfl,hp,by omega,by omega,cK (by omega),λc o1 c0 c1 Pd=>?_⟩;rfl';refine⟨⟨by omega,by omega⟩,λi ρ=>∃rs o' u5 u6 g l S B,ρ=RS Q I sp G o' rs u5 u6 g l S B/\kA k rs/\rs.length=i/\Pl (m+1+14*i) o',⟨[],o1,_,_,_,_,_,_,rfl,λr e=>(by cases e),rfl,Pd⟩,?_,?_⟩
 ·rintro i d ρ hd ⟨rs,o2,u5,u6,g,l,S,B,rfl,X,Y,U⟩;obtain⟨hi,rfl⟩:=gR hd
  have P2:i<12:=by omega
  refine⟨λj ρ=>∃es o' g l,ρ=RS Q I sp G o' rs (some (.v (.int (0+(i:Nat))))) (some (.own (es.map D.int))) g l S B/\es.length=j/\(∀x∈es,x.natAbs<=3)/\Pl (m+1+14*i+j) o',⟨[],o2,_,_,rfl,rfl,λx N=>(by cases N),U⟩,?_,?_⟩
  ·rintro j d ρ hd ⟨es,o3,g,l,rfl,M,p,T⟩;obtain⟨hb,rfl,hhb⟩:=bP hd;have hj:=aE hhb;refine⟨⟨_,_,rfl⟩,_,rfl,rfl,_,_,12,_,rfl,T,by omega,by decide,cK (by decide),λx O x0 x1 L=>?_⟩;rfl';obtain⟨v,hv,hv3⟩:=DQ x0 x1;refine⟨_,hv,?_⟩;refine⟨λρ=>∃y:Int,ρ=RS Q I sp G O rs (some (.v (.int (0+(i:Nat))))) (some (.own (es.map D.int))) (some (.v (.bl hb))) (some (.v (.int y))) S B/\y.natAbs<=3,⟨λc=>⟨_,rfl,?_⟩,λc=>⟨v,rfl,hv3⟩⟩,?_⟩
   ·split<;>omega
   rintro ρ ⟨y,rfl,hy⟩;exact⟨by rw[JT];exact bq (by omega),_,gF D.int es y,_,O,_,_,rfl,by rw[JW,M];rfl,fE p hy,L.mono (by omega)⟩
  ·rintro ρ ⟨es,o3,g,l,rfl,M,p,T⟩;rw[JT]at M T;refine⟨⟨_,_,rfl⟩,_,rfl,rfl,_,_,5,_,rfl,T,by omega,by decide,cK (by decide),λmr O x0 x1 L=>?_⟩;rfl';refine⟨λρ=>∃(es:List Int)(o':Om),ρ=RS Q I sp G o' rs (some (.v (.int (0+(i:Nat))))) (some (.own (es.map D.int))) g l (some (.v (.int mr))) B/\es.length=k/\(∀x∈es,x.natAbs<=3)/\Pl (m+1+14*i+10) o',⟨λc=>⟨λC=>?_,λC=>⟨es,O,rfl,by omega,p,L.mono (by omega)⟩⟩,λc=>⟨λC=>ff C,λC=>⟨es,O,rfl,by omega,p,L.mono (by omega)⟩⟩⟩,?_⟩
   ·have C:0<rs.length:=by have:=dP C;rw[JT]at this;omega
    refine⟨⟨_,_,rfl⟩,⟨_,_,rfl⟩,_,rfl,rfl,_,_,_,_,rfl,L,by omega,by rw[JT];omega,cK (by rw[JT];omega),λy o5 y0 y1 Z=>?_⟩;rfl';rw[JT]at y1;obtain⟨z,rfl⟩:=Lm y0
    have hz:z<rs.length:=by omega
    obtain⟨r1,r2,r3⟩:=X rs[z] (LU hz);exact⟨_,_,_,_,rfl,rfl,cR (i:=z) (bK hz) rfl,_,rfl,_,rfl,rs[z].1,o5,rfl,r1,r2,Z.mono (by omega)⟩
   rintro ρ ⟨es,o5,rfl,M,p,Z⟩;have Rc:∀x∈es,bN x:=λx N=>fw (m:=10) (by have:=p x N;omega) (by decide);have VP:∀x∈sp,bN x:=λx N=>fw (m:=10) (by have:=hsz x N;omega) (by decide);have SD:=lx p hsz
   have hd9:(aB es sp).natAbs<=300:=by have:es.length*(3*10)<=8*(3*10):=LK _ (by omega);omega
   refine⟨es,sp,rfl,by omega,Rc,VP,trivial,?_⟩;refine⟨⟨_,_,rfl⟩,_,rfl,rfl,_,_,4,_,rfl,Z,by omega,by decide,cK (by decide),λy o6 y0 y1 R0=>?_⟩;rfl';refine⟨λρ=>∃(b:Int)(o':Om),ρ=RS Q I sp G o' rs (some (.v (.int (0+(i:Nat))))) (some (.own (es.map D.int))) g l (some (.v (.int mr))) (some (.v (.int b)))/\b.natAbs<=400/\Pl (m+1+14*i+12) o',⟨λc=>?_,λc=>⟨_,o6,rfl,by omega,R0.mono (by omega)⟩⟩,?_⟩
   ·refine⟨⟨_,_,rfl⟩,_,rfl,rfl,_,_,13,_,rfl,R0,by omega,by decide,cK (by decide),λz o7 z0 z1 TM=>?_⟩;rfl';exact⟨_,o7,rfl,by omega,TM.mono (by omega)⟩
   rintro ρ ⟨b,o7,rfl,hb,TM⟩;exact⟨by rw[JT];exact bq (by omega),_,gF az rs (es,b),_,o7,_,_,_,_,_,_,rfl,fE X ⟨M,p,hb⟩,by rw[JW,Y];rfl,TM.mono (by omega)⟩
 ·rintro ρ ⟨rs,o2,u5,u6,g,l,S,B,rfl,X,Y,U⟩;rw[gm]at Y U;exact⟨_,rfl,q rs o2 X (by omega) (U.mono (by omega))⟩
structure PlS(n:Nat)(mn:Int)(bs:List Bd)(rs:List aw)(gs sp:List Int):Prop where
 b:BdS n bs
 r:kA n rs
 rl:(rs.length:Int)<=mn
 gl:gs.length=n
 g:∀g∈gs,g.natAbs<=2
 sl:sp.length=n
 s:∀x∈sp,x.natAbs<=10
inductive y__law_small(as:List Sm)(R:Sm->List Om->Prop)(Rx:XD->List Om->Prop):Prop|mk (a:Option Addr) (o:Om) (n m:Nat) (mn op:Int) (_:as=[.ob a o,.v (.int (n:Nat)),.v (.int mn),.v (.int op)]) (_:Pl m o) (_:m+500<2^20) (_:n<=8) (_:1<=mn) (_:mn<=12) (_:0<=op) (_:op<=4) (_:∀(bs:List Bd)(rs:List aw)(gs sp:List Int)(o':Om),PlS n mn bs rs gs sp->Pl (m+500) o'->R (.v (.tup [cF bs rs gs,.tup (sp.map D.int)])) [o'])
abbrev SS(j:Addr)(k:Nat)(g h:Int)(o:Om)(bs:List Bd)(gs:List Int)(l p r u a e c:Option Sm):aq:=[some (.ob (some j) o),some (.v (.int (k:Nat))),some (.v (.int g)),some (.v (.int h)),some (.v (.lst (bs.map aS))),some (.own (gs.map D.int)),l,p,r,u,a,e,c]
def Cd(F:Fun K Xa Xa mI f J)(PL:ClM P w K mg base n W5 [Wr,Wx,WM] y__law_bounds)(Qg:ClM P w K mg base n Xc [Wr,Wt,Ws,WV] y__law_rows)(I:ClM P w K mg base n WR [Wr,Wt] y__law_draw)(ix:Cl P w K mg base n WO [Ww,Ws] z__law_times)(X:mg "tuple"=none)(iV:mg "max"=none):FnOk P w K mg base aI (n+1) f J [Wr,Wx,Wt,WM] (lSpM K y__law_small):=by
 refine F.okM sc__law_small (λas R Rx h=>?_) (λOh A outer s H E as R Rx qs Ot B h OD=>?_)
 ·obtain⟨a,o,k,m,C,L,rfl,_⟩:=h;rfl
 obtain⟨a,o,k,m,C,L,rfl,hp,hm,hk,h1,h12,h0,h4,q⟩:=h;obtain⟨Z,rfl⟩:=eK OD
 refine⟨_,(ar (CW 4 5 6 rfl sc__law_small.nd rfl rfl rfl Wq Wq Wq (bL PL B rfl (bV 0 (aJ (ah (dv 1)) (aJ (ah (dv 3)) bo ae) ae) ae) ae (ay ae (ay ae ag))))
   (ar (aM (i:=7) sc__law_small.nd rfl Wq (dB (dh ak)))
   (iz 4 (ar (eP Ki rfl (eT (cb (dv 4))) (iR (n:=2) rfl (eC (cD (i:=8) sc__law_small.nd rfl Wq) (eC (cD (i:=9) sc__law_small.nd rfl Wq) iI))) (ar (aM (i:=10) sc__law_small.nd rfl Wq (ah ao))
   (cI (b7 (bY (aV ef (aa 9) (PD.q bA) (aD _))) (aQ (aM (i:=10) sc__law_small.nd rfl Wq (ah (bM (ur rfl) rfl iV MX (aN (PD.q ao) (aN (PD.q (aU cP (PD.q (aU du (aa 9) (aa 8))) (PD.q ao))) aX bW) aF) aF (ay bW ag))))) cq)
   (aQ (gp 7 (dH cP (ah (dv 8)) (bL I B rfl (bV 0 (aJ (ah (dv 10)) bo ae) ae) ae (ay ae ag))) (di bW) bW)))))
   (iz 7 (iz 6 (ar (aM (i:=11) sc__law_small.nd rfl Wq (bL Qg B rfl (bV 0 (aJ (ah (aU du (aa 2) (PD.q ao))) (aJ (ah (dv 7)) (aJ (ah (dv 6)) bo ae) ae) bW) ae) ae (ay bW (ay ae (ay ae ag)))))
   (cI (b7 (PXW.toB (mY (Aj (dw B.units) (bL I B rfl (bV 0 (aJ (ah ao) bo aF) ae) ae (ay aF ag)) (ah ao) (aD _)) (mY (bY (aV fm (aa 1) (PD.q ao) (aD _))) (mY (bY (cW (cA (PD.q (bD (aa 6) (PD.q (aU du (aa 1) (PD.q ao))) (λ_ _=>rfl))) (λ_=>rfl)))) (x9 (bY (cW (cA (PD.q (bD (aa 6) (PD.q (aU du (aa 1) (PD.q ao))) (λ_ _=>rfl))) (λ_=>rfl))))))))) (ar (aM (i:=12) sc__law_small.nd rfl Wq (dH rM (ah (aU G5 (PD.q (PF.d (dh (af ao ak aF)))) (PD.q (aU du (aa 1) (PD.q ao))))) (wJ (Im (aJ (dH du (ah (eI (PD.q ao))) (bL I B rfl (bV 0 (aJ (ah ao) bo aF) ae) ae (ay aF ag))) (aJ (dH du (ah (eI (PD.q ao))) (bL I B rfl (bV 0 (aJ (ah ao) bo aF) ae) ae (ay aF ag))) bo bW) bW)))))
   (ar (gp 11 (vo (aJ (ah (b9 cN rfl X J8 (aN (aa 12) aX ae) ae ag)) (aJ (dH du (ah (pY ix B rfl (aN (aa 12) (aN (aa 7) aX ae) ae) ae (ay ae ag))) (bL I B rfl (bV 0 (aJ (ah ao) bo aF) ae) ae (ay aF ag))) bo bW) bt)) (di bJ) bJ)
   (ar (jX 5 (dH cP (ah ao) (bL I B rfl (bV 0 (aJ (ah ao) bo aF) ae) ae (ay aF ag))) (ah (aU du (aa 1) (PD.q ao))))
   (aQ (jX 5 (dH cP (ah ao) (bL I B rfl (bV 0 (aJ (ah ao) bo aF) ae) ae (ay aF ag))) (ah (aU du (aa 1) (PD.q ao)))))))) cq)
   (aQ (cw (ah (bx (af (bx (af (b9 cN rfl X J8 (aN (aa 4) aX ae) ae ag) (af (b9 cN rfl X J8 (aN (aa 11) aX ae) ae ag) (af (b9 cN rfl X J8 (aN (aa 5) aX ae) ae ag) ak bt) bt) bt)) (af (b9 cN rfl X J8 (aN (aa 7) aX ae) ae ag) ak bt) bJ))))))))))))),?_⟩
 intro ke;refine⟨⟨_,_,rfl⟩,_,rfl,rfl,_,_,k,m,L,rfl,hp,by omega,hk,h0,h4,λbs gs G o1 q1 q2 q3 hB QN hg RZ Pd=>?_⟩;refine⟨_,_,_,_,_,_,rfl,⟨(by show 4<13;decide),(by show 5<13;decide),(by show 6<13;decide)⟩,?_⟩;rfl';refine⟨λi ρ=>∃sp o' Q S N,ρ=SS Z k C L o' bs gs (some (.own (G.map D.bl))) (some (.own (sp.map D.int))) Q S N none none/\sp.length=i/\(∀x∈sp,x.natAbs<=10)/\Pl (m+100+i) o',⟨[],o1,_,_,_,rfl,rfl,λx u=>(by cases u),Pd⟩,?_,?_⟩
 ·rintro i d ρ hd ⟨sp,Y,Q,S,N,rfl,U,O,Pc⟩;obtain⟨b,rfl,hb⟩:=bP hd;obtain⟨b1,b2⟩:=hB.2 b (J0 hb);have hi:=aE hb;have hBl:=hB.1;refine⟨rfl,?_⟩;refine⟨λρ=>∃M:Int,ρ=SS Z k C L Y bs gs (some (.own (G.map D.bl))) (some (.own (sp.map D.int))) (some (.v (.int b.1))) (some (.v (oI b.2))) (some (.v (.int M))) none none/\0<M/\M<=14/\(M<=5\/b.1+M<=10),?_,?_⟩
  ·obtain⟨l,mo⟩:=b
   cases mo with
   |none=>exact⟨ff,λ_=>⟨4,rfl,by decide,by decide,.inl (by decide)⟩⟩
   |some mm=>
    have b2:=b2 mm rfl;have b1:l.natAbs<=5:=b1;refine⟨λ_=>⟨if mm-l+1>1 then mm-l+1 else 1,rfl,?_,?_,?_⟩,tf⟩
    ·split<;>omega
    ·split<;>omega
    ·show _\/l+_<=10;split
     ·exact .inr (by omega)
     ·exact .inl (by omega)
  rintro ρ ⟨M,rfl,w0,w14,w5⟩;refine⟨⟨_,_,rfl⟩,_,rfl,rfl,_,_,M,_,rfl,Pc,by omega,w0,cK (by omega),λx o3 x0 x1 P6=>?_⟩;rfl';exact⟨by rw[JT];exact bq (by omega),_,gF D.int sp _,_,o3,_,_,_,rfl,by rw[JW,U];rfl,fE O (by omega),P6.mono (by omega)⟩
 rintro ρ ⟨sp,Y,Q,S,N,rfl,U,O,Pc⟩;rw[JT,hB.1]at U Pc;refine⟨⟨_,_,rfl⟩,_,rfl,rfl,_,_,k,_,_,sp,G,rfl,Pc,by omega,hk,by omega,by omega,U,RZ,O,λrs o3 hR OK P6=>?_⟩;rfl';have fin:∀(r:List aw)(p:List Int)(o':Om),kA k r->(r.length:Int)<=C->p.length=k->(∀g∈p,g.natAbs<=2)->Pl (m+400) o'->R (.v (.tup [cF bs r p,.tup (sp.map D.int)])) [o']:=λr p o' r1 r2 r3 r4 r5=>q bs r p sp o' ⟨hB,r1,r2,r3,r4,U,O⟩ (r5.mono (by omega));refine⟨λρ=>∃(r:List aw)(p:List Int)(o':Om)(QO:Option Sm),ρ=[some (.ob (some Z) o'),some (.v (.int (k:Nat))),some (.v (.int C)),some (.v (.int L)),some (.v (.lst (bs.map aS))),some (.own (p.map D.int)),some (.v (.lst (G.map D.bl))),some (.v (.lst (sp.map D.int))),Q,S,N,some (.own (r.map az)),QO]/\kA k r/\(r.length:Int)<=C/\p.length=k/\(∀g∈p,g.natAbs<=2)/\Pl (m+400) o',?_,?_⟩
 ·have stay:∀o',Pl (m+400) o'->∃(r:List aw)(p:List Int)(Y:Om)(QO:Option Sm),[some (Sm.ob (some Z) o'),some (.v (.int (k:Nat))),some (.v (.int C)),some (.v (.int L)),some (.v (.lst (bs.map aS))),some (.own (gs.map D.int)),some (.v (.lst (G.map D.bl))),some (.v (.lst (sp.map D.int))),Q,S,N,some (.own (rs.map az)),none]=[some (.ob (some Z) Y),some (.v (.int (k:Nat))),some (.v (.int C)),some (.v (.int L)),some (.v (.lst (bs.map aS))),some (.own (p.map D.int)),some (.v (.lst (G.map D.bl))),some (.v (.lst (sp.map D.int))),Q,S,N,some (.own (r.map az)),QO]/\kA k r/\(r.length:Int)<=C/\p.length=k/\(∀g∈p,g.natAbs<=2)/\Pl (m+400) Y:=λo' h=>⟨rs,gs,o',none,rfl,hR,by omega,QN,hg,h⟩;refine⟨⟨_,_,rfl⟩,_,rfl,rfl,_,_,2,_,rfl,P6,by omega,by decide,cK (by decide),λx o4 x0 x1 T=>?_⟩;rfl';refine⟨λc=>⟨λc2=>?_,λc2=>⟨ff,λ_=>stay o4 (T.mono (by omega))⟩⟩,λc=>⟨ff,λ_=>stay o4 (T.mono (by omega))⟩⟩
  have c2:1<k:=by have:=dP c2;omega
  have P4:∀j:Nat,j<k->∀z:Int,z=(j:Int)->cE (G.map D.bl) z=some (.bl (G.getD j false)):=λj hj z e=>cR (i:=j) (bZ (by omega)) e;refine⟨_,P4 (k-1) (by omega) _ (by omega),λc3=>⟨_,P4 (k-2) (by omega) _ (by omega),λc4=>?_,λc4=>stay o4 (T.mono (by omega))⟩,λc3=>⟨ff,λ_=>stay o4 (T.mono (by omega))⟩⟩;refine⟨⟨by omega,by omega,hG (by show 1*((k:Int)-2).toNat<=1000;omega)⟩,(List.replicate (k-2) 0).map D.int,by rw[show ((k:Int)-2).toNat=k-2 by omega];exact qy (k-2) 0,?_⟩;refine⟨⟨_,_,rfl⟩,_,rfl,rfl,_,_,3,_,rfl,T,by omega,by decide,cK (by decide),λy o5 y0 y1 Qz=>?_⟩;rfl';refine⟨⟨_,_,rfl⟩,_,rfl,rfl,_,_,3,_,rfl,Qz,by omega,by decide,cK (by decide),λz o6 z0 z1 R0=>?_⟩;rfl'
  have P1:((List.replicate (k-2) 0++[-1-y,-1-z]):List Int).length=k:=by rw[JW,Kg];show k-2+2=k;omega
  have VQ:∀x∈(List.replicate (k-2) 0++[-1-y,-1-z]:List Int),x.natAbs<=3:=λx u=>by
   rcases Ks.mp u with u|u
   ·rw[Lv u];decide
   ·simp only[Kd,LD,N0]at u;rcases u with rfl|rfl<;>omega
  refine⟨hG (by rw[JT,Kg];show _+2<=1000;omega),((List.replicate (k-2) 0++[-1-y,-1-z]):List Int).map D.int,by rw[Lc];rfl,?_⟩;generalize (List.replicate (k-2) 0++[-1-y,-1-z]:List Int)=es at *;have Rc:∀x∈es,bN x:=λx u=>fw (m:=10) (by have:=VQ x u;omega) (by decide);have VP:∀x∈sp,bN x:=λx u=>fw (m:=10) (by have:=O x u;omega) (by decide);have SD:=lx VQ O
  have hd9:(aB es sp).natAbs<=300:=by have:es.length*(3*10)<=8*(3*10):=LK _ (by omega);omega
  refine⟨es,sp,rfl,by omega,Rc,VP,trivial,?_⟩;refine⟨⟨_,_,rfl⟩,_,rfl,rfl,_,_,2,_,rfl,R0,by omega,by decide,cK (by decide),λv o7 v0 v1 TM=>?_⟩;rfl';refine⟨by rw[JT];exact bq (by omega),_,gF az rs (es,aB es sp-v),?_⟩;rfl';refine⟨⟨_,_,rfl⟩,_,rfl,rfl,_,_,2,_,rfl,TM,by omega,by decide,cK (by decide),λg1 o8 g0 g2 hp8=>?_⟩;rfl';refine⟨k-1,by rw[show (k:Int)-1=((k-1:Nat):Int)by omega];exact e7 (by rw[JT,QN];omega),_,(LJ ..).symm,?_⟩;rfl';refine⟨⟨_,_,rfl⟩,_,rfl,rfl,_,_,2,_,rfl,hp8,by omega,by decide,cK (by decide),λg3 o9 g4 g5 hp9=>?_⟩;rfl';refine⟨k-2,by rw[show (k:Int)-2=((k-2:Nat):Int)by omega];exact e7 (by rw[JT,JX,QN];omega),_,(LJ ..).symm,?_⟩;rfl';exact⟨rs++[(es,aB es sp-v)],_,o9,_,rfl,fE hR ⟨P1,VQ,by show (aB es sp-v).natAbs<=400;omega⟩,by rw[JW,KA];omega,by rw[JX,JX,QN],rg (rg hg (by omega)) (by omega),hp9.mono (by omega)⟩
 rintro ρ ⟨r,p,o',QO,rfl,r1,r2,r3,r4,r5⟩;exact⟨_,rfl,fin r p o' r1 r2 r3 r4 r5⟩
def CB{m:Int}:∀{ns:List Int},(∀x∈ns,m∣x)->m∣bw ns:=by
 have a:∀(ns:List Int)(d:Int),m∣d->(∀x∈ns,m∣x)->m∣ns.foldl (λd x=>(Int.gcd x d:Int)) d:=by
  intro ns
  induction ns with
  |nil=>intro d hd _;exact hd
  |cons x r g=>
   intro d hd c;exact g _ (Int.dvd_coe_gcd (c x J2) hd) λy e=>c y (J1 _ e)
 intro ns h;exact a ns 0 (Int.dvd_zero m) h
def y6{l:List Int}(h:0<bw l):bw (l.map (·/bw l))=1:=by
 generalize hd:bw l=d at h
 have j:d*bw (l.map (·/d))∣d:=by
  conv=>rhs;rw[←hd]
  refine CB λx a=>?_
  have c:d∣x:=by rw[←hd];exact ot l x a
  have g:=ot (l.map (·/d)) (x/d) (Kf.mpr ⟨x,a,rfl⟩);have:=Int.mul_dvd_mul_left d g;rw[Int.mul_ediv_cancel' c]at this;exact this
 have u:=pZ (l.map (·/d));generalize bw (l.map (·/d))=e at *;obtain⟨k,r⟩:=j
 have o:d*(e*k)=d*1:=by rw[←Int.mul_assoc,←r,Int.mul_one]
 have p:e*k=1:=Int.eq_of_mul_eq_mul_left (by omega) o;exact Int.eq_one_of_dvd_one u ⟨k,p.symm⟩
def mu(s:Led):Nat:=64*s.st.length+2*s.rs.length+s.rs.countP ed
structure Wy(n:Nat)(s:Led):Prop where
 n8:n<=8
 bl:s.bs.length=n
 gl:s.gl.length=n
 ll:s.lm.length=n
 ml:s.mm.length=n
 sl:∀u∈s.st,u<n
 so:s.st.Pairwise (·<·)
 rl:s.rs.length<=30
 rm:s.rm.length=s.rs.length
 rr:∀r∈s.rs,r.1.length=n/\(∀x∈r.1,x.natAbs<2^64)/\r.2.natAbs<=2^(200+65*(n-s.st.length))
 bb:∀b∈s.bs,b.1.natAbs<=2^(200+65*(n-s.st.length))/\∀m,b.2=some m->m.natAbs<=2^(200+65*(n-s.st.length))
 gg:∀x∈s.gl,x.natAbs<2^64
 ln:s.ln.length+mu s<=602
 gs:s.gs.length+s.st.length<=n
 gn:s.gn.length+s.st.length=n
 n1:∀d∈s.rm,NoL d
 n2:∀d∈s.mm,NoL d
 n3:∀d∈s.lm,NoL d
 n4:∀d∈s.ln,NoL d
 z:∀r∈s.rs,∀u,u<n->u∉s.st->r.1.getD u 0=0
 gr:∀g∈s.gn,g.1<n/\g.1∉s.st/\g.2.1.natAbs<=2^720/\g.2.2.length<=30/\∀r∈g.2.2,r.1.length=n/\0<r.1.getD g.1 0/\(∀x∈r.1,x.natAbs<2^64)/\r.2.natAbs<=2^720
def Wy.nd{n:Nat}{s:Led}(h:Wy n s):s.st.Nodup:=h.so.imp λh e=>by omega
def Wy.sn{n:Nat}{s:Led}(h:Wy n s):s.st.length<=n:=by have:=h.gn;omega
def ly{n k x:Nat}(a:n<=8)(h:x<=2^(200+65*(n-k))):x<=2^720:=Kl h (Lb (by decide) (by omega))
def wc{x:Int}(h:x.natAbs<=2^720):bN x:=LV h (Ly (by decide) (by decide))
def Wy.led{n:Nat}{s:Led}(h:Wy n s):LedP n s:=by
 have j:=h.n8;have v:=h.ln;have y:=h.sn;refine⟨h.n8,h.bl,h.gl,h.ll,h.ml,h.sl,h.nd,h.rl,h.rm,λr p=>?_,λb l=>?_,λx g=>?_,by omega,by have:=h.gs;omega,by have:=h.gn;omega,h.n1,h.n2,h.n3,h.n4⟩
 ·obtain⟨c,a,u⟩:=h.rr r p;refine⟨c,λx g=>M4 (a x g) (Ly (by decide) (by decide)),pZ _,?_⟩;have:=Ds a (by decide)
  have e:((2^64:Nat):Int)<2^9000:=by lia
  omega
 ·obtain⟨c,a⟩:=h.bb b l;exact⟨wc (ly j c),λm o=>wc (ly j (a m o))⟩
 ·exact M4 (h.gg x g) (Ly (by decide) (by decide))
def jF{a:Type}{xs:List a}{i:Nat}{y x:a}(h:x∈xs.set i y):x∈xs\/x=y:=Mv h
def wg{a:Type}(c:a->Bool)(xs:List a)(p:Nat):(xs.eraseIdx p).countP c<=xs.countP c:=(List.eraseIdx_sublist xs p).countP_le
def Wy.drop{n:Nat}{s:Led}(h:Wy n s){p:Nat}(g:p<s.rs.length):Wy n (cg s p)/\mu (cg s p)<mu s:=by
 have c:∀x∈s.rs.eraseIdx p,x∈s.rs:=λx j=>MF j;have l:(s.rs.eraseIdx p).length=s.rs.length-1:=Lq g;have o:(s.rm.eraseIdx p).length=s.rm.length-1:=Lq (by rwa[h.rm])
 have e:mu (cg s p)<mu s:=by have:=wg ed s.rs p;unfold mu cg;simp only;omega
 have:=h.ln;have:=h.rm;have:=h.rl;exact⟨⟨h.n8,h.bl,h.gl,h.ll,h.ml,h.sl,h.so,by show (s.rs.eraseIdx p).length<=_;omega,by show (s.rm.eraseIdx p).length=(s.rs.eraseIdx p).length;omega,λr a=>h.rr r (c r a),h.bb,h.gg,by show s.ln.length+_<=_;omega,h.gs,h.gn,λd hd=>h.n1 d (MF hd),h.n2,h.n3,h.n4,λr a=>h.z r (c r a),h.gr⟩,e⟩
def se{a d:Int}(hd:0<d):(fi a d).natAbs<=a.natAbs:=by
 unfold fi;have c:=Nw (-a) d;omega
def Wy.bnd{n:Nat}{s:Led}(h:Wy n s)(g:s.ln.length+mu s<=601){u:Nat}{b:Bd}{d:D}{lm mm:List D}(e:b.1.natAbs<=2^(200+65*(n-s.st.length))/\∀m,b.2=some m->m.natAbs<=2^(200+65*(n-s.st.length)))(hd:NoL d)(j:lm.length=n)(l:mm.length=n)(o:∀d∈lm,NoL d)(p:∀d∈mm,NoL d):Wy n { s with bs:=s.bs.set u b,ln:=s.ln++[d],lm:=lm,mm:=mm }/\mu { s with bs:=s.bs.set u b,ln:=s.ln++[d],lm:=lm,mm:=mm }=mu s:=by
 have c:mu { s with bs:=s.bs.set u b,ln:=s.ln++[d],lm:=lm,mm:=mm }=mu s:=rfl;refine⟨⟨h.n8,by show (s.bs.set u b).length=n;rw[JX];exact h.bl,h.gl,j,l,h.sl,h.so,h.rl,h.rm,h.rr,λx a=>?_,h.gg,?_,h.gs,h.gn,h.n1,p,o,λx a=>?_,h.z,h.gr⟩,c⟩
 ·rcases jF a with a|rfl
  ·exact h.bb x a
  ·exact e
 ·rw[c];show (s.ln++[d]).length+_<=_;rw[JW,KA];omega
 ·rcases Ks.mp a with a|a
  ·exact h.n4 x a
  ·rwa[J5.mp a]
def Wy.lowU{n:Nat}{s:Led}(h:Wy n s){u:Nat}(a:u<n):(ax s.bs u).1.natAbs<=2^(200+65*(n-s.st.length))/\∀m,(ax s.bs u).2=some m->m.natAbs<=2^(200+65*(n-s.st.length)):=h.bb _ (c8 (by rwa[h.bl]))
def sP{a:D}{d:Int}(h:NoL a):NoL (fe (gI a) d):=mT (kD h)
def rh{ds:List D}{i:Nat}{d:D}(h:∀d∈ds,NoL d)(hd:NoL d):∀x∈ds.set i d,NoL x:=λx a=>by
 rcases jF a with a|rfl
 ·exact h x a
 ·exact hd
def Wy.tb{n:Nat}{s:Led}(h:Wy n s){p u:Nat}{r:aw}(A:s.rs[p]?=some r)(E:u<n)(F:r.1.getD u 0≠0):Wy n (kZ s p u r)/\mu (kZ s p u r)<mu s:=by
 have z:=aE A;obtain⟨l,j⟩:=h.drop z
 have y:mu (cg s p)+2<=mu s:=by
  have:=wg ed s.rs p;have G:(s.rs.eraseIdx p).length=s.rs.length-1:=Lq z;unfold mu cg;simp only;omega
 have x:(cg s p).ln.length+mu (cg s p)<=601:=by have:=h.ln;show s.ln.length+_<=_;omega
 have B:(0:Int)<((r.1.getD u 0).natAbs:Int):=by omega
 have g:=se (a:=r.2) B;have o:=(h.rr r (J0 A)).2.2;have c:=h.lowU E;have v:NoL (s.rm.getD p .non):=h.n1 _ (c8 (by rwa[h.rm]));unfold kZ cm;split
 ·obtain⟨w,e⟩:=l.bnd (u:=u) (b:=(fi r.2 ((r.1.getD u 0).natAbs:Int),(ax s.bs u).2)) (d:=fe (gI (s.rm.getD p .non)) (r.1.getD u 0)) (lm:=s.lm.set u (gu s)) (mm:=s.mm) x ⟨Kl g o,c.2⟩ (sP v) (by rw[JX];exact h.ll) h.ml (rh h.n3 (.int _)) h.n2;exact⟨w,LV (Ny e) j⟩
 ·split
  ·obtain⟨w,e⟩:=l.bnd (u:=u) (b:=((ax s.bs u).1,some (-fi r.2 ((r.1.getD u 0).natAbs:Int)))) (d:=fe (gI (s.rm.getD p .non)) (-r.1.getD u 0)) (lm:=s.lm) (mm:=s.mm.set u (gu s)) x ⟨c.1,λm C=>by cases C;rw[NX];exact Kl g o⟩ (sP v) h.ll (by rw[JX];exact h.ml) h.n3 (rh h.n2 (.int _));exact⟨w,LV (Ny e) j⟩
  ·exact⟨l,j⟩
def tS{r:aw}(h:ed r=true):gh r=(r.1.map (·/bw r.1),fi r.2 (bw r.1))/\ed (gh r)=false/\1<bw r.1:=by
 have a:1<bw r.1:=K9 h
 have e:gh r=(r.1.map (·/bw r.1),fi r.2 (bw r.1)):=by unfold gh;rw[JZ (by omega)];rfl
 refine⟨e,?_,a⟩;rw[e];unfold ed;rw[show (r.1.map (·/bw r.1),fi r.2 (bw r.1)).1=r.1.map (·/bw r.1)from rfl,y6 (by omega)];rfl
def Dp{e:Type}{c:e->Bool}{xs:List e}{i:Nat}{x y:e}(h:xs[i]?=some x)(g:c x=true)(j:c y=false):(xs.set i y).countP c+1=xs.countP c:=by
 induction xs generalizing i with
 |nil=>cases h
 |cons a xs l=>
  cases i with
  |zero=>
   cases h;rw[MG,List.countP_cons_of_neg (by rw[j];decide),List.countP_cons_of_pos g]
  |succ i=>
   have:=l (i:=i) h;rw[Nm,List.countP_cons,List.countP_cons];omega
def Dc(f:Int->Int)(a:f 0=0)(xs:List Int)(u:Nat):(xs.map f).getD u 0=f (xs.getD u 0):=by
 rw[J6,J6,J7]
 cases xs[u]? with
 |none=>exact a.symm
 |some x=>rfl
def Wy.ev{n:Nat}{s:Led}(h:Wy n s){p:Nat}{r:aw}(g:s.rs[p]?=some r)(o:ed r=true):Wy n (jo s p r)/\mu (jo s p r)<mu s:=by
 have L:=aE g;obtain⟨l,B,I⟩:=tS o;have e:=J0 g;obtain⟨M,F,G⟩:=h.rr r e;have A:NoL (s.rm.getD p .non):=h.n1 _ (c8 (by rwa[h.rm]))
 have H:mu (jo s p r)+1=mu s:=by have:=Dp (c:=ed) (y:=gh r) g o B;unfold mu jo;simp only[JX];omega
 have:=h.ln;refine⟨⟨h.n8,h.bl,h.gl,h.ll,h.ml,h.sl,h.so,by show (s.rs.set p _).length<=_;rw[JX];exact h.rl,by show (s.rm.set p _).length=(s.rs.set p _).length;rw[JX,JX];exact h.rm,λx a=>?_,h.bb,h.gg,by show (s.ln++[_]).length+_<=_;rw[JW,KA];omega,h.gs,h.gn,rh h.n1 (.int _),h.n2,h.n3,λx a=>?_,λx a v u j=>?_,h.gr⟩,by omega⟩
 ·rcases jF a with a|rfl
  ·exact h.rr x a
  ·rw[l];refine⟨by show (r.1.map _).length=n;rwa[JT],λy C=>?_,Kl (se (by omega)) G⟩;obtain⟨z,E,rfl⟩:=Kf.mp C;have:=Nw z (bw r.1);have:=F z E;omega
 ·rcases Ks.mp a with a|a
  ·exact h.n4 x a
  ·rw[J5.mp a];exact sP A
 ·rcases jF a with a|rfl
  ·exact h.z x a v u j
  ·rw[l];show (r.1.map (·/bw r.1)).getD v 0=0;rw[Dc (·/bw r.1) (Int.zero_ediv _),h.z r e v u j,Int.zero_ediv]
def kW{xs:List Int}{k j:Nat}{v:Int}:(xs.set k v).getD j 0=if j=k/\k<xs.length then v else xs.getD j 0:=by
 rw[J6,J6,List.getElem?_set];by_cases c:k=j
 ·subst c;by_cases a:k<xs.length
  ·simp[a]
  ·simp[a]
 ·rw[JZ c,JZ (λh=>c h.1.symm)]
def eU(u:Nat)(v:Int)(r:aw):aw:=if r.1.getD u 0=0 then r else (r.1.set u 0,r.2-r.1.getD u 0*v)
def xb(s:Led)(u:Nat)(v:Int):∀i,i<=s.rs.length->(dU s u v i).rs=(s.rs.take i).map (eU u v)++s.rs.drop i
 |0,_=>rfl
 |i+1,j=>by
  have a:=xb s u v i (by omega);have I:=j9 s u v i
  have g:(dU s u v i).rs[i]?=some s.rs[i]:=by rw[I.at_ i (J3 _)];exact bK (by omega)
  have e:bS (dU s u v i).rs i=s.rs[i]:=fq g;rw[oo];generalize dU s u v i=t at *
  have h:((s.rs.take i).map (eU u v)).length=i:=by rw[JT,K8];omega
  have hd:s.rs.drop i=s.rs[i]::s.rs.drop (i+1):=Nv (by omega);rw[hX (bK (show i<s.rs.length by omega)),Lc];unfold jn;rw[e];split
  ·rename_i c;rw[a,hd,Kc];congr 1;show _=[eU u v s.rs[i]]++_;unfold eU;rw[J9 c];rfl
  ·rename_i c;show t.rs.set i _=_;rw[a,hd,Ml _ _ (by omega),h,Kw,MG,Kc];congr 1;show _=[eU u v s.rs[i]]++_;unfold eU;rw[JZ c];rfl
def v8(u:Nat)(v:Int)(t:Led):(b8 u v t).bs=t.bs/\(b8 u v t).rs=t.rs/\(b8 u v t).gl=t.gl/\(b8 u v t).st=t.st/\(b8 u v t).td=t.td/\(b8 u v t).ln=t.ln/\(b8 u v t).lm=t.lm/\(b8 u v t).mm=t.mm/\(b8 u v t).rm=t.rm/\(b8 u v t).gs.length<=t.gs.length+1/\(b8 u v t).ex=t.ex+t.gl.getD u 0*v/\(b8 u v t).gn=t.gn:=by
 unfold b8;split
 ·rename_i c;rw[c];exact⟨rfl,rfl,rfl,rfl,rfl,rfl,rfl,rfl,rfl,by omega,by omega,rfl⟩
 ·exact⟨rfl,rfl,rfl,rfl,rfl,rfl,rfl,rfl,rfl,by simp,rfl,rfl⟩
structure FixE(s:Led)(u:Nat)(v:Int)(t:Led):Prop where
 bs:t.bs=s.bs
 rs:t.rs=s.rs.map (eU u v)
 gl:t.gl=s.gl
 st:t.st=s.st.erase u
 td:t.td=s.td
 lm:t.lm=s.lm
 mm:t.mm=s.mm
 ml:t.rm.length=s.rm.length
 ll:t.ln.length<=s.ln.length+s.rs.length
 gs:t.gs.length<=s.gs.length+1
 ex:t.ex=s.ex+s.gl.getD u 0*v
 gn:t.gn=s.gn++[(u,v,[])]
 n1:(∀d∈s.rm,NoL d)->∀d∈t.rm,NoL d
def mZ(s:Led)(u:Nat)(v:Int):FixE s u v (gk s u v):=by
 have I:=j9 s u v s.rs.length;have g:=xb s u v s.rs.length (J3 _);rw[LF,List.drop_length,Kz]at g;unfold gk;generalize dU s u v s.rs.length=t at *;obtain⟨C,j,E,F,G,H,L,M,N⟩:=I.eq;obtain⟨l,p,r,x,y,z,A,B,e,o,a,c⟩:=v8 u v t;exact⟨l.trans C,p.trans g,r.trans j,KO (List.erase · u) (x.trans E),y.trans F,A.trans G,B.trans H,by show (b8 u v t).rm.length=_;rw[e];exact I.ml,by show (b8 u v t).ln.length<=_;rw[z];exact I.ll,by show (b8 u v t).gs.length<=_;rwa[←L],by show (b8 u v t).ex=_;rw[a,M,j],by show (b8 u v t).gn++_=_;rw[c,N],λh=>by show ∀d∈(b8 u v t).rm,NoL d;rw[e];exact I.nl h⟩
def yL{u:Nat}{v:Int}{r:aw}(w:Nat)(a:u<r.1.length):(eU u v r).1.getD w 0=if w=u then 0 else r.1.getD w 0:=by
 unfold eU;split
 ·rename_i c;split
  ·rename_i e;rwa[e]
  ·rfl
 ·show (r.1.set u 0).getD w 0=_;rw[kW];by_cases e:w=u
  ·rw[J9 ⟨e,a⟩,J9 e]
  ·rw[JZ (λh=>e h.1),JZ e]
def B6(u:Nat)(v:Int)(r:aw):(eU u v r).1.length=r.1.length:=by
 unfold eU;split
 ·rfl
 ·exact JX
def Ai{u:Nat}{v:Int}{r:aw}{x:Int}(h:x∈(eU u v r).1):x∈r.1\/x=0:=by
 unfold eU at h;split at h
 ·exact .inl h
 ·exact jF h
def jB{st:List Nat}{u v:Nat}(h:v∈st.erase u):v∈st:=List.mem_of_mem_erase h
def Wy.er{n:Nat}{s:Led}(h:Wy n s){u v:Nat}:v∈s.st.erase u↔v≠u/\v∈s.st:=by rw[List.Nodup.mem_erase_iff h.nd]
def uV{s:Led}{u:Nat}{v:Int}(n1:∀d∈s.rm,NoL d)(n2:∀d∈s.mm,NoL d)(n3:∀d∈s.lm,NoL d)(n4:∀d∈s.ln,NoL d)(a:s.rm.length=s.rs.length)(h:u<s.mm.length)(j:u<s.lm.length):∀i,i<=s.rs.length->∀d∈(dU s u v i).ln,NoL d
 |0,_=>n4
 |i+1,l=>by
  have c:=uV (v:=v) n1 n2 n3 n4 a h j i (by omega);have I:=j9 s u v i;rw[oo];generalize dU s u v i=t at *;obtain⟨o,p,r,x,e,g,y,z,A⟩:=I.eq;unfold jn;split
  ·exact c
  ·intro d hd;rcases Ks.mp hd with hd|hd
   ·exact c d hd
   ·rw[J5.mp hd];exact mT (.tup (bB (.tup (bB (I.nl n1 _ (c8 (by rw[I.ml,a];omega))) (bB (.int _) dq))) (bB (mD (by rwa[g]) (by rwa[e]) (by rwa[g]) (by rwa[e])) dq)))
def GV{n:Nat}{s:Led}(h:Wy n s){u:Nat}(a:u<n)(v:Int):∀d∈(gk s u v).ln,NoL d:=by
 have:=uV (v:=v) h.n1 h.n2 h.n3 h.n4 h.rm (by rwa[h.ml]) (by rwa[h.ll]) s.rs.length (J3 _);unfold gk;show ∀d∈(b8 u v (dU s u v s.rs.length)).ln,NoL d;rwa[(v8 u v _).2.2.2.2.2.1]
def Wy.fix{n:Nat}{s:Led}(h:Wy n s){u:Nat}{v:Int}(o:u∈s.st)(G:v.natAbs<=2^(200+65*(n-s.st.length))):Wy n (gk s u v)/\mu (gk s u v)<mu s:=by
 have E:=mZ s u v;have X:=GV h (h.sl u o) v;generalize gk s u v=t at *;have I:=h.sl u o
 have OS:t.st.length=s.st.length-1:=by rw[E.st];exact NK o
 have VR:0<s.st.length:=NT o
 have M:t.rs.length=s.rs.length:=by rw[E.rs,JT]
 have Rq:=h.sn;have B:=h.n8;have OK:=h.rl;have F:t.rs.countP ed<=t.rs.length:=NZ
 have N:200+65*(n-t.st.length)=65+(200+65*(n-s.st.length)):=by omega
 have z:∀{x:Nat},x<=2^(200+65*(n-s.st.length))->x<=2^(200+65*(n-t.st.length)):=λl=>Kl l (Lb (by decide) (by omega));have Y:=h.ln
 have R1:mu t+s.rs.length<mu s:=by unfold mu;omega
 have he:t.ln.length<=s.ln.length+s.rs.length:=E.ll;refine⟨⟨B,by rw[E.bs];exact h.bl,by rw[E.gl];exact h.gl,by rw[E.lm];exact h.ll,by rw[E.mm];exact h.ml,λw p=>h.sl w (by rw[E.st]at p;exact jB p),by rw[E.st];exact h.so.sublist List.erase_sublist,by omega,by rw[E.ml,M];exact h.rm,λr c=>?_,λb C=>?_,by rw[E.gl];exact h.gg,by omega,by have:=h.gs;have:=E.gs;omega,?_,E.n1 h.n1,by rw[E.mm];exact h.n2,by rw[E.lm];exact h.n3,X,λr c w p L=>?_,λg j=>?_⟩,by omega⟩
 ·rw[E.rs]at c;obtain⟨x,l,rfl⟩:=Kf.mp c;obtain⟨x1,H,x3⟩:=h.rr x l;refine⟨by rwa[B6],λy A=>?_,?_⟩
  ·rcases Ai A with A|rfl
   ·exact H y A
   ·decide
  ·have Z:(x.1.getD u 0).natAbs<2^64:=H _ (c8 (by omega));unfold eU;split
   ·exact z x3
   ·show (x.2-x.1.getD u 0*v).natAbs<=_;rw[N,Nat.pow_add]
    have h1:(x.1.getD u 0*v).natAbs<=2^64*2^(200+65*(n-s.st.length)):=by rw[Nc];exact MH (by omega) G
    have h2:(x.2-x.1.getD u 0*v).natAbs<=x.2.natAbs+(x.1.getD u 0*v).natAbs:=by omega
    have U:2^65=2^64+2^64:=by decide
    rw[U,NS];have h5:2^(200+65*(n-s.st.length))<=2^64*2^(200+65*(n-s.st.length)):=Nat.le_mul_of_pos_left _ (by decide);omega
 ·rw[E.bs]at C;obtain⟨O,Q⟩:=h.bb b C;exact⟨z O,λm a=>z (Q m a)⟩
 ·rw[E.gn,JW,KA];have:=h.gn;omega
 ·rw[E.rs]at c;obtain⟨x,l,rfl⟩:=Kf.mp c;rw[yL w (by rwa[(h.rr x l).1])];by_cases e:w=u
  ·rw[J9 e]
  ·rw[JZ e];exact h.z x l w p λa=>L (by rw[E.st];exact h.er.mpr ⟨e,a⟩)
 ·rw[E.gn]at j;rcases Ks.mp j with j|j
  ·obtain⟨R,S,T⟩:=h.gr g j;exact⟨R,λa=>S (by rw[E.st]at a;exact jB a),T⟩
  ·rw[J5.mp j];refine⟨I,λa=>?_,ly B G,by show 0<=30;decide,λr c=>by cases c⟩;rw[E.st]at a;exact (h.er.mp a).1 rfl
def xl{e:Type}{ys:List e}:∀{ps:List Nat}{xs:List e},ps.Pairwise (λx y=>y<x)->(∀x∈ps,x<xs.length)->ps.foldl List.eraseIdx (xs++ys)=ps.foldl List.eraseIdx xs++ys
 | [],xs,_,_=>rfl
 |p::ps,xs,a,g=>by
  rw[ME]at a;have c:=g p J2;show ps.foldl List.eraseIdx ((xs++ys).eraseIdx p)=ps.foldl List.eraseIdx (xs.eraseIdx p)++ys;rw[List.eraseIdx_append_of_lt_length c];refine xl a.2 λx h=>?_;rw[Lq c];have:=a.1 x h;omega
def sR{g:Type}{P:List g->Prop}(o:P [])(j:∀xs x,P xs->P (xs++[x])):∀xs,P xs:=λxs=>by
 have c:∀n (xs:List g),xs.length=n->P xs:=by
  intro n
  induction n with
  |zero=>intro xs a;rwa[Lk.mp a]
  |succ n l=>
   intro xs a
   have h:xs≠[]:=λe=>by rw[e]at a;cases a
   rw[←Nd h];exact j _ _ (l _ (by rw[List.length_dropLast];omega))
 exact c _ xs rfl
def AC{a:Type}(c:a->Bool)(d:a):∀xs:List a,((List.range xs.length).filter λi=>c (xs.getD i d)).reverse.foldl List.eraseIdx xs=xs.filter λx=>!c x:=by
 refine sR rfl λxs x g=>?_
 have h:(List.range (xs++[x]).length).filter (λi=>c ((xs++[x]).getD i d))=(List.range xs.length).filter (λi=>c (xs.getD i d))++if c x then [xs.length] else []:=by
  rw[JW,KA,Me,MD];congr 1
  ·refine List.filter_congr λi j=>?_;rw[J6,J6,JV (Kt.mp j)]
  ·have:(xs++[x]).getD xs.length d=x:=by rw[J6,JU (J3 _),Kw];rfl
   cases o:c x with
   |true=>rw[MJ (by rwa[this])];rfl
   |false=>rw[MK (by rw[this,o];decide)];rfl
 rw[h,MD]
 have hd:((List.range xs.length).filter λi=>c (xs.getD i d)).reverse.Pairwise (λx y=>y<x):=by rw[NW];exact Mh.filter _
 have l:∀y∈((List.range xs.length).filter λi=>c (xs.getD i d)).reverse,y<xs.length:=λy p=>Kt.mp (KL.mp (Ma.mp p)).1
 cases e:c x with
 |true=>
  rw[J9 rfl,List.reverse_append];show List.foldl List.eraseIdx ((xs++[x]).eraseIdx xs.length) ((List.range xs.length).filter λi=>c (xs.getD i d)).reverse=_;rw[List.eraseIdx_append_of_length_le (J3 _),Kw,show [x].eraseIdx 0=[]from rfl,Kz,g];simp[e]
 |false=>
  rw[JZ (by decide),Kz,xl hd l,g];simp[e]
def uH:∀(ps:List Nat)(t:Led),ps.foldl cg t={ t with rs:=ps.foldl List.eraseIdx t.rs,rm:=ps.foldl List.eraseIdx t.rm }
 | [],t=>rfl
 |p::ps,t=>by show ps.foldl cg (cg t p)=_;rw[uH ps];rfl
def xo{a:Type}:∀(ps:List Nat){xs:List a}{x:a},x∈ps.foldl List.eraseIdx xs->x∈xs
 | [],_,_,h=>h
 |p::ps,xs,x,h=>MF (xo ps (xs:=xs.eraseIdx p) h)
def z0(u:Nat)(r:aw):Bool:=r.1.getD u 0==0
def uC(s:Led)(u:Nat):hZ s u={ s with st:=s.st.erase u,gn:=s.gn++[(u,(ax s.bs u).1,(bO s u).map (bS s.rs))],rs:=s.rs.filter (z0 u),rm:=(bO s u).reverse.foldl List.eraseIdx s.rm }:=by
 unfold hZ;rw[uH];have e:=AC (λr:aw=>decide (r.1.getD u 0≠0)) ([],0) s.rs
 have a:s.rs.filter (λr=>!decide (r.1.getD u 0≠0))=s.rs.filter (z0 u):=by
  refine List.filter_congr λr _=>?_;unfold z0;generalize r.1.getD u 0=e;by_cases c:e=0
  ·simp[c]
  ·simp[c]
 rw[a]at e;have g:(bO s u).reverse.foldl List.eraseIdx (gx s u (ax s.bs u).1 ((bO s u).map (bS s.rs))).rs=s.rs.filter (z0 u):=e;rw[g];rfl
def hgP_rows{s:Led}{u:Nat}{r:aw}:r∈(bO s u).map (bS s.rs)↔r∈s.rs/\r.1.getD u 0≠0:=by
 constructor
 ·intro h;obtain⟨i,a,rfl⟩:=Kf.mp h;obtain⟨c,g⟩:=KL.mp a;exact⟨c8 (Kt.mp c),K9 g⟩
 ·rintro⟨c,g⟩;obtain⟨i,a⟩:=KY c;have e:bS s.rs i=r:=fq a;exact Kf.mpr ⟨i,KL.mpr ⟨Kt.mpr (aE a),KZ (by rwa[e])⟩,e⟩
def Wy.hang{n:Nat}{s:Led}(h:Wy n s){u:Nat}(A:u∈s.st)(o:iK s.rs u=false):Wy n (hZ s u)/\mu (hZ s u)<mu s:=by
 have F:=h.sl u A;have a:=qh (gx s u (ax s.bs u).1 ((bO s u).map (bS s.rs))) _ (uL s u) (λx C=>qc (Ma.mp C)) h.rm;rw[←show hZ s u=(bO s u).reverse.foldl cg (gx s u (ax s.bs u).1 ((bO s u).map (bS s.rs)))from rfl]at a;have E:=uC s u;generalize hZ s u=t at *
 have z:t.rm.length=t.rs.length:=by rw[a.1,a.2]
 subst E;have OS:(s.st.erase u).length=s.st.length-1:=NK A;have VR:0<s.st.length:=NT A;have Rq:=h.sn;have y:=h.n8;have H:=h.rl;have Z:=h.ln;have X:=h.gn;have Y:=h.gs;have l1:(s.rs.filter (z0 u)).length<=s.rs.length:=Lh _ _;have l2:(s.rs.filter (z0 u)).countP ed<=s.rs.countP ed:=List.filter_sublist.countP_le;have v:∀{x:Nat},x<=2^(200+65*(n-s.st.length))->x<=2^(200+65*(n-(s.st.erase u).length)):=λC=>Kl C (Lb (by decide) (by omega))
 have M:mu { s with st:=s.st.erase u,gn:=s.gn++[(u,(ax s.bs u).1,(bO s u).map (bS s.rs))],rs:=s.rs.filter (z0 u),rm:=(bO s u).reverse.foldl List.eraseIdx s.rm }<mu s:=by unfold mu;simp only;omega
 have hps:(bO s u).length<=s.rs.length:=by
  have:=Lh (λi=>decide ((bS s.rs i).1.getD u 0≠0)) (List.range s.rs.length)
  rwa [Km]at this
 refine⟨⟨y,h.bl,h.gl,h.ll,h.ml,λw B=>h.sl w (jB B),h.so.sublist List.erase_sublist,Kl l1 H,z,λr l=>?_,λb o=>?_,h.gg,by show s.ln.length+_<=_;omega,by show s.gs.length+(s.st.erase u).length<=n;omega,?_,λd hd=>h.n1 d (xo _ hd),h.n2,h.n3,h.n4,λr l w B O=>?_,λg j=>?_⟩,M⟩
 ·obtain⟨p,G,r3⟩:=h.rr r (KL.mp l).1;exact⟨p,G,v r3⟩
 ·obtain⟨Q,R⟩:=h.bb b o;exact⟨v Q,λm c=>v (R m c)⟩
 ·show (s.gn++[_]).length+(s.st.erase u).length=n;rw[JW,KA];omega
 ·obtain⟨I,N⟩:=KL.mp l;by_cases e:w=u
  ·rw[e];exact eq_of_beq N
  ·exact h.z r I w B λc=>O (h.er.mpr ⟨e,c⟩)
 ·rcases Ks.mp j with j|j
  ·obtain⟨S,T,U⟩:=h.gr g j;exact⟨S,λc=>T (jB c),U⟩
  ·rw[J5.mp j];refine⟨F,λc=>(h.er.mp c).1 rfl,ly y (h.lowU F).1,by show ((bO s u).map _).length<=30;rw[JT];omega,λr l=>?_⟩;obtain⟨p,G⟩:=hgP_rows.mp l;obtain⟨q1,q2,q3⟩:=h.rr r p;refine⟨q1,?_,q2,ly y q3⟩
   have hnb:¬ r.1.getD u 0<0:=λL=>by have:iK s.rs u=true:=MS.mpr ⟨r,p,KZ L⟩;rw[this]at o;cases o
   show 0<r.1.getD u 0;omega
def w4{bs:List Bd}{rs:List aw}{gl:List Int}{u:Nat}(h:fS bs rs gl u=true):(ax bs u).2=none/\gl.getD u 0=0/\iK rs u=false:=by unfold fS at h;simp only[LQ,Option.isNone_iff_eq_none,Mn,Bool.not_eq_true']at h;exact⟨h.1.1,h.1.2,h.2⟩
def tO{r:aw}{u:Nat}(h:(dF r.1)[0]?=some u):u<r.1.length/\r.1.getD u 0≠0:=by obtain⟨a,c⟩:=KL.mp (J0 h);exact⟨Kt.mp a,K9 c⟩
def Wy.row{n:Nat}{s t:Led}(h:Wy n s)(o:RowSt s true t):Wy n t/\mu t<mu s:=by
 cases o with
 |idle j=>
  obtain⟨r,a,_⟩:=gW j;exact h.drop (aE a)
 |single _ v a u=>
  obtain⟨c,l⟩:=tO u;exact h.tb a (by rw[(h.rr _ (J0 a)).1]at c;exact c) l
 |uneven _ _ c a=>
  obtain⟨x,e,p⟩:=gW c;rw[a]at e;cases e;exact h.ev a p
 |doubled _ _ _ g=>
  have:=aE g.ib;have:=g.ji;exact h.drop (by split<;>omega)
def Wy.unk{n:Nat}{s t:Led}(h:Wy n s)(c:UnkSt s true t):Wy n t/\mu t<mu s:=by
 cases c with
 |fixed a=>exact h.fix (Ko a) (h.lowU (h.sl _ (Ko a))).1
 |sink _ a=>exact h.fix (Ko a) (h.lowU (h.sl _ (Ko a))).1
 |rise _ _ a e=>exact h.fix (Ko a) ((h.lowU (h.sl _ (Ko a))).2 _ e)
 |hang _ _ _ a=>exact h.hang (Ko a) (w4 (NR a)).2.2
def eD(x y:Int)(xs ys:List Int):aB (x::xs) (y::ys)=x*y+aB xs ys:=by simp[aB]
def kJ:∀{xs ys:List Int}{k:Nat}(v:Int),xs.length=ys.length->k<ys.length->aB xs (ys.set k v)=aB xs ys+xs.getD k 0*(v-ys.getD k 0)
 | [],[],k,v,_,h=>absurd h (K3 _)
 |x::xs,y::ys,0,v,_,_=>by
  rw[MG,eD,eD];show x*v+_=x*y+_+x*(v-y);rw[Int.mul_sub];omega
 |x::xs,y::ys,k+1,v,c,a=>by
  rw[Nm,eD,eD,kJ (xs:=xs) (ys:=ys) (k:=k) v (by simpa using c) (by simpa using a)];show x*y+(aB xs ys+xs.getD k 0*(v-ys.getD k 0))=x*y+aB xs ys+xs.getD k 0*(v-ys.getD k 0);omega
def nJ:∀{xs ys:List Int}{k:Nat}(v:Int),xs.length=ys.length->k<ys.length->aB (xs.set k v) ys=aB xs ys+(v-xs.getD k 0)*ys.getD k 0
 | [],[],k,v,_,h=>absurd h (K3 _)
 |x::xs,y::ys,0,v,_,_=>by
  rw[MG,eD,eD];show v*y+_=x*y+_+(v-x)*y;rw[Int.sub_mul];omega
 |x::xs,y::ys,k+1,v,c,a=>by
  rw[Nm,eD,eD,nJ (xs:=xs) (ys:=ys) (k:=k) v (by simpa using c) (by simpa using a)];show x*y+(aB xs ys+(v-xs.getD k 0)*ys.getD k 0)=x*y+aB xs ys+(v-xs.getD k 0)*ys.getD k 0;omega
def sH:∀{as bs xs ys:List Int},as.length=bs.length->xs.length=as.length->ys.length=bs.length->(∀i,i<as.length->as.getD i 0*xs.getD i 0<=bs.getD i 0*ys.getD i 0)->aB as xs<=aB bs ys
 | [],[],[],[],_,_,_,_=>LG _
 |a::as,b::bs,x::xs,y::ys,c,e,g,h=>by
  rw[eD,eD];have l:a*x<=b*y:=h 0 (by simp);have o:=sH (as:=as) (bs:=bs) (xs:=xs) (ys:=ys) (by simpa using c) (by simpa using e) (by simpa using g) λi j=>h (i+1) (by simpa using j);omega
def uW{xs ys:List Int}(e:xs.length=ys.length)(h:∀i,i<xs.length->0<=xs.getD i 0*ys.getD i 0):0<=aB xs ys:=by
 have g:∀(a:List Int),aB (List.replicate a.length 0) a=0:=by
  intro a
  induction a with
  |nil=>rfl
  |cons z a j=>rw[Kb,K7,eD,j,LX];rfl
 have:=sH (as:=List.replicate ys.length 0) (bs:=xs) (xs:=ys) (ys:=ys) (by rw[Kg];exact e.symm) (by rw[Kg]) e.symm λi c=>by
  rw[Kg]at c;rw[J6,LL c];show 0*_<=_;rw[LX];exact h i (by omega)
 rw[g]at this;exact this
structure RayAt(n:Nat)(s:Led)(r:List Int):Prop where
 l:r.length=n
 z:∀u,u<n->u∉s.st->r.getD u 0=0
 b:∀u∈s.st,0<=r.getD u 0/\((ax s.bs u).2.isSome=true->r.getD u 0=0)
 m:∀q∈s.rs,0<=aB q.1 r
def FB{bs:List Bd}{es:List Int}{t:Int}(h:gw bs es=some t):∀(i:Nat)(b:Bd)(e:Int),bs[i]?=some b->es[i]?=some e->0<e->b.2.isSome=true:=λi b e g j l=>by
 unfold gw at h;split at h
 ·rename_i a;unfold iu at a;rw[Ln]at a;have c:id (gO b e)=true:=a (gO b e) (J0 (i:=i) (by rw[Mi,g,j]));unfold gO id at c
  cases o:b.2 with
  |some m=>rfl
  |none=>rw[o]at c;simp[l]at c
 ·cases h
def FX{bs:List Bd}{es:List Int}{t:Int}(h:js bs es=some t){n:Nat}(e:bs.length=n)(g:es.length=n):∀i,i<n->es.getD i 0<0->(ax bs i).2.isSome=true:=λi j c=>by
 unfold js at h
 cases a:gw bs (es.map (- ·))with
 |none=>rw[a]at h;cases h
 |some t'=>
  refine FB a i (ax bs i) (-(es.getD i 0)) (bZ (by omega)) ?_ (by omega);rw[J7,bZ (d:=0) (show i<es.length by omega)];rfl
def DO{n:Nat}{s:Led}{r:List Int}(h:Wy n s){q:aw}(v:q.1.length=n)(x:∀u,u<n->u∉s.st->q.1.getD u 0=0)(a:eW s.bs q=true)(y:r.length=n)(p:∀u∈s.st,0<=r.getD u 0/\((ax s.bs u).2.isSome=true->r.getD u 0=0)):0<=aB q.1 r:=by
 unfold eW at a
 cases j:js s.bs q.1 with
 |none=>rw[j]at a;cases a
 |some t=>
  refine uW (by omega) λi a=>?_
  have g:i<n:=by omega
  by_cases c:i∈s.st
  ·obtain⟨l,o⟩:=p i c;by_cases e:q.1.getD i 0<0
   ·rw[o (FX j h.bl v i g e),Na];exact LG _
   ·exact Nf (by omega) l
  ·rw[x i g c,LX];exact LG _
def rG{e:Type}{xs:List e}{p:Nat}{x:e}(h:x∈xs):x∈xs.eraseIdx p\/xs[p]?=some x:=by
 obtain⟨i,a⟩:=KY h;by_cases c:i=p
 ·exact .inr (c▸a)
 ·refine .inl ?_;rw[Mf];exact⟨i,c,a⟩
def Jf{a:Type}{xs:List a}{p:Nat}{x y:a}(h:x∈xs)(j:p<xs.length):x∈xs.set p y\/xs[p]?=some x:=by
 obtain⟨i,g⟩:=KY h;by_cases c:i=p
 ·exact .inr (c▸g)
 ·exact .inl (J0 (i:=i) (by rwa[Kh (λe=>c e.symm)]))
def yI{a:Type}{xs:List a}{p:Nat}{y:a}(c:p<xs.length):y∈xs.set p y:=J0 (i:=p) (Kj c)
def DA{n u:Nat}{es r:List Int}(h:(dF es).length=1)(j:(dF es)[0]?=some u)(M:es.length=n)(N:r.length=n):aB es r=es.getD u 0*r.getD u 0:=by
 have I:u<n:=by
  have:=(KL.mp (J0 j)).1;have:=Kt.mp this;omega
 have B:∀i,i<n->i≠u->es.getD i 0=0:=λi e z=>by
  refine La λG=>z ?_;have p:i∈dF es:=KL.mpr ⟨Kt.mpr (by omega),KZ G⟩
  cases v:dF es with
  |nil=>rw[v]at h;cases h
  |cons a l=>
   rw[v]at h j p;have g:l=[]:=Lk.mp (by simpa using h);subst g;have A:a=u:=Kv j;rw[←A];exact J5.mp p
 have C:aB (es.set u 0) r=0:=by
  have a1:∀i,i<(es.set u 0).length->(es.set u 0).getD i 0=0:=λi e=>by
   rw[kW];by_cases c:i=u
   ·rw[J9 ⟨c,by omega⟩]
   ·rw[JZ (λh=>c h.1)];exact B i (by rw[JX]at e;omega) c
  have g:(es.set u 0).length=r.length:=by rw[JX];omega
  have L:=uW g λi e=>by rw[a1 i e,LX];exact LG _
  have E:=sH (as:=es.set u 0) (bs:=es.set u 0) (xs:=r) (ys:=r.map (- ·)) rfl g.symm (by rw[JT];exact g.symm) λi e=>by rw[a1 i e,LX,LX];exact LG _
  have F:∀(xs ys:List Int),aB xs (ys.map (- ·)) =-aB xs ys:=by
   intro xs
   induction xs with
   |nil=>intro ys;simp[aB]
   |cons x xs H=>
    intro ys
    cases ys with
    |nil=>simp[aB]
    |cons y ys=>rw[Kn,eD,eD,H,Int.mul_neg];omega
  rw[F]at E;omega
 have o:=nJ (xs:=es) (ys:=r) (k:=u) 0 (by omega) (by omega);rw[C]at o;rw[Int.zero_sub,Int.neg_mul]at o;omega
def tI(s:Led)(p u:Nat)(r:aw):(cm s p u r).st=s.st/\(cm s p u r).gl=s.gl/\(cm s p u r).gn=s.gn/\(cm s p u r).ex=s.ex:=by
 unfold cm;split
 ·exact⟨rfl,rfl,rfl,rfl⟩
 ·split<;>exact⟨rfl,rfl,rfl,rfl⟩
def p6{bs:List Bd}{u v:Nat}{b:Bd}(a:u<bs.length):ax (bs.set u b) v=if v=u then b else ax bs v:=by
 unfold ax;rw[J6,J6];by_cases c:v=u
 ·subst c;rw[Kj a,J9 rfl];rfl
 ·rw[Kh (λe=>c e.symm),JZ c]
def ze{n:Nat}{s:Led}{p u:Nat}{r:aw}(G:s.bs.length=n)(H:u<n)(F:r.1.getD u 0≠0){x:Nat->Int}(a:∀v∈s.st,0<=x v/\((ax (cm s p u r).bs v).2.isSome=true->x v=0))(g:u∈s.st):(∀v∈s.st,0<=x v/\((ax s.bs v).2.isSome=true->x v=0))/\0<=r.1.getD u 0*x u:=by
 unfold cm at a;generalize fi r.2 ((r.1.getD u 0).natAbs:Int)=b at *;split at a
 ·rename_i h;have e:∀v∈s.st,0<=x v/\((ax (s.bs.set u (b,(ax s.bs u).2)) v).2.isSome=true->x v=0):=a;refine⟨λv l=>?_,Nf (N5 h.1) (e u g).1⟩;have:=e v l;rw[p6 (by omega)]at this;by_cases c:v=u
  ·rw[J9 c]at this;subst c;exact this
  ·rwa [JZ c]at this
 ·rename_i h;split at a
  ·rename_i o;have e:∀v∈s.st,0<=x v/\((ax (s.bs.set u ((ax s.bs u).1,some (-b))) v).2.isSome=true->x v=0):=a;have j:=e u g;rw[p6 (by omega),J9 rfl]at j;have y:x u=0:=j.2 rfl;refine⟨λv l=>?_,by rw[y,Na];exact LG _⟩;have:=e v l;rw[p6 (by omega)]at this;by_cases c:v=u
   ·subst c;exact⟨j.1,λ_=>y⟩
   ·rwa [JZ c]at this
  ·rename_i o;refine⟨a,?_⟩;obtain⟨A,B⟩:=a u g;by_cases c:0<r.1.getD u 0
   ·exact Nf (N5 c) A
   ·have z:r.1.getD u 0<0:=by omega
    have:(ax s.bs u).2.isSome=true:=La λC=>o ⟨z,λm E=>absurd (by rw[E];rfl) C⟩;rw[B this,Na];exact LG _
def yJ{n:Nat}{s:Led}(h:Wy n s){r:aw}(e:r∈s.rs){u:Nat}(g:u<n)(a:r.1.getD u 0≠0):u∈s.st:=La λc=>a (h.z r e u g c)
def RayAt.row{n:Nat}{s t:Led}{x:List Int}(h:Wy n s)(Z:RowSt s true t)(o:RayAt n t x):RayAt n s x:=by
 cases Z with
 | @idle p X=>
  obtain⟨r,A,E⟩:=gW X;refine⟨o.l,o.z,o.b,λq z=>?_⟩;rcases rG (p:=p) z with l|l
  ·exact o.m q l
  ·rw[A]at l;cases l;exact DO h (h.rr r z).1 (h.z r z) E o.l o.b
 | @single p u r _ Y A Q=>
  obtain⟨r',C,E⟩:=gW Y;rw[A]at C;cases C;have O:=J0 A;obtain⟨F,N⟩:=tO Q
  have M:u<n:=by rw[(h.rr r O).1]at F;exact F
  obtain⟨H,U⟩:=vf s p u r;obtain⟨I,e4,e5,e6⟩:=tI s p u r;have hb:∀v∈s.st,0<=x.getD v 0/\((ax (cm s p u r).bs v).2.isSome=true->x.getD v 0=0):=λv R=>o.b v (show v∈(cm s p u r).st by rwa[I]);obtain⟨T,b2⟩:=ze (x:=λv=>x.getD v 0) h.bl M N hb (yJ h O M N);refine⟨o.l,λv R UD=>o.z v R (show v∉(cm s p u r).st by rwa[I]),T,λq z=>?_⟩;rcases rG (p:=p) z with l|l
  ·exact o.m q (show q∈(cm s p u r).rs.eraseIdx p by rwa[H])
  ·rw[A]at l;cases l;rwa[DA (K9 E) Q (h.rr r z).1 o.l]
 | @uneven p r _ _ F A=>
  obtain⟨r',C,E⟩:=gW F;rw[A]at C;cases C;obtain⟨H,U,I⟩:=tS E;refine⟨o.l,o.z,o.b,λq z=>?_⟩;rcases Jf (y:=gh r) z (aE A)with l|l
  ·exact o.m q l
  ·rw[A]at l;cases l;have:=o.m (gh r) (yI (aE A));rw[H]at this;rw[uS (g:=bw r.1) (by omega) (ot r.1)];exact Nf (by omega) this
 | @doubled j i a b _ _ _ B=>
  refine⟨o.l,o.z,o.b,λq z=>?_⟩;rcases rG (p:=if a.2<b.2 then j else i) z with l|l
  ·exact o.m q l
  ·have hji:=B.ji
   have L:∃G,G∈s.rs.eraseIdx (if a.2<b.2 then j else i)/\G.1=q.1:=by
    split at l
    ·rename_i c;rw[B.ja]at l;cases l;exact⟨b,by rw[Mf];exact⟨i,by split<;>omega,B.ib⟩,B.eq.symm⟩
    ·rename_i c;rw[B.ib]at l;cases l;exact⟨a,by rw[Mf];exact⟨j,by split<;>omega,B.ja⟩,B.eq⟩
   obtain⟨G,S,e⟩:=L;rw[←e];exact o.m G S
def wt{g:Gn}{gs:List Gn}{f:List Int->Gn->List Int}{x:List Int}:(gs++[g]).reverse.foldl f x=gs.reverse.foldl f (f x g):=by rw[List.reverse_append];rfl
def mV{xs:List Int}{k j:Nat}{v:Int}(a:k<xs.length):(xs.set k v).getD j 0=if j=k then v else xs.getD j 0:=by
 rw[kW];by_cases c:j=k
 ·rw[J9 ⟨c,a⟩,J9 c]
 ·rw[JZ (λh=>c h.1),JZ c]
def Cc{xs:List Int}{k:Nat}{v:Int}(a:k<xs.length)(h:xs.getD k 0=v):xs.set k v=xs:=by
 refine Lf λi=>?_;by_cases c:k=i
 ·subst c;rw[Kj a,←h,bZ a]
 ·rw[Kh c]
def RayBk(a:Led)(n:Nat)(s:Led):Prop:=s.gl=a.gl/\∀x,RayAt n s x->RayAt n a (s.gn.reverse.foldl dW x)/\(∀u∈s.st,(s.gn.reverse.foldl dW x).getD u 0=x.getD u 0)/\aB a.gl (s.gn.reverse.foldl dW x)=aB a.gl x
def CI{s t:Led}(h:RowSt s true t):t.st=s.st/\t.gl=s.gl/\t.gn=s.gn/\t.ex=s.ex:=by
 cases h with
 |idle=>exact⟨rfl,rfl,rfl,rfl⟩
 |single=>exact tI _ _ _ _
 |uneven=>exact⟨rfl,rfl,rfl,rfl⟩
 |doubled=>exact⟨rfl,rfl,rfl,rfl⟩
def RayBk.row{e:Led}{n:Nat}{s t:Led}(c:RayBk e n s)(h:Wy n s)(a:RowSt s true t):RayBk e n t:=by obtain⟨g,j,l,p⟩:=CI a;refine⟨j.trans c.1,λx o=>?_⟩;rw[l,g];exact c.2 x (o.row h a)
def IH(u:Nat)(l:Int)(rs:List aw)(sp:List Int):l<=iX u l rs sp/\(∀r∈rs,fP u sp r<=iX u l rs sp):=by obtain⟨a,c,_⟩:=pR (rs.map (fP u sp)) l;exact⟨a,λr e=>c _ (Kf.mpr ⟨r,e,rfl⟩)⟩
def Cg{u n:Nat}{sp:List Int}{r:aw}{v:Int}(a:0<r.1.getD u 0)(h:fP u sp r<=v)(c:sp.getD u 0=0)(e:r.1.length=n)(g:sp.length=n)(j:u<n):r.2<=aB r.1 (sp.set u v):=by
 rw[kJ v (by omega) (by omega),c,Int.sub_zero];have:=(IQ (b:=r.2-aB r.1 sp) (m:=v) a).mp h;omega
def RayAt.fix{n:Nat}{s t:Led}{u:Nat}{v:Int}{x:List Int}(h:Wy n s)(y:u∈s.st)(E:FixE s u v t)(a:RayAt n t x):RayAt n s x/\x.getD u 0=0:=by
 have o:=h.sl u y;have j:x.getD u 0=0:=a.z u o (by rw[E.st];exact λe=>(h.er.mp e).1 rfl);refine⟨⟨a.l,λw g p=>a.z w g (by rw[E.st];exact λe=>p (jB e)),λw g=>?_,λq l=>?_⟩,j⟩
 ·by_cases c:w=u
  ·subst c;rw[j];exact⟨LG _,λ_=>rfl⟩
  ·have:=a.b w (by rw[E.st];exact h.er.mpr ⟨c,g⟩)
   rwa [E.bs]at this
 ·have:=a.m (eU u v q) (by rw[E.rs];exact Kf.mpr ⟨q,l,rfl⟩);unfold eU at this;split at this
  ·exact this
  ·have r:=(h.rr q l).1;rw[nJ 0 (by rw[r,a.l]) (by rwa[a.l]),j,Na,NJ]at this;exact this
def HN{u:Nat}{v:Int}{x:List Int}(a:u<x.length)(c:x.getD u 0=0):dW x (u,v,[])=x:=Cc a c
def RayBk.fix{j:Led}{n:Nat}{s t:Led}{u:Nat}{v:Int}(a:RayBk j n s)(h:Wy n s)(c:u∈s.st)(E:FixE s u v t):RayBk j n t:=by
 refine⟨E.gl.trans a.1,λx g=>?_⟩;obtain⟨l,o⟩:=g.fix h c E;have p:=h.sl u c;rw[E.gn,wt,HN (by rwa[g.l]) o];obtain⟨a1,a2,a3⟩:=a.2 x l;exact⟨a1,λw e=>a2 w (by rw[E.st]at e;exact jB e),a3⟩
def RayBk.hang{E:Led}{n:Nat}{s:Led}{u:Nat}(j:RayBk E n s)(h:Wy n s)(C:u∈s.st)(L:fS s.bs s.rs s.gl u=true):RayBk E n (hZ s u):=by
 obtain⟨H,I,B⟩:=w4 L;have y:=h.sl u C
 have p:∀r∈s.rs,0<=r.1.getD u 0:=λr R=>by
  refine La λU=>?_;have:iK s.rs u=true:=MS.mpr ⟨r,R,KZ (by omega)⟩;rw[this]at B;cases B
 rw[uC];refine⟨j.1,λx g=>?_⟩;have N:x.getD u 0=0:=g.z u y (λo=>(h.er.mp o).1 rfl);have z:=g.l;dsimp only;rw[wt];have es:dW x (u,(ax s.bs u).1,(bO s u).map (bS s.rs))=x.set u (iX u 0 (((bO s u).map (bS s.rs)).map gK) x):=rfl;rw[es];obtain⟨O,Q⟩:=IH u 0 (((bO s u).map (bS s.rs)).map gK) x;generalize iX u 0 (((bO s u).map (bS s.rs)).map gK) x=v at *
 have G:RayAt n s (x.set u v):=by
  refine⟨by rwa[JX],λw a A=>?_,λw a=>?_,λq l=>?_⟩
  ·rw[mV (by omega),JZ (λe:w=u=>A (e▸C))];exact g.z w a λo=>A (jB o)
  ·rw[mV (by omega)];by_cases c:w=u
   ·subst c;rw[J9 rfl,H];exact⟨O,λM=>by cases M⟩
   ·rw[JZ c];exact g.b w (h.er.mpr ⟨c,a⟩)
  ·have F:=(h.rr q l).1;by_cases c:q.1.getD u 0=0
   ·rw[kJ v (by omega) (by omega),c,LX,NJ];exact g.m q (KL.mpr ⟨l,Mn.mpr c⟩)
   ·have:=p q l;exact Cg (r:=gK q) (n:=n) (by show 0<q.1.getD u 0;omega) (Q (gK q) (Kf.mpr ⟨q,hgP_rows.mpr ⟨l,c⟩,rfl⟩)) N F z y
 obtain⟨a1,a2,a3⟩:=j.2 _ G;refine⟨a1,λw a=>?_,?_⟩
 ·obtain⟨S,T⟩:=h.er.mp a;rw[a2 w T,mV (by omega),JZ S]
 ·rw[a3,kJ v (by rw[←j.1,h.gl,z]) (by omega),←j.1,I,LX,NJ]
def RayBk.unk{e:Led}{n:Nat}{s t:Led}(c:RayBk e n s)(h:Wy n s)(g:UnkSt s true t):RayBk e n t:=by
 cases g with
 |fixed a=>exact c.fix h (Ko a) (mZ _ _ _)
 |sink _ a=>exact c.fix h (Ko a) (mZ _ _ _)
 |rise _ _ a j=>exact c.fix h (Ko a) (mZ _ _ _)
 |hang _ _ _ a=>exact c.hang h (Ko a) (NR a)
def HA(e:Led)(n:Nat):Way (λs=>Wy n s/\RayBk e n s) mu:=
 ⟨λt h=>⟨n,h.1.led⟩,λt t' h _ a=>⟨⟨(h.1.row a).1,h.2.row h.1 a⟩,(h.1.row a).2⟩,λt t' h _ _ c=>⟨⟨(h.1.unk c).1,h.2.unk h.1 c⟩,(h.1.unk c).2⟩⟩
def sM:∀(ps:List (Nat×Int))(sp:List Int)(u:Nat),u∉ps.map (·.1)->(fo sp ps).getD u 0=sp.getD u 0
 | [],sp,u,_=>rfl
 |p::ps,sp,u,h=>by show (fo (sp.set p.1 p.2) ps).getD u 0=_;rw[sM ps _ u (λa=>h (J1 _ a)),kW,JZ (λe=>h (by rw[e.1];exact J2))]
def vb{st:List Nat}{xs:List Int}(h:xs.length=st.length):(List.zip st xs).map (·.1)=st:=by rw[List.map_fst_zip (by omega)]
def EE{n:Nat}{st:List Nat}{xs:List Int}{u:Nat}(h:xs.length=st.length)(a:u∉st):(ee n st xs).getD u 0=0:=by unfold ee;rw[sM _ _ u (by rwa[vb h])];rw[J6,Lj];split<;>rfl
def vV:∀{st:List Nat}{xs sp:List Int}{k u:Nat},xs.length=st.length->st.Nodup->(∀u∈st,u<sp.length)->st[k]?=some u->(fo sp (List.zip st xs)).getD u 0=xs.getD k 0
 | [],_,_,k,u,_,_,_,h=>by cases h
 |a::st,x::xs,sp,0,u,c,hd,e,h=>by
  cases h;rw[Kp]at hd;show (fo (sp.set a x) (List.zip st xs)).getD a 0=x;rw[sM _ _ a (by rw[vb (by simpa using c)];exact hd.1),mV (e a J2),J9 rfl]
 |a::st,x::xs,sp,k+1,u,c,hd,e,h=>by rw[Kp]at hd;exact vV (sp:=sp.set a x) (by simpa using c) hd.2 (λu g=>by rw[JX];exact e u (J1 _ g)) h
def tY{n:Nat}{st:List Nat}{xs:List Int}{k u:Nat}(a:xs.length=st.length)(hd:st.Nodup)(c:∀u∈st,u<n)(h:st[k]?=some u):(ee n st xs).getD u 0=xs.getD k 0:=vV a hd (λu e=>by rw[Kg];exact c u e) h
def wW:∀{st:List Nat}{xs sp es:List Int},xs.length=st.length->st.Nodup->(∀u∈st,u<sp.length/\sp.getD u 0=0)->es.length=sp.length->aB es (fo sp (List.zip st xs))=aB es sp+aB (pk 0 es st) xs
 | [],[],sp,es,_,_,_,_=>by show aB es sp=aB es sp+0;omega
 |a::st,x::xs,sp,es,j,hd,c,h=>by
  rw[Kp]at hd;obtain⟨a1,a2⟩:=c a J2;show aB es (fo (sp.set a x) (List.zip st xs))=aB es sp+aB (es.getD a 0::pk 0 es st) (x::xs);rw[wW (by simpa using j) hd.2 (λu g=>?_) (by rwa[JX]),kJ x h a1,a2,Int.sub_zero,eD]
  ·omega
  ·obtain⟨l,o⟩:=c u (J1 _ g);refine⟨by rwa[JX],?_⟩;rwa[kW,JZ (λe:u=a/\a<sp.length=>hd.1 (e.1▸g))]
def wo:∀(es:List Int)(n:Nat),aB es (List.replicate n 0)=0
 | [],_=>rfl
 |_::_,0=>rfl
 |e::es,n+1=>by rw[K7,eD,wo es n,Na];rfl
def wO{n:Nat}{st:List Nat}{xs es:List Int}(a:xs.length=st.length)(hd:st.Nodup)(c:∀u∈st,u<n)(g:es.length=n):aB es (ee n st xs)=aB (pk 0 es st) xs:=by unfold ee;rw[wW a hd (λu e=>⟨by rw[Kg];exact c u e,?_⟩) (by rwa[Kg]),wo,KW];rw[J6,Lj];split<;>rfl
def tM{n k:Nat}{xs:List Int}(h:k<n)(j:xs.length=n):aB (cC n k) xs=xs.getD k 0:=by
 have e:cC n k=(List.replicate n 0).set k 1:=by
  refine Lf λi=>?_;unfold cC;rw[J7];by_cases a:i<n
  ·rw[LO a];by_cases c:i=k
   ·subst c;rw[Kj (by rwa[Kg])];simp
   ·rw[Kh (λe=>c e.symm),LL a];simp[c]
  ·rw[KI (by rw[Km];omega),KI (by rw[JX,Kg];omega)];rfl
 have g:aB (List.replicate n 0) xs=0:=by
  have:∀(m:Nat)(ys:List Int),aB (List.replicate m 0) ys=0:=by
   intro m
   induction m with
   |zero=>intro ys;rfl
   |succ m l=>intro ys;cases ys with
    |nil=>rfl
    |cons y ys=>rw[K7,eD,l,LX];rfl
  exact this n xs
 rw[e,nJ 1 (by rw[Kg,j]) (by omega),g];rw[J6,LL h];show 0+(1-0)*_=_;omega
def zN{n k:Nat}{xs:List Int}{b:Int}(c:k<n)(e:xs.length=n):aB (lh (cC n k,b)).1 xs = -xs.getD k 0:=by
 have a:∀(xs ys:List Int),aB (xs.map (- ·)) ys =-aB xs ys:=by
  intro xs
  induction xs with
  |nil=>intro ys;rfl
  |cons x xs g=>
   intro ys
   cases ys with
   |nil=>rfl
   |cons y ys=>rw[Kn,eD,eD,g,Int.neg_mul];omega
 show aB ((cC n k).map (- ·)) xs=_;rw[a,tM c e]
def giv_all{P:aw->Prop}{bs:List Bd}{rs:List aw}:(∀r∈cS bs rs,P r)↔(∀k,k<bs.length->P (fA bs k))/\(∀k,k<bs.length->(ax bs k).2.isSome=true->P (cX bs k))/\∀r∈rs,P r:=by
 unfold cS;constructor
 ·intro h;refine⟨λk e=>h _ ?_,λk e o=>h _ ?_,λr c=>h _ ?_⟩
  ·exact L7 _ (L7 _ (Kf.mpr ⟨k,Kt.mpr e,rfl⟩))
  ·exact L7 _ (KR _ (Kf.mpr ⟨k,KL.mpr ⟨Kt.mpr e,o⟩,rfl⟩))
  ·exact KR _ c
 ·rintro⟨g,j,l⟩ r c;rcases Ks.mp c with c|c
  ·rcases Ks.mp c with c|c
   ·obtain⟨k,e,rfl⟩:=Kf.mp c;exact g k (Kt.mp e)
   ·obtain⟨k,e,rfl⟩:=Kf.mp c;obtain⟨a,b⟩:=KL.mp e;exact j k (Kt.mp a) b
  ·exact l r c
def uk{n:Nat}{bs:List Bd}{rs:List aw}{x:List Int}(h:bs.length=n)(p:x.length=n):(∀r∈cS bs rs,0<=aB r.1 x)↔(∀k,k<n->0<=x.getD k 0/\((ax bs k).2.isSome=true->x.getD k 0=0))/\∀r∈rs,0<=aB r.1 x:=by
 have l:∀k,k<n->aB (fA bs k).1 x=x.getD k 0:=λk c=>by show aB (cC bs.length k) x=_;rw[h];exact tM c p
 have o:∀k,k<n->aB (cX bs k).1 x = -x.getD k 0:=λk c=>by unfold cX;rw[h];exact zN c p
 rw[giv_all,h];constructor
 ·rintro⟨e,u,g⟩;refine⟨λk c=>?_,g⟩;have a:=e k c;rw[l k c]at a;refine⟨a,λj=>?_⟩;have b:=u k c j;rw[o k c]at b;omega
 ·rintro⟨e,g⟩;refine⟨λk c=>by rw[l k c];exact (e k c).1,λk c j=>by rw[o k c,(e k c).2 j];decide,g⟩
structure PlOk(n:Nat)(bs:List Bd)(rs:List aw)(gs:List Int):Prop where
 n8:n<=8
 bl:bs.length=n
 gl:gs.length=n
 rl:rs.length<=15
 rr:∀r∈rs,r.1.length=n/\(∀x∈r.1,x.natAbs<2^64)/\r.2.natAbs<=2^200
 bb:∀b∈bs,b.1.natAbs<=2^200/\∀m,b.2=some m->m.natAbs<=2^200
 gg:∀x∈gs,x.natAbs<2^64
def Em(n:Nat):∀d∈(List.range n).map bg,NoL d:=λd hd=>by obtain⟨i,_,rfl⟩:=Kf.mp hd;exact .int _
def PlOk.wy{n:Nat}{bs:List Bd}{rs:List aw}{gs:List Int}(h:PlOk n bs rs gs):Wy n (gP bs rs gs):=by
 have x:=h.n8;have c:=h.bl
 have e:(gP bs rs gs).st.length=n:=by show (List.range bs.length).length=n;rwa[Km]
 have v:=h.rl
 have a:200+65*(n-(gP bs rs gs).st.length)=200:=by rw[e];omega
 refine⟨h.n8,h.bl,h.gl,by show ((List.range bs.length).map bg).length=n;rwa[JT,Km],by show (pq bs).length=n;unfold pq;rwa[JT,Km],λu l=>by rw[←c];exact Kt.mp l,Mh,by show rs.length<=30;omega,by show (cQ _ rs.length).length=rs.length;unfold cQ;rw[JT,Km],λr j=>by rw[a];exact h.rr r j,λb c=>by rw[a];exact h.bb b c,h.gg,?_,by show 0+(List.range bs.length).length<=n;rw[Km];omega,by show 0+(List.range bs.length).length=n;rw[Km];omega,λd hd=>?_,λd hd=>?_,Em _,dq,λr j u l o=>absurd (Kt.mpr (by rwa[c])) o,λg p=>by cases p⟩
 ·have:rs.countP ed<=rs.length:=NZ;unfold mu;rw[e];show 0+(64*n+2*rs.length+rs.countP ed)<=602;omega
 ·obtain⟨i,_,rfl⟩:=Kf.mp (show d∈(List.range rs.length).map _ from hd);exact .int _
 ·obtain⟨i,_,rfl⟩:=Kf.mp (show d∈(List.range bs.length).map (gE bs)from hd);unfold gE;split
  ·exact .int _
  ·exact .non
def Gf{n:Nat}{bs:List Bd}{rs:List aw}{gs:List Int}(h:PlOk n bs rs gs):RayBk (gP bs rs gs) n (gP bs rs gs):=⟨rfl,λx a=>⟨a,λ_ _=>rfl,rfl⟩⟩
def D8{n:Nat}{s:Led}(h:Wy n s){x:List Int}(a:x.length=s.st.length)(y:∀r∈cS (pk (0,none) s.bs s.st) (s.rs.map (gf s.st)),0<=aB r.1 x):RayAt n s (ee n s.st x):=by
 have l:(pk ((0:Int),(none:Option Int)) s.bs s.st).length=s.st.length:=by unfold pk;rw[JT]
 obtain⟨p,v⟩:=(uk l a).mp y;refine⟨wL _ _ _,λu j o=>EE a o,λu j=>?_,λq g=>?_⟩
 ·obtain⟨k,c⟩:=KY j;rw[tY a h.nd h.sl c];have:=p k (aE c);have e:ax (pk (0,none) s.bs s.st) k=ax s.bs u:=fq (by unfold pk;rw[J7,c];rfl)
  rwa [e]at this
 ·rw[wO a h.nd h.sl (h.rr q g).1];exact v (gf s.st q) (Kf.mpr ⟨q,g,rfl⟩)
def Ca{n:Nat}{bs:List Bd}{rs:List aw}{gs:List Int}{s:Led}(h:Wy n s)(j:bs.length=n)(l:RayBk (gP bs rs gs) n s){x:List Int}(c:x.length=s.st.length)(u:∀r∈cS (pk (0,none) s.bs s.st) (s.rs.map (gf s.st)),0<=aB r.1 x) :
  (gU n s x).length=n/\(∀k,k<s.st.length->(gU n s x).getD (s.st.getD k 0) 0=x.getD k 0)/\(∀r∈cS bs rs,0<=aB r.1 (gU n s x))/\aB gs (gU n s x)=aB (pk 0 s.gl s.st) x:=by
 have p:=D8 h c u;obtain⟨a1,a2,a3⟩:=l.2 _ p;refine⟨a1.l,λk o=>?_,?_,?_⟩
 ·have g:=bZ (d:=0) o;have:=a2 _ (J0 g);rw[tY c h.nd h.sl g]at this;exact this
 ·refine (uk j a1.l).mpr ?_;exact⟨λk o=>a1.b k (Kt.mpr (by rwa[j])),a1.m⟩
 ·have e:gs=s.gl:=l.1.symm;have a:aB gs (gU n s x)=aB gs (ee n s.st x):=a3;rw[a,e,wO c h.nd h.sl h.gl]
def p8(sp:List Int)(g:Gn):List Int:=sp.set g.1 (iX g.1 g.2.1 g.2.2 sp)
structure GOk(n:Nat)(g:Gn):Prop where
 u:g.1<n
 l:g.2.1.natAbs<=2^720
 r:g.2.2.length<=30
 rr:∀r∈g.2.2,r.1.length=n/\0<r.1.getD g.1 0/\(∀x∈r.1,x.natAbs<2^64)/\r.2.natAbs<=2^720
def Wy.gok{n:Nat}{s:Led}(h:Wy n s){g:Gn}(j:g∈s.gn):GOk n g:=by obtain⟨a,b,c,d,e⟩:=h.gr g j;exact⟨a,c,d,e⟩
def zR{n k u:Nat}{l:Int}{rs:List aw}{sp:List Int}(y:n<=8)(z:720<=k)(E:∀x∈sp,x.natAbs<=2^k)(h:GOk n (u,l,rs)):(iX u l rs sp).natAbs<=2^(k+68):=by
 obtain⟨_,_,p⟩:=pR (rs.map (fP u sp)) l;have c:2^720<=2^k:=Lb (by decide) z;have j:2^(k+68)=2^k*2^68:=Nat.pow_add ..
 have v:1<=2^68:=by decide
 have g:2^k<=2^k*2^68:=Nat.le_mul_of_pos_right _ (by decide);rcases Kd.mp p with e|e
 ·show ((rs.map (fP u sp)).foldl max l).natAbs<=_;rw[e,j];exact Kl h.l (Kl c g)
 ·obtain⟨r,C,e⟩:=Kf.mp e;show ((rs.map (fP u sp)).foldl max l).natAbs<=_;rw[←e];obtain⟨G,H,I,L⟩:=h.rr r C;unfold fP;have M:(fi (r.2-aB r.1 sp) (r.1.getD u 0)).natAbs<=(r.2-aB r.1 sp).natAbs:=se (a:=r.2-aB r.1 sp) H;have o:=lx (A:=2^64) (B:=2^k) (λx F=>Lo (I x F)) E;rw[G]at o;have N:n*(2^64*2^k)<=8*(2^64*2^k):=LK _ y
  have O:(r.2-aB r.1 sp).natAbs<=r.2.natAbs+(aB r.1 sp).natAbs:=by omega
  have Q:8*(2^64*2^k)+2^k<=2^k*2^68:=by
   rw[←Nat.mul_assoc,NC (2^k) (2^68)];have:(8*2^64+1)*2^k<=2^68*2^k:=LK _ (by decide);rw[NS,Nat.one_mul]at this;exact this
  rw[j];have R:r.2.natAbs<=2^720:=L;omega
def tE{n:Nat}(e:n<=8):∀{gs:List Gn}{sp:List Int}{k:Nat},720<=k->(∀g∈gs,GOk n g)->(∀x∈sp,x.natAbs<=2^k)->∀x∈gs.foldl p8 sp,x.natAbs<=2^(k+68*gs.length)
 | [],sp,k,_,_,c=>c
 |g::gs,sp,k,j,h,c=>by
  have:=tE e (gs:=gs) (sp:=p8 sp g) (k:=k+68) (by omega) (λx a=>h x (J1 _ a)) λx a=>by
   rcases jF a with a|rfl
   ·exact Kl (c x a) (Lb (by decide) (by omega))
   ·exact zR e j c (h g J2)
  rwa[show k+68*(g::gs).length=k+68+68*gs.length by rw[Kb];omega]
def qo(g:Gn):Gn:=(g.1,0,g.2.2.map gK)
def HM{n:Nat}{g:Gn}(h:GOk n g):GOk n (qo g):=⟨h.u,by show (0:Int).natAbs<=_;exact LA _,by show (g.2.2.map gK).length<=30;rw[JT];exact h.r,λr j=>by
 obtain⟨q,e,rfl⟩:=Kf.mp j;obtain⟨a,b,c,d⟩:=h.rr q e
 exact⟨a,b,c,LA _⟩⟩
def tN:∀(gs:List Gn)(sp:List Int),gs.foldl dW sp=(gs.map qo).foldl p8 sp
 | [],_=>rfl
 |g::gs,sp=>tN gs (dW sp g)
def wq:∀(ps:List (Nat×Int)){sp:List Int}{x:Int},x∈fo sp ps->x∈sp\/x∈ps.map (·.2)
 | [],_,_,h=>.inl h
 |p::ps,sp,x,h=>by
  rcases wq ps (sp:=sp.set p.1 p.2) h with h|h
  ·rcases jF h with h|rfl
   ·exact .inl h
   ·exact .inr J2
  ·exact .inr (J1 _ h)
def Ci{n:Nat}{st:List Nat}{xs:List Int}{x:Int}(h:x∈ee n st xs):x=0\/x∈xs:=by
 rcases wq _ h with h|h
 ·exact .inl (Lv h)
 ·obtain⟨p,a,rfl⟩:=Kf.mp h;exact .inr (LZ a).2
def DK{n:Nat}{st:List Nat}{xs:List Int}{k:Nat}(h:∀x∈xs,x.natAbs<=2^k):∀x∈ee n st xs,x.natAbs<=2^k:=λx a=>by
 rcases Ci a with rfl|a
 ·exact LA _
 ·exact h x a
def Bn{x k:Nat}(h:x<=2^k)(a:k<=1300):x<2^60000:=LV h (Ly (by decide) (by omega))
def Wy.rayP{n:Nat}{s:Led}(h:Wy n s){x:List Int}(j:∀y∈x,y.natAbs<=2^720):RayP n s x:=by
 have l:=h.n8;refine⟨l,h.sl,λg e=>?_,λi y o=>?_⟩
 ·have G:=h.gok e;refine⟨G.u,by have:=G.r;omega,λr u=>?_⟩;obtain⟨a,b,c,d⟩:=G.rr r u;exact⟨by rw[a];exact G.u,by omega,b,λx j=>M4 (c x j) (Ly (by decide) (by decide))⟩
 ·rw[tN]at o
  have:=tE l (J3 720) (gs:=(s.gn.reverse.take i).map qo) (λg e=>by
   obtain⟨q,p,rfl⟩:=Kf.mp e
   exact HM (h.gok (Ma.mp (List.mem_of_mem_take p)))) (DK (n:=n) (st:=s.st) j) y o
  refine Bn this ?_;rw[JT,K8,Lr];have:=h.gn;omega
def dO(w:Nat)(b:Bd):Int:=match b.2 with
 |none=>b.1+w
 |some m=>if m<b.1+w then m else b.1+w
def iB(lo a:Int):List Int:=(List.range (a+1-lo).toNat).map λi=>lo+(i:Nat)
def eO(w:Nat)(a:List (List Int))(b:Bd):List (List Int):=a.flatMap λsp=>(iB b.1 (dO w b)).map λv=>sp++[v]
def dM(w:Nat)(bs:List Bd):List (List Int):=bs.foldl (eO w) [[]]
def rngI_mem{lo a x:Int}:x∈iB lo a↔lo<=x/\x<=a:=by
 unfold iB;rw[Kf];constructor
 ·rintro⟨i,c,rfl⟩;have:=Kt.mp c;omega
 ·rintro⟨e,g⟩;exact⟨(x-lo).toNat,Kt.mpr (by omega),by omega⟩
def xa(lo:Int)(w:Nat)(b:Bd):(iB b.1 (dO w b)).length<=w+1:=by
 unfold iB dO;rw[JT,Km];split
 ·omega
 ·split<;>omega
def rK(w:Nat)(b:Bd):∀a:List (List Int),(eO w a b).length<=a.length*(w+1)
 | []=>by unfold eO;simp
 |sp::a=>by
  have c:=rK w b a
  have e:eO w (sp::a) b=(iB b.1 (dO w b)).map (λv=>sp++[v])++eO w a b:=by unfold eO;rw[List.flatMap_cons]
  rw[e,JW,JT,Kb,NS,Nat.one_mul];have:=xa 0 w b;omega
def qN(w:Nat)(bs:List Bd)(b:Bd):dM w (bs++[b])=eO w (dM w bs) b:=by unfold dM;rw[L6];rfl
def FG(w:Nat):∀bs:List Bd,(dM w bs).length<=(w+1)^bs.length:=by
 refine sR (by show 1<=1;decide) λbs b a=>?_;rw[qN,JW,KA,Nat.pow_succ];exact Kl (rK w b _) (LK _ a)
def D5{w:Nat}{e:List (List Int)}{b:Bd}{x:List Int}:x∈eO w e b↔∃sp∈e,∃v,(b.1<=v/\v<=dO w b)/\x=sp++[v]:=by
 unfold eO;rw[MU];constructor
 ·rintro⟨sp,a,g⟩;obtain⟨v,c,rfl⟩:=Kf.mp g;exact⟨sp,a,v,rngI_mem.mp c,rfl⟩
 ·rintro⟨sp,a,v,c,rfl⟩;exact⟨sp,a,Kf.mpr ⟨v,rngI_mem.mpr c,rfl⟩⟩
def wz{xs:List Int}{v:Int}{k:Nat}(h:k<xs.length):(xs++[v]).getD k 0=xs.getD k 0:=by rw[J6,J6,JV h]
def vQ{xs:List Int}{v:Int}:(xs++[v]).getD xs.length 0=v:=by rw[J6,JU (J3 _),Kw];rfl
def xm{bs:List Bd}{b:Bd}{k:Nat}(h:k<bs.length):ax (bs++[b]) k=ax bs k:=by unfold ax;rw[J6,J6,JV h]
def uQ{bs:List Bd}{b:Bd}:ax (bs++[b]) bs.length=b:=by unfold ax;rw[J6,JU (J3 _),Kw];rfl
def wnd_mem{w:Nat}:∀{bs:List Bd}{x:List Int},x∈dM w bs↔x.length=bs.length/\∀k,k<bs.length->(ax bs k).1<=x.getD k 0/\x.getD k 0<=dO w (ax bs k):=by
 intro bs;refine sR (P:=λbs=>∀{x:List Int},x∈dM w bs↔x.length=bs.length/\∀k,k<bs.length->(ax bs k).1<=x.getD k 0/\x.getD k 0<=dO w (ax bs k)) ?_ (λbs b r=>?_) bs
 ·intro x;show x∈[[]]↔_;rw[J5];constructor
  ·rintro rfl;exact⟨rfl,λk g=>absurd g (K3 _)⟩
  ·rintro⟨h,_⟩;exact Lk.mp h
 ·intro x;rw[qN,D5,JW,KA];constructor
  ·rintro⟨sp,a,v,y,rfl⟩;obtain⟨a1,a2⟩:=r.mp a;refine⟨by rw[JW,KA,a1],λk g=>?_⟩;by_cases c:k<bs.length
   ·rw[wz (by omega),xm c];exact a2 k c
   ·have u:k=bs.length:=by omega
    subst u;rwa[uQ,←a1,vQ]
  ·rintro⟨a,j⟩
   have l:x≠[]:=λe=>by rw[e]at a;cases a
   have p:=Nd l
   have o:x.dropLast.length=bs.length:=by rw[List.length_dropLast];omega
   rw[←p]at j;refine⟨x.dropLast,r.mpr ⟨o,λk g=>?_⟩,x.getLast l,?_,p.symm⟩
   ·have:=j k (by omega)
    rwa [wz (by omega),xm g]at this
   ·have:=j bs.length (by omega);rw[uQ]at this
    conv at this=>rw[←o]
    rwa [vQ]at this
def Gd{w:Nat}{bs:List Bd}{x:List Int}{M:Nat}(h:x∈dM w bs)(e:∀b∈bs,b.1.natAbs<=M):∀y∈x,y.natAbs<=M+w:=λy j=>by
 obtain⟨o,c⟩:=wnd_mem.mp h;obtain⟨k,a⟩:=KY j;have l:=aE a;have:=c k (by omega);rw[fq a]at this;have g:=e (ax bs k) (c8 (by omega))
 have p:dO w (ax bs k)<=(ax bs k).1+w:=by
  unfold dO;split
  ·omega
  ·split<;>omega
 omega
def uF:∀{a b:List Nat},a.Pairwise (·<·)->b.Pairwise (·<·)->(∀x,x∈a↔x∈b)->a=b
 | [],[],_,_,_=>rfl
 | [],y::b,_,_,h=>absurd ((h y).mpr J2) LD
 |x::a,[],_,_,h=>absurd ((h x).mp J2) LD
 |x::a,y::b,g,j,h=>by
  rw[ME]at g j
  have o:x=y:=by
   rcases Kd.mp ((h x).mp J2)with e|p
   ·exact e
   ·rcases Kd.mp ((h y).mpr J2)with e|r
    ·exact e.symm
    ·have:=g.1 y r;have:=j.1 x p;omega
  subst o;congr 1;refine uF g.2 j.2 λz=>⟨λc=>?_,λc=>?_⟩
  ·rcases Kd.mp ((h z).mp (J1 _ c))with e|l
   ·have:=g.1 z c;omega
   ·exact l
  ·rcases Kd.mp ((h z).mpr (J1 _ c))with e|l
   ·have:=j.1 z c;omega
   ·exact l
def Gw{n:Nat}{st:List Nat}(so:st.Pairwise (·<·))(sl:∀u∈st,u<n):(List.range n).filter (λu=>decide (u∈st))=st:=by refine uF (Mh.filter _) so λx=>?_;rw[KL,Kt,Nr];exact⟨λh=>h.2,λh=>⟨sl x h,h⟩⟩
inductive y__law_far(as:List Sm)(R:Sm->List Om->Prop)(Rx:XD->List Om->Prop):Prop|mk (a:Option Addr) (o:Om) (n m:Nat) (mn:Int) (bs:List Bd) (rs:List aw) (gs sp:List Int) (_:as=[.ob a o,.v (cF bs rs gs),.v (.tup (sp.map D.int))]) (_:Pl m o) (_:m+100<2^20) (_:n<=8) (_:mn<=14) (_:PlS n mn bs rs gs sp) (_:∀(bs':List Bd)(Qb:List aw)(SM:List Int)(o':Om),PlOk n bs' Qb gs->SM.length=n->(∀x∈SM,x.natAbs<=2^70)->Pl (m+100) o'->R (.v (.tup [cF bs' Qb gs,.tup (SM.map D.int)])) [o'])
def yz{z:Int}(h:z<2^200):z<2^9000:=by
 have a:(2:Int)^200<=2^9000:=by lia
 omega
abbrev FS(p:Addr)(o:Om)(pl:D)(sp:List Int)(j l:Int)(r:List Int)(u v x y c g e h a:Option Sm):aq:=[some (.ob (some p) o),some (.v pl),some (.v (.tup (sp.map D.int))),some (.v (.int j)),some (.v (.int l)),some (.v (.lst (r.map D.int))),u,v,x,y,c,g,e,h,a]
def Bo(F:Fun K "_law_far" "_law_far" ju f J)(N:ClM P w K mg base n WR [Wr,Wt] y__law_draw)(ix:Cl P w K mg base n WO [Ww,Ws] z__law_times)(fg:mg "zip"=none)(aZ:mg "tuple"=none):FnOk P w K mg base aI (n+1) f J [Wr,Wu,Ws] (lSpM K y__law_far):=by
 refine F.okM sc__law_far (λas R Rx h=>?_) (λOh A outer s H E as R Rx qs Ot I h OD=>?_)
 ·obtain⟨a,o,k,m,mn,bs,rs,gs,sp,rfl,_⟩:=h;rfl
 obtain⟨a,o,k,m,mn,bs,rs,gs,sp,rfl,hp,hm,hk,hmn,L,q⟩:=h;obtain⟨pa,rfl⟩:=eK OD
 refine⟨_,(ar (aM (i:=3) sc__law_far.nd rfl (Or.inr rfl) (bL N I rfl (bV 0 (aJ (ah ao) bo aF) ae) ae (ay aF ag)))
   (ar (aM (i:=4) sc__law_far.nd rfl Wq (bL N I rfl (bV 0 (aJ (ah ao) bo aF) ae) ae (ay aF ag)))
   (ar (Cp (i:=5) (N':=[WG,WL,Wr]) (cap:=[none,some 3,some 0]) rfl sc__law_far.nd rfl Wq (.ok (show bX [Wr,Wu,Ws,WL,Wt,W4,WC,WN,WI,WJ,Wv,Ww,WK,WQ,W8] (av ju) _ [WG,WL,Wr] [none,some 3,some 0]=true by lia)) (by lia) (eT (cb (dv 2))) (λ_ _ _ _ _=>(cD (i:=0) (show List.Nodup ([WG,WL,Wr]:List Str)by lia) rfl Wq)) (λ_ _ _ _ _=>Di) (λ_ _ _ _ _=>(dH dr (dH dr (ah (dv 1)) (dH du (ah ao) (dH dr (ah ao) (bL N I rfl (bV 2 (aJ (ah ao) bo aF) ae) ae (ay aF ag))))) (bL N I rfl (bV 2 (aJ (ah (aU rB (PD.q ao) (PD.q ao))) bo bW) ae) ae (ay bW ag)))))
   (iz 5 (ar (aM (i:=6) sc__law_far.nd rfl Wq (dB (dh ak)))
   (ar (eP Ki rfl (eT (kj rfl fg (af (aA (aa 1)) (af (dv 5) ak ae) aG))) (iR (n:=2) rfl (eC (iR (n:=2) rfl (eC (cD (i:=8) sc__law_far.nd rfl Wq) (eC (cD (i:=9) sc__law_far.nd rfl Wq) iI))) (eC (cD (i:=7) sc__law_far.nd rfl Wq) iI))) (cI (b7 (bY (aV ef (aa 9) (PD.q bA) (aD _))) (aQ (aM (i:=9) sc__law_far.nd rfl Wq (ah (aU cP (aa 9) (aa 7))))) cq)
   (aQ (gp 6 (ah (bx (af (aU cP (aa 8) (aa 7)) (af (dv 9) ak ae) bW))) (di bJ) bJ))))
   (ar (aM (i:=10) sc__law_far.nd rfl Wq (dB (dh ak)))
   (ar (eP Ki rfl (eT (cb (aA (aa 1)))) (iR (n:=2) rfl (eC (cD (i:=11) sc__law_far.nd rfl Wq) (eC (cD (i:=12) sc__law_far.nd rfl Wq) iI))) (ar (aM (i:=13) sc__law_far.nd rfl (Or.inr rfl) (dH cP (ah ao) (dH dr (ah (dv 4)) (bL N I rfl (bV 0 (aJ (ah (aU rB (PD.q ao) (PD.q ao))) bo bW) ae) ae (ay bW ag)))))
   (ar (aM (i:=12) sc__law_far.nd rfl Wq (dH du (ah (aU dr (PD.q (aU cP (aa 12) (PD.q (bj ix I rfl (af (dv 11) (af (dv 5) ak ae) ae) ae (ay ae ag))))) (aa 13))) (bL N I rfl (bV 0 (aJ (ah (dv 13)) bo ae) ae) ae (ay ae ag))))
   (aQ (gp 10 (ah (bx (af (b9 cN rfl aZ J8 (aN (PD.q (PF.d (de (k:=1) (N':=[WH,WQ]) (cap:=[none,some 13]) rfl (.ok (show bX [Wr,Wu,Ws,WL,Wt,W4,WC,WN,WI,WJ,Wv,Ww,WK,WQ,W8] (av ju) _ [WH,WQ] [none,some 13]=true by lia)) (by lia) (bE (by decide)) (cb (dv 11)) (λ_ _ _ _ _=>(bh (i:=0) (show List.Nodup ([WH,WQ]:List Str)by lia) rfl Wq)) (λ_ _ _ _ _=>(aU dr (aa 0) (aa 1)))))) aX bC) bC ag) (af (dv 12) ak ae) bt))) (di bJ) bJ)))))
   (ar (aM (i:=14) sc__law_far.nd rfl Wq (ah (b9 cN rfl aZ J8 (aN (PD.q (PF.d (de (k:=2) (N':=[WG,WN]) (cap:=[none,none]) rfl (.ok (show bX [Wr,Wu,Ws,WL,Wt,W4,WC,WN,WI,WJ,Wv,Ww,WK,WQ,W8] (av ju) _ [WG,WN] [none,none]=true by lia)) (by lia) (iA (n:=2) (eo (bE (by decide)) (eo (bE (by decide)) iG))) (kj rfl fg (af (dv 2) (af (dv 5) ak ae) ae)) (λ_ _ _ _ _=>(eu (n:=2) rfl (bR (bh (i:=0) (show List.Nodup ([WG,WN]:List Str)by lia) rfl Wq) (bR (bh (i:=1) (show List.Nodup ([WG,WN]:List Str)by lia) rfl Wq) eG)))) (λ_ _ _ _ _=>(aU cP (aa 0) (aa 1)))))) aX bC) bC ag)))
   (aQ (cw (ah (bx (af (bx (af (b9 cN rfl aZ J8 (aN (aa 6) aX ae) ae ag) (af (b9 cN rfl aZ J8 (aN (aa 10) aX ae) ae ag) (af (aA (aa 1)) ak aG) bt) bt)) (af (dv 14) ak ae) bJ)))))))))))))),?_⟩
 intro ke;have Qm:=L.sl;have OK:=L.rl;obtain⟨R5,UT⟩:=L.b;refine⟨⟨_,_,rfl⟩,_,rfl,rfl,_,_,2,_,rfl,hp,by omega,by decide,cK (by decide),λG o1 x0 x1 Pd=>?_⟩;rfl';refine⟨⟨_,_,rfl⟩,_,rfl,rfl,_,_,2,_,rfl,Pd,by omega,by decide,cK (by decide),λp o2 y0 y1 Pc=>?_⟩;rfl';refine⟨by rw[JT];exact bq (by omega),λi ys ρc=>∃(xs:List Int)(o':Om)(u:Option Sm),ys=xs.map D.int/\xs.length=i/\(∀x∈xs,x.natAbs<=10^20)/\ρc=[u,some (.v (.int G)),some (.ob (some pa) o')]/\Pl (m+2+2*i) o',⟨[],o2,_,rfl,rfl,λx g=>(by cases g),rfl,Pc⟩,?_,?_⟩
 ·rintro i d ys ρc hd ⟨xs,Y,u,rfl,Qt,g,rfl,Z⟩;obtain⟨y,rfl,hy⟩:=bP hd;have S:=aE hy;refine⟨λ_=>?_,tf⟩;refine⟨⟨_,_,rfl⟩,_,rfl,rfl,_,_,2,_,rfl,Z,by omega,by decide,cK (by decide),λz o4 z0 z1 O=>?_⟩;rfl';refine⟨ig (by decide) (by decide),ig (by omega) (by omega),⟨_,_,rfl⟩,⟨by decide,by decide,by decide⟩,_,rfl,rfl,_,_,_,_,rfl,O,by omega,(by show (0:Int)<10^20;decide),yz (by show (10:Int)^20<2^200;decide),λv o5 v0 v1 Qz=>?_⟩;rfl';have hv:v<10^20:=v1
  have hf:G=0\/G=1:=by omega
  have X:z=0\/z=1:=by omega
  refine⟨ig ?_ ?_,xs++[G*(1-2*z)*v],o5,_,gF D.int xs _,by rw[JW,Qt];rfl,fE g ?_,rfl,Qz.mono (by omega)⟩
  ·rcases hf with rfl|rfl<;>rcases X with rfl|rfl<;>decide
  ·rcases hf with rfl|rfl<;>rcases X with rfl|rfl<;>decide
  ·rcases hf with rfl|rfl<;>rcases X with rfl|rfl<;>omega
 rintro ys ρc ⟨j,Y,u,rfl,Qt,g,rfl,Z⟩;have Qk:=g;rw[JT]at Qt Z;refine⟨Y,rfl,?_⟩;rfl'
 have VY:j.length=k:=by omega
 refine⟨_,rfl,_,_,rfl,rfl,?_⟩;rw[jT];refine⟨λi ρ=>∃(C:List Bd)(u7 u8 u9:Option Sm),ρ=FS pa Y (cF bs rs gs) sp G p j (some (.own (C.map aS))) u7 u8 u9 none none none none none/\C.length=i/\(∀b∈C,b.1.natAbs<=2^200/\∀m,b.2=some m->m.natAbs<=2^200),⟨[],_,_,_,rfl,rfl,λb hb=>(by cases hb)⟩,?_,?_⟩
 ·rintro i d ρ hd ⟨C,u7,u8,u9,rfl,RC,Ov⟩;obtain⟨⟨b,x⟩,rfl,X⟩:=bP hd;obtain⟨Rf,hzx⟩:=Mt.mp X;have Qq:=aE Rf;obtain⟨c1,Q⟩:=UT b (J0 Rf);have cx:=g x (J0 hzx)
  have e20:(10:Nat)^20+8<=2^200:=by decide
  refine⟨rfl,rfl,?_⟩;refine⟨λρ=>∃T:Option Int,ρ=FS pa Y (cF bs rs gs) sp G p j (some (.own (C.map aS))) (some (.v (.int x))) (some (.v (.int b.1))) (some (.v (oI T))) none none none none none/\∀m,T=some m->m.natAbs<=2^200,?_,?_⟩
  ·obtain⟨l,T⟩:=b
   cases T with
   |none=>exact⟨ff,λ_=>⟨none,rfl,λm h=>by cases h⟩⟩
   |some mm=>
    have Q:=Q mm rfl;exact⟨λ_=>⟨some (mm+x),rfl,λm h=>by cases h;omega⟩,tf⟩
  rintro ρ ⟨T,rfl,VO⟩;exact⟨by rw[JT];exact bq (by omega),_,gF aS C (b.1+x,T),_,_,_,_,rfl,by rw[JW,RC];rfl,fE Ov ⟨by show (b.1+x).natAbs<=_;omega,VO⟩⟩
 rintro ρ ⟨C,u7,u8,u9,rfl,RC,Ov⟩;rw[JT,NP,R5,VY,Nat.min_self]at RC;refine⟨_,rfl,?_⟩;refine⟨λi ρ=>∃(M:List aw)(o':Om)(SE QO TQ:Option Sm),ρ=FS pa o' (cF bs rs gs) sp G p j (some (.own (C.map aS))) u7 u8 u9 (some (.own (M.map az))) SE QO TQ none/\M.length=i/\(∀r∈M,r.1.length=k/\(∀x∈r.1,x.natAbs<2^64)/\r.2.natAbs<=2^200)/\Pl (m+2+2*k+2*i) o',⟨[],Y,_,_,_,rfl,rfl,λb hb=>(by cases hb),Z.mono (by omega)⟩,?_,?_⟩
 ·rintro i d ρ hd ⟨M,o4,SE,QO,TQ,rfl,SG,R3,O⟩;obtain⟨r,rfl,OE⟩:=bP hd;have Qq:=aE OE;obtain⟨c1,Q,c3⟩:=L.r r (J0 OE);refine⟨rfl,?_⟩;refine⟨⟨_,_,rfl⟩,⟨by decide,by decide,by decide⟩,_,rfl,rfl,_,_,_,_,rfl,O,by omega,(by show (0:Int)<10^12;decide),cK (by show (10:Int)^12<2^64;decide),λB o5 v0 v1 Qz=>?_⟩;rfl';have v1:B<10^12:=v1
  have U:p=0\/p=1:=by omega
  refine⟨ig (by omega) (by omega),?_⟩
  have f0:0<1+p*B:=by rcases U with rfl|rfl<;>omega
  have f2:1+p*B<=10^12:=by rcases U with rfl|rfl<;>omega
  have RV:∀x∈r.1,bN x:=λx g=>fw (m:=10) (by have:=Q x g;omega) (by decide);have VZ:∀x∈j,bN x:=λx Qk=>fw (m:=70) (by have:=g x Qk;have e:(10:Nat)^20<=2^70:=(by decide);omega) (by decide);refine⟨r.1,j,rfl,by omega,RV,VZ,?_⟩;have SD:=lx Q g;have hd9:(aB r.1 j).natAbs<=8*(3*10^20):=Kl SD (LK _ (by omega))
  have TR:(r.2+aB r.1 j).natAbs<=2^80:=by
   have:8*(3*10^20)+400<=2^80:=by decide
   omega
  have RH:(1+p*B).natAbs<=2^40:=by
   have:(10:Nat)^12<=2^40:=by decide
   omega
  have hprod:((r.2+aB r.1 j)*(1+p*B)).natAbs<=2^80*2^40:=by rw[Nc];exact MH TR RH
  refine⟨iY (fw TR (by decide)) (fw RH (by decide)),?_⟩;refine⟨⟨_,_,rfl⟩,_,rfl,rfl,_,_,_,_,rfl,Qz,by omega,f0,cK (by have:(10:Int)^12<2^64:=(by decide);omega),λw o6 w0 w1 R0=>?_⟩;rfl'
  have TU:∀x∈r.1,(x*(1+p*B)).natAbs<2^64:=λx g=>by
   rw[Nc];have h1:=MH (Q x g) RH
   have:3*2^40<2^64:=by decide
   omega
  refine jV (f:=D.int) (λx=>x*(1+p*B)) (bq (by omega)) (λx g=>⟨iY (RV x g) (fw RH (by decide)),rfl⟩) ?_;refine⟨by rw[JT];exact bq (by omega),_,gF az M (r.1.map λx=>x*(1+p*B),(r.2+aB r.1 j)*(1+p*B)-w),_,o6,_,_,_,rfl,by rw[JW,SG];rfl,fE R3 ⟨by show (r.1.map _).length=k;rwa[JT],λx g=>?_,?_⟩,R0.mono (by omega)⟩
  ·obtain⟨y,hy,rfl⟩:=Kf.mp g;exact TU y hy
  ·show ((r.2+aB r.1 j)*(1+p*B)-w).natAbs<=2^200
   have:2^80*2^40+10^12<=2^200:=by decide
   omega
 rintro ρ ⟨M,o4,SE,QO,TQ,rfl,SG,R3,O⟩;rw[JT]at SG O;refine⟨_,_,rfl,rfl,?_⟩;refine rZ (f:=D.int) (h:=D.int) (λx y=>D.int (x+y)) (bq (by omega)) (λx _ y _=>⟨rfl,rfl⟩) ?_
 have e1:List.zipWith (λx y=>D.int (x+y)) sp j=(List.zipWith (λx y=>x+y) sp j).map D.int:=by rw[NH]
 rw[e1];refine⟨_,rfl,_,rfl,q C M (List.zipWith (λx y=>x+y) sp j) o4 ⟨hk,RC,L.gl,by omega,R3,Ov,λx g=>by have:=L.g x g;have e:(2:Nat)<2^64:=(by decide);omega⟩ (by rw[List.length_zipWith];omega) (λx g=>?_) (O.mono (by omega))⟩;obtain⟨i,S⟩:=KY g;rw[Mi]at S
 have Qq:i<sp.length:=La λc=>by rw[KI (show sp.length<=i by omega)]at S;cases S
 rw[bK Qq,bK (show i<j.length by omega)]at S;have e:sp[i]+j[i]=x:=Kv S;have h1:=L.s sp[i] (LU Qq);have h2:=Qk j[i] (LU _)
 have e20:(10:Nat)^20+10<=2^70:=by decide
 omega
inductive z__law_whole(ds:List D)(R:D->Prop):Prop|mk (i:Int) (_:ds=[.int i]) (_:R (.bl true))
def ET(F:Fun K WU WU nu f J)(a:mg "isinstance"=none)(c:mg "int"=none)(e:mg "bool"=none):FnOk P w K mg base aI (n+1) f J [Wz] (lSp K z__law_whole):=by
 refine F.okD EN (λds R h=>?_) (λg A outer s H E ds R j h=>?_)
 ·obtain⟨i,rfl,_⟩:=h;rfl
 obtain⟨i,rfl,q⟩:=h;refine⟨_,(aL (bp (jz (ia rfl a (aa 0) (gT (v:=.ty "int") rfl c Lu rfl) ae ae) (oA (He (PD.q (ia rfl a (aa 0) (gT (v:=.ty "bool") rfl e PyProof.Rows.boot_bool rfl) ae ae))))))),?_⟩;exact⟨true,AY i,λ_=>⟨false,GP i,q⟩,λh=>tf h⟩
inductive z__law_wholes(ds:List D)(R:D->Prop):Prop|mk (xs:List Int) (n:Int) (_:ds=[.tup (xs.map D.int),.int n]) (_:n=(xs.length:Int)) (_:xs.length<=500) (_:R (.bl true))
def Ji(F:Fun K WS WS kP f J)(r:Cl P w K mg base n WU [Wz] z__law_whole)(j:mg "isinstance"=none)(e:mg "tuple"=none)(p:mg "all"=none)(g:mg "len"=none):FnOk P w K mg base aI (n+1) f J [Wz,WT] (lSp K z__law_wholes):=by
 refine F.okD GT (λds R h=>?_) (λu A outer s H E ds R c h=>?_)
 ·obtain⟨xs,n,rfl,_⟩:=h;rfl
 obtain⟨xs,n,rfl,o,y,q⟩:=h;refine⟨_,(aL (bp (jz (ia rfl j (aa 0) (gT (v:=.ty "tuple") rfl e J8 rfl) ae ae) (jz (dS (dw c.units) (PD.q (bM cZ rfl g KH (aN (aa 0) aX ae) ae ag)) (aa 1) (aD _)) (oA (bM (qe rfl) rfl p MY (aN (PD.q (PF.d (de (k:=1) (N':=[WG]) (cap:=[none]) rfl (.ok (show bX [Wz,WT] (av kP) _ [WG] [none]=true by lia)) (by lia) (bE (by decide)) (cb (dv 0)) (λ_ _ _ _ _=>(bh (i:=0) (show List.Nodup ([WG]:List Str)by lia) rfl Wq)) (λ_ _ _ _ _=>(bj r c rfl (af (dv 0) ak ae) ae ag))))) aX bC) bC ag)))))),?_⟩
 have l:((xs.map D.int).length:Int)=n:=by rw[JT,o]
 have a:(((xs.map D.int).length:Int)==n)=true:=by rw[l];exact KC _
 refine⟨true,iM _,λ_=>⟨λ_=>?_,λh=>?_⟩,λh=>tf h⟩
 ·refine fN (f:=D.int) (λ_=>D.bl true) (bq (by omega)) (λx _=>⟨x,rfl,rfl⟩) ?_;refine⟨xs.map λ_=>true,by rw[KQ];rfl,?_⟩;refine toB q ?_;show (xs.map λ_=>true).all id=true;rw[Ln];intro b a;obtain⟨_,_,rfl⟩:=Kf.mp a;rfl
 ·have h':(((xs.map D.int).length:Int)==n)=false:=h;rw[a]at h';cases h'
inductive z__law_plan_is(ds:List D)(R:D->Prop):Prop|mk (n:Nat) (bs:List Bd) (rs:List aw) (gs:List Int) (_:ds=[cF bs rs gs,.int (n:Nat)]) (_:n<=8) (_:bs.length=n) (_:gs.length=n) (_:rs.length<=100) (_:(∀r∈rs,r.1.length=n)) (_:R (.bl true))
def GF(F:Fun K WZ WZ oU f J)(x:Cl P w K mg base n WS [Wz,WT] z__law_wholes)(p:Cl P w K mg base n WU [Wz] z__law_whole)(e:mg "isinstance"=none)(c:mg "tuple"=none)(g:mg "len"=none):FnOk P w K mg base aI (n+1) f J [Wu,Wx] (lSp K z__law_plan_is):=by
 refine F.okD sc__law_plan_is (λds R h=>?_) (λM A outer s H E ds R a h=>?_)
 ·obtain⟨k,bs,rs,gs,rfl,_⟩:=h;rfl
 obtain⟨k,bs,rs,gs,rfl,O,C,G,L,o,q⟩:=h
 refine⟨_,(fJ (cH (PWD.td (fv (cW (cA (PD.q (ia rfl e (aa 0) (gT (v:=.ty "tuple") rfl c J8 rfl) ae ae)) (λ_=>rfl))) (fv (aV (gj a.units) (PD.q (bM cZ rfl g KH (aN (aa 0) aX ae) ae ag)) (PD.q ao) (aD _)) (jl (cW (cA (PD.q (bj x a rfl (af (aA (aa 0)) (af (dv 1) ak ae) aG) aG (ay ae ag))) (λ_=>rfl))))))) (aL (bp dm)) cJ)
   (fJ (cH (PWD.td (fv (cW (cA (PD.q (ia rfl e (PD.q (aA (aa 0))) (gT (v:=.ty "tuple") rfl c J8 rfl) aG ae)) (λ_=>rfl))) (fv (cW (cA (PD.q (ia rfl e (PD.q (aA (aa 0))) (gT (v:=.ty "tuple") rfl c J8 rfl) aG ae)) (λ_=>rfl))) (jl (aV (gj a.units) (PD.q (bM cZ rfl g KH (aN (PD.q (aA (aa 0))) aX aG) aG ag)) (aa 1) (aD _)))))) (aL (bp dm)) cJ)
   (bI (fj Ki rfl (cb (aA (aa 0))) (bh (i:=2) sc__law_plan_is.nd rfl Wq) (fJ (cH (PWD.td (fv (cW (cA (PD.q (ia rfl e (aa 2) (gT (v:=.ty "tuple") rfl c J8 rfl) ae ae)) (λ_=>rfl))) (fv (aV (gj a.units) (PD.q (bM cZ rfl g KH (aN (aa 2) aX ae) ae ag)) (PD.q ao) (aD _)) (jl (cW (cA (PD.q (bj p a rfl (af (aA (aa 2)) ak aG) aG ag)) (λ_=>rfl))))))) (aL (bp dm)) cJ)
   (aL (cH (PWD.td (fK (aV ef (PD.q (aA (aa 2))) (PD.q bA) (aD _)) (ik (cW (cA (PD.q (bj p a rfl (af (aA (aa 2)) ak aG) aG ag)) (λ_=>rfl)))))) (aL (bp dm)) cJ))))
   (bI (fj Ki rfl (cb (aA (aa 0))) (bh (i:=3) sc__law_plan_is.nd rfl Wq) (aL (cH (PWD.td (fv (cW (cA (PD.q (ia rfl e (aa 3) (gT (v:=.ty "tuple") rfl c J8 rfl) ae ae)) (λ_=>rfl))) (fv (aV (gj a.units) (PD.q (bM cZ rfl g KH (aN (aa 3) aX ae) ae ag)) (PD.q ao) (aD _)) (fv (cW (cA (PD.q (bj x a rfl (af (aA (aa 3)) (af (dv 1) ak ae) aG) aG (ay ae ag))) (λ_=>rfl))) (jl (cW (cA (PD.q (bj p a rfl (af (aA (aa 3)) ak aG) aG ag)) (λ_=>rfl)))))))) (aL (bp dm)) cJ)))
   (aL (bp dm)))))),?_⟩
 refine⟨λρ=>ρ=[some (.v (cF bs rs gs)),some (.v (.int (k:Nat))),none,none],⟨true,iM _,ff,λ_=>⟨ff,λ_=>⟨_,rfl,gs,k,rfl,by rw[G],by omega,ff,λ_=>rfl⟩⟩⟩,?_⟩;rintro ρ rfl
 have B:((bs.map aS).length:Int)=(k:Nat):=by rw[JT,C]
 refine⟨λρ=>ρ=[some (.v (cF bs rs gs)),some (.v (.int (k:Nat))),none,none],⟨_,rfl,true,iM _,ff,λ_=>⟨_,rfl,true,iM _,ff,λ_=>⟨_,rfl,λh=>?_,λ_=>rfl⟩⟩⟩,?_⟩
 ·have h':(!((((bs.map aS).length:Nat):Int)==((k:Nat):Int)))=true:=h;rw[B,KC]at h';cases h'
 rintro ρ rfl;refine⟨_,rfl,λi ρ=>∃j:Option Sl,ρ=[some (.v (cF bs rs gs)),some (.v (.int (k:Nat))),j,none],⟨_,rfl⟩,?_,?_⟩
 ·rintro i d ρ hd ⟨j,rfl⟩;obtain⟨b,rfl,N⟩:=bP hd;refine⟨λρ=>ρ=[some (.v (cF bs rs gs)),some (.v (.int (k:Nat))),some (.v (aS b)),none],⟨true,iM _,ff,λ_=>⟨ff,λ_=>⟨_,rfl,b.1,rfl,ff,λ_=>rfl⟩⟩⟩,?_⟩;rintro ρ rfl;refine⟨oI b.2,rfl,?_⟩;obtain⟨l,I⟩:=b
  cases I with
  |none=>exact⟨ff,λ_=>⟨ff,λ_=>⟨_,rfl⟩⟩⟩
  |some mm=>exact⟨λ_=>⟨_,rfl,mm,rfl,ff,λ_=>⟨_,rfl⟩⟩,tf⟩
 rintro ρ ⟨j,rfl⟩;refine⟨_,rfl,λi ρ=>∃u:Option Sl,ρ=[some (.v (cF bs rs gs)),some (.v (.int (k:Nat))),j,u],⟨_,rfl⟩,?_,?_⟩
 ·rintro i d ρ hd ⟨u,rfl⟩;obtain⟨r,rfl,z⟩:=bP hd;have y:=o r (J0 z);exact⟨true,iM _,ff,λ_=>⟨ff,λ_=>⟨_,rfl,r.1,k,rfl,by rw[y],by omega,ff,λ_=>⟨_,rfl,r.2,rfl,ff,λ_=>⟨_,rfl⟩⟩⟩⟩⟩
 rintro ρ ⟨u,rfl⟩;exact q
inductive z__law_givens(ds:List D)(R:D->Prop):Prop|mk (bs:List Bd) (rs:List aw) (g:D) (_:ds=[.tup [.tup (bs.map aS),.tup (rs.map az),g]]) (_:bs.length<=8) (_:rs.length<=30) (_:R (.lst ((cS bs rs).map az)))
def pX{i j:Nat}:(if ((0+(i:Int))==(j:Int)) then (1:Int) else 0)=if i=j then 1 else 0:=by
 by_cases c:i=j
 ·subst c;rw[J9 (by rw[KW,KC]),J9 rfl]
 ·rw[JZ c,JZ];intro h;have:=eq_of_beq h;omega
def IP{bs:List Bd}{i:Nat}{b:Bd}(h:bs[i]?=some b):((List.range (i+1)).filter (cY bs)).map (cX bs)=((List.range i).filter (cY bs)).map (cX bs)++if b.2.isSome then [cX bs i] else []:=by
 rw[Me,MD,Lc];congr 1
 have e:cY bs i=b.2.isSome:=by unfold cY;rw[show ax bs i=b from fq h]
 cases a:b.2.isSome with
 |true=>rw[MJ (by rwa[e])];rfl
 |false=>rw[MK (by rw[e,a];decide)];rfl
def B4(F:Fun K WX WX ky f J)(N:mg "len"=none)(G:mg "enumerate"=none)(O:mg "list"=none)(B:mg "tuple"=none)(I:mg "int"=none)(C:mg "range"=none):FnOk P w K mg base aI (n+1) f J [Wu] (lSp K z__law_givens):=by
 refine F.okD sc__law_givens (λds R h=>?_) (λU A outer s H E ds R L h=>?_)
 ·obtain⟨bs,rs,g,rfl,_⟩:=h;rfl
 obtain⟨bs,rs,g,rfl,Z,T,q⟩:=h
 refine⟨_,(bI (dA (i:=1) sc__law_givens.nd rfl Wq (bM cZ rfl N KH (aN (PD.q (aA (aa 0))) aX aG) aG ag))
   (bI (Iy (i:=2) sc__law_givens.nd rfl Wq (dh ak))
   (bI (fj Ki rfl (gL rfl G (af (aA (aa 0)) ak aG)) (eu (n:=2) rfl (bR (bh (i:=3) sc__law_givens.nd rfl (Or.inr rfl)) (bR (eu (n:=2) rfl (bR (bh (i:=4) sc__law_givens.nd rfl Wq) (bR (bh (i:=5) sc__law_givens.nd rfl Wq) eG))) eG))) (aL (uM 2 (bx (af (b9 cN rfl B J8 (aN (PD.q (PF.d (de (k:=1) (N':=[WY,WD]) (cap:=[none,some 3]) rfl (.ok (show bX [Wu,Wx,Wv,WD,WI,WJ] (av ky) _ [WY,WD] [none,some 3]=true by lia)) (by lia) (bE (by decide)) (ir rfl C (af (dv 1) ak ae)) (λ_ _ _ _ _=>(bh (i:=0) (show List.Nodup ([WY,WD]:List Str)by lia) rfl Wq)) (λ_ _ _ _ _=>(b9 j8 rfl I Lu (aN (PD.q (dS (dw L.units) (aa 0) (aa 1) (aD _))) aX gD) gD ag))))) aX bC) bC ag) (af (dv 4) ak ae) bt)) (di bJ) bJ)))
   (bI (fj Ki rfl (gL rfl G (af (aA (aa 0)) ak aG)) (eu (n:=2) rfl (bR (bh (i:=3) sc__law_givens.nd rfl (Or.inr rfl)) (bR (eu (n:=2) rfl (bR (bh (i:=4) sc__law_givens.nd rfl Wq) (bR (bh (i:=5) sc__law_givens.nd rfl Wq) eG))) eG))) (aL (cH (aV ef (aa 5) (PD.q bA) (aD _)) (aL (uM 2 (bx (af (b9 cN rfl B J8 (aN (PD.q (PF.d (de (k:=1) (N':=[WY,WD]) (cap:=[none,some 3]) rfl (.ok (show bX [Wu,Wx,Wv,WD,WI,WJ] (av ky) _ [WY,WD] [none,some 3]=true by lia)) (by lia) (bE (by decide)) (ir rfl C (af (dv 1) ak ae)) (λ_ _ _ _ _=>(bh (i:=0) (show List.Nodup ([WY,WD]:List Str)by lia) rfl Wq)) (λ_ _ _ _ _=>(eI (PD.q (b9 j8 rfl I Lu (aN (PD.q (dS (dw L.units) (aa 0) (aa 1) (aD _))) aX gD) gD ag))))))) aX bC) bC ag) (af (eI (aa 5)) ak iS) bt)) (di bJ) bJ)) cJ)))
   (aL (bp (aU rM (aa 2) (PD.q (PF.d (lr rfl O (PD.q (aA (aa 0))) aG)))))))))),?_⟩
 have Q:((bs.map aS).length:Int)=(bs.length:Int):=by rw[JT]
 have Y:(((bs.map aS).length:Nat):Int).toNat=bs.length:=by omega
 refine⟨_,rfl,?_⟩;refine⟨_,rfl,λi ρ=>∃a c e:Option Sl,ρ=[some (.v (.tup [.tup (bs.map aS),.tup (rs.map az),g])),some (.v (.int (bs.length:Nat))),some (.own (((List.range i).map (fA bs)).map az)),a,c,e],⟨_,_,_,by rw[Q];rfl⟩,?_,?_⟩
 ·rintro i d ρ hd ⟨a,c,e,rfl⟩;obtain⟨x,u,rfl⟩:=gH hd;obtain⟨b,rfl,j⟩:=bP u;have M:=aE j;refine⟨rfl,rfl,?_⟩;refine⟨⟨by omega,by omega⟩,?_⟩;refine km (λo=>D.int (if o=i then 1 else 0)) (bq (by omega)) (λo _=>KO D.int pX) ?_;have r:ax bs i=b:=fq j;refine⟨by rw[JT,JT,Km];exact bq (by omega),((List.range (i+1)).map (fA bs)).map az,?_,_,_,_,rfl⟩;rw[Me,Lc,Lc];congr 1;show [D.tup [D.tup ((List.range ((bs.length:Nat):Int).toNat).map λo=>D.int (if o=i then 1 else 0)),D.int b.1]]=[az (fA bs i)];unfold fA az cC;rw[r,K0,KQ];rfl
 rintro ρ ⟨a,c,e,rfl⟩
 have y:(ip (bs.map aS)).length=bs.length:=by rw[eY,JT]
 rw[y];refine⟨_,rfl,λi ρ=>∃a c e:Option Sl,ρ=[some (.v (.tup [.tup (bs.map aS),.tup (rs.map az),g])),some (.v (.int (bs.length:Nat))),some (.own (((List.range bs.length).map (fA bs)++((List.range i).filter (cY bs)).map (cX bs)).map az)),a,c,e],⟨_,_,_,by rw[show (List.range bs.length).map (fA bs)++((List.range 0).filter (cY bs)).map (cX bs)=(List.range bs.length).map (fA bs)from Kz _]⟩,?_,?_⟩
 ·rintro i d ρ hd ⟨a,c,e,rfl⟩;obtain⟨x,u,rfl⟩:=gH hd;obtain⟨b,rfl,j⟩:=bP u;have M:=aE j;have r:ax bs i=b:=fq j
  have X:(((List.range i).filter (cY bs)).map (cX bs)).length<=i:=by
   rw[JT];have:=Lh (cY bs) (List.range i)
   rwa [Km]at this
  refine⟨rfl,rfl,?_⟩;have v:=IP j;obtain⟨l,S⟩:=b
  cases S with
  |none=>
   have p:((List.range (i+1)).filter (cY bs)).map (cX bs)=((List.range i).filter (cY bs)).map (cX bs):=by rw[v];exact Kz _
   exact⟨ff,λ_=>⟨some (.v (.int (i:Nat))),some (.v (.int l)),some (.v .non),by rw[p];rfl⟩⟩
  |some mm=>
   refine⟨λ_=>?_,tf⟩;refine⟨⟨by omega,by omega⟩,?_⟩;refine km (λo=>D.int (-(if o=i then 1 else 0))) (bq (by omega)) (λo _=>KO (λz:Int=>D.int (-z)) pX) ?_;refine⟨by rw[JT,JW,JT,Km];exact bq (by omega),((List.range bs.length).map (fA bs)++((List.range (i+1)).filter (cY bs)).map (cX bs)).map az,?_,_,_,_,rfl⟩;have p:((List.range (i+1)).filter (cY bs)).map (cX bs)=((List.range i).filter (cY bs)).map (cX bs)++[cX bs i]:=v;rw[p,←Kc,Lc (l₂:=[cX bs i])];congr 1;show [D.tup [D.tup ((List.range ((bs.length:Nat):Int).toNat).map λo=>D.int (-(if o=i then 1 else 0))),D.int (-mm)]]=[az (cX bs i)];unfold cX az lh cC;rw[r,K0,KQ,KQ];rfl
 rintro ρ ⟨a,c,e,rfl⟩;rw[y];refine⟨_,rfl,_,rfl,hG ?_,_,qI az _ _,?_⟩
 ·rw[JT,JT,JW,JT,Km,JT];have:=Lh (cY bs) (List.range bs.length);rw[Km]at this;omega
 ·exact q
def sQ(n:Nat)(s:Led)(a:List D):D:=.obj "Struck" [("ledger",iN s),("breadth",.int (n:Nat)),("kind",.str "none"),("paper",.tup a),("slim",.non),("kept",.tup []),("extra",.int 0)]
def mS:∀(n:Nat)(xs:List Int),gv (dD n) (xs.map D.int) (xs.map D.int)=some true
 |_,[]=>rfl
 |n,x::xs=>by
  have e:dD n (D.int x) (D.int x)=some true:=by
   have:dD n (D.int x) (D.int x)=some (x==x):=by cases n<;>rfl
   rw[this,KC]
  show ((dD n (D.int x) (D.int x)).bind λb=>(gv (dD n) (xs.map D.int) (xs.map D.int)).map (b&&·))=_;rw[e,mS n xs];rfl
def zH{R:D->Prop}(xs:List Int)(q:R (.bl true)):kn (.lst (xs.map D.int)) (.lst (xs.map D.int)) R:=by
 have e:dD 40 (.lst (xs.map D.int)) (.lst (xs.map D.int))=some true:=by show (if (xs.map D.int).length=(xs.map D.int).length then gv (dD 39) (xs.map D.int) (xs.map D.int) else some false)=_;rw[J9 rfl,mS]
 unfold kn;rwa[e]
def tJ{x:Nat}{st:List Nat}:jA (.inl (x:Int)) (st.map λn:Nat=>(Sum.inl (n:Int):aC))=decide (x∈st):=by
 rw[NN,Cf,Nr,Kf];constructor
 ·rintro⟨y,a,e⟩;have:(y:Int)=(x:Int):=Sum.inl.inj e
  have:y=x:=by omega
  exact this▸a
 ·intro h;exact⟨x,h,rfl⟩
def tG(b:Bool):(false != b)=b:=by cases b<;>rfl
inductive z__law_fields(ds:List D)(R:D->Prop):Prop|mk (d:D) (n:Nat) (s:Led) (_:ds=[d,.int (n:Nat)]) (_:((d=fH n s/\Wy n s)\/∃pp,d=sQ n s pp)) (_:R (.bl true))
def BK(F:Fun K W6 W6 lN f J){B:Addr}(a:TxtStruck K mg B)(M:Cl P w K mg base n WS [Wz,WT] z__law_wholes)(L:Cl P w K mg base n WU [Wz] z__law_whole)(y:Cl P w K mg base n WZ [Wu,Wx] z__law_plan_is)(G:mg "list"=none)(p:mg "isinstance"=none)(l:mg "tuple"=none)(o:mg "len"=none)(C:mg "range"=none):FnOk P w K mg base aI (n+1) f J [WB,Wx] (lSp K z__law_fields):=by
 refine F.okD sc__law_fields (λds R h=>?_) (λO A outer s H E ds R e h=>?_)
 ·obtain⟨d,k,s,rfl,_⟩:=h;rfl
 obtain⟨d,k,s,rfl,hd,q⟩:=h
 refine⟨_,(bI (dA (i:=2) sc__law_fields.nd rfl (Or.inr rfl) (aT a.cl a.n_kept a.ns (aa 0)))
   (fJ (cH (PWD.td (fv (cW (cA (PD.q (ia rfl p (aa 2) (gT (v:=.ty "tuple") rfl l J8 rfl) ae ae)) (λ_=>rfl))) (fv (cW (cA (PD.q (bj M e rfl (af (dv 2) (af (bM cZ rfl o KH (aN (aa 2) aX ae) ae ag) ak bt) ae) ae (ay bt ag))) (λ_=>rfl))) (jl (cW (cA (PD.q (bj L e rfl (af (aT a.cl a.n_extra a.ns (aa 0)) ak aP) aP ag)) (λ_=>rfl))))))) (aL (bp dm)) cJ)
   (fJ (cH (aV (dw e.units) (PD.q (aT a.cl a.n_kind a.ns (aa 0))) (PD.q jv) (aD _)) (aL (bp (jz (dS (dw e.units) (aa 2) (PD.q (bx ak)) (aD _)) (jz (dS (dw e.units) (PD.q (aT a.cl a.n_extra a.ns (aa 0))) (PD.q ao) (aD _)) (jz (dS gX (PD.q (aT a.cl a.n_slim a.ns (aa 0))) (PD.q bA) (aD _)) (oA (ia rfl p (PD.q (aT a.cl a.n_paper a.ns (aa 0))) (gT (v:=.ty "tuple") rfl l J8 rfl) aP ae))))))) cJ)
   (fJ (cH (PWD.td (fv (aV (gj e.units) (PD.q (aT a.cl a.n_kind a.ns (aa 0))) (PD.q jv) (aD _)) (fv (aV ef (PD.q (aT a.cl a.n_paper a.ns (aa 0))) (PD.q bA) (aD _)) (jl (cW (cA (PD.q (bj y e rfl (af (aT a.cl a.n_slim a.ns (aa 0)) (af (bM cZ rfl o KH (aN (aa 2) aX ae) ae ag) ak bt) aP) aP (ay bt ag))) (λ_=>rfl))))))) (aL (bp dm)) cJ)
   (aL (bp (dS (dw e.units) (PD.q (PF.d (lr rfl G (aa 2) ae))) (PD.q (PF.d (rX (k:=1) (N':=[WD,W0]) (cap:=[none,some 2]) rfl (.ok (show bX [WB,Wx,W0] (av lN) _ [WD,W0] [none,some 2]=true by lia)) (by lia) (bE (by decide)) (ir rfl C (af (dv 1) ak ae)) (λ_ _ _ _ _=>(bh (i:=0) (show List.Nodup ([WD,W0]:List Str)by lia) rfl Wq)) (λ_ _ _ _ _=>(ki (aV Cz (aa 0) (aa 1) (by with_unfolding_all rfl)))) (λ_ _ _ _ _=>(dv 0))))) (aD _)))))))),?_⟩
 rcases hd with⟨rfl,g⟩|⟨N,rfl⟩
 ·have S:=g.n8;have Q:=g.sn;refine⟨rfl,_,rfl,?_⟩;refine⟨λρ=>ρ=[some (.v (fH k s)),some (.v (.int (k:Nat))),some (.v (.tup (s.st.map bg)))],⟨true,iM _,ff,λ_=>⟨s.st.map λn:Nat=>(n:Int),_,by rw[mF],by rw[JT,JT],by rw[JT];omega,ff,λ_=>⟨rfl,_,rfl,s.ex,rfl,ff,λ_=>rfl⟩⟩⟩,?_⟩;rintro ρ rfl;refine⟨λρ=>ρ=[some (.v (fH k s)),some (.v (.int (k:Nat))),some (.v (.tup (s.st.map bg)))],⟨rfl,_,rfl,λh=>absurd h (by lia),λ_=>rfl⟩,?_⟩;rintro ρ rfl;refine⟨λρ=>ρ=[some (.v (fH k s)),some (.v (.int (k:Nat))),some (.v (.tup (s.st.map bg)))],⟨rfl,_,rfl,λh=>absurd h (by lia),λ_=>⟨rfl,_,rfl,ff,λ_=>⟨rfl,_,rfl,s.st.length,pk (0,none) s.bs s.st,s.rs.map (gf s.st),pk 0 s.gl s.st,?_,by omega,by unfold pk;rw[JT],by unfold pk;rw[JT],by rw[JT];have:=g.rl;omega,λr z=>?_,ff,λ_=>rfl⟩⟩⟩,?_⟩
  ·rw[JT];rfl
  ·obtain⟨x,U,rfl⟩:=Kf.mp z;show (pk 0 x.1 s.st).length=_;unfold pk;rw[JT]
  rintro ρ rfl;refine⟨_,rfl,⟨by omega,by omega⟩,by rw[gm];exact bq (by omega),iZ (λu=>decide (u∈s.st)) (λu=>bg u),λi d hd=>?_,λys j I=>?_⟩
  ·obtain⟨T,rfl⟩:=gR hd;refine⟨.inl (0+(i:Int)),s.st.map λn:Nat=>(Sum.inl (n:Int):aC),rfl,?_,λc=>?_,λc=>?_⟩
   ·show some (s.st.map bg)=_;rw[KQ];rfl
   ·rw[tG,KW,tJ]at c;exact⟨by show D.int _=D.int _;rw[KW],c⟩
   ·rw[tG,KW,tJ]at c;exact c
  rw[gm]at j;rw[j6 j I,K0,Gw g.so g.sl,mF];exact zH _ q
 ·refine⟨rfl,_,rfl,?_⟩;refine⟨λρ=>ρ=[some (.v (sQ k s N)),some (.v (.int (k:Nat))),some (.v (.tup []))],⟨true,iM _,ff,λ_=>⟨[],_,rfl,rfl,by decide,ff,λ_=>⟨rfl,_,rfl,0,rfl,ff,λ_=>rfl⟩⟩⟩,?_⟩;rintro ρ rfl;refine⟨λ_=>False,⟨rfl,_,rfl,λ_=>⟨λ_=>⟨rfl,_,rfl,λ_=>⟨rfl,_,rfl,λ_=>⟨rfl,_,rfl,true,iM _,q⟩,tf⟩,tf⟩,tf⟩,λh=>absurd h (by lia)⟩,λρ h=>h.elim⟩
abbrev cL(x:List Int):D:=.tup (x.map D.int)
def HU(w:Nat)(a:List (List Int))(b:Bd)(x:List Int):eO w (a++[x]) b=eO w a b++(iB b.1 (dO w b)).map λv=>x++[v]:=by
 unfold eO;rw[List.flatMap_append];show _++(_++[])=_;rw[Kz]
def C4{d:D}{ds:List D}{R:List D->Prop}{ρ:bz}(h:df d=some ds)(q:R ds):vL (λ_ k=>k d) ρ R:=by
 cases d with
 |lst _=>cases h;exact q
 |tup _=>cases h;exact q
 |fzl _=>cases h;exact q
 |_=>cases h
inductive z__law_window(ds:List D)(R:D->Prop):Prop|mk (d:D) (bs:List Bd) (w:Nat) (_:ds=[d,.int (w:Nat)]) (_:df d=some (bs.map aS)) (_:bs.length<=8) (_:(∀k,k<=bs.length->(dM w (bs.take k)).length<=500)) (_:w<=3) (_:(∀b∈bs,b.1.natAbs<=2^60/\∀m,b.2=some m->m.natAbs<=2^60)) (_:R (.lst ((dM w bs).map cL)))
def E9(F:Fun K W7 W7 lU f J)(X:mg "min"=none)(N:mg "range"=none):FnOk P w K mg base aI (n+1) f J [WC,WW] (lSpM K (zM z__law_window)):=by
 refine F.okM sc__law_window (λas R L h=>?_) (λY A outer s H E as R L qs Z hr h G=>?_)
 ·obtain⟨_,rfl,d,bs,w,rfl,_⟩:=h;rfl
 obtain⟨_,rfl,d,bs,w,rfl,hd,hl,I,hw,Q,q⟩:=h;obtain rfl:=jc G
 refine⟨_,(ar (aM (i:=2) sc__law_window.nd rfl Wq (ah (PF.d (dh (af (bx ak) ak bJ)))))
   (ar (eP Ki rfl (eT (cb (dv 0))) (iR (n:=2) rfl (eC (cD (i:=3) sc__law_window.nd rfl Wq) (eC (cD (i:=4) sc__law_window.nd rfl Wq) iI))) (ar (aM (i:=5) sc__law_window.nd rfl Wq (ah (aU cP (aa 3) (aa 1))))
   (cI (b7 (bY (aV ef (aa 4) (PD.q bA) (aD _))) (aQ (aM (i:=5) sc__law_window.nd rfl Wq (ah (bM (GU rfl) rfl X PyProof.Rows.boot_min (aN (aa 5) (aN (aa 4) aX ae) ae) ae (ay ae ag))))) cq)
   (ar (aM (i:=6) sc__law_window.nd rfl Wq (dB (dh ak)))
   (ar (eP Ki rfl (eT (cb (dv 2))) (cD (i:=7) sc__law_window.nd rfl (Or.inr rfl)) (aQ (zC 6 (dB (de (k:=1) (N':=[WH,Ws]) (cap:=[none,some 7]) rfl (.ok (show bX [WC,WW,"_law_spots",WI,WJ,"_law_top","_law_longer",Ws] (av lU) _ [WH,Ws] [none,some 7]=true by lia)) (by lia) (bE (by decide)) (BL rfl N (af (dv 3) (af (aU cP (aa 5) (PD.q ao)) ak bW) ae)) (λ_ _ _ _ _=>(bh (i:=0) (show List.Nodup ([WH,Ws]:List Str)by lia) rfl Wq)) (λ_ _ _ _ _=>(aU kU (aa 1) (PD.q (bx (af (dv 0) ak ae))))))) (di bC) bC)))
   (iz 6 (aQ (aM (i:=2) sc__law_window.nd rfl Wq (ah (dv 6))))))))))
   (aQ (cw (ah (dv 2)))))),?_⟩
 intro ke;refine C4 (ρ:=[]) hd ?_;refine⟨λi ρ=>∃u y z c a:Option Sm,ρ=[some (.v d),some (.v (.int (w:Nat))),some (.v (.lst ((dM w (bs.take i)).map cL))),u,y,z,c,a],⟨_,_,_,_,_,rfl⟩,?_,?_⟩
 ·rintro i e ρ o ⟨u,y,z,c,a,rfl⟩;obtain⟨b,rfl,g⟩:=bP o;obtain⟨B,M⟩:=Q b (J0 g);have Qq:=aE g;refine⟨rfl,?_⟩;have C:dO w b=dO w b:=rfl;refine⟨λρ=>ρ=[some (.v d),some (.v (.int (w:Nat))),some (.v (.lst ((dM w (bs.take i)).map cL))),some (.v (.int b.1)),some (.v (oI b.2)),some (.v (.int (dO w b))),c,a],?_,?_⟩
  ·obtain⟨l,r⟩:=b
   cases r with
   |none=>exact⟨ff,λ_=>rfl⟩
   |some mm=>exact⟨λ_=>rfl,tf⟩
  rintro ρ rfl;refine⟨λj ρ=>∃a:Option Sm,ρ=[some (.v d),some (.v (.int (w:Nat))),some (.v (.lst ((dM w (bs.take i)).map cL))),some (.v (.int b.1)),some (.v (oI b.2)),some (.v (.int (dO w b))),some (.own ((eO w ((dM w (bs.take i)).take j) b).map cL)),a],⟨_,rfl⟩,?_,?_⟩
  ·rintro j e ρ o ⟨a,rfl⟩;obtain⟨x,rfl,p⟩:=bP o
   have Qt:x.length<=8:=by have:=(wnd_mem.mp (J0 p)).1;rw[K8]at this;omega
   have T:=I i (by omega);have hj:=aE p
   have O:(2:Nat)^60+10<2^62:=by decide
   have ht:dO w b<=b.1+w/\-(2^60)-1<=dO w b:=by
    obtain⟨l,r⟩:=b;unfold dO
    cases r with
    |none=>dsimp only at B ⊢;omega
    |some mm=>
     have:=M mm rfl;dsimp only at B ⊢;split<;>omega
   have er:cQ b.1 (dO w b+1-b.1).toNat=(iB b.1 (dO w b)).map D.int:=by unfold cQ iB;rw[KQ];rfl
   have S:=xa 0 w b
   have U:(eO w ((dM w (bs.take i)).take j) b).length<=500*4:=by refine Kl (rK w b _) (MH ?_ (by omega));rw[K8];omega
   refine⟨⟨by omega,by omega,by omega,by omega⟩,?_⟩;rw[er];refine fN (f:=D.int) (λv=>cL (x++[v])) (bq (by omega)) (λv _=>⟨hG (by rw[JT];show _+1<=1000;omega),_,by rw[Lc];rfl,rfl⟩) ?_;refine⟨?_,(eO w ((dM w (bs.take i)).take (j+1)) b).map cL,?_,_,rfl⟩
   ·rw[JT,JT]
    have:3000<=sizeLine:=by rw[Mq];decide
    omega
   ·rw[hX p,HU,Lc,KQ];rfl
  rintro ρ ⟨a,rfl⟩;rw[JT,LF]
  have e:dM w (bs.take (i+1))=eO w (dM w (bs.take i)) b:=by rw[hX g,qN]
  exact⟨some (.v (.int b.1)),some (.v (oI b.2)),some (.v (.int (dO w b))),some (.v (.lst ((eO w (dM w (bs.take i)) b).map cL))),a,by rw[e];rfl⟩
 rintro ρ ⟨u,y,z,c,a,rfl⟩;rwa[JT,LF]
inductive z__law_goes(ds:List D)(R:D->Prop):Prop|mk (rs:List aw) (x:List Int) (_:ds=[.lst (rs.map az),.tup (x.map D.int)]) (_:rs.length<=100) (_:(∀r∈rs,r.1.length<=1000/\∀y∈r.1,bN y)) (_:(∀y∈x,bN y)) (_:R (.bl (rs.all λr=>decide (0<=aB r.1 x))))
def Ce(F:Fun K W2 W2 kT f J)(l:Cl P w K mg base n WO [Ww,Ws] z__law_times)(j:mg "all"=none):FnOk P w K mg base aI (n+1) f J [Wv,WA] (lSp K z__law_goes):=by
 refine F.okD A9 (λds R h=>?_) (λo A outer s H E ds R e h=>?_)
 ·obtain⟨rs,x,rfl,_⟩:=h;rfl
 obtain⟨rs,x,rfl,p,a,g,q⟩:=h;refine⟨_,(aL (bp (bM (qe rfl) rfl j MY (aN (PD.q (PF.d (de (k:=2) (N':=[Ww,WK,WA]) (cap:=[none,none,some 1]) rfl (.ok (show bX [Wv,WA] (av kT) _ [Ww,WK,WA] [none,none,some 1]=true by lia)) (by lia) (iA (n:=2) (eo (bE (by decide)) (eo (bE (by decide)) iG))) (cb (dv 0)) (λ_ _ _ _ _=>(eu (n:=2) rfl (bR (bh (i:=0) (show List.Nodup ([Ww,WK,WA]:List Str)by lia) rfl Wq) (bR (bh (i:=1) (show List.Nodup ([Ww,WK,WA]:List Str)by lia) rfl Wq) eG)))) (λ_ _ _ _ _=>(dS nj (PD.q (bj l e rfl (af (dv 0) (af (dv 2) ak ae) ae) ae (ay ae ag))) (PD.q ao) (aD _)))))) aX bC) bC ag))),?_⟩;refine fN (f:=az) (λr=>D.bl (decide (0<=aB r.1 x))) (bq (by omega)) (λr c=>⟨rfl,r.1,x,rfl,(a r c).1,(a r c).2,g,rfl⟩) ?_;refine⟨rs.map λr=>decide (0<=aB r.1 x),by rw[KQ];rfl,?_⟩;refine toB q ?_;show (rs.map _).all id=_;rw[List.all_map];rfl
def jh(k:Nat):List (List Int):=if k<6 then dM (if 3<k then 1 else 2) (List.replicate k (0,some 2)) else [List.replicate k 0,List.replicate k 1]++(List.range k).map (cC k)
inductive z__law_rays(ds:List D)(R:D->Prop):Prop|mk (k:Nat) (_:ds=[.int (k:Nat)]) (_:k<=8) (_:R (.lst ((jh k).map cL)))
def ud{k j:Nat}(e:k<6):(dM (if 3<k then 1 else 2) ((List.replicate k ((0:Int),(some 2:Option Int))).take j)).length<=500:=by
 have c:=FG (if 3<k then 1 else 2) ((List.replicate k ((0:Int),(some 2:Option Int))).take j)
 have a:((List.replicate k ((0:Int),(some 2:Option Int))).take j).length<=k:=by rw[K8,Kg];omega
 refine Kl c ?_;split
 ·exact Kl (Lb (by decide) (Kl a (show k<=5 by omega))) (by decide)
 ·exact Kl (Lb (by decide) (Kl a (show k<=3 by omega))) (by decide)
def CG(F:Fun K Xd Xd kB f J)(v:Cl P w K mg base n W7 [WC,WW] z__law_window)(a:mg "range"=none)(B:mg "tuple"=none)(r:mg "int"=none):FnOk P w K mg base aI (n+1) f J [Wt] (lSpM K (zM z__law_rays)):=by
 refine F.okM sc__law_rays (λas R z h=>?_) (λL A outer s H E as R z S M u h y=>?_)
 ·obtain⟨_,rfl,k,rfl,_⟩:=h;rfl
 obtain⟨_,rfl,k,rfl,O,q⟩:=h;obtain rfl:=jc y
 refine⟨_,(cI (b7 (bY (aV iE (aa 0) (PD.q ao) (aD _))) (aQ (cw (ah (bj v u rfl (af (PF.d (de (k:=1) (N':=[WD]) (cap:=[none]) rfl (.ok (show bX [Wt,W9,W3] (av kB) _ [WD] [none]=true by lia)) (by lia) (bE (by decide)) (ir rfl a (af (dv 0) ak ae)) (λ_ _ _ _ _=>(bh (i:=0) (show List.Nodup ([WD]:List Str)by lia) rfl Wq)) (λ_ _ _ _ _=>(bx (af ao (af ao ak aF) aF))))) (af (aU du (PD.q ao) (PD.q (b9 j8 rfl r Lu (aN (PD.q (dS fm (aa 0) (PD.q ao) (aD _))) aX gD) gD ag))) ak bW) bC) bC (ay bW ag))))) cq)
   (ar (aM (i:=1) sc__law_rays.nd rfl Wq (dB (dh (af (aU uI (PD.q (bx (af ao ak aF))) (aa 0)) (af (aU uI (PD.q (bx (af ao ak aF))) (aa 0)) ak bW) bW))))
   (ar (eP Ki rfl (eT (ir rfl a (af (dv 0) ak ae))) (cD (i:=2) sc__law_rays.nd rfl (Or.inr rfl)) (aQ (gp 1 (ah (b9 cN rfl B J8 (aN (PD.q (PF.d (de (k:=1) (N':=[WD,W3]) (cap:=[none,some 2]) rfl (.ok (show bX [Wt,W9,W3] (av kB) _ [WD,W3] [none,some 2]=true by lia)) (by lia) (bE (by decide)) (ir rfl a (af (dv 0) ak ae)) (λ_ _ _ _ _=>(bh (i:=0) (show List.Nodup ([WD,W3]:List Str)by lia) rfl Wq)) (λ_ _ _ _ _=>(b9 j8 rfl r Lu (aN (PD.q (dS (dw u.units) (aa 0) (aa 1) (aD _))) aX gD) gD ag))))) aX bC) bC ag)) (di bt) bt)))
   (iz 1 (aQ (cw (ah (dv 1)))))))),?_⟩
 intro Q;by_cases e:k<6
 ·have er:jh k=dM (if 3<k then 1 else 2) (List.replicate k (0,some 2)):=J9 e;refine⟨λ_=>False,⟨λ_=>?_,λh=>absurd (Li h) (by omega)⟩,λρ h=>h.elim⟩;refine⟨⟨by omega,by omega⟩,?_⟩;refine km (λ_=>aS (0,some 2)) (bq (by omega)) (λ_ _=>rfl) ?_;refine⟨.lst ((List.replicate k (0,some 2)).map aS),List.replicate k (0,some 2),if 3<k then 1 else 2,?_,rfl,by rw[Kg];omega,λj _=>ud e,by split<;>omega,λb G=>?_,?_⟩
  ·have C:(List.range ((k:Nat):Int).toNat).map (λ_=>aS (0,some 2))=(List.replicate k (0,some 2)).map aS:=by
    rw[K0,List.map_replicate];refine Lf λi=>?_;rw[J7];by_cases c:i<k
    ·rw[LO c,LL c];rfl
    ·rw[KI (by rw[Km];omega),KI (by rw[Kg];omega)];rfl
   rw[C];by_cases p:3<k
   ·rw[J9 p];have:decide ((3:Int)<(k:Nat))=true:=KZ (by omega);rw[this];rfl
   ·rw[JZ p];have:decide ((3:Int)<(k:Nat))=false:=Ku (by omega);rw[this];rfl
  ·rw[Lv G];exact⟨by decide,λm I=>by cases I;decide⟩
  ·rw[er]at q;exact q
 ·refine⟨λρ=>ρ=[some (.v (.int (k:Nat))),none,none],⟨λh=>absurd (dP h) (by omega),λ_=>rfl⟩,?_⟩;rintro ρ rfl
  have l:∀x:Int,(List.replicate ((k:Nat):Int).toNat [D.int x]).flatten=(List.replicate k x).map D.int:=λx=>by rw[K0];exact qy k x
  refine⟨⟨by simp,by omega,by omega,by show ((k:Nat):Int).toNat*1<=1000;omega⟩,(List.replicate k 0).map D.int,l 0,⟨by simp,by omega,by omega,by show ((k:Nat):Int).toNat*1<=1000;omega⟩,(List.replicate k 1).map D.int,l 1,?_⟩;refine⟨⟨by omega,by omega⟩,λi ρ=>∃g:Option Sm,ρ=[some (.v (.int (k:Nat))),some (.own (([List.replicate k 0,List.replicate k 1]++(List.range i).map (cC k)).map cL)),g],⟨_,rfl⟩,?_,?_⟩
  ·rintro i d ρ hd ⟨g,rfl⟩;obtain⟨N,rfl⟩:=gR hd;refine⟨⟨by omega,by omega⟩,?_⟩;refine km (λo=>D.int (if o=i then 1 else 0)) (bq (by omega)) (λo _=>?_) ?_
   ·have:=@pX o i;show D.int (if (0+(o:Int))==(0+(i:Int)) then 1 else 0)=_;rw[KW (i:Int)];exact KO D.int this
   ·refine⟨by rw[JT,JW,JT,Km];exact bq (by show 2+i<=1000;omega),([List.replicate k 0,List.replicate k 1]++(List.range (i+1)).map (cC k)).map cL,?_,_,rfl⟩;rw[Me,Lc (f:=cC k),←Kc,Lc (l₂:=List.map (cC k) [i])];congr 1;show [D.tup ((List.range ((k:Nat):Int).toNat).map λo=>D.int (if o=i then 1 else 0))]=[cL (cC k i)];unfold cC;rw[K0];show _=[D.tup (((List.range k).map _).map D.int)];rw[KQ];rfl
  rintro ρ ⟨g,rfl⟩;have er:jh k=[List.replicate k 0,List.replicate k 1]++(List.range k).map (cC k):=JZ e;rwa[gm,K0,←er]
inductive z__law_back(ds:List D)(R:D->Prop):Prop|mk (n:Nat) (bs:List Bd) (rs:List aw) (gs:List Int) (s:Led) (x y:List Int) (_:ds=[cF bs rs gs,fH n s,cL x,cL y]) (_:Wy n s) (_:PlOk n bs rs gs) (_:s.gl=gs) (_:x.length=s.st.length) (_:(∀v∈x,bN v)) (_:(∀v∈y,bN v)) (_:y.length=n) (_:(∀k,k<s.st.length->y.getD (s.st.getD k 0) 0=x.getD k 0)) (_:(∀r∈cS bs rs,0<=aB r.1 y)) (_:aB gs y=aB (pk 0 s.gl s.st) x) (_:R (.bl true))
def Fm{R:D->Prop}(xs:List Int)(q:R (.bl false)):mQ (.lst (xs.map D.int)) (.lst (xs.map D.int)) R:=by
 have e:dD 40 (.lst (xs.map D.int)) (.lst (xs.map D.int))=some true:=by show (if (xs.map D.int).length=(xs.map D.int).length then gv (dD 39) (xs.map D.int) (xs.map D.int) else some false)=_;rw[J9 rfl,mS]
 unfold mQ;rwa[e]
def qm{n k:Nat}:∀y∈cC n k,y.natAbs<=1:=λy a=>by obtain⟨o,_,rfl⟩:=Kf.mp a;split<;>decide
def wQ{n:Nat}{bs:List Bd}{rs:List aw}(l:bs.length=n)(j:n<=1000)(e:∀r∈rs,r.1.length=n/\∀x∈r.1,x.natAbs<2^64):∀r∈cS bs rs,r.1.length<=1000/\∀y∈r.1,bN y:=by
 refine giv_all.mpr ⟨λk g=>⟨by show (cC bs.length k).length<=_;rw[nM];omega,λy a=>fw (m:=1) (Kl (qm y a) (by decide)) (by decide)⟩,λk g _=>⟨by show ((cC bs.length k).map _).length<=_;rw[JT,nM];omega,λy a=>?_⟩,λr c=>⟨by rwa[(e r c).1],λy a=>fw (m:=64) (Lo ((e r c).2 y a)) (by decide)⟩⟩;obtain⟨z,h,rfl⟩:=Kf.mp (show y∈(cC bs.length k).map (- ·)from a);refine fw (m:=1) ?_ (by decide);rw[NX];exact Kl (qm z h) (by decide)
def DI{st:List Nat}{x y:List Int}(a:x.length=st.length)(h:∀k,k<st.length->y.getD (st.getD k 0) 0=x.getD k 0):(st.map λu=>D.int (y.getD u 0))=x.map D.int:=by
 refine Lf λi=>?_;rw[J7,J7];by_cases c:i<st.length
 ·rw[bZ (d:=0) c,bZ (d:=0) (show i<x.length by omega)];exact KO (λz=>some (D.int z)) (h i c)
 ·rw[KI (by omega),KI (by omega)];rfl
def zF(F:Fun K Xe Xe kH f J){L:Addr}(e:TxtStruck K mg L)(Z:Cl P w K mg base n W2 [Wv,WA] z__law_goes)(I:Cl P w K mg base n WO [Ww,Ws] z__law_times)(X:Cl P w K mg base n WS [Wz,WT] z__law_wholes)(Y:Cl P w K mg base n WX [Wu] z__law_givens)(T:mg "list"=none)(S:mg "len"=none):FnOk P w K mg base aI (n+1) f J [Wu,WB,WA,Wz] (lSp K z__law_back):=by
 refine F.okD Cj (λds R h=>?_) (λOh A outer s H E ds R c h=>?_)
 ·obtain⟨k,bs,rs,gs,s,x,y,rfl,_⟩:=h;rfl
 obtain⟨k,bs,rs,gs,s,x,y,rfl,j,a,l,N,U,G,B,p,O,M,q⟩:=h
 refine⟨_,(fJ (cH (PWD.td (fv (cW (cA (PD.q (bj X c rfl (af (dv 3) (af (bM cZ rfl S KH (aN (PD.q (aA (aa 0))) aX aG) aG ag) ak bt) ae) ae (ay bt ag))) (λ_=>rfl))) (jl (aV (gj c.units) (PD.q (PF.d (de (k:=1) (N':=[WD,Wz]) (cap:=[none,some 3]) rfl (.ok (show bX [Wu,WB,WA,Wz] (av kH) _ [WD,Wz] [none,some 3]=true by lia)) (by lia) (bE (by decide)) (cb (aT e.cl e.n_kept e.ns (aa 1))) (λ_ _ _ _ _=>(bh (i:=0) (show List.Nodup ([WD,Wz]:List Str)by lia) rfl Wq)) (λ_ _ _ _ _=>(bD (aa 1) (aa 0) (λ_ _=>rfl)))))) (PD.q (PF.d (lr rfl T (aa 2) ae))) (aD _))))) (aL (bp dm)) cJ)
   (fJ (cH (cW (cA (PD.q (bj Z c rfl (af (bj Y c rfl (af (dv 0) ak ae) ae ag) (af (dv 3) ak ae) bt) bt (ay ae ag))) (λ_=>rfl))) (aL (bp dm)) cJ)
   (aL (bp (dS (dw c.units) (PD.q (bj I c rfl (af (aA (aa 0)) (af (dv 3) ak ae) aG) aG (ay ae ag))) (PD.q (bj I c rfl (af (aA (PD.q (aT e.cl e.n_slim e.ns (aa 1)))) (af (dv 2) ak ae) aG) aG (ay ae ag))) (aD _)))))),?_⟩
 have h8:=j.n8;have Rq:=j.sn;have Q:((cS bs rs).all λr=>decide (0<=aB r.1 y))=true:=Ln.mpr λr g=>KZ (O r g);refine⟨λρ=>ρ=[some (.v (cF bs rs gs)),some (.v (fH k s)),some (.v (cL x)),some (.v (cL y))],⟨_,rfl,y,_,rfl,by rw[JT,a.bl,B],by omega,ff,λ_=>⟨rfl,_,rfl,?_⟩⟩,?_⟩
 ·refine fN (f:=bg) (λu=>D.int (y.getD u 0)) (bq (by omega)) (λu o=>⟨_,cR (i:=u) (bZ (by rw[B];exact j.sl u o)) rfl,rfl⟩) ?_;refine⟨_,rfl,?_⟩;rw[DI N p];exact Fm _ ⟨ff,λ_=>rfl⟩
 rintro ρ rfl;have hL:=pW bs rs;refine⟨λρ=>ρ=[some (.v (cF bs rs gs)),some (.v (fH k s)),some (.v (cL x)),some (.v (cL y))],⟨bs,rs,_,rfl,by rwa[a.bl],by have:=a.rl;omega,cS bs rs,y,rfl,by have:=a.rl;have:=a.bl;omega,wQ a.bl (by omega) λr g=>⟨(a.rr r g).1,(a.rr r g).2.1⟩,G,?_⟩,?_⟩
 ·rw[Q];exact⟨ff,λ_=>rfl⟩
 rintro ρ rfl;have C:∀z∈gs,bN z:=λz v=>fw (m:=64) (Lo (a.gg z v)) (by decide);refine⟨_,rfl,gs,y,rfl,by rw[a.gl];omega,C,G,?_⟩;refine⟨rfl,_,rfl,_,rfl,pk 0 s.gl s.st,x,rfl,by unfold pk;rw[JT];omega,λz v=>?_,U,?_⟩
 ·obtain⟨u,o,rfl⟩:=Kf.mp (show z∈s.st.map _ from v);rw[l];exact C _ (c8 (by rw[a.gl];exact j.sl u o))
 rw[M];exact toB q (KC _)
abbrev sp_law:=uG
abbrev zw:=uK
def FI{R:D->Prop}(xs:List Int)(q:R (.bl true)):kn (.tup (xs.map D.int)) (.tup (xs.map D.int)) R:=by have e:dD 40 (.tup (xs.map D.int)) (.tup (xs.map D.int))=some true:=mS 39 xs;unfold kn;rwa[e]
def zo{i:Nat}{ρ:bz}{d:D}{R:D->Prop}(h:ρ[i]?=some (some (.v d)))(k:R d):ou i ρ R:=by unfold ou;rwa[h]
def nums8:List Int:=[0,1,2,2,3,3,3,4]
def GR{x:Int}(g:0<=x)(l:x<8):∃c:Nat,cE (nums8.map D.int) x=some (.int (c:Nat))/\c<=4:=by
 obtain⟨k,rfl⟩:=Lm g
 have e:k<8:=by omega
 have:∀j<8,0<=nums8.getD j 0/\nums8.getD j 0<=4:=by decide
 obtain⟨a,b⟩:=this k e;obtain⟨c,h⟩:=Lm a;exact⟨c,cR (i:=k) (by rw[←h];exact bZ (show k<nums8.length from e)) rfl,by omega⟩
def yC{a b y:Int}(h:0<=y)(l:y<4)(a0:0<=a)(a1:a<3)(e:0<=b)(j:b<3):∃c:Nat,cE [D.int 4,D.int 5,D.int (6+a),D.int (6+b)] y=some (.int (c:Nat))/\c<=8:=by
 obtain⟨k,rfl⟩:=Lm h
 have g:k=0\/k=1\/k=2\/k=3:=by omega
 obtain⟨a,rfl⟩:=Lm a0;obtain⟨b,rfl⟩:=Lm e;rcases g with rfl|rfl|rfl|rfl
 ·exact⟨4,rfl,by decide⟩
 ·exact⟨5,rfl,by decide⟩
 ·exact⟨6+a,gc (i:=2) rfl rfl,by omega⟩
 ·exact⟨6+b,gc (i:=3) rfl rfl,by omega⟩
def xv{k:Nat}{x:List Int}(h:x∈jh k):x.length=k/\∀y∈x,y.natAbs<=2:=by
 unfold jh at h;split at h
 ·refine⟨by rw[(wnd_mem.mp h).1,Kg],λy a=>?_⟩;have:=Gd (M:=0) h (λb c=>by rw[Lv c];decide) y a;split at this<;>omega
 ·rcases Ks.mp h with h|h
  ·simp only[Kd,LD,N0]at h;rcases h with rfl|rfl
   ·exact⟨Kg,λy a=>by rw[Lv a];decide⟩
   ·exact⟨Kg,λy a=>by rw[Lv a];decide⟩
  ·obtain⟨i,_,rfl⟩:=Kf.mp h;exact⟨nM _ _,λy a=>Kl (qm y a) (by decide)⟩
def tR{k:Nat}(a:k<=8):(jh k).length<=500:=by
 unfold jh;split
 ·rename_i c;have:=ud (j:=k) c
  rwa [Mg (by rw[Kg];exact J3 _)]at this
 ·rw[JW,JT,Km];show 2+k<=500;omega
def sJ(n:Nat)(s:Led)(x:List Int):D:=.tup [cL x,cL (gU n s x)]
def B5{a:Type}{f:a->D}(xs:List a)(x:a):cE ((xs++[x]).map f) (-1)=some (f x):=by
 have c:((xs++[x]).map f).length=xs.length+1:=by rw[JT,JW,KA]
 unfold cE;rw[GG (by omega),c];show ((xs++[x]).map f)[xs.length+1-1]?=_;rw[Nat.add_sub_cancel,J7,JU (J3 _),Kw];rfl
def Cm(F:Fun K "law" "law" lj f J){Od:Addr}(l:TxtStruck K mg Od)(Qh:ClM P w K mg base (n+1) Xb [WE] y__law_pool)(P7:ClM P w K mg base (n+1) Xa [Wr,Wx,Wt,WM] y__law_small)(Qo:ClM P w K mg base (n+1) "_law_far" [Wr,Wu,Ws] y__law_far)(tm:Cl P w K mg base (n+1) WX [Wu] z__law_givens)(JL:Cl P w K mg base (n+1) Xd [Wt] z__law_rays)(U:ClM P w K mg base (n+1) WR [Wr,Wt] y__law_draw)(Jw:Cl P w K mg base (n+1) W6 [WB,Wx] z__law_fields)(tw:Cl P w K mg base (n+1) W2 [Wv,WA] z__law_goes)(JG:Cl P w K mg base (n+1) Xe [Wu,WB,WA,Wz] z__law_back)(O2:MkM P w K mg base n Od ["self","plan"] ua)(yd:MthD P w K mg base (n+1) Od "ray_back" ["self","ray"] z_Struck__ray_back)(iU:mg "all"=none)(bu:mg "len"=none)(eS:mg "int"=none)(iW:mg "reversed"=none):FnOk P w K mg base aI (n+2) f J [WE] (lSpM K (zM zw)):=by
 refine F.okM sc_law (λas R Rx h=>?_) (λOh A outer s H E as R Rx qs Ot j h OD=>?_)
 ·obtain⟨_,rfl,ns,rfl,_⟩:=h;rfl
 obtain⟨_,rfl,ns,rfl,hz,q⟩:=h;obtain rfl:=jc OD
 refine⟨_,(ar (aM (i:=1) sc_law.nd rfl Wq (bL Qh j rfl (aJ (ah (dv 0)) bo ae) ae ag))
   (ar (aM (i:=2) sc_law.nd rfl Wq (ph (ah (bx (af ao (af ao (af ao (af ao (af ao (af ao (af ao (af ao ak aF) aF) aF) aF) aF) aF) aF) aF))) (bL U j rfl (bV 1 (aJ (ah ao) bo aF) ae) ae (ay aF ag)) (λ_ _=>rfl)))
   (cI (b7 (bY (aV (dw j.units) (aa 2) (PD.q ao) (aD _))) (aQ (aM (i:=2) sc_law.nd rfl Wq (ph (vo (aJ (ah ao) (aJ (ah ao) (aJ (dH cP (ah ao) (bL U j rfl (bV 1 (aJ (ah ao) bo aF) ae) ae (ay aF ag))) (aJ (dH cP (ah ao) (bL U j rfl (bV 1 (aJ (ah ao) bo aF) ae) ae (ay aF ag))) bo bW) bW) aF) aF)) (bL U j rfl (bV 1 (aJ (ah ao) bo aF) ae) ae (ay aF ag)) (λ_ _=>rfl)))) cq)
   (ar (xA (bL P7 j rfl (bV 1 (aJ (ah (dv 2)) (aJ (ah (aU cP (PD.q ao) (PD.q (aU dr (PD.q ao) (PD.q (b9 j8 rfl eS Lu (aN (PD.q (dS fm (aa 2) (PD.q ao) (aD _))) aX gD) gD ag)))))) (aJ (ah ao) bo aF) bW) ae) ae) ae (ay ae (ay bW (ay aF ag)))) (iR (n:=2) rfl (eC (cD (i:=3) sc_law.nd rfl Wq) (eC (cD (i:=4) sc_law.nd rfl Wq) iI))))
   (ar (xA (bL Qo j rfl (bV 1 (aJ (ah (dv 3)) (aJ (ah (dv 4)) bo ae) ae) ae) ae (ay ae (ay ae ag))) (iR (n:=2) rfl (eC (cD (i:=3) sc_law.nd rfl Wq) (eC (cD (i:=4) sc_law.nd rfl Wq) iI))))
   (ar (aM (i:=5) sc_law.nd rfl (Or.inr rfl) (GQ (uY O2 j rfl l.mgC l.ns (aJ (ah (dv 3)) bo ae) ae ag)))
   (cI (b7 (bY (cW (cA (PD.q (bj Jw j rfl (af (dv 5) (af (dv 2) ak ae) ae) ae (ay ae ag))) (λ_=>rfl)))) (aQ (cw (ah dm))) cq)
   (cI (b7 (bY (aV (dw j.units) (PD.q (aT l.cl l.n_kind l.ns (aa 5))) (PD.q jv) (aD _))) (aQ (cw (ah dm))) cq)
   (ar (aM (i:=6) sc_law.nd rfl Wq (ah (bj tm j rfl (af (aT l.cl l.n_slim l.ns (aa 5)) ak aP) aP ag)))
   (ar (aM (i:=7) sc_law.nd rfl Wq (dB (dh ak)))
   (ar (eP Ki rfl (eT (cb (bj JL j rfl (af (bM cZ rfl bu KH (aN (PD.q (aT l.cl l.n_kept l.ns (aa 5))) aX aP) aP ag) ak bt) bt ag))) (cD (i:=8) sc_law.nd rfl Wq) (aQ (b7 (bY (cA (PD.q (bj tw j rfl (af (dv 6) (af (dv 8) ak ae) ae) ae (ay ae ag))) (λ_=>rfl))) (ar (gp 7 (ah (bx (af (dv 8) (af (me yd j l.cl l.ns (dv 5) (af (dv 8) ak ae) ae ag) ak bt) ae))) (di bJ) bJ)
   (aQ (b7 (bY (cW (cA (PD.q (bj JG j rfl (af (dv 3) (af (dv 5) (af (dv 8) (af (aA (PD.q (bD (aa 7) (PD.q (eI (PD.q ao))) (λ_ _=>rfl)))) ak aG) ae) ae) ae) ae (ay ae (ay ae (ay aG ag))))) (λ_=>rfl)))) (aQ (cw (ah dm))) cq))) cq)))
   (iz 7 (aQ (cw (ah (bM (qe rfl) rfl iU MY (aN (PD.q (PF.d (de (k:=2) (N':=[WA,Xf,WB]) (cap:=[none,none,some 5]) rfl (.ok (show bX [WE,Wr,Wx,Wu,Ws,WB,Wv,Wz,WA] (av lj) _ [WA,Xf,WB] [none,none,some 5]=true by lia)) (by lia) (iA (n:=2) (eo (bE (by decide)) (eo (bE (by decide)) iG))) (sU rfl iW (af (dv 7) ak ae)) (λ_ _ _ _ _=>(eu (n:=2) rfl (bR (bh (i:=0) (show List.Nodup ([WA,Xf,WB]:List Str)by lia) rfl Wq) (bR (bh (i:=1) (show List.Nodup ([WA,Xf,WB]:List Str)by lia) rfl Wq) eG)))) (λ_ _ _ _ _=>(dS (dw j.units) (PD.q (me yd j l.cl l.ns (dv 2) (af (dv 0) ak ae) ae ag)) (aa 1) (aD _)))))) aX bC) bC ag)))))))))))))))),?_⟩
 intro ke;refine⟨_,rfl,rfl,ns,rfl,hz,λo0 UC=>?_⟩;rfl';refine⟨⟨_,_,rfl⟩,_,rfl,rfl,_,_,8,0,rfl,UC,by decide,by decide,cK (by decide),λx o1 x0 x1 Pd=>?_⟩;rfl';obtain⟨c,hc,hc4⟩:=GR x0 x1;refine⟨_,hc,?_⟩;refine⟨λρ=>∃(n:Nat)(o':Om),ρ=[some (.v (.fzl (ns.map D.int))),some (.ob none o'),some (.v (.int (n:Nat))),none,none,none,none,none,none]/\n<=8/\Pl 10 o',⟨λh=>?_,λh=>⟨c,o1,rfl,by omega,Pd.mono (by decide)⟩⟩,?_⟩
 ·refine⟨⟨_,_,rfl⟩,_,rfl,rfl,_,_,3,_,rfl,Pd,by decide,by decide,cK (by decide),λa o2 a0 a1 Pc=>?_⟩;rfl';refine⟨⟨_,_,rfl⟩,_,rfl,rfl,_,_,3,_,rfl,Pc,by decide,by decide,cK (by decide),λb o3 b0 b1 P6=>?_⟩;rfl';refine⟨⟨_,_,rfl⟩,_,rfl,rfl,_,_,4,_,rfl,P6,by decide,by decide,cK (by decide),λy C y0 y1 Pk=>?_⟩;rfl';obtain⟨e,he,he8⟩:=yC y0 y1 a0 a1 b0 b1;exact⟨_,he,e,C,rfl,he8,Pk.mono (by decide)⟩
 rintro ρ ⟨n,o2,rfl,V8,Pc⟩;obtain⟨I,hmn,m1,m2⟩:∃I:Int,6+2*(if decide ((3:Int)<(n:Nat)) then 1 else 0)=I/\1<=I/\I<=12:=⟨_,rfl,by split<;>omega,by split<;>omega⟩;refine⟨⟨_,_,rfl⟩,ig (by decide) (by decide),_,rfl,rfl,_,_,n,_,I,3,by rw[←hmn],Pc,by decide,V8,m1,m2,by decide,by decide,λbs rs gs sp o3 hS P6=>?_⟩;rfl';refine⟨rfl,?_⟩;refine⟨⟨_,_,rfl⟩,_,rfl,rfl,_,_,n,_,I,bs,rs,gs,sp,rfl,P6,by decide,V8,by omega,hS,λg p L C N Qm hsz Pk=>?_⟩;rfl';refine⟨rfl,?_⟩;have R5:=N.bl;subst R5;refine⟨_,g,p,gs,λs=>Wy g.length s/\RayBk (gP g p gs) g.length s,mu,rfl,V8,by have:=N.rl;omega,⟨N.wy,Gf N⟩,HA _ _,λt ht hR hU Rh=>⟨_,rfl,?_⟩,λt ht hN=>⟨_,rfl,?_⟩⟩
 ·obtain⟨o,Q⟩:=ht;rfl';have Rq:=o.sn;have h8:=o.n8;have hSS:∀u6 u7 M:Option Sm,[some (Sm.v (.fzl (ns.map D.int))),some (.ob none C),some (.v (.int (g.length:Nat))),some (.v (cF g p gs)),some (.v (cL L)),some (.v (fH g.length t)),u6,u7,M]=[some (Sm.v (.fzl (ns.map D.int))),some (.ob none C),some (.v (.int (g.length:Nat))),some (.v (cF g p gs)),some (.v (cL L)),some (.v (fH g.length t)),u6,u7,M]:=λ_ _ _=>rfl;refine⟨λρ=>ρ=[some (.v (.fzl (ns.map D.int))),some (.ob none C),some (.v (.int (g.length:Nat))),some (.v (cF g p gs)),some (.v (cL L)),some (.v (fH g.length t)),none,none,none],⟨_,g.length,t,rfl,.inl ⟨rfl,o⟩,ff,λ_=>rfl⟩,?_⟩;rintro ρ rfl;refine⟨λρ=>ρ=[some (.v (.fzl (ns.map D.int))),some (.ob none C),some (.v (.int (g.length:Nat))),some (.v (cF g p gs)),some (.v (cL L)),some (.v (fH g.length t)),none,none,none],⟨rfl,_,rfl,λh=>absurd h (by lia),λ_=>rfl⟩,?_⟩;rintro ρ rfl
  have hpb:(pk ((0:Int),(none:Option Int)) t.bs t.st).length=t.st.length:=by unfold pk;rw[JT]
  have hgL:=pW (pk (0,none) t.bs t.st) (t.rs.map (gf t.st));have OK:=o.rl;refine⟨rfl,_,rfl,pk (0,none) t.bs t.st,t.rs.map (gf t.st),_,rfl,by omega,by rwa[JT],?_⟩;rfl';refine⟨rfl,_,rfl,t.st.length,by rw[JT],by omega,?_⟩;refine⟨λi ρ=>∃(xs:List (List Int))(M:Option Sm),ρ=[some (.v (.fzl (ns.map D.int))),some (.ob none C),some (.v (.int (g.length:Nat))),some (.v (cF g p gs)),some (.v (cL L)),some (.v (fH g.length t)),some (.v (.lst ((cS (pk (0,none) t.bs t.st) (t.rs.map (gf t.st))).map az))),some (.own (xs.map (sJ g.length t))),M]/\xs.length<=i/\∀x∈xs,x∈jh t.st.length,⟨[],_,rfl,by decide,λx G=>(by cases G)⟩,?_,?_⟩
  ·rintro i d ρ hd ⟨xs,M,rfl,Qt,Y⟩;obtain⟨x,rfl,G⟩:=bP hd;have T:=J0 G;obtain⟨RB,X⟩:=xv T;have S:∀y∈x,bN y:=λy B=>fw (m:=2) (by have:=X y B;omega) (by decide);have V9:∀y∈x,y.natAbs<=2^720:=λy B=>Kl (X y B) (Kl (by decide:2<=2^1) (Lb (by decide) (by decide)));have Qq:=aE G;have OX:=tR (k:=t.st.length) (by omega);refine⟨cS (pk (0,none) t.bs t.st) (t.rs.map (gf t.st)),x,rfl,by rw[JT]at hgL;omega,wQ hpb (by omega) λr Z=>?_,S,λc=>?_,λc=>⟨xs,_,rfl,by omega,Y⟩⟩
   ·obtain⟨y,B,rfl⟩:=Kf.mp Z;refine⟨by show (pk 0 y.1 t.st).length=_;unfold pk;rw[JT],λz hz=>?_⟩;obtain⟨u,hu,rfl⟩:=Kf.mp (show z∈t.st.map _ from hz);exact (o.rr y B).2.1 _ (c8 (by rw[(o.rr y B).1];exact o.sl u hu))
   ·have V6:∀r∈cS (pk (0,none) t.bs t.st) (t.rs.map (gf t.st)),0<=aB r.1 x:=λr Z=>K9 (Ln.mp c r Z);obtain⟨l1,l2,l3,l4⟩:=Ca o rfl Q RB V6;have O:=o.rayP V9;have hRB:∀v∈gU g.length t x,bN v:=λv hv=>O.sz t.gn.length v (by rwa[Mg (by rw[Lr];exact J3 _)]);refine⟨rfl,rfl,g.length,t,x,rfl,O,by rw[JT];exact bq (by omega),_,gF (sJ g.length t) xs x,?_⟩;rfl';refine⟨sJ g.length t x,B5 xs x,_,rfl,g.length,g,p,gs,t,x,gU g.length t x,rfl,o,N,Q.1,RB,S,hRB,l1,l2,l3,l4,ff,λ_=>⟨xs++[x],_,rfl,by rw[JW,KA];omega,fE Y T⟩⟩
  rintro ρ ⟨xs,M,rfl,Qt,Y⟩;have OX:=tR (k:=t.st.length) (by omega);rw[JT]at Qt;refine sW (xs.reverse.map λ_=>D.bl true) (by simp) (by rw[Lr,JT];exact bq (by omega)) (λi y=>(xs.reverse.map λ_=>D.bl true)[i]?=some y) (λi y h=>h) (λi d hd=>?_) ?_
  ·rw[←NI]at hd;obtain⟨x,rfl,G⟩:=bP hd;obtain⟨RB,X⟩:=xv (Y x (Ma.mp (J0 G)));have V9:∀y∈x,y.natAbs<=2^720:=λy B=>Kl (X y B) (Kl (by decide:2<=2^1) (Lb (by decide) (by decide)));refine⟨rfl,rfl,rfl,g.length,t,x,rfl,o.rayP V9,zo (d:=cL (gU g.length t x)) rfl (FI _ ?_)⟩;show (xs.reverse.map λ_=>D.bl true)[i]?=some (D.bl true);rw[J7,G];rfl
  refine⟨xs.reverse.map λ_=>true,by rw[KQ];rfl,?_⟩
  have:(xs.reverse.map λ_=>true).all id=true:=Ln.mpr λb Q=>by obtain⟨_,_,rfl⟩:=Kf.mp Q;rfl
  show R (Sm.v (D.bl ((xs.reverse.map λ_=>true).all id))) _;rwa[this]
 ·obtain⟨o,Q⟩:=ht;rfl';refine⟨λρ=>ρ=[some (.v (.fzl (ns.map D.int))),some (.ob none C),some (.v (.int (g.length:Nat))),some (.v (cF g p gs)),some (.v (cL L)),some (.v (sQ g.length (gC t (bH t) 1) ((gC t (bH t) 1).ln++[D.tup [D.str "shut",gu t]]))),none,none,none],⟨_,g.length,_,rfl,.inr ⟨_,rfl⟩,ff,λ_=>rfl⟩,?_⟩;rintro ρ rfl;exact⟨λ_=>False,⟨rfl,_,rfl,λ_=>q,λh=>absurd h (by lia)⟩,λρ h=>h.elim⟩
end
def all_mk{l:PySem.W.OpenLaw}{w:World}{K:Frag}{h:Heap}{mg:Str->Option Value}{fa:Addr}{a:Addr}{f:Addr}(X:K.In h)(G:h.Ns mainGlobals mg)(hfa:mg "law"=some (.ref fa))

  (OQ:nsIn K mainGlobals "Ledger"=some (some (.ref a)))
  (OR:nsIn K mainGlobals "Struck"=some (some (.ref f)))
  (a1:Has K nZ "common_of_two")
  (a2:Has K nV "common")
  (a3:Has K pb "up")
  (a4:Has K lP "unit")
  (a5:Has K la "left")
  (a6:Has K kL "turned")
  (a7:Has K k7 "evened")
  (a8:Has K jN "givens")
  (a9:Has K k6 "without")
  (a10:Has K l0 "only_unknown")
  (a11:Has K oZ "first_most_marks")
  (a12:Has K oq "is_crossed")
  (a13:Has K mR "greatest_sum")
  (a14:Has K kX "least_sum")
  (a15:Has K pE "crossed_unknown")
  (a16:Has K oz "hopeless_row")
  (a17:Has K og "idle_row")
  (a18:Has K kS "single_row")
  (a19:Has K nv "uneven_row")
  (a20:Has K mP "doubled_row")
  (a21:Has K mX "fixed_unknown")
  (a22:Has K lW "has_above")
  (a23:Has K lV "has_below")
  (a24:Has K pz "sinking_unknown")
  (a25:Has K pC "rising_unknown")
  (a26:Has K pG "hanging_unknown")
  (a27:Has K nz "row_struck")
  (a28:Has K ox "unknown_struck")
  (a29:Has K kK "hopeless_shares")
  (a30:Has K mG "strike")
  (a31:Has K kQ "picked")
  (a32:Has K l9 "slim_plan")
  (a33:Has K n6 "spread")
  (a34:Has K l8 "least_meeting")
  (a35:Has K nu WU)
  (a36:Has K kP WS)
  (a37:Has K oY Xb)
  (a38:Has K mL WR)
  (a39:Has K mq WO)
  (a40:Has K nc W5)
  (a41:Has K pI Xc)
  (a42:Has K mI Xa)
  (a43:Has K ju "_law_far")
  (a44:Has K oU WZ)
  (a45:Has K lN W6)
  (a46:Has K ky WX)
  (a47:Has K lU W7)
  (a48:Has K kB Xd)
  (a49:Has K kT W2)
  (a50:Has K kH Xe)
  (a51:Has K lj "law")
  (Wa:HasM K pQ a "__init__" "Ledger.__init__")
  (Wb:HasM K ny a "put_line" "Ledger.put_line")
  (Wc:HasM K nh a "drop_row" "Ledger.drop_row")
  (Wd:HasM K pO a "turn_to_bound" "Ledger.turn_to_bound")
  (We:HasM K mW a "even_row" "Ledger.even_row")
  (Wf:HasM K nt a "bound_share" "Ledger.bound_share")
  (Wg:HasM K mH a "fix" "Ledger.fix")
  (Wh:HasM K ka a "hang" "Ledger.hang")
  (Wi:HasM K mE a "let_go" "Ledger.let_go")
  (Wj:HasM K oa f "__init__" "Struck.__init__")
  (Wk:HasM K mv f "ray_back" "Struck.ray_back")
  (QA:plainGet K a Str.empty=true) (QB:hasDictIn K a=true) (QC:plainOver K a=true) (QD:findIn K (.ref a) "__setattr__"=some (some (.builtin "object.__setattr__"))) (QE:makesIn K a=true) (QF:keepIn K (.ref a)=true)
  (Pf:findIn K (.ref a) "bounds"=some none)
  (PM:findIn K (.ref a) "rows"=some none)
  (PN:findIn K (.ref a) "goal"=some none)
  (Pa:findIn K (.ref a) "staying"=some none)
  (PR:findIn K (.ref a) "told"=some none)
  (Pu:findIn K (.ref a) "lines"=some none)
  (OM:findIn K (.ref a) "least_marks"=some none)
  (OV:findIn K (.ref a) "most_marks"=some none)
  (O3:findIn K (.ref a) "row_marks"=some none)
  (ON:findIn K (.ref a) "goal_shares"=some none)
  (Pw:findIn K (.ref a) "extra"=some none)
  (PU:findIn K (.ref a) "gone"=some none)
  (QG:plainGet K f Str.empty=true) (QH:hasDictIn K f=true) (QI:plainOver K f=true) (QJ:findIn K (.ref f) "__setattr__"=some (some (.builtin "object.__setattr__"))) (QK:makesIn K f=true) (QL:keepIn K (.ref f)=true)
  (Pg:findIn K (.ref f) "ledger"=some none)
  (Pb:findIn K (.ref f) "breadth"=some none)
  (PV:findIn K (.ref f) "kind"=some none)
  (Px:findIn K (.ref f) "paper"=some none)
  (PY:findIn K (.ref f) "slim"=some none)
  (PZ:findIn K (.ref f) "kept"=some none)
  (Py:findIn K (.ref f) "extra"=some none)
  (T1:nsIn K mainGlobals "abs"=some none)
  (RD:nsIn K mainGlobals "tuple"=some none)
  (RE:nsIn K mainGlobals "range"=some none)
  (T2:nsIn K mainGlobals "sum"=some none)
  (T3:nsIn K mainGlobals "zip"=some none)
  (T4:nsIn K mainGlobals "len"=some none)
  (Qi:nsIn K mainGlobals "enumerate"=some none)
  (T5:nsIn K mainGlobals "any"=some none)
  (T6:nsIn K mainGlobals "max"=some none)
  (P8:nsIn K mainGlobals "isinstance"=some none)
  (T7:nsIn K mainGlobals "int"=some none)
  (y_bool:nsIn K mainGlobals "bool"=some none)
  (T8:nsIn K mainGlobals "all"=some none)
  (SI:nsIn K mainGlobals "list"=some none)
  (T9:nsIn K mainGlobals "min"=some none)
  (Qp:nsIn K mainGlobals "reversed"=some none) :
  ∃fd:FuncData,(∀(s:Shared)(v:Value),BindsTo s fd ⟨[v],[]⟩ [(WE,v)])/\∀base:Heap,K.In base->base.Ns mainGlobals mg->FnOk l.prog w K mg base aI 9 fa fd [WE] (sp_law K):=by
 obtain⟨f1,d1,F1,m1,_⟩:=a1.fn X G;obtain⟨f2,d2,F2,m2,_⟩:=a2.fn X G;obtain⟨f3,d3,F3,m3,_⟩:=a3.fn X G;obtain⟨f4,d4,F4,m4,_⟩:=a4.fn X G;obtain⟨f5,d5,F5,m5,_⟩:=a5.fn X G;obtain⟨f6,d6,F6,m6,_⟩:=a6.fn X G;obtain⟨f7,d7,F7,m7,_⟩:=a7.fn X G;obtain⟨f8,d8,F8,m8,_⟩:=a8.fn X G;obtain⟨f9,d9,F9,m9,_⟩:=a9.fn X G;obtain⟨f10,d10,r,m10,_⟩:=a10.fn X G;obtain⟨f11,d11,u,m11,_⟩:=a11.fn X G;obtain⟨f12,d12,x,m12,_⟩:=a12.fn X G;obtain⟨f13,d13,y,m13,_⟩:=a13.fn X G;obtain⟨f14,d14,z,m14,_⟩:=a14.fn X G;obtain⟨f15,d15,A,m15,_⟩:=a15.fn X G;obtain⟨f16,d16,B,m16,_⟩:=a16.fn X G;obtain⟨f17,d17,C,m17,_⟩:=a17.fn X G;obtain⟨f18,d18,E,m18,_⟩:=a18.fn X G;obtain⟨f19,d19,F,m19,_⟩:=a19.fn X G;obtain⟨f20,d20,H,m20,_⟩:=a20.fn X G;obtain⟨f21,d21,I,m21,_⟩:=a21.fn X G;obtain⟨f22,d22,J,m22,_⟩:=a22.fn X G;obtain⟨f23,d23,L,m23,_⟩:=a23.fn X G;obtain⟨f24,d24,M,m24,_⟩:=a24.fn X G;obtain⟨f25,d25,N,m25,_⟩:=a25.fn X G;obtain⟨f26,d26,O,m26,_⟩:=a26.fn X G;obtain⟨f27,d27,Q,m27,_⟩:=a27.fn X G;obtain⟨f28,d28,R,m28,_⟩:=a28.fn X G;obtain⟨f29,d29,S,m29,_⟩:=a29.fn X G;obtain⟨f30,d30,T,m30,_⟩:=a30.fn X G;obtain⟨f31,d31,U,m31,_⟩:=a31.fn X G;obtain⟨f32,d32,Y,m32,_⟩:=a32.fn X G;obtain⟨f33,d33,Z,m33,_⟩:=a33.fn X G;obtain⟨f34,d34,F34,m34,_⟩:=a34.fn X G;obtain⟨f35,d35,F35,m35,_⟩:=a35.fn X G;obtain⟨f36,d36,F36,m36,_⟩:=a36.fn X G;obtain⟨f37,d37,F37,m37,_⟩:=a37.fn X G;obtain⟨f38,d38,F38,m38,_⟩:=a38.fn X G;obtain⟨f39,d39,F39,m39,_⟩:=a39.fn X G;obtain⟨f40,d40,F40,m40,_⟩:=a40.fn X G;obtain⟨f41,d41,F41,m41,_⟩:=a41.fn X G;obtain⟨f42,d42,F42,m42,_⟩:=a42.fn X G;obtain⟨f43,d43,F43,m43,_⟩:=a43.fn X G;obtain⟨f44,d44,F44,m44,_⟩:=a44.fn X G;obtain⟨f45,d45,F45,m45,_⟩:=a45.fn X G;obtain⟨f46,d46,F46,m46,_⟩:=a46.fn X G;obtain⟨f47,d47,F47,m47,_⟩:=a47.fn X G;obtain⟨f48,d48,F48,m48,_⟩:=a48.fn X G;obtain⟨f49,d49,F49,m49,_⟩:=a49.fn X G;obtain⟨f50,d50,F50,m50,_⟩:=a50.fn X G;obtain⟨f51,d51,F51,m51,_,_,_,e⟩:=a51.fn X G;obtain⟨f52,d52,Wa,i52,k52,F52⟩:=Wa;have b52:=F52.bd (ps:=["self","plan"]);obtain⟨f53,d53,Wb,i53,k53,F53⟩:=Wb;have b53:=F53.bd (ps:=["self","shares","divisor"]);obtain⟨f54,d54,Wc,i54,k54,F54⟩:=Wc;have b54:=F54.bd (ps:=["self","place"]);obtain⟨f55,d55,Wd,i55,k55,F55⟩:=Wd;have b55:=F55.bd (ps:=["self","place"]);obtain⟨f56,d56,We,i56,k56,F56⟩:=We;have b56:=F56.bd (ps:=["self","place"]);obtain⟨f57,d57,Wf,i57,k57,F57⟩:=Wf;have b57:=F57.bd (ps:=["self","unknown","entry"]);obtain⟨f58,d58,Wg,i58,k58,F58⟩:=Wg;have b58:=F58.bd (ps:=["self","unknown","number"]);obtain⟨f59,d59,Wh,i59,k59,F59⟩:=Wh;have b59:=F59.bd (ps:=["self","unknown"]);obtain⟨f60,d60,Wi,i60,k60,F60⟩:=Wi;have b60:=F60.bd (ps:=["self","unknown","least","rows"]);obtain⟨f61,d61,Wj,i61,k61,F61⟩:=Wj;have b61:=F61.bd (ps:=["self","plan"]);obtain⟨f62,d62,Wk,i62,k62,F62⟩:=Wk;have b62:=F62.bd (ps:=["self","ray"]);cases hfa.symm.trans m51;refine⟨d51,λs v=>by rw[e];exact .of_eq rfl,λbase _ _=>?_⟩;have iw:=Le X G T1;have c:=Le X G RD;have o:=Le X G RE;have kG:=Le X G T2;have fg:=Le X G T3;have j:=Le X G T4;have p:=Le X G Qi;have kE:=Le X G T5;have iV:=Le X G T6;have eJ:=Le X G P8;have eS:=Le X G T7;have tq:=Le X G y_bool;have iU:=Le X G T8;have eg:=Le X G SI;have tD:=Le X G T9;have iW:=Le X G Qp;have g:TxtLedger K mg a:=⟨⟨QA,QB,QC,QD⟩,Pf,PM,PN,Pa,PR,Pu,OM,OV,O3,ON,Pw,PU,mg_of X G OQ,OQ⟩;have N8:TxtStruck K mg f:=⟨⟨QG,QH,QI,QJ⟩,Pg,Pb,PV,Px,PY,PZ,Py,mg_of X G OR,OR⟩;have H1:=zj (P:=l.prog) (w:=w) (mg:=mg) (base:=base) (n:=0) F1 iw;have Q1:=F1.cl m1 H1;have H2:=Dj (n:=1) F2 Q1.mono;have Q2:=F2.cl m2 H2;have H3:=EZ (P:=l.prog) (w:=w) (mg:=mg) (base:=base) (n:=0) F3;have Q3:=F3.cl m3 H3;have H4:=Ez (P:=l.prog) (w:=w) (mg:=mg) (base:=base) (n:=0) F4 c o;have Q4:=F4.cl m4 H4;have H5:=yk (P:=l.prog) (w:=w) (mg:=mg) (base:=base) (n:=0) F5 kG fg;have Q5:=F5.cl m5 H5;have H6:=AE (P:=l.prog) (w:=w) (mg:=mg) (base:=base) (n:=0) F6 c;have Q6:=F6.cl m6 H6;have H7:=Gz (n:=2) F7 Q2.mono Q3.mono c;have Q7:=F7.cl m7 H7;have H8:=Br (n:=1) F8 Q6.mono Q4.mono j o c;have Q8:=F8.cl m8 H8;have H9:=Bx (P:=l.prog) (w:=w) (mg:=mg) (base:=base) (n:=0) F9 c p;have Q9:=F9.cl m9 H9;have U2:=AB (P:=l.prog) (w:=w) (mg:=mg) (base:=base) (n:=0) r p;have Q10:=r.cl m10 U2;have H11:=yp (P:=l.prog) (w:=w) (mg:=mg) (base:=base) (n:=0) u j;have R11:=u.clM m11 H11;have H12:=G8 (P:=l.prog) (w:=w) (mg:=mg) (base:=base) (n:=0) x;have Wl:=x.cl m12 H12;have H13:=HF (P:=l.prog) (w:=w) (mg:=mg) (base:=base) (n:=0) y fg;have Q13:=y.cl m13 H13;have H14:=HJ (n:=1) z Q13.mono;have Q14:=z.cl m14 H14;have H15:=Bk (n:=1) A Wl.mono;have Q15:=A.cl m15 H15;have H16:=Cb (n:=1) B Q13.mono p;have Q16:=B.cl m16 H16;have H17:=CD (n:=2) C Q14.mono p;have Q17:=C.cl m17 H17;have H18:=y9 (P:=l.prog) (w:=w) (mg:=mg) (base:=base) (n:=0) E p j;have Q18:=E.cl m18 H18;have H19:=IS (n:=2) F Q2.mono p;have Q19:=F.cl m19 H19;have H20:=Il (P:=l.prog) (w:=w) (mg:=mg) (base:=base) (n:=0) H p;have Q20:=H.cl m20 (H20.imp lJ);have H21:=BC (P:=l.prog) (w:=w) (mg:=mg) (base:=base) (n:=0) I;have Q21:=I.cl m21 H21;have H22:=CL (P:=l.prog) (w:=w) (mg:=mg) (base:=base) (n:=0) J kE;have Q22:=J.cl m22 H22;have H23:=ID (P:=l.prog) (w:=w) (mg:=mg) (base:=base) (n:=0) L kE;have Q23:=L.cl m23 H23;have H24:=D3 (n:=1) M Wl.mono Q22.mono;have Q24:=M.cl m24 H24;have H25:=DC (n:=1) N Wl.mono Q23.mono;have Q25:=N.cl m25 H25;have H26:=Eu (n:=1) O Q23.mono;have Q26:=O.cl m26 H26;have H31:=ER (P:=l.prog) (w:=w) (mg:=mg) (base:=base) (n:=0) U c;have Q31:=U.cl m31 H31;have H32:=C7 (n:=1) Y g Q31.mono c;have Q32:=Y.cl m32 H32;have H33:=Aa (P:=l.prog) (w:=w) (mg:=mg) (base:=base) (n:=0) Z fg;have R33:=Z.clM m33 H33;have H34:=BY (n:=1) F34 Q3.mono Q5.mono iV;have Q34:=F34.cl m34 H34;have H35:=ET (P:=l.prog) (w:=w) (mg:=mg) (base:=base) (n:=0) F35 eJ eS tq;have Wm:=F35.cl m35 H35;have H36:=Ji (n:=1) F36 Wm.mono eJ c iU j;have Wn:=F36.cl m36 H36;have H37:=zU (P:=l.prog) (w:=w) (mg:=mg) (base:=base) (n:=0) F37 j;have R37:=F37.clM m37 H37;have H38:=IF (P:=l.prog) (w:=w) (mg:=mg) (base:=base) (n:=0) F38;have Ua:=F38.clM m38 H38;have H39:=DN (P:=l.prog) (w:=w) (mg:=mg) (base:=base) (n:=0) F39 kG fg;have Ub:=F39.cl m39 H39;have H40:=zS (n:=1) F40 Ua.mono o eS iV;have R40:=F40.clM m40 H40;have H41:=Bp (n:=1) F41 Ua.mono Ub.mono o eg iw j c;have R41:=F41.clM m41 H41;have H42:=Cd (n:=2) F42 R40.mono R41.mono Ua.mono Ub.mono c iV;have R42:=F42.clM m42 H42;have H43:=Bo (n:=1) F43 Ua.mono Ub.mono fg c;have R43:=F43.clM m43 H43;have H44:=GF (n:=2) F44 Wn.mono Wm.mono eJ c j;have Q44:=F44.cl m44 H44;have H45:=BK (n:=3) F45 N8 Wn.mono Wm.mono Q44.mono eg eJ c j o;have Q45:=F45.cl m45 H45;have H46:=B4 (P:=l.prog) (w:=w) (mg:=mg) (base:=base) (n:=0) F46 j p eg c eS o;have Q46:=F46.cl m46 H46;have H47:=E9 (P:=l.prog) (w:=w) (mg:=mg) (base:=base) (n:=0) F47 tD o;have Q47:=F47.cl m47 (H47.imp lJ);have H48:=CG (n:=1) F48 Q47.mono o c eS;have Q48:=F48.cl m48 (H48.imp lJ);have H49:=Ce (n:=1) F49 Ub.mono iU;have Q49:=F49.cl m49 H49;have H50:=zF (n:=2) F50 N8 Q49.mono Ub.mono Wn.mono Q46.mono eg j;have Q50:=F50.cl m50 H50;have H52:=Iq (n:=2) F52 g R11.mono Q8.mono eg j o;have R52:=MkM.mk ⟨_,_,H52,b52,⟨QE,Wa,i52,QF⟩⟩;have H53:=Ja (P:=l.prog) (w:=w) (mg:=mg) (base:=base) (n:=0) F53 g j;have UG:=MthM.mk ⟨_,_,H53,b53,⟨Wb,i53,k53⟩⟩;have H54:=Bv (P:=l.prog) (w:=w) (mg:=mg) (base:=base) (n:=0) F54 g;have Wo:=MthM.mk ⟨_,_,H54,b54,⟨Wc,i54,k54⟩⟩;have H55:=Ga (n:=1) F55 g Q10.mono Q3.mono Wo.mono UG.mono iw;have R55:=MthM.mk ⟨_,_,H55,b55,⟨Wd,i55,k55⟩⟩;have H56:=Dh (n:=3) F56 g Q7.mono Q2.mono UG.mono;have R56:=MthM.mk ⟨_,_,H56,b56,⟨We,i56,k56⟩⟩;have H27:=Bh (n:=4) Q g Q17.mono Q18.mono Q19.mono Q20.mono Wo.mono R55.mono R56.mono;have R27:=Q.clM m27 H27;have H57:=Dw (P:=l.prog) (w:=w) (mg:=mg) (base:=base) (n:=0) F57 g;have Q57:=MthD.mk ⟨_,_,H57,b57,⟨Wf,i57,k57⟩⟩;have H29:=C5 (n:=2) S g Q15.mono Q16.mono Q57.mono c p;have Q29:=S.cl m29 H29;have H60:=D7 (P:=l.prog) (w:=w) (mg:=mg) (base:=base) (n:=0) F60 g c;have R60:=MthM.mk ⟨_,_,H60,b60,⟨Wi,i60,k60⟩⟩;have H58:=CU (n:=1) F58 g Q9.mono R60.mono UG.mono Q57.mono o j;have R58:=MthM.mk ⟨_,_,H58,b58,⟨Wg,i58,k58⟩⟩;have H59:=Hz (n:=1) F59 g R60.mono Wo.mono iW p;have R59:=MthM.mk ⟨_,_,H59,b59,⟨Wh,i59,k59⟩⟩;have H28:=CS (n:=2) R g Q21.mono Q25.mono Q26.mono Q24.mono R58.mono R59.mono;have R28:=R.clM m28 H28;have H30:=E7 (n:=5) T Q29.mono R27.mono R28.mono;have R30:=T.clM m30 H30;have H61:=zk (n:=5) F61 N8 g R30.mono Q32.mono R52.mono UG.mono j c;have R61:=MkM.mk ⟨_,_,H61,b61,⟨QK,Wj,i61,QL⟩⟩;have H62:=Aq (n:=2) F62 N8 g R33.mono Q34.mono iW c;have Q62:=MthD.mk ⟨_,_,H62.imp lJ,b62,⟨Wk,i62,k62⟩⟩;have H51:=Cm (n:=7) F51 N8 R37.mono R42.mono R43.mono Q46.mono Q48.mono Ua.mono Q45.mono Q49.mono Q50.mono R61.mono Q62.mono iU j eS iW;exact (H51.imp lJ).imp Iw
def walk{l:PySem.W.OpenLaw}{q:Program}{c:List Str}{v:(Str->Option Value)->Heap->Prop}{e:World->Heap->Prop}{d:DefRec}{K:Params->Frag}(E:l.most=some 63)(r:d.params.defaults=[])(p:PyProof.Rows.importsNone q=true)
  (B:∀(w:World)(h:Heap),e w h->(K w.params).In h) (y:∀w:World,nsIn (K w.params) mainGlobals "least_grown"=some none/\nsIn (K w.params) mainGlobals "greatest_first"=some none)
  (F:∀(w:World)(mg:Str->Option Value)(g:Addr)(h:Heap),(K w.params).In h->h.Ns mainGlobals mg->mg d.name=some (.ref g)->
   ∃j:FuncData,(∀(s:Shared)(u:Value),BindsTo s j ⟨[u],[]⟩ [(WE,u)])/\∀base:Heap,(K w.params).In base->base.Ns mainGlobals mg->FnOk l.prog w (K w.params) mg base aI 9 g j [WE] (sp_law (K w.params))) :
  PySem.W.WalkO q c v e l.row.toRowW d [] (λf vs=>PySem.call f vs):=
 L2.walk_of (n:=63) (k:=9) (x:=WE) (CX:=λ_=>aI) (sp:=λw=>sp_law (K w.params)) E (by decide) r p ⟨rfl,by decide,by decide⟩ B F (λw H a ns C _ A=>⟨a,ns,rfl,A,C,(λt o=>by rw[FW (y w)]at o;cases o),λ_=>rfl⟩) λ_ _ _ _ _ z=>z
end Kx
namespace Kx
open PySem PySem.W L2
noncomputable def KK:Params->Frag:=λP=>
 (nat_lit 2,⟨.none,none,(.dict #[] 0),#[]⟩) ::
 (nat_lit 3,⟨(.type "dict"),none,(.dict #[dE P "__name__" 165 ((.str "law_cutyard_k31_rays_back" 698)),dE P "__doc__" 166 (.none),dE P "__package__" 167 (.none),dE P "__loader__" 168 ((.builtin "__main__.__loader__#opaque")),dE P "__spec__" 169 (.none),dE P "__annotations__" 170 ((.ref 6)),dE P "__builtins__" 171 ((.ref 4)),dE P "__file__" 173 ((.str "/claim/cut.py" 172)),dE P "__cached__" 174 (.none),dE P "_wall" 193 ((.ref 21)),dE P "YardError" 213 ((.ref 31)),dE P "NoNumber" 229 ((.ref 44)),dE P "common_of_two" 242 ((.ref 53)),dE P "common" 251 ((.ref 60)),dE P "up" 259 ((.ref 67)),dE P "unit" 267 ((.ref 72)),dE P "left" 273 ((.ref 77)),dE P "turned" 279 ((.ref 82)),dE P "evened" 285 ((.ref 87)),dE P "givens" 293 ((.ref 92)),dE P "without" 301 ((.ref 97)),dE P "only_unknown" 307 ((.ref 102)),dE P "first_most_marks" 317 ((.ref 109)),dE P "Ledger" 436 ((.ref 180)),dE P "is_crossed" 445 ((.ref 191)),dE P "greatest_sum" 456 ((.ref 198)),dE P "least_sum" 462 ((.ref 203)),dE P "crossed_unknown" 471 ((.ref 210)),dE P "hopeless_row" 482 ((.ref 217)),dE P "idle_row" 493 ((.ref 224)),dE P "single_row" 499 ((.ref 229)),dE P "uneven_row" 508 ((.ref 236)),dE P "doubled_row" 519 ((.ref 243)),dE P "fixed_unknown" 528 ((.ref 250)),dE P "has_above" 534 ((.ref 255)),dE P "has_below" 540 ((.ref 260)),dE P "sinking_unknown" 551 ((.ref 267)),dE P "rising_unknown" 563 ((.ref 274)),dE P "hanging_unknown" 574 ((.ref 281)),dE P "row_struck" 584 ((.ref 288)),dE P "unknown_struck" 592 ((.ref 295)),dE P "hopeless_shares" 598 ((.ref 300)),dE P "strike" 606 ((.ref 307)),dE P "picked" 612 ((.ref 312)),dE P "slim_plan" 618 ((.ref 317)),dE P "spread" 630 ((.ref 324)),dE P "least_meeting" 636 ((.ref 329)),dE P "Struck" 697 ((.ref 365)),dE P "_law_whole" 706 ((.ref 376)),dE P "_law_wholes" 712 ((.ref 381)),dE P "_law_pool" 722 ((.ref 388)),dE P "_law_draw" 733 ((.ref 395)),dE P "_law_times" 739 ((.ref 400)),dE P "_law_bounds" 756 ((.ref 407)),dE P "_law_rows" 773 ((.ref 414)),dE P "_law_small" 792 ((.ref 421)),dE P "_law_far" 798 ((.ref 426)),dE P "_law_plan_is" 808 ((.ref 433)),dE P "_law_fields" 814 ((.ref 438)),dE P "_law_givens" 820 ((.ref 443)),dE P "_law_window" 826 ((.ref 448)),dE P "_law_rays" 832 ((.ref 453)),dE P "_law_goes" 838 ((.ref 458)),dE P "_law_back" 844 ((.ref 463)),dE P "law" 850 ((.ref 468))] 65),#[]⟩) ::
(nat_lit 20,cO "_wall" 187 "_wall" 188 189 1 1 3 15 181 16 (.ref 17) (.ref 18) 19 191 192) ::
 (nat_lit 21,fO yo "_wall" "_wall" "__main__" 164 20) ::
(nat_lit 52,cO "common_of_two" 232 "common_of_two" 233 234 10 2 3 47 181 48 (.ref 49) (.ref 50) 51 240 241) ::
 (nat_lit 53,fO nZ "common_of_two" "common_of_two" "cutyard.wholes" 230 52) ::
(nat_lit 59,cO "common" 243 "common" 244 245 18 1 3 54 181 55 (.ref 56) (.ref 57) 58 249 250) ::
 (nat_lit 60,fO nV "common" "common" "cutyard.wholes" 230 59) ::
(nat_lit 66,cO "up" 252 "up" 253 254 23 2 3 61 181 62 (.ref 63) (.ref 64) 65 257 258) ::
 (nat_lit 67,fO pb "up" "up" "cutyard.wholes" 230 66) ::
(nat_lit 71,cO "unit" 262 "unit" 263 264 28 2 3 68 181 69 .none .none 70 265 266) ::
 (nat_lit 72,fO lP "unit" "unit" "cutyard.rows" 260 71) ::
(nat_lit 76,cO "left" 268 "left" 269 270 30 2 3 73 181 74 .none .none 75 271 272) ::
 (nat_lit 77,fO la "left" "left" "cutyard.rows" 260 76) ::
(nat_lit 81,cO "turned" 274 "turned" 275 276 32 1 3 78 181 79 .none .none 80 277 278) ::
 (nat_lit 82,fO kL "turned" "turned" "cutyard.rows" 260 81) ::
(nat_lit 86,cO "evened" 280 "evened" 281 282 34 1 3 83 181 84 .none .none 85 283 284) ::
 (nat_lit 87,fO k7 "evened" "evened" "cutyard.rows" 260 86) ::
(nat_lit 91,cO "givens" 288 "givens" 289 290 40 1 3 88 181 89 .none .none 90 291 292) ::
 (nat_lit 92,fO jN "givens" "givens" "cutyard.plans" 286 91) ::
(nat_lit 96,cO "without" 296 "without" 297 298 47 2 3 93 181 94 .none .none 95 299 300) ::
 (nat_lit 97,fO k6 "without" "without" "cutyard.ledger" 294 96) ::
(nat_lit 101,cO "only_unknown" 302 "only_unknown" 303 304 49 1 3 98 181 99 .none .none 100 305 306) ::
 (nat_lit 102,fO l0 "only_unknown" "only_unknown" "cutyard.ledger" 294 101) ::
(nat_lit 108,cO "first_most_marks" 308 "first_most_marks" 309 310 51 1 3 103 181 104 (.ref 105) (.ref 106) 107 315 316) ::
 (nat_lit 109,fO oZ "first_most_marks" "first_most_marks" "cutyard.ledger" 294 108) ::
(nat_lit 122,cO "__init__" 330 "Ledger.__init__" 331 332 63 2 3 117 181 118 (.ref 119) (.ref 120) 121 335 336) ::
 (nat_lit 123,fO pQ "__init__" "Ledger.__init__" "cutyard.ledger" 294 122) ::
(nat_lit 129,cO "put_line" 338 "Ledger.put_line" 339 340 77 3 3 124 181 125 (.ref 126) (.ref 127) 128 344 345) ::
 (nat_lit 130,fO ny "put_line" "Ledger.put_line" "cutyard.ledger" 294 129) ::
(nat_lit 136,cO "drop_row" 347 "Ledger.drop_row" 348 349 81 2 3 131 181 132 (.ref 133) (.ref 134) 135 352 353) ::
 (nat_lit 137,fO nh "drop_row" "Ledger.drop_row" "cutyard.ledger" 294 136) ::
(nat_lit 143,cO "turn_to_bound" 355 "Ledger.turn_to_bound" 356 357 85 2 3 138 181 139 (.ref 140) (.ref 141) 142 366 367) ::
 (nat_lit 144,fO pO "turn_to_bound" "Ledger.turn_to_bound" "cutyard.ledger" 294 143) ::
(nat_lit 150,cO "even_row" 369 "Ledger.even_row" 370 371 100 2 3 145 181 146 (.ref 147) (.ref 148) 149 375 376) ::
 (nat_lit 151,fO mW "even_row" "Ledger.even_row" "cutyard.ledger" 294 150) ::
(nat_lit 157,cO "bound_share" 378 "Ledger.bound_share" 379 380 105 3 3 152 181 153 (.ref 154) (.ref 155) 156 384 385) ::
 (nat_lit 158,fO nt "bound_share" "Ledger.bound_share" "cutyard.ledger" 294 157) ::
(nat_lit 164,cO "fix" 387 "Ledger.fix" 388 389 110 3 3 159 181 160 (.ref 161) (.ref 162) 163 398 399) ::
 (nat_lit 165,fO mH "fix" "Ledger.fix" "cutyard.ledger" 294 164) ::
(nat_lit 169,cO "hang" 401 "Ledger.hang" 402 403 124 2 3 166 181 167 .none .none 168 404 405) ::
 (nat_lit 170,fO ka "hang" "Ledger.hang" "cutyard.ledger" 294 169) ::
(nat_lit 176,cO "let_go" 407 "Ledger.let_go" 408 409 130 4 3 171 181 172 (.ref 173) (.ref 174) 175 414 415) ::
 (nat_lit 177,fO mE "let_go" "Ledger.let_go" "cutyard.ledger" 294 176) ::
 (nat_lit 178,⟨(.type "tuple"),none,(.seq #[(.str "bounds" 417),(.str "extra" 418),(.str "goal" 419),(.str "goal_shares" 420),(.str "gone" 421),(.str "least_marks" 422),(.str "lines" 423),(.str "most_marks" 424),(.str "row_marks" 425),(.str "rows" 426),(.str "staying" 427),(.str "told" 428)] 0),#[]⟩) ::
 (nat_lit 179,⟨(.type "dict"),none,(.dict #[dE P "__module__" 325 ((.str "cutyard.ledger" 294)),dE P "__firstlineno__" 329 ((.int 61 328)),dE P "__init__" 337 ((.ref 123)),dE P "put_line" 346 ((.ref 130)),dE P "drop_row" 354 ((.ref 137)),dE P "turn_to_bound" 368 ((.ref 144)),dE P "even_row" 377 ((.ref 151)),dE P "bound_share" 386 ((.ref 158)),dE P "fix" 400 ((.ref 165)),dE P "hang" 406 ((.ref 170)),dE P "let_go" 416 ((.ref 177)),dE P "__static_attributes__" 429 ((.ref 178)),dE P "__dict__" 431 ((.ref 181)),dE P "__weakref__" 433 ((.ref 182)),dE P "__doc__" 434 (.none)] 4),#[]⟩) ::
 (nat_lit 180,⟨(.type "type"),none,(.cls ⟨"Ledger",[(.type "object")],[(.ref 180),(.type "object")],179,"Ledger",true,[],[],false,none,false⟩),#[none,none,(some (.str "Ledger" 318)),(some (.str "Ledger" 326)),(some (.builtin "object.__new__")),(some (.bool true))]⟩) ::
 (nat_lit 181,⟨(.type "getset_descriptor"),none,(.fields #[(.str "__dict__" 430),(.ref 180),(.builtin "function.__dict__"),(.builtin "function.__dict__#set")]),#[]⟩) ::
 (nat_lit 182,⟨(.type "getset_descriptor"),none,(.fields #[(.str "__weakref__" 432),(.ref 180),(.builtin "ExceptionGroup.__weakref__"),.none]),#[]⟩) ::
(nat_lit 190,cO "is_crossed" 439 "is_crossed" 440 441 134 1 3 185 181 186 (.ref 187) (.ref 188) 189 443 444) ::
 (nat_lit 191,fO oq "is_crossed" "is_crossed" "cutyard.rules" 437 190) ::
(nat_lit 197,cO "greatest_sum" 446 "greatest_sum" 447 448 136 2 3 192 181 193 (.ref 194) (.ref 195) 196 454 455) ::
 (nat_lit 198,fO mR "greatest_sum" "greatest_sum" "cutyard.rules" 437 197) ::
(nat_lit 202,cO "least_sum" 457 "least_sum" 458 459 146 2 3 199 181 200 .none .none 201 460 461) ::
 (nat_lit 203,fO kX "least_sum" "least_sum" "cutyard.rules" 437 202) ::
(nat_lit 209,cO "crossed_unknown" 463 "crossed_unknown" 464 465 149 2 3 204 181 205 (.ref 206) (.ref 207) 208 469 470) ::
 (nat_lit 210,fO pE "crossed_unknown" "crossed_unknown" "cutyard.rules" 437 209) ::
(nat_lit 216,cO "hopeless_row" 472 "hopeless_row" 473 474 154 2 3 211 181 212 (.ref 213) (.ref 214) 215 480 481) ::
 (nat_lit 217,fO oz "hopeless_row" "hopeless_row" "cutyard.rules" 437 216) ::
(nat_lit 223,cO "idle_row" 483 "idle_row" 484 485 160 2 3 218 181 219 (.ref 220) (.ref 221) 222 491 492) ::
 (nat_lit 224,fO og "idle_row" "idle_row" "cutyard.rules" 437 223) ::
(nat_lit 228,cO "single_row" 494 "single_row" 495 496 166 1 3 225 181 226 .none .none 227 497 498) ::
 (nat_lit 229,fO kS "single_row" "single_row" "cutyard.rules" 437 228) ::
(nat_lit 235,cO "uneven_row" 500 "uneven_row" 501 502 171 1 3 230 181 231 (.ref 232) (.ref 233) 234 506 507) ::
 (nat_lit 236,fO nv "uneven_row" "uneven_row" "cutyard.rules" 437 235) ::
(nat_lit 242,cO "doubled_row" 509 "doubled_row" 510 511 176 1 3 237 181 238 (.ref 239) (.ref 240) 241 517 518) ::
 (nat_lit 243,fO mP "doubled_row" "doubled_row" "cutyard.rules" 437 242) ::
(nat_lit 249,cO "fixed_unknown" 520 "fixed_unknown" 521 522 184 2 3 244 181 245 (.ref 246) (.ref 247) 248 526 527) ::
 (nat_lit 250,fO mX "fixed_unknown" "fixed_unknown" "cutyard.rules" 437 249) ::
(nat_lit 254,cO "has_above" 529 "has_above" 530 531 189 2 3 251 181 252 .none .none 253 532 533) ::
 (nat_lit 255,fO lW "has_above" "has_above" "cutyard.rules" 437 254) ::
(nat_lit 259,cO "has_below" 535 "has_below" 536 537 191 2 3 256 181 257 .none .none 258 538 539) ::
 (nat_lit 260,fO lV "has_below" "has_below" "cutyard.rules" 437 259) ::
(nat_lit 266,cO "sinking_unknown" 541 "sinking_unknown" 542 543 193 4 3 261 181 262 (.ref 263) (.ref 264) 265 549 550) ::
 (nat_lit 267,fO pz "sinking_unknown" "sinking_unknown" "cutyard.rules" 437 266) ::
(nat_lit 273,cO "rising_unknown" 552 "rising_unknown" 553 554 198 4 3 268 181 269 (.ref 270) (.ref 271) 272 561 562) ::
 (nat_lit 274,fO pC "rising_unknown" "rising_unknown" "cutyard.rules" 437 273) ::
(nat_lit 280,cO "hanging_unknown" 564 "hanging_unknown" 565 566 204 4 3 275 181 276 (.ref 277) (.ref 278) 279 572 573) ::
 (nat_lit 281,fO pG "hanging_unknown" "hanging_unknown" "cutyard.rules" 437 280) ::
(nat_lit 287,cO "row_struck" 577 "row_struck" 578 579 210 1 3 282 181 283 (.ref 284) (.ref 285) 286 582 583) ::
 (nat_lit 288,fO nz "row_struck" "row_struck" "cutyard.strikes" 575 287) ::
(nat_lit 294,cO "unknown_struck" 585 "unknown_struck" 586 587 228 1 3 289 181 290 (.ref 291) (.ref 292) 293 590 591) ::
 (nat_lit 295,fO ox "unknown_struck" "unknown_struck" "cutyard.strikes" 575 294) ::
(nat_lit 299,cO "hopeless_shares" 593 "hopeless_shares" 594 595 244 1 3 296 181 297 .none .none 298 596 597) ::
 (nat_lit 300,fO kK "hopeless_shares" "hopeless_shares" "cutyard.strikes" 575 299) ::
(nat_lit 306,cO "strike" 599 "strike" 600 601 254 1 3 301 181 302 (.ref 303) (.ref 304) 305 604 605) ::
 (nat_lit 307,fO mG "strike" "strike" "cutyard.strikes" 575 306) ::
(nat_lit 311,cO "picked" 607 "picked" 608 609 259 2 3 308 181 309 .none .none 310 610 611) ::
 (nat_lit 312,fO kQ "picked" "picked" "cutyard.strikes" 575 311) ::
(nat_lit 316,cO "slim_plan" 613 "slim_plan" 614 615 261 1 3 313 181 314 .none .none 315 616 617) ::
 (nat_lit 317,fO l9 "slim_plan" "slim_plan" "cutyard.strikes" 575 316) ::
(nat_lit 323,cO "spread" 619 "spread" 620 621 264 3 3 318 181 319 (.ref 320) (.ref 321) 322 628 629) ::
 (nat_lit 324,fO n6 "spread" "spread" "cutyard.strikes" 575 323) ::
(nat_lit 328,cO "least_meeting" 631 "least_meeting" 632 633 269 4 3 325 181 326 .none .none 327 634 635) ::
 (nat_lit 329,fO l8 "least_meeting" "least_meeting" "cutyard.strikes" 575 328) ::
(nat_lit 342,cO "__init__" 649 "Struck.__init__" 650 651 274 2 3 337 181 338 (.ref 339) (.ref 340) 341 657 658) ::
 (nat_lit 343,fO oa "__init__" "Struck.__init__" "cutyard.strikes" 575 342) ::
(nat_lit 349,cO "point_back" 660 "Struck.point_back" 661 662 293 2 3 344 181 345 (.ref 346) (.ref 347) 348 665 666) ::
 (nat_lit 350,fO zx "point_back" "Struck.point_back" "cutyard.strikes" 575 349) ::
(nat_lit 354,cO "ray_back" 668 "Struck.ray_back" 669 670 296 2 3 351 181 352 .none .none 353 671 672) ::
 (nat_lit 355,fO mv "ray_back" "Struck.ray_back" "cutyard.strikes" 575 354) ::
(nat_lit 361,cO "paper_back" 674 "Struck.paper_back" 675 676 303 3 3 356 181 357 (.ref 358) (.ref 359) 360 680 681) ::
 (nat_lit 362,fO AO "paper_back" "Struck.paper_back" "cutyard.strikes" 575 361) ::
 (nat_lit 363,⟨(.type "tuple"),none,(.seq #[(.str "breadth" 683),(.str "extra" 684),(.str "kept" 685),(.str "kind" 686),(.str "ledger" 687),(.str "paper" 688),(.str "slim" 689)] 0),#[]⟩) ::
 (nat_lit 364,⟨(.type "dict"),none,(.dict #[dE P "__module__" 644 ((.str "cutyard.strikes" 575)),dE P "__firstlineno__" 648 ((.int 272 647)),dE P "__init__" 659 ((.ref 343)),dE P "point_back" 667 ((.ref 350)),dE P "ray_back" 673 ((.ref 355)),dE P "paper_back" 682 ((.ref 362)),dE P "__static_attributes__" 690 ((.ref 363)),dE P "__dict__" 692 ((.ref 366)),dE P "__weakref__" 694 ((.ref 367)),dE P "__doc__" 695 (.none)] 4),#[]⟩) ::
 (nat_lit 365,⟨(.type "type"),none,(.cls ⟨"Struck",[(.type "object")],[(.ref 365),(.type "object")],364,"Struck",true,[],[],false,none,false⟩),#[none,none,(some (.str "Struck" 637)),(some (.str "Struck" 645)),(some (.builtin "object.__new__")),(some (.bool true))]⟩) ::
 (nat_lit 366,⟨(.type "getset_descriptor"),none,(.fields #[(.str "__dict__" 691),(.ref 365),(.builtin "function.__dict__"),(.builtin "function.__dict__#set")]),#[]⟩) ::
 (nat_lit 367,⟨(.type "getset_descriptor"),none,(.fields #[(.str "__weakref__" 693),(.ref 365),(.builtin "ExceptionGroup.__weakref__"),.none]),#[]⟩) ::
(nat_lit 375,cO "_law_whole" 700 "_law_whole" 701 702 306 1 3 370 181 371 (.ref 372) (.ref 373) 374 704 705) ::
 (nat_lit 376,fO nu "_law_whole" "_law_whole" "law_cutyard_k31_rays_back" 698 375) ::
(nat_lit 380,cO "_law_wholes" 707 "_law_wholes" 708 709 308 2 3 377 181 378 .none .none 379 710 711) ::
 (nat_lit 381,fO kP "_law_wholes" "_law_wholes" "law_cutyard_k31_rays_back" 698 380) ::
(nat_lit 387,cO "_law_pool" 713 "_law_pool" 714 715 310 1 3 382 181 383 (.ref 384) (.ref 385) 386 720 721) ::
 (nat_lit 388,fO oY "_law_pool" "_law_pool" "law_cutyard_k31_rays_back" 698 387) ::
(nat_lit 394,cO "_law_draw" 723 "_law_draw" 724 725 318 2 3 389 181 390 (.ref 391) (.ref 392) 393 731 732) ::
 (nat_lit 395,fO mL "_law_draw" "_law_draw" "law_cutyard_k31_rays_back" 698 394) ::
(nat_lit 399,cO "_law_times" 734 "_law_times" 735 736 327 2 3 396 181 397 .none .none 398 737 738) ::
 (nat_lit 400,fO mq "_law_times" "_law_times" "law_cutyard_k31_rays_back" 698 399) ::
(nat_lit 406,cO "_law_bounds" 740 "_law_bounds" 741 742 329 3 3 401 181 402 (.ref 403) (.ref 404) 405 754 755) ::
 (nat_lit 407,fO nc "_law_bounds" "_law_bounds" "law_cutyard_k31_rays_back" 698 406) ::
(nat_lit 413,cO "_law_rows" 757 "_law_rows" 758 759 349 4 3 408 181 409 (.ref 410) (.ref 411) 412 771 772) ::
 (nat_lit 414,fO pI "_law_rows" "_law_rows" "law_cutyard_k31_rays_back" 698 413) ::
(nat_lit 420,cO "_law_small" 774 "_law_small" 775 776 366 4 3 415 181 416 (.ref 417) (.ref 418) 419 790 791) ::
 (nat_lit 421,fO mI "_law_small" "_law_small" "law_cutyard_k31_rays_back" 698 420) ::
(nat_lit 425,cO "_law_far" 793 "_law_far" 794 795 381 3 3 422 181 423 .none .none 424 796 797) ::
 (nat_lit 426,fO ju "_law_far" "_law_far" "law_cutyard_k31_rays_back" 698 425) ::
(nat_lit 432,cO "_law_plan_is" 799 "_law_plan_is" 800 801 397 2 3 427 181 428 (.ref 429) (.ref 430) 431 806 807) ::
 (nat_lit 433,fO oU "_law_plan_is" "_law_plan_is" "law_cutyard_k31_rays_back" 698 432) ::
(nat_lit 437,cO "_law_fields" 809 "_law_fields" 810 811 411 2 3 434 181 435 .none .none 436 812 813) ::
 (nat_lit 438,fO lN "_law_fields" "_law_fields" "law_cutyard_k31_rays_back" 698 437) ::
(nat_lit 442,cO "_law_givens" 815 "_law_givens" 816 817 420 1 3 439 181 440 .none .none 441 818 819) ::
 (nat_lit 443,fO ky "_law_givens" "_law_givens" "law_cutyard_k31_rays_back" 698 442) ::
(nat_lit 447,cO "_law_window" 821 "_law_window" 822 823 429 2 3 444 181 445 .none .none 446 824 825) ::
 (nat_lit 448,fO lU "_law_window" "_law_window" "law_cutyard_k31_rays_back" 698 447) ::
(nat_lit 452,cO "_law_rays" 827 "_law_rays" 828 829 440 1 3 449 181 450 .none .none 451 830 831) ::
 (nat_lit 453,fO kB "_law_rays" "_law_rays" "law_cutyard_k31_rays_back" 698 452) ::
(nat_lit 457,cO "_law_goes" 833 "_law_goes" 834 835 447 2 3 454 181 455 .none .none 456 836 837) ::
 (nat_lit 458,fO kT "_law_goes" "_law_goes" "law_cutyard_k31_rays_back" 698 457) ::
(nat_lit 462,cO "_law_back" 839 "_law_back" 840 841 449 4 3 459 181 460 .none .none 461 842 843) ::
 (nat_lit 463,fO kH "_law_back" "_law_back" "law_cutyard_k31_rays_back" 698 462) ::
(nat_lit 467,cO "law" 845 "law" 846 847 455 1 3 464 181 465 .none .none 466 848 849) ::
 (nat_lit 468,fO lj "law" "law" "law_cutyard_k31_rays_back" 698 467)::[]
end Kx
noncomputable def PySem.W.Fast.tw7891359684741379855:=PySem.Challenge.pw_cutyard_k31_rays_back
theorem PySem.W.Fast.te7891359684741379855:PySem.Challenge.pw_cutyard_k31_rays_back=PySem.W.Fast.tw7891359684741379855:=rfl
noncomputable def PySem.W.Fast.tw5385739360559341639:=Kx.KK
theorem PySem.W.Fast.te5385739360559341639:Kx.KK=PySem.W.Fast.tw5385739360559341639:=rfl
structure PySem.W.Fast:Prop where(tw10034578810394096620 tw10082040907044115067 tw1010538622081815606 tw1020458406515065791 tw10208934891185396587 tw10281545171570309250 tw10285114526303880834 tw1033932766188078602 tw10361410841681715286 tw10470433580554952254 tw10507563144134340857 tw10535731534046064667 tw10548601523738690204 tw10576092839228187682 tw10593611817665674906 tw10596005223920584340 tw10805438201626323142 tw10889545419155322326 tw10939757758241214091 tw11045078155147584907 tw11086718242479054809 tw11147041021767053858 tw11166115134906417969 tw11261376991053609668 tw11286891029451357128 tw11409132043297649117 tw11501851746937026214 tw11807785947996811612 tw11821095758514802649 tw11960714536520497005 tw12007050261493633476 tw12026377854922282394 tw12044709099037553428 tw12165845889636814980 tw12178291021480445024 tw12197629789614185818 tw12208447283754961184 tw12338410424331826156 tw12368567289709766346 tw12570597777539548618 tw12596001593271282778 tw12665873019194487519 tw12814558216210531857 tw12827335086506797595 tw12998468670173188666 tw13018097984900484732 tw13081342403685165516 tw13088092454675897078 tw13100856162588061819 tw13104377409789788866 tw13194094023649426774 tw13198006465371526046 tw1326697338672226699 tw13478482065957119811 tw13520940673625837585 tw13554614203046912115 tw13608686841745246870 tw1361813839020457065 tw13688799487199633549 tw13775214040118644108 tw13871163032324111582 tw13880633750900037303 tw13948166496333109557 tw14050581911189577853 tw14068557356625625961 tw14093527076486436365 tw14102537160629821031 tw14109601625354592596 tw14157926083026862767 tw14164931886391368300 tw14269712313557088721 tw14286628115480475684 tw14293643911139388235 tw14302892149896652820 tw14454564050453127264 tw1446487613473556340 tw14511631291517898266 tw14571741578265962760 tw14673304570577849481 tw14734926055042686421 tw14803545412649314473 tw14915277770713419690 tw14980934313064727834 tw15050939030148204673 tw15055907998206142477 tw1509360165876093928 tw153269544071782214 tw15342463021042897834 tw15358963252576924889 tw15365767579259485699 tw1551577960874432341 tw15541156902955757589 tw15544073589759268118 tw15553281010968544275 tw15559480949822082497 tw1566021545620546345 tw15810678318912096357 tw158484784954331616 tw15850064948820329017 tw15879154146357232099 tw15963468477098243102 tw15988419931814686534 tw16014512376632241117 tw1602917651087138772 tw16143501765425799468 tw16174418499601121593 tw16193351913475718061 tw1620439604591704843 tw16406389861222551583 tw16434404219839132009 tw16487307508535637104 tw16510551508377457737 tw1652736616470110278 tw16627104469505051594 tw16658887830014128692 tw16796424300103049983 tw16834313005588238559 tw17063773325634064260 tw17084574941758131549 tw17087119256369644128 tw17090288059456792284 tw17103095611805102565 tw17253024553815201685 tw17354698792352275261 tw17411862147520971422 tw17427567256464946353 tw17451834679369010657 tw17473218750853244374 tw1748561967797207158 tw17499533255049077435 tw17503045850331180214 tw17519171125564679975 tw17521552713692631385 tw17629910295180632955 tw17629995265504327389 tw17633895186477579807 tw17638653334716281524 tw17642786005748057851 tw17642990954583465173 tw17648846397412015103 tw17685429238828220276 tw1772352027732768857 tw17826021500231643524 tw17873864358318009279 tw17875981580172207599 tw17904141464050995080 tw17915167591571113887 tw18031022762511499552 tw18039430777555716120 tw18060157652201881362 tw18070844462132213879 tw18089760831791734565 tw18148521104423748914 tw18197935508675032564 tw1827339212418650964 tw18275135172805734669 tw18387151673504079834 tw1870862750937879252 tw1995373877726806500 tw2089540797335373085 tw2100894830304010565 tw2101233473865928607 tw2252506069846743134 tw2277260937909939215 tw228089809146865638 tw2281465062944108639 tw2496916592607220284 tw25402774812034753 tw2543265046067345320 tw2567559988428895773 tw2574441048757562499 tw2712820141558644964 tw2788750603130795477 tw2814121916945633559 tw2883364977393837932 tw2902510880672556302 tw2917019501885119161 tw2920504416281077777 tw295088599128810831 tw2968711390699111717 tw3161692345160728454 tw3220657567597776500 tw3426880259939557508 tw3442630130038622829 tw3558454434497783093 tw3619502073759585316 tw3740439235753759246 tw3742003692090217429 tw3746176643348945590 tw3860689348131123506 tw3984237200106767553 tw4147273511170526928 tw4351410494126792201 tw4393493695983499103 tw4403229570009208642 tw4573396692170121696 tw4584930811345811587 tw4695056546380877171 tw4718163584138246218 tw4735631792025986126 tw4756848312943182966 tw4777024292309342836 tw4809172693130659315 tw4874431452763452271 tw5026736281083822036 tw5037203865679167011 tw5144853078533313898 tw521943963320387860 tw5226134865716648692 tw527209004556593334 tw5279994591667958417 tw542726260837544064 tw5502846852015017151 tw5528306123743528796 tw5558851002688948835 tw5634532516750551173 tw5637820157740712842 tw564864148233885580 tw5734306135455802177 tw5806231097178047962 tw5831790271608000421 tw5906310744498711853 tw5934720123966197741 tw5979021619503967552 tw6125746208311579410 tw6179119596704618145 tw6217901725051663517 tw6274058521865448179 tw6304296732379260583 tw6383853856649505927 tw6388019796745204359 tw6446977130011246132 tw6458704909780877262 tw6492006317960357581 tw653425451373082013 tw6572934848014477152 tw6612015126799555087 tw6705003072752959862 tw6855006411778428332 tw6904859962859817731 tw697358116437304960 tw7059636974705298926 tw7104903432286004516 tw7150484595654607514 tw7225881016829190874 tw7422627372628920935 tw7433641828150421061 tw7445192565286210179 tw7448208213180785321 tw7490553001510396497 tw7513732684467000241 tw7523429640619929613 tw7588737140443731697 tw7602117555543402200 tw7602955848141283604 tw7645725089675302155 tw7690374727218825167 tw7755374383978284931 tw789955783524306183 tw8001779815433604935 tw8054808968701188863 tw8207078034755458941 tw8210204264167759453 tw839377364036700701 tw841523079012180477 tw8423313336723709653 tw8442843969957190274 tw8496222255984540056 tw8602672700450445093 tw8619028710089300782 tw8764540940303051632 tw8772377113755485603 tw8871581572550854602 tw8993484511032405783 tw9046713946352982181 tw9203731397240687817 tw9235498772750446293 tw928161818359212266 tw9313179381343483380 tw940005826506659460 tw9478476487848634836 tw9511343071992859247 tw9529314543405474786 tw9596351418058623365 tw9658921078302454425 tw9842451156308627381 tw9856271769682414988 tw9879716968779152525 tw9899592865551688450 tw9958805938307737931:True)
open PySem PySem.W PyProof.Rows
set_option maxRecDepth 100000 in
set_option maxHeartbeats 0 in
theorem PySem.Challenge.cw_cutyard_k31_rays_back_holds : PySem.Challenge.rw_cutyard_k31_rays_back.Holds := by
 w_on;o_law;o_head (kHook Kx.KK (2::3::20::21::52::53::59::60::66::67::71::72::76::77::81::82::86::87::91::92::96::97::101::102::108::109::122::123::129::130::136::137::143::144::150::151::157::158::164::165::169::170::176::177::178::179::180::181::182::190::191::197::198::202::203::209::210::216::217::223::224::228::229::235::236::242::243::249::250::254::255::259::260::266::267::273::274::280::281::287::288::294::295::299::300::306::307::311::312::316::317::323::324::328::329::342::343::349::350::354::355::361::362::363::364::365::366::367::375::376::380::381::387::388::394::395::399::400::406::407::413::414::420::421::425::426::432::433::437::438::442::443::447::448::452::453::457::458::462::463::467::468::[]) (λ_=>by kernel_rfl));(case hw=>w_witness2)
 k_fill
 refine Kx.walk (l:=PySem.Challenge.rw_cutyard_k31_rays_back) rfl rfl (by decide +kernel) (λw h Y=>kIn_of Y) (λw=>⟨?N1,?N2⟩) ?F
 (case N1=>k_is);(case N2=>k_is)
 case F=>
  intro w mg fa h KX G Se;refine' Kx.all_mk KX G Se ?OQ ?OR ?_ ?_ ?_ ?_ ?_ ?_ ?_ ?_ ?_ ?_ ?_ ?_ ?_ ?_ ?_ ?_ ?_ ?_ ?_ ?_ ?_ ?_ ?_ ?_ ?_ ?_ ?_ ?_ ?_ ?_ ?_ ?_ ?_ ?_ ?_ ?_ ?_ ?_ ?_ ?_ ?_ ?_ ?_ ?_ ?_ ?_ ?_ ?_ ?_ ?_ ?_ ?_ ?_ ?_ ?_ ?_ ?_ ?_ ?_ ?_ ?_ ?_ ?_ ?_ ?_ ?_ ?_ ?_ ?_ ?_ ?_ ?_ ?_ ?_ ?_ ?_ ?_ ?_ ?_ ?_ ?_ ?_ ?_ ?_ ?_ ?_ ?_ ?_ ?_ ?_ ?_ ?_ ?_ ?_ ?_ ?_ ?_ ?_ ?_ ?_ ?_ ?_ ?_ ?_ ?_ ?_ ?_ ?_ ?_
  (case OQ=>k_is)
  (case OR=>k_is)
  all_goals first|(refine' L2.Has.of ?a ?l ?c;(case a=>k_is);(case l=>k_is);(case c=>k_is))|(refine' L2.HasM.of ?a ?i ?l ?c ?k;(case a=>k_is);(case i=>k_is);(case l=>k_is);(case c=>k_is);(case k=>k_is))|k_is

